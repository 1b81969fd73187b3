import PyProof.Rows.All
import Wide.All
import OpenK.AllK
import Wide.FinOn
import Lean
import PyProof.EqAt
import PyProof.EqKinds
import PyProof.TupleCall
import PyProof.NeKinds
import PyProof.StrWalks
import PyProof.ListStr
import PyProof.StrOps2
import PyProof.StrLawsIn
import KE.KDictOf
import PyProof.AttrMissHeap
import PyProof.Draws
import PyProof.EnumMake
import PyProof.Rows.EnumRows
import PyProof.LongRange
import PyProof.NoPylong
import PyProof.SeqI3
import PyProof.Rows.SeqCalls
import PyProof.StrLawsChain
import PyProof.StrCalls2
import KE.KIntText
import PyProof.Rows.CallKwBuiltin
import OpenK.KOwn
import OpenK.KRaise
import PyProof.ExcBaseAll.ValueError
import PyProof.Rows.CatchOwn
import KE.KIsAll
import PyProof.ExcArgsOwn
import PyProof.ExcAttrAll.ValueError
import PyProof.Rows.SeqMore2
import PyProof.ListMulAny
import PyProof.ListMulRoad
import PyProof.ZipIter
import PyProof.Rows.FactsT2
import PyProof.ExcInit
import PyProof.InstStoreFacts
import PyProof.StrCalls
import PyProof.FactsAll.dict_1
import PyProof.FactsAll.subtypes_3
import PyProof.FactsAll.subtypes_4
import PyProof.Dict
import PyProof.MinMaxWalk
import PyProof.WalkInts
import PyProof.WalksMore
import PyProof.FactsAll.tuple_2
import PySem.Challenge.RW_tilegrow_k14_first_places
open PySem.W renaming Frag→W0,mg_none_of→WK,kitOne→WV,kia_one→WW,keepIn→Qa,fnOf→Qr,kitOne→Qu,hideAll_none→Qv,hideAll_get→QB,findIn→QS,hideAll→J9,cellsFrom_some→Jg,of_hideAll→Jv,findIn→JB,excIn→JM
open PySem renaming wpAny_bind→W1,Shared→W2,sizeLine→W3,starEach→W7,wpAny_pure→W8,wpAny→W9,Program→Wj,Spec→Wm,mainGlobals→Wn,Around→Wo,World→Wp,mem_of_lookup→Wu,compareOp→WA,FuncData→WD,wpAny_mono→WL,wpAny_newObj_type→WN,backTo→WT,cLine→WX,wpAny_holding→Q3,wpAny_loadPart'→Q5,assignEach→Q8,wpAny_loadPart_at→Qc,bootBuiltins→Qg,binaryOp→Qh,behindInMarks→Qj,foldedSetIterable→Ql,cellsFrom→Qm,argBest→Qp,attributeBase→Qt,wpAny_truthy_bool→Qy,codeAny→Qz,wpAny_callSpecial?_slot→QA,wpAny_field→QE,wpAny_Call_Name_kw→QG,wpAny_passesOwn→QI,wpAny_pyIter_enum→QR,sysModules→QT,swapsWith→QW,keywordEach→QX,wpAny_typeOf→J0,plainId_quiet→J5,wpAny_execs_nil→Ja,tupleKind_room_in1→Jb,wpAny_pyIter_tuple→Jc,codeAny_builtin→Jd,wpAny_call_entry→Jm,getItem→Jp,sliceBounds→Jq,codeAny_mono→Jw,backToKw→Jx,pushCells→Jy,getattributeRaised→Jz,typeIs_int→JC,call_meets→JD,wpAny_rule→JE,wpAny_tryCatch→JF,wpAny_seqItems→JG,sizeLine_eq→JK,strIterType→JL
open List renaming getElem?_set_ne→W4,range→Wa,getElem?_eq_some_iff→Wb,replicate→Wd,mem_cons_of_mem→We,mem_cons→Wf,mem_cons_self→Wh,size_toArray→Wk,getElem?_set_self→Wl,map_cons→Wr,mem_of_getElem?→Wv,getElem?_eq_getElem→Ww,mem_append_right→Wz,getElem?_map→WB,mem_map_of_mem→WC,append_nil→WG,getElem?_set→WH,length_cons→WM,getElem?_eq_none→WS,length_append→WY,find?_cons→WZ,replicate_succ→Q2,foldl_cons→Q6,mem_filterMap→Q7,lookup_cons→Q9,all_eq_true→Qi,mem_range→Qk,length_map→Qn,length_set→Qo,nil_append→Qw,mem_map→Qx,getElem_mem→QC,mem_append→QH,nodup_cons→QJ,any_cons→QM,getD_eq_getElem?_getD→QO,flatten_cons→QP,getElem?_append_left→QU,length_take→QZ,filterMap_cons→J1,map_congr_left→J3,range_succ→Je,length→Jh,map_map→Jj,mem_append_left→Jl,not_mem_nil→Jn,length_reverse→Js,getElem?_range→Jt,map_append→Ju,contains_cons→JA,length_range→JH,take_add_one→JJ,filter_cons→JN,of_mem_zip→JP,length_nil→JS,map_nil→JT
open PySem.Heap renaming get?_push_of_some→W5,lt_size→Wg,get?_push_size→Wq,get?_update_other→WQ,get?_update_self→QK,size_push→Ji
open Option.some renaming injEq→W6,inj→Wt
open Nat renaming le_refl→Wc,ne_of_lt→Ws,lt_of_lt_of_le→Wy,le_trans→WI,zero_add→Q0,pow_succ→Q1,mul_comm→Q4,zero_le→Qb,lt_irrefl→Qs,lt_succ_of_lt→QQ,div_lt_iff_lt_mul→Jk,mod_eq_of_lt→Jo,pow_pos→Jr,succ_ne_self→JO,succ_mul→JQ,add_comm→JR,mod_lt→JU
open Bool renaming and_eq_true→Wi,false_ne_true→WP,eq_false_iff→Qd,not_eq_true'→JI
open Option renaming map_eq_some_iff→Wx,bind_some→WE,map_some→WF,isSome_iff_exists→QY
open PySem.Builtin.Str renaming strSliceIndices→WJ,occurrences→J4
open PySem.Builtin.Slice renaming slicePlaces→WO,sliceAdjust→Qe,sliceApplied→QL
open PySem.Builtin.Tuple renaming tupleExact→WR
open PyProof.Rows renaming slot_tuple_getitem→WU,envOfC→Qq,callWith_type1→QF
open Int renaming natCast_mul→Qf,natCast_add→Jf
open PySem.F renaming plain_min_loop→QD,slot_tuple_iterator_next→QN
open PySem.Builtin.SmallTypes renaming nextOf→QV
set_option Elab.async false
set_option linter.all false
set_option maxRecDepth 100000
namespace L2
open PySem PySem.Spec PyProof.Rows
abbrev Key:=Sum Int Str
def z9x:Key→Value→Bool
 | .inl k,v=>Value.isInt k v
 | .inr x,v=>Value.isStrOf x v
def keyH (w:Wp):Key→Int
 | .inl k=>hashInt k
 | .inr x=>hashStr w x
theorem z11:∀ {k:Key} {v:Value},z9x k v=true→(∃ i t,k=Sum.inl i∧v=Value.int i t)∨(∃ x t,k=Sum.inr x∧v=Value.str x t)
 | .inl i,v,h=>by
  obtain ⟨t,e⟩:=Value.isInt_shape (k:=i) (v:=v) h
  exact .inl ⟨i,t,rfl,e⟩
 | .inr x,v,h=>by
  obtain ⟨t,e⟩:=Value.isStrOf_shape (x:=x) (v:=v) h
  exact .inr ⟨x,t,rfl,e⟩
theorem zaT (i:Int) (t:Tok):z9x (.inl i) (.int i t)=true:=by simp [z9x,Value.isInt]
theorem zaS (x:Str) (t:Tok):z9x (.inr x) (.str x t)=true:=by simp [z9x,Value.isStrOf]
theorem zfS (a b:Int):decide ((Sum.inl a:Key)=Sum.inl b)=(a == b):=by
 by_cases e:a=b
 ·subst e; simp
 ·have h:¬ (Sum.inl a:Key)=Sum.inl b:=fun q=>e (Sum.inl.inj q)
  rw [decide_eq_false h]
  exact (beq_eq_false_iff_ne.mpr e).symm
theorem zfP (a b:Str):decide ((Sum.inr a:Key)=Sum.inr b)=decide (a=b):=by
 by_cases e:a=b
 ·subst e; simp
 ·have h:¬ (Sum.inr a:Key)=Sum.inr b:=fun q=>e (Sum.inr.inj q)
  rw [decide_eq_false h,decide_eq_false e]
theorem zfR (a:Int) (b:Str):decide ((Sum.inl a:Key)=Sum.inr b)=false:=decide_eq_false (fun q=>nomatch q)
theorem zfQ (a:Str) (b:Int):decide ((Sum.inr a:Key)=Sum.inl b)=false:=decide_eq_false (fun q=>nomatch q)
def z17 (prog:Wj) (w:Wp):PySem.KeyKind prog w Key where
 is:=z9x
 hash:=keyH w
 inj:=fun v a b ha hb=>by
  rcases z11 ha with ⟨i,t,rfl,rfl⟩ | ⟨x,t,rfl,rfl⟩
  ·rcases z11 hb with ⟨j,u,rfl,e⟩ | ⟨y,u,rfl,e⟩
   ·injection e with e1 _; rw [e1]
   ·exact nomatch e
  ·rcases z11 hb with ⟨j,u,rfl,e⟩ | ⟨y,u,rfl,e⟩
   ·exact nomatch e
   ·injection e with e1 _; rw [e1]
 byValue:=fun k v h=>by
  rcases z11 h with ⟨i,t,rfl,rfl⟩ | ⟨x,t,rfl,rfl⟩ <;> rfl
 pyHash:=fun hv h=>by
  rcases z11 hv with ⟨i,t,rfl,rfl⟩ | ⟨x,t,rfl,rfl⟩
  ·exact wpAny_pyHash_int h
  ·exact wpAny_pyHash_str h
 eqBool:=fun hu hv h=>by
  rcases z11 hu with ⟨i,t,rfl,rfl⟩ | ⟨x,t,rfl,rfl⟩
  ·rcases z11 hv with ⟨j,u,rfl,rfl⟩ | ⟨y,u,rfl,rfl⟩
   ·rw [zfS] at h; exact wpAny_eqBool_int h
   ·rw [zfR] at h; exact SeqAt.EqAt.int_str i t y u _ _ _ _ h
  ·rcases z11 hv with ⟨j,u,rfl,rfl⟩ | ⟨y,u,rfl,rfl⟩
   ·rw [zfQ] at h; exact SeqAt.EqAt.str_int x t j u _ _ _ _ h
   ·rw [zfP] at h; exact wpAny_eqBool_str h
 «strs»:=fun k x t v h=>by
  rcases z11 h with ⟨i,u,rfl,e⟩ | ⟨y,u,rfl,e⟩
  ·exact nomatch e
  ·injection e with e1 _
   subst e1
   cases v <;> rfl
theorem z8c (prog:Wj) (w:Wp) (i:Int) (t:Tok):(z17 prog w).is (.inl i) (.int i t)=true:=zaT i t
theorem z8b (prog:Wj) (w:Wp) (x:Str) (t:Tok):(z17 prog w).is (.inr x) (.str x t)=true:=zaS x t
inductive V where
 | non | bl (b:Bool) | int (i:Int) | str (x:Str) | byt (b:Array UInt8) | flt (b:UInt64) | ref (a:Addr) | ty (n:String)
 deriving DecidableEq
def RelV:V→Value→Prop
 | .non,u=>u=Value.none
 | .bl b,u=>u=Value.bool b
 | .int i,u=>∃ t,u=Value.int i t
 | .str x,u=>∃ t,u=Value.str x t
 | .byt b,u=>∃ t,u=Value.bytes b t
 | .flt b,u=>∃ t,u=Value.float b t
 | .ref a,u=>u=Value.ref a
 | .ty n,u=>u=Value.type n
abbrev Vals:List V→List Value→Prop:=Paired RelV
theorem Vals.length (r:Vals xs us):xs.length=us.length:=Paired.length r
theorem Vals.get:∀ {xs:List V} {us:List Value} {i:Nat} {x:V},Vals xs us→xs[i]? = some x→∃ u,us[i]? = some u∧RelV x u
 | _,_,_,_,.nil,e=>by simp at e
 | _,_,0,_,.cons r _,e=>by simp at e; subst e; exact ⟨_,rfl,r⟩
 | _,_,i + 1,x,.cons _ t,e=>by
  obtain ⟨u,h1,h2⟩:=Vals.get (i:=i) (x:=x) t (by simpa using e)
  exact ⟨u,by simpa using h1,h2⟩
theorem Vals.set (r:RelV x u):∀ {xs:List V} {us:List Value} (i:Nat),Vals xs us→Vals (xs.set i x) (us.set i u)
 | _,_,_,.nil=>.nil
 | _,_,0,.cons _ t=>.cons r t
 | _,_,i + 1,.cons q t=>.cons q (Vals.set r i t)
theorem Vals.append:∀ {xs ys:List V} {us ws:List Value},Vals xs us→Vals ys ws→Vals (xs ++ ys) (us ++ ws)
 | _,_,_,_,.nil,s=>s
 | _,_,_,_,.cons r t,s=>.cons r (Vals.append t s)
theorem Vals.take:∀ {xs:List V} {us:List Value} (n:Nat),Vals xs us→Vals (xs.take n) (us.take n)
 | _,_,0,_=>.nil
 | _,_,_ + 1,.nil=>.nil
 | _,_,n + 1,.cons r t=>.cons r (Vals.take n t)
theorem Vals.drop:∀ {xs:List V} {us:List Value} (n:Nat),Vals xs us→Vals (xs.drop n) (us.drop n)
 | _,_,0,r=>r
 | _,_,_ + 1,.nil=>.nil
 | _,_,n + 1,.cons _ t=>Vals.drop n t
def RelO:Option V→Option Value→Prop
 | some v,some u=>RelV v u
 | none,none=>True
 | _,_=>False
def KV {κ:Type}:List (κ×V)→List (κ×Value)→Prop:=Paired fun (p:κ×V) (q:κ×Value)=>p.1=q.1∧RelV p.2 q.2
def kV:Key→V
 | .inl i=>.int i
 | .inr x=>.str x
inductive HO where
  | lst (xs:List V)
  | tup (xs:List V)
  | dK (kvs:List (Key×V)) | dT (kvs:List (List Key×V))
  | set (S:Int→Bool) (n:Nat)
  | ins (C dx:Addr) (fs:List (Str×V))
  | own (x:Addr)
  | xd (fs:List (Str×V))
  | met (f x:Addr)
  | rng (lo hi:Int)
  | frz (o:Obj) (u:HO)
  | tbl (ps:Array Value)
  | ext (φ:Heap→Prop)
abbrev Hp:=Addr→Option HO
def upd (H:Hp) (a:Addr) (o:HO):Hp:=fun b=>if b=a then some o else H b
theorem z0p:upd H a o a=some o:=by unfold upd; rw [if_pos rfl]
theorem z0d (h:b≠a):upd H a o b=H b:=by unfold upd; rw [if_neg h]
theorem zdf:upd (upd H a o) a u=upd H a u:=by
 funext b; unfold upd; split <;> rfl
theorem ne_of {H:Hp} {a b:Addr} {o u:HO} (h:H a=some o) (h':H b=some u) (d:o≠u):a≠b:=by
 intro e; subst e; rw [h] at h'; exact d (Wt h')
theorem z0J {H:Hp} {a b:Addr} {o:HO} (h:H a=some o) (h':H b=none):a≠b:=by
 intro e; subst e; rw [h] at h'; cases h'
def IsTupN (h:Heap) (a:Addr) (its:Array Value):Prop:=∃ n,h.get? a=some { cls:=.type "tuple",dict:=none,data:=.seq its n,slots:=#[] }
theorem IsTupN.tup (x:IsTupN h a its):IsTup h a its:=let ⟨n,e⟩:=x; ⟨_,e,rfl,n,rfl⟩
theorem IsTupN.new (h:Heap) (its:Array Value):IsTupN (h.push { cls:=.type "tuple",data:=.seq its }) h.objs.size its:=⟨_,Wq _ rfl⟩
theorem IsTupN.lt (x:IsTupN h a its):a < h.objs.size:=let ⟨_,e⟩:=x; Wg e
section
variable (P:Wj) (w:Wp)
def ObjOk (H:Hp) (h:Heap) (a:Addr):HO→Prop
 | .lst xs=>xs.length≤W3∧∃ (its:List Value) (n:Nat),Vals xs its∧h.get? a=some { cls:=.type "list",data:=.seq its.toArray n }
 | .tup xs=>xs.length≤W3∧∃ its:List Value,Vals xs its∧IsTupN h a its.toArray
 | .dK kvs=>kvs.length≤W3∧(a == QT)=false∧∃ vs,KV kvs vs∧h.DictOf (z17 P w) a vs
 | .dT kvs=>kvs.length≤W3∧(a == QT)=false∧∃ xs:List (List Key×Addr×Value),
   Paired (fun (p:List Key×V) (q:List Key×Addr×Value)=>p.1=q.1∧H q.2.1=some (.tup (p.1.map kV))∧RelV p.2 q.2.2) kvs xs ∧
   ∃ o es ep,h.get? a=some o∧o.ExactDict∧o.data = .dict es ep∧es.toList=xs.map (entryOfKey (tupleKind (z17 P w)))∧(xs.map (·.1)).Nodup
 | .set S n=>h.SetOf (intKind P w) a S n
 | .ins C dx fs=>H dx=some (.own a)∧fs.length≤1000∧dx≠a∧h.get? a=some (PySem.W.instObj C dx) ∧
   ∃ mA,h.Ns1 dx mA∧(∀ f,RelO (fs.lookup f) (mA f))∧PySem.Within mA (fs.map (·.1))
 | .own _=>∃ o,h.get? a=some o
 | .xd fs=>∃ mA,h.Ns1 a mA∧∀ f,RelO (fs.lookup f) (mA f)
 | .rng lo hi=>∃ t u v,h.get? a=some { cls:=.type "range",data:=.fields #[.int lo t,.int hi u,.int 1 v] }
 | .frz o u=>h.get? a=some o∧ObjOk H h a u
 | .tbl ps=>h.get? a=some { cls:=.none,data:=.fields ps }
 | .met f x=>h.get? a=some (PySem.W.methodObj (.ref f) (.ref x))
 | .ext φ=>φ h∧(∃ o,h.get? a=some o)∧∀ h1 h2:Heap,φ h1→(∀ o,h1.get? a=some o→h2.get? a=some o)→φ h2
def HOk (H:Hp) (h:Heap):Prop:=∀ a o,H a=some o→ObjOk P w H h a o
end
section
variable {P:Wj} {w:Wp} {H H':Hp} {h h':Heap} {a:Addr} {o:HO}
theorem ObjOk.lt (x:ObjOk P w H h a o):a < h.objs.size:=by
 cases o with
 | lst xs=>obtain ⟨_,_,_,_,e⟩:=x; exact Wg e
 | tup xs=>obtain ⟨_,_,_,p⟩:=x; exact p.lt
 | dK kvs=>obtain ⟨_,_,_,_,o,_,_,e,_⟩:=x; exact Wg e
 | dT kvs=>obtain ⟨_,_,_,_,o,_,_,e,_⟩:=x; exact Wg e
 | set S n=>obtain ⟨o,_,_,_,e,_⟩:=x; exact Wg e
 | ins C dx fs=>obtain ⟨_,_,_,e,_⟩:=x; exact Wg e
 | own y=>obtain ⟨_,e⟩:=x; exact Wg e
 | xd fs=>obtain ⟨_,⟨_,_,_,e,_⟩,_⟩:=x; exact Wg e
 | rng lo hi=>obtain ⟨_,_,_,e⟩:=x; exact Wg e
 | frz ob u=>obtain ⟨e,_⟩:=x; exact Wg e
 | tbl ps=>exact Wg (show h.get? a=some _ from x)
 | met f y=>exact Wg (show h.get? a=some _ from x)
 | ext φ=>obtain ⟨_,⟨_,e⟩,_⟩:=x; exact Wg e
theorem Paired.mapP:∀ {l₁:List α} {l₂:List β},Paired F l₁ l₂→(∀ a b,F a b→G a b)→Paired G l₁ l₂
 | _,_,.nil,_=>.nil
 | _,_,.cons r t,f=>.cons (f _ _ r) (Paired.mapP t f)
theorem ObjOk.stay (x:ObjOk P w H h a o) (k:∀ b u,(b=a∨H b=some (.own a))→h.get? b=some u→h'.get? b=some u)
  (ho:∀ b,H b=some (.own a)→H' b=some (.own a)) (ht:∀ b xs,H b=some (.tup xs)→H' b=some (.tup xs)):ObjOk P w H' h' a o:=by
 induction o with
 | lst xs=>obtain ⟨z,its,n,r,e⟩:=x; exact ⟨z,its,n,r,k _ _ (.inl rfl) e⟩
 | tup xs=>obtain ⟨z,its,r,n,e⟩:=x; exact ⟨z,its,r,n,k _ _ (.inl rfl) e⟩
 | dK kvs=>obtain ⟨z,y,vs,r,ob,es,ep,e,c⟩:=x; exact ⟨z,y,vs,r,ob,es,ep,k _ _ (.inl rfl) e,c⟩
 | dT kvs =>
  obtain ⟨z,y,xs,r,ob,es,ep,e,c⟩:=x
  exact ⟨z,y,xs,Paired.mapP r fun p q z=>⟨z.1,ht _ _ z.2.1,z.2.2⟩,ob,es,ep,k _ _ (.inl rfl) e,c⟩
 | set S n=>obtain ⟨ob,es,ep,t,e,c⟩:=x; exact ⟨ob,es,ep,t,k _ _ (.inl rfl) e,c⟩
 | ins C dx fs =>
  obtain ⟨d,z,ne,e,mA,⟨od,es,ep,e2,c⟩,r⟩:=x
  exact ⟨ho _ d,z,ne,k _ _ (.inl rfl) e,mA,⟨od,es,ep,k _ _ (.inr d) e2,c⟩,r⟩
 | own y=>obtain ⟨ob,e⟩:=x; exact ⟨ob,k _ _ (.inl rfl) e⟩
 | xd fs=>obtain ⟨mA,⟨od,es,ep,e,c⟩,r⟩:=x; exact ⟨mA,⟨od,es,ep,k _ _ (.inl rfl) e,c⟩,r⟩
 | rng lo hi=>obtain ⟨t,u,v,e⟩:=x; exact ⟨t,u,v,k _ _ (.inl rfl) e⟩
 | frz ob u ih=>obtain ⟨e,q⟩:=x; exact ⟨k _ _ (.inl rfl) e,ih q⟩
 | tbl ps =>
  have e:h.get? a=some { cls:=.none,data:=.fields ps }:=x
  show h'.get? a=some { cls:=.none,data:=.fields ps }
  exact k a _ (.inl rfl) e
 | met f y =>
  have e:h.get? a=some (PySem.W.methodObj (.ref f) (.ref y)):=x
  show h'.get? a=some (PySem.W.methodObj (.ref f) (.ref y))
  exact k a _ (.inl rfl) e
 | ext φ=>obtain ⟨p,⟨o,e⟩,st⟩:=x; exact ⟨st _ _ p fun o q=>k _ _ (.inl rfl) q,⟨o,k _ _ (.inl rfl) e⟩,st⟩
theorem HOk.lt (x:HOk P w H h) (e:H a=some o):a < h.objs.size:=(x a o e).lt
theorem HOk.fresh (x:HOk P w H h) (e:h.objs.size≤a):H a=none:=by
 cases q:H a with
 | none=>rfl
 | some u=>exact absurd (Wy (x.lt q) e) (Qs _)
theorem HOk.kept (x:HOk P w H h) (k:∀ b u,h.get? b=some u→h'.get? b=some u):HOk P w H h':=fun a o e =>
 (x a o e).stay (fun b u _ q=>k b u q) (fun _ q=>q) fun _ _ q=>q
theorem HOk.laid (x:HOk P w H h) (k:∀ b u,h.get? b=some u→h'.get? b=some u) (hp:h.objs.size≤a) (new:ObjOk P w (upd H a o) h' a o):HOk P w (upd H a o) h':=fun b u e=>by
 have hn:=x.fresh hp
 by_cases hb:b=a
 ·subst hb; rw [z0p] at e; cases e; exact new
 ·rw [z0d hb] at e
  exact (x b u e).stay (fun c v _ q=>k c v q) (fun c q=>by rw [z0d (z0J q hn)]; exact q) fun c xs q=>by rw [z0d (z0J q hn)]; exact q
end
def Rd (H:Hp) (a:Addr) (u:HO):Prop:=H a=some u∨∃ o,H a=some (.frz o u)
theorem Rd.of (h:H a=some u):Rd H a u:=.inl h
theorem Rd.ok (r:Rd H a u) (x:HOk P w H h):ObjOk P w H h a u:=by
 rcases r with r | ⟨o,r⟩
 ·exact x a u r
 ·obtain ⟨_,q⟩:=x a _ r
  exact q
def Mut:Option HO→Prop
 | some (.lst _)=>True
 | some (.dK _)=>True
 | some (.dT _)=>True
 | some (.set _ _)=>True
 | some (.ins _ _ _)=>True
 | some (.ext _)=>True
 | _=>False
section
variable {P:Wj} {w:Wp} {H:Hp} {h h':Heap} {x e:Addr} {o':HO}
theorem HOk.write (ok:HOk P w H h) (mu:Mut (H x)) (he:e=x∨H e=some (.own x)) (k:∀ b u,b≠e→h.get? b=some u→h'.get? b=some u) (heo:∃ u,h'.get? e=some u)
  (new:ObjOk P w (upd H x o') h' x o'):HOk P w (upd H x o') h':=fun b u q=>by
 have nown:∀ c y,H c=some (.own y)→c≠x:=fun c y r z=>by subst z; rw [r] at mu; exact mu
 have ntup:∀ c xs,H c=some (.tup xs)→c≠x:=fun c xs r z=>by subst z; rw [r] at mu; exact mu
 by_cases hb:b=x
 ·subst hb; rw [z0p] at q; cases q; exact new
 ·rw [z0d hb] at q
  by_cases hbe:b=e
  ·have q':H b=some (.own x):=by
    rcases he with z | z
    ·exact absurd (hbe.trans z) hb
    ·rw [hbe]; exact z
   rw [q] at q'; cases q'
   obtain ⟨v,hv⟩:=heo
   exact ⟨v,by rw [hbe]; exact hv⟩
  ·refine (ok b u q).stay (fun c v hc r=>k c v ?_ r) (fun c r=>by rw [z0d (nown c b r)]; exact r) fun c xs r=>by rw [z0d (ntup c xs r)]; exact r
   rcases hc with rfl | hc
   ·exact hbe
   ·rintro rfl
    rcases he with z | z
    ·exact nown c b hc z
    ·rw [hc] at z; cases z; exact hb rfl
end
structure Un (fs ex:List Addr) (H H':Hp) (h h':Heap):Prop where
 keep:∀ b o,h.get? b=some o→H b=none→b ∉ fs→b ∉ ex→h'.get? b=some o
 slot:∀ b o,h.get? b=some o→H b=none→b ∈ fs→b ∉ ex→∃ sl,h'.get? b=some { o with slots:=sl }
 free:∀ b o,h.get? b=some o→H b=none→b ∉ ex→H' b=none
 there:∀ b o,h.get? b=some o→b ∉ ex→∃ o',h'.get? b=some o'
 tups:∀ b xs,H b=some (.tup xs)→H' b=some (.tup xs)
 frzs:∀ b o u,H b=some (.frz o u)→H' b=some (.frz o u)
 tbls:∀ b ps,H b=some (.tbl ps)→∃ more,H' b=some (.tbl (ps ++ more))
section
variable {fs fs' ex ex':List Addr} {H H1 H2:Hp} {h h1 h2 h':Heap} {a x e:Addr} {o:HO}
theorem Un.any (u:Un fs ex H H1 h h1) (q:h.get? b=some ob) (n:H b=none) (hx:b ∉ ex):∃ sl,h1.get? b=some { ob with slots:=sl }:=by
 by_cases hb:b ∈ fs
 ·exact u.slot b ob q n hb hx
 ·exact ⟨ob.slots,u.keep b ob q n hb hx⟩
theorem Un.trans (a:Un fs ex H H1 h h1) (b:Un fs ex H1 H2 h1 h2):Un fs ex H H2 h h2 where
 keep:=fun c ob q n hc hx=>b.keep c ob (a.keep c ob q n hc hx) (a.free c ob q n hx) hc hx
 slot:=fun c ob q n hc hx=>by
  obtain ⟨sl,e1⟩:=a.slot c ob q n hc hx
  obtain ⟨sl',e2⟩:=b.slot c _ e1 (a.free c ob q n hx) hc hx
  exact ⟨sl',e2⟩
 free:=fun c ob q n hx=>by
  obtain ⟨o',e1⟩:=a.there c ob q hx
  exact b.free c o' e1 (a.free c ob q n hx) hx
 there:=fun c ob q hx=>by
  obtain ⟨o',e1⟩:=a.there c ob q hx
  exact b.there c o' e1 hx
 tups:=fun c xs q=>b.tups c xs (a.tups c xs q)
 frzs:=fun c ob xs q=>b.frzs c ob xs (a.frzs c ob xs q)
 tbls:=fun c ps q=>by
  obtain ⟨m1,e1⟩:=a.tbls c ps q
  obtain ⟨m2,e2⟩:=b.tbls c _ e1
  exact ⟨m1 ++ m2,by rw [e2,Array.append_assoc]⟩
theorem Un.kept (k:∀ b u,h.get? b=some u→h'.get? b=some u):Un fs ex H H h h' :=
 ⟨fun b ob q _ _ _=>k b ob q,fun b ob q _ _ _=>⟨ob.slots,k b ob q⟩,fun _ _ _ n _=>n,fun b ob q _=>⟨ob,k b ob q⟩,fun _ _ q=>q,fun _ _ _ q=>q,fun _ ps q=>⟨#[],by rw [q]; simp⟩⟩
theorem Un.refl:Un fs ex H H h h:=Un.kept fun _ _ q=>q
theorem Un.laid (k:∀ b u,h.get? b=some u→h'.get? b=some u) (hp:h.objs.size≤a) (hn:H a=none):Un fs ex H (upd H a o) h h' where
 keep:=fun b u q _ _ _=>k b u q
 slot:=fun b u q _ _ _=>⟨u.slots,k b u q⟩
 free:=fun b u q n _=>by rw [z0d (Ws (Wy (Wg q) hp))]; exact n
 there:=fun b u q _=>⟨u,k b u q⟩
 tups:=fun b xs q=>by rw [z0d (z0J q hn)]; exact q
 frzs:=fun b u xs q=>by rw [z0d (z0J q hn)]; exact q
 tbls:=fun b ps q=>⟨#[],by rw [z0d (z0J q hn),q]; simp⟩
theorem Un.write (mu:Mut (H x)) (he:e=x∨H e=some (.own x)) (k:∀ b u,b≠e→h.get? b=some u→h'.get? b=some u) (heo:∃ u,h'.get? e=some u):Un fs ex H (upd H x o) h h':=by
 have hx:∀ b,H b=none→b≠x:=fun b n z=>by subst z; rw [n] at mu; exact mu
 have hb:∀ b,H b=none→b≠e:=fun b n z=>by
  subst z
  rcases he with r | r
  ·exact hx b n r
  ·rw [n] at r; cases r
 have hm:∀ b u,H b=some u→¬ Mut (some u)→b≠x:=fun b u q nm z=>by subst z; rw [q] at mu; exact nm mu
 refine ⟨fun b u q n _ _=>k b u (hb b n) q,fun b u q n _ _=>⟨u.slots,k b u (hb b n) q⟩,fun b u q n _=>by rw [z0d (hx b n)]; exact n,fun b u q _=>?_,
  fun b xs q=>by rw [z0d (hm b _ q fun z=>z)]; exact q,fun b u xs q=>by rw [z0d (hm b _ q fun z=>z)]; exact q,fun b ps q=>⟨#[],by rw [z0d (hm b _ q fun z=>z),q]; simp⟩⟩
 by_cases hbe:b=e
 ·subst hbe; exact heo
 ·exact ⟨u,k b u hbe q⟩
theorem Un.mono (u:Un fs ex H H1 h h1) (hs:∀ b ∈ fs,b ∈ fs') (hx:∀ b ∈ ex,b ∈ ex'):Un fs' ex' H H1 h h1 :=
 ⟨fun b ob q n hb he=>u.keep b ob q n (fun z=>hb (hs b z)) fun z=>he (hx b z),fun _ _ q n _ he=>u.any q n fun z=>he (hx _ z),fun b ob q n he=>u.free b ob q n fun z=>he (hx b z),fun b ob q he=>u.there b ob q fun z=>he (hx b z),u.tups,u.frzs,u.tbls⟩
end
def trk (h:Heap) (H:Hp):List Addr:=(Wa h.objs.size).filter fun a=>(H a).isSome
def hidT (h:Heap) (H:Hp):Heap:=J9 h (trk h H)
theorem zaZ (h:Heap) (H:Hp):(hidT h H).objs.size=h.objs.size:=PySem.W.hideAll_size _ _
theorem zcv (e:h.get? b=some o) (n:H b=none):(hidT h H).get? b=some o :=
 QB _ e fun hm=>by
  have q:(H b).isSome=true:=(List.mem_filter.mp hm).2
  rw [n] at q; simp at q
theorem zea (e:(hidT h H).get? b=some o):h.get? b=some o∧H b=none:=by
 have e':h.get? b=some o:=Jv (trk h H) e
 refine ⟨e',?_⟩
 cases q:H b with
 | none=>rfl
 | some x =>
  have hm:b ∈ trk h H:=List.mem_filter.mpr ⟨Qk.mpr (Wg e'),by simp [q]⟩
  have z:(hidT h H).get? b=none:=Qv (trk h H) hm
  rw [z] at e; cases e
def zeF (g h:Heap) (L:Addr):List (Addr×Obj):=(Wa h.objs.size).filterMap fun a=>if a=L∨(g.get? a).isSome=true then none else (h.get? a).map fun o=>(a,o)
def rest (g h:Heap) (L d:Addr):List (Addr×Obj):=(zeF g h L).filter fun p=>decide (p.1≠d)
structure Mod (K:W0) (mg:Str→Option Value) (base:Heap):Prop where
 kin:K.In base
 glob:base.Ns Wn mg
 blt:∃ mb,base.Ns builtinsNs mb∧∀ x:Str,x≠"__name__"→mb x=Qg x
 nolimit:base.NoLimit
structure Cx where
 prog:Wj
 w:Wp
 K:W0
 mg:Str→Option Value
 base:Heap
 A:Wo
 N:List Str
 s₀:W2
 H₀:Hp
 env:Env
 outer:List Env
 stack:List Env
 ex:List Addr
 fn:Str→Bool
 calm:Bool
 pn:List (Addr×Obj)
 xe:Value→W2→Prop
def frs (l:List Env):List Addr:=l.filterMap (·.frame)
abbrev Cx.fs (X:Cx):List Addr:=frs X.outer
def Vis (sc:Scope) (x:Str):Prop:=sc.names.lookup x=some .local∨sc.names.lookup x=some .cell∨sc.names.lookup x=some .free
def Loc (sc:Scope) (x:Str):Prop:=sc.names.lookup x=some .local∨sc.names.lookup x=some .cell
def Look (env:Env) (h:Heap) (m:Str→Option Value) (x:Str) (u:Value):Prop :=
 (env.kindOf x=some .local∧m x=some u)∨((env.kindOf x=some .cell∨env.kindOf x=some .free)∧∃ c,env.cells.lookup x=some c∧h.IsCell c (some u))
structure Cx.Ok (X:Cx):Prop where
 mod:Mod X.K X.mg X.base
 kind:X.env.scope.kind = .function
 glob:X.env.globals=Wn
 blt:X.env.builtins=builtinsNs
 above:X.s₀.heap.objs.size≤X.env.locals
 inj:∀ x y c,X.env.cells.lookup x=some c→X.env.cells.lookup y=some c→x=y
 has:∀ x,(X.env.kindOf x=some .cell∨X.env.kindOf x=some .free)→∃ c,X.env.cells.lookup x=some c
 cab:∀ x c,X.fn x=true→X.env.cells.lookup x=some c→X.s₀.heap.objs.size≤c
 hd:X.calm=true→X.A.handled=none
 frames:X.A.frames=some X.stack
 stk:X.stack=X.outer∨(X.stack=X.env :: X.outer∧X.env.frame=some X.env.locals)
 exf:∀ b ∈ X.ex,b≠X.env.locals∧∀ x c,X.env.cells.lookup x=some c→c≠b
 bs:∀ b o,X.base.get? b=some o→X.s₀.heap.get? b=some o∧X.H₀ b=none
 bsz:X.base.objs.size≤X.s₀.heap.objs.size
 noex:∀ b o,X.base.get? b=some o→b ∉ X.ex
 exfs:∀ b ∈ X.ex,b ∉ X.fs
 funs:X.s₀.heap.FunFrames X.base X.outer
 frf:∀ b ∈ X.fs,X.H₀ b=none
structure Inv (X:Cx) (pins:List (Addr×Obj)) (σ:List (Option V)) (H:Hp) (s:W2):Prop where
 ok:X.Ok
 os:s.os=X.s₀.os
 bare:AllBare s.gens
 base:Un X.fs X.ex X.H₀ H X.s₀.heap s.heap
 loc:∃ m,s.heap.Ns X.env.locals m∧∀ (i:Nat) (x:Str) (v:V),X.N[i]? = some x→σ[i]? = some (some v)→Vis X.env.scope x→∃ u,RelV v u∧Look X.env s.heap m x u
 cell:∀ x c,X.env.cells.lookup x=some c→∃ v,s.heap.IsCell c v
 free:H X.env.locals=none
 freeC:∀ x c,X.env.cells.lookup x=some c→H c=none
 pin:∀ p ∈ X.pn ++ pins,s.heap.get? p.1=some p.2∧H p.1=none∧p.1≠X.env.locals∧p.1 ∉ X.fs∧∀ v,p.2.data≠.cell v
 hok:HOk X.prog X.w H s.heap
 len:σ.length=X.N.length
section
variable {X:Cx} {pins:List (Addr×Obj)} {σ:List (Option V)} {H H':Hp} {s:W2} {h':Heap}
theorem Cx.Ok.nofr (ok:X.Ok) (e:X.base.get? b=some o):b ∉ X.fs:=fun hb=>by
 have:=(ok.funs.mem hb).1
 rw [e] at this; cases this
theorem Inv.bs (I:Inv X pins σ H s):∀ b o,X.base.get? b=some o→s.heap.get? b=some o∧H b=none:=fun b o e =>
 ⟨I.base.keep b o (I.ok.bs b o e).1 (I.ok.bs b o e).2 (I.ok.nofr e) (I.ok.noex b o e),I.base.free b o (I.ok.bs b o e).1 (I.ok.bs b o e).2 (I.ok.noex b o e)⟩
theorem Inv.bk (I:Inv X pins σ H s):∀ b o,X.base.get? b=some o→s.heap.get? b=some o:=fun b o e=>(I.bs b o e).1
theorem Inv.mod (I:Inv X pins σ H s):Mod X.K X.mg X.base:=I.ok.mod
theorem Inv.kIn (I:Inv X pins σ H s):X.K.In s.heap:=I.ok.mod.kin.keeps I.bk
theorem Inv.nolimit (I:Inv X pins σ H s):s.heap.NoLimit:=I.ok.mod.nolimit.keeps I.bk
theorem Inv.fr (I:Inv X pins σ H s):∃ m,Fr X.base X.env.locals s.heap m :=
 let ⟨m,hn,_⟩:=I.loc
 ⟨m,hn,I.bk,WI I.ok.bsz I.ok.above⟩
theorem Inv.lt (I:Inv X pins σ H s):X.env.locals < s.heap.objs.size:=let ⟨_,hn,_⟩:=I.loc; hn.lt
theorem Inv.sz (I:Inv X pins σ H s):X.s₀.heap.objs.size≤s.heap.objs.size:=WI I.ok.above (Nat.le_of_lt I.lt)
theorem Inv.nofs (I:Inv X pins σ H s) (h:s.heap.objs.size≤a):a ∉ X.fs:=fun hb=>by
 obtain ⟨_,o,ho,_⟩:=I.ok.funs.mem hb
 exact absurd (Wy (Wg ho) (WI I.sz h)) (Qs _)
theorem Inv.cne (I:Inv X pins σ H s):∀ x c,X.env.cells.lookup x=some c→c≠X.env.locals:=fun x c e z=>by
 obtain ⟨v,o,ho,hd⟩:=I.cell x c e
 obtain ⟨m,⟨o',es,ep,ho',hd',_⟩,_⟩:=I.loc
 rw [z,ho'] at ho; cases ho; rw [hd'] at hd; cases hd
theorem Inv.funs (I:Inv X pins σ H s):s.heap.FunFrames X.base X.outer:=by
 have all:∀ (l:List Env),(∀ b ∈ frs l,b ∈ X.fs)→X.s₀.heap.FunFrames X.base l→s.heap.FunFrames X.base l:=by
  intro l
  induction l with
  | nil=>intro _ _; trivial
  | cons env r ih =>
   intro hs hl
   obtain ⟨hk,⟨L,o,hf,hn,ho,hd⟩,hr⟩:=hl
   have hL:L ∈ X.fs:=hs L (by unfold frs; rw [J1,hf]; exact Wh)
   obtain ⟨sl,e⟩:=I.base.slot L o ho (I.ok.frf L hL) hL fun z=>I.ok.exfs L z hL
   exact ⟨hk,⟨L,_,hf,hn,e,hd⟩,ih (fun b hb=>hs b (by unfold frs; rw [J1,hf]; exact We _ hb)) hr⟩
 exact all X.outer (fun _ hb=>hb) I.ok.funs
theorem Inv.stack (I:Inv X pins σ H s):s.heap.FunFrames X.base X.stack:=by
 rcases I.ok.stk with e | ⟨e,hf⟩
 ·rw [e]; exact I.funs
 ·rw [e]
  obtain ⟨m,hn,_⟩:=I.loc
  refine .cons (by rw [I.ok.kind]; decide) hf hn ?_ I.funs
  exact Heap.get?_none_of_le (WI I.ok.bsz I.ok.above)
theorem Inv.stkSub (I:Inv X pins σ H s):∀ b ∈ frs X.stack,b ∈ X.env.locals :: X.fs:=fun b hb=>by
 rcases I.ok.stk with e | ⟨e,hf⟩
 ·rw [e] at hb; exact We _ hb
 ·rw [e] at hb
  unfold frs at hb
  rw [J1,hf] at hb
  exact hb
theorem Inv.stkFree (I:Inv X pins σ H s):∀ b ∈ frs X.stack,H b=none:=fun b hb=>by
 rcases Wf.mp (I.stkSub b hb) with e | hb
 ·rw [e]; exact I.free
 ·obtain ⟨_,o,ho,_⟩:=I.ok.funs.mem hb
  exact I.base.free b o ho (I.ok.frf b hb) fun z=>I.ok.exfs b z hb
theorem Inv.step {g':Array GenState} {t':Nat} {d':Drawn} {ch:List Addr} (I:Inv X pins σ H s)
  (hch:∀ b ∈ ch,(b ∈ X.ex∨X.s₀.heap.objs.size≤b)∧b≠X.env.locals∧(∀ x c,X.env.cells.lookup x=some c→c≠b)∧∀ p ∈ X.pn ++ pins,p.1≠b)
  (keep:∀ b o,b≠X.env.locals→b ∉ X.fs→b ∉ ch→s.heap.get? b=some o→H b=none→h'.get? b=some o)
  (slot:∀ b o,b≠X.env.locals→b ∈ X.fs→b ∉ ch→s.heap.get? b=some o→H b=none→∃ sl,h'.get? b=some { o with slots:=sl }) (free:∀ b o,b ∉ ch→s.heap.get? b=some o→H b=none→H' b=none)
  (there:∀ b o,b ∉ ch→s.heap.get? b=some o→∃ o',h'.get? b=some o')
  (tups:∀ b xs,H b=some (.tup xs)→H' b=some (.tup xs)) (frzs:∀ b o u,H b=some (.frz o u)→H' b=some (.frz o u)) (tbls:∀ b ps,H b=some (.tbl ps)→∃ more,H' b=some (.tbl (ps ++ more)))
  (ns:∀ m,s.heap.Ns X.env.locals m→h'.Ns X.env.locals m) (hok:HOk X.prog X.w H' h') (hg:AllBare g') :
  Inv X pins σ H' { s with heap:=h',gens:=g',drawn:=d',toks:=t' }:=by
 have neL:∀ b o,X.s₀.heap.get? b=some o→b≠X.env.locals:=fun b o e=>Ws (Wy (Wg e) I.ok.above)
 have neC:∀ b o,X.s₀.heap.get? b=some o→b ∉ X.ex→b ∉ ch:=fun b o e hx hb=>by
  rcases (hch b hb).1 with z | z
  ·exact hx z
  ·exact absurd (Wy (Wg e) z) (Qs _)
 have cellK:∀ x c,X.env.cells.lookup x=some c→∀ v,s.heap.IsCell c v→h'.IsCell c v:=fun x c e v ⟨o,ho,hd⟩=>by
  have nch:c ∉ ch:=fun z=>(hch c z).2.2.1 x c e rfl
  by_cases hc:c ∈ X.fs
  ·obtain ⟨sl,q⟩:=slot c o (I.cne x c e) hc nch ho (I.freeC x c e)
   exact ⟨_,q,hd⟩
  ·exact ⟨o,keep c o (I.cne x c e) hc nch ho (I.freeC x c e),hd⟩
 refine ⟨I.ok,I.os,hg,⟨fun b o e n hb hx=>?_,fun b o e n hb hx=>?_,fun b o e n hx=>?_,fun b o e hx=>?_,fun b xs e=>tups b xs (I.base.tups b xs e),fun b o xs e=>frzs b o xs (I.base.frzs b o xs e),fun b ps e=>?_⟩,?_,fun x c e=>?_,?_,fun x c e=>?_,fun p hp=>?_,hok,I.len⟩
 ·exact keep b o (neL b o e) hb (neC b o e hx) (I.base.keep b o e n hb hx) (I.base.free b o e n hx)
 ·obtain ⟨sl,e1⟩:=I.base.slot b o e n hb hx
  obtain ⟨sl',e2⟩:=slot b _ (neL b o e) hb (neC b o e hx) e1 (I.base.free b o e n hx)
  exact ⟨sl',e2⟩
 ·obtain ⟨o',e1⟩:=I.base.there b o e hx
  exact free b o' (neC b o e hx) e1 (I.base.free b o e n hx)
 ·obtain ⟨o',e1⟩:=I.base.there b o e hx
  exact there b o' (neC b o e hx) e1
 ·obtain ⟨m1,e1⟩:=I.base.tbls b ps e
  obtain ⟨m2,e2⟩:=tbls b _ e1
  exact ⟨m1 ++ m2,by rw [e2,Array.append_assoc]⟩
 ·obtain ⟨m,hn,hl⟩:=I.loc
  refine ⟨m,ns m hn,fun i x v e1 e2 e3=>?_⟩
  obtain ⟨u,r,l⟩:=hl i x v e1 e2 e3
  refine ⟨u,r,?_⟩
  rcases l with l | ⟨k,c,e,z⟩
  ·exact .inl l
  ·exact .inr ⟨k,c,e,cellK x c e _ z⟩
 ·obtain ⟨v,z⟩:=I.cell x c e
  exact ⟨v,cellK x c e v z⟩
 ·obtain ⟨m,⟨o,_,_,ho,_⟩,_⟩:=I.loc
  exact free _ o (fun z=>(hch _ z).2.1 rfl) ho I.free
 ·obtain ⟨v,o,ho,hd⟩:=I.cell x c e
  exact free c o (fun z=>(hch c z).2.2.1 x c e rfl) ho (I.freeC x c e)
 ·obtain ⟨e,n,ne,nf,d⟩:=I.pin p hp
  have nch:p.1 ∉ ch:=fun z=>(hch p.1 z).2.2.2 p hp rfl
  exact ⟨keep p.1 p.2 ne nf nch e n,free p.1 p.2 nch e n,ne,nf,d⟩
theorem Inv.un {t':Nat} (I:Inv X pins σ H s) (u:Un X.fs [] H H' s.heap h') (hok:HOk X.prog X.w H' h'):Inv X pins σ H' { s with heap:=h',toks:=t' }:=by
 obtain ⟨m,⟨o,es,ep,ho,r⟩,_⟩:=id I.loc
 obtain ⟨sl,hL⟩:=u.any ho I.free (by simp)
 exact I.step (g':=s.gens) (d':=s.drawn) (ch:=[]) (fun _ z=>nomatch z) (fun b o _ hb _ e n=>u.keep b o e n hb (by simp)) (fun b o _ hb _ e n=>u.slot b o e n hb (by simp)) (fun b o _ e n=>u.free b o e n (by simp)) (fun b o _ e=>u.there b o e (by simp)) u.tups u.frzs u.tbls (fun m' hm=>by
  obtain ⟨o',es',ep',ho',r'⟩:=hm
  rw [ho] at ho'; cases ho'
  exact ⟨_,es',ep',hL,r'⟩) hok I.bare
theorem Inv.call {g':Array GenState} {t':Nat} {d':Drawn} {ch:List Addr} (I:Inv X pins σ H s) (u:Un (frs X.stack) ch H H' s.heap h') (hok:HOk X.prog X.w H' h') (hg:AllBare g')
  (hch:∀ b ∈ ch,(b ∈ X.ex∨X.s₀.heap.objs.size≤b)∧b≠X.env.locals∧(∀ x c,X.env.cells.lookup x=some c→c≠b)∧∀ p ∈ X.pn ++ pins,p.1≠b) :
  Inv X pins σ H' { s with heap:=h',gens:=g',drawn:=d',toks:=t' }:=by
 obtain ⟨m,⟨o,es,ep,ho,r⟩,_⟩:=id I.loc
 obtain ⟨sl,hL⟩:=u.any ho I.free fun z=>(hch _ z).2.1 rfl
 exact I.step (ch:=ch) hch (fun b o hL hb hc e n=>u.keep b o e n (fun z=>(Wf.mp (I.stkSub b z)).elim hL hb) hc) (fun b o _ _ hc e n=>u.any e n hc) (fun b o hc e n=>u.free b o e n hc) (fun b o hc e=>u.there b o e hc) u.tups u.frzs u.tbls (fun m' hm=>by
  obtain ⟨o',es',ep',ho',r'⟩:=hm
  rw [ho] at ho'; cases ho'
  exact ⟨_,es',ep',hL,r'⟩) hok hg
theorem Inv.turned {t':Nat} {it:Addr} (I:Inv X pins σ H s) (k:∀ b o,b≠it→s.heap.get? b=some o→h'.get? b=some o) (hn:H it=none) (hL:it≠X.env.locals)
  (h1:it ∈ X.ex∨X.s₀.heap.objs.size≤it) (h2:∀ x c,X.env.cells.lookup x=some c→c≠it) (h3:∀ p ∈ X.pn ++ pins,p.1≠it):Inv X pins σ H { s with heap:=h',toks:=t' }:=by
 have nit:∀ b u,H b=some u→b≠it:=fun b u e z=>by rw [z,hn] at e; cases e
 refine I.step (g':=s.gens) (d':=s.drawn) (ch:=[it]) (fun b hb=>?_) (fun b o _ _ hc e _=>k b o (fun z=>hc (by simp [z])) e) (fun b o _ _ hc e _=>⟨o.slots,k b o (fun z=>hc (by simp [z])) e⟩) (fun _ _ _ _ n=>n)
  (fun b o hc e=>⟨o,k b o (fun z=>hc (by simp [z])) e⟩) (fun _ _ e=>e) (fun _ _ _ e=>e) (fun b ps e=>⟨#[],by rw [e]; simp⟩) (fun m hm=>?_) (fun b u e=>?_) I.bare
 ·have e:b=it:=by simpa using hb
  subst e
  exact ⟨h1,hL,h2,h3⟩
 ·obtain ⟨o,es,ep,ho,r⟩:=hm
  exact ⟨o,es,ep,k _ o (Ne.symm hL) ho,r⟩
 ·refine (I.hok b u e).stay (fun c v hc q=>k c v ?_ q) (fun _ q=>q) fun _ _ q=>q
  rcases hc with z | z
  ·rw [z]; exact nit b u e
  ·exact nit c _ z
theorem Inv.tok (I:Inv X pins σ H s) (t:Nat):Inv X pins σ H { s with toks:=t }:=I.un (h':=s.heap) (t':=t) Un.refl I.hok
theorem Inv.kept (I:Inv X pins σ H s) (k:∀ b u,s.heap.get? b=some u→h'.get? b=some u):Inv X pins σ H { s with heap:=h',toks:=t' }:=I.un (Un.kept k) (I.hok.kept k)
theorem Inv.laid (I:Inv X pins σ H s) (k:∀ b u,s.heap.get? b=some u→h'.get? b=some u) (hp:s.heap.objs.size≤a) (new:ObjOk X.prog X.w (upd H a o) h' a o) :
  Inv X pins σ (upd H a o) { s with heap:=h',toks:=t' }:=I.un (Un.laid k hp (I.hok.fresh hp)) (I.hok.laid k hp new)
theorem Inv.write (I:Inv X pins σ H s) (mu:Mut (H x)) (he:e=x∨H e=some (.own x)) (k:∀ b u,b≠e→s.heap.get? b=some u→h'.get? b=some u) (heo:∃ u,h'.get? e=some u)
  (new:ObjOk X.prog X.w (upd H x o) h' x o):Inv X pins σ (upd H x o) { s with heap:=h',toks:=t' }:=I.un (Un.write mu he k heo) (I.hok.write mu he k heo new)
theorem Inv.weak (I:Inv X pins σ H s) (hl:σ'.length=σ.length) (w:∀ (i:Nat) v,σ'[i]? = some (some v)→σ[i]? = some (some v)):Inv X pins σ' H s :=
 ⟨I.ok,I.os,I.bare,I.base,let ⟨m,hn,hl'⟩:=I.loc; ⟨m,hn,fun i x v e1 e2 e3=>hl' i x v e1 (w i v e2) e3⟩,I.cell,I.free,I.freeC,I.pin,I.hok,hl.trans I.len⟩
theorem Inv.pins_of (I:Inv X pins σ H s) (h:∀ p ∈ pins',s.heap.get? p.1=some p.2∧H p.1=none∧p.1≠X.env.locals∧p.1 ∉ X.fs∧∀ v,p.2.data≠.cell v):Inv X pins' σ H s :=
 ⟨I.ok,I.os,I.bare,I.base,I.loc,I.cell,I.free,I.freeC,fun p hp=>(QH.mp hp).elim (fun z=>I.pin p (Jl _ z)) (h p),I.hok,I.len⟩
theorem z6y {N:List Str} (hN:N.Nodup) {i j:Nat} {x:Str} (a:N[i]? = some x) (b:N[j]? = some x):i=j:=by
 obtain ⟨h1,e1⟩:=Wb.mp a
 obtain ⟨h2,e2⟩:=Wb.mp b
 exact (List.getElem_inj hN).mp (e1.trans e2.symm)
theorem z3M {M:Model} {A:Wo} {E:Value→W2→Prop} {i:Nat} {x:Str} {v:V} {u:Value} {Q:Unit→W2→Prop} (I:Inv X pins σ H s) (hN:X.N.Nodup) (hi:X.N[i]? = some x) (hx:Loc X.env.scope x) (r:RelV v u)
  (h:∀ s',Inv X pins (σ.set i (some v)) H s'→(∃ a,Heap.SameBut a s.heap s'.heap∧(a=X.env.locals∨X.env.cells.lookup x=some a))→Q () s') (hf:X.fn x=true∨X.env.scope.names.lookup x=some .local:=by first | exact .inl rfl | exact .inr rfl | assumption):W9 M A (storeName X.env x u) Q E s:=by
 obtain ⟨m,hn,hl⟩:=id I.loc
 have hcls:(X.env.scope.kind == .class || (X.env.scope.kind == .module && X.env.locals != X.env.globals))=false:=by rw [I.ok.kind]; rfl
 have hiσ:i < σ.length:=by rw [I.len]; exact (Wb.mp hi).1
 have cne:=I.cne
 have tracked:∀ {a:Addr} {h':Heap},(∃ o,s.heap.get? a=some o∧H a=none)→Heap.SameBut a s.heap h'→HOk X.prog X.w H h':=fun {a h'} ha hs b ob e=>by
  obtain ⟨_,_,hfree⟩:=ha
  refine (I.hok b ob e).stay (fun c w' hc q=>(hs.2 c ?_).trans q) (fun _ q=>q) fun _ _ q=>q
  rintro rfl
  rcases hc with rfl | hc
  ·rw [hfree] at e; cases e
  ·rw [hfree] at hc; cases hc
 rcases hx with hk | hk
 ·refine wpAny_storeName_local hk hn (fun h' hn' hs=>?_) hcls
  obtain ⟨oL,_,_,hoL,_⟩:=id hn
  refine h _ ⟨I.ok,I.os,I.bare,⟨fun b o e n hb hx=>?_,fun b o e n hb hx=>?_,I.base.free,fun b o e hx=>?_,I.base.tups,I.base.frzs,I.base.tbls⟩,⟨_,hn',fun j y v' e1 e2 e3=>?_⟩,fun y c e=>?_,I.free,I.freeC,fun p hp=>?_,tracked ⟨oL,hoL,I.free⟩ hs,by simpa using I.len⟩ ⟨_,hs,.inl rfl⟩
  ·exact (hs.2 b (Ws (Wy (Wg e) I.ok.above))).trans (I.base.keep b o e n hb hx)
  ·obtain ⟨sl,e1⟩:=I.base.slot b o e n hb hx
   exact ⟨sl,(hs.2 b (Ws (Wy (Wg e) I.ok.above))).trans e1⟩
  ·obtain ⟨o',e1⟩:=I.base.there b o e hx
   exact ⟨o',(hs.2 b (Ws (Wy (Wg e) I.ok.above))).trans e1⟩
  ·by_cases hj:j=i
   ·subst hj
    rw [hi] at e1; cases e1
    rw [Wl hiσ] at e2
    cases e2
    exact ⟨u,r,.inl ⟨hk,by simp⟩⟩
   ·rw [W4 (Ne.symm hj)] at e2
    obtain ⟨u',r',q⟩:=hl j y v' e1 e2 e3
    refine ⟨u',r',?_⟩
    rcases q with ⟨k,e⟩ | ⟨k,c,e,z⟩
    ·refine .inl ⟨k,?_⟩
     have:y≠x:=fun e=>hj (z6y hN e1 (e ▸ hi))
     simp [this,e]
    ·exact .inr ⟨k,c,e,z.sameBut hs (cne y c e)⟩
  ·obtain ⟨w',z⟩:=I.cell y c e
   exact ⟨w',z.sameBut hs (cne y c e)⟩
  ·obtain ⟨e,n,ne,nf,d⟩:=I.pin p hp
   exact ⟨(hs.2 p.1 ne).trans e,n,ne,nf,d⟩
 ·have hfn:X.fn x=true:=by
   rcases hf with z | z
   ·exact z
   ·rw [z] at hk; cases hk
  obtain ⟨c,hc⟩:=I.ok.has x (.inl hk)
  obtain ⟨w',z⟩:=I.cell x c hc
  refine wpAny_storeName_cell I.ok.kind hk hc z (fun h' hc' hs=>?_)
  obtain ⟨oc,hoc,hocd⟩:=id z
  refine h { s with heap:=h' } ⟨I.ok,I.os,I.bare,⟨fun b o e n hb hx=>?_,fun b o e n hb hx=>?_,I.base.free,fun b o e hx=>?_,I.base.tups,I.base.frzs,I.base.tbls⟩,⟨m,hn.sameBut hs (Ne.symm (cne x c hc)),fun j y v' e1 e2 e3=>?_⟩,fun y c' e=>?_,I.free,I.freeC,fun p hp=>?_,tracked ⟨oc,hoc,I.freeC x c hc⟩ hs,by simpa using I.len⟩ ⟨c,hs,.inr hc⟩
  ·exact (hs.2 b (Ws (Wy (Wg e) (I.ok.cab x c hfn hc)))).trans (I.base.keep b o e n hb hx)
  ·obtain ⟨sl,e1⟩:=I.base.slot b o e n hb hx
   exact ⟨sl,(hs.2 b (Ws (Wy (Wg e) (I.ok.cab x c hfn hc)))).trans e1⟩
  ·obtain ⟨o',e1⟩:=I.base.there b o e hx
   exact ⟨o',(hs.2 b (Ws (Wy (Wg e) (I.ok.cab x c hfn hc)))).trans e1⟩
  ·by_cases hj:j=i
   ·subst hj
    rw [hi] at e1; cases e1
    rw [Wl hiσ] at e2
    cases e2
    exact ⟨u,r,.inr ⟨.inl hk,c,hc,hc'⟩⟩
   ·rw [W4 (Ne.symm hj)] at e2
    obtain ⟨u',r',q⟩:=hl j y v' e1 e2 e3
    refine ⟨u',r',?_⟩
    rcases q with q | ⟨k,c',e,z'⟩
    ·exact .inl q
    ·refine .inr ⟨k,c',e,z'.sameBut hs ?_⟩
     rintro rfl
     exact hj (z6y hN e1 (I.ok.inj _ _ _ e hc ▸ hi))
  ·by_cases hcc:c'=c
   ·subst hcc; exact ⟨_,hc'⟩
   ·obtain ⟨w2,z2⟩:=I.cell y c' e
    exact ⟨w2,z2.sameBut hs hcc⟩
  ·obtain ⟨e,n,ne,nf,d⟩:=I.pin p hp
   refine ⟨(hs.2 p.1 ?_).trans e,n,ne,nf,d⟩
   intro q
   rw [q,hoc] at e
   have q':oc=p.2:=Wt e
   exact d w' (by rw [← q']; exact hocd)
theorem z8z (I:Inv X pins σ H s) (hN:X.N.Nodup) (hi:X.N[i]? = some x) (hx:Loc X.env.scope x) (r:RelV v u)
  (h:∀ s',Inv X pins (σ.set i (some v)) H s'→Q () s') (hf:X.fn x=true∨X.env.scope.names.lookup x=some .local:=by first | exact .inl rfl | exact .inr rfl | assumption):W9 M A (storeName X.env x u) Q E s :=
 z3M I hN hi hx r (fun s' I' _=>h s' I') hf
theorem Inv.call' (I:Inv X pins σ H s) (ho:s'.os=s.os) (u:Un (frs X.stack) ch H H' s.heap s'.heap) (hok:HOk X.prog X.w H' s'.heap) (hg:AllBare s'.gens)
  (hch:∀ b ∈ ch,(b ∈ X.ex∨X.s₀.heap.objs.size≤b)∧b≠X.env.locals∧(∀ x c,X.env.cells.lookup x=some c→c≠b)∧∀ p ∈ X.pn ++ pins,p.1≠b):Inv X pins σ H' s':=by
 obtain ⟨h',g',d',t',o'⟩:=s'
 have e:o'=s.os:=ho
 subst e
 exact I.call (g':=g') (t':=t') (d':=d') u hok hg hch
end
abbrev XK:=Value→Option Addr→Hp→Prop
abbrev St:=List (Option V)
abbrev VK:=V→Hp→Prop
abbrev TE:=St→Hp→VK→Prop
abbrev TT:=St→Hp→(Bool→Hp→Prop)→Prop
abbrev TA:=St→Hp→(List V→Hp→Prop)→Prop
structure Ends where
 nx:St→Hp→Prop
 rt:VK
 bk:St→Hp→Prop:=fun _ _=>False
 ct:St→Hp→Prop:=fun _ _=>False
abbrev TS:=Ends→St→Hp→Prop
def EP (X:Cx) (pins:List (Addr×Obj)) (σ:St) (Q:VK) (u:Value) (s':W2):Prop:=∃ v H',Inv X pins σ H' s'∧RelV v u∧Q v H'
def TP (X:Cx) (pins:List (Addr×Obj)) (σ:St) (Q:Bool→Hp→Prop) (b:Bool) (s':W2):Prop:=∃ H',Inv X pins σ H' s'∧Q b H'
def AP (X:Cx) (pins:List (Addr×Obj)) (σ:St) (Q:List V→Hp→Prop) (us:List Value) (s':W2):Prop:=∃ vs H',Inv X pins σ H' s'∧Vals vs us∧Q vs H'
def SP (X:Cx) (pins:List (Addr×Obj)) (D:Ends) (f:Flow) (s':W2):Prop :=
 match f with
 | .next=>∃ σ' H',Inv X pins σ' H' s'∧D.nx σ' H'
 | .brk=>∃ σ' H',Inv X pins σ' H' s'∧D.bk σ' H'
 | .cont=>∃ σ' H',Inv X pins σ' H' s'∧D.ct σ' H'
 | .ret u=>∃ v σ' H',Inv X pins σ' H' s'∧RelV v u∧D.rt v H'
def PE (X:Cx) (e:Expr) (t:TE):Prop :=
 ∀ (pins:List (Addr×Obj)) (s:W2) (σ:St) (H:Hp) (Q:VK),Inv X pins σ H s→t σ H Q→W9 (model X.prog X.w) X.A (eval e X.env) (EP X pins σ Q) X.xe s
def PT (X:Cx) (e:Expr) (t:TT):Prop :=
 ∀ (pins:List (Addr×Obj)) (s:W2) (σ:St) (H:Hp) (Q:Bool→Hp→Prop),Inv X pins σ H s→t σ H Q→W9 (model X.prog X.w) X.A (isTrue e X.env (eval e X.env)) (TP X pins σ Q) X.xe s
def PW (X:Cx) (e:Expr) (t:TT):Prop :=
 ∀ (whole:Sem Value) (pins:List (Addr×Obj)) (s:W2) (σ:St) (H:Hp) (Q:Bool→Hp→Prop),Inv X pins σ H s→t σ H Q→W9 (model X.prog X.w) X.A (isTrue e X.env whole) (TP X pins σ Q) X.xe s
theorem PW.pt (h:PW X e t):PT X e t:=h _
def PA (X:Cx) (es:List Expr) (t:TA):Prop :=
 ∀ (pos:Pos) (pins:List (Addr×Obj)) (s:W2) (σ:St) (H:Hp) (Q:List V→Hp→Prop),Inv X pins σ H s→t σ H Q→W9 (model X.prog X.w) X.A (spliced (WT pos (W7 es X.env))) (AP X pins σ Q) X.xe s
def PS (X:Cx) (st:Stmt) (t:TS):Prop :=
 ∀ (pins:List (Addr×Obj)) (s:W2) (σ:St) (H:Hp) (D:Ends),Inv X pins σ H s→t D σ H→W9 (model X.prog X.w) X.A (exec st X.env) (SP X pins D) X.xe s
def PSs (X:Cx) (st:List Stmt) (t:TS):Prop :=
 ∀ (pins:List (Addr×Obj)) (s:W2) (σ:St) (H:Hp) (D:Ends),Inv X pins σ H s→t D σ H→W9 (model X.prog X.w) X.A (execs st X.env) (SP X pins D) X.xe s
theorem thn (h:W9 M A t Q E s) (hQ:∀ a s,Q a s→Q' a s):W9 M A t Q' E s:=WL h hQ fun _ _ x=>x
section
variable {X:Cx}
theorem bin {a b:Expr} {ta tb:TE} (ha:PE X a ta) (hb:PE X b tb) {pins:List (Addr×Obj)} {s:W2} {σ:St} {H:Hp} {R:V→V→Hp→Prop} (I:Inv X pins σ H s) (h:ta σ H fun x H1=>tb σ H1 fun y H2=>R x y H2)
  {α:Type} {Q:α→W2→Prop} {f:Value→Value→Sem α}
  (hf:∀ v u s2 x y H2,Inv X pins σ H2 s2→RelV x v→RelV y u→R x y H2→W9 (model X.prog X.w) X.A (f v u) Q X.xe s2) :
  W9 (model X.prog X.w) X.A (eval a X.env) (fun v s₁=>W9 (model X.prog X.w) X.A (eval b X.env) (fun u s₂=>W9 (model X.prog X.w) X.A (f v u) Q X.xe s₂) X.xe s₁) X.xe s:=by
 refine thn (ha pins s σ H _ I h) fun v s1 ⟨x,H1,I1,r1,q1⟩=>?_
 refine thn (hb pins s1 σ H1 _ I1 q1) fun u s2 ⟨y,H2,I2,r2,q2⟩=>?_
 exact hf v u s2 x y H2 I2 r1 r2 q2
def tVar (i:Nat):TE:=fun σ H Q=>∃ v,σ[i]? = some (some v)∧Q v H
def tC (v:V):TE:=fun _ H Q=>Q v H
theorem zfm (hN:X.N[i]? = some x) (hv:Vis X.env.scope x) (hd:(x == ("__debug__" : Str))=false:=by decide) (hcd:(x == ("__classdict__" : Str))=false:=by decide):PE X (.Name x pos) (tVar i):=by
 intro pins s σ H Q I h
 obtain ⟨v,e,h⟩:=h
 obtain ⟨m,hn,hl⟩:=I.loc
 obtain ⟨u,r,l⟩:=hl i x v hN e hv
 have fin:EP X pins σ Q u s:=⟨v,H,I,r,h⟩
 rcases l with ⟨hk,hm⟩ | ⟨hk,c,hc,hcell⟩
 ·exact wpAny_Name (wpAny_loadName_local I.ok.kind hk hn hm fin) hd
 ·rcases hk with hk | hk
  ·exact wpAny_Name (wpAny_loadName_cell I.ok.kind hk hc hcell fin) hd
  ·exact wpAny_Name (wpAny_loadName_free I.ok.kind hk hc hcell fin hcd) hd
theorem zd1 {i j pos}:PE X (.Constant (.int i) j pos) (tC (.int i)):=fun _ _ _ H _ I h=>wpAny_Constant_int ⟨.int i,H,I.tok _,⟨_,rfl⟩,h⟩
theorem ze5 {b j pos}:PE X (.Constant (.bool b) j pos) (tC (.bl b)):=fun _ _ _ H _ I h=>Constant_bool ⟨.bl b,H,I,rfl,h⟩
theorem zft {j pos}:PE X (.Constant .none j pos) (tC .non):=fun _ _ _ H _ I h=>Constant_none ⟨.non,H,I,rfl,h⟩
theorem zd0 {x j pos}:PE X (.Constant (.str x) j pos) (tC (.str x)):=fun _ _ _ H _ I h=>Calls.Constant_str ⟨.str x,H,I.tok _,⟨_,rfl⟩,h⟩
def Gl (X:Cx) (x:Str):Prop:=X.env.kindOf x=some .globalImplicit
theorem z39 (I:Inv X pins σ H s) (hg:Gl X x) (hm:X.mg x=some u) (h:Q u s)
  (hd:(x == ("__debug__" : Str))=false:=by decide):W9 (model X.prog X.w) X.A (eval (.Name x pos) X.env) Q E s :=
 Calls.Name_function_global I.ok.kind hg (Calls.loadGlobal_global (by rw [I.ok.glob]; exact I.mod.glob.keeps I.bk) hm h) hd
theorem z64 (I:Inv X pins σ H s) (hg:Gl X x) (hm:X.mg x=none) (hv:Qg x=some u) (h:Q u s)
  (hn:x≠"__name__":=by decide) (hd:(x == ("__debug__" : Str))=false:=by decide):W9 (model X.prog X.w) X.A (eval (.Name x pos) X.env) Q E s:=by
 obtain ⟨mb,h1,h2⟩:=I.mod.blt
 exact Calls.Name_function_global I.ok.kind hg (Calls.loadGlobal_builtin (by rw [I.ok.glob]; exact I.mod.glob.keeps I.bk) hm (by rw [I.ok.blt]; exact h1.keeps I.bk) ((h2 x hn).trans hv) h) hd
theorem ze1 (hg:Gl X x) (hm:X.mg x=some u) (r:RelV v u) (hd:(x == ("__debug__" : Str))=false:=by decide):PE X (.Name x pos) (tC v) :=
 fun _ _ _ H _ I h=>z39 I hg hm ⟨v,H,I,r,h⟩ hd
theorem zas (hg:Gl X x) (hm:X.mg x=none) (hv:Qg x=some u) (r:RelV v u) (hn:x≠"__name__":=by decide) (hd:(x == ("__debug__" : Str))=false:=by decide):PE X (.Name x pos) (tC v) :=
 fun _ _ _ H _ I h=>z64 I hg hm hv ⟨v,H,I,r,h⟩ hn hd
variable {a b:Expr} {ta tb:TE} {pos:Pos}
def PC (X:Cx) (op:CmpOp) (a b:Expr) (t:TE):Prop :=
 ∀ (pins:List (Addr×Obj)) (s:W2) (σ:St) (H:Hp) (Q:VK),Inv X pins σ H s→t σ H Q →
  W9 (model X.prog X.w) X.A (eval a X.env) (fun v s₁=>W9 (model X.prog X.w) X.A (eval b X.env) (fun u s₂=>W9 (model X.prog X.w) X.A (WA op v u) (EP X pins σ Q) X.xe s₂) X.xe s₁) X.xe s
theorem zcj (b:Expr) (h:op≠.In) (h2:op≠.NotIn):Qj op b=false:=by
 have e1:(op == CmpOp.In)=false:=by cases op <;> first | rfl | exact absurd rfl h
 have e2:(op == CmpOp.NotIn)=false:=by cases op <;> first | rfl | exact absurd rfl h2
 cases b <;> simp [Qj,e1,e2]
def tB (t:TE):TT:=fun σ H Q=>t σ H fun x H1=>∃ c,x = .bl c∧Q c H1
theorem pt_cmp (h:PC X op a b t) (h1:Qj op b=false:=by first | exact zcj _ (by decide) (by decide) | rfl):PT X (.Compare a [op] [b] pos) (tB t):=by
 intro pins s σ H Q I hw
 refine wpAny_isTrue_Compare1 (thn (h pins s σ H _ I hw) fun v s1 h1=>thn h1 fun u s2 h2=>thn h2 fun c s3 ⟨x,H1,I1,r1,q1⟩=>?_) h1
 obtain ⟨d,rfl,q⟩:=q1
 cases r1
 exact Qy ⟨H1,I1,q⟩
theorem zfh (h:PE X e t) (he:∀ whole,isTrue e X.env whole=(do let v ← whole; standAt e.pos; holding [v] (truthy v)):=by intro _; rfl):PT X e (tB t):=by
 intro pins s σ H Q I hw
 refine isTrue_plain (thn (h pins s σ H _ I hw) fun v s1 ⟨x,H1,I1,r1,q1⟩=>?_) (he _)
 obtain ⟨d,rfl,q⟩:=q1
 cases r1
 exact Qy ⟨H1,I1,q⟩
variable {tA tB':TT} {rest:List Expr}
def tAnd (t u:TT):TT:=fun σ H Q=>t σ H fun c H1=>if c=true then u σ H1 Q else Q false H1
def tOr (t u:TT):TT:=fun σ H Q=>t σ H fun c H1=>if c=true then Q true H1 else u σ H1 Q
def tNot (t:TT):TT:=fun σ H Q=>t σ H fun c H1=>Q (!c) H1
theorem zdN (ha:PT X a tA):PW X (.BoolOp .And [a] pos) tA:=by
 intro wh pins s σ H Q I h
 refine isTrue_and (thn (ha pins s σ H Q I h) fun c s1 e=>?_)
 cases c with
 | true=>exact isTrue_and_nil e
 | false=>exact e
theorem zff (ha:PT X a tA):PW X (.BoolOp .Or [a] pos) tA:=by
 intro wh pins s σ H Q I h
 refine isTrue_or (thn (ha pins s σ H Q I h) fun c s1 e=>?_)
 cases c with
 | false=>exact isTrue_or_nil e
 | true=>exact e
theorem zfg (ha:PT X a tA) (hb:PW X (.BoolOp .And (b :: rest) pos) tB'):PW X (.BoolOp .And (a :: b :: rest) pos) (tAnd tA tB'):=by
 intro wh pins s σ H Q I h
 refine isTrue_and (thn (ha pins s σ H _ I h) fun c s1 ⟨H1,I1,q1⟩=>?_)
 cases c with
 | true=>exact hb wh pins s1 σ H1 Q I1 q1
 | false=>exact ⟨H1,I1,q1⟩
theorem pw_or (ha:PT X a tA) (hb:PW X (.BoolOp .Or (b :: rest) pos) tB'):PW X (.BoolOp .Or (a :: b :: rest) pos) (tOr tA tB'):=by
 intro wh pins s σ H Q I h
 refine isTrue_or (thn (ha pins s σ H _ I h) fun c s1 ⟨H1,I1,q1⟩=>?_)
 cases c with
 | true=>exact ⟨H1,I1,q1⟩
 | false=>exact hb wh pins s1 σ H1 Q I1 q1
theorem zfi (ha:PT X a tA):PT X (.UnaryOp .Not a pos) (tNot tA):=by
 intro pins s σ H Q I h
 exact isTrue_not (ha pins s σ H (fun c H1=>Q (!c) H1) I h)
def tAndV (ta tb:TE):TE:=fun σ H Q=>ta σ H fun x H1=>∃ c,x = .bl c∧if c=true then tb σ H1 Q else Q (.bl false) H1
def tNotV (ta:TE):TE:=fun σ H Q=>ta σ H fun x H1=>∃ c,x = .bl c∧Q (.bl (!c)) H1
theorem zfr {op} (h:PE X a t):PE X (.BoolOp op [a] pos) t:=fun pins s σ H Q I hw=>BoolOp_one (h pins s σ H Q I hw)
theorem zfy (ha:PE X a ta) (hb:PE X (.BoolOp .And (b :: rest) pos) tb):PE X (.BoolOp .And (a :: b :: rest) pos) (tAndV ta tb):=by
 intro pins s σ H Q I h
 refine BoolOp_and (thn (ha pins s σ H _ I h) fun v s1 ⟨x,H1,I1,r1,q1⟩=>?_)
 obtain ⟨c,rfl,q1⟩:=q1
 cases r1
 refine Qy ?_
 cases c with
 | true=>exact hb pins s1 σ H1 Q I1 q1
 | false=>exact ⟨.bl false,H1,I1,rfl,q1⟩
theorem zfs (ha:PE X a ta):PE X (.UnaryOp .Not a pos) (tNotV ta):=by
 intro pins s σ H Q I h
 refine UnaryOp_ (thn (ha pins s σ H _ I h) fun v s1 ⟨x,H1,I1,r1,q1⟩=>?_)
 obtain ⟨c,rfl,q1⟩:=q1
 cases r1
 exact not_of (Qy ⟨.bl (!c),H1,I1,rfl,q1⟩)
end
def SqL (K:W0) (H:Hp) (a:Addr) (xs:List V):Prop :=
 Rd H a (.lst xs) ∨
  ∃ (o:Obj) (its:Array Value) (n:Nat),K.lookup a=some o∧o.cls = .type "list"∧o.dict=none∧o.data = .seq its n∧its.size≤W3∧Vals xs its.toList
def SqT (K:W0) (H:Hp) (a:Addr) (xs:List V):Prop :=
 Rd H a (.tup xs) ∨
  ∃ (o:Obj) (its:Array Value) (n:Nat),K.lookup a=some o∧o.cls = .type "tuple"∧o.data = .seq its n∧its.size≤W3∧Vals xs its.toList
def absV:Value→Option V
 | .none=>some .non
 | .bool b=>some (.bl b)
 | .int i _=>some (.int i)
 | .str x _=>some (.str x)
 | .bytes b _=>some (.byt b)
 | .float b _=>some (.flt b)
 | .ref a=>some (.ref a)
 | .type n=>some (.ty n)
 | _=>none
theorem RelV.abs (r:RelV x u):absV u=some x:=by
 cases x with
 | non=>cases r; rfl
 | bl _=>cases r; rfl
 | int _=>obtain ⟨t,rfl⟩:=r; rfl
 | str _=>obtain ⟨t,rfl⟩:=r; rfl
 | byt _=>obtain ⟨t,rfl⟩:=r; rfl
 | flt _=>obtain ⟨t,rfl⟩:=r; rfl
 | ref _=>cases r; rfl
 | ty _=>cases r; rfl
theorem RelV.inj (r:RelV x u) (q:RelV y u):x=y:=Wt (r.abs.symm.trans q.abs)
theorem Vals.inj:∀ {xs ys:List V} {us:List Value},Vals xs us→Vals ys us→xs=ys
 | _,_,_,.nil,.nil=>rfl
 | _,_,_,.cons r t,.cons r' t'=>by rw [r.inj r',Vals.inj t t']
section
variable {X:Cx} {pins:List (Addr×Obj)} {σ:St} {H:Hp} {s:W2} {a:Addr} {xs ys:List V}
theorem SqL.of {K:W0} (h:H a=some (.lst xs)):SqL K H a xs:=.inl (.inl h)
theorem SqT.of {K:W0} (h:H a=some (.tup xs)):SqT K H a xs:=.inl (.inl h)
theorem Inv.list (I:Inv X pins σ H s) (h:SqL X.K H a xs):∃ its:List Value,Vals xs its∧PlainL s.heap a its.toArray∧xs.length≤W3:=by
 rcases h with h | ⟨o,its,n,hk,hc,hd,hs,hz,r⟩
 ·obtain ⟨z,its,n,r,e⟩:=h.ok I.hok
  exact ⟨its,r,⟨_,n,e,rfl,rfl,rfl⟩,z⟩
 ·refine ⟨its.toList,r,⟨o,n,I.kIn a o hk,hc,hd,by simpa using hs⟩,?_⟩
  have e:=r.length
  simp only [Array.length_toList] at e
  omega
theorem Inv.tuple (I:Inv X pins σ H s) (h:SqT X.K H a xs):∃ its:List Value,Vals xs its∧IsTup s.heap a its.toArray∧xs.length≤W3:=by
 rcases h with h | ⟨o,its,n,hk,hc,hs,hz,r⟩
 ·obtain ⟨z,its,r,p⟩:=h.ok I.hok
  exact ⟨its,r,p.tup,z⟩
 ·refine ⟨its.toList,r,⟨o,I.kIn a o hk,hc,n,by simpa using hs⟩,?_⟩
  have e:=r.length
  simp only [Array.length_toList] at e
  omega
theorem Inv.list_inj (I:Inv X pins σ H s) (h:SqL X.K H a xs) (h':SqL X.K H a ys):xs=ys:=by
 obtain ⟨its,r,⟨o,n,e,_,_,d⟩,_⟩:=I.list h
 obtain ⟨its',r',⟨o',n',e',_,_,d'⟩,_⟩:=I.list h'
 rw [e] at e'; cases e'
 rw [d] at d'
 injection d' with d1 _
 have:its=its':=by simpa using congrArg Array.toList d1
 subst this
 exact r.inj r'
theorem Inv.tuple_inj (I:Inv X pins σ H s) (h:SqT X.K H a xs) (h':SqT X.K H a ys):xs=ys:=by
 obtain ⟨its,r,⟨o,e,_,n,d⟩,_⟩:=I.tuple h
 obtain ⟨its',r',⟨o',e',_,n',d'⟩,_⟩:=I.tuple h'
 rw [e] at e'; cases e'
 rw [d] at d'
 injection d' with d1 _
 have:its=its':=by simpa using congrArg Array.toList d1
 subst this
 exact r.inj r'
end
abbrev Cx.wish (X:Cx) (E:Value→W2→Prop):Cx:={ X with xe:=E }
abbrev Cx.nox (X:Cx):Cx:=X.wish fun _ _=>False
theorem Cx.Ok.wish {X:Cx} (ok:X.Ok) (E:Value→W2→Prop):(X.wish E).Ok :=
 ⟨ok.mod,ok.kind,ok.glob,ok.blt,ok.above,ok.inj,ok.has,ok.cab,ok.hd,ok.frames,ok.stk,ok.exf,ok.bs,ok.bsz,ok.noex,ok.exfs,ok.funs,ok.frf⟩
theorem Cx.Ok.unwish {X:Cx} {E:Value→W2→Prop} (ok:(X.wish E).Ok):X.Ok :=
 ⟨ok.mod,ok.kind,ok.glob,ok.blt,ok.above,ok.inj,ok.has,ok.cab,ok.hd,ok.frames,ok.stk,ok.exf,ok.bs,ok.bsz,ok.noex,ok.exfs,ok.funs,ok.frf⟩
section
variable {X:Cx} {pins:List (Addr×Obj)} {σ:St} {H:Hp} {s:W2} {E:Value→W2→Prop}
theorem Inv.wish (I:Inv X pins σ H s) (E:Value→W2→Prop):Inv (X.wish E) pins σ H s:=⟨I.ok.wish E,I.os,I.bare,I.base,I.loc,I.cell,I.free,I.freeC,I.pin,I.hok,I.len⟩
theorem Inv.unwish (I:Inv (X.wish E) pins σ H s):Inv X pins σ H s:=⟨I.ok.unwish,I.os,I.bare,I.base,I.loc,I.cell,I.free,I.freeC,I.pin,I.hok,I.len⟩
theorem SP.unwish (h:SP (X.wish E) pins D f s'):SP X pins D f s':=by
 cases f with
 | next=>obtain ⟨σ',H',I,q⟩:=h; exact ⟨σ',H',I.unwish,q⟩
 | brk=>obtain ⟨σ',H',I,q⟩:=h; exact ⟨σ',H',I.unwish,q⟩
 | cont=>obtain ⟨σ',H',I,q⟩:=h; exact ⟨σ',H',I.unwish,q⟩
 | ret u=>obtain ⟨v,σ',H',I,r,q⟩:=h; exact ⟨v,σ',H',I.unwish,r,q⟩
theorem PE.nox (h:PE X.nox e t):PE X e t:=fun pins s σ H Q I hw =>
 WL (h pins s σ H Q (I.wish _) hw) (fun _ _ ⟨v,H',I',r,q⟩=>⟨v,H',I'.unwish,r,q⟩) fun _ _ z=>False.elim z
theorem PT.nox (h:PT X.nox e t):PT X e t:=fun pins s σ H Q I hw =>
 WL (h pins s σ H Q (I.wish _) hw) (fun _ _ ⟨H',I',q⟩=>⟨H',I'.unwish,q⟩) fun _ _ z=>False.elim z
theorem PSs.nox {st:List Stmt} {t:TS} (h:PSs X.nox st t):PSs X st t:=fun pins s σ H D I hw =>
 WL (h pins s σ H D (I.wish _) hw) (fun _ _ q=>q.unwish) fun _ _ z=>False.elim z
end
section
variable {X:Cx} {st:Stmt} {rest:List Stmt} {t u:TS} {e:Expr} {te:TE} {pos:Pos}
def tNext:TS:=fun D σ H=>D.nx σ H
def tSeq (t u:TS):TS:=fun D σ H=>t { D with nx:=u D } σ H
theorem zdR:PSs X [] tNext:=fun _ _ σ H _ I h=>Ja ⟨σ,H,I,h⟩
theorem zbY (h1:PS X st t) (h2:PSs X rest u):PSs X (st :: rest) (tSeq t u):=by
 intro pins s σ H D I h
 refine wpAny_execs_cons (thn (h1 pins s σ H { D with nx:=u D } I h) fun f s1 q=>?_)
 cases f with
 | next =>
  obtain ⟨σ',H',I',q⟩:=q
  exact h2 pins s1 σ' H' D I' q
 | ret v=>exact q
 | brk=>exact q
 | cont=>exact q
theorem zah (h1:PS X st t):PSs X [st] t:=by
 intro pins s σ H D I h
 refine wpAny_execs_cons (thn (h1 pins s σ H D I h) fun f s1 q=>?_)
 cases f with
 | next=>exact Ja q
 | ret v=>exact q
 | brk=>exact q
 | cont=>exact q
theorem Inv.quiet (I:Inv X pins σ H s):interactive X.env=false:=by simp [interactive,I.ok.kind]
def zdk (te:TE):TS:=fun D σ H=>te σ H fun _ H1=>D.nx σ H1
theorem zal (he:PE X e te) (hs:QW e none pos.line X.env=pure false:=by rfl):PS X (.Expr e pos) (zdk te):=by
 intro pins s σ H D I h
 exact wpAny_Expr_any (thn (he pins s σ H _ I h) fun v s1 ⟨x,H1,I1,r1,q1⟩=>⟨σ,H1,I1,q1⟩) I.quiet hs
def tRet (te:TE):TS:=fun D σ H=>te σ H D.rt
theorem zcX (he:PE X e te):PS X (.Return (some e) pos) (tRet te):=by
 intro pins s σ H D I h
 exact wpAny_Return_some (thn (he pins s σ H _ I h) fun v s1 ⟨x,H1,I1,r1,q1⟩=>⟨x,σ,H1,I1,r1,q1⟩)
def tIfS (c:TT) (t u:TS):TS:=fun D σ H=>c σ H fun b H1=>if b=true then t D σ H1 else u D σ H1
theorem ps_if (hc:PT X c tc) (ha:PSs X a t) (hb:PSs X b u):PS X (.If c a b pos) (tIfS tc t u):=by
 intro pins s σ H D I h
 refine wpAny_If (thn (hc pins s σ H _ I h) fun d s1 ⟨H1,I1,q1⟩=>?_)
 cases d with
 | true=>exact ha pins s1 σ H1 D I1 q1
 | false=>exact hb pins s1 σ H1 D I1 q1
end
abbrev TG:=V→St→Hp→(St→Hp→Prop)→Prop
abbrev TGs:=List V→St→Hp→(St→Hp→Prop)→Prop
def PG (X:Cx) (target:Expr) (t:TG):Prop :=
 ∀ (pins:List (Addr×Obj)) (s:W2) (σ:St) (H:Hp) (v:V) (u:Value) (Q:St→Hp→Prop),Inv X pins σ H s→RelV v u→t v σ H Q →
  W9 (model X.prog X.w) X.A (assign target X.env u) (fun _ s'=>∃ σ' H',Inv X pins σ' H' s'∧Q σ' H') X.xe s
def PGs (X:Cx) (ts:List Expr) (t:TGs):Prop :=
 ∀ (pins:List (Addr×Obj)) (s:W2) (σ:St) (H:Hp) (vs:List V) (us:List Value) (Q:St→Hp→Prop),Inv X pins σ H s→Vals vs us→t vs σ H Q →
  W9 (model X.prog X.w) X.A (assignInOrder ((Q8 ts X.env).map (·.2)) us) (fun _ s'=>∃ σ' H',Inv X pins σ' H' s'∧Q σ' H') X.xe s
abbrev TSet:=V→V→V→Hp→(Hp→Prop)→Prop
def PSet (X:Cx) (t:TSet):Prop :=
 ∀ (pins:List (Addr×Obj)) (s:W2) (σ:St) (H:Hp) (o i v:V) (ov iv u:Value) (Q:Hp→Prop),Inv X pins σ H s→RelV o ov→RelV i iv→RelV v u→t o i v H Q →
  W9 (model X.prog X.w) X.A (setItem ov iv u) (fun _ s'=>∃ H',Inv X pins σ H' s'∧Q H') X.xe s
section
variable {X:Cx} {pos:Pos}
def zcy (i:Nat):TG:=fun v σ H Q=>Q (σ.set i (some v)) H
theorem zap (hN:X.N.Nodup) (hi:X.N[i]? = some x) (hx:Loc X.env.scope x) (hf:X.fn x=true∨X.env.scope.names.lookup x=some .local:=by first | exact .inl rfl | exact .inr rfl | assumption):PG X (.Name x pos) (zcy i):=by
 intro pins s σ H v u Q I r h
 exact wpAny_assign_Name (z8z I hN hi hx r (fun s' I'=>⟨_,H,I',h⟩) hf)
def gNil:TGs:=fun vs σ H Q=>vs=[]∧Q σ H
def gCons (t:TG) (u:TGs):TGs:=fun vs σ H Q=>∃ v r,vs=v :: r∧t v σ H fun σ' H'=>u r σ' H' Q
theorem zao:PGs X [] gNil:=by
 intro pins s σ H vs us Q I r h
 obtain ⟨e,h⟩:=h
 subst e
 cases r
 exact assignInOrder_nil ⟨σ,H,I,h⟩
theorem z8I (h1:PG X e t) (h2:PGs X es u)
  (hs:(Q8 (e :: es) X.env).map (·.2)=assign e X.env :: (Q8 es X.env).map (·.2):=by rfl):PGs X (e :: es) (gCons t u):=by
 intro pins s σ H vs us Q I r h
 obtain ⟨v,vr,e1,h⟩:=h
 subst e1
 cases r with
 | cons r rr =>
  rw [hs]
  refine assignInOrder_cons (thn (h1 pins s σ H _ _ _ I r h) fun _ s1 ⟨σ1,H1,I1,q1⟩=>?_)
  exact h2 pins s1 σ1 H1 _ _ Q I1 rr q1
def gTup (K:W0) (n:Nat) (t:TGs):TG:=fun v σ H Q=>∃ a xs,v = .ref a∧SqT K H a xs∧xs.length=n∧t xs σ H Q
theorem zcZ (hc:X.calm=true) (h:PGs X es t)
  (hn:(Q8 es X.env).length=n:=by rfl) (hst:(Q8 es X.env).findIdx? (·.1)=none:=by rfl):PG X (.Tuple es k pos) (gTup X.K n t):=by
 intro pins s σ H v u Q I r hw
 obtain ⟨a,xs,e1,hq,hl,hw⟩:=hw
 subst e1
 cases r
 obtain ⟨its,rv,ht,hz⟩:=I.tuple hq
 refine assign_Tuple_tuple (I.ok.hd hc) ht (by simp [hn,← hl,rv.length]) hst fun h' hx=>?_
 have I1:Inv X pins σ H { s with heap:=h' }:=I.kept (t':=s.toks) fun b o e=>hx b o (Ws (Wg e)) e
 exact h pins _ σ H xs _ Q I1 (by simpa using rv) hw
def gSub (to ti:TE) (t:TSet):TG:=fun v σ H Q=>to σ H fun o H1=>ti σ H1 fun i H2=>t o i v H2 fun H3=>Q σ H3
theorem zfl (ho:PE X o to) (hi:PE X i ti) (hs:PSet X t)
  (ha:∀ v,assign (.Subscript o i pos) X.env v=(do
   let ov ← holding [v] (eval o X.env)
   let iv ← holding [v,ov] (eval i X.env)
   standAt pos
   holding [v,ov,iv] (setItem ov iv v)
   release [v,ov,iv] []):=by intro _; rfl):PG X (.Subscript o i pos) (gSub to ti t):=by
 intro pins s σ H v u Q I r h
 rw [ha]
 refine W1 (Q3 (thn (ho pins s σ H _ I h) fun ov s1 ⟨x,H1,I1,r1,q1⟩=>?_))
 refine W1 (Q3 (thn (hi pins s1 σ H1 _ I1 q1) fun iv s2 ⟨y,H2,I2,r2,q2⟩=>?_))
 refine W1 (wpAny_standAt (W1 (Q3 (thn (hs pins s2 σ H2 x y v ov iv u _ I2 r1 r2 r q2) fun _ s3 ⟨H3,I3,q3⟩=>?_))))
 exact wpAny_release ⟨σ,H3,I3,q3⟩
def tAsg (te:TE) (g:TG):TS:=fun D σ H=>te σ H fun x H1=>g x σ H1 D.nx
theorem zcY (he:PE X e te) (hg:PG X tg g) (hs:swapsWithSole [tg] e pos.line X.env=pure false:=by rfl) (hw:swappedStores [tg] e X.env=pure none:=by rfl)
  (h1:(Q8 [tg] X.env).map (·.2)=[assign tg X.env]:=by rfl):PS X (.Assign [tg] e pos) (tAsg te g):=by
 intro pins s σ H D I h
 refine wpAny_Assign_stores (thn (he pins s σ H _ I h) fun v s1 ⟨x,H1,I1,r1,q1⟩=>?_) hs hw
 rw [h1]
 exact thn (hg pins s1 σ H1 x v _ I1 r1 q1) fun _ s2 q=>q
theorem zfj (hN:X.N.Nodup) (hi:X.N[i]? = some x) (hx:Loc X.env.scope x) (he:PE X e te) (hs:QW e (some (.Name x pos')) pos.line X.env=pure false:=by rfl) (hf:X.fn x=true∨X.env.scope.names.lookup x=some .local:=by first | exact .inl rfl | exact .inr rfl | assumption) :
  PS X (.Assign [.Name x pos'] e pos) (tAsg te (zcy i)):=by
 intro pins s σ H D I h
 refine wpAny_Assign_Name (thn (he pins s σ H _ I h) fun v s1 ⟨y,H1,I1,r1,q1⟩=>?_) hs
 exact z8z I1 hN hi hx r1 (fun s2 I2=>⟨_,H1,I2,q1⟩) hf
end
section
variable {X:Cx} {pos:Pos}
def zcS (c:TT) (tb:TS):TS:=fun D σ H=>∃ W:Nat→St→Hp→Prop,(∃ m,W m σ H)∧∀ m σ H,W m σ H →
 c σ H fun b H1=>if b=true then ∃ N:St→Hp→Prop,(∀ σ' H',N σ' H'→∃ m',m' < m∧W m' σ' H')∧tb { D with nx:=N,ct:=N,bk:=D.nx } σ H1 else D.nx σ H1
theorem zbZ (hp:PassesOwn (model X.prog X.w) X.A X.env X.xe) (hc:PT X c tc) (hb:PSs X body tb):PS X (.While c body [] pos) (zcS tc tb):=by
 intro pins s σ H D I h
 obtain ⟨W,⟨m0,w0⟩,turn⟩:=h
 refine wpAny_While (codeAny_whileLoop (fun n s'=>∃ σ' H',Inv X pins σ' H' s'∧W n σ' H') ?_ m0 ⟨σ,H,I,w0⟩)
 rintro n s1 ⟨σ1,H1,I1,w1⟩
 refine QI hp (thn (hc pins s1 σ1 H1 _ I1 (turn n σ1 H1 w1)) fun b s2 ⟨H2,I2,q2⟩=>?_)
 cases b with
 | true =>
  obtain ⟨N,hN,q2⟩:=q2
  rw [if_pos rfl]
  refine QI hp (thn (hb pins s2 σ1 H2 _ I2 q2) fun f s3 q3=>?_)
  cases f with
  | next =>
   obtain ⟨σ3,H3,I3,n3⟩:=q3
   obtain ⟨m',hm,w3⟩:=hN σ3 H3 n3
   exact ⟨m',hm,σ3,H3,I3,w3⟩
  | cont =>
   obtain ⟨σ3,H3,I3,n3⟩:=q3
   obtain ⟨m',hm,w3⟩:=hN σ3 H3 n3
   exact ⟨m',hm,σ3,H3,I3,w3⟩
  | brk=>exact q3
  | ret v=>exact q3
 | false =>
  rw [if_neg WP]
  exact Ja ⟨σ1,H2,I2,q2⟩
end
structure It where
 go:Nat→Hp→Prop
 yld:Nat→Hp→V→Hp→Prop
 stop:Nat→Hp→Prop
def FpOk (X:Cx) (pins:List (Addr×Obj)) (H:Hp) (b:Addr):Prop :=
 H b=none∧b≠X.env.locals∧b ∉ X.fs∧(b ∈ X.ex∨X.s₀.heap.objs.size≤b)∧(∀ x c,X.env.cells.lookup x=some c→c≠b)∧∀ p ∈ X.pn ++ pins,p.1≠b
theorem Inv.fpOk (I:Inv X pins σ H s) (hb:s.heap.objs.size≤b) (hn:H' b=none):FpOk X pins H' b:=by
 refine ⟨hn,Nat.ne_of_gt (Wy I.lt hb),I.nofs hb,.inr (WI I.sz hb),fun x c e z=>?_,fun p hp z=>?_⟩
 ·obtain ⟨v,q⟩:=I.cell x c e
  exact absurd (Wy q.lt (by rw [z]; exact hb)) (Qs _)
 ·exact absurd (Wy (Wg (I.pin p hp).1) (by rw [z]; exact hb)) (Qs _)
structure Turn (P:Wj) (w:Wp) (K:W0) (tg:Expr) (J:It) (fp:List Addr) (it:Addr) (tn:Nat→Heap→Prop):Prop where
 mem:it ∈ fp
 obj:∀ i h,tn i h→∀ b ∈ fp,∃ o,h.get? b=some o∧∀ v,o.data≠.cell v
 keep:∀ i h h',tn i h→(∀ b ∈ fp,∀ o,h.get? b=some o→h'.get? b=some o)→tn i h'
 item:∀ (X:Cx),X.prog=P→X.w=w→X.K=K→X.calm=true→∀ (i:Nat) (pins:List (Addr×Obj)) (s:W2) (σ:St) (H:Hp) (E:Value→W2→Prop),Inv X pins σ H s→(∀ b ∈ fp,FpOk X pins H b)→tn i s.heap→J.go i H →
  W9 (model P w) X.A (pyNext (.ref it)) (fun r s1=>∃ u,r=some u ∧
   W9 (model P w) X.A (letOwnedTupleGo tg (.ref it) u) (fun _ s2=>∃ x H',Inv X pins σ H' s2∧RelV x u∧J.yld i H x H'∧tn (i + 1) s2.heap∧∀ b ∈ fp,H' b=none) E s1) E s
 done:∀ (X:Cx),X.prog=P→X.w=w→X.K=K→X.calm=true→∀ (i:Nat) (pins:List (Addr×Obj)) (s:W2) (σ:St) (H:Hp) (E:Value→W2→Prop),Inv X pins σ H s→(∀ b ∈ fp,FpOk X pins H b)→tn i s.heap→J.stop i H →
  W9 (model P w) X.A (pyNext (.ref it)) (fun r s1=>r=none∧Inv X pins σ H s1) E s
 self:∀ (A:Wo) (i:Nat) (s:W2) (Q:Value→W2→Prop) (E:Value→W2→Prop),tn i s.heap→Q (.ref it) s→W9 (model P w) A (pyIter (.ref it)) Q E s
abbrev TI:=St→Hp→(It→Hp→Prop)→Prop
def PIE (X:Cx) (pins:List (Addr×Obj)) (σ:St) (tg:Expr) (R:It→Hp→Prop) (itv:Value) (s2:W2):Prop :=
 ∃ (it:Addr) (fp:List Addr) (tn:Nat→Heap→Prop) (J:It) (H':Hp),itv = .ref it∧Inv X pins σ H' s2∧Turn X.prog X.w X.K tg J fp it tn∧tn 0 s2.heap∧(∀ b ∈ fp,FpOk X pins H' b)∧R J H'
def PI (X:Cx) (tg iter:Expr) (wi:TI):Prop :=
 ∀ (pins:List (Addr×Obj)) (s:W2) (σ:St) (H:Hp) (R:It→Hp→Prop),Inv X pins σ H s→wi σ H R →
  W9 (model X.prog X.w) X.A (eval iter X.env) (fun v s1=>W9 (model X.prog X.w) X.A (pyIter v) (PIE X pins σ tg R) X.xe s1) X.xe s
theorem zcx (ho:s.heap.get? it=some o) (hc:o.cls = .type n) (hd:o.data = .fields vs)
  (hn:["enumerate","zip","dict_itemiterator","dict_reverseitemiterator","odict_iterator","itertools.zip_longest","itertools.pairwise"].contains n=false) (hQ:Q () s):W9 M A (letOwnedTupleGo tg (.ref it) u) Q E s:=by
 unfold letOwnedTupleGo
 cases tg <;> first
  | exact W8 hQ
  | (cases u <;> first
    | exact W8 hQ
    | (refine W1 (wpAny_load ho ?_); rw [hc,hd]; show W9 M A (if (["enumerate","zip","dict_itemiterator","dict_reverseitemiterator","odict_iterator","itertools.zip_longest","itertools.pairwise"].contains n && vs[0]? == some (rawInt _))=true then _ else _) Q E s; rw [if_neg (by intro h; rw [hn,Bool.false_and] at h; cases h)]; exact W8 hQ))
def Itl (K:W0) (a:Addr):It :=
 ⟨fun i H=>∃ xs x,SqL K H a xs∧xs[i]? = some x,fun i H x H'=>H'=H∧∀ xs,SqL K H a xs→xs[i]? = some x,fun i H=>∃ xs,SqL K H a xs∧xs.length≤i⟩
def Itt (K:W0) (a:Addr):It :=
 ⟨fun i H=>∃ xs x,SqT K H a xs∧xs[i]? = some x,fun i H x H'=>H'=H∧∀ xs,SqT K H a xs→xs[i]? = some x,fun i H=>∃ xs,SqT K H a xs∧xs.length≤i⟩
def Itr (lo:Int) (n:Nat):It:=⟨fun i _=>i < n,fun i H x H'=>H'=H∧x = .int (lo + i),fun i _=>n≤i⟩
theorem z9N {P:Wj} {w:Wp} {K:W0} {tg:Expr} (a it:Addr):Turn P w K tg (Itl K a) [it] it (fun i h=>h.IsListIter it a i) where
 mem:=by simp
 obj:=fun i h st b hb=>by
  have e:b=it:=by simpa using hb
  subst e
  obtain ⟨o,e,c,d⟩:=st
  exact ⟨o,e,fun v z=>by rw [d] at z; cases z⟩
 keep:=fun i h h' st k=>st.at fun o e=>k it (by simp) o e
 item:=by
  intro X hP hw hK hc i pins s σ H E I hf st hg
  subst hP hw hK
  obtain ⟨xs,x,hq,hx⟩:=hg
  obtain ⟨its,rv,p,hz⟩:=I.list hq
  obtain ⟨u,hu,ru⟩:=rv.get hx
  obtain ⟨f0,f1,f2,f3,f4,f5⟩:=hf it (by simp)
  refine wpAny_pyNext_list_item st p.isList (x:=u) (by simpa using hu) fun h' st' sb=>?_
  have I1:Inv X pins σ H { s with heap:=h' }:=I.turned (t':=s.toks) (fun b o hb e=>(sb.2 b hb).trans e) f0 f1 f3 f4 f5
  obtain ⟨o,e,c,d⟩:=id st'
  exact ⟨u,rfl,zcx (s:={ s with heap:=h' }) e c d (by decide) ⟨x,H,I1,ru,⟨rfl,fun ys hy=>by rw [I.list_inj hy hq]; exact hx⟩,st',fun b hb=>(hf b hb).1⟩⟩
 done:=by
  intro X hP hw hK hc i pins s σ H E I hf st hg
  subst hP hw hK
  obtain ⟨xs,hq,hx⟩:=hg
  obtain ⟨its,rv,p,hz⟩:=I.list hq
  obtain ⟨f0,f1,f2,f3,f4,f5⟩:=hf it (by simp)
  have hl:=rv.length
  exact wpAny_pyNext_list_end (I.ok.hd hc) st p.isList (by simp; omega) fun h' eb=>⟨rfl,I.turned (t':=s.toks) (fun b o hb e=>eb b o hb e) f0 f1 f3 f4 f5⟩
 self:=fun _ _ _ _ _ st h=>wpAny_pyIter_listiter st h
theorem z9c {P:Wj} {w:Wp} {K:W0} {tg:Expr} (a it:Addr):Turn P w K tg (Itt K a) [it] it (fun i h=>h.IsTupleIter it a i) where
 mem:=by simp
 obj:=fun i h st b hb=>by
  have e:b=it:=by simpa using hb
  subst e
  obtain ⟨o,e,c,d⟩:=st
  exact ⟨o,e,fun v z=>by rw [d] at z; cases z⟩
 keep:=fun i h h' st k=>st.at fun o e=>k it (by simp) o e
 item:=by
  intro X hP hw hK hc i pins s σ H E I hf st hg
  subst hP hw hK
  obtain ⟨xs,x,hq,hx⟩:=hg
  obtain ⟨its,rv,p,hz⟩:=I.tuple hq
  obtain ⟨u,hu,ru⟩:=rv.get hx
  obtain ⟨f0,f1,f2,f3,f4,f5⟩:=hf it (by simp)
  refine wpAny_pyNext_tuple_item st (show s.heap.IsTuple a its.toArray from p) (x:=u) (by simpa using hu) fun h' st' sb=>?_
  have I1:Inv X pins σ H { s with heap:=h' }:=I.turned (t':=s.toks) (fun b o hb e=>(sb.2 b hb).trans e) f0 f1 f3 f4 f5
  obtain ⟨o,e,c,d⟩:=id st'
  exact ⟨u,rfl,zcx (s:={ s with heap:=h' }) e c d (by decide) ⟨x,H,I1,ru,⟨rfl,fun ys hy=>by rw [I.tuple_inj hy hq]; exact hx⟩,st',fun b hb=>(hf b hb).1⟩⟩
 done:=by
  intro X hP hw hK hc i pins s σ H E I hf st hg
  subst hP hw hK
  obtain ⟨xs,hq,hx⟩:=hg
  obtain ⟨its,rv,p,hz⟩:=I.tuple hq
  obtain ⟨f0,f1,f2,f3,f4,f5⟩:=hf it (by simp)
  have hl:=rv.length
  exact wpAny_pyNext_tuple_end (I.ok.hd hc) st (show s.heap.IsTuple a its.toArray from p) (by simp; omega) fun h' eb=>⟨rfl,I.turned (t':=s.toks) (fun b o hb e=>eb b o hb e) f0 f1 f3 f4 f5⟩
 self:=fun _ _ _ _ _ st h=>wpAny_pyIter_tupleiter st h
theorem z9d {P:Wj} {w:Wp} {K:W0} {tg:Expr} (it:Addr) (lo:Int) (n:Nat):Turn P w K tg (Itr lo n) [it] it (fun i h=>IsRangeIter h it (lo + (i:Nat) * 1) ((n:Int) - (i:Nat)) 1) where
 mem:=by simp
 obj:=fun i h st b hb=>by
  have e:b=it:=by simpa using hb
  subst e
  exact ⟨_,st,fun v z=>by
   have z':Data.fields _=Data.cell v:=z
   cases z'⟩
 keep:=fun i h h' st k=>k it (by simp) _ st
 item:=by
  intro X hP hw hK hc i pins s σ H E I hf st hg
  subst hP hw hK
  obtain ⟨f0,f1,f2,f3,f4,f5⟩:=hf it (by simp)
  have W:=Walks.range (prog:=X.prog) (w:=X.w) (I.ok.hd hc) it lo 1 n
  refine W.item i s _ _ hg st fun v h' tk hv st' kk=>?_
  obtain ⟨t,rfl⟩:=hv
  have I1:Inv X pins σ H { s with heap:=h',toks:=tk }:=I.turned (fun b o hb e=>kk b o (by simpa using hb) e) f0 f1 f3 f4 f5
  refine ⟨_,rfl,zcx (s:={ s with heap:=h',toks:=tk }) (n:="range_iterator") st' rfl rfl (by decide) ⟨.int (lo + i),H,I1,⟨t,?_⟩,⟨rfl,rfl⟩,st',fun b hb=>(hf b hb).1⟩⟩
  rw [Int.mul_one]
 done:=by
  intro X hP hw hK hc i pins s σ H E I hf st hg
  subst hP hw hK
  obtain ⟨f0,f1,f2,f3,f4,f5⟩:=hf it (by simp)
  exact wpAny_pyNext_range_end (I.ok.hd hc) st (by have:n≤i:=hg; omega) fun h' eb=>⟨rfl,I.turned (t':=s.toks) (fun b o hb e=>eb b o hb e) f0 f1 f3 f4 f5⟩
 self:=fun _ _ _ _ _ st h=>wpAny_pyIter_rangeiter st h
section
variable {X:Cx} {tg:Expr}
theorem zbN {pins:List (Addr×Obj)} {σ:St} {H:Hp} {s:W2} {R:It→Hp→Prop} {E:Value→W2→Prop} {lo hi:Int} {t u v:Tok} {tk:Nat} (I:Inv X pins σ H s) (h1 : -(2 ^ 62)≤lo) (h2:lo < 2 ^ 62) (h3 : -(2 ^ 62)≤hi) (h4:hi < 2 ^ 62)
  (q:R (Itr lo (hi - lo).toNat) H):W9 (model X.prog X.w) X.A (pyIter (.ref s.heap.objs.size)) (PIE X pins σ tg R) E { s with heap:=s.heap.push { cls:=.type "range",data:=.fields #[.int lo t,.int hi u,.int 1 v] },toks:=tk }:=by
 refine wpAny_pyIter_range (IsRange.new ..) (small_one h1 h2 h3 h4) ?_
 have I1:Inv X pins σ H { s with heap:=s.heap.push { cls:=.type "range",data:=.fields #[.int lo t,.int hi u,.int 1 v] },toks:=tk }:=I.kept fun b o e=>W5 _ e
 refine ⟨(s.heap.push { cls:=.type "range",data:=.fields #[.int lo t,.int hi u,.int 1 v] }).objs.size,[(s.heap.push { cls:=.type "range",data:=.fields #[.int lo t,.int hi u,.int 1 v] }).objs.size],_,_,H,rfl,
  I1.kept (t':=tk) fun b o e=>W5 _ e,z9d _ lo (hi - lo).toNat,?_,fun b hb=>?_,q⟩
 ·have e1:lo + ((0:Nat):Int) * 1=lo:=by simp
  have e2:(((hi - lo).toNat:Nat):Int) - ((0:Nat):Int)=Builtin.Range.rangeSize lo hi 1:=by rw [rangeSize_one]; split <;> omega
  show IsRangeIter _ _ (lo + ((0:Nat):Int) * 1) ((((hi - lo).toNat:Nat):Int) - ((0:Nat):Int)) 1
  rw [e1,e2]
  exact Wq _ rfl
 ·have e:b=(s.heap.push { cls:=.type "range",data:=.fields #[.int lo t,.int hi u,.int 1 v] }).objs.size:=by simpa using hb
  subst e
  exact I1.fpOk (Wc _) (I1.hok.fresh (Wc _))
def iRng1 (ta:TA):TI:=fun σ H R=>ta σ H fun vs H1=>∃ j:Int,vs=[.int j]∧-(2 ^ 62)≤j∧j < 2 ^ 62∧R (Itr 0 j.toNat) H1
theorem zan {a:Expr} {ta:TA} {p pos:Pos} (hg:Gl X "range") (hm:X.mg "range" = none) (ha:PA X [a] ta) (hs:W7 [a] X.env=[(false,eval a X.env)]:=by rfl):PI X tg (.Call (.Name "range" p) [a] [] pos) (iRng1 ta):=by
 intro pins s σ H R I h
 refine Call_ (z64 I hg hm boot_range (QF (thn (ha pos pins s σ H _ I h) fun us s1 ⟨vs,H1,I1,r1,q1⟩=>?_) hs rfl))
 obtain ⟨j,e,q1,q2,q⟩:=q1
 subst e
 cases r1 with
 | cons r rr =>
  cases rr
  obtain ⟨t,rfl⟩:=r
  exact call_range_1 (zbN I1 (by omega) (by omega) q1 q2 (by simpa using q))
def tFor (wi:TI) (g:TG) (tb:TS):TS:=fun D σ H=>wi σ H fun J H1=>∃ W:Nat→Nat→St→Hp→Prop,(∃ m,W 0 m σ H1)∧∀ i m σ H,W i m σ H →
 (J.stop i H∧D.nx σ H)∨(J.go i H∧∃ N:St→Hp→Prop,(∀ σ' H',N σ' H'→∃ m',m' < m∧W (i + 1) m' σ' H')∧∀ x H',J.yld i H x H'→g x σ H' fun σ2 H2=>tb { D with nx:=N,ct:=N,bk:=D.nx } σ2 H2)
def z5Y (fp:List Addr) (h:Heap):List (Addr×Obj):=fp.filterMap fun b=>(h.get? b).map fun o=>(b,o)
theorem z29 (hb:b ∈ fp) (e:h.get? b=some o):(b,o) ∈ z5Y fp h:=Q7.mpr ⟨b,hb,by rw [e]; rfl⟩
theorem zaC (hp:p ∈ z5Y fp h):p.1 ∈ fp∧h.get? p.1=some p.2:=by
 obtain ⟨b,hb,e⟩:=Q7.mp hp
 cases q:h.get? b with
 | none=>rw [q] at e; cases e
 | some o =>
  rw [q] at e
  have e':(b,o)=p:=Wt e
  subst e'
  exact ⟨hb,q⟩
theorem Inv.pinned (I:Inv X pins σ H s) (hf:∀ b ∈ fp,FpOk X pins H b) (ho:∀ b ∈ fp,∃ o,s.heap.get? b=some o∧∀ v,o.data≠.cell v):Inv X (pins ++ z5Y fp s.heap) σ H s :=
 I.pins_of fun p hp=>(QH.mp hp).elim (fun z=>I.pin p (Wz _ z)) fun z=>by
  obtain ⟨hb,e⟩:=zaC z
  obtain ⟨f0,f1,f2,_⟩:=hf p.1 hb
  obtain ⟨o,e',d⟩:=ho p.1 hb
  rw [e] at e'; cases e'
  exact ⟨e,f0,f1,f2,d⟩
theorem Inv.unpinned (I:Inv X (pins ++ pl) σ H s):Inv X pins σ H s:=I.pins_of fun p hp=>I.pin p (Wz _ (Jl _ hp))
theorem zfk (hp:PassesOwn (model X.prog X.w) X.A X.env X.xe) (hc:X.calm=true) (hi:PI X tg iter wi) (hg:PG X tg g) (hb:PSs X body tb)
  (hs:∀ x,Ql iter X.env x=pure x:=by intro _; rfl):PS X (.For tg iter body [] pos) (tFor wi g tb):=by
 intro pins s σ H D I h
 refine wpAny_For (thn (hi pins s σ H _ I h) fun v s1 h1=>thn h1 fun itv s2 h2=>?_) hs
 obtain ⟨it,fp,tn,J,H2,e,I2,T,st2,f2,W,⟨m0,w0⟩,turn⟩:=h2
 subst e
 -- what stays true of the iterator's objects through the loop
 have stat:∀ {H':Hp},(∀ b ∈ fp,H' b=none)→∀ b ∈ fp,FpOk X pins H' b:=fun hn b hb=>⟨hn b hb,(f2 b hb).2⟩
 refine codeAny_forLoop_any (fun n s'=>∃ i σ' H',Inv X pins σ' H' s'∧tn i s'.heap∧(∀ b ∈ fp,H' b=none)∧W i n σ' H') ?_ m0 ⟨0,σ,H2,I2,st2,fun b hb=>(f2 b hb).1,w0⟩
 rintro n s3 ⟨i,σ3,H3,I3,st3,fr3,w3⟩
 rcases turn i n σ3 H3 w3 with ⟨stop,qn⟩ | ⟨go,N,hN,step⟩
 ·refine QI hp (thn (T.done X rfl rfl rfl hc i pins s3 σ3 H3 X.xe I3 (stat fr3) st3 stop) fun r s4 ⟨hr,I4⟩=>?_)
  subst hr
  exact Ja ⟨σ3,H3,I4,qn⟩
 ·refine QI hp (thn (T.item X rfl rfl rfl hc i pins s3 σ3 H3 X.xe I3 (stat fr3) st3 go) fun r s4 ⟨u,hr,h4⟩=>?_)
  subst hr
  refine QI hp (thn h4 fun _ s5 ⟨x,H5,I5,r5,y5,st5,fr5⟩=>?_)
  have I5':=I5.pinned (stat fr5) (T.obj _ _ st5)
  refine QI hp (thn (hg _ s5 σ3 H5 x u _ I5' r5 (step x H5 y5)) fun _ s6 ⟨σ6,H6,I6,q6⟩=>?_)
  refine QI hp (thn (hb _ s6 σ6 H6 _ I6 q6) fun f s7 q7=>?_)
  have again:∀ {σ7:St} {H7:Hp},Inv X (pins ++ z5Y fp s5.heap) σ7 H7 s7→N σ7 H7→∃ m,m < n∧∃ i σ' H',Inv X pins σ' H' s7∧tn i s7.heap∧(∀ b ∈ fp,H' b=none)∧W i m σ' H':=fun {σ7 H7} I7 n7=>by
   obtain ⟨m',hm,w7⟩:=hN σ7 H7 n7
   refine ⟨m',hm,i + 1,σ7,H7,I7.unpinned,T.keep _ _ _ st5 fun b hb o e=>(I7.pin (b,o) (Wz _ (Wz _ (z29 hb e)))).1,fun b hb=>?_,w7⟩
   obtain ⟨o,e,d⟩:=T.obj _ _ st5 b hb
   exact (I7.pin (b,o) (Wz _ (Wz _ (z29 hb e)))).2.1
  cases f with
  | next=>obtain ⟨σ7,H7,I7,n7⟩:=q7; exact again I7 n7
  | cont=>obtain ⟨σ7,H7,I7,n7⟩:=q7; exact again I7 n7
  | brk=>obtain ⟨σ7,H7,I7,q7⟩:=q7; exact ⟨σ7,H7,I7.unpinned,q7⟩
  | ret v=>obtain ⟨x7,σ7,H7,I7,r7,q7⟩:=q7; exact ⟨x7,σ7,H7,I7.unpinned,r7,q7⟩
end
abbrev R2:=V→V→Hp→VK→Prop
def OpR (X:Cx) (f:Value→Value→Sem Value) (r:R2):Prop :=
 ∀ (pins:List (Addr×Obj)) (s:W2) (σ:St) (H:Hp) (x y:V) (v u:Value) (Q:VK),Inv X pins σ H s→RelV x v→RelV y u→r x y H Q →
  W9 (model X.prog X.w) X.A (f v u) (EP X pins σ Q) X.xe s
def UnR (X:Cx) (f:Value→Sem Value) (r:V→Hp→VK→Prop):Prop :=
 ∀ (pins:List (Addr×Obj)) (s:W2) (σ:St) (H:Hp) (x:V) (v:Value) (Q:VK),Inv X pins σ H s→RelV x v→r x H Q →
  W9 (model X.prog X.w) X.A (f v) (EP X pins σ Q) X.xe s
def CallR (X:Cx) (f:Value) (r:List V→Hp→VK→Prop):Prop :=
 ∀ (pins:List (Addr×Obj)) (s:W2) (σ:St) (H:Hp) (xs:List V) (us:List Value) (Q:VK),Inv X pins σ H s→Vals xs us→r xs H Q →
  W9 (model X.prog X.w) X.A (call f us) (EP X pins σ Q) X.xe s
def tOp (r:R2) (ta tb:TE):TE:=fun σ H Q=>ta σ H fun x H1=>tb σ H1 fun y H2=>r x y H2 Q
def tUn (r:V→Hp→VK→Prop) (ta:TE):TE:=fun σ H Q=>ta σ H fun x H1=>r x H1 Q
def rI (C:Int→Int→Prop) (g:Int→Int→V):R2:=fun x y H Q=>∃ i j,x = .int i∧y = .int j∧C i j∧Q (g i j) H
def rI0 (g:Int→Int→V):R2:=fun x y H Q=>∃ i j,x = .int i∧y = .int j∧Q (g i j) H
def rU (g:Int→V):V→Hp→VK→Prop:=fun x H Q=>∃ i,x = .int i∧Q (g i) H
section
variable {X:Cx} {a b c:Expr} {ta tb tc:TE} {pos:Pos}
theorem binT (ha:PE X a ta) (hb:PE X b tb) {pins:List (Addr×Obj)} {s:W2} {σ:St} {H:Hp} {R:V→V→Hp→Prop} (I:Inv X pins σ H s)
  (h:ta σ H fun x H1=>tb σ H1 fun y H2=>R x y H2) {Q:Value→W2→Prop} {f:Value→Value→Sem Value}
  (hf:∀ v u s2 x y H2,Inv X pins σ H2 s2→RelV x v→RelV y u→R x y H2→W9 (model X.prog X.w) X.A (f v u) Q X.xe s2) :
  W9 (model X.prog X.w) X.A (eval a X.env) (fun v s₁=>W9 (model X.prog X.w) X.A (eval b X.env) (fun u s₂=>W9 (model X.prog X.w) X.A (f v u) Q X.xe s₂) X.xe s₁) X.xe s:=by
 refine thn (ha pins s σ H _ I h) fun v s1 ⟨x,H1,I1,r1,q1⟩=>?_
 refine thn (hb pins s1 σ H1 _ I1 q1) fun u s2 ⟨y,H2,I2,r2,q2⟩=>?_
 exact hf v u s2 x y H2 I2 r1 r2 q2
theorem zfq {op:Operator} {r:R2} (ho:OpR X (Qh op) r) (ha:PE X a ta) (hb:PE X b tb):PE X (.BinOp a op b pos) (tOp r ta tb):=by
 intro pins s σ H Q I h
 exact wpAny_BinOp (binT ha hb I h fun v u s2 x y H2 I2 rx ry q=>ho pins s2 σ H2 x y v u Q I2 rx ry q)
theorem zfn (ho:UnR X (unaryOp op) r) (ha:PE X a ta):PE X (.UnaryOp op a pos) (tUn r ta):=by
 intro pins s σ H Q I h
 exact UnaryOp_ (thn (ha pins s σ H _ I h) fun v s1 ⟨x,H1,I1,r1,q1⟩=>ho pins s1 σ H1 x v Q I1 r1 q1)
theorem opI {f:Value→Value→Sem Value} {C:Int→Int→Prop} {g:Int→Int→Int}
  (rule:∀ (i j:Int) (t u:Tok) (s:W2) (Q:Value→W2→Prop) (E:Value→W2→Prop),C i j→Q (.int (g i j) s.toks) { s with toks:=s.toks + 1 }→W9 (model X.prog X.w) X.A (f (.int i t) (.int j u)) Q E s) :
  OpR X f (rI C fun i j=>.int (g i j)):=by
 intro pins s σ H x y v u Q I rx ry h
 obtain ⟨i,j,rfl,rfl,hc,q⟩:=h
 obtain ⟨t,rfl⟩:=rx
 obtain ⟨t',rfl⟩:=ry
 exact rule i j t t' s _ _ hc ⟨.int (g i j),H,I.tok _,⟨_,rfl⟩,q⟩
theorem opI0 {f:Value→Value→Sem Value} {g:Int→Int→Int}
  (rule:∀ (i j:Int) (t u:Tok) (s:W2) (Q:Value→W2→Prop) (E:Value→W2→Prop),Q (.int (g i j) s.toks) { s with toks:=s.toks + 1 }→W9 (model X.prog X.w) X.A (f (.int i t) (.int j u)) Q E s) :
  OpR X f (rI0 fun i j=>.int (g i j)):=by
 intro pins s σ H x y v u Q I rx ry h
 obtain ⟨i,j,rfl,rfl,q⟩:=h
 obtain ⟨t,rfl⟩:=rx
 obtain ⟨t',rfl⟩:=ry
 exact rule i j t t' s _ _ ⟨.int (g i j),H,I.tok _,⟨_,rfl⟩,q⟩
theorem opB0 {f:Value→Value→Sem Value} {g:Int→Int→Bool}
  (rule:∀ (i j:Int) (t u:Tok) (s:W2) (Q:Value→W2→Prop) (E:Value→W2→Prop),Q (.bool (g i j)) s→W9 (model X.prog X.w) X.A (f (.int i t) (.int j u)) Q E s) :
  OpR X f (rI0 fun i j=>.bl (g i j)):=by
 intro pins s σ H x y v u Q I rx ry h
 obtain ⟨i,j,rfl,rfl,q⟩:=h
 obtain ⟨t,rfl⟩:=rx
 obtain ⟨t',rfl⟩:=ry
 exact rule i j t t' s _ _ ⟨.bl (g i j),H,I,rfl,q⟩
def CDiv (i j:Int):Prop:=0 < j∧j < 1073741824
def CPow (i j:Int):Prop:=0≤j∧j≤1000000∧i.natAbs < 2 ^ 64
def CMul (i j:Int):Prop:=(-(2 ^ 64) < i∧i < 2 ^ 64)∨(-(2 ^ 64) < j∧j < 2 ^ 64)
theorem CMul.ok (h:CMul i j):IntMulOk i j:=by
 rcases h with ⟨h1,h2⟩ | ⟨h1,h2⟩
 ·exact .of_left (intBits_le_64 h1 h2)
 ·exact .of_right (intBits_le_64 h1 h2)
theorem op_add:OpR X (Qh .Add) (rI0 fun i j=>.int (i + j)):=opI0 fun _ _ _ _ _ _ _ q=>add_int q
theorem z8N:OpR X (Qh .Sub) (rI0 fun i j=>.int (i - j)):=opI0 fun _ _ _ _ _ _ _ q=>sub_int q
theorem op_mul:OpR X (Qh .Mult) (rI CMul fun i j=>.int (i * j)):=opI fun _ _ _ _ _ _ _ hc q=>mul_int q hc.ok
theorem z5b:OpR X (Qh .FloorDiv) (rI CDiv fun i j=>.int (i / j)):=opI fun i j _ _ _ _ _ hc q=>by
 have h1:(0:Int) < j:=hc.1
 have h2:j < 1073741824:=hc.2
 exact floordiv_int (by omega) (by rw [Int.fdiv_eq_ediv_of_nonneg i (by omega)]; exact q) (.inl (PyProof.noPylong_small (by omega)))
theorem z5a:OpR X (Qh .Mod) (rI (fun _ j=>0 < j) fun i j=>.int (i % j)):=opI fun i j _ _ _ _ _ hc q=>by
 have h1:(0:Int) < j:=hc
 exact mod_int' (by omega) (by rw [Int.fmod_eq_emod_of_nonneg i (by omega)]; exact q)
theorem zd2:OpR X (Qh .Pow) (rI CPow fun i j=>.int (i ^ j.toNat)):=opI fun _ _ _ _ _ _ _ hc q=>pow_int_small hc.1 hc.2.1 hc.2.2 q
theorem unI {f:Value→Sem Value} {g:Int→Int}
  (rule:∀ (i:Int) (t:Tok) (s:W2) (Q:Value→W2→Prop) (E:Value→W2→Prop),Q (.int (g i) s.toks) { s with toks:=s.toks + 1 }→W9 (model X.prog X.w) X.A (f (.int i t)) Q E s) :
  UnR X f (rU fun i=>.int (g i)):=by
 intro pins s σ H x v Q I rx h
 obtain ⟨i,rfl,q⟩:=h
 obtain ⟨t,rfl⟩:=rx
 exact rule i t s _ _ ⟨.int (g i),H,I.tok _,⟨_,rfl⟩,q⟩
theorem zcQ:UnR X (unaryOp .USub) (rU fun i=>.int (-i)):=unI fun _ _ _ _ _ q=>neg_int q
end
section
variable {X:Cx} {a b c:Expr} {ta tb tc:TE} {pos:Pos}
theorem z7v (I:Inv X pins σ H s) (q:Q (.bl k) H) (e:k=k'):EP X pins σ Q (.bool k') s:=by
 subst e
 exact ⟨.bl k,H,I,rfl,q⟩
theorem op_lt:OpR X (WA .Lt) (rI0 fun i j=>.bl (decide (i < j))):=opB0 fun _ _ _ _ _ _ _ q=>lt_int q
theorem op_le:OpR X (WA .LtE) (rI0 fun i j=>.bl (decide (i≤j))):=opB0 fun _ _ _ _ _ _ _ q=>le_int q
theorem op_gt:OpR X (WA .Gt) (rI0 fun i j=>.bl (decide (j < i))):=opB0 fun _ _ _ _ _ _ _ q=>gt_int q
theorem op_ge:OpR X (WA .GtE) (rI0 fun i j=>.bl (decide (j≤i))):=opB0 fun _ _ _ _ _ _ _ q=>ge_int q
theorem zay:OpR X (WA .Lt) (fun x y H Q=>∃ i j,x = .str i∧y = .str j∧Q (.bl (decide (i.cps.toList < j.cps.toList))) H):=by
 intro pins s σ H x y v u Q I rx ry h
 obtain ⟨i,j,rfl,rfl,q⟩:=h
 obtain ⟨t,rfl⟩:=rx
 obtain ⟨t',rfl⟩:=ry
 exact lt_str (z7v I q rfl)
theorem zaB:OpR X (WA .In) (fun x y H Q=>∃ i j,x = .str i∧y = .str j∧Q (.bl (!(J4 j i 0 j.length 1).isEmpty)) H):=by
 intro pins s σ H x y v u Q I rx ry h
 obtain ⟨i,j,rfl,rfl,q⟩:=h
 obtain ⟨t,rfl⟩:=rx
 obtain ⟨t',rfl⟩:=ry
 exact in_str (z7v I q rfl)
theorem zaA:OpR X (WA .Is) (fun x y H Q=>y = .non∧Q (.bl (decide (x = .non))) H):=by
 intro pins s σ H x y v u Q I rx ry h
 obtain ⟨rfl,q⟩:=h
 cases ry
 refine is_none_gen (z7v I q ?_)
 cases x <;> first
  | (cases rx; rfl)
  | (obtain ⟨t,rfl⟩:=rx; rfl)
theorem zax:OpR X (WA .IsNot) (fun x y H Q=>y = .non∧Q (.bl (!decide (x = .non))) H):=by
 intro pins s σ H x y v u Q I rx ry h
 obtain ⟨rfl,q⟩:=h
 cases ry
 refine isnot_none_gen (z7v I q ?_)
 cases x <;> first
  | (cases rx; rfl)
  | (obtain ⟨t,rfl⟩:=rx; rfl)
theorem z79:OpR X (WA .NotIn) (fun x y H Q=>∃ i j,x = .str i∧y = .str j∧Q (.bl (!(!(J4 j i 0 j.length 1).isEmpty))) H):=by
 intro pins s σ H x y v u Q I rx ry h
 obtain ⟨i,j,rfl,rfl,q⟩:=h
 obtain ⟨t,rfl⟩:=rx
 obtain ⟨t',rfl⟩:=ry
 exact notIn_str (z7v I q rfl)
theorem OpR.or (h:OpR X f r) (h':OpR X f r'):OpR X f (fun x y H Q=>r x y H Q∨r' x y H Q):=by
 intro pins s σ H x y v u Q I rx ry q
 rcases q with q | q
 ·exact h pins s σ H x y v u Q I rx ry q
 ·exact h' pins s σ H x y v u Q I rx ry q
theorem z1s (b:Expr) (h:op≠.In:=by decide) (h2:op≠.NotIn:=by decide):Qj op b=false:=by
 have e1:(op == CmpOp.In)=false:=by cases op <;> first | rfl | exact absurd rfl h
 have e2:(op == CmpOp.NotIn)=false:=by cases op <;> first | rfl | exact absurd rfl h2
 cases b <;> simp [Qj,e1,e2]
theorem zaq {op:CmpOp} {r:R2} (ho:OpR X (WA op) r) (ha:PE X a ta) (hb:PE X b tb) (hm:Qj op b=false):PE X (.Compare a [op] [b] pos) (tOp r ta tb):=by
 intro pins s σ H Q I h
 exact wpAny_Compare1 (binT ha hb I h fun v u s2 x y H2 I2 rx ry q=>ho pins s2 σ H2 x y v u Q I2 rx ry q) hm
def tTest (t:TE):TT:=fun σ H Q=>t σ H fun x H'=>∃ k,x = .bl k∧Q k H'
theorem zag (ho:OpR X (WA op) r) (ha:PE X a ta) (hb:PE X b tb) (hm:Qj op b=false):PT X (.Compare a [op] [b] pos) (tTest (tOp r ta tb)):=by
 intro pins s σ H Q I h
 refine wpAny_isTrue_Compare1 (thn (ha pins s σ H _ I h) fun v s1 ⟨x,H1,I1,r1,q1⟩=>thn (hb pins s1 σ H1 _ I1 q1) fun u s2 ⟨y,H2,I2,r2,q2⟩ =>
  thn (ho pins s2 σ H2 x y v u _ I2 r1 r2 q2) fun c s3 ⟨z,H3,I3,r3,k,e,q3⟩=>?_) hm
 subst e
 cases r3
 exact Qy ⟨H3,I3,q3⟩
theorem z61:(W3:Nat) < 2 ^ 63:=by rw [JK]; decide
theorem op_add_str:OpR X (Qh .Add) (fun x y H Q=>∃ i j,x = .str i∧y = .str j∧i.length + j.length≤W3∧Q (.str (i ++ j)) H):=by
 intro pins s σ H x y v u Q I rx ry h
 obtain ⟨i,j,rfl,rfl,hz,q⟩:=h
 obtain ⟨t,rfl⟩:=rx
 obtain ⟨t',rfl⟩:=ry
 exact add_str (fun t' tk=>⟨.str (i ++ j),H,I.tok _,⟨_,rfl⟩,q⟩) hz
theorem z5B (r:Vals [x] us):∃ u,us=[u]∧RelV x u:=by
 cases r with
 | cons r1 r2=>cases r2; exact ⟨_,rfl,r1⟩
theorem zde (r:Vals [x,y] us):∃ u w',us=[u,w']∧RelV x u∧RelV y w':=by
 cases r with
 | cons r1 r2 =>
  cases r2 with
  | cons r3 r4=>cases r4; exact ⟨_,_,rfl,r1,r3⟩
theorem zbp (hc:X.calm=true):CallR X (.builtin "max") (fun xs H Q=>∃ i j,xs=[.int i,.int j]∧Q (.int (if j > i then j else i)) H):=by
 intro pins s σ H xs us Q I r h
 obtain ⟨i,j,rfl,q⟩:=h
 obtain ⟨u,w',rfl,⟨t,rfl⟩,⟨t',rfl⟩⟩:=zde r
 refine max_two_ints (I.ok.hd hc) fun h' tk k=>⟨_,H,I.kept k,?_,q⟩
 by_cases hj:j > i
 ·rw [if_pos hj,if_pos hj]; exact ⟨_,rfl⟩
 ·rw [if_neg hj,if_neg hj]; exact ⟨_,rfl⟩
theorem zbr:CallR X (.type "int") (fun xs H Q=>(∃ i,xs=[.int i]∧Q (.int i) H)∨∃ k,xs=[.bl k]∧Q (.int (if k then 1 else 0)) H):=by
 intro pins s σ H xs us Q I r h
 rcases h with ⟨i,rfl,q⟩ | ⟨k,rfl,q⟩
 ·obtain ⟨u,rfl,t,rfl⟩:=z5B r
  exact call_int_int ⟨.int i,H,I,⟨_,rfl⟩,q⟩
 ·obtain ⟨u,rfl,r1⟩:=z5B r
  cases r1
  exact call_int_bool ⟨.int (if k then 1 else 0),H,I.tok _,⟨_,rfl⟩,q⟩
end
structure ObjM (h:Heap) (x dx C:Addr) (mA:Str→Option Value):Prop where
 obj:h.get? x=some (PySem.W.instObj C dx)
 ns:h.Ns1 dx mA
 ne:dx≠x
theorem zaN {h:Heap} {dx:Addr} {mA:Str→Option Value} (n:h.Ns1 dx mA):∃ od,h.get? dx=some od∧∀ name,PySem.W.lookIn name od=some (mA name):=by
 obtain ⟨o,es,ep,ho,hd,hk,_,hm⟩:=n
 refine ⟨o,ho,fun name=>?_⟩
 have e:=hm name
 unfold nsFind findBy at e
 rw [← Array.find?_toList] at e
 unfold PySem.W.lookIn
 rw [hd]
 dsimp only
 split
 ·rename_i y q
  rw [q] at e
  exact congrArg some e
 ·rename_i q
  rw [q] at e
  have a:es.toList.any (·.refKey)=false:=by
   rw [List.any_eq_false]
   intro y hy
   obtain ⟨z,t,hkey⟩:=hk y (Array.mem_toList_iff.mp hy)
   simp [DictEntry.refKey,hkey]
  have a':¬ es.toList.any (·.refKey)=true:=by rw [a]; exact WP
  rw [if_neg a']
  exact congrArg some e
theorem ObjM.look (I:ObjM h x dx C mA):∃ od,PySem.W.InstAt h x (PySem.W.instObj C dx) C (some od)∧∀ name,PySem.W.lookIn name od=some (mA name) :=
 let ⟨od,ho,hl⟩:=zaN I.ns
 ⟨od,⟨I.obj,rfl,rfl,ho⟩,hl⟩
section
variable {prog:Wj} {w:Wp} {A:Wo} {E:Value→W2→Prop} {s:W2} {K:W0} {x dx C f:Addr} {mA:Str→Option Value} {name:Str} {v:Value}
end
theorem RelO.some_of (r:RelO (some v) o):∃ u,o=some u∧RelV v u:=by
 cases o with
 | none=>exact (show False from r).elim
 | some u=>exact ⟨u,rfl,r⟩
section
variable {P:Wj} {w:Wp} {H H':Hp} {h h':Heap} {a C dx:Addr} {fs fs':List (Str×V)}
theorem zel (hok:HOk P w H h) (e:H a=some (.ins C dx fs)):∃ mA,ObjM h a dx C mA∧(∀ f,RelO (fs.lookup f) (mA f))∧PySem.Within mA (fs.map (·.1))∧fs.length≤1000∧H dx=some (.own a):=by
 obtain ⟨d,z,ne,ob,mA,n,r,q⟩:=(show ObjOk P w H h a (.ins C dx fs) from hok a _ e)
 exact ⟨mA,⟨ob,n,ne⟩,r,q,z,d⟩
end
structure Cls (K:W0) (C:Addr):Prop where
 pg:PySem.W.plainGet K C Str.empty=true
 hd:PySem.W.hasDictIn K C=true
 po:PySem.W.plainOver K C=true
 sa:JB K (.ref C) "__setattr__" = some (some (.builtin "object.__setattr__"))
theorem Cls.get {K:W0} {C:Addr} (c:Cls K C) (f:Str):PySem.W.plainGet K C f=true:=c.pg
structure Con (K:W0) (C:Addr) (f:Str) (v:V) (u:Value):Prop where
 at_:JB K (.ref C) f=some (some u)
 rel:RelV v u
 get:PySem.W.specialIn K u "__get__" = some none
 cp:PySem.W.copiedNames.contains f=false
structure Meth (K:W0) (C:Addr) (m:Str) (f:Addr):Prop where
 at_:JB K (.ref C) m=some (some (.ref f))
 fn:PySem.W.isFn K (.ref f)=true
 kp:Qa K (.ref f)=true
section
variable {X:Cx} {pins:List (Addr×Obj)} {σ:St} {H:Hp} {s:W2} {a C dx:Addr} {fs:List (Str×V)} {f:Str} {v:V} {A:Wo} {E:Value→W2→Prop}
end
section
variable {X:Cx} {o e value:Expr} {f:Str} {pos pos' tpos:Pos} {ta tv:TE}
end
section
variable {X:Cx} {pins:List (Addr×Obj)} {σ:St} {H:Hp} {s:W2} {A:Wo} {E:Value→W2→Prop} {Q:Value→W2→Prop} {c:Value} {b:Bool}
inductive TyOf (K:W0) (H:Hp):V→Value→Prop where
 | non:TyOf K H .non (.type "NoneType")
 | bl (x:Bool):TyOf K H (.bl x) (.type "bool")
 | int (i:Int):TyOf K H (.int i) (.type "int")
 | str (x:Str):TyOf K H (.str x) (.type "str")
 | flt (x:UInt64):TyOf K H (.flt x) (.type "float")
 | lst {a:Addr} {xs:List V} (e:H a=some (.lst xs)):TyOf K H (.ref a) (.type "list")
 | frz {a:Addr} {o:Obj} {xs:List V} (e:H a=some (.frz o (.lst xs))):TyOf K H (.ref a) (.type "list")
 | tup {a:Addr} {xs:List V} (e:H a=some (.tup xs)):TyOf K H (.ref a) (.type "tuple")
 | dK {a:Addr} {kvs:List (Key×V)} (e:H a=some (.dK kvs)):TyOf K H (.ref a) (.type "dict")
 | dT {a:Addr} {kvs:List (List Key×V)} (e:H a=some (.dT kvs)):TyOf K H (.ref a) (.type "dict")
 | ins {a C dx:Addr} {fs:List (Str×V)} (e:H a=some (.ins C dx fs)) (cl:Cls K C) (ha:JB K (.ref C) "__class__" = some (some (.builtin "object.__class__")))
   (hn:PySem.W.specialIn K (.builtin "object.__class__") "__get__" = some (some (.builtin "getset_descriptor.__get__"))) (htk:PySem.W.takesIn K (.builtin "object.__class__")=some true)
   (hm:PySem.W.mroIn K C (.type "object")=some true):TyOf K H (.ref a) (.ref C)
theorem z1W (I:Inv X pins σ H s) (rx:RelV x u) (ty:TyOf X.K H x t) (e:Qu X.K t c=some b) (h:∀ tk,Q (.bool b) { s with toks:=tk }) :
  W9 (model X.prog X.w) A (call (.builtin "isinstance") [u,c]) Q E s:=by
 cases ty with
 | non=>cases (show u=Value.none from rx); exact WW PySem.W.kitx_none I.kIn True.intro e (fun z=>nomatch z) h
 | bl y=>cases (show u=Value.bool y from rx); exact WW PySem.W.kitx_bool I.kIn True.intro e (fun z=>nomatch z) h
 | int i=>obtain ⟨t,q⟩:=(show ∃ t,u=Value.int i t from rx); cases q; exact WW PySem.W.kitx_int I.kIn True.intro e (fun z=>nomatch z) h
 | str y=>obtain ⟨t,q⟩:=(show ∃ t,u=Value.str y t from rx); cases q; exact WW PySem.W.kitx_str I.kIn True.intro e (fun z=>nomatch z) h
 | flt y=>obtain ⟨t,q⟩:=(show ∃ t,u=Value.float y t from rx); cases q; exact WW PySem.W.kitx_float I.kIn True.intro e (fun z=>nomatch z) h
 | @lst a xs ea =>
  cases (show u=Value.ref a from rx)
  obtain ⟨_,_,n,_,h1⟩:=(show ObjOk X.prog X.w H s.heap a (.lst xs) from I.hok a _ ea)
  exact WW PySem.W.kitx_list I.kIn ⟨_,h1,rfl⟩ e (fun z=>nomatch z) h
 | @frz a ob xs ea =>
  cases (show u=Value.ref a from rx)
  obtain ⟨_,_,_,n,_,h1⟩:=(show ObjOk X.prog X.w H s.heap a (.frz ob (.lst xs)) from I.hok a _ ea)
  exact WW PySem.W.kitx_list I.kIn ⟨_,h1,rfl⟩ e (fun z=>nomatch z) h
 | @tup a xs ea =>
  cases (show u=Value.ref a from rx)
  obtain ⟨_,_,_,p⟩:=(show ObjOk X.prog X.w H s.heap a (.tup xs) from I.hok a _ ea)
  obtain ⟨o,h1,h2,_⟩:=p.tup
  exact WW PySem.W.kitx_tuple I.kIn ⟨o,h1,h2⟩ e (fun z=>nomatch z) h
 | @dK a kvs ea =>
  cases (show u=Value.ref a from rx)
  obtain ⟨_,_,vs,_,p⟩:=(show ObjOk X.prog X.w H s.heap a (.dK kvs) from I.hok a _ ea)
  obtain ⟨o,es,ep,h1,h2,_⟩:=p
  exact WW PySem.W.kitx_dict I.kIn ⟨o,h1,h2.1⟩ e (fun z=>nomatch z) h
 | @dT a kvs ea =>
  cases (show u=Value.ref a from rx)
  obtain ⟨_,_,xs,_,o,es,ep,h1,h2,_⟩:=(show ObjOk X.prog X.w H s.heap a (.dT kvs) from I.hok a _ ea)
  exact WW PySem.W.kitx_dict I.kIn ⟨o,h1,h2.1⟩ e (fun z=>nomatch z) h
 | @ins a C dx fs ea cl ha hn htk hm =>
  cases (show u=Value.ref a from rx)
  obtain ⟨mA,O,_⟩:=zel I.hok ea
  obtain ⟨od,J,_⟩:=O.look
  exact WW (PySem.W.kitx_own (cl.get _) cl.hd ha hn htk hm) I.kIn J e (fun z=>nomatch z) h
end
structure Room (k:Nat) (A:Wo):Prop where
 hd:A.handled=none
 dp:A.depth + 3 * k + 5 < recursionLimit
 un:A.units + 16 * k + 200 < WX
theorem Room.mono (r:Room k A) (h:j≤k):Room j A:=⟨r.hd,by have:=r.dp; omega,by have:=r.un; omega⟩
theorem Room.deeper (r:Room (k + 1) A) (env:Env):Room k (A.deeper env) :=
 ⟨r.hd,by have:=r.dp; show A.depth + 1 + 3 * k + 5 < _; omega,by have:=r.un; show A.units + 3 + 16 * k + 200 < _; omega⟩
theorem Room.in1 (r:Room (k + 1) A):Room k A.in1 :=
 ⟨r.hd,by have:=r.dp; show A.depth + 3 * k + 5 < _; omega,by have:=r.un; show A.units + 1 + 16 * k + 200 < _; omega⟩
theorem z9w {A:Wo} {C:Addr} {us:List Value} {kw:List (Str×Value)}:(A.under (.builtin "type.__call__" ⟨.ref C :: us,kw⟩)).depth=A.depth + 1:=by
 first | rfl | simp [Around.under,Code.weight,Code.isCreation,Code.isGuard,Code.isCaller,Code.frames,Code.isFrame,guardIds]
theorem z9v {A:Wo} {C:Addr} {us:List Value} {kw:List (Str×Value)}:(A.under (.builtin "type.__call__" ⟨.ref C :: us,kw⟩)).units=A.units + 1:=by
 first | rfl | simp [Around.under,Code.cUnits,Code.frames,Code.isFrame]
theorem Room.make (r:Room (k + 1) A) (C:Addr) (us:List Value) (kw:List (Str×Value)):Room k (A.under (.builtin "type.__call__" ⟨.ref C :: us,kw⟩)) :=
 ⟨r.hd,by have:=r.dp; rw [z9w]; omega,by have:=r.un; rw [z9v]; omega⟩
theorem Room.depth (r:Room k A):A.depth < recursionLimit:=by have:=r.dp; omega
theorem Room.units (r:Room k A):A.units + 64 < WX:=by have:=r.un; omega
def tNil:TA:=fun _ H Q=>Q [] H
def zeP (ta:TE) (tr:TA):TA:=fun σ H Q=>ta σ H fun x H1=>tr σ H1 fun xs H2=>Q (x :: xs) H2
section
variable {X:Cx} {e:Expr} {es:List Expr} {te:TE} {t:TA} {pos:Pos}
theorem z25:PA X [] tNil:=fun _ _ _ _ H Q I h=>Calls.spliced_nil ⟨[],H,I,.nil,h⟩
theorem z0T (ha:PE X e te) (hr:PA X es t) (hs:W7 (e :: es) X.env=(false,eval e X.env) :: W7 es X.env:=by rfl):PA X (e :: es) (zeP te t):=by
 intro pos pins s σ H Q I h
 rw [hs]
 show W9 _ _ (spliced ((false,eval e X.env) :: WT pos (W7 es X.env))) _ _ s
 refine Calls.spliced_cons (thn (ha pins s σ H _ I h) fun u s1 ⟨x,H1,I1,r1,q1⟩=>?_)
 exact thn (hr pos pins s1 σ H1 _ I1 q1) fun us s2 ⟨xs,H2,I2,r2,q2⟩=>⟨x :: xs,H2,I2,.cons r1 r2,q2⟩
def tTup (t:TA):TE:=fun σ H Q=>t σ H fun xs H1=>xs.length≤W3∧∀ p,H1 p=none→Q (.ref p) (upd H1 p (.tup xs))
def tLst (t:TA):TE:=fun σ H Q=>t σ H fun xs H1=>xs.length≤W3∧∀ p,H1 p=none→Q (.ref p) (upd H1 p (.lst xs))
theorem zfo {x1} (h:PA X es t):PE X (.Tuple es x1 pos) (tTup t):=by
 intro pins s σ H Q I hq
 refine wpAny_Tuple_spliced (thn (h pos pins s σ H _ I hq) fun us s1 ⟨xs,H1,I1,r,z,q⟩=>⟨by rw [← r.length]; exact z,?_⟩)
 have hf:H1 s1.heap.objs.size=none:=I1.hok.fresh (Wc _)
 refine ⟨.ref s1.heap.objs.size,upd H1 s1.heap.objs.size (.tup xs),I1.laid (t':=s1.toks) (fun b u e=>W5 _ e) (Wc _) ?_,rfl,q _ hf⟩
 exact ⟨z,us,r,⟨_,Wq _ rfl⟩⟩
theorem zfu (h:PA X es t):PE X (.List es pos) (tLst t):=by
 intro pins s σ H Q I hq
 refine wpAny_List_spliced (thn (h pos pins s σ H _ I hq) fun us s1 ⟨xs,H1,I1,r,z,q⟩=>⟨by rw [← r.length]; exact z,?_⟩)
 have hf:H1 s1.heap.objs.size=none:=I1.hok.fresh (Wc _)
 refine ⟨.ref s1.heap.objs.size,upd H1 s1.heap.objs.size (.lst xs),I1.laid (t':=s1.toks) (fun b u e=>W5 _ e) (Wc _) ?_,rfl,q _ hf⟩
 exact ⟨z,us,0,r,Wq _ rfl⟩
end
abbrev Sp:=List V→Hp→VK→XK→Prop
abbrev CXT:=List Env→Hp→W2→XK→Value→W2→Prop
structure Env0 (P:Wj) (w:Wp) (K:W0) (mg:Str→Option Value) (base:Heap) (A:Wo) (outer:List Env) (s:W2) (H:Hp):Prop where
 frames:A.frames=some outer
 mod:Mod K mg base
 bs:∀ b o,base.get? b=some o→s.heap.get? b=some o∧H b=none
 bsz:base.objs.size≤s.heap.objs.size
 funs:s.heap.FunFrames base outer
 frf:∀ b ∈ frs outer,H b=none
 hok:HOk P w H s.heap
 bare:AllBare s.gens
def CE (outer:List Env) (P:Wj) (w:Wp) (H:Hp) (s:W2) (Q:VK) (u:Value) (s':W2):Prop :=
 ∃ v H',s'.os=s.os∧AllBare s'.gens∧Un (frs outer) [] H H' s.heap s'.heap∧HOk P w H' s'.heap∧RelV v u∧Q v H'
def CR (CX:CXT) (outer:List Env) (P:Wj) (w:Wp) (H:Hp) (s:W2) (Q:VK) (E:XK) (r:Result) (s':W2):Prop :=
 match r with
 | .ok (.ret u)=>CE outer P w H s Q u s'
 | .ok _=>False
 | .error e=>CX outer H s E e s'
structure FnOk (P:Wj) (w:Wp) (K:W0) (mg:Str→Option Value) (base:Heap) (CX:CXT) (k:Nat) (f:Addr) (fd:WD) (ps:List Str) (sp:Sp):Prop where
 len:∀ vs H Q E,sp vs H Q E→vs.length=ps.length
 run:∀ (A:Wo) (outer:List Env) (s:W2) (H:Hp) (args:Args) (us:List Value) (vs:List V) (Q:VK) (E:XK),Room k A→Env0 P w K mg base A outer s H→BindsTo s fd args (ps.zip us)→Vals vs us→sp vs H Q E →
  Qz (model P w) A (.call (.ref f) args) (CR CX outer P w H s Q E) s
theorem FnOk.mono {P:Wj} {w:Wp} {K:W0} {mg:Str→Option Value} {base:Heap} {CX:CXT} {j k:Nat} {f:Addr} {fd:WD} {ps:List Str} {sp:Sp} (F:FnOk P w K mg base CX j f fd ps sp) (h:j≤k) :
  FnOk P w K mg base CX k f fd ps sp:=⟨F.len,fun A outer s H args us vs Q E hr=>F.run A outer s H args us vs Q E (hr.mono h)⟩
theorem FnOk.imp {P:Wj} {w:Wp} {K:W0} {mg:Str→Option Value} {base:Heap} {CX:CXT} {k:Nat} {f:Addr} {fd:WD} {ps:List Str} {sp sp':Sp} (F:FnOk P w K mg base CX k f fd ps sp)
  (h:∀ vs H Q E,sp' vs H Q E→sp vs H Q E):FnOk P w K mg base CX k f fd ps sp' :=
 ⟨fun vs H Q E q=>F.len vs H Q E (h _ _ _ _ q),fun A outer s H args us vs Q E hr he hb hv hs=>F.run A outer s H args us vs Q E hr he hb hv (h _ _ _ _ hs)⟩
theorem Env0.make {P:Wj} {w:Wp} {K:W0} {mg:Str→Option Value} {base:Heap} {A:Wo} {outer:List Env} {s:W2} {H:Hp} (e:Env0 P w K mg base A outer s H) (C:Addr) (us:List Value) (kw:List (Str×Value)) :
  Env0 P w K mg base (A.under (.builtin "type.__call__" ⟨.ref C :: us,kw⟩)) outer s H:=⟨by first | exact e.frames | (simpa [Around.under,Code.envs,Code.isFrame,pushEnvs] using e.frames),e.mod,e.bs,e.bsz,e.funs,e.frf,e.hok,e.bare⟩
theorem Env0.in1 {P:Wj} {w:Wp} {K:W0} {mg:Str→Option Value} {base:Heap} {A:Wo} {outer:List Env} {s:W2} {H:Hp} (e:Env0 P w K mg base A outer s H) :
  Env0 P w K mg base A.in1 outer s H:=⟨e.frames,e.mod,e.bs,e.bsz,e.funs,e.frf,e.hok,e.bare⟩
section
variable {X:Cx} {pins:List (Addr×Obj)} {σ:St} {H:Hp} {s s':W2}
theorem Inv.env0 (I:Inv X pins σ H s):Env0 X.prog X.w X.K X.mg X.base X.A X.stack s H :=
 ⟨I.ok.frames,I.ok.mod,I.bs,WI I.ok.bsz I.sz,I.stack,I.stkFree,I.hok,I.bare⟩
theorem Inv.after (I:Inv X pins σ H s) (h:CE X.stack X.prog X.w H s Q u s'):EP X pins σ Q u s':=by
 obtain ⟨v,H',os,bare,un,hok,r,q⟩:=h
 obtain ⟨hh,g,d,t,os'⟩:=s'
 obtain rfl:os'=s.os:=os
 exact ⟨v,H',I.call (h':=hh) (g':=g) (d':=d) (t':=t) (ch:=[]) un hok bare (fun b z=>absurd z (by simp)),r,q⟩
end
def zdm (sp:Sp) (dvs:List V) (E:XK) (t:TA):TE:=fun σ H Q=>t σ H fun vs H1=>sp (vs ++ dvs) H1 Q E
def Binds (K:W0) (fd:WD) (ps:List Str) (ds:List Value):Prop :=
 ∀ (s:W2) (us:List Value),K.In s.heap→(us ++ ds).length=ps.length→BindsTo s fd ⟨us,[]⟩ (ps.zip (us ++ ds))
theorem Binds.all {K:W0} {fd:WD} {ps:List Str} (h:∀ us:List Value,us.length=ps.length→bindArgs fd ⟨us,[]⟩=pure (ps.zip us)):Binds K fd ps []:=fun s us _ hl=>by
 rw [WG] at hl ⊢
 exact .of_eq (h us hl)
def zbx (CX:CXT) (X:Cx) (E:XK):Prop:=∀ (pins:List (Addr×Obj)) (σ:St) (H:Hp) (s:W2) (e:Value) (s':W2),Inv X pins σ H s→CX X.stack H s E e s'→X.xe e s'
section
variable {X:Cx} {CX:CXT} {k:Nat} {f C:Addr} {fd:WD} {ps:List Str} {sp:Sp} {dvs:List V} {ds:List Value} {E:XK} {x m:Str} {p pos apos:Pos} {e o:Expr} {es:List Expr} {ta:TE} {t:TA}
theorem zeW (F:FnOk X.prog X.w X.K X.mg X.base CX k f fd ps sp) (hr:Room k X.A) (hb:Binds X.K fd ps ds) (hd:Vals dvs ds) (hx:zbx CX X E)
  (I:Inv X pins σ H s) (r:Vals vs us) (h:sp (vs ++ dvs) H Q E):W9 (model X.prog X.w) X.A (call (.ref f) us) (EP X pins σ Q) X.xe s:=by
 have r2:Vals (vs ++ dvs) (us ++ ds):=r.append hd
 have hl:(us ++ ds).length=ps.length:=by rw [← r2.length]; exact F.len _ _ _ _ h
 refine wpAny_call (Jw (F.run X.A X.stack s H ⟨us,[]⟩ (us ++ ds) (vs ++ dvs) Q E hr I.env0 (hb s us I.kIn hl) r2 h) fun r s' hq=>?_)
 cases r with
 | error e=>exact hx pins σ H s e s' I hq
 | ok fl =>
  cases fl with
  | ret u=>exact I.after hq
  | next=>exact False.elim hq
  | brk=>exact False.elim hq
  | cont=>exact False.elim hq
theorem ze4 (F:FnOk X.prog X.w X.K X.mg X.base CX k f fd ps sp) (hr:Room k X.A) (hg:Gl X x) (hm:X.mg x=some (.ref f)) (hk:Qa X.K (.ref f)=true) (hb:Binds X.K fd ps ds) (hd:Vals dvs ds) (hx:zbx CX X E)
  (ha:PA X (e :: es) t) (hdb:(x == ("__debug__" : Str))=false:=by decide) (he:W7 (e :: es) X.env=(false,eval e X.env) :: W7 es X.env:=by rfl) (hpl:(WT pos (W7 es X.env)).any (·.1)=false:=by rfl) :
  PE X (.Call (.Name x p) (e :: es) [] pos) (zdm sp dvs E t):=by
 intro pins s σ H Q I h
 refine QG (z39 I hg hm ?_ hdb)
 refine PySem.W.callWith_K (h₀:=X.base) I.ok.mod.kin hk (thn (ha pos pins s σ H _ I h) fun us s1 ⟨vs,H1,I1,r,q⟩=>⟨I1.kIn,?_⟩) he hpl
 exact zeW F hr hb hd hx I1 r q
structure Mk (K:W0) (C f:Addr):Prop where
 makes:PySem.W.makesIn K C=true
 init:JB K (.ref C) "__init__" = some (some (.ref f))
 fn:PySem.W.isFn K (.ref f)=true
 kp:Qa K (.ref C)=true
end
def PK (X:Cx) (kws:List Keyword) (t:TA):Prop :=
 ∀ (pos:Pos) (pins:List (Addr×Obj)) (s:W2) (σ:St) (H:Hp) (Q:List V→Hp→Prop),Inv X pins σ H s→t σ H Q→W9 (model X.prog X.w) X.A (evalAll ((Jx pos (QX kws X.env)).map (·.2))) (AP X pins σ Q) X.xe s
section
variable {X:Cx} {CX:CXT} {k:Nat} {f C:Addr} {fd:WD} {ps ks:List Str} {sp:Sp} {E:XK} {x m:Str} {p pos apos kpos:Pos} {e o:Expr} {es:List Expr} {kws:List Keyword} {te ta:TE} {t tk:TA} {nm:Option Str}
structure KBinds (K:W0) (fd:WD) (ps ks:List Str) (g:List Value→List Value→List Value) (gV:List V→List V→List V):Prop where
 to:∀ (s:W2) (us ws:List Value),K.In s.heap→(g us ws).length=ps.length→BindsTo s fd ⟨us,ks.zip ws⟩ (ps.zip (g us ws))
 rel:∀ {vs:List V} {us:List Value} {zs:List V} {ws:List Value},Vals vs us→Vals zs ws→Vals (gV vs zs) (g us ws)
variable {g:List Value→List Value→List Value} {gV:List V→List V→List V}
end
structure FnScope (N P:List Str) (sc:Scope):Prop where
 kind:sc.kind = .function
 co:sc.isCoroutine=false
 gen:sc.isGenerator=false
 nd:N.Nodup
 pre:N.take P.length=P
 par:∀ x ∈ P,sc.names.lookup x=some .local∨sc.names.lookup x=some .cell
 nofree:∀ y ∈ sc.names,y.2≠.free
theorem z7I {kindOf:Str→Option NameKind} {x:Str}:∀ {binds:List (Str×Value)} {m:Str→Option Value},(∀ v,(x,v) ∉ binds)→bindL kindOf binds m x=m x
 | [],_,_=>rfl
 | (n,v) :: r,m,h=>by
  unfold bindL
  rw [z7I fun w hw=>h w (We _ hw)]
  split
  ·have:x≠n:=by rintro rfl; exact h v Wh
   simp [this]
  ·rfl
theorem z7K {kindOf:Str→Option NameKind} {x:Str}:∀ {binds:List (Str×Value)} {m:Str→Option Value},(∀ v,(x,v) ∉ binds)→bindC kindOf binds m x=m x
 | [],_,_=>rfl
 | (n,v) :: r,m,h=>by
  unfold bindC
  rw [z7K fun w hw=>h w (We _ hw)]
  split
  ·rfl
  ·have:x≠n:=by rintro rfl; exact h v Wh
   simp [this]
theorem z7J {kindOf:Str→Option NameKind} {x:Str} {v:Value}:∀ {P:List Str} {vs:List Value} {i:Nat} {m:Str→Option Value},P.Nodup→P[i]? = some x→vs[i]? = some v→kindOf x=some .local →
  bindL kindOf (P.zip vs) m x=some v
 | [],_,_,_,_,h,_,_=>by simp at h
 | _ :: _,[],_,_,_,_,h,_=>by simp at h
 | p :: P,w :: vs,0,m,nd,h1,h2,hk=>by
  simp at h1 h2; subst h1; subst h2
  show bindL kindOf ((p,w) :: P.zip vs) m p=_
  unfold bindL
  rw [z7I fun v hv=>(QJ.mp nd).1 (JP hv).1,if_pos hk]
  simp
 | p :: P,w :: vs,i + 1,m,nd,h1,h2,hk=>by
  show bindL kindOf ((p,w) :: P.zip vs) m x=_
  unfold bindL
  exact z7J (i:=i) (QJ.mp nd).2 (by simpa using h1) (by simpa using h2) hk
theorem z7L {kindOf:Str→Option NameKind} {x:Str} {v:Value}:∀ {P:List Str} {vs:List Value} {i:Nat} {m:Str→Option Value},P.Nodup→P[i]? = some x→vs[i]? = some v→kindOf x≠some .local →
  bindC kindOf (P.zip vs) m x=some v
 | [],_,_,_,_,h,_,_=>by simp at h
 | _ :: _,[],_,_,_,_,h,_=>by simp at h
 | p :: P,w :: vs,0,m,nd,h1,h2,hk=>by
  simp at h1 h2; subst h1; subst h2
  show bindC kindOf ((p,w) :: P.zip vs) m p=_
  unfold bindC
  rw [z7K fun v hv=>(QJ.mp nd).1 (JP hv).1,if_neg hk]
  simp
 | p :: P,w :: vs,i + 1,m,nd,h1,h2,hk=>by
  show bindC kindOf ((p,w) :: P.zip vs) m x=_
  unfold bindC
  exact z7L (i:=i) (QJ.mp nd).2 (by simpa using h1) (by simpa using h2) hk
def start (N:List Str) (vs:List V):St:=vs.map some ++ Wd (N.length - vs.length) none
def cxOf (CX:CXT) (P:Wj) (w:Wp) (K:W0) (mg:Str→Option Value) (base:Heap) (N:List Str) (qual:Str) (scope:Scope) (f:Addr) (cd:Value) (A:Wo) (outer:List Env) (s:W2) (H:Hp) (E:XK):Cx where
 prog:=P
 w:=w
 K:=K
 mg:=mg
 base:=base
 A:=A.deeper (Qq qual scope s.heap.objs.size f cd)
 N:=N
 s₀:=s
 H₀:=H
 env:=Qq qual scope s.heap.objs.size f cd
 outer:=outer
 stack:=Qq qual scope s.heap.objs.size f cd :: outer
 ex:=[]
 calm:=true
 fn:=fun _=>true
 pn:=[]
 xe:=fun e s'=>W9 (model P w) (A.deeper (Qq qual scope s.heap.objs.size f cd)) (leaving (Qq qual scope s.heap.objs.size f cd) e) (fun _ s''=>CX outer H s E e s'') (fun e' s''=>CX outer H s E e' s'') s'
theorem z95 {sc:Scope} {n:Nat} {x:Str} (h:sc.names.lookup x=some .cell):∃ c,(Qm n sc.names []).lookup x=some c:=by
 have q:=Jg sc.names n [] (.inl h)
 exact QY.mp q
theorem z7q {CX:CXT} {P:Wj} {w:Wp} {K:W0} {mg:Str→Option Value} {base:Heap} {N ps:List Str} {qual:Str} {scope:Scope} {f:Addr} {cd:Value} {A:Wo} {outer:List Env} {s s1:W2} {H:Hp} {E:XK} {us:List Value} {vs:List V}
  (S:FnScope N ps scope) (hd:A.handled=none) (e0:Env0 P w K mg base A outer s H) (hl:vs.length=ps.length) (r:Vals vs us)
  (x:InCallC s s.heap.objs.size (bindL (Qq qual scope s.heap.objs.size f cd).kindOf (ps.zip us) fun _=>none) (Qm (s.heap.objs.size + 1) scope.names []) (bindC (Qq qual scope s.heap.objs.size f cd).kindOf (ps.zip us) fun _=>none) s1) :
  Inv (cxOf CX P w K mg base N qual scope f cd A outer s H E) [] (start N vs) H s1:=by
 have hpl:ps.length≤N.length:=by have:=congrArg Jh S.pre; rw [QZ] at this; omega
 obtain ⟨h1,tk,rfl,hk⟩:=x.done
 have noA:∀ b:Addr,b ∉ (cxOf CX P w K mg base N qual scope f cd A outer s H E).ex:=fun b z=>absurd (show b ∈ ([]:List Addr) from z) (by simp)
 refine ⟨⟨e0.mod,S.kind,rfl,rfl,Wc _,fun y z c h1 h2=>?_,fun y hy=>?_,fun y c _ h=>?_,fun _=>hd,Around.frames_deeper e0.frames,.inr ⟨rfl,rfl⟩,fun b z=>absurd z (noA b),e0.bs,e0.bsz,fun b _ _=>noA b,fun b z=>absurd z (noA b),e0.funs,e0.frf⟩,
  rfl,e0.bare,Un.kept hk,⟨_,x.toInCall.ns,fun i y v h1 h2 h3=>?_⟩,fun y c h=>⟨_,x.cell y c h⟩,e0.hok.fresh (Wc _),fun y c h=>?_,fun p hp=>absurd (show p ∈ ([]:List (Addr×Obj)) from hp) (by simp),e0.hok.kept hk,?_⟩
 ·exact name_of_addr x.apart (Wu h1) (Wu h2)
 ·have hy:scope.names.lookup y=some .cell∨scope.names.lookup y=some .free:=hy
  rcases hy with hy | hy
  ·exact z95 hy
  ·exact absurd rfl (S.nofree _ (Wu hy))
 ·exact Nat.le_of_lt (x.above y c (Wu h))
 ·have hi:i < vs.length:=by
   unfold start at h2
   by_cases hi:i < vs.length
   ·exact hi
   ·rw [List.getElem?_append_right (by simpa using hi)] at h2
    rw [List.getElem?_replicate] at h2
    split at h2 <;> cases h2
  have ha:vs[i]? = some v:=by
   unfold start at h2
   rw [QU (by simpa using hi),WB] at h2
   cases e:vs[i]? with
   | none=>rw [e] at h2; cases h2
   | some a=>rw [e] at h2; cases h2; rfl
  obtain ⟨u,hu,rv⟩:=r.get ha
  have hp:ps[i]? = some y:=by
   rw [← S.pre,List.getElem?_take_of_lt (by omega)]; exact h1
  have ndP:ps.Nodup:=by rw [← S.pre]; exact S.nd.sublist (List.take_sublist _ _)
  refine ⟨u,rv,?_⟩
  rcases S.par y (Wv hp) with k | k
  ·exact .inl ⟨k,z7J ndP hp hu k⟩
  ·obtain ⟨c,e⟩:=z95 (n:=s.heap.objs.size + 1) k
   refine .inr ⟨.inl k,c,e,?_⟩
   have q:=x.cell y c e
   rw [z7L ndP hp hu (by show scope.names.lookup y≠_; rw [k]; decide)] at q
   exact q
 ·exact e0.hok.fresh (Nat.le_of_lt (x.above y c (Wu h)))
 ·unfold start
  show _=N.length
  rw [WY,Qn,List.length_replicate]
  omega
theorem zg7 {CX:CXT} {P:Wj} {w:Wp} {K:W0} {mg:Str→Option Value} {base:Heap} {k:Nat} {f:Addr} {name qual:Str} {params:Arguments} {body:List Stmt} {scope:Scope} {dV kV doc pm cdv ct oc:Value} {an od:Option Addr}
  {osl:Array (Option Value)} {N ps:List Str} {sp:Sp} (lk:K.lookup f=some ⟨oc,od,.func (Qr name qual params body scope dV kV doc pm an cdv ct),osl⟩) (hcd:PySem.W.codeIn K cdv qual=true) (S:FnScope N ps scope)
  (len:∀ vs H Q E,sp vs H Q E→vs.length=ps.length)
  (hbody:∀ (A:Wo) (outer:List Env) (s:W2) (H:Hp) (vs:List V) (Q:VK) (E:XK),Room k (A.deeper (Qq qual scope s.heap.objs.size f cdv))→sp vs H Q E →
   ∃ t,PSs (cxOf CX P w K mg base N qual scope f cdv A outer s H E) body t∧t { nx:=fun _ H'=>Q .non H',rt:=Q } (start N vs) H) :
  FnOk P w K mg base CX (k + 1) f (Qr name qual params body scope dV kV doc pm an cdv ct) ps sp:=by
 refine ⟨len,fun A outer s H args us vs Q E hr e0 hb r hsp=>?_⟩
 have hl:=len _ _ _ _ hsp
 have KX:K.In s.heap:=e0.mod.kin.keeps fun b o e=>(e0.bs b o e).1
 have lim:s.heap.NoLimit:=e0.mod.nolimit.keeps fun b o e=>(e0.bs b o e).1
 have hkind:∀ y ∈ ps.zip us,scope.names.lookup y.1=some .local∨(scope.names.lookup y.1=some .cell∧((Qm (s.heap.objs.size + 1) scope.names []).lookup y.1).isSome=true):=fun ⟨n,v⟩ hy=>by
  rcases S.par n (JP hy).1 with q | q
  ·exact .inl q
  ·exact .inr ⟨q,Jg _ _ _ (.inl q)⟩
 refine codeAny_call_function hr.depth (KX _ _ lk) rfl S.co S.gen rfl (PySem.W.codeRec_of KX hcd) (hb _ _ _ _ ?_)
 refine wpAny_newFunctionEnv_cells S.kind hkind fun env he s1 x=>?_
 subst he
 refine ⟨lim.keeps x.toInCall.keep,codeAny_func ?_⟩
 obtain ⟨t,ht,hq⟩:=hbody A outer s H vs Q E (hr.deeper _) hsp
 have I:Inv (cxOf CX P w K mg base N qual scope f cdv A outer s H E) [] (start N vs) H s1:=z7q S hr.hd e0 hl r x
 refine WL (ht [] s1 (start N vs) H _ I hq) (fun fl s' hs=>?_) fun e s' hs=>hs
 have fin:∀ {σ':St} {H':Hp} {v:V} {u:Value},Inv (cxOf CX P w K mg base N qual scope f cdv A outer s H E) [] σ' H' s'→RelV v u→Q v H'→CE outer P w H s Q u s' :=
  fun {σ' H' v u} J rv q=>⟨v,H',J.os,J.bare,J.base,J.hok,rv,q⟩
 cases fl with
 | ret u =>
  obtain ⟨v,σ',H',J,rv,q⟩:=hs
  exact fin J rv q
 | next =>
  obtain ⟨σ',H',J,q⟩:=hs
  exact fin (v:=V.non) (u:=Value.none) J rfl q
 | brk =>
  obtain ⟨_,_,_,q⟩:=hs
  exact False.elim q
 | cont =>
  obtain ⟨_,_,_,q⟩:=hs
  exact False.elim q
section
variable {X:Cx} {x:Str} {p pos:Pos} {e:Expr} {es:List Expr} {t:TA} {id T:String} {r:List V→Hp→VK→Prop}
def tCB (r:List V→Hp→VK→Prop) (t:TA):TE:=fun σ H Q=>t σ H fun vs H1=>r vs H1 Q
theorem z3V (hc:CallR X (.builtin id) r) (hg:Gl X x) (hm:X.mg x=none) (hv:Qg x=some (.builtin id)) (ha:PA X (e :: es) t) (hn:x≠"__name__":=by decide) (hdb:(x == ("__debug__" : Str))=false:=by decide)
  (he:W7 (e :: es) X.env=(false,eval e X.env) :: W7 es X.env:=by rfl) (hpl:(WT pos (W7 es X.env)).any (·.1)=false:=by rfl):PE X (.Call (.Name x p) (e :: es) [] pos) (tCB r t):=by
 intro pins s σ H Q I h
 refine QG (z64 I hg hm hv ?_ hn hdb)
 exact PyProof.Rows.callWith_builtin1 (thn (ha pos pins s σ H _ I h) fun us s1 ⟨vs,H1,I1,r1,q1⟩=>hc pins s1 σ H1 vs us Q I1 r1 q1) he hpl
theorem zar (hc:CallR X (.type T) r) (hg:Gl X x) (hm:X.mg x=none) (hv:Qg x=some (.type T)) (ha:PA X (e :: es) t) (hn:x≠"__name__":=by decide) (hdb:(x == ("__debug__" : Str))=false:=by decide)
  (he:W7 (e :: es) X.env=(false,eval e X.env) :: W7 es X.env:=by rfl) (hpl:(WT pos (W7 es X.env)).any (·.1)=false:=by rfl):PE X (.Call (.Name x p) (e :: es) [] pos) (tCB r t):=by
 intro pins s σ H Q I h
 refine QG (z64 I hg hm hv ?_ hn hdb)
 exact QF (thn (ha pos pins s σ H _ I h) fun us s1 ⟨vs,H1,I1,r1,q1⟩=>hc pins s1 σ H1 vs us Q I1 r1 q1) he hpl
end
end L2
namespace HT
open PySem PyProof.Rows
section
open PySem.SeqAt
open PySem.AutoSeq1 (wpAny_loadPart')
open PySem.MeetsSeq PySem.MeetsSeq2 PySem.MeetsSeq3
end
section
variable {prog:Wj} {w:Wp} {A:Wo} {E:Value→W2→Prop} {s:W2}
theorem cat_tup (ht:IsTup s.heap t vs.toArray) (hb:IsTup s.heap b ws.toArray) (hv:vs≠[])
  (h1:ws=[]→Q (.ref t) s) (h2:ws≠[]→Q (.ref s.heap.objs.size) { s with heap:=s.heap.push { cls:=.type "tuple",data:=.seq (vs ++ ws).toArray } })
  (hsz:vs.length + ws.length≤W3):W9 (model prog w) A (Qh .Add (.ref t) (.ref b)) Q E s:=by
 obtain ⟨⟨cls,dd,data,sl⟩,ho,hc,n,hd⟩:=id ht
 obtain ⟨⟨cls2,dd2,data2,sl2⟩,ho2,hc2,n2,hd2⟩:=id hb
 simp only at hc hd hc2 hd2
 subst hc hd hc2 hd2
 have e:vs.toArray ++ ws.toArray=(vs ++ ws).toArray:=by simp
 by_cases hw:ws=[]
 ·exact concat_meets ⟨_,ho,rfl⟩ ⟨_,ho2,rfl⟩ noFill_tuple_add seq_tuple_add PySem.F.slot_tuple_add PySem.F.entry_tuple_add (PySem.F.args_tuple_add_2 _ _)
   (tuple_addW1 t b vs.toArray ws.toArray n n2 dd dd2 sl sl2 (by simpa using hv) (by simp [hw])) ⟨ho,ho2,h1 hw⟩
 ·refine concat_meets ⟨_,ho,rfl⟩ ⟨_,ho2,rfl⟩ noFill_tuple_add seq_tuple_add PySem.F.slot_tuple_add PySem.F.entry_tuple_add (PySem.F.args_tuple_add_2 _ _)
   (tuple_addW2 t b vs.toArray ws.toArray n n2 dd dd2 sl sl2 (by simpa using hv) (by simpa using hw) (by rw [Wk,Wk]; exact hsz)) ⟨ho,ho2,?_⟩
  rw [e]
  exact h2 hw
def sIx (n d:Nat):Option Int→Nat
 | none=>d
 | some v=>if v < 0 then (v + (n:Int)).toNat else min v.toNat n
theorem sIx_le (n d:Nat) (hd:d≤n) (o:Option Int):sIx n d o≤n:=by
 cases o with
 | none=>exact hd
 | some v =>
  show (if v < 0 then (v + (n:Int)).toNat else min v.toNat n)≤n
  by_cases hv:v < 0
  ·rw [if_pos hv]; omega
  ·rw [if_neg hv]; exact Nat.min_le_right _ _
theorem zbl (v:Int) (n d:Nat):(if v < 0 then max (v + (n:Int)) 0 else min v (n:Int))=((sIx n d (some v):Nat):Int):=by
 show (if v < 0 then max (v + (n:Int)) 0 else min v (n:Int))=(((if v < 0 then (v + (n:Int)).toNat else min v.toNat n):Nat):Int)
 by_cases hv:v < 0
 ·simp only [if_pos hv]; omega
 ·simp only [if_neg hv]; omega
theorem z9I (lo hi:Option Int) (n:Nat):Qe lo hi 1 (n:Int)=(((sIx n 0 lo:Nat):Int),((sIx n n hi:Nat):Int)):=by
 have h1:¬ ((1:Int) < 0):=by omega
 unfold Qe
 simp only [h1,if_false]
 refine Prod.ext ?_ ?_
 ·cases lo with
  | none=>rfl
  | some v=>exact zbl v n 0
 ·cases hi with
  | none=>rfl
  | some v=>exact zbl v n n
theorem z9q (i j:Nat):WO (i:Int) (j:Int) 1=j - i:=by
 unfold WO
 have h1:(1:Int) > 0:=by omega
 simp only [h1,if_true,Int.ediv_one]
 split <;> omega
theorem z5V (p:IsPart v o) (h:Q o s):W9 (model prog w) A (Builtin.Slice.slicePartIndex v) Q E s:=by
 cases p with
 | none=>exact slicePart_none h
 | int i t=>exact slicePart_int h
theorem sliceApplied_gen {sl:Addr} {vl vu:Value} {lo hi:Option Int} {n:Nat} {Q:Int×Int×Nat→W2→Prop} (hs:s.heap.IsSliceOf sl vl vu .none) (pl:IsPart vl lo) (pu:IsPart vu hi)
  (h:Q (((sIx n 0 lo:Nat):Int),1,sIx n n hi - sIx n 0 lo) s):W9 (model prog w) A (QL (.ref sl) (pure (n:Int))) Q E s:=by
 obtain ⟨os,hos,hcs,hds⟩:=id hs
 unfold QL Builtin.Slice.sliceFields
 refine W1 (W1 (QE hos hds (x:=vl) rfl (W1 (QE hos hds (x:=vu) rfl (W1 (QE hos hds (x:=.none) rfl (W8 ?_)))))))
 refine W1 (slicePart_none ?_)
 show W9 _ _ (if ((1:Int) == 0)=true then _ else _) _ _ s
 rw [if_neg (by decide)]
 refine W1 (z5V pl (W1 (z5V pu (W1 (W8 ?_)))))
 show W9 _ _ (match Qe lo hi 1 (n:Int) with | (lo,hi)=>pure (lo,(1:Int),WO lo hi 1)) _ _ s
 rw [z9I lo hi n]
 show W9 _ _ (pure (((sIx n 0 lo:Nat):Int),(1:Int),WO ((sIx n 0 lo:Nat):Int) ((sIx n n hi:Nat):Int) 1)) _ _ s
 rw [z9q]
 exact W8 h
theorem zc3 (xs:Array Value) (i k:Nat):((Wa k).filterMap fun (m:Nat)=>xs[((i:Int) + (m:Int) * 1).toNat]?).toArray=((xs.toList.drop i).take k).toArray:=by
 have e:(fun (m:Nat)=>xs[((i:Int) + (m:Int) * 1).toNat]?)=fun m=>xs[i + m]?:=by
  funext m
  have:((i:Int) + (m:Int) * 1).toNat=i + m:=by omega
  rw [this]
 rw [e]
 have:=pick_run xs i k
 rw [List.filterMap_map] at this
 have e2:((fun x=>xs[x]?) ∘ fun x=>i + x)=fun m=>xs[i + m]?:=rfl
 rw [e2] at this
 rw [this]
theorem getItem_tuple_cut {t sl:Addr} {items:Array Value} {vl vu:Value} {lo hi:Option Int} {Q:Value→W2→Prop} (ht:IsTup s.heap t items) (hs:s.heap.IsSliceOf sl vl vu .none) (pl:IsPart vl lo) (pu:IsPart vu hi)
  (hw:¬ (sIx items.size 0 lo=0∧sIx items.size items.size hi=items.size))
  (h:Q (.ref s.heap.objs.size) { s with heap:=s.heap.push { cls:=.type "tuple",data:=.seq ((items.toList.drop (sIx items.size 0 lo)).take (sIx items.size items.size hi - sIx items.size 0 lo)).toArray } })
  (hsz:items.size≤W3):W9 (model prog w) A (Jp (.ref t) (.ref sl)) Q E s:=by
 have htake:sizeOk (.seq ((items.toList.drop (sIx items.size 0 lo)).take (sIx items.size items.size hi - sIx items.size 0 lo)).toArray):=by
  show ((items.toList.drop (sIx items.size 0 lo)).take (sIx items.size items.size hi - sIx items.size 0 lo)).toArray.size≤W3
  rw [Wk,QZ,List.length_drop,Array.length_toList]
  omega
 have hj:sIx items.size items.size hi≤items.size:=sIx_le _ _ (Wc _) hi
 obtain ⟨os,hos,hcs,hds⟩:=id hs
 have hTs:s.TypeIs (.ref sl) "slice":=⟨os,hos,hcs⟩
 unfold Jp
 try with_reducible refine Q3 ?_
 first | refine W1 (W8 ?_) | skip
 refine W1 (wpAny_sequenceKey ht.typeIs (by decide) ?_)
 refine W1 (QA (name:=Str.ofString "__getitem__") ht.typeIs WU
  (Jm WU ht.typeIs entry_tuple_getitem ?_ (args_tuple_getitem _ _)))
 show W9 _ _ (Builtin.Tuple.tupleItemsOf (.ref t) >>= _) _ _ s
 refine W1 (tupleItemsOf_ ht ?_)
 refine W1 (J0 hTs ?_)
 rw [if_pos (by decide)]
 refine W1 (sliceApplied_gen hs pl pu ?_)
 have hno:¬ ((((sIx items.size 0 lo:Nat):Int) == 0 && (1:Int) == 1 && (sIx items.size items.size hi - sIx items.size 0 lo) == items.size)=true):=by
  intro q
  rw [Wi,Wi] at q
  have q1:((sIx items.size 0 lo:Nat):Int)=0:=eq_of_beq q.1.1
  have q2:sIx items.size items.size hi - sIx items.size 0 lo=items.size:=eq_of_beq q.2
  exact hw ⟨by omega,by omega⟩
 show W9 _ _ (if (((sIx items.size 0 lo:Nat):Int) == 0 && (1:Int) == 1 && (sIx items.size items.size hi - sIx items.size 0 lo) == items.size)=true then _ else _) _ _ s
 rw [if_neg hno,zc3]
 first
  | exact W1 (m:=WR _) (WN (W8 ⟨_,rfl,W8 h⟩) htake)
  | exact W1 (m:=WR _) (WN (W1 (W8 (W8 ⟨_,rfl,W8 h⟩))) htake)
  | exact W1 (W1 (m:=WR _) (WN (W8 (W8 ⟨_,rfl,W8 h⟩)) htake))
  | exact W1 (W1 (m:=WR _) (WN (W8 ⟨_,rfl,W8 h⟩) htake))
end
end HT
namespace L2
open PySem PySem.Spec PyProof.Rows
abbrev TO:=St→Hp→(Option Int→Hp→Prop)→Prop
def PO (X:Cx) (e:Option Expr) (t:TO):Prop :=
 ∀ (pins:List (Addr×Obj)) (s:W2) (σ:St) (H:Hp) (Q:Option Int→Hp→Prop),Inv X pins σ H s→t σ H Q →
  W9 (model X.prog X.w) X.A (evalPart e X.env) (fun u s'=>∃ o H',Inv X pins σ H' s'∧IsPart u o∧Q o H') X.xe s
def zdj:TO:=fun _ H Q=>Q none H
def tPart (t:TE):TO:=fun σ H Q=>t σ H fun x H1=>∃ i,x = .int i∧Q (some i) H1
section
variable {X:Cx} {e:Expr} {te:TE} {lo hi:Option Expr} {tl th:TO} {pos p2:Pos}
theorem zdY:PO X none zdj:=by
 intro pins s σ H Q I h
 rw [evalPart_none]
 exact W8 ⟨none,H,I,.none,h⟩
theorem zdX (h:PE X e te):PO X (some e) (tPart te):=by
 intro pins s σ H Q I hw
 rw [evalPart_some]
 refine thn (h pins s σ H _ I hw) fun u s1 ⟨x,H1,I1,r1,q1⟩=>?_
 obtain ⟨i,rfl,q⟩:=q1
 obtain ⟨t,rfl⟩:=r1
 exact ⟨some i,H1,I1,.int i t,q⟩
def SlR (X:Cx) (r:V→Option Int→Option Int→Hp→VK→Prop):Prop :=
 ∀ (pins:List (Addr×Obj)) (s:W2) (σ:St) (H:Hp) (x:V) (v vl vu:Value) (lo hi:Option Int) (sl:Addr) (Q:VK),Inv X pins σ H s→RelV x v→s.heap.IsSliceOf sl vl vu .none→IsPart vl lo→IsPart vu hi→r x lo hi H Q →
  ∃ T id,typeLookup (.type T) "__getitem__" = pure (some (.builtin id))∧s.TypeIs v T∧W9 (model X.prog X.w) X.A (Jp v (.ref sl)) (EP X pins σ Q) X.xe s
theorem SlR.or (h:SlR X r) (h':SlR X r'):SlR X (fun x lo hi H Q=>r x lo hi H Q∨r' x lo hi H Q):=by
 intro pins s σ H x v vl vu lo hi sl Q I rx hs pl pu q
 rcases q with q | q
 ·exact h pins s σ H x v vl vu lo hi sl Q I rx hs pl pu q
 ·exact h' pins s σ H x v vl vu lo hi sl Q I rx hs pl pu q
def tSl (r:V→Option Int→Option Int→Hp→VK→Prop) (te:TE) (tl th:TO):TE:=fun σ H Q=>te σ H fun x H1=>tl σ H1 fun l H2=>th σ H2 fun u H3=>r x l u H3 Q
theorem z8J (hr:SlR X r) (he:PE X e te) (hl:PO X lo tl) (hu:PO X hi th):PE X (.Subscript e (.Slice lo hi none p2) pos) (tSl r te tl th):=by
 intro pins s σ H Q I h
 refine Subscript_ (thn (he pins s σ H _ I h) fun v s1 ⟨x,H1,I1,r1,q1⟩=>?_)
 refine wpAny_Slice (thn (hl pins s1 σ H1 _ I1 q1) fun vl s2 ⟨l,H2,I2,pl,q2⟩=>thn (hu pins s2 σ H2 _ I2 q2) fun vu s3 ⟨u,H3,I3,pu,q3⟩=>?_)
 rw [evalPart_none]
 refine W8 ?_
 have I4:Inv X pins σ H3 { s3 with heap:=s3.heap.push { cls:=.type "slice",data:=.fields #[vl,vu,.none] } }:=I3.kept (t':=s3.toks) fun b ob q=>W5 _ q
 obtain ⟨T,id,hT,ht,hg⟩:=hr pins { s3 with heap:=s3.heap.push { cls:=.type "slice",data:=.fields #[vl,vu,.none] } } σ H3 x v vl vu l u s3.heap.objs.size Q I4 r1 (Heap.IsSliceOf.new ..) pl pu q3
 show W9 (model X.prog X.w) X.A (subscriptTail e (.Slice lo hi none p2) v (.ref s3.heap.objs.size)) (EP X pins σ Q) X.xe { s3 with heap:=s3.heap.push { cls:=.type "slice",data:=.fields #[vl,vu,.none] } }
 exact tail_any (ops:=[.ref s3.heap.objs.size,v]) ht hT hg (by with_unfolding_all rfl)
def cutV (xs:List V) (lo hi:Option Int):List V:=(xs.drop (HT.sIx xs.length 0 lo)).take (HT.sIx xs.length xs.length hi - HT.sIx xs.length 0 lo)
theorem z5t (xs:List V) (lo hi:Option Int):(cutV xs lo hi).length≤xs.length:=by
 unfold cutV
 rw [QZ,List.length_drop]
 omega
def rSlT (K:W0):V→Option Int→Option Int→Hp→VK→Prop:=fun x lo hi H Q=>∃ a xs,x = .ref a∧SqT K H a xs ∧
 ¬ (HT.sIx xs.length 0 lo=0∧HT.sIx xs.length xs.length hi=xs.length)∧∀ p,H p=none→Q (.ref p) (upd H p (.tup (cutV xs lo hi)))
theorem sl_tup:SlR X (rSlT X.K):=by
 intro pins s σ H x v vl vu lo hi sl Q I rx hs pl pu h
 obtain ⟨a,xs,rfl,hx,hw,q⟩:=h
 cases rx
 obtain ⟨its,r,ht,hz⟩:=I.tuple hx
 have hlen:its.toArray.size=xs.length:=by rw [Wk]; exact r.length.symm
 refine ⟨"tuple",_,PyProof.Rows.slot_tuple_getitem.lookup,ht.typeIs,?_⟩
 refine HT.getItem_tuple_cut ht hs pl pu (by rw [hlen]; exact hw) ?_ (by rw [hlen]; exact hz)
 rw [hlen]
 refine ⟨.ref s.heap.objs.size,_,I.laid (t':=s.toks) (o:=.tup (cutV xs lo hi)) (fun b ob q=>W5 _ q) (Wc _) ?_,rfl,q _ (I.hok.fresh (Wc _))⟩
 exact ⟨WI (z5t xs lo hi) hz,_,(r.drop (HT.sIx xs.length 0 lo)).take (HT.sIx xs.length xs.length hi - HT.sIx xs.length 0 lo),IsTupN.new _ _⟩
def zf7 (K:W0):R2:=fun x y H Q=>∃ a b xs ys,x = .ref a∧y = .ref b∧SqT K H a xs∧SqT K H b ys∧xs≠[]∧xs.length + ys.length≤W3 ∧
 (ys=[]→Q (.ref a) H)∧(ys≠[]→∀ p,H p=none→Q (.ref p) (upd H p (.tup (xs ++ ys))))
theorem Vals.nil_iff (r:Vals xs us):us=[] ↔ xs=[]:=by
 cases r with
 | nil=>simp
 | cons _ _=>simp
theorem op_catT:OpR X (Qh .Add) (zf7 X.K):=by
 intro pins s σ H x y v u Q I rx ry h
 obtain ⟨a,b,xs,ys,rfl,rfl,ha,hb,hx,hz,q1,q2⟩:=h
 cases rx
 cases ry
 obtain ⟨its,r1,p1,_⟩:=I.tuple ha
 obtain ⟨its2,r2,p2,_⟩:=I.tuple hb
 refine HT.cat_tup p1 p2 (fun z=>hx (r1.nil_iff.mp z)) (fun z=>⟨.ref a,H,I,rfl,q1 (r2.nil_iff.mp z)⟩) (fun z=>?_) (by rw [← r1.length,← r2.length]; exact hz)
 refine ⟨.ref s.heap.objs.size,_,I.laid (t':=s.toks) (o:=.tup (xs ++ ys)) (fun b ob q=>W5 _ q) (Wc _) ?_,rfl,q2 (fun w=>z (r2.nil_iff.mpr w)) _ (I.hok.fresh (Wc _))⟩
 exact ⟨by rw [WY]; exact hz,_,r1.append r2,IsTupN.new _ _⟩
end
def ixN (n:Nat) (i:Int):Option Nat:=if 0≤i then (if i < n then some i.toNat else none) else if -(n:Int)≤i then some (i + n).toNat else none
def atI {α:Type} (xs:List α) (i:Int):Option α:=(ixN xs.length i).bind fun j=>xs[j]?
theorem zaU (h:ixN n i=some j):seqIndex? i n=some j∧j < n∧-(n:Int)≤i∧i < n:=by
 unfold ixN at h
 by_cases h0:0≤i
 ·rw [if_pos h0] at h
  by_cases h1:i < n
  ·rw [if_pos h1] at h
   have e:i.toNat=j:=Wt h
   exact ⟨by rw [seqIndex_of h0 h1,e],by omega,by omega,h1⟩
  ·rw [if_neg h1] at h; cases h
 ·rw [if_neg h0] at h
  by_cases h1 : -(n:Int)≤i
  ·rw [if_pos h1] at h
   have e:(i + n).toNat=j:=Wt h
   exact ⟨by rw [seqIndex_neg (by omega) h1,e],by omega,h1,by omega⟩
  ·rw [if_neg h1] at h; cases h
theorem z8t (h:atI xs i=some v):∃ j,seqIndex? i xs.length=some j∧xs[j]? = some v∧j < xs.length∧-(xs.length:Int)≤i∧i < xs.length:=by
 unfold atI at h
 cases e:ixN xs.length i with
 | none=>rw [e] at h; cases h
 | some j =>
  rw [e] at h
  obtain ⟨h1,h2,h3,h4⟩:=zaU e
  exact ⟨j,h1,h,h2,h3,h4⟩
def z8u (b:Expr):Prop:=∀ o i,subscripted b false o i=operate [o,i] (Jp o i)
def IxR (X:Cx) (r:R2):Prop :=
 ∀ (value slice:Expr) (pins:List (Addr×Obj)) (s:W2) (σ:St) (H:Hp) (x y:V) (v u:Value) (Q:VK),Inv X pins σ H s→RelV x v→RelV y u→r x y H Q →
  subscripted slice false v u=operate [v,u] (Jp v u)→W9 (model X.prog X.w) X.A (subscriptTail value slice v u) (EP X pins σ Q) X.xe s
def MtR (X:Cx) (id:String) (r:V→List V→Hp→VK→Prop):Prop :=
 ∀ (pins:List (Addr×Obj)) (s:W2) (σ:St) (H:Hp) (x:V) (xs:List V) (v:Value) (us:List Value) (Q:VK),Inv X pins σ H s→RelV x v→Vals xs us→r x xs H Q →
  W9 (model X.prog X.w) X.A (call (.builtin id) (v :: us)) (EP X pins σ Q) X.xe s
section
variable {X:Cx} {a b:Expr} {ta tb:TE} {pos:Pos}
theorem IxR.or (h:IxR X r) (h':IxR X r'):IxR X (fun x y H Q=>r x y H Q∨r' x y H Q):=by
 intro value slice pins s σ H x y v u Q I rx ry q hs
 rcases q with q | q
 ·exact h value slice pins s σ H x y v u Q I rx ry q hs
 ·exact h' value slice pins s σ H x y v u Q I rx ry q hs
theorem MtR.or {id:String} {r r':V→List V→Hp→VK→Prop} (h:MtR X id r) (h':MtR X id r'):MtR X id (fun x xs H Q=>r x xs H Q∨r' x xs H Q):=by
 intro pins s σ H x xs v us Q I rx rs q
 rcases q with q | q
 ·exact h pins s σ H x xs v us Q I rx rs q
 ·exact h' pins s σ H x xs v us Q I rx rs q
theorem zfv (hr:IxR X r) (ha:PE X a ta) (hb:PE X b tb) (hs:z8u b):PE X (.Subscript a b pos) (tOp r ta tb):=by
 intro pins s σ H Q I h
 exact Subscript_ (binT ha hb I h fun v u s2 x y H2 I2 rx ry q=>hr a b pins s2 σ H2 x y v u Q I2 rx ry q (hs _ _))
def rIxL (K:W0):R2:=fun x y H Q=>∃ p xs i v,x = .ref p∧y = .int i∧SqL K H p xs∧atI xs i=some v∧Q v H
def rIxT (K:W0):R2:=fun x y H Q=>∃ p xs i v,x = .ref p∧y = .int i∧SqT K H p xs∧atI xs i=some v∧Q v H
def rIxS:R2:=fun x y H Q=>∃ z i c,x = .str z∧y = .int i∧z.length≤W3∧atI z.cps.toList i=some c∧Q (.str ⟨#[c]⟩) H
theorem ix_list:IxR X (rIxL X.K):=by
 intro value slice pins s σ H x y v u Q I rx ry h hs
 obtain ⟨p,xs,i,z,rfl,rfl,hq,he,q⟩:=h
 cases rx
 obtain ⟨t,rfl⟩:=ry
 obtain ⟨its,r,pl,hz⟩:=I.list hq
 obtain ⟨j,h1,h2,h3,h4,h5⟩:=z8t he
 obtain ⟨w,ew,rw'⟩:=r.get h2
 have hl:=r.length
 have hn:=z61
 have fin:EP X pins σ Q w s:=⟨z,H,I,rw',q⟩
 by_cases h0:0≤i
 ·have hj:i.toNat=j:=by
   rw [seqIndex_of h0 h5] at h1
   exact Wt h1
  exact item_listR pl.isList h0 (by omega) (by rw [hj]; simpa using ew) fin hs
 ·have hj:(i + (its.toArray.size:Int)).toNat=j:=by
   rw [seqIndex_neg (by omega) h4] at h1
   rw [Wk,← hl]
   exact Wt h1
  exact subscriptTail_builtinR (x:=w) pl.isList.typeIs slot_list_getitem.lookup
   (wpAny_getItem_list_neg (Q:=fun r s'=>r=w∧EP X pins σ Q r s') pl.isList (by omega) (by rw [Wk] <;> omega) (by omega) (by rw [hj]; simpa using ew) ⟨rfl,fin⟩) hs
theorem ix_tup:IxR X (rIxT X.K):=by
 intro value slice pins s σ H x y v u Q I rx ry h hs
 obtain ⟨p,xs,i,z,rfl,rfl,hq,he,q⟩:=h
 cases rx
 obtain ⟨t,rfl⟩:=ry
 obtain ⟨its,r,pl,hz⟩:=I.tuple hq
 obtain ⟨j,h1,h2,h3,h4,h5⟩:=z8t he
 obtain ⟨w,ew,rw'⟩:=r.get h2
 have hl:=r.length
 have hn:=z61
 have fin:EP X pins σ Q w s:=⟨z,H,I,rw',q⟩
 exact subscriptTail_builtinR (x:=w) pl.typeIs slot_tuple_getitem.lookup
  (getItem_tuple (j:=j) (Q:=fun r s'=>r=w∧EP X pins σ Q r s') pl (by omega) (by omega) (by rw [Wk,← hl]; exact h1) (by simpa using ew) ⟨rfl,fin⟩) hs
theorem zfU:IxR X rIxS:=by
 intro value slice pins s σ H x y v u Q I rx ry h hs
 obtain ⟨z,i,c,rfl,rfl,hz,he,q⟩:=h
 obtain ⟨t,rfl⟩:=rx
 obtain ⟨t',rfl⟩:=ry
 obtain ⟨j,h1,h2,h3,h4,h5⟩:=z8t he
 have hl:z.cps.toList.length=z.length:=by simp [Str.length]
 rw [hl] at h1 h4 h5
 have hn:=z61
 exact tail_any (typeIs_str s z t) slot_str_getitem.lookup (getItem_str (c:=c) (by
  have e1:decide (i < -(2 ^ 63:Int))=false:=decide_eq_false (by omega)
  have e2:decide (i ≥ 2 ^ 63)=false:=decide_eq_false (by omega)
  rw [e1,e2,Bool.or_false]) (by rw [h1]; simpa using h2) ⟨.str ⟨#[c]⟩,H,I.tok _,⟨_,rfl⟩,q⟩) hs
def rIx (K:W0):R2:=fun x y H Q=>rIxL K x y H Q∨rIxT K x y H Q∨rIxS x y H Q
theorem z0n:IxR X (rIx X.K):=ix_list.or (ix_tup.or zfU)
theorem z9u (its:List Value) (n j:Nat) (u:Value):Obj.mapSeq (·.setIfInBounds j u) { cls:=.type "list",data:=.seq its.toArray n } = { cls:=.type "list",data:=.seq (its.set j u).toArray n }:=by
 simp [Obj.mapSeq]
theorem Inv.lst (I:Inv X pins σ H s) (h:H p=some (.lst xs)) :
  ∃ (its:List Value) (n:Nat),Vals xs its∧s.heap.get? p=some { cls:=.type "list",data:=.seq its.toArray n }∧xs.length≤W3:=by
 obtain ⟨z,its,n,r,e⟩:=I.hok p _ h
 exact ⟨its,n,r,e,z⟩
theorem Inv.lstUpd {pins:List (Addr×Obj)} {σ:St} {H:Hp} {s:W2} {p:Addr} {xs ys:List V} {its its':List Value} {n n':Nat} {f:Obj→Obj} (I:Inv X pins σ H s) (h:H p=some (.lst xs))
  (ho:s.heap.get? p=some { cls:=.type "list",data:=.seq its.toArray n }) (hf:f { cls:=.type "list",data:=.seq its.toArray n } = { cls:=.type "list",data:=.seq its'.toArray n' }) (r:Vals ys its') (hz:ys.length≤W3) (t:Nat) :
  Inv X pins σ (upd H p (.lst ys)) { s with heap:=s.heap.update p f,toks:=t }:=by
 have e:(s.heap.update p f).get? p=some { cls:=.type "list",data:=.seq its'.toArray n' }:=by
  rw [QK f ho (by rw [hf] <;> rfl),hf]
 refine I.write (x:=p) (e:=p) (by rw [h]; trivial) (.inl rfl) (fun b u hb q=>(WQ _ _ (Ne.symm hb)).trans q) ⟨_,e⟩ ?_
 exact ⟨hz,its',n',r,e⟩
def rSetL:V→V→V→Hp→(Hp→Prop)→Prop:=fun o i v H Q=>∃ p xs k j,o = .ref p∧i = .int k∧H p=some (.lst xs)∧ixN xs.length k=some j∧Q (upd H p (.lst (xs.set j v)))
theorem zbG:PSet X rSetL:=by
 intro pins s σ H o i v ov iv u Q I ro ri rv h
 obtain ⟨p,xs,k,j,rfl,rfl,hp,hj,q⟩:=h
 cases ro
 obtain ⟨t,rfl⟩:=ri
 obtain ⟨its,n,r,ho,hz⟩:=I.lst hp
 obtain ⟨h1,h2,h3,h4⟩:=zaU hj
 have hl:=r.length
 have hn:=z61
 have I':Inv X pins σ (upd H p (.lst (xs.set j v))) { s with heap:=s.heap.update p (Obj.mapSeq (·.setIfInBounds j u)) } :=
  I.lstUpd hp ho (z9u its n j u) (r.set rv j) (by rw [Qo]; exact hz) s.toks
 by_cases h0:0≤k
 ·have hk:k.toNat=j:=by
   rw [seqIndex_of h0 h4] at h1
   exact Wt h1
  exact PySem.W.ki_setAt ho h0 (by omega) (by rw [Wk,← hl]; exact h4) (by rw [hk]; exact ⟨_,I',q⟩)
 ·have hk:(k + (its.toArray.size:Int)).toNat=j:=by
   rw [seqIndex_neg (by omega) h3] at h1
   rw [Wk,← hl]
   exact Wt h1
  exact PySem.W.ki_setBack ho (by omega) (by rw [Wk,← hl]; exact h3) (by omega) (by rw [hk]; exact ⟨_,I',q⟩)
theorem z6V (lo hi:Option Int) (n:Nat):(Jq lo hi none n).1=((HT.sIx n 0 lo:Nat):Int)∧(Jq lo hi none n).2.1=((HT.sIx n n hi:Nat):Int)∧(Jq lo hi none n).2.2=1:=by
 refine ⟨?_,?_,rfl⟩
 ·cases lo with
  | none=>simp [Jq,HT.sIx]
  | some i =>
   simp only [Jq,HT.sIx,Option.getD_none,show (1:Int) > 0 by decide,if_true]
   by_cases h:i < 0
   ·simp only [h,if_true] <;> omega
   ·simp only [h,if_false] <;> omega
 ·cases hi with
  | none=>simp [Jq,HT.sIx]
  | some i =>
   simp only [Jq,HT.sIx,Option.getD_none,show (1:Int) > 0 by decide,if_true]
   by_cases h:i < 0
   ·simp only [h,if_true] <;> omega
   ·simp only [h,if_false] <;> omega
theorem z6f (its:List Value) (lo hi:Option Int):slicePick its.toArray lo hi none=((its.drop (HT.sIx its.length 0 lo)).take (HT.sIx its.length its.length hi - HT.sIx its.length 0 lo)).toArray:=by
 obtain ⟨h1,h2,h3⟩:=z6V lo hi its.toArray.size
 unfold slicePick
 rw [h1,h2,h3]
 simp only [sliceRange_one,pick_run,Wk] <;> rfl
def rSlL (K:W0):V→Option Int→Option Int→Hp→VK→Prop:=fun x lo hi H Q=>∃ a xs,x = .ref a∧SqL K H a xs∧∀ p,H p=none→Q (.ref p) (upd H p (.lst (cutV xs lo hi)))
theorem zdt:SlR X (rSlL X.K):=by
 intro pins s σ H x v vl vu lo hi sl Q I rx hs pl pu h
 obtain ⟨a,xs,rfl,hx,q⟩:=h
 cases rx
 obtain ⟨its,r,ht,hz⟩:=I.list hx
 have hlen:=r.length
 refine ⟨"list",_,slot_list_getitem.lookup,ht.isList.typeIs,?_⟩
 refine wpAny_getItem_list_slice ht.isList hs pl pu .none (by simp) ?_ (by rw [Wk] <;> omega)
 rw [z6f,← hlen]
 refine ⟨.ref s.heap.objs.size,_,I.laid (t':=s.toks) (o:=.lst (cutV xs lo hi)) (fun b ob q=>W5 _ q) (Wc _) ?_,rfl,q _ (I.hok.fresh (Wc _))⟩
 exact ⟨WI (z5t xs lo hi) hz,_,0,(r.drop (HT.sIx xs.length 0 lo)).take (HT.sIx xs.length xs.length hi - HT.sIx xs.length 0 lo),Wq _ rfl⟩
def z6F:V→Bool
 | .non=>true
 | .bl _=>true
 | .int _=>true
 | .str _=>true
 | _=>false
def eqV:V→V→Bool
 | .non,.non=>true
 | .bl a,.bl b=>a == b
 | .bl a,.int b=>(if a then 1 else 0) == b
 | .int a,.bl b=>a == (if b then 1 else 0)
 | .int a,.int b=>a == b
 | .str a,.str b=>a == b
 | _,_=>false
theorem zgf (ry:RelV y u) (rx:RelV x v) (fy:z6F y=true) (fx:z6F x=true):SeqAt.EqAt A s u v (eqV y x):=by
 cases y with
 | non =>
  cases ry
  cases x with
  | non=>cases rx; exact SeqAt.EqAt.same _
  | bl b=>cases rx; exact SeqAt.EqAt.none_bool b
  | int b=>obtain ⟨t,rfl⟩:=rx; exact SeqAt.EqAt.none_int b t
  | str b=>obtain ⟨t,rfl⟩:=rx; exact SeqAt.EqAt.none_str b t
  | _=>exact absurd (show false=true from fx) WP
 | bl a =>
  cases ry
  cases x with
  | non=>cases rx; exact SeqAt.EqAt.bool_none a
  | bl b=>cases rx; exact SeqAt.EqAt.bool_bool a b
  | int b=>obtain ⟨t,rfl⟩:=rx; exact SeqAt.EqAt.bool_int a b t
  | str b=>obtain ⟨t,rfl⟩:=rx; exact SeqAt.EqAt.bool_str a b t
  | _=>exact absurd (show false=true from fx) WP
 | int a =>
  obtain ⟨t',rfl⟩:=ry
  cases x with
  | non=>cases rx; exact SeqAt.EqAt.int_none a t'
  | bl b=>cases rx; exact SeqAt.EqAt.int_bool a t' b
  | int b=>obtain ⟨t,rfl⟩:=rx; exact SeqAt.EqAt.int_int a t' b t
  | str b=>obtain ⟨t,rfl⟩:=rx; exact SeqAt.EqAt.int_str a t' b t
  | _=>exact absurd (show false=true from fx) WP
 | str a =>
  obtain ⟨t',rfl⟩:=ry
  cases x with
  | non=>cases rx; exact SeqAt.EqAt.str_none a t'
  | bl b=>cases rx; exact SeqAt.EqAt.str_bool a t' b
  | int b=>obtain ⟨t,rfl⟩:=rx; exact SeqAt.EqAt.str_int a t' b t
  | str b=>obtain ⟨t,rfl⟩:=rx; exact SeqAt.EqAt.str_str a t' b t
  | _=>exact absurd (show false=true from fx) WP
 | _=>exact absurd (show false=true from fy) WP
def eqU (x:V) (u:Value):Bool:=match u with
 | .none=>eqV .non x
 | .bool b=>eqV (.bl b) x
 | .int i _=>eqV (.int i) x
 | .str z _=>eqV (.str z) x
 | _=>false
theorem zda (r:RelV y u) (f:z6F y=true):eqU x u=eqV y x:=by
 cases y with
 | non=>cases r; rfl
 | bl b=>cases r; rfl
 | int i=>obtain ⟨t,rfl⟩:=r; rfl
 | str z=>obtain ⟨t,rfl⟩:=r; rfl
 | _=>exact absurd (show false=true from f) WP
theorem z5A:∀ {xs:List V} {us:List Value},Vals xs us→xs.all z6F=true→us.any (eqU x)=xs.any fun y=>eqV y x
 | _,_,.nil,_=>rfl
 | y :: xs,u :: us,.cons r t,f=>by
  rw [List.all_cons,Wi] at f
  rw [QM,QM,zda r f.1,z5A t f.2]
theorem z40 (rx:RelV x v) (fx:z6F x=true):∀ {xs:List V} {us:List Value},Vals xs us→xs.all z6F=true→∀ u ∈ us,SeqAt.EqAt A s u v (eqU x u)
 | _,_,.nil,_=>fun u hu=>by cases hu
 | y :: xs,u :: us,.cons r t,f=>fun u' hu=>by
  rw [List.all_cons,Wi] at f
  rcases Wf.mp hu with rfl | hu
  ·rw [zda r f.1]; exact zgf r rx f.1 fx
  ·exact z40 rx fx t f.2 u' hu
def inV (x:V) (xs:List V):Bool:=xs.any fun y=>eqV y x
def rIn (K:W0) (neg:Bool):R2:=fun x y H Q=>∃ p xs,y = .ref p∧(SqL K H p xs∨SqT K H p xs)∧z6F x=true∧xs.all z6F=true∧Q (.bl (if neg then !inV x xs else inV x xs)) H
theorem op_in_seq:OpR X (WA .In) (rIn X.K false):=by
 intro pins s σ H x y v u Q I rx ry h
 obtain ⟨p,xs,rfl,hq,fx,fs,q⟩:=h
 cases ry
 rcases hq with hq | hq
 ·obtain ⟨its,r,pl,hz⟩:=I.list hq
  refine SeqAt.in_listAt (eqU x) pl.isList (fun w hw=>z40 rx fx r fs w (by simpa using hw)) ⟨.bl _,H,I,rfl,?_⟩
  rw [show its.toArray.any (eqU x)=its.any (eqU x) by simp,z5A r fs]
  exact q
 ·obtain ⟨its,r,pl,hz⟩:=I.tuple hq
  refine SeqAt.in_tupleAt (eqU x) pl (fun w hw=>z40 rx fx r fs w (by simpa using hw)) ⟨.bl _,H,I,rfl,?_⟩
  rw [show its.toArray.any (eqU x)=its.any (eqU x) by simp,z5A r fs]
  exact q
theorem op_notIn_seq:OpR X (WA .NotIn) (rIn X.K true):=by
 intro pins s σ H x y v u Q I rx ry h
 obtain ⟨p,xs,rfl,hq,fx,fs,q⟩:=h
 cases ry
 rcases hq with hq | hq
 ·obtain ⟨its,r,pl,hz⟩:=I.list hq
  refine SeqAt.notIn_listAt (eqU x) pl.isList (fun w hw=>z40 rx fx r fs w (by simpa using hw)) ⟨.bl _,H,I,rfl,?_⟩
  rw [show its.toArray.any (eqU x)=its.any (eqU x) by simp,z5A r fs]
  exact q
 ·obtain ⟨its,r,pl,hz⟩:=I.tuple hq
  refine SeqAt.notIn_tupleAt (eqU x) pl (fun w hw=>z40 rx fx r fs w (by simpa using hw)) ⟨.bl _,H,I,rfl,?_⟩
  rw [show its.toArray.any (eqU x)=its.any (eqU x) by simp,z5A r fs]
  exact q
theorem call_len_seq:CallR X (.builtin "len") (fun xs H Q=>∃ p ys,xs=[.ref p]∧(SqL X.K H p ys∨SqT X.K H p ys)∧Q (.int ys.length) H):=by
 intro pins s σ H xs us Q I r h
 obtain ⟨p,ys,rfl,hq,q⟩:=h
 obtain ⟨u,rfl,rx⟩:=z5B r
 cases rx
 have hn:=z61
 rcases hq with hq | hq
 ·obtain ⟨its,r',pl,hz⟩:=I.list hq
  have hlen:=r'.length
  exact Calls.call_len_list pl.isList (by simp only [Wk] <;> omega) ⟨.int ys.length,H,I.tok _,⟨s.toks + 1,by rw [Wk,hlen]⟩,q⟩
 ·obtain ⟨its,r',pl,hz⟩:=I.tuple hq
  have hlen:=r'.length
  exact len_tuple pl (by simp only [Wk] <;> omega) ⟨.int ys.length,H,I.tok _,⟨s.toks + 1,by rw [Wk,hlen]⟩,q⟩
theorem z7H:CallR X (.builtin "len") (fun xs H Q=>∃ z,xs=[.str z]∧z.length≤W3∧Q (.int z.length) H):=by
 intro pins s σ H xs us Q I r h
 obtain ⟨z,rfl,hz,q⟩:=h
 obtain ⟨u,rfl,t,rfl⟩:=z5B r
 have hn:=z61
 exact len_str (by omega) ⟨.int z.length,H,I.tok _,⟨_,rfl⟩,q⟩
theorem CallR.or (h:CallR X f r) (h':CallR X f r'):CallR X f (fun xs H Q=>r xs H Q∨r' xs H Q):=by
 intro pins s σ H xs us Q I rs q
 rcases q with q | q
 ·exact h pins s σ H xs us Q I rs q
 ·exact h' pins s σ H xs us Q I rs q
theorem z6L:CallR X (.type "tuple") (fun xs H Q=>∃ p ys,xs=[.ref p]∧((SqL X.K H p ys∧∀ l,H l=none→Q (.ref l) (upd H l (.tup ys)))∨(SqT X.K H p ys∧Q (.ref p) H))):=by
 intro pins s σ H xs us Q I r h
 obtain ⟨p,ys,rfl,h⟩:=h
 obtain ⟨u,rfl,rx⟩:=z5B r
 cases rx
 rcases h with ⟨hq,q⟩ | ⟨hq,q⟩
 ·obtain ⟨its,r',pl,hz⟩:=I.list hq
  have hlen:=r'.length
  refine call_tuple_list pl.isList (fun h' kp=>?_) (by simp only [Wk] <;> omega)
  have I1:Inv X pins σ H { s with heap:=h' }:=I.kept (t':=s.toks) kp
  have I2:Inv X pins σ (upd H h'.objs.size (.tup ys)) { s with heap:=h'.push { cls:=.type "tuple",data:=.seq its.toArray } } :=
   I1.laid (t':=s.toks) (fun b o e=>W5 _ e) (Wc _) (show ObjOk X.prog X.w _ _ _ (.tup ys) from ⟨hz,its,r',IsTupN.new _ _⟩)
  exact ⟨.ref h'.objs.size,_,I2,rfl,q _ (I1.hok.fresh (Wc _))⟩
 ·obtain ⟨its,r',pl,hz⟩:=I.tuple hq
  exact call_tuple_same pl ⟨.ref p,H,I,rfl,q⟩
def tyV (K:W0) (T:String) (x:V) (H:Hp):Prop:=match x with
 | .str _=>T = "str"
 | .int _=>T = "int"
 | .ref p=>(T = "list"∧∃ xs,SqL K H p xs)∨(T = "tuple"∧∃ o,K.lookup p=some o∧o.cls = .type "tuple"∧o.dict=none) ∨
   (T = "dict"∧((∃ kvs,H p=some (.dK kvs))∨∃ kvs,H p=some (.dT kvs)))∨(T = "set"∧∃ S n,H p=some (.set S n))
 | _=>False
theorem zcR (I:Inv X pins σ H s) (r:RelV x v) (ty:tyV X.K T x H) :
  s.TypeIs v T∧∀ a,v = .ref a→∃ ob,s.heap.get? a=some ob∧ob.dict=none:=by
 cases x with
 | str z =>
  obtain ⟨t,rfl⟩:=r
  cases (show T = "str" from ty)
  exact ⟨typeIs_str s z t,fun _ e=>nomatch e⟩
 | int i =>
  obtain ⟨t,rfl⟩:=r
  cases (show T = "int" from ty)
  exact ⟨JC s i t,fun _ e=>nomatch e⟩
 | ref p =>
  cases r
  rcases ty with ⟨rfl,xs,hq⟩ | ⟨rfl,o,hk,hc,hd⟩ | ⟨rfl,hk⟩ | ⟨rfl,S,n,hk⟩
  ·obtain ⟨its,_,pl,_⟩:=I.list hq
   refine ⟨pl.isList.typeIs,fun a e=>?_⟩
   cases e
   obtain ⟨o,n,e,c,hd,_⟩:=pl
   exact ⟨o,e,hd⟩
  ·refine ⟨⟨o,I.kIn p o hk,hc⟩,fun a e=>?_⟩
   cases e
   exact ⟨o,I.kIn _ o hk,hd⟩
  ·have z:∃ o,s.heap.get? p=some o∧o.ExactDict:=by
    rcases hk with ⟨kvs,hk⟩ | ⟨kvs,hk⟩
    ·obtain ⟨_,_,_,_,o,_,_,e,ex,_⟩:=I.hok p _ hk
     exact ⟨o,e,ex⟩
    ·obtain ⟨_,_,_,_,o,_,_,e,ex,_⟩:=I.hok p _ hk
     exact ⟨o,e,ex⟩
   obtain ⟨o,e,ex⟩:=z
   refine ⟨⟨o,e,ex.1⟩,fun a e2=>?_⟩
   cases e2
   exact ⟨o,e,ex.2.1⟩
  ·obtain ⟨o,_,_,_,e,ex,_⟩:=I.hok p _ hk
   refine ⟨⟨o,e,ex.1⟩,fun a e2=>?_⟩
   cases e2
   exact ⟨o,e,ex.2.1⟩
 | _=>exact False.elim ty
def tBM0 (K:W0) (T:String) (r:V→List V→Hp→VK→Prop) (to:TE):TE:=fun σ H Q=>to σ H fun x H1=>tyV K T x H1∧r x [] H1 Q
def tBM (K:W0) (T:String) (r:V→List V→Hp→VK→Prop) (to:TE) (t:TA):TE:=fun σ H Q=>to σ H fun x H1=>tyV K T x H1∧t σ H1 fun xs H2=>r x xs H2 Q
variable {o e:Expr} {es:List Expr} {to:TE} {t:TA} {name:Str} {apos cpos:Pos} {T id:String} {r:V→List V→Hp→VK→Prop}
theorem zfx (pa:PlainAttrs T) (slot:Slot T name id) (hty:typeOf (.builtin id)=pure (.type "method_descriptor")) (hm:MtR X id r) (ho:PE X o to)
  (hbase:Qt o name X.env (eval o X.env)=eval o X.env:=by rfl) (hline:(apos.endLine == cpos.line)=true:=by rfl):PE X (.Call (.Attribute o name apos) [] [] cpos) (tBM0 X.K T r to):=by
 intro pins s σ H Q I h
 refine wpAny_Call_method0_late hbase hline (thn (ho pins s σ H _ I h) fun v s1 ⟨x,H1,I1,r1,ty,q1⟩=>?_)
 obtain ⟨h1,h2⟩:=zcR I1 r1 ty
 exact ⟨T,id,pa,slot,hty,h1,h2,Calls.callWith_builtin rfl (PySem.evalArgs_none (hm pins s1 σ H1 x [] v [] Q I1 r1 .nil q1))⟩
theorem zc9 (pa:PlainAttrs T) (slot:Slot T name id) (hty:typeOf (.builtin id)=pure (.type "method_descriptor")) (hm:MtR X id r) (ho:PE X o to) (ha:PA X (e :: es) t)
  (hbase:Qt o name X.env (eval o X.env)=eval o X.env:=by rfl)
  (hfew:((WT cpos (W7 (e :: es) X.env)).all (fun x=>!x.1) && (Jx cpos (QX [] X.env)).all (fun x=>x.1.isSome)
   && decide ((e :: es).length + ([]:List Keyword).length + (if ([]:List Keyword).isEmpty then 0 else 1) < 30))=true:=by rfl)
  (hline:(apos.endLine == cpos.line)=true:=by rfl) (hs:W7 (e :: es) X.env=(false,eval e X.env) :: W7 es X.env:=by rfl) (hplain:(WT cpos (W7 es X.env)).any (·.1)=false:=by rfl) :
  PE X (.Call (.Attribute o name apos) (e :: es) [] cpos) (tBM X.K T r to t):=by
 intro pins s σ H Q I h
 refine wpAny_Call_method_late hbase hfew hline rfl (thn (ho pins s σ H _ I h) fun v s1 ⟨x,H1,I1,r1,ty,q1⟩=>?_)
 obtain ⟨h1,h2⟩:=zcR I1 r1 ty
 refine ⟨T,id,pa,slot,hty,h1,h2,?_⟩
 have hA:=ha cpos pins s1 σ H1 _ I1 q1
 rw [hs] at hA ⊢
 refine Calls.callWith_builtin (by show (false || (WT cpos (W7 es X.env)).any (·.1))=false; rw [hplain] <;> rfl) (Calls.evalArgs_plain ?_)
 exact thn hA fun us s2 ⟨vs,H2,I2,r2,q2⟩=>hm pins s2 σ H2 x vs v us Q I2 r1 r2 q2
end
def MtM (X:Cx) (id:String) (r:V→List V→Hp→VK→Prop):Prop :=
 ∀ (pins:List (Addr×Obj)) (s:W2) (σ:St) (H:Hp) (x:V) (xs:List V) (v:Value) (us:List Value) (Q:VK),Inv X pins σ H s→RelV x v→Vals xs us→r x xs H Q →
  W9 (model X.prog X.w) X.A (call (.builtin id) (v :: us)) (EP X pins σ Q) X.xe s
theorem Vals.one:∀ {x:V} {us:List Value},Vals [x] us→∃ u,us=[u]∧RelV x u
 | _,_,.cons r .nil=>⟨_,rfl,r⟩
theorem Vals.two:∀ {x y:V} {us:List Value},Vals [x,y] us→∃ u v,us=[u,v]∧RelV x u∧RelV y v
 | _,_,_,.cons r (.cons q .nil)=>⟨_,_,rfl,r,q⟩
theorem Vals.zero:∀ {us:List Value},Vals [] us→us=[]
 | _,.nil=>rfl
theorem Vals.dropLast (h:Vals xs us):Vals xs.dropLast us.dropLast:=by
 induction h with
 | nil=>exact .nil
 | cons r t ih =>
  cases t with
  | nil=>exact .nil
  | cons q t'=>exact .cons r ih
theorem Vals.reverse (h:Vals xs us):Vals xs.reverse us.reverse:=by
 induction h with
 | nil=>exact .nil
 | cons r t ih=>rw [List.reverse_cons,List.reverse_cons]; exact Vals.append ih (.cons r .nil)
theorem Vals.rep (h:Vals xs us):∀ k:Nat,Vals (Wd k xs).flatten (Wd k us).flatten
 | 0=>.nil
 | k + 1=>by
  rw [Q2,Q2,QP,QP]
  exact Vals.append h (Vals.rep h k)
theorem z7t (its:List Value):∀ (k:Nat) (acc:List Value),
  List.foldl (fun x1 x2=>x1 ++ x2) acc.toArray (Wd k its.toArray)=(acc ++ (Wd k its).flatten).toArray
 | 0,acc=>by simp
 | k + 1,acc=>by
  have e:acc.toArray ++ its.toArray=(acc ++ its).toArray:=by simp
  have e2:(acc ++ its) ++ (Wd k its).flatten=acc ++ (Wd (k + 1) its).flatten:=by
   rw [Q2,QP,List.append_assoc]
  rw [← e2,← z7t its k (acc ++ its),← e,Q2,Q6]
section
variable {X:Cx} {pins:List (Addr×Obj)} {σ:St} {H:Hp} {s:W2} {l b:Addr} {xs ys zs:List V}
theorem Inv.lset {its its':List Value} {n:Nat} {f:Array Value→Array Value} {t':Nat} (I:Inv X pins σ H s) (hH:H l=some (.lst xs))
  (e:s.heap.get? l=some { cls:=.type "list",data:=.seq its.toArray n }) (hf:f its.toArray=its'.toArray) (hv:Vals ys its') (hz:ys.length≤W3) :
  Inv X pins σ (upd H l (.lst ys)) { s with heap:=s.heap.update l (Obj.mapSeq f),toks:=t' }:=by
 have q:=PySem.IsL.update e f
 rw [hf] at q
 refine I.write (x:=l) (e:=l) (by rw [hH]; exact trivial) (.inl rfl) (fun b' u hb hu=>(WQ s.heap (Obj.mapSeq f) (Ne.symm hb)).trans hu) ⟨_,q⟩ ?_
 exact ⟨hz,its',_,hv,q⟩
theorem Inv.lnew (I:Inv X pins σ H s) (hv:Vals ys its) (hz:ys.length≤W3) :
  Inv X pins σ (upd H s.heap.objs.size (.lst ys)) { s with heap:=s.heap.push { cls:=.type "list",data:=.seq its.toArray },toks:=t' } :=
 I.laid (fun _ _ q=>W5 _ q) (Wc _) ⟨hz,its,0,hv,Wq _ rfl⟩
theorem Inv.fresh (I:Inv X pins σ H s):H s.heap.objs.size=none:=I.hok.fresh (Wc _)
theorem Inv.lstM (I:Inv X pins σ H s) (hH:H l=some (.lst xs)):xs.length≤W3∧∃ (its:List Value) (n:Nat),Vals xs its∧xs.length=its.length∧s.heap.get? l=some { cls:=.type "list",data:=.seq its.toArray n }:=by
 obtain ⟨z,its,n,r,e⟩:=I.hok l _ hH
 exact ⟨z,its,n,r,r.length,e⟩
end
section
variable {X:Cx}
def zad:V→List V→Hp→VK→Prop:=fun x vs H Q=>∃ l xs y,x = .ref l∧vs=[y]∧H l=some (.lst xs)∧xs.length < W3∧Q .non (upd H l (.lst (xs ++ [y])))
theorem z7h:MtM X "list.append" zad:=by
 intro pins s σ H x vs v us Q I rx rv h
 obtain ⟨l,xs,y,rfl,rfl,hH,hz,q⟩:=h
 cases rx
 obtain ⟨u,rfl,ru⟩:=rv.one
 obtain ⟨z,its,n,r,hl,e⟩:=I.lstM hH
 refine JD F.slot_list_append ⟨_,e,rfl⟩ F.entry_list_append (F.args_list_append_2 _ _) (PySem.list_append l its.toArray n u (by rw [Wk]; omega)) ⟨e,?_⟩
 refine ⟨.non,_,I.lset (its':=its ++ [u]) hH e (by simp) (r.append (.cons ru .nil)) ?_,rfl,q⟩
 rw [WY,List.length_singleton]
 omega
theorem z8f (xs:List α) (k:Nat):(Wd k xs).flatten.length=k * xs.length:=by
 induction k with
 | zero=>simp
 | succ k ih=>rw [Q2,QP,WY,ih,JQ,JR]
end
section
variable {prog:Wj} {w:Wp} {A:Wo} {E:Value→W2→Prop} {s:W2}
set_option maxRecDepth 100000 in
end
section
variable {X:Cx}
end
section
variable {κ:Type} [DecidableEq κ]
def valV (kvs:List (κ×V)) (k:κ):Option V:=(kvs.find? fun kv=>decide (kv.1=k)).map (·.2)
def putK (kvs:List (κ×V)) (k:κ) (v:V):List (κ×V) :=
 if (kvs.any fun kv=>decide (kv.1=k))=true then kvs.map (fun kv=>if kv.1=k then (kv.1,v) else kv) else kvs ++ [(k,v)]
def zgg (kvs:List (κ×V)) (k:κ):List (κ×V):=kvs.filter fun kv=>decide (kv.1≠k)
theorem z4K {p:κ×V} {r:List (κ×V)} {k:κ} (e:p.1=k):valV (p :: r) k=some p.2:=by simp [valV,WZ,e]
theorem z4L {p:κ×V} {r:List (κ×V)} {k:κ} (e:¬ p.1=k):valV (p :: r) k=valV r k:=by simp [valV,WZ,e]
theorem z8x (k:κ):∀ kvs:List (κ×V),(kvs.any fun kv=>decide (kv.1=k))=(valV kvs k).isSome
 | []=>rfl
 | p :: r=>by
  rw [QM]
  by_cases e:p.1=k
  ·simp only [z4K e,decide_eq_true e,Bool.true_or,Option.isSome_some]
  ·rw [z4L e,decide_eq_false e,Bool.false_or]; exact z8x k r
theorem z2i (kvs:List (κ×V)) (k:κ) (v:V):(putK kvs k v).length≤kvs.length + 1:=by
 unfold putK
 split
 ·rw [Qn]; omega
 ·rw [WY,WM,JS]; omega
theorem RelO.isSome_eq (r:RelO o u):o.isSome=u.isSome:=by
 cases o with
 | none=>cases u with
  | none=>rfl
  | some _=>exact (show False from r).elim
 | some _=>cases u with
  | none=>exact (show False from r).elim
  | some _=>rfl
theorem RelO.getD (r:RelO o u) (rd:RelV d d'):RelV (o.getD d) (u.getD d'):=by
 cases o with
 | none=>cases u with
  | none=>exact rd
  | some _=>exact (show False from r).elim
 | some _=>cases u with
  | none=>exact (show False from r).elim
  | some _=>exact r
theorem KV.val {kvs:List (κ×V)} {vs:List (κ×Value)} (r:KV kvs vs) (k:κ):RelO (valV kvs k) (valueAt vs k):=by
 unfold KV at r
 induction r with
 | nil=>exact True.intro
 | @cons p q ps qs h t ih =>
  obtain ⟨h1,h2⟩:=h
  by_cases e:p.1=k
  ·have e':q.1=k:=h1.symm.trans e
   have b:valueAt (q :: qs) k=some q.2:=by simp [valueAt,WZ,e']
   rw [z4K e,b]; exact h2
  ·have e':¬ q.1=k:=fun z=>e (h1.trans z)
   have b:valueAt (q :: qs) k=valueAt qs k:=by simp [valueAt,WZ,e']
   rw [z4L e,b]; exact ih
theorem KV.any (r:KV kvs vs) (k:κ):(kvs.any fun kv=>decide (kv.1=k))=vs.any fun kv=>decide (kv.1=k):=by
 unfold KV at r
 induction r with
 | nil=>rfl
 | cons h t ih=>rw [QM,QM,ih,h.1]
theorem KV.repl (r:KV kvs vs) (k:κ) (ry:RelV y u) :
  KV (kvs.map fun kv=>if kv.1=k then (kv.1,y) else kv) (vs.map fun kv=>if kv.1=k then (kv.1,u) else kv):=by
 unfold KV at r ⊢
 induction r with
 | nil=>exact .nil
 | @cons p q ps qs h t ih =>
  rw [Wr,Wr]
  refine .cons ?_ ih
  obtain ⟨h1,h2⟩:=h
  by_cases e:p.1=k
  ·rw [if_pos e,if_pos (h1.symm.trans e)]; exact ⟨h1,ry⟩
  ·rw [if_neg e,if_neg (fun z=>e (h1.trans z))]; exact ⟨h1,h2⟩
theorem KV.put (r:KV kvs vs) (k:κ) (ry:RelV y u):KV (putK kvs k y) (stored vs k u):=by
 unfold putK stored
 rw [r.any k]
 by_cases e:(vs.any fun kv=>decide (kv.1=k))=true
 ·rw [if_pos e,if_pos e]; exact r.repl k ry
 ·rw [if_neg e,if_neg e]; exact Paired.snoc r ⟨rfl,ry⟩
theorem KV.drop (r:KV kvs vs) (k:κ):KV (zgg kvs k) (without vs k):=by
 unfold KV at r ⊢
 unfold zgg without
 induction r with
 | nil=>exact .nil
 | @cons p q ps qs h t ih =>
  obtain ⟨h1,h2⟩:=h
  rw [JN,JN]
  by_cases e:p.1=k
  ·have a:¬ decide (p.1≠k)=true:=by simp [e]
   have b:¬ decide (q.1≠k)=true:=by simp [h1.symm.trans e]
   rw [if_neg a,if_neg b]; exact ih
  ·have e':¬ q.1=k:=fun z=>e (h1.trans z)
   have a:decide (p.1≠k)=true:=by simp [e]
   have b:decide (q.1≠k)=true:=by simp [e']
   rw [if_pos a,if_pos b]; exact .cons ⟨h1,h2⟩ ih
theorem KV.keys {kvs:List (κ×V)} {vs:List (κ×Value)} (r:KV kvs vs):kvs.map (·.1)=vs.map (·.1):=by
 unfold KV at r
 induction r with
 | nil=>rfl
 | cons h t ih=>rw [Wr,Wr,ih,h.1]
theorem KV.length (r:KV kvs vs):kvs.length=vs.length:=Paired.length r
end
theorem z7m (r:RelV (kV k) u):(z17 P w).is k u=true:=by
 cases k with
 | inl i=>obtain ⟨t,e⟩:=(show ∃ t,u=Value.int i t from r); subst e; exact z8c P w i t
 | inr x=>obtain ⟨t,e⟩:=(show ∃ t,u=Value.str x t from r); subst e; exact z8b P w x t
theorem z7n:∀ {ks:List Key} {us:List Value},Vals (ks.map kV) us→ItemsAre (z17 P w) ks us
 | [],_,r=>by rw [JT] at r; cases r; exact .nil
 | k :: ks,_,r=>by
  rw [Wr] at r
  cases r with
  | cons h t=>exact .cons (z7m h) (z7n t)
abbrev KT (H:Hp):List (List Key×V)→List (List Key×Addr×Value)→Prop:=Paired fun p q=>p.1=q.1∧H q.2.1=some (.tup (p.1.map kV))∧RelV p.2 q.2.2
theorem KT.val {H:Hp} {kvs:List (List Key×V)} {xs:List (List Key×Addr×Value)} (r:KT H kvs xs) (k:List Key):RelO (valV kvs k) ((atKey xs k).map (·.2)):=by
 induction r with
 | nil=>exact True.intro
 | @cons p q ps qs h t ih =>
  obtain ⟨h1,_,h2⟩:=h
  by_cases e:p.1=k
  ·have e':q.1=k:=h1.symm.trans e
   have b:atKey (q :: qs) k=some q.2:=by simp [atKey,WZ,e']
   rw [z4K e,b]; exact h2
  ·have e':¬ q.1=k:=fun z=>e (h1.trans z)
   have b:atKey (q :: qs) k=atKey qs k:=by simp [atKey,WZ,e']
   rw [z4L e,b]; exact ih
theorem KT.repl (r:KT H kvs xs) (k:List Key) (ry:RelV y u) :
  KT H (kvs.map fun kv=>if kv.1=k then (kv.1,y) else kv) (xs.map (putAt k u)):=by
 induction r with
 | nil=>exact .nil
 | @cons p q ps qs h t ih =>
  rw [Wr,Wr]
  refine .cons ?_ ih
  obtain ⟨h1,h2,h3⟩:=h
  unfold putAt
  by_cases e:p.1=k
  ·rw [if_pos e,if_pos (h1.symm.trans e)]; exact ⟨h1,h2,ry⟩
  ·rw [if_neg e,if_neg (fun z=>e (h1.trans z))]; exact ⟨h1,h2,h3⟩
theorem KT.put (r:KT H kvs xs) (k:List Key) (hb:H b=some (.tup (k.map kV))) (ry:RelV y u) :
  KT H (putK kvs k y) (storedH xs k b u):=by
 have e:(kvs.any fun kv=>decide (kv.1=k))=(atKey xs k).isSome:=by
  rw [z8x,(r.val k).isSome_eq,Option.isSome_map]
 unfold putK storedH
 rw [e]
 by_cases q:(atKey xs k).isSome=true
 ·rw [if_pos q,if_pos q]; exact r.repl k ry
 ·rw [if_neg q,if_neg q]; exact Paired.snoc r ⟨rfl,hb,ry⟩
theorem KT.keeps (r:KT H kvs xs) (ht:∀ b ys,H b=some (.tup ys)→H' b=some (.tup ys)):KT H' kvs xs :=
 Paired.mapP r fun _ _ z=>⟨z.1,ht _ _ z.2.1,z.2.2⟩
section
variable {P:Wj} {w:Wp} {H:Hp} {h:Heap} {a:Addr}
theorem zeY (ok:HOk P w H h) (e:Rd H a u):ObjOk P w H h a u:=e.ok ok
theorem z8p (ok:HOk P w H h) (e:Rd H a (.dK kvs)):kvs.length≤W3∧(a == QT)=false∧∃ vs,KV kvs vs∧h.DictOf (z17 P w) a vs :=
 show ObjOk P w H h a (.dK kvs) from zeY ok e
theorem zcG (ok:HOk P w H h) (e:H a=some (.dK kvs)):kvs.length≤W3∧(a == QT)=false∧∃ vs,KV kvs vs∧h.DictOf (z17 P w) a vs:=z8p ok (.inl e)
theorem z65 (ok:HOk P w H h) (e:H a=some (.tup (ks.map kV))):(tupleKind (z17 P w)).is h ks a:=by
 obtain ⟨_,its,r,p⟩:=(show ObjOk P w H h a (.tup (ks.map kV)) from ok a _ e)
 obtain ⟨o,h1,h2,n,h3⟩:=p.tup
 exact ⟨o,its.toArray,n,h1,h2,h3,by simpa using z7n r⟩
theorem z9B (ok:HOk P w H h) (e:Rd H a (.dT kvs)):kvs.length≤W3∧(a == QT)=false ∧
  ∃ xs,KT H kvs xs∧h.DictOfH (tupleKind (z17 P w)) a xs:=by
 obtain ⟨z,y,xs,r,o,es,ep,h1,h2,h3,h4,h5⟩:=(show ObjOk P w H h a (.dT kvs) from zeY ok e)
 refine ⟨z,y,xs,r,o,es,ep,h1,h2,h3,h4,fun x hx=>?_,h5⟩
 have all:∀ {l:List (List Key×V)} {m:List (List Key×Addr×Value)},KT H l m→∀ x ∈ m,(tupleKind (z17 P w)).is h x.1 x.2.1:=by
  intro l m q
  induction q with
  | nil=>intro x hx; exact nomatch hx
  | @cons p q ps qs hq t ih =>
   intro x hx
   rcases Wf.mp hx with e | hx
   ·subst e
    exact z65 ok (by rw [← hq.1]; exact hq.2.1)
   ·exact ih x hx
 exact all r x hx
theorem dt_of (ok:HOk P w H h) (e:H a=some (.dT kvs)):kvs.length≤W3∧(a == QT)=false ∧
  ∃ xs,KT H kvs xs∧h.DictOfH (tupleKind (z17 P w)) a xs:=z9B ok (.inl e)
end
def DGet (H:Hp) (a:Addr) (y:V) (r:Option V):Prop :=
 (∃ kvs k,Rd H a (.dK kvs)∧y=kV k∧r=valV kvs k)∨∃ kvs k b,Rd H a (.dT kvs)∧y = .ref b∧H b=some (.tup (k.map kV))∧r=valV kvs k
def DPut (H:Hp) (a:Addr) (y v:V) (H':Hp):Prop :=
 (∃ kvs k,H a=some (.dK kvs)∧y=kV k∧kvs.length < W3∧H'=upd H a (.dK (putK kvs k v))) ∨
 ∃ kvs k b,H a=some (.dT kvs)∧y = .ref b∧H b=some (.tup (k.map kV))∧kvs.length < W3∧H'=upd H a (.dT (putK kvs k v))
theorem DGet.k {H:Hp} {a:Addr} {kvs:List (Key×V)} {k:Key} (e:H a=some (.dK kvs)):DGet H a (kV k) (valV kvs k):=.inl ⟨kvs,k,.inl e,rfl,rfl⟩
theorem DGet.t {H:Hp} {a b:Addr} {kvs:List (List Key×V)} {k:List Key} (e:H a=some (.dT kvs)) (eb:H b=some (.tup (k.map kV))):DGet H a (.ref b) (valV kvs k):=.inr ⟨kvs,k,b,.inl e,rfl,eb,rfl⟩
theorem DPut.k {H:Hp} {a:Addr} {kvs:List (Key×V)} {k:Key} {v:V} (e:H a=some (.dK kvs)) (hl:kvs.length < W3):DPut H a (kV k) v (upd H a (.dK (putK kvs k v))):=.inl ⟨kvs,k,e,rfl,hl,rfl⟩
theorem DPut.t {H:Hp} {a b:Addr} {kvs:List (List Key×V)} {k:List Key} {v:V} (e:H a=some (.dT kvs)) (eb:H b=some (.tup (k.map kV))) (hl:kvs.length < W3) :
  DPut H a (.ref b) v (upd H a (.dT (putK kvs k v))):=.inr ⟨kvs,k,b,e,rfl,eb,hl,rfl⟩
section
variable {X:Cx} {pins:List (Addr×Obj)} {σ:St} {H:Hp} {s:W2} {a:Addr} {y v:V} {u r:Value} {o:Option V} {A:Wo} {E:Value→W2→Prop}
theorem Inv.big (I:Inv X pins σ H s):QT < s.heap.objs.size:=by
 have h:Wn < s.heap.objs.size:=(I.mod.glob.keeps I.bk).lt
 exact Nat.lt_trans (by decide) h
theorem zbj (hu:A.units + 1 < WX) (I:Inv X pins σ H s) (g:DGet H a y (some v)) (ry:RelV y u) (h:∀ w' s',Inv X pins σ H s'→RelV v w'→Q w' s') :
  W9 (model X.prog X.w) A (Jp (.ref a) u) Q E s:=by
 rcases g with ⟨kvs,k,e,ey,l⟩ | ⟨kvs,k,b,e,ey,eb,l⟩
 ·subst ey
  obtain ⟨z,hd,vs,rel,dd⟩:=z8p I.hok e
  obtain ⟨w',hw,rw'⟩:=RelO.some_of (v:=v) (o:=valueAt vs k) (by rw [l]; exact rel.val k)
  exact wpAny_getItem_of (z7m ry) dd.mapOf hw (h w' _ (I.tok _) rw')
 ·subst ey
  cases (show u=Value.ref b from ry)
  obtain ⟨z,hd,xs,rel,dd⟩:=z9B I.hok e
  obtain ⟨w',hw,rw'⟩:=RelO.some_of (v:=v) (o:=(atKey xs k).map (·.2)) (by rw [l]; exact rel.val k)
  obtain ⟨p,hp,hp2⟩:=Wx.mp hw
  refine wpAny_getItem_heap (Jb hu) (z65 I.hok eb) dd hp ?_
  rw [hp2]
  exact h w' _ (I.tok _) rw'
theorem d_in (hu:A.units + 1 < WX) (I:Inv X pins σ H s) (g:DGet H a y o) (ry:RelV y u) (h:∀ s',Inv X pins σ H s'→Q (.bool o.isSome) s') :
  W9 (model X.prog X.w) A (WA .In u (.ref a)) Q E s:=by
 rcases g with ⟨kvs,k,e,ey,l⟩ | ⟨kvs,k,b,e,ey,eb,l⟩
 ·subst ey
  obtain ⟨z,hd,vs,rel,dd⟩:=z8p I.hok e
  refine wpAny_in_of (z7m ry) hd dd.mapOf ?_
  rw [← (rel.val k).isSome_eq,← l]
  exact h _ (I.tok _)
 ·subst ey
  cases (show u=Value.ref b from ry)
  obtain ⟨z,hd,xs,rel,dd⟩:=z9B I.hok e
  refine wpAny_in_heap (Jb hu) (z65 I.hok eb) hd dd ?_
  have q:=(rel.val k).isSome_eq
  rw [Option.isSome_map] at q
  rw [← q,← l]
  exact h _ (I.tok _)
theorem zeA (hu:A.units + 1 < WX) (I:Inv X pins σ H s) (g:DGet H a y o) (ry:RelV y u) (h:∀ s',Inv X pins σ H s'→Q (.bool (!o.isSome)) s') :
  W9 (model X.prog X.w) A (WA .NotIn u (.ref a)) Q E s:=by
 rcases g with ⟨kvs,k,e,ey,l⟩ | ⟨kvs,k,b,e,ey,eb,l⟩
 ·subst ey
  obtain ⟨z,hd,vs,rel,dd⟩:=z8p I.hok e
  refine wpAny_notIn_of (z7m ry) hd dd.mapOf ?_
  rw [← (rel.val k).isSome_eq,← l]
  exact h _ (I.tok _)
 ·subst ey
  cases (show u=Value.ref b from ry)
  obtain ⟨z,hd,xs,rel,dd⟩:=z9B I.hok e
  refine wpAny_notIn_heap (Jb hu) (z65 I.hok eb) hd dd ?_
  have q:=(rel.val k).isSome_eq
  rw [Option.isSome_map] at q
  rw [← q,← l]
  exact h _ (I.tok _)
theorem z6J (I:Inv X pins σ H s) (mu:Mut (H a)) (hs:Heap.SameBut a s.heap h') (he:∃ q,h'.get? a=some q) (new:ObjOk X.prog X.w (upd H a ob) h' a ob) :
  Inv X pins σ (upd H a ob) { s with heap:=h',toks:=t' } :=
 I.write (x:=a) (e:=a) mu (.inl rfl) (fun b q hb z=>(hs.2 b hb).trans z) he new
theorem zbe (z:kvs.length≤W3) (hd:(a == QT)=false) (rel:KV kvs vs) (dd:h'.DictOf (z17 P w) a vs) :
  ObjOk P w H' h' a (.dK kvs):=⟨z,hd,vs,rel,dd⟩
theorem zbi (hu:A.units + 1 < WX) (I:Inv X pins σ H s) (g:DPut H a y v H') (ry:RelV y u) (rv:RelV v r) (h:∀ s',Inv X pins σ H' s'→Q () s') :
  W9 (model X.prog X.w) A (setItem (.ref a) u r) Q E s:=by
 rcases g with ⟨kvs,k,e,ey,l,eH⟩ | ⟨kvs,k,b,e,ey,eb,l,eH⟩
 ·subst ey eH
  obtain ⟨z,hd,vs,rel,dd⟩:=zcG I.hok e
  have hz:vs.length≤W3:=by rw [← rel.length]; exact z
  have hl:(putK kvs k v).length≤W3:=by have:=z2i kvs k v; omega
  refine wpAny_setItem_pairs (hsz:=hz) (z7m ry) dd fun h' dd' hs=>h _ ?_
  have he:∃ q,h'.get? a=some q:=let ⟨q,_,_,hq,_⟩:=dd'; ⟨q,hq⟩
  exact z6J I (by rw [e]; exact True.intro) hs he (zbe hl hd (rel.put k rv) dd')
 ·subst ey eH
  cases (show u=Value.ref b from ry)
  obtain ⟨z,hd,xs,rel,dd⟩:=dt_of I.hok e
  have hz:xs.length≤W3:=by rw [← Paired.length rel]; exact z
  have hl:(putK kvs k v).length≤W3:=by have:=z2i kvs k v; omega
  refine wpAny_setItem_heap (hsz:=hz) (Jb hu) (z65 I.hok eb) dd fun h' dd' hs=>h _ ?_
  obtain ⟨q,es,ep,hq,h2,h3,h4,_,h5⟩:=dd'
  refine z6J I (by rw [e]; exact True.intro) hs ⟨q,hq⟩ ⟨hl,hd,_,(rel.put k eb rv).keeps fun c ys ec=>?_,q,es,ep,hq,h2,h3,h4,h5⟩
  rw [z0d (ne_of ec e (fun z=>nomatch z))]
  exact ec
end
section
variable {X:Cx} {pins:List (Addr×Obj)} {σ:St} {H:Hp} {s:W2} {a:Addr} {kvs:List (Key×V)} {k:Key} {u:Value} {A:Wo} {E:Value→W2→Prop}
theorem d_len (I:Inv X pins σ H s) (e:Rd H a (.dK kvs)) (h:∀ t s',Inv X pins σ H s'→Q (.int kvs.length t) s'):W9 (model X.prog X.w) A (call (.builtin "len") [.ref a]) Q E s:=by
 obtain ⟨z,hd,vs,rel,dd⟩:=z8p I.hok e
 refine call_len_dict hd dd (by rw [← rel.length]; rw [JK] at z; omega) ?_
 rw [← rel.length]
 exact h _ _ (I.tok _)
end
def sDPut (td ty tv:TE):TS:=fun D σ H=>tv σ H fun v H1=>td σ H1 fun x H2=>ty σ H2 fun y H3=>∃ a H4,x = .ref a∧DPut H3 a y v H4∧D.nx σ H4
section
variable {X:Cx} {o i e value:Expr} {pos pos' tpos:Pos} {td ty tv:TE}
theorem zdU (hu:X.A.units + 1 < WX) (ho:PE X o td) (hi:PE X i ty) (hv:PE X value tv) (hs:QW value (some (.Subscript o i pos')) pos.line X.env=pure false) :
  PS X (.Assign [.Subscript o i pos'] value pos) (sDPut td ty tv):=by
 intro pins s σ H D I h
 refine wpAny_Assign_Subscript (thn (hv pins s σ H _ I h) fun r s1 ⟨v,H1,I1,rv,q1⟩=>thn (ho pins s1 σ H1 _ I1 q1) fun u s2 ⟨x,H2,I2,rx,q2⟩=>thn (hi pins s2 σ H2 _ I2 q2) fun iv s3 ⟨y,H3,I3,ry,a,H4,ex,g,q3⟩=>?_) hs
 subst ex
 obtain rfl:u=Value.ref a:=rx
 exact zbi hu I3 g ry rv fun s4 I4=>⟨σ,H4,I4,q3⟩
end
theorem z6I (h:Heap) (hb:QT < h.objs.size):ObjOk P w H (h.push { cls:=.type "dict",data:=.dict #[] }) h.objs.size (.dK []) :=
 ⟨Qb _,beq_eq_false_iff_ne.mpr (Ne.symm (Ws hb)),[],.nil,Heap.DictOf.new h⟩
def zeN:TE:=fun _ H Q=>∀ p,H p=none→Q (.ref p) (upd H p (.dK []))
section
variable {X:Cx} {pos:Pos}
theorem zc6:PE X (.Dict [] [] pos) zeN:=fun pins s σ H Q I h =>
 wpAny_Dict_empty ⟨.ref s.heap.objs.size,_,I.laid (a:=s.heap.objs.size) (o:=.dK []) (t':=s.toks) (fun _ _ q=>W5 _ q) (Wc _) (z6I s.heap I.big),rfl,h _ (I.hok.fresh (Wc _))⟩
end
def z9O:List (TE×TE)→St→Hp→(List (V×V)→Hp→Prop)→Prop
 | [],_,H,Q=>Q [] H
 | (tk,tv) :: r,σ,H,Q=>tk σ H fun x H1=>tv σ H1 fun y H2=>z9O r σ H2 fun ps H3=>Q ((x,y) :: ps) H3
abbrev VV:List (V×V)→List (Value×Value)→Prop:=Paired fun p q=>RelV p.1 q.1∧RelV p.2 q.2
def PPs (X:Cx) (pos:Pos) (keys:List (Option Expr)) (values:List Expr) (trs:List (TE×TE)):Prop :=
 ∀ (pins:List (Addr×Obj)) (s:W2) (σ:St) (H:Hp) (Q:List (V×V)→Hp→Prop),Inv X pins σ H s→z9O trs σ H Q →
  W9 (model X.prog X.w) X.A (evalPairs (pairTrees keys values X.env pos)) (fun vs s'=>∃ ps H',Inv X pins σ H' s'∧VV ps vs∧Q ps H') X.xe s
theorem zdW:PPs X pos [] [] []:=fun pins s σ H Q I h=>pairTrees_nil_walk ⟨[],H,I,.nil,h⟩
theorem zc0 (hk:PE X k tk) (hv:PE X v tv) (hr:PPs X pos ks vs trs) :
  PPs X pos (some k :: ks) (v :: vs) ((tk,tv) :: trs):=fun pins s σ H Q I h =>
 pairTrees_cons_walk (thn (hk pins s σ H _ I h) fun u s1 ⟨x,H1,I1,rx,q1⟩=>thn (hv pins s1 σ H1 _ I1 q1) fun w2 s2 ⟨y,H2,I2,ry,q2⟩ =>
  thn (hr pins s2 σ H2 _ I2 q2) fun ws s3 ⟨ps,H3,I3,rel,q3⟩=>⟨(x,y) :: ps,H3,I3,.cons ⟨rx,ry⟩ rel,q3⟩)
def z5m (kvs more:List (Key×V)):List (Key×V):=more.foldl (fun acc kv=>putK acc kv.1 kv.2) kvs
theorem KV.merge:∀ {more:List (Key×V)} {rs:List (Key×Value)} {kvs:List (Key×V)} {vs:List (Key×Value)},KV more rs→KV kvs vs→KV (z5m kvs more) (merged vs rs):=by
 intro more rs kvs vs r
 unfold KV at r
 induction r generalizing kvs vs with
 | nil=>intro q; exact q
 | @cons p q ps qs h t ih =>
  intro r0
  have e:KV (putK kvs p.1 p.2) (stored vs q.1 q.2):=by
   have:=r0.put p.1 h.2
   rw [← h.1]; exact this
  exact ih e
theorem z42:∀ (more kvs:List (Key×V)),(z5m kvs more).length≤kvs.length + more.length
 | [],kvs=>by show kvs.length≤kvs.length + 0; omega
 | p :: r,kvs=>by
  have h1:=z42 r (putK kvs p.1 p.2)
  have h2:=z2i kvs p.1 p.2
  show (z5m (putK kvs p.1 p.2) r).length≤_
  rw [WM]; omega
theorem z6b:∀ {kvs:List (Key×V)} {ws:List (Value×Value)},VV (kvs.map fun kv=>(kV kv.1,kv.2)) ws→∃ rs,Carries (z17 P w) ws rs∧KV kvs rs
 | [],_,r=>by rw [JT] at r; cases r; exact ⟨[],True.intro,.nil⟩
 | p :: kvs,_,r=>by
  rw [Wr] at r
  cases r with
  | @cons a b as bs h t =>
   obtain ⟨rs,c,q⟩:=z6b (P:=P) (w:=w) t
   obtain ⟨b1,b2⟩:=b
   exact ⟨(p.1,b2) :: rs,⟨z7m h.1,rfl,c⟩,.cons ⟨rfl,h.2⟩ q⟩
def tDisp (trs:List (TE×TE)):TE:=fun σ H Q=>∀ p,H p=none→z9O trs σ (upd H p (.dK [])) fun ps H2=>H2 p=some (.dK [])∧∃ kvs:List (Key×V),ps=kvs.map (fun kv=>(kV kv.1,kv.2))∧kvs.length≤15∧Q (.ref p) (upd H2 p (.dK (z5m [] kvs)))
theorem ze2 (h:PPs X pos keys values trs) (hall:keys.all (·.isSome)=true) (hl:keys.length=values.length) (h0:keys≠[])
  (h15:keys.length≤15):PE X (.Dict keys values pos) (tDisp trs):=by
 intro pins s σ H Q I q
 have hn:=I.hok.fresh (Wc s.heap.objs.size)
 have I1:=I.laid (a:=s.heap.objs.size) (o:=.dK []) (h':=s.heap.push { cls:=.type "dict",data:=.dict #[] }) (t':=s.toks) (fun _ _ q=>W5 _ q) (Wc _) (z6I s.heap I.big)
 refine wpAny_Dict_walk (knd:=z17 X.prog X.w) hall hl h0 h15 (thn (h pins _ σ _ _ I1 (q _ hn)) fun ws s2 ⟨ps,H2,I2,rel,e,kvs,ep,lk,q2⟩=>?_)
 subst ep
 obtain ⟨rs,c,rk⟩:=z6b (P:=X.prog) (w:=X.w) rel
 obtain ⟨z,hd,vs0,r0,dd⟩:=zcG I2.hok e
 cases r0
 refine ⟨rs,c,dd,fun h' dd' hs=>⟨.ref s.heap.objs.size,_,?_,rfl,q2⟩⟩
 have hz:(z5m [] kvs).length≤W3:=by
  have h1:=z42 kvs []
  rw [JS] at h1
  rw [JK]; omega
 have he:∃ q,h'.get? s.heap.objs.size=some q:=let ⟨q,_,_,hq,_⟩:=dd'; ⟨q,hq⟩
 exact z6J I2 (by rw [e]; exact True.intro) hs he (zbe hz hd (rk.merge .nil) dd')
structure M1 (X:Cx) (o:Expr) (m:Str) (apos:Pos) (e:Expr) (cpos:Pos):Prop where
 base:Qt o m X.env (eval o X.env)=eval o X.env
 few:((WT cpos (W7 [e] X.env)).all (fun x=>!x.1) && (Jx cpos (QX [] X.env)).all (fun x=>x.1.isSome)
  && decide (([e]:List Expr).length + ([]:List Keyword).length + (if ([]:List Keyword).isEmpty then 0 else 1) < 30))=true
 line:(apos.endLine == cpos.line)=true
 trees:WT cpos (W7 [e] X.env)=[(false,eval e X.env)]
structure M2 (X:Cx) (o:Expr) (m:Str) (apos:Pos) (e f:Expr) (cpos:Pos):Prop where
 base:Qt o m X.env (eval o X.env)=eval o X.env
 few:((WT cpos (W7 [e,f] X.env)).all (fun x=>!x.1) && (Jx cpos (QX [] X.env)).all (fun x=>x.1.isSome)
  && decide (([e,f]:List Expr).length + ([]:List Keyword).length + (if ([]:List Keyword).isEmpty then 0 else 1) < 30))=true
 line:(apos.endLine == cpos.line)=true
 trees:WT cpos (W7 [e,f] X.env)=[(false,eval e X.env),(false,eval f X.env)]
def IsD (H:Hp) (a:Addr):Prop:=(∃ kvs,Rd H a (.dK kvs))∨∃ kvs,Rd H a (.dT kvs)
theorem zfY (I:Inv X pins σ H s) (d:IsD H a) :
  s.TypeIs (.ref a) "dict"∧(∀ b,Value.ref a = .ref b→∃ ob,s.heap.get? b=some ob∧ob.dict=none)∧(a == QT)=false:=by
 rcases d with ⟨kvs,e⟩ | ⟨kvs,e⟩
 ·obtain ⟨_,hd,vs,_,dd⟩:=z8p I.hok e
  refine ⟨dd.typeIs,fun b q=>?_,hd⟩
  cases q
  obtain ⟨ob,_,_,h1,h2,_⟩:=dd
  exact ⟨ob,h1,h2.2.1⟩
 ·obtain ⟨_,hd,xs,_,dd⟩:=z9B I.hok e
  refine ⟨dd.typeIs,fun b q=>?_,hd⟩
  cases q
  obtain ⟨ob,_,_,h1,h2,_⟩:=dd
  exact ⟨ob,h1,h2.2.1⟩
section
variable {X:Cx} {pins:List (Addr×Obj)} {σ:St} {H:Hp} {s:W2} {a:Addr} {y d:V} {u r:Value} {o:Option V} {A:Wo} {E:Value→W2→Prop}
theorem zgh (hu:A.units + 1 < WX) (I:Inv X pins σ H s) (g:DGet H a y o) (ry:RelV y u) (h:∀ w' s',Inv X pins σ H s'→RelV (o.getD .non) w'→Q w' s') :
  W9 (model X.prog X.w) A (call (.builtin "dict.get") [.ref a,u]) Q E s:=by
 rcases g with ⟨kvs,k,e,ey,l⟩ | ⟨kvs,k,b,e,ey,eb,l⟩
 ·subst ey
  obtain ⟨z,hd,vs,rel,dd⟩:=z8p I.hok e
  refine call_meetsIn PySem.F.slot_dict_get dd.typeIs PySem.F.entry_dict_get (PySem.F.args_dict_get_2 _ _) (meets_dict_get (z17 X.prog X.w) a (z7m ry) hd) ⟨_,dd.mapOf,h _ _ (I.tok _) ?_⟩
  rw [l]
  exact (rel.val k).getD rfl
 ·subst ey
  cases (show u=Value.ref b from ry)
  obtain ⟨z,hd,xs,rel,dd⟩:=z9B I.hok e
  refine call_meetsIn PySem.F.slot_dict_get dd.typeIs PySem.F.entry_dict_get (PySem.F.args_dict_get_2 _ _) (meetsH_dict_get (tupleKind (z17 X.prog X.w)) a b hd) ⟨Jb hu,k,xs,z65 I.hok eb,dd,h _ _ (I.tok _) ?_⟩
  rw [l]
  exact (rel.val k).getD rfl
end
def zeO (td ty:TE):TE:=fun σ H Q=>td σ H fun x H1=>∃ a,x = .ref a∧IsD H1 a∧ty σ H1 fun y H2=>∃ o,DGet H2 a y o∧Q (o.getD .non) H2
section
variable {X:Cx} {o e f:Expr} {apos cpos:Pos} {td ty tx:TE}
theorem zc7 (hu:X.A.units + 1 < WX) (ho:PE X o td) (he:PE X e ty) (m:M1 X o "get" apos e cpos):PE X (.Call (.Attribute o "get" apos) [e] [] cpos) (zeO td ty):=by
 intro pins s σ H Q I h
 refine wpAny_Call_method m.base m.few m.line PySem.F.plainAttrs_dict PySem.F.slot_dict_get PySem.F.type_dict_get (thn (ho pins s σ H _ I h) fun u s1 ⟨x,H1,I1,rx,a,ex,d,q1⟩=>?_)
 subst ex
 obtain rfl:u=Value.ref a:=rx
 obtain ⟨t1,t2,_⟩:=zfY I1 d
 refine ⟨t1,t2,?_⟩
 rw [m.trees]
 refine Calls.callWith_builtin rfl (Calls.evalArgs_plain (Calls.spliced_cons (thn (he pins s1 σ H1 _ I1 q1) fun iv s2 ⟨y,H2,I2,ry,ov,g,q2⟩=>Calls.spliced_nil ?_)))
 exact zgh hu I2 g ry fun w' s3 I3 rw'=>⟨_,H2,I3,rw',q2⟩
end
section
variable {X:Cx} {pins:List (Addr×Obj)} {σ:St} {H:Hp} {s:W2} {a:Addr} {kvs:List (Key×V)} {A:Wo} {E:Value→W2→Prop}
end
section
variable {X:Cx} {pins:List (Addr×Obj)} {σ:St} {H:Hp} {s:W2} {a:Addr} {y:V} {u:Value} {A:Wo} {E:Value→W2→Prop}
end
end L2
namespace Att
open PySem PySem.W PySem.Calls PyProof.Rows
theorem z5p:∀ (ns:List Int) (vs:List Value),WellAll P h vs (ns.map WData.int)→IntsAre vs ns:=by
 intro ns
 induction ns with
 | nil =>
  intro vs w
  rw [JT] at w
  cases w
  exact .nil
 | cons n ns ih =>
  intro vs w
  rw [Wr] at w
  cases w with
  | cons a b =>
   cases a
   exact .cons _ _ (ih _ b)
theorem za1 {l:OpenLaw} {n:Nat} (hn:l.most=some n) {P:Params} {h:Heap} {args:List WData} {vals:List Value}
  (hpre:l.row.toRowW.claim.pre args=true) (hwl:WellAll P h vals args) :
  ∃ a vs ns,vals=[Value.ref a]∧args=[WData.list (ns.map WData.int)]∧h.get? a=some { cls:=.type "list",data:=.seq vs.toArray }∧IntsAre vs ns∧ns.length≤n:=by
 have hsh:WShape.hasAll [] args [.list .int]=true:=(pre_splitW hpre).1
 have hc:l.pre.holds [] { args:=args } = true:=(pre_splitW hpre).2
 obtain ⟨d,r,rfl,h1,h2⟩:=hasAllW_cons hsh
 obtain rfl:=hasAllW_nil h2
 obtain ⟨xs,rfl,h3⟩:=hasW_list h1
 obtain ⟨ns,rfl⟩:=items_int h3
 have hlen:ns.length≤n:=by
  unfold OpenLaw.pre at hc
  have h4:(WTm.not (.lt (.lit (.int (n:Int))) (.len (.arg 0)))).holds [] { args:=[.list (ns.map .int)] } = true:=by
   have h4:=(holds_andW hc).1
   rw [hn] at h4
   exact h4
  have h5:=condW_of h4 (w_not (w_lt w_lit (w_len_list (w_arg rfl))))
  rw [Qn] at h5
  refine Nat.le_of_not_lt fun q=>?_
  have q':(n:Int) < ((ns.length:Nat):Int):=by omega
  first
   | (rw [decide_eq_true q'] at h5; exact absurd h5 (by decide))
   | (simp at h5; omega)
 cases hwl with
 | cons w1 w2 =>
  cases w2
  cases w1 with
  | list ho hall=>exact ⟨_,_,ns,rfl,rfl,ho,z5p ns _ hall,hlen⟩
theorem zam (l:OpenLaw) (args:List WData):l.row.toRowW.claim.post args (.bool true) args=true :=
 postW_of (r:=l.row.toRowW) (X:=(true == true))
  (show WShape.has [] (.bool true) .bool=true by first | rfl | decide | simp [WShape.has,WShape.arms,WShape.armsAll])
  (show (WTm.eq .res (.lit (.bool true))).value [] { args:=args,res:=some (.bool true),after:=args } = some (.bool (true == true)) from w_eq_bool (w_res rfl) w_lit) rfl
theorem attach_call {l:OpenLaw} {n:Nat} {q:Wj} {loose:List Str} {XP:(Str→Option Value)→Heap→Prop} {YP:Wp→Heap→Prop} {d:DefRec}
  (hn:l.most=some n) (hdf:d.params.defaults=[])
  (call:∀ (w:Wp) (s₀ s₁:W2) (mg mb:Str→Option Value) (fa:Addr) (o:Obj) (pm cd doc:Value) (a:Addr) (vs:List Value) (ns:List Int),
   Ground q loose [] XP w s₀ mg mb s₁.heap→YP w s₁.heap →
   s₁.heap.get? fa=some o→o.data = .func (docDef d.name d.params d.body d.scope pm cd doc)→s₁.heap.CodeRec cd d.name→mg d.name=some (.ref fa) →
   s₁.heap.get? a=some { cls:=.type "list",data:=.seq vs.toArray }→IntsAre vs ns→ns.length≤n→s₁.gens = #[] →
   Qz (model l.prog w) callerA (.call (.ref fa) ⟨[.ref a],[]⟩) (fun r s'=>r = .ok (.ret (.bool true))∧OldK s₁.heap s'.heap∧s'.os=s₁.os∧AllBare s'.gens) s₁) :
  WalkO q loose XP YP l.row.toRowW d [] (fun f vs=>PySem.call f vs):=by
 intro w s₀ s₁ mg mb G Y fa o pm cd doc dV kV ho hd hcd hD hmg hg args vals as hpre hlay hrd hwl hlo
 obtain rfl:dV = .none:=Dflts.none hD hdf
 obtain rfl:kV = .none:=Dflts.noKw hD
 obtain ⟨a,vs,ns,rfl,rfl,hobj,hints,hlen⟩:=za1 hn hpre hwl
 refine enter_call (Jw (call w s₀ s₁ mg mb fa o pm cd doc a vs ns G Y ho (fd_plain hd) hcd hmg hobj hints hlen hg) fun r s' hq=>?_)
 obtain ⟨rfl,h2,h3,h4⟩:=hq
 exact ⟨.inl ⟨.bool true,.bool true,[],rfl,fun _=>rfl,.bool true,zam l _,fun _=>⟨List.Pairwise.nil,fun _ hm=>(nomatch hm)⟩⟩,h2,h3,h4⟩
section
variable {prog:Wj} {w:Wp} {A:Wo} {E:Value→W2→Prop} {s:W2} {K:Frag}
end
end Att
namespace L2
open PySem PySem.Spec PyProof.Rows
theorem vals_ints:∀ {vs:List Value} {ns:List Int},IntsAre vs ns→Vals (ns.map V.int) vs
 | _,_,.nil=>.nil
 | _,_,.cons n t h=>.cons ⟨t,rfl⟩ (vals_ints h)
def Only (H:Hp):Prop:=∀ b,H b=none∨∃ o xs,H b=some (.frz o (.lst xs))
theorem zcp {P:Wj} {w:Wp} {K:W0} {mg mb:Str→Option Value} {CX:CXT} {k:Nat} {fa a:Addr} {fd:WD} {x:Str} {sp:Sp} {s₁:W2} {vs:List Value} {ns:List Int}
  (KX:K.In s₁.heap) (hns:s₁.heap.Ns Wn mg) (hb:s₁.heap.Ns builtinsNs mb) (hbb:∀ x:Str,x≠"__name__"→mb x=Qg x) (hlim:s₁.heap.NoLimit) (hg:s₁.gens = #[])
  (ha:s₁.heap.get? a=some { cls:=.type "list",data:=.seq vs.toArray }) (hi:IntsAre vs ns) (hl:ns.length≤W3) (hr:Room k callerA)
  (F:∀ base:Heap,K.In base→base.Ns Wn mg→FnOk P w K mg base CX k fa fd [x] sp) (hbind:∀ (s:W2) (u:Value),BindsTo s fd ⟨[u],[]⟩ [(x,u)])
  (hsp:∀ H:Hp,Only H→SqL K H a (ns.map V.int)→sp [.ref a] H (fun v _=>v = .bl true) fun _ _ _=>False)
  (hCX:∀ H e s',CX [] H s₁ (fun _ _ _=>False) e s'→False) :
  Qz (model P w) callerA (.call (.ref fa) ⟨[.ref a],[]⟩) (fun r s'=>r = .ok (.ret (.bool true))∧OldK s₁.heap s'.heap∧s'.os=s₁.os∧AllBare s'.gens) s₁:=by
 have rv:=vals_ints hi
 have lenV:=hi.length
 -- from an abstract heap in which nothing but the script may be tracked
 have core:∀ H:Hp,Only H→SqL K H a (ns.map V.int)→HOk P w H s₁.heap→(∀ b,H b≠none→b=a)→(H a≠none→K.lookup a=none) →
   Qz (model P w) callerA (.call (.ref fa) ⟨[.ref a],[]⟩) (fun r s'=>r = .ok (.ret (.bool true))∧OldK s₁.heap s'.heap∧s'.os=s₁.os∧AllBare s'.gens) s₁:=by
  intro H hO hS hok hA hK
  have base_of:∀ {b:Addr} {o:Obj},s₁.heap.get? b=some o→H b=none→(hidT s₁.heap H).get? b=some o:=fun e n=>zcv e n
  have noA:∀ {b:Addr} {o:Obj} {es:Array DictEntry} {ep:Nat},s₁.heap.get? b=some o→o.data = .dict es ep→H b=none:=fun {b o es ep} e d=>by
   cases q:H b with
   | none=>rfl
   | some u =>
    have e':b=a:=hA b (by rw [q]; simp)
    subst e'
    rw [ha] at e; cases e
    have d':Data.seq vs.toArray _=Data.dict es ep:=d
    cases d'
  have nsK:∀ {b:Addr} {m:Str→Option Value},s₁.heap.Ns b m→(hidT s₁.heap H).Ns b m:=fun {b m} ⟨o,es,ep,e,d,r⟩=>⟨o,es,ep,base_of e (noA e d),d,r⟩
  have hKb:K.In (hidT s₁.heap H):=fun b o e=>base_of (KX b o e) (by
   cases q:H b with
   | none=>rfl
   | some u =>
    have e':b=a:=hA b (by rw [q]; simp)
    subst e'
    rw [hK (by rw [q]; simp)] at e; cases e)
  have hM:Mod K mg (hidT s₁.heap H):=⟨hKb,nsK hns,⟨mb,nsK hb,hbb⟩,let ⟨mc,h1,h2⟩:=hlim; ⟨mc,nsK h1,h2⟩⟩
  have e0:Env0 P w K mg (hidT s₁.heap H) callerA [] s₁ H:=⟨rfl,hM,fun b o e=>zea e,Nat.le_of_eq (zaZ _ _),trivial,fun b hb=>absurd (show b ∈ ([]:List Addr) from hb) (by simp),hok,.of_eq hg⟩
  refine Jw ((F _ hKb (nsK hns)).run callerA [] s₁ H ⟨[.ref a],[]⟩ [.ref a] [.ref a] _ _ hr e0 (hbind s₁ (.ref a)) (.cons rfl .nil) (hsp H hO hS)) fun r s' h=>?_
  cases r with
  | error e=>exact (hCX H e s' h).elim
  | ok fl =>
   cases fl with
   | next=>exact False.elim h
   | brk=>exact False.elim h
   | cont=>exact False.elim h
   | ret u =>
    obtain ⟨v,H',os,bare,un,hok',r',q⟩:=h
    have q':v = .bl true:=q
    subst q'
    obtain rfl:u=Value.bool true:=r'
    refine ⟨rfl,OldK.of_keep fun b o e=>?_,os,bare⟩
    cases q:H b with
    | none=>exact un.keep b o e q (by intro z; exact absurd (show b ∈ ([]:List Addr) from z) (by simp)) (by simp)
    | some u =>
     rcases hO b with z | ⟨ob,xs,z⟩
     ·rw [q] at z; cases z
     ·have z2:=un.frzs b ob _ z
      obtain ⟨e1,_⟩:=hok b _ z
      obtain ⟨e2,_⟩:=hok' b _ z2
      rw [e] at e1; cases e1
      exact e2
 cases hk:K.lookup a with
 | some o =>
  -- the script is one of the module's own objects
  have e:=KX a o hk
  rw [ha] at e
  cases e
  refine core (fun _=>none) (fun _=>.inl rfl) (.inr ⟨_,vs.toArray,_,hk,rfl,rfl,rfl,by rw [Wk,lenV]; exact hl,by simpa using rv⟩) (fun b u z=>by have z':(none:Option HO)=some u:=z; cases z') (fun b z=>absurd rfl z) fun z=>absurd rfl z
 | none =>
  refine core (fun b=>if b=a then some (.frz { cls:=.type "list",data:=.seq vs.toArray } (.lst (ns.map V.int))) else none) (fun b=>?_) (.inl (.inr ⟨{ cls:=.type "list",data:=.seq vs.toArray },if_pos rfl⟩)) (fun b u z=>?_) (fun b z=>?_) fun _=>hk
  ·by_cases hb:b=a
   ·exact .inr ⟨_,_,if_pos hb⟩
   ·exact .inl (if_neg hb)
  ·by_cases hb:b=a
   ·have z':=(if_pos hb).symm.trans z
    cases z'
    subst hb
    exact ⟨ha,by rw [Qn]; exact hl,vs,_,rv,ha⟩
   ·have z':=(if_neg hb).symm.trans z
    cases z'
  ·by_cases hb:b=a
   ·exact hb
   ·exact absurd (if_neg hb) z
abbrev KOf {K:W0} {h:Heap} (_:K.In h):W0:=K
theorem walk_of {l:PySem.W.OpenLaw} {n k:Nat} {q:Wj} {loose:List Str} {XP:(Str→Option Value)→Heap→Prop} {YP:Wp→Heap→Prop} {d:DefRec} {K:Params→W0} {CX:Wp→CXT} {sp:Wp→Sp} {x:Str}
  (hn:l.most=some n) (hn2:n≤W3) (hdf:d.params.defaults=[]) (hr:Room k callerA)
  (hY:∀ (w:Wp) (h:Heap),YP w h→(K w.params).In h)
  (F:∀ (w:Wp) (mg:Str→Option Value) (fa:Addr) (h:Heap),(K w.params).In h→h.Ns Wn mg→mg d.name=some (.ref fa) →
   ∃ fd:WD,(∀ (s:W2) (u:Value),BindsTo s fd ⟨[u],[]⟩ [(x,u)]) ∧
    ∀ base:Heap,(K w.params).In base→base.Ns Wn mg→FnOk l.prog w (K w.params) mg base (CX w) k fa fd [x] (sp w))
  (hsp:∀ (w:Wp) (H:Hp) (a:Addr) (ns:List Int),ns.length≤n→Only H→SqL (K w.params) H a (ns.map V.int)→sp w [.ref a] H (fun v _=>v = .bl true) fun _ _ _=>False)
  (hCX:∀ (w:Wp) (H:Hp) (s:W2) (e:Value) (s':W2),CX w [] H s (fun _ _ _=>False) e s'→False) :
  PySem.W.WalkO q loose XP YP l.row.toRowW d [] (fun f vs=>PySem.call f vs):=by
 refine Att.attach_call hn hdf fun w s₀ s₁ mg mb fa o pm cd doc a vs ns G Y ho hd hcd hmg hobj hints hlen hg=>?_
 have KX:=hY w _ Y
 obtain ⟨fd,hb,hF⟩:=F w mg fa _ KX G.T.g hmg
 exact zcp KX G.T.g G.T.b G.T.builtins G.T.nolimit hg hobj hints (WI hlen hn2) hr hF hb (fun H hO hS=>hsp w H a ns hlen hO hS) fun H e s'=>hCX w H s₁ e s'
def z2Q (s:Stmt):Arguments:=match s with
 | .FunctionDef _ a _ _ _ _ _ _ _ _=>a
 | _=>{ posonlyargs:=[],args:=[],vararg:=none,kwonlyargs:=[],kw_defaults:=[],kwarg:=none,defaults:=[] }
def z19 (s:Stmt):List Stmt:=match s with
 | .FunctionDef _ _ b _ _ _ _ _ _ _=>b
 | _=>[]
def z04 (s:Stmt):Scope:=match s with
 | .FunctionDef _ _ _ _ _ _ sc _ _ _=>sc
 | _=>{ kind:=.function,names:=[],isGenerator:=false,isCoroutine:=false }
abbrev CX0:CXT:=fun _ _ _ _ _ _=>False
abbrev E0:XK:=fun _ _ _=>False
theorem pass0:zbx CX0 X E0:=fun _ _ _ _ _ _ _ h=>h.elim
structure Fun (K:W0) (x qual:Str) (st:Stmt) (f:Addr) (fd:WD):Prop where
 ex:∃ (oc:Value) (od:Option Addr) (kV doc pm:Value) (an:Option Addr) (cdv ct:Value) (osl:Array (Option Value)),
  fd=Qr x qual (z2Q st) (z19 st) (z04 st) .none kV doc pm an cdv ct∧K.lookup f=some ⟨oc,od,.func fd,osl⟩∧PySem.W.codeIn K cdv qual=true
 kp:Qa K (.ref f)=true
section
variable {P:Wj} {w:Wp} {K:W0} {mg:Str→Option Value} {base:Heap}
theorem Fun.ok {x qual:Str} {st:Stmt} {f:Addr} {fd:WD} {N ps:List Str} {k:Nat} {sp:Sp} (F:Fun K x qual st f fd) (S:FnScope N ps (z04 st)) (len:∀ vs H Q E,sp vs H Q E→vs.length=ps.length)
  (hbody:∀ (cdv:Value) (A:Wo) (outer:List Env) (s:W2) (H:Hp) (vs:List V) (Q:VK) (E:XK),Room k (A.deeper (Qq qual (z04 st) s.heap.objs.size f cdv))→sp vs H Q E →
   ∃ t,PSs (cxOf CX0 P w K mg base N qual (z04 st) f cdv A outer s H E).nox (z19 st) t∧t { nx:=fun _ H'=>Q .non H',rt:=Q } (start N vs) H):FnOk P w K mg base CX0 (k + 1) f fd ps sp:=by
 obtain ⟨oc,od,kV,doc,pm,an,cdv,ct,osl,rfl,lk,hcd⟩:=F.ex
 refine zg7 lk hcd S len fun A outer s H vs Q E hr hsp=>?_
 obtain ⟨t,h,q⟩:=hbody cdv A outer s H vs Q E hr hsp
 exact ⟨t,h.nox,q⟩
theorem Fun.binds {x qual:Str} {st:Stmt} {f:Addr} {fd:WD} {ps:List Str} (F:Fun K x qual st f fd)
  (h:∀ (kV doc pm:Value) (an:Option Addr) (cdv ct:Value) (us:List Value),us.length=ps.length→bindArgs (Qr x qual (z2Q st) (z19 st) (z04 st) .none kV doc pm an cdv ct) ⟨us,[]⟩=pure (ps.zip us)):Binds K fd ps []:=by
 obtain ⟨oc,od,kV,doc,pm,an,cdv,ct,osl,rfl,lk,hcd⟩:=F.ex
 exact .all (h kV doc pm an cdv ct)
theorem zb0 {x qual:Str} {st:Stmt} {f:Addr} {oc:Value} {od an:Option Addr} {osl:Array (Option Value)} {kV doc pm cdv ct:Value} (l:K.lookup f=some ⟨oc,od,.func (Qr x qual (z2Q st) (z19 st) (z04 st) .none kV doc pm an cdv ct),osl⟩)
  (c:PySem.W.codeIn K cdv qual=true) (k:Qa K (.ref f)=true):Fun K x qual st f (Qr x qual (z2Q st) (z19 st) (z04 st) .none kV doc pm an cdv ct):=⟨⟨oc,od,kV,doc,pm,an,cdv,ct,osl,rfl,l,c⟩,k⟩
end
theorem z9X (h:n≤1000):n < W3:=Nat.lt_of_le_of_lt h (by decide)
section
variable {X:Cx}
theorem pv (i:Nat) (hN:X.N[i]? = some x:=by rfl) (hv:Vis X.env.scope x:=by first | exact Or.inl rfl | exact Or.inr (Or.inl rfl) | exact Or.inr (Or.inr rfl)) (hd:(x == ("__debug__" : Str))=false:=by decide)
  (hcd:(x == ("__classdict__" : Str))=false:=by decide):PE X (.Name x pos) (tVar i):=zfm hN hv hd hcd
theorem zbq:CallR X (.builtin "len") (fun xs H Q=>∃ a kvs,xs=[V.ref a]∧H a=some (.dK kvs)∧Q (.int kvs.length) H):=by
 intro pins s σ H xs us Q I r h
 obtain ⟨a,kvs,rfl,ha,q⟩:=h
 obtain ⟨u,rfl,ru⟩:=z5B r
 cases ru
 exact d_len I (.inl ha) fun t s' I'=>⟨.int kvs.length,H,I',⟨t,rfl⟩,q⟩
end
def Same (H H':Hp):Prop:=∀ b o,H b=some o→H' b=some o
theorem Same.refl (H:Hp):Same H H:=fun _ _ h=>h
theorem Same.trans (a:Same H H1) (b:Same H1 H2):Same H H2:=fun c o h=>b c o (a c o h)
theorem Same.free (e:Same H H') (h:H' l=Option.none):H l=Option.none:=by
 cases q:H l with
 | none=>rfl
 | some o =>
  rw [e l o q] at h
  cases h
theorem Same.seq {K:W0} {H H':Hp} {a:Addr} {xs:List V} (e:Same H H') (h:SqL K H a xs):SqL K H' a xs:=by
 rcases h with (h | ⟨o,h⟩) | h
 ·exact .inl (.inl (e _ _ h))
 ·exact .inl (.inr ⟨o,e _ _ h⟩)
 ·exact .inr h
section
variable {κ:Type} [DecidableEq κ]
end
def z1Y (cells:List (Str×Addr)):List (Str×NameKind)→List (Str×Addr)→List (Str×Addr)
 | [],acc=>acc
 | (n,k) :: r,acc=>z1Y cells r (if k == .free then (match cells.lookup n with | some a=>(n,a) :: acc | none=>acc) else acc)
theorem z3J (f:Str×NameKind→List (Str×Addr)→Sem (ForInStep (List (Str×Addr))))
  (hf:∀ name kind cs,f (name,kind) cs=if kind == .free then (do let a ← cellOf env name; pure (.yield ((name,a) :: cs))) else pure (.yield cs)) :
  ∀ (names:List (Str×NameKind)) (acc:List (Str×Addr)),(∀ x ∈ names,x.2=NameKind.free→∃ c,env.cells.lookup x.1=some c)→(forIn names acc f:Sem (List (Str×Addr)))=pure (z1Y env.cells names acc)
 | [],acc,_=>by rw [List.forIn_nil]; rfl
 | (n,k) :: r,acc,h=>by
  rw [List.forIn_cons,hf]
  unfold z1Y
  by_cases hk:(k == NameKind.free)=true
  ·obtain ⟨c,hc⟩:=h (n,k) Wh (by simpa using hk)
   have hc':env.cells.lookup n=some c:=hc
   have e:cellOf env n=pure c:=by unfold cellOf; rw [hc']
   rw [if_pos hk,if_pos hk,e,hc']
   exact z3J f hf r _ fun x hx=>h x (We _ hx)
  ·rw [if_neg hk,if_neg hk]
   exact z3J f hf r _ fun x hx=>h x (We _ hx)
theorem z6a (h:∀ x ∈ scope.names,x.2=NameKind.free→∃ c,env.cells.lookup x.1=some c):closureFor scope env=pure (z1Y env.cells scope.names []):=by
 unfold closureFor
 dsimp only
 rw [z3J (env:=env) _ (fun name kind cs=>by cases hkc:kind == NameKind.free <;> simp [hkc]) scope.names [] h]
 rfl
theorem z69:∀ (names:List (Str×NameKind)) (acc:List (Str×Addr)),(n,c) ∈ z1Y cells names acc→(n,c) ∈ acc∨((n,NameKind.free) ∈ names∧cells.lookup n=some c)
 | [],acc,h=>.inl h
 | (y,k) :: r,acc,h=>by
  unfold z1Y at h
  rcases z69 r _ h with q | ⟨q,e⟩
  ·by_cases hk:(k == NameKind.free)=true
   ·rw [if_pos hk] at q
    have hk':k=NameKind.free:=by simpa using hk
    cases e:cells.lookup y with
    | none=>rw [e] at q; exact .inl q
    | some a =>
     rw [e] at q
     rcases Wf.mp q with z | z
     ·cases z
      exact .inr ⟨by rw [hk']; exact Wh,e⟩
     ·exact .inl z
   ·rw [if_neg hk] at q; exact .inl q
  ·exact .inr ⟨We _ q,e⟩
theorem z5w:∀ (names:List (Str×NameKind)) (acc:List (Str×Addr)),(acc.lookup n).isSome=true∨((n,NameKind.free) ∈ names∧(cells.lookup n).isSome=true)→((z1Y cells names acc).lookup n).isSome=true
 | [],acc,h=>h.elim id fun z=>absurd z.1 (by simp)
 | (y,k) :: r,acc,h=>by
  unfold z1Y
  apply z5w r
  by_cases hk:(k == NameKind.free)=true
  ·rw [if_pos hk]
   cases e:cells.lookup y with
   | none =>
    rcases h with h | ⟨h1,h2⟩
    ·exact .inl h
    ·rcases Wf.mp h1 with z | z
     ·cases z
      rw [e] at h2; cases h2
     ·exact .inr ⟨z,h2⟩
   | some a =>
    by_cases hn:(n == y)=true
    ·refine .inl ?_
     show (List.lookup n ((y,a) :: acc)).isSome=true
     rw [Q9,hn]
     rfl
    ·rcases h with h | ⟨h1,h2⟩
     ·refine .inl ?_
      show (List.lookup n ((y,a) :: acc)).isSome=true
      have hn':(n == y)=false:=by simpa using hn
      rw [Q9,hn']
      exact h
     ·rcases Wf.mp h1 with z | z
      ·cases z
       exact absurd (by simp) hn
      ·exact .inr ⟨z,h2⟩
  ·rw [if_neg hk]
   rcases h with h | ⟨h1,h2⟩
   ·exact .inl h
   ·rcases Wf.mp h1 with z | z
    ·cases z
     exact absurd rfl hk
    ·exact .inr ⟨z,h2⟩
theorem zbm:∀ (names:List (Str×NameKind)) (h:Heap) (acc:List (Str×Addr)),(n,c) ∈ Qm h.objs.size names acc →
  (n,c) ∈ acc∨((n,NameKind.cell) ∈ names∧h.objs.size≤c∧(Jy h names).IsCell c none)
 | [],_,_,h=>.inl h
 | (y,k) :: r,h,acc,hm=>by
  unfold Qm at hm
  unfold Jy
  by_cases hk:(k == NameKind.cell)=true
  ·rw [if_pos hk] at hm
   rw [if_pos hk]
   have hk':k=NameKind.cell:=by simpa using hk
   have sz:(h.push { cls:=.type "cell",data:=.cell none }).objs.size=h.objs.size + 1:=Ji ..
   rw [← sz] at hm
   rcases zbm r _ _ hm with q | ⟨q1,q2,q3⟩
   ·rcases Wf.mp q with z | z
    ·cases z
     refine .inr ⟨by rw [hk']; exact Wh,Wc _,?_⟩
     exact Heap.IsCell.keeps ⟨_,Wq _ rfl,rfl⟩ (pushCells_keeps r _)
    ·exact .inl z
   ·exact .inr ⟨We _ q1,by rw [sz] at q2; omega,q3⟩
  ·rw [if_neg hk] at hm
   rw [if_neg hk]
   rcases zbm r _ _ hm with q | ⟨q1,q2,q3⟩
   ·exact .inl q
   ·exact .inr ⟨We _ q1,q2,q3⟩
theorem zbn:∀ (names:List (Str×NameKind)) (k:Nat) (acc:List (Str×Addr)),(∀ n n' c,(n,c) ∈ acc→(n',c) ∈ acc→n=n')→(∀ n c,(n,c) ∈ acc→c < k) →
  ∀ n n' c,(n,c) ∈ Qm k names acc→(n',c) ∈ Qm k names acc→n=n'
 | [],_,_,h,_=>h
 | (y,kd) :: r,k,acc,h,hb=>by
  unfold Qm
  by_cases hk:(kd == NameKind.cell)=true
  ·rw [if_pos hk]
   refine zbn r (k + 1) _ (fun n n' c h1 h2=>?_) fun n c hm=>?_
   ·rcases Wf.mp h1 with e | h1 <;> rcases Wf.mp h2 with e' | h2
    ·cases e; cases e'; rfl
    ·cases e; exact absurd (hb _ _ h2) (Qs _)
    ·cases e'; exact absurd (hb _ _ h1) (Qs _)
    ·exact h n n' c h1 h2
   ·rcases Wf.mp hm with e | hm
    ·cases e; exact Nat.lt_succ_self _
    ·exact QQ (hb _ _ hm)
  ·rw [if_neg hk]
   exact zbn r k acc h hb
theorem z0S {env:Env} {x:Str}:∀ {names:List (Str×NameKind)} {k:NameKind},
  (names.map fun (y:Str×NameKind)=>if (y.2 == NameKind.free && env.scope.kind == .function && env.kindOf y.1 == some .cell) then (y.1,NameKind.cell) else (y.1,y.2)).lookup x=some k →
  names.lookup x=some k∨(k=NameKind.cell∧names.lookup x=some .free)
 | [],_,h=>by simp at h
 | (n,kd) :: r,k,h=>by
  rw [Wr] at h
  have ih:=@z0S env x r k
  cases hx:x == n with
  | true =>
   by_cases hc:(kd == NameKind.free && env.scope.kind == .function && env.kindOf n == some .cell)=true
   ·rw [if_pos hc,Q9,hx] at h
    cases h
    simp only [Wi] at hc
    have:kd=NameKind.free:=by simpa using hc.1.1
    exact .inr ⟨rfl,by rw [Q9,hx,this]⟩
   ·rw [if_neg hc,Q9,hx] at h
    cases h
    exact .inl (by rw [Q9,hx])
  | false =>
   have h':(r.map fun (y:Str×NameKind)=>if (y.2 == NameKind.free && env.scope.kind == .function && env.kindOf y.1 == some .cell) then (y.1,NameKind.cell) else (y.1,y.2)).lookup x=some k:=by
    by_cases hc:(kd == NameKind.free && env.scope.kind == .function && env.kindOf n == some .cell)=true
    ·rw [if_pos hc,Q9,hx] at h; exact h
    ·rw [if_neg hc,Q9,hx] at h; exact h
   rw [Q9,hx]
   exact ih h'
def z1w (X:Cx) (scope:Scope) (s₀:W2) (H₀:Hp) (ex:List Addr):Cx :=
 { X with
  env:={ scope:=relabel scope X.env,locals:=s₀.heap.objs.size,globals:=X.env.globals,cells:=Qm (s₀.heap.objs.size + 1) scope.names (z1Y X.env.cells scope.names []),qual:=X.env.qual,func:=none,code:=X.env.code,frame:=X.env.frame,builtins:=X.env.builtins }
  s₀:=s₀
  H₀:=H₀
  outer:=X.stack
  ex:=ex
  fn:=fun x=>scope.names.lookup x == some .cell
  pn:=[]
  xe:=fun _ _=>False }
structure CScope (X:Cx) (scope:Scope) (cs:List Nat):Prop where
 kind:scope.kind = .function
 names:∀ x ∈ scope.names,x.2 = .local→scope.names.lookup x.1=some .local
 free:∀ x ∈ scope.names,x.2 = .free→X.env.kindOf x.1=some .cell∨X.env.kindOf x.1=some .free
 nd:(scope.names.map (·.1)).Nodup
 own:∀ (i:Nat) x,X.N[i]? = some x→scope.names.lookup x=some .local∨scope.names.lookup x=some .cell→i ∈ cs
def clr (cs:List Nat) (σ:St):St:=cs.foldl (fun σ i=>σ.set i none) σ
theorem z6K (cs:List Nat):∀ σ:St,(clr cs σ).length=σ.length:=by
 induction cs with
 | nil=>intro σ; rfl
 | cons i r ih =>
  intro σ
  show (clr r (σ.set i none)).length=_
  rw [ih]; simp
theorem z3f:∀ (cs:List Nat) (σ:St) (i:Nat) (v:V),(clr cs σ)[i]? = some (some v)→σ[i]? = some (some v)∧i ∉ cs:=by
 intro cs
 induction cs with
 | nil=>intro σ i v h; exact ⟨h,by simp⟩
 | cons j r ih =>
  intro σ i v h
  have h':(clr r (σ.set j none))[i]? = some (some v):=h
  obtain ⟨h1,h2⟩:=ih _ i v h'
  by_cases e:j=i
  ·subst e
   rw [WH] at h1
   simp at h1
  ·rw [W4 e] at h1
   exact ⟨h1,by simp only [Wf,not_or]; exact ⟨Ne.symm e,h2⟩⟩
theorem z5k:∀ {l:List (Str×α)},(l.map (·.1)).Nodup→(x,k) ∈ l→(x,k') ∈ l→k=k'
 | (y,j) :: r,nd,h1,h2=>by
  rw [Wr,List.nodup_cons] at nd
  rcases Wf.mp h1 with e | g1 <;> rcases Wf.mp h2 with e' | g2
  ·cases e; cases e'; rfl
  ·cases e; exact absurd (WC (f:=(·.1)) g2) nd.1
  ·cases e'; exact absurd (WC (f:=(·.1)) g1) nd.1
  ·exact z5k nd.2 g1 g2
section
variable {X:Cx} {pins:List (Addr×Obj)} {σ:St} {H:Hp} {s:W2} {scope:Scope} {cs:List Nat} {fp:List Addr}
theorem z9D (I:Inv X pins σ H s) (S:CScope X scope cs) (hf:∀ b ∈ fp,FpOk X pins H b) (hlt:∀ b ∈ fp,b < s.heap.objs.size) :
  Inv (z1w X scope s H fp) [] (clr cs σ) H { s with heap:=Jy (s.heap.push { cls:=.type "dict",data:=.dict #[] }) scope.names }:=by
 have sz:(s.heap.push { cls:=.type "dict",data:=.dict #[] }).objs.size=s.heap.objs.size + 1:=Ji ..
 have kp:∀ b o,s.heap.get? b=some o→(Jy (s.heap.push { cls:=.type "dict",data:=.dict #[] }) scope.names).get? b=some o:=fun b o e=>pushCells_keeps _ _ b o (W5 _ e)
 have clo:∀ n c,(n,c) ∈ z1Y X.env.cells scope.names []→(n,NameKind.free) ∈ scope.names∧X.env.cells.lookup n=some c:=fun n c h=>(z69 _ _ h).elim (fun z=>absurd z (by simp)) id
 have cltm:∀ n c,(n,c) ∈ z1Y X.env.cells scope.names []→c < s.heap.objs.size:=fun n c h=>by
  obtain ⟨v,q⟩:=I.cell n c (clo n c h).2
  exact q.lt
 have cel:∀ n c,(n,c) ∈ Qm (s.heap.objs.size + 1) scope.names (z1Y X.env.cells scope.names []) →
   ((n,NameKind.free) ∈ scope.names∧X.env.cells.lookup n=some c)∨((n,NameKind.cell) ∈ scope.names∧s.heap.objs.size + 1≤c∧(Jy (s.heap.push { cls:=.type "dict",data:=.dict #[] }) scope.names).IsCell c none):=fun n c h=>by
  rw [← sz] at h
  rcases zbm _ _ _ h with q | q
  ·exact .inl (clo n c q)
  ·rw [sz] at q; exact .inr q
 have cinj:=zbn scope.names (s.heap.objs.size + 1) (z1Y X.env.cells scope.names []) (fun n n' c h1 h2=>I.ok.inj n n' c (clo n c h1).2 (clo n' c h2).2) (fun n c h=>QQ (cltm n c h))
 have hasC:∀ x ∈ scope.names,x.2 = .free→∃ c,X.env.cells.lookup x.1=some c:=fun x hx hk=>I.ok.has x.1 (S.free x hx hk)
 have fpn:∀ b ∈ fp,b ∉ frs X.stack:=fun b hb z=>by
  obtain ⟨_,f1,f2,_⟩:=hf b hb
  rcases Wf.mp (I.stkSub b z) with e | e
  ·exact f1 e
  ·exact f2 e
 have kindC:∀ x,(z1w X scope s H fp).env.kindOf x=some .cell∨(z1w X scope s H fp).env.kindOf x=some .free→scope.names.lookup x=some .cell∨scope.names.lookup x=some .free:=fun x h=>by
  rcases h with h | h
  ·have h':(relabel scope X.env).names.lookup x=some .cell:=h
   rcases z0S (env:=X.env) (names:=scope.names) h' with q | ⟨_,q⟩
   ·exact .inl q
   ·exact .inr q
  ·have h':(relabel scope X.env).names.lookup x=some .free:=h
   rcases z0S (env:=X.env) (names:=scope.names) h' with q | ⟨q,_⟩
   ·exact .inr q
   ·cases q
 have hasIt:∀ x,scope.names.lookup x=some .cell∨scope.names.lookup x=some .free→∃ c,(Qm (s.heap.objs.size + 1) scope.names (z1Y X.env.cells scope.names [])).lookup x=some c:=fun x h=>by
  refine QY.mp (Jg scope.names _ _ ?_)
  rcases h with h | h
  ·exact .inl h
  ·refine .inr (z5w _ _ (.inr ⟨Wu h,?_⟩))
   obtain ⟨c,hc⟩:=hasC _ (Wu h) rfl
   exact Option.isSome_iff_exists.mpr ⟨c,hc⟩
 have ns0:(Jy (s.heap.push { cls:=.type "dict",data:=.dict #[] }) scope.names).Ns s.heap.objs.size fun _=>none:=(Heap.Ns.new s.heap (.type "dict")).keeps (pushCells_keeps _ _)
 refine ⟨⟨I.ok.mod,S.kind,I.ok.glob,I.ok.blt,Wc _,fun y z c h1 h2=>cinj y z c (Wu h1) (Wu h2),fun x hx=>hasIt x (kindC x hx),fun x c hfn h=>?_,I.ok.hd,I.ok.frames,.inl rfl,
  fun b hb=>⟨Ws (hlt b hb),fun x c h e=>?_⟩,I.bs,WI I.ok.bsz I.sz,fun b o e hb=>?_,fpn,I.stack,I.stkFree⟩,
  rfl,I.bare,Un.kept kp,⟨fun _=>none,ns0,fun i x v h1 h2 h3=>?_⟩,fun x c h=>?_,I.hok.fresh (Wc _),fun x c h=>?_,fun p hp=>absurd (show p ∈ ([]:List (Addr×Obj)) from hp) (by simp),I.hok.kept kp,(z6K cs σ).trans I.len⟩
 ·rcases cel x c (Wu h) with q | q
  ·have hfn':scope.names.lookup x=some .cell:=by
    have:(scope.names.lookup x == some .cell)=true:=hfn
    exact eq_of_beq this
   have:=z5k S.nd q.1 (Wu hfn')
   cases this
  ·exact Nat.le_of_succ_le q.2.1
 ·subst e
  rcases cel x c (Wu h) with q | q
  ·exact (hf c hb).2.2.2.2.1 x c q.2 rfl
  ·exact absurd (Wy (hlt c hb) (Nat.le_of_succ_le q.2.1)) (Qs _)
 ·obtain ⟨_,_,_,f3,_⟩:=hf b hb
  rcases f3 with z | z
  ·exact I.ok.noex b o e z
  ·exact absurd (Wy (Wg (I.ok.bs b o e).1) z) (Qs _)
 ·obtain ⟨h2',hni⟩:=z3f cs σ i v h2
  have hni':¬ (scope.names.lookup x=some .local∨scope.names.lookup x=some .cell):=fun z=>hni (S.own i x h1 z)
  have hfree:scope.names.lookup x=some .free:=by
   rcases h3 with h3 | h3 | h3
   ·rcases z0S (env:=X.env) (names:=scope.names) h3 with q | ⟨q,_⟩
    ·exact absurd (.inl q) hni'
    ·cases q
   ·rcases z0S (env:=X.env) (names:=scope.names) h3 with q | ⟨_,q⟩
    ·exact absurd (.inr q) hni'
    ·exact q
   ·rcases z0S (env:=X.env) (names:=scope.names) h3 with q | ⟨q,_⟩
    ·exact q
    ·cases q
  have hk:=S.free _ (Wu hfree) rfl
  obtain ⟨m,hn,hl⟩:=I.loc
  have hvis:Vis X.env.scope x:=by
   rcases hk with hk | hk
   ·exact .inr (.inl hk)
   ·exact .inr (.inr hk)
  obtain ⟨u,r,l⟩:=hl i x v h1 h2' hvis
  refine ⟨u,r,?_⟩
  rcases l with ⟨k,_⟩ | ⟨_,c,hc,hcell⟩
  ·have k':X.env.kindOf x=some .local:=k
   rcases hk with hk | hk
   ·rw [show X.env.kindOf x=some .cell from hk] at k'; cases k'
   ·rw [show X.env.kindOf x=some .free from hk] at k'; cases k'
  ·obtain ⟨c',hc'⟩:=hasIt x (.inr hfree)
   have e:c'=c:=by
    rcases cel x c' (Wu hc') with q | q
    ·have q2:=q.2
     rw [hc] at q2; exact (Wt q2).symm
    ·have:=z5k S.nd q.1 (Wu hfree)
     cases this
   subst e
   refine .inr ⟨?_,c',hc',hcell.keeps kp⟩
   rcases h3 with h3 | h3 | h3
   ·rcases z0S (env:=X.env) (names:=scope.names) h3 with q | ⟨q,_⟩
    ·rw [hfree] at q; cases q
    ·cases q
   ·exact .inl h3
   ·exact .inr h3
 ·rcases cel x c (Wu h) with q | q
  ·obtain ⟨v,z⟩:=I.cell x c q.2
   exact ⟨v,z.keeps kp⟩
  ·exact ⟨none,q.2.2⟩
 ·rcases cel x c (Wu h) with q | q
  ·exact I.freeC x c q.2
  ·exact I.hok.fresh (Nat.le_of_succ_le q.2.1)
end
abbrev NoX:Value→W2→Prop:=fun _ _=>False
def zdc (ifs:List Expr) (env:Env):Sem Bool:=forIn ifs true fun c r=>if r=true then do let ok ← isTrue c env (eval c env); pure (ForInStep.yield ok) else pure (ForInStep.yield r)
theorem z7E (I:Nat→W2→Prop)
  (turn:∀ n s,I n s→W9 (model prog w) A (pyNext it) (fun r s₁=>match r with
   | none=>R (.ok .next) s₁
   | some v=>W9 (model prog w) A (letOwnedTupleGo target it v) (fun _ s₁'=>W9 (model prog w) A (assign target env v) (fun _ s₂ =>
     W9 (model prog w) A (zdc ifs env) (fun ok s₃ =>
      if ok=true then W9 (model prog w) A (eval elt env) (fun x s₄ =>
       W9 (model prog w) A (call (.builtin "list.append") [acc,x]) (fun _ s₅=>∃ m,m < n∧I m s₅) NoX s₄) NoX s₃
      else ∃ m,m < n∧I m s₃) NoX s₂) NoX s₁') NoX s₁) NoX s)
  (n:Nat) (h:I n s) :
  Qz (model prog w) A (.compLoop (.ListComp elt [⟨target,iter,ifs,0⟩] scope pos) 0 it acc env) R s:=by
 refine codeAny_loop rfl I (fun n s hI=>?_) n h
 show W9 _ A ((compTurn (.ListComp elt [⟨target,iter,ifs,0⟩] scope pos) 0 it acc env).onRaise (fun x=>do noteFrame x env; theTreesLotGoes x)) _ _ s
 refine wpAny_noted ?_
 rw [compTurn_list]
 refine W1 (wpAny_standAt (W1 (WL (turn n s hI) (fun r s₁ h₁=>?_) fun _ _ h'=>h'.elim)))
 cases r with
 | none=>exact W8 h₁
 | some v =>
  refine W1 (WL h₁ (fun _ s₁' h₁'=>?_) fun _ _ h'=>h'.elim)
  refine W1 (WL h₁' (fun _ s₂ h₂=>W1 (WL h₂ (fun ok s₃ h₃=>?_) fun _ _ h'=>h'.elim)) fun _ _ h'=>h'.elim)
  cases ok with
  | false=>exact W8 ⟨rfl,h₃⟩
  | true =>
   exact W1 (W1 (WL h₃ (fun x s₄ h₄=>W1 (WL h₄ (fun _ s₅ h₅=>W8 (W8 ⟨rfl,h₅⟩)) fun _ _ h'=>h'.elim)) fun _ _ h'=>h'.elim))
theorem z9t
  (h:Q { scope,locals:=s.heap.objs.size,globals,cells:=Qm (s.heap.objs.size + 1) scope.names cl,qual,func:=none,code:=env.code,frame:=env.frame,builtins:=env.builtins }
   { s with heap:=Jy (s.heap.push { cls:=.type "dict",data:=.dict #[] }) scope.names }):W9 M A (newFunctionEnv scope globals cl [] qual none .none (some env)) Q E s:=by
 simp only [newFunctionEnv,Option.isSome_some,if_true]
 refine W1 (wpAny_alloc ?_)
 refine W1 (wpAny_layCells _ (fun name kind cells=>by cases hkc:kind == NameKind.cell <;> simp [hkc]) _ _ _ _ ?_)
 rw [show ({ s with heap:=s.heap.push { cls:=.type "dict",data:=.dict #[] } }:W2).heap.objs.size=s.heap.objs.size + 1 from Ji ..]
 exact W1 (W8 (W8 h))
def PTs (X:Cx) (ifs:List Expr) (t:TT):Prop :=
 ∀ (pins:List (Addr×Obj)) (s:W2) (σ:St) (H:Hp) (Q:Bool→Hp→Prop),Inv X pins σ H s→t σ H Q→W9 (model X.prog X.w) X.A (zdc ifs X.env) (TP X pins σ Q) X.xe s
def tYes:TT:=fun _ H Q=>Q true H
theorem zdQ:PTs X [] tYes:=fun pins s σ H Q I h=>wpAny_tests_nil ⟨H,I,h⟩
theorem zdP (h:PT X c t):PTs X [c] t:=fun pins s σ H Q I q=>wpAny_tests_one (h pins s σ H Q I q)
def Le (σ σ':St):Prop:=σ'.length=σ.length∧∀ (i:Nat) (v:V),σ[i]? = some (some v)→σ'[i]? = some (some v)
def zdd (cs:List Nat) (g:TG) (tt:TT) (te:TE) (σ:St) (Q:VK) (J:It) (H1:Hp):Prop :=
 ∀ l,H1 l=none→∃ W:Nat→Nat→Hp→Prop,(∃ m,W 0 m (upd H1 l (.lst [])))∧∀ i m H2,W i m H2 →
  (J.stop i H2∧Q (.ref l) H2) ∨
  (J.go i H2∧∀ x H3,J.yld i H2 x H3→g x (clr cs σ) H3 fun σ4 H4=>Le (clr cs σ) σ4∧tt σ4 H4 fun b H5 =>
   if b=true then te σ4 H5 fun v H6=>∃ ys m',H6 l=some (.lst ys)∧ys.length < W3∧m' < m∧W (i + 1) m' (upd H6 l (.lst (ys ++ [v]))) else ∃ m',m' < m∧W (i + 1) m' H5)
def zdl (cs:List Nat) (wi:TI) (g:TG) (tt:TT) (te:TE):TE:=fun σ H Q=>wi σ H fun J H1=>zdd cs g tt te σ Q J H1
section
variable {X:Cx} {pins:List (Addr×Obj)} {σ:St} {H:Hp} {s:W2} {scope:Scope} {cs:List Nat} {elt tg iter:Expr} {ifs:List Expr} {pos:Pos} {g:TG} {tt:TT} {te:TE}
theorem z67 {it:Addr} {fp:List Addr} {tn:Nat→Heap→Prop} {J:It} {Q:VK} {E:Value→W2→Prop} {RR:Value→Addr→Result→W2→Prop} (hc:X.calm=true) (I:Inv X pins σ H s) (S:CScope X scope cs)
  (T:Turn X.prog X.w X.K tg J fp it tn) (st:tn 0 s.heap) (hf:∀ b ∈ fp,FpOk X pins H b)
  (hg:∀ s₀ H₀ ex,PG (z1w X scope s₀ H₀ ex) tg g) (ht:∀ s₀ H₀ ex,PTs (z1w X scope s₀ H₀ ex) ifs tt) (he:∀ s₀ H₀ ex,PE (z1w X scope s₀ H₀ ex) elt te) (q:zdd cs g tt te σ Q J H)
  (hRR:∀ l C s' H',Inv X pins σ H' s'→FpOk X pins H' C→(∃ m,s'.heap.Ns C m)→Q (.ref l) H'→RR (.ref l) C (.ok .next) s') :
  W9 (model X.prog X.w) X.A (newList []) (fun acc s₃=>W9 (model X.prog X.w) X.A (newFunctionEnv scope X.env.globals (z1Y X.env.cells scope.names []) [] X.env.qual none .none (some X.env)) (fun cenv s₄ =>
   Qz (model X.prog X.w) X.A (.compStart (.ListComp elt [⟨tg,iter,ifs,0⟩] scope pos) 0 (.ref it) acc { cenv with scope:=relabel scope X.env }) (RR acc cenv.locals) s₄) E s₃) E s:=by
 refine WN ?_
 have hfr:H s.heap.objs.size=none:=I.hok.fresh (Wc _)
 obtain ⟨W,⟨m0,w0⟩,turn⟩:=q s.heap.objs.size hfr
 generalize hl:s.heap.objs.size=l at *
 have I3:Inv X pins σ (upd H l (.lst [])) { s with heap:=s.heap.push { cls:=.type "list",dict:=none,data:=.seq ([]:List Value).toArray } } :=
  I.laid (t':=s.toks) (fun b u e=>W5 _ e) (Nat.le_of_eq hl) ⟨Qb _,[],0,.nil,by rw [← hl]; exact Wq _ rfl⟩
 have kp3:∀ b o,s.heap.get? b=some o→(s.heap.push { cls:=.type "list",dict:=none,data:=.seq ([]:List Value).toArray }).get? b=some o:=fun b o e=>W5 _ e
 have hfl:∀ b ∈ fp,b≠l:=fun b hb e=>by
  obtain ⟨o,ho,_⟩:=T.obj 0 _ st b hb
  exact absurd (Wg ho) (by rw [e,hl]; exact Qs _)
 have hf3:∀ b ∈ fp,FpOk X pins (upd H l (.lst [])) b:=fun b hb=>⟨by rw [z0d (hfl b hb)]; exact (hf b hb).1,(hf b hb).2⟩
 have st3:tn 0 (s.heap.push { cls:=.type "list",dict:=none,data:=.seq ([]:List Value).toArray }):=T.keep 0 _ _ st fun b _ o e=>kp3 b o e
 generalize hs3:({ s with heap:=s.heap.push { cls:=.type "list",dict:=none,data:=.seq ([]:List Value).toArray } }:W2)=s3 at I3
 have st3':tn 0 s3.heap:=by rw [← hs3]; exact st3
 have hlt3:∀ b ∈ fp,b < s3.heap.objs.size:=fun b hb=>by
  obtain ⟨o,ho,_⟩:=T.obj 0 _ st3' b hb
  exact Wg ho
 refine z9t ?_
 have I4:=z9D I3 S hf3 hlt3
 generalize hX:z1w X scope s3 (upd H l (.lst [])) fp=X' at I4
 generalize hs4:({ s3 with heap:=Jy (s3.heap.push { cls:=.type "dict",data:=.dict #[] }) scope.names }:W2)=s4 at I4 ⊢
 have hg':=hg s3 (upd H l (.lst [])) fp
 have ht':=ht s3 (upd H l (.lst [])) fp
 have he':=he s3 (upd H l (.lst [])) fp
 rw [hX] at hg' ht' he'
 have st4:tn 0 s4.heap:=T.keep 0 _ _ st3' fun b _ o e=>by rw [← hs4]; exact pushCells_keeps _ _ b o (W5 _ e)
 have hP:X'.prog=X.prog:=by rw [← hX]; rfl
 have hw:X'.w=X.w:=by rw [← hX]; rfl
 have hA:X'.A=X.A:=by rw [← hX]; rfl
 have hK:X'.K=X.K:=by rw [← hX]; rfl
 have hc':X'.calm=true:=by rw [← hX]; exact hc
 have hxe:X'.xe=NoX:=by rw [← hX]; rfl
 have hloc:X'.env.locals=s3.heap.objs.size:=by rw [← hX]; rfl
 have henv:({ scope:=relabel scope X.env,locals:=s3.heap.objs.size,globals:=X.env.globals,cells:=Qm (s3.heap.objs.size + 1) scope.names (z1Y X.env.cells scope.names []),qual:=X.env.qual,func:=none,code:=X.env.code,frame:=X.env.frame,builtins:=X.env.builtins }:Env)=X'.env:=by rw [← hX]; rfl
 have fpx:∀ {H':Hp},(∀ b ∈ fp,H' b=none)→∀ b ∈ fp,FpOk X' [] H' b:=fun {H'} hn b hb=>by
  have ex:X'.ex=fp:=by rw [← hX]; rfl
  have pn:X'.pn=[]:=by rw [← hX]; rfl
  refine ⟨hn b hb,(I4.ok.exf b (by rw [ex]; exact hb)).1,I4.ok.exfs b (by rw [ex]; exact hb),.inl (by rw [ex]; exact hb),(I4.ok.exf b (by rw [ex]; exact hb)).2,fun p hp=>?_⟩
  rw [pn] at hp
  simp at hp
 show Qz (model X.prog X.w) X.A (.compStart (.ListComp elt [⟨tg,iter,ifs,0⟩] scope pos) 0 (.ref it) (.ref l) ({ scope:=relabel scope X.env,locals:=s3.heap.objs.size,globals:=X.env.globals,cells:=Qm (s3.heap.objs.size + 1) scope.names (z1Y X.env.cells scope.names []),qual:=X.env.qual,func:=none,code:=X.env.code,frame:=X.env.frame,builtins:=X.env.builtins }:Env)) (RR (.ref l) s3.heap.objs.size) s4
 rw [henv]
 have loop:Qz (model X.prog X.w) X.A (.compLoop (.ListComp elt [⟨tg,iter,ifs,0⟩] scope pos) 0 (.ref it) (.ref l) X'.env) (RR (.ref l) s3.heap.objs.size) s4:=by
  refine z7E (fun n s'=>∃ i H',Inv X' [] (clr cs σ) H' s'∧tn i s'.heap∧(∀ b ∈ fp,H' b=none)∧W i n H') ?_ m0 ⟨0,_,I4,st4,fun b hb=>(hf3 b hb).1,w0⟩
  rintro n s5 ⟨i,H5,I5,st5,fr5,w5⟩
  rcases turn i n H5 w5 with ⟨stop,qn⟩ | ⟨go,step⟩
  ·have:=T.done X' hP hw hK hc' i [] s5 (clr cs σ) H5 NoX I5 (fpx fr5) st5 stop
   rw [hA] at this
   refine thn this fun r s6 ⟨hr,I6⟩=>?_
   subst hr
   have b6:=I6.base
   have e1:X'.fs=frs X.stack:=by rw [← hX]; rfl
   have e2:X'.ex=fp:=by rw [← hX]; rfl
   have e3:X'.H₀=upd H l (.lst []):=by rw [← hX]; rfl
   have e4:X'.s₀=s3:=by rw [← hX]; rfl
   rw [e1,e2,e3,e4] at b6
   have o6:s6.os=s3.os:=by rw [← e4]; exact I6.os
   have hok6:HOk X.prog X.w H5 s6.heap:=by rw [← hP,← hw]; exact I6.hok
   have J6:Inv X pins σ H5 s6:=I3.call' o6 b6 hok6 I6.bare fun b hb=>by
    obtain ⟨_,f1,_,f3,f4,f5⟩:=hf3 b hb
    exact ⟨f3,f1,f4,f5⟩
   obtain ⟨m6,n6,_⟩:=I6.loc
   rw [hloc] at n6
   refine hRR l s3.heap.objs.size s6 H5 J6 (I3.fpOk (Wc _) ?_) ⟨m6,n6⟩ qn
   rw [← hloc]
   exact I6.free
  ·have:=T.item X' hP hw hK hc' i [] s5 (clr cs σ) H5 NoX I5 (fpx fr5) st5 go
   rw [hA] at this
   refine thn this fun r s6 ⟨u,hr,h6⟩=>?_
   subst hr
   refine thn h6 fun _ s7 ⟨x,H7,I7,r7,y7,st7,fr7⟩=>?_
   have I7':=I7.pinned (fpx fr7) (T.obj _ _ st7)
   have a8:=hg' _ s7 (clr cs σ) H7 x u _ I7' r7 (step x H7 y7)
   rw [hP,hw,hA,hxe] at a8
   refine thn a8 fun _ s8 ⟨σ8,H8,I8,le8,q8⟩=>?_
   have a9:=ht' _ s8 σ8 H8 _ I8 q8
   rw [hP,hw,hA,hxe] at a9
   refine thn a9 fun ok s9 ⟨H9,I9,q9⟩=>?_
   have back:∀ {H':Hp} {s':W2},Inv X' ([] ++ z5Y fp s7.heap) σ8 H' s'→Inv X' [] (clr cs σ) H' s'∧tn (i + 1) s'.heap∧∀ b ∈ fp,H' b=none:=fun {H' s'} J=>by
    refine ⟨J.unpinned.weak (le8.1.symm) le8.2,T.keep _ _ _ st7 fun b hb o e=>(J.pin (b,o) (Wz _ (Wz _ (z29 hb e)))).1,fun b hb=>?_⟩
    obtain ⟨o,e,d⟩:=T.obj _ _ st7 b hb
    exact (J.pin (b,o) (Wz _ (Wz _ (z29 hb e)))).2.1
   cases ok with
   | false =>
    rw [if_neg WP] at q9 ⊢
    obtain ⟨m',hm,w9⟩:=q9
    obtain ⟨b1,b2,b3⟩:=back I9
    exact ⟨m',hm,i + 1,H9,b1,b2,b3,w9⟩
   | true =>
    rw [if_pos rfl] at q9 ⊢
    have a10:=he' _ s9 σ8 H9 _ I9 q9
    rw [hP,hw,hA,hxe] at a10
    refine thn a10 fun x10 s10 ⟨v,H10,I10,r10,ys,m',hy,hz,hm,w10⟩=>?_
    have a11:=z7h (X:=X') _ s10 σ8 H10 (.ref l) [v] (.ref l) [x10] (fun _ H'=>W (i + 1) m' H') I10 rfl (.cons r10 .nil) ⟨l,ys,v,rfl,rfl,hy,hz,w10⟩
    rw [hP,hw,hA,hxe] at a11
    refine thn a11 fun _ s11 ⟨_,H11,I11,_,w11⟩=>?_
    obtain ⟨b1,b2,b3⟩:=back I11
    exact ⟨m',hm,i + 1,H11,b1,b2,b3,w11⟩
 exact codeAny_compStart_list loop (T.self X.A 0 s4 _ _ st4 loop)
theorem ze3 (hc:X.calm=true) (S:CScope X scope cs) (hi:PI X tg iter wi) (hg:∀ s₀ H₀ ex,PG (z1w X scope s₀ H₀ ex) tg g) (ht:∀ s₀ H₀ ex,PTs (z1w X scope s₀ H₀ ex) ifs tt) (he:∀ s₀ H₀ ex,PE (z1w X scope s₀ H₀ ex) elt te)
  (hs:∀ x,Ql iter X.env x=pure x:=by intro _; rfl):PE X (.ListComp elt [⟨tg,iter,ifs,0⟩] scope pos) (zdl cs wi g tt te):=by
 intro pins s σ H Q I h
 have hasC:∀ x ∈ scope.names,x.2 = .free→∃ c,X.env.cells.lookup x.1=some c:=fun x hx hk=>I.ok.has x.1 (S.free x hx hk)
 rw [eval_ListComp]
 refine wpAny_comprehension_free (use:=none) rfl hs (z6a hasC) S.kind S.names (thn (hi pins s σ H _ I h) fun xv s1 h1=>thn h1 fun itv s2 h2=>?_)
 obtain ⟨it,fp,tn,J,H2,e,I2,T,st2,f2,q2⟩:=h2
 subst e
 refine z67 (RR:=fun acc C=>compPost (model X.prog X.w) X.A X.xe none (EP X pins σ Q) acc C) hc I2 S T st2 f2 hg ht he q2 ?_
 intro l C s' H' I' fC ⟨m,n⟩ q
 exact ⟨m,n,fun h' hs'=>⟨.ref l,H',I'.turned (t':=s'.toks) (fun b o hb e=>(hs'.2 b hb).trans e) fC.1 fC.2.1 fC.2.2.2.1 fC.2.2.2.2.1 fC.2.2.2.2.2,rfl,q⟩⟩
theorem z9o (hc:X.calm=true) (S:CScope X scope cs) (hN:X.N.Nodup) (hi':X.N[i]? = some y) (hy:X.env.scope.names.lookup y=some .local)
  (hi:PI X tg iter wi) (hg:∀ s₀ H₀ ex,PG (z1w X scope s₀ H₀ ex) tg g) (ht:∀ s₀ H₀ ex,PTs (z1w X scope s₀ H₀ ex) ifs tt) (he:∀ s₀ H₀ ex,PE (z1w X scope s₀ H₀ ex) elt te)
  (hsw:QW (.ListComp elt [⟨tg,iter,ifs,0⟩] scope pos) (some (.Name y py)) spos.line X.env=pure true:=by rfl)
  (hs:∀ x,Ql iter X.env x=pure x:=by intro _; rfl):PS X (.Assign [.Name y py] (.ListComp elt [⟨tg,iter,ifs,0⟩] scope pos) spos) (tAsg (zdl cs wi g tt te) (zcy i)):=by
 intro pins s σ H D I h
 have hasC:∀ x ∈ scope.names,x.2 = .free→∃ c,X.env.cells.lookup x.1=some c:=fun x hx hk=>I.ok.has x.1 (S.free x hx hk)
 rw [exec_Assign_Name_used _ _ _ _ hsw]
 refine W1 (wpAny_standAt (W1 ?_))
 show W9 _ X.A (do let _ ← comprehension (.ListComp elt [⟨tg,iter,ifs,0⟩] scope pos) scope X.env _ (newList []) false (eval iter X.env) (some (assign (.Name y py) X.env))) _ _ s
 refine W1 (WL (wpAny_comprehension_free (use:=some (assign (.Name y py) X.env)) (Q:=fun _ s'=>SP X pins D .next s') rfl hs (z6a hasC) S.kind S.names
  (thn (hi pins s σ H _ I h) fun xv s1 h1=>thn h1 fun itv s2 h2=>?_)) (fun _ s' hq=>W8 (W8 hq)) fun _ _ e=>e)
 obtain ⟨it,fp,tn,J,H2,e,I2,T,st2,f2,q2⟩:=h2
 subst e
 refine z67 (RR:=fun acc C=>compPost (model X.prog X.w) X.A X.xe (some (assign (.Name y py) X.env)) (fun _ s'=>SP X pins D .next s') acc C) hc I2 S T st2 f2 hg ht he q2 ?_
 intro l C s' H' I' fC ⟨m,n⟩ q
 show W9 _ X.A (assign (.Name y py) X.env (.ref l)) _ _ _
 refine wpAny_assign_Name (z3M I' hN hi' (.inl hy) (v:=.ref l) rfl (fun s'' I'' ⟨a,hsb,ha⟩=>?_) (.inr hy))
 have hne:C≠a:=by
  rcases ha with rfl | ha
  ·exact fC.2.1
  ·exact fun e=>fC.2.2.2.2.1 y a ha e.symm
 refine ⟨m,n.sameBut hsb hne,fun h' hs'=>⟨_,H',I''.turned (t':=s''.toks) (fun b o hb e=>(hs'.2 b hb).trans e) fC.1 fC.2.1 fC.2.2.2.1 fC.2.2.2.2.1 fC.2.2.2.2.2,q⟩⟩
end
end L2
set_option maxHeartbeats 4000000
namespace DV
open PySem PySem.Spec PyProof.Rows L2
abbrev Tx:=List Nat
def toS (x:Tx):Str:=⟨x.toArray⟩
theorem z7O (x:Tx):(toS x).cps.toList=x:=by simp [toS]
theorem z2b (x:Tx):(toS x).length=x.length:=by simp [toS,Str.length]
theorem z7N (h:toS x=toS y):x=y:=by
 have:=congrArg (fun z:Str=>z.cps.toList) h
 simpa [toS] using this
theorem zeM (z:Str):z=toS z.cps.toList:=by simp [toS]
abbrev DKey:=Sum Int Tx
def kOf:DKey→Key
 | .inl i=>.inl i
 | .inr x=>.inr (toS x)
inductive D where
 | non | bl (b:Bool) | int (i:Int) | str (x:Tx) | tup (xs:List D) | lst (xs:List D) | dct (kvs:List (DKey×D)) | exc (n:Nat)
def excAt (C a:Addr):Heap→Prop:=fun h=>∃ o,h.get? a=some o∧o.cls = .ref C∧∃ vs,o.data = .fields vs
inductive S where
 | pure (d:D)
 | own (d:D)
def S.d:S→D
 | .pure d=>d
 | .own d=>d
abbrev Dl:=List (Option S)
abbrev St:=L2.St
inductive Rep (H:Hp) (O:Addr→Prop):V→D→Prop
 | non:Rep H O .non .non
 | bl (b:Bool):Rep H O (.bl b) (.bl b)
 | int (i:Int):Rep H O (.int i) (.int i)
 | str (x:Tx):Rep H O (.str (toS x)) (.str x)
 | tup {a:Addr} {vs:List V} {ds:List D}:¬ O a→H a=some (.tup vs)→vs.length=ds.length→(∀ (i:Nat) v d,vs[i]? = some v→ds[i]? = some d→Rep H O v d)→Rep H O (.ref a) (.tup ds)
 | lst {a:Addr} {vs:List V} {ds:List D}:¬ O a→Rd H a (.lst vs)→vs.length=ds.length→(∀ (i:Nat) v d,vs[i]? = some v→ds[i]? = some d→Rep H O v d)→Rep H O (.ref a) (.lst ds)
 | dct {a:Addr} {ws:List (Key×V)} {ds:List (DKey×D)}:¬ O a→H a=some (.dK ws)→ws.map (·.1)=ds.map (fun p=>kOf p.1)→(∀ (i:Nat) p q,ws[i]? = some p→ds[i]? = some q→Rep H O p.2 q.2)→Rep H O (.ref a) (.dct ds)
 | exc {a:Addr} {n:Nat}:¬ O a→H a=some (.ext (excAt n a))→Rep H O (.ref a) (.exc n)
abbrev Reps (H:Hp) (O:Addr→Prop) (vs:List V) (ds:List D):Prop:=vs.length=ds.length∧∀ (i:Nat) v d,vs[i]? = some v→ds[i]? = some d→Rep H O v d
def OwnAt (H:Hp) (O:Addr→Prop) (a:Addr):D→Prop
 | .lst ds=>∃ vs,H a=some (.lst vs)∧Reps H O vs ds
 | .dct ds=>∃ ws:List (Key×V),H a=some (.dK ws)∧ws.map (·.1)=ds.map (fun p=>kOf p.1)∧∀ (i:Nat) p q,ws[i]? = some p→ds[i]? = some q→Rep H O p.2 q.2
 | _=>False
section
variable {H H':Hp} {O O':Addr→Prop} {v:V} {d:D} {vs:List V} {ds:List D} {a:Addr}
theorem Rd.keep (h:Rd H a u) (k:∀ o,H a=some o→H' a=some o):Rd H' a u:=by
 rcases h with h | ⟨o,h⟩
 ·exact .inl (k _ h)
 ·exact .inr ⟨o,k _ h⟩
theorem Rd.some (h:Rd H a u):∃ o,H a=some o:=by
 rcases h with h | ⟨o,h⟩
 ·exact ⟨_,h⟩
 ·exact ⟨_,h⟩
theorem Rep.keep (h:Rep H O v d) (k:∀ a o,H a=some o→¬ O a→H' a=some o):Rep H' O v d:=by
 induction h with
 | non=>exact .non
 | bl b=>exact .bl b
 | int i=>exact .int i
 | str x=>exact .str x
 | tup h1 h2 h3 _ ih=>exact .tup h1 (k _ _ h2 h1) h3 ih
 | lst h1 h2 h3 _ ih=>exact .lst h1 (Rd.keep h2 fun o e=>k _ o e h1) h3 ih
 | dct h1 h2 h3 _ ih=>exact .dct h1 (k _ _ h2 h1) h3 ih
 | exc h1 h2=>exact .exc h1 (k _ _ h2 h1)
theorem Rep.anti (h:Rep H O v d) (k:∀ a,O' a→O a∨H a=none):Rep H O' v d:=by
 have no:∀ {a:Addr} {u:HO},¬ O a→Rd H a u→¬ O' a:=fun {a u} h1 h2 z=>by
  rcases k a z with q | q
  ·exact h1 q
  ·obtain ⟨o,e⟩:=Rd.some h2
   rw [q] at e; cases e
 induction h with
 | non=>exact .non
 | bl b=>exact .bl b
 | int i=>exact .int i
 | str x=>exact .str x
 | tup h1 h2 h3 _ ih=>exact .tup (no h1 (.inl h2)) h2 h3 ih
 | lst h1 h2 h3 _ ih=>exact .lst (no h1 h2) h2 h3 ih
 | dct h1 h2 h3 _ ih=>exact .dct (no h1 (.inl h2)) h2 h3 ih
 | exc h1 h2=>exact .exc (no h1 (.inl h2)) h2
theorem Reps.keep (h:Reps H O vs ds) (k:∀ a o,H a=some o→¬ O a→H' a=some o):Reps H' O vs ds:=⟨h.1,fun i v d e1 e2=>(h.2 i v d e1 e2).keep k⟩
theorem Reps.anti (h:Reps H O vs ds) (k:∀ a,O' a→O a∨H a=none):Reps H O' vs ds:=⟨h.1,fun i v d e1 e2=>(h.2 i v d e1 e2).anti k⟩
theorem Reps.nil:Reps H O [] []:=⟨rfl,fun i v d e _=>by simp at e⟩
theorem Reps.cons (h:Rep H O v d) (r:Reps H O vs ds):Reps H O (v :: vs) (d :: ds):=by
 refine ⟨by simp [r.1],fun i v' d' e1 e2=>?_⟩
 cases i with
 | zero=>simp at e1 e2; subst e1; subst e2; exact h
 | succ i=>exact r.2 i v' d' (by simpa using e1) (by simpa using e2)
theorem Reps.head (r:Reps H O (v :: vs) (d :: ds)):Rep H O v d:=r.2 0 v d rfl rfl
theorem Reps.tail (r:Reps H O (v :: vs) (d :: ds)):Reps H O vs ds:=⟨by simpa using r.1,fun i v' d' e1 e2=>r.2 (i + 1) v' d' (by simpa using e1) (by simpa using e2)⟩
theorem Reps.append (h:Reps H O vs ds) (h':Reps H O vs' ds'):Reps H O (vs ++ vs') (ds ++ ds'):=by
 induction vs generalizing ds with
 | nil =>
  cases ds with
  | nil=>exact h'
  | cons d r=>have:=h.1; simp at this
 | cons v r ih =>
  cases ds with
  | nil=>have:=h.1; simp at this
  | cons d q=>exact .cons h.head (ih h.tail)
theorem Reps.get {i:Nat} (h:Reps H O vs ds) (e:ds[i]? = some d):∃ v,vs[i]? = some v∧Rep H O v d:=by
 have hi:i < ds.length:=(Wb.mp e).1
 have hv:i < vs.length:=by rw [h.1]; exact hi
 exact ⟨vs[i],by simp [hv],h.2 i _ d (by simp [hv]) e⟩
theorem Reps.take (n:Nat) (h:Reps H O vs ds):Reps H O (vs.take n) (ds.take n):=by
 refine ⟨by simp [h.1],fun i v d e1 e2=>?_⟩
 by_cases hi:i < n
 ·rw [List.getElem?_take_of_lt hi] at e1 e2
  exact h.2 i v d e1 e2
 ·rw [List.getElem?_take_eq_none (by omega)] at e1; cases e1
theorem Reps.drop (n:Nat) (h:Reps H O vs ds):Reps H O (vs.drop n) (ds.drop n):=by
 refine ⟨by simp [h.1],fun i v d e1 e2=>?_⟩
 rw [List.getElem?_drop] at e1 e2
 exact h.2 (n + i) v d e1 e2
theorem Reps.set (h:Reps H O vs ds) (r:Rep H O v d) (j:Nat):Reps H O (vs.set j v) (ds.set j d):=by
 refine ⟨by simp [h.1],fun i v' d' e1 e2=>?_⟩
 by_cases hi:j=i
 ·subst hi
  rw [WH] at e1 e2
  simp at e1 e2
  obtain ⟨_,rfl⟩:=e1
  obtain ⟨_,rfl⟩:=e2
  exact r
 ·rw [W4 hi] at e1 e2
  exact h.2 i v' d' e1 e2
theorem Reps.reverse (h:Reps H O vs ds):Reps H O vs.reverse ds.reverse:=by
 refine ⟨by simp [h.1],fun i v d e1 e2=>?_⟩
 have hl:=h.1
 have h1:i < vs.length:=by have:=(Wb.mp e1).1; simpa using this
 rw [List.getElem?_reverse (by omega)] at e1
 rw [List.getElem?_reverse (by omega)] at e2
 exact h.2 (vs.length - 1 - i) v d e1 (by rw [hl]; exact e2)
theorem OwnAt.keep (h:OwnAt H O a d) (hk:∀ b o,H b=some o→¬ O b→H' b=some o) (ha:∀ o,H a=some o→H' a=some o):OwnAt H' O a d:=by
 cases d <;> first
  | exact h.elim
  | (obtain ⟨vs,e,r⟩:=h; exact ⟨vs,ha _ e,Reps.keep r hk⟩)
  | (obtain ⟨ws,e,r,q⟩:=h; exact ⟨ws,ha _ e,r,fun i p p' e1 e2=>(q i p p' e1 e2).keep hk⟩)
theorem OwnAt.anti (h:OwnAt H O a d) (k:∀ a,O' a→O a∨H a=none):OwnAt H O' a d:=by
 cases d <;> first
  | exact h.elim
  | (obtain ⟨vs,e,r⟩:=h; exact ⟨vs,e,Reps.anti r k⟩)
  | (obtain ⟨ws,e,r,q⟩:=h; exact ⟨ws,e,r,fun i p p' e1 e2=>(q i p p' e1 e2).anti k⟩)
theorem OwnAt.some (h:OwnAt H O a d):∃ o,H a=some o:=by
 cases d <;> first
  | exact h.elim
  | (obtain ⟨vs,e,r⟩:=h; exact ⟨_,e⟩)
theorem OwnAt.rep (h:OwnAt H O a d) (ho:¬ O a):Rep H O (.ref a) d:=by
 cases d with
 | lst ds=>obtain ⟨vs,e,r⟩:=h; exact .lst ho (.inl e) r.1 r.2
 | dct ds=>obtain ⟨ws,e,r,q⟩:=h; exact .dct ho e r q
 | _=>exact h.elim
end
structure Xc where
 cls:Tx
 flds:List D
structure Fc where
 H₀:Hp
 B:Addr→Prop
 pin:List (Nat×Addr)
 xc:Xc→Dl→Prop:=fun _ _=>False
def Fc.plus (c:Fc) (p:Addr):Fc:={ c with B:=fun a=>c.B a∨a=p }
def Fc.I (c:Fc) (a:Addr):Prop:=∃ i,(i,a) ∈ c.pin
def Own (σ:St) (δ:Dl) (a:Addr):Prop:=∃ (i:Nat) (d:D),δ[i]? = some (some (.own d))∧σ[i]? = some (some (.ref a))
def Av (c:Fc) (σ:St) (δ:Dl) (a:Addr):Prop:=c.B a∨Own σ δ a
structure Ok (c:Fc) (σ:St) (δ:Dl) (H:Hp):Prop where
 keep:∀ a o,c.H₀ a=some o→¬ c.I a→H a=some o
 bd:∀ a,c.B a→∃ o,H a=some o
 ith:∀ a,c.I a→∃ o,H a=some o
 len:δ.length=σ.length
 slot:∀ (i:Nat) d,δ[i]? = some (some (.pure d))→∃ v,σ[i]? = some (some v)∧Rep H (Av c σ δ) v d
 own:∀ (i:Nat) d,δ[i]? = some (some (.own d))→∃ a,σ[i]? = some (some (.ref a))∧OwnAt H (Av c σ δ) a d∧(c.I a∨c.H₀ a=none)∧¬ c.B a
 inj:∀ (i j:Nat) a d d',δ[i]? = some (some (.own d))→δ[j]? = some (some (.own d'))→σ[i]? = some (some (.ref a))→σ[j]? = some (some (.ref a))→i=j
 pinned:∀ p ∈ c.pin,σ[p.1]? = some (some (.ref p.2))
structure Aft (c:Fc) (σ:St) (δ:Dl) (H:Hp) (σ':St) (δ':Dl) (H':Hp):Prop where
 ok:Ok c σ' δ' H'
 keep:∀ a o,H a=some o→¬ Own σ δ a→H' a=some o
 own:∀ a,Own σ' δ' a→Own σ δ a∨H a=none
 there:∀ a o,H a=some o→∃ o',H' a=some o'
section
variable {c:Fc} {σ σ' σ'':St} {δ δ' δ'':Dl} {H H' H'':Hp} {v:V} {d:D} {a p:Addr}
theorem Ok.bthere (k:Ok c σ δ H) (h:c.B a):∃ o,H a=some o:=k.bd a h
theorem Ok.othere (k:Ok c σ δ H) (h:Own σ δ a):∃ o,H a=some o:=by
 obtain ⟨i,d,e1,e2⟩:=h
 obtain ⟨b,e3,q,_⟩:=k.own i d e1
 rw [e2] at e3; cases e3
 exact q.some
theorem Ok.avthere (k:Ok c σ δ H) (h:Av c σ δ a):∃ o,H a=some o:=h.elim k.bthere k.othere
theorem Ok.nav (k:Ok c σ δ H) (h:H a=none):¬ Av c σ δ a:=fun z=>by
 obtain ⟨o,e⟩:=k.avthere z
 rw [h] at e; cases e
theorem Aft.refl (k:Ok c σ δ H):Aft c σ δ H σ δ H:=⟨k,fun _ _ e _=>e,fun _ h=>.inl h,fun _ o e=>⟨o,e⟩⟩
theorem Aft.trans (x:Aft c σ δ H σ' δ' H') (y:Aft c σ' δ' H' σ'' δ'' H''):Aft c σ δ H σ'' δ'' H'':=by
 refine ⟨y.ok,fun a o e n=>?_,fun a h=>?_,fun a o e=>?_⟩
 ·refine y.keep a o (x.keep a o e n) fun z=>?_
  rcases x.own a z with q | q
  ·exact n q
  ·rw [q] at e; cases e
 ·rcases y.own a h with q | q
  ·exact x.own a q
  ·right
   cases e:H a with
   | none=>rfl
   | some o =>
    obtain ⟨o',e'⟩:=x.there a o e
    rw [q] at e'; cases e'
 ·obtain ⟨o',e'⟩:=x.there a o e
  exact y.there a o' e'
theorem Aft.av (x:Aft c σ δ H σ' δ' H'):∀ a,Av c σ' δ' a→Av c σ δ a∨H a=none:=fun a h=>by
 rcases h with h | h
 ·exact .inl (.inl h)
 ·rcases x.own a h with q | q
  ·exact .inl (.inr q)
  ·exact .inr q
theorem Rep.aft (h:Rep H (Av c σ δ) v d) (x:Aft c σ δ H σ' δ' H'):Rep H' (Av c σ' δ') v d:=by
 have h1:Rep H (fun a=>Av c σ δ a∨Av c σ' δ' a) v d:=Rep.anti h fun a z=>z.elim .inl (x.av a)
 exact (h1.keep fun a o e n=>x.keep a o e fun z=>n (.inl (.inr z))).anti fun a z=>.inl (.inr z)
theorem Reps.aft (h:Reps H (Av c σ δ) vs ds) (x:Aft c σ δ H σ' δ' H'):Reps H' (Av c σ' δ') vs ds:=⟨h.1,fun i v d e1 e2=>Rep.aft (h.2 i v d e1 e2) x⟩
def RepS (c:Fc) (σ:St) (δ:Dl) (Hs H:Hp) (v:V):S→Prop
 | .pure d=>Rep H (Av c σ δ) v d
 | .own d=>∃ a,v = .ref a∧OwnAt H (Av (c.plus a) σ δ) a d∧¬ c.B a∧c.H₀ a=none∧Ok (c.plus a) σ δ H∧Hs a=none
theorem z3U (k:Ok (c.plus a) σ δ H):¬ Own σ δ a:=fun ⟨i,d,e1,e2⟩=>by
 obtain ⟨b,e3,_,_,n⟩:=k.own i d e1
 rw [e2] at e3; cases e3
 exact n (.inr rfl)
theorem RepS.rep (h:RepS c σ δ Hs H v r):Rep H (Av c σ δ) v r.d:=by
 cases r with
 | pure d=>exact h
 | own d =>
  obtain ⟨a,rfl,o,n,f,k,_⟩:=h
  refine (o.anti fun b z=>.inl ?_).rep fun z=>z.elim n (z3U k)
  exact z.elim (fun z=>.inl (.inl z)) .inr
theorem RepS.back (h:RepS c σ δ Hs H v r) (x:Aft c σ₀ δ₀ H' σ' δ' Hs):RepS c σ δ H' H v r:=by
 cases r with
 | pure d=>exact h
 | own d =>
  obtain ⟨a,e,o,n,f,k,hs⟩:=h
  refine ⟨a,e,o,n,f,k,?_⟩
  cases q:H' a with
  | none=>rfl
  | some o =>
   obtain ⟨o',e'⟩:=x.there a o q
   rw [hs] at e'; cases e'
theorem RepS.home (h:RepS c σ δ Hs H v r):RepS c σ δ c.H₀ H v r:=by
 cases r with
 | pure d=>exact h
 | own d =>
  obtain ⟨a,e,o,n,f,k,hs⟩:=h
  exact ⟨a,e,o,n,f,k,f⟩
theorem Ok.alloc (k:Ok c σ δ H) (hp:H p=none) (o:HO):Ok c σ δ (upd H p o):=by
 have up:∀ a w,H a=some w→upd H p o a=some w:=fun a w e=>by
  rw [z0d (z0J e hp)]; exact e
 refine ⟨fun a w e n=>up a w (k.keep a w e n),fun a z=>(k.bd a z).elim fun w e=>⟨w,up a w e⟩,fun a z=>(k.ith a z).elim fun w e=>⟨w,up a w e⟩,k.len,fun i d e=>?_,fun i d e=>?_,k.inj,k.pinned⟩
 ·obtain ⟨v,e1,r⟩:=k.slot i d e
  exact ⟨v,e1,r.keep fun a w q _=>up a w q⟩
 ·obtain ⟨a,e1,r,q⟩:=k.own i d e
  exact ⟨a,e1,r.keep (fun b w q _=>up b w q) fun w q=>up a w q,q⟩
theorem Aft.alloc (k:Ok c σ δ H) (hp:H p=none) (o:HO):Aft c σ δ H σ δ (upd H p o):=by
 have up:∀ a w,H a=some w→upd H p o a=some w:=fun a w e=>by
  rw [z0d (z0J e hp)]; exact e
 exact ⟨k.alloc hp o,fun a w e _=>up a w e,fun a h=>.inl h,fun a w e=>⟨w,up a w e⟩⟩
theorem Ok.fresh₀ (k:Ok c σ δ H) (hp:H p=none):c.H₀ p=none:=by
 cases e:c.H₀ p with
 | none=>rfl
 | some o =>
  by_cases q:c.I p
  ·obtain ⟨w,e'⟩:=k.ith p q
   rw [hp] at e'; cases e'
  ·have:=k.keep p o e q
   rw [hp] at this; cases this
theorem Ok.plus (k:Ok c σ δ H) (hp:H p=none) (o:HO):Ok (c.plus p) σ δ (upd H p o):=by
 have k':=k.alloc hp o
 have sub:∀ b,Av (c.plus p) σ δ b→Av c σ δ b∨b=p:=fun b z=>by
  rcases z with (z | z) | z
  ·exact .inl (.inl z)
  ·exact .inr z
  ·exact .inl (.inr z)
 have sub2:∀ b,Av (c.plus p) σ δ b→Av c σ δ b∨H b=none:=fun b z=>(sub b z).elim .inl fun e=>.inr (by rw [e]; exact hp)
 have up:∀ a w,H a=some w→upd H p o a=some w:=fun a w e=>by
  rw [z0d (z0J e hp)]; exact e
 refine ⟨k'.keep,fun a z=>?_,k'.ith,k.len,fun i d e=>?_,fun i d e=>?_,k.inj,k.pinned⟩
 ·rcases z with z | z
  ·exact k'.bd a z
  ·exact ⟨o,by rw [z]; exact z0p⟩
 ·obtain ⟨v,e1,r⟩:=k.slot i d e
  exact ⟨v,e1,(r.anti sub2).keep fun a w q _=>up a w q⟩
 ·obtain ⟨a,e1,r,q,nb⟩:=k.own i d e
  refine ⟨a,e1,(r.anti sub2).keep (fun b w q _=>up b w q) (fun w q=>up a w q),q,fun z=>?_⟩
  rcases z with z | z
  ·exact nb z
  ·obtain ⟨w,ew⟩:=r.some
   rw [z,hp] at ew; cases ew
theorem RepS.newL (k:Ok c σ δ H) (r:Reps H (Av c σ δ) vs ds) (hp:H p=none):RepS c σ δ H (upd H p (.lst vs)) (.ref p) (.own (.lst ds)):=by
 have up:∀ a w,H a=some w→upd H p (.lst vs) a=some w:=fun a w e=>by
  rw [z0d (z0J e hp)]; exact e
 refine ⟨p,rfl,⟨vs,z0p,?_⟩,fun z=>k.nav hp (.inl z),k.fresh₀ hp,k.plus hp _,hp⟩
 have r1:Reps H (Av (c.plus p) σ δ) vs ds:=Reps.anti r fun b z=>by
  rcases z with (z | z) | z
  ·exact .inl (.inl z)
  ·exact .inr (by rw [z]; exact hp)
  ·exact .inl (.inr z)
 exact Reps.keep r1 fun b w e _=>up b w e
theorem RepS.newT (k:Ok c σ δ H) (r:Reps H (Av c σ δ) vs ds) (hp:H p=none):RepS c σ δ H (upd H p (.tup vs)) (.ref p) (.pure (.tup ds)):=by
 have up:∀ a w,H a=some w→upd H p (.tup vs) a=some w:=fun a w e=>by
  rw [z0d (z0J e hp)]; exact e
 have r1:=Reps.keep r (H':=upd H p (.tup vs)) fun b w e _=>up b w e
 exact .tup (k.nav hp) z0p r1.1 r1.2
end
inductive Rs (α:Type) where
 | ok (a:α) (δ:Dl)
 | exc (x:Xc) (δ:Dl)
 | stuck
def Rs.bind {α β:Type} (r:Rs α) (f:α→Dl→Rs β):Rs β:=match r with
 | .ok a δ=>f a δ
 | .exc x δ=>.exc x δ
 | .stuck=>.stuck
abbrev DE:=Dl→Rs S
def XC (c:Fc) (x:Xc) (δ:Dl):Prop:=c.xc x δ
def post {α:Type} (c:Fc) (r:Rs α) (k:α→Dl→Prop):Prop:=match r with
 | .ok a δ=>k a δ
 | .exc x δ=>XC c x δ
 | .stuck=>False
theorem z03:post c (r.bind f) k ↔ post c r fun a δ=>post c (f a δ) k:=by
 cases r <;> exact Iff.rfl
theorem z01 (h:post c r k) (m:∀ a δ,k a δ→k' a δ):post c r k':=by
 cases r with
 | ok a δ=>exact m a δ h
 | exc x δ=>exact h
 | stuck=>exact h
def tD (c:Fc) (f:DE):TE:=fun σ H Q=>∃ δ,Ok c σ δ H∧post c (f δ) fun r δ'=>∀ v H',Aft c σ δ H σ δ' H'→RepS c σ δ' H H' v r→Q v H'
abbrev SE (X:Cx) (c:Fc) (e:Expr) (f:DE):Prop:=PE X e (tD c f)
def RepB (c:Fc) (σ:St) (δ:Dl) (H:Hp) (v:V) (d:D):Prop:=Rep H (Av c σ δ) v d∨∃ a,v = .ref a∧OwnAt H (Av c σ δ) a d
abbrev BE:=Dl→Rs D
def tB (c:Fc) (f:BE):TE:=fun σ H Q=>∃ δ,Ok c σ δ H∧post c (f δ) fun d δ'=>∀ v H',Aft c σ δ H σ δ' H'→RepB c σ δ' H' v d→Q v H'
abbrev SB (X:Cx) (c:Fc) (e:Expr) (f:BE):Prop:=PE X e (tB c f)
theorem PE.weak (h:PE X e t) (w:∀ σ H Q,t' σ H Q→t σ H Q):PE X e t':=fun pins s σ H Q I q=>h pins s σ H Q I (w σ H Q q)
def bOf (f:DE):BE:=fun δ=>(f δ).bind fun r δ'=>.ok r.d δ'
theorem RepS.b (h:RepS c σ δ Hs H v r):RepB c σ δ H v r.d:=.inl h.rep
theorem z09 {X:Cx} {c:Fc} {e:Expr} {f:DE} (h:SE X c e f):SB X c e (bOf f):=PE.weak h fun σ H Q ⟨δ,k,p⟩=>⟨δ,k,by
 unfold bOf at p
 rw [z03] at p
 exact z01 p fun r δ' q v H' a s=>q v H' a s.b⟩
def bVar (i:Nat):BE:=fun δ=>match δ[i]? with
 | some (some r)=>.ok r.d δ
 | _=>.stuck
def eVar (i:Nat):DE:=fun δ=>match δ[i]? with
 | some (some (.pure d))=>.ok (.pure d) δ
 | some (some (.own d))=>.ok (.pure d) (δ.set i (some (.pure d)))
 | _=>.stuck
def eD (d:D):DE:=fun δ=>.ok (.pure d) δ
section
variable {X:Cx} {c:Fc}
theorem z0e {i:Nat} {e:Expr} (h:PE X e (tVar i)):SB X c e (bVar i):=PE.weak h fun σ H Q ⟨δ,k,p⟩=>by
 unfold bVar at p
 cases e:δ[i]? with
 | none=>rw [e] at p; exact p.elim
 | some o =>
  cases o with
  | none=>rw [e] at p; exact p.elim
  | some r =>
   rw [e] at p
   cases r with
   | pure d =>
    obtain ⟨v,e1,r⟩:=k.slot i d e
    exact ⟨v,e1,p v H (.refl k) (.inl r)⟩
   | own d =>
    obtain ⟨a,e1,r,_⟩:=k.own i d e
    exact ⟨.ref a,e1,p _ H (.refl k) (.inr ⟨a,rfl,r⟩)⟩
theorem Own.sub (h:Own σ (δ.set i (some (.pure d))) a):Own σ δ a:=by
 obtain ⟨j,d',e1,e2⟩:=h
 by_cases hj:i=j
 ·subst hj
  rw [WH] at e1
  simp at e1
 ·rw [W4 hj] at e1
  exact ⟨j,d',e1,e2⟩
theorem Ok.give (k:Ok c σ δ H) (e:δ[i]? = some (some (.own d))) :
  ∃ a,σ[i]? = some (some (.ref a))∧Aft c σ δ H σ (δ.set i (some (.pure d))) H∧Rep H (Av c σ (δ.set i (some (.pure d)))) (.ref a) d:=by
 obtain ⟨a,e1,r,q,nb⟩:=k.own i d e
 have hi:i < δ.length:=(Wb.mp e).1
 have sub:∀ b,Av c σ (δ.set i (some (.pure d))) b→Av c σ δ b:=fun b z=>z.elim .inl fun z=>.inr z.sub
 have na:¬ Av c σ (δ.set i (some (.pure d))) a:=by
  rintro (z | ⟨j,d',f1,f2⟩)
  ·exact nb z
  ·by_cases hj:i=j
   ·subst hj
    rw [WH] at f1
    simp at f1
   ·rw [W4 hj] at f1
    exact hj (k.inj i j a d d' e f1 e1 f2)
 have rep:Rep H (Av c σ (δ.set i (some (.pure d)))) (.ref a) d:=(r.anti fun b z=>.inl (sub b z)).rep na
 refine ⟨a,e1,⟨⟨k.keep,k.bd,k.ith,by rw [Qo]; exact k.len,fun j d' f=>?_,fun j d' f=>?_,fun j l b d1 d2 f1 f2=>?_,k.pinned⟩,fun _ _ w _=>w,fun b z=>.inl z.sub,fun _ o w=>⟨o,w⟩⟩,rep⟩
 ·by_cases hj:i=j
  ·subst hj
   rw [Wl hi] at f
   cases f
   exact ⟨.ref a,e1,rep⟩
  ·rw [W4 hj] at f
   obtain ⟨v,g1,g2⟩:=k.slot j d' f
   exact ⟨v,g1,g2.anti fun b z=>.inl (sub b z)⟩
 ·by_cases hj:i=j
  ·subst hj
   rw [Wl hi] at f
   cases f
  ·rw [W4 hj] at f
   obtain ⟨b,g1,g2,g3⟩:=k.own j d' f
   exact ⟨b,g1,g2.anti fun b z=>.inl (sub b z),g3⟩
 ·have h1:δ[j]? = some (some (.own d1)):=by
   by_cases hj:i=j
   ·subst hj; rw [Wl hi] at f1; cases f1
   ·rw [W4 hj] at f1; exact f1
  have h2:δ[l]? = some (some (.own d2)):=by
   by_cases hj:i=l
   ·subst hj; rw [Wl hi] at f2; cases f2
   ·rw [W4 hj] at f2; exact f2
  exact k.inj j l b d1 d2 h1 h2
theorem z02 {i:Nat} {e:Expr} (h:PE X e (tVar i)):SE X c e (eVar i):=PE.weak h fun σ H Q ⟨δ,k,p⟩=>by
 unfold eVar at p
 cases e:δ[i]? with
 | none=>rw [e] at p; exact p.elim
 | some o =>
  cases o with
  | none=>rw [e] at p; exact p.elim
  | some r =>
   rw [e] at p
   cases r with
   | pure d =>
    obtain ⟨v,e1,r⟩:=k.slot i d e
    exact ⟨v,e1,p v H (.refl k) r⟩
   | own d =>
    obtain ⟨a,e1,x,r⟩:=k.give e
    exact ⟨.ref a,e1,p _ H x r⟩
theorem z06 {i j pos}:SE X c (.Constant (.int i) j pos) (eD (.int i)):=PE.weak zd1 fun σ H Q ⟨δ,k,p⟩=>p _ H (.refl k) (.int i)
theorem z4Y {b j pos}:SE X c (.Constant (.bool b) j pos) (eD (.bl b)):=PE.weak ze5 fun σ H Q ⟨δ,k,p⟩=>p _ H (.refl k) (.bl b)
theorem z3O {j pos}:SE X c (.Constant .none j pos) (eD .non):=PE.weak zft fun σ H Q ⟨δ,k,p⟩=>p _ H (.refl k) .non
theorem z2U {x j pos} (y:Tx) (h:x=toS y:=by decide +kernel):SE X c (.Constant (.str x) j pos) (eD (.str y)):=by
 subst h
 exact PE.weak zd0 fun σ H Q ⟨δ,k,p⟩=>p _ H (.refl k) (.str y)
theorem z9i (hg:Gl X x) (hm:X.mg x=some (.int i t)) (hd:(x == ("__debug__" : Str))=false:=by decide):SE X c (.Name x pos) (eD (.int i)) :=
 PE.weak (ze1 (v:=.int i) hg hm ⟨t,rfl⟩ hd) fun σ H Q ⟨δ,k,p⟩=>p _ H (.refl k) (.int i)
end
open PySem PySem.Spec PyProof.Rows L2 PySem.SeqAt
mutual
def eqD:D→D→Bool
 | .non,.non=>true
 | .bl a,.bl b=>a == b
 | .int a,.int b=>a == b
 | .bl a,.int b=>(if a then 1 else 0) == b
 | .int a,.bl b=>a == (if b then 1 else 0)
 | .str a,.str b=>a == b
 | .tup xs,.tup ys=>eqDs xs ys
 | .lst xs,.lst ys=>eqDs xs ys
 | _,_=>false
def eqDs:List D→List D→Bool
 | [],[]=>true
 | x :: xs,y :: ys=>eqD x y && eqDs xs ys
 | _,_=>false
end
mutual
def flat:Nat→D→Bool
 | _,.non=>true
 | _,.bl _=>true
 | _,.int _=>true
 | _,.str _=>true
 | 0,.tup _=>false
 | n + 1,.tup xs=>z5L n xs
 | 0,.lst _=>false
 | n + 1,.lst xs=>z5L n xs
 | _,.dct _=>false
 | _,.exc _=>false
def z5L:Nat→List D→Bool
 | _,[]=>true
 | n,x :: xs=>flat n x && z5L n xs
end
example:eqD (.tup [.int 1,.str [2]]) (.tup [.int 1,.str [2]])=true:=by decide +kernel
theorem z2k:∀ {xs:List D} {x:D},z5L n xs=true→x ∈ xs→flat n x=true
 | [],_,_,h=>by simp at h
 | y :: ys,x,h,hm=>by
  simp only [z5L,Wi] at h
  rcases Wf.mp hm with e | hm
  ·rw [e]; exact h.1
  ·exact z2k h.2 hm
theorem z4S:∀ {xs ys:List D} {f:Nat→Bool},xs.length=ys.length→(∀ (j:Nat) x y,xs[j]? = some x→ys[j]? = some y→f j=eqD x y)→(Wa xs.length).all f=eqDs xs ys
 | [],[],f,_,_=>rfl
 | [],y :: ys,f,h,_=>by simp at h
 | x :: xs,[],f,h,_=>by simp at h
 | x :: xs,y :: ys,f,h,hf=>by
  simp only [eqDs]
  rw [WM,List.range_succ_eq_map,List.all_cons,hf 0 x y rfl rfl,List.all_map]
  rw [← z4S (f:=fun j=>f (j + 1)) (by simpa using h) (fun j a b e1 e2=>hf (j + 1) a b (by simpa using e1) (by simpa using e2))]
  rfl
theorem z4R:∀ {xs ys:List D},xs.length≠ys.length→eqDs xs ys=false
 | [],[],h=>absurd rfl h
 | [],y :: ys,_=>rfl
 | x :: xs,[],_=>rfl
 | x :: xs,y :: ys,h=>by
  simp only [eqDs]
  rw [z4R (xs:=xs) (ys:=ys) (by intro e; exact h (by simp [e]))]
  simp
mutual
theorem z6G:∀ {n:Nat} {d:D},flat n d=true→eqD d d=true
 | _,.non,_=>rfl
 | _,.bl b,_=>by simp [eqD]
 | _,.int i,_=>by simp [eqD]
 | _,.str x,_=>by simp [eqD]
 | 0,.tup xs,h=>by simp [flat] at h
 | n + 1,.tup xs,h=>by simp only [eqD]; exact z5r (n:=n) (by simpa [flat] using h)
 | 0,.lst xs,h=>by simp [flat] at h
 | n + 1,.lst xs,h=>by simp only [eqD]; exact z5r (n:=n) (by simpa [flat] using h)
 | _,.dct xs,h=>by simp [flat] at h
 | _,.exc n,h=>by simp [flat] at h
theorem z5r:∀ {n:Nat} {ds:List D},z5L n ds=true→eqDs ds ds=true
 | _,[],_=>rfl
 | n,x :: xs,h=>by
  simp only [z5L,Wi] at h
  simp only [eqDs]
  rw [z6G h.1,z5r h.2]
  rfl
end
abbrev NoO:Addr→Prop:=fun _=>False
theorem Rep.un (h:Rep H O v d):Rep H NoO v d:=Rep.anti h fun _ z=>z.elim
theorem RepB.un (h:RepB c σ δ H v d):Rep H NoO v d:=by
 rcases h with h | ⟨a,rfl,o⟩
 ·exact Rep.un h
 ·exact (o.anti (O':=NoO) fun _ z=>z.elim).rep fun z=>z
section
variable {X:Cx} {pins:List (Addr×Obj)} {σ:St} {H:Hp} {s:W2}
theorem Inv.rdL (I:Inv X pins σ H s) (h:Rd H a (.lst vs)):∃ its:List Value,Vals vs its∧s.heap.IsList a its.toArray:=by
 obtain ⟨its,r,p,_⟩:=I.list (.inl h)
 exact ⟨its,r,p.isList⟩
theorem Inv.rdT (I:Inv X pins σ H s) (h:H a=some (.tup vs)):∃ its:List Value,Vals vs its∧s.heap.IsTuple a its.toArray:=by
 obtain ⟨its,r,p,_⟩:=I.tuple (.of h)
 exact ⟨its,r,p⟩
theorem z7P (x y:Tx):((toS x:Str) == toS y)=(x == y):=by
 rw [Bool.eq_iff_iff]
 simp only [beq_iff_eq]
 exact ⟨z7N,fun e=>by rw [e]⟩
theorem zaY (A:Wo):A.in1.units=A.units + 1:=rfl
theorem Rd.inj (h:Rd H a u) (k:Rd H a w) (hu:∀ o z,u≠.frz o z) (hw:∀ o z,w≠.frz o z):u=w:=by
 rcases h with h | ⟨o,h⟩ <;> rcases k with k | ⟨o',k⟩
 ·rw [h] at k; exact Wt k
 ·rw [h] at k; exact absurd (Wt k) (hu _ _)
 ·rw [h] at k; exact absurd (Wt k).symm (hw _ _)
 ·rw [h] at k
  have:=Wt k
  injection this
theorem Reps.inj {vs:List V}:∀ {ds es:List D},vs.length=ds.length→vs.length=es.length→(∀ (i:Nat) v d e,vs[i]? = some v→ds[i]? = some d→es[i]? = some e→d=e)→ds=es:=by
 intro ds es h1 h2 h
 apply List.ext_getElem?
 intro i
 by_cases hi:i < vs.length
 ·have a1:i < ds.length:=by omega
  have a2:i < es.length:=by omega
  rw [Ww a1,Ww a2]
  rw [h i vs[i] ds[i] es[i] (by simp [hi]) (by simp [a1]) (by simp [a2])]
 ·rw [WS (by omega),WS (by omega)]
theorem Rep.inj {O:Addr→Prop} {v:V} {d:D} (h:Rep H O v d):∀ {n:Nat} {e:D},flat n d=true→flat n e=true→Rep H O v e→d=e:=by
 induction h with
 | non=>intro n e _ _ k; cases k; rfl
 | bl b=>intro n e _ _ k; cases k; rfl
 | int i=>intro n e _ _ k; cases k; rfl
 | str x =>
  intro n e _ _ k
  generalize hz:V.str (toS x)=z at k
  cases k with
  | str y=>injection hz with hz; rw [z7N hz]
  | _=>cases hz
 | @tup a vs ds h1 h2 h3 h4 ih =>
  intro n e fd fe k
  cases n with
  | zero=>simp [flat] at fd
  | succ n =>
   simp only [flat] at fd
   cases k with
   | @tup _ ws es k1 k2 k3 k4 =>
    simp only [flat] at fe
    have e1:=Rd.inj (.inl h2) (.inl k2) (fun _ _ z=>by cases z) (fun _ _ z=>by cases z)
    injection e1 with e1
    subst e1
    rw [Reps.inj h3 k3 fun i v d e q1 q2 q3=>ih i v d q1 q2 (z2k fd (Wv q2)) (z2k fe (Wv q3)) (k4 i v e q1 q3)]
   | lst k1 k2=>exact absurd (Rd.inj (.inl h2) k2 (fun _ _ z=>by cases z) (fun _ _ z=>by cases z)) (fun z=>by cases z)
   | dct k1 k2=>exact absurd (Rd.inj (.inl h2) (.inl k2) (fun _ _ z=>by cases z) (fun _ _ z=>by cases z)) (fun z=>by cases z)
   | exc k1 k2=>simp [flat] at fe
 | @lst a vs ds h1 h2 h3 h4 ih =>
  intro n e fd fe k
  cases n with
  | zero=>simp [flat] at fd
  | succ n =>
   simp only [flat] at fd
   cases k with
   | @lst _ ws es k1 k2 k3 k4 =>
    simp only [flat] at fe
    have e1:=Rd.inj h2 k2 (fun _ _ z=>by cases z) (fun _ _ z=>by cases z)
    injection e1 with e1
    subst e1
    rw [Reps.inj h3 k3 fun i v d e q1 q2 q3=>ih i v d q1 q2 (z2k fd (Wv q2)) (z2k fe (Wv q3)) (k4 i v e q1 q3)]
   | tup k1 k2=>exact absurd (Rd.inj h2 (.inl k2) (fun _ _ z=>by cases z) (fun _ _ z=>by cases z)) (fun z=>by cases z)
   | dct k1 k2=>exact absurd (Rd.inj h2 (.inl k2) (fun _ _ z=>by cases z) (fun _ _ z=>by cases z)) (fun z=>by cases z)
   | exc k1 k2=>simp [flat] at fe
 | dct h1 h2 h3 h4 ih =>
  intro n e fd _ _
  cases n <;> simp [flat] at fd
 | exc h1 h2 =>
  intro n e fd _ _
  cases n <;> simp [flat] at fd
def EqIt (H:Hp) (s:W2) (n:Nat):Prop:=∀ (A:Wo) (x y:V) (u w:Value) (d e:D),A.units + n + 1 < WX→flat n d=true→flat n e=true→Rep H NoO x d→Rep H NoO y e→RelV x u→RelV y w→EqAt A s u w (eqD d e)
def z8w (H:Hp) (s:W2) (A:Wo) (n:Nat):Prop:=match n with
 | 0=>True
 | m + 1=>A.units + m + 2 < WX∧EqIt H s m
def itE (ds es:List D) (j:Nat):Bool:=match ds[j]?,es[j]? with
 | some p,some q=>eqD p q
 | _,_=>false
theorem z8R (j:Nat) (p q:D) (e1:ds[j]? = some p) (e2:es[j]? = some q):itE ds es j=eqD p q:=by unfold itE; rw [e1,e2]
theorem z4Q {n:Nat} {A:Wo} {vs ws:List V} {ds es:List D} {its jts:List Value} (hu:A.units + n + 2 < WX) (ih:EqIt H s n) (r1:Vals vs its) (r2:Vals ws jts) (l1:vs.length=ds.length) (l2:ws.length=es.length)
  (g1:∀ (i:Nat) v d,vs[i]? = some v→ds[i]? = some d→Rep H NoO v d) (g2:∀ (i:Nat) v d,ws[i]? = some v→es[i]? = some d→Rep H NoO v d) (f1:z5L n ds=true) (f2:z5L n es=true) :
  ∀ j (h1:j < its.toArray.size) (h2:j < jts.toArray.size),EqAt A.in1 s its.toArray[j] jts.toArray[j] (itE ds es j):=by
 intro j h1 h2
 have e1:=r1.length
 have e2:=r2.length
 simp at h1 h2
 have hd:j < ds.length:=by omega
 have he:j < es.length:=by omega
 have hv:j < vs.length:=by omega
 have hw:j < ws.length:=by omega
 obtain ⟨u',hu',ru'⟩:=r1.get (i:=j) (x:=vs[j]) (by simp [hv])
 obtain ⟨w',hw',rw''⟩:=r2.get (i:=j) (x:=ws[j]) (by simp [hw])
 have eu:its.toArray[j]=u':=by simpa [h1] using hu'
 have ew:jts.toArray[j]=w':=by simpa [h2] using hw'
 rw [eu,ew,z8R j ds[j] es[j] (by simp [hd]) (by simp [he])]
 exact ih A.in1 vs[j] ws[j] u' w' ds[j] es[j] (by rw [zaY]; omega) (z2k f1 (QC hd)) (z2k f2 (QC he)) (g1 j _ _ (by simp [hv]) (by simp [hd])) (g2 j _ _ (by simp [hw]) (by simp [he])) ru' rw''
theorem zbv (h1:n=ds.length) (h2:m=es.length):((Wa (min n m)).all (itE ds es) && n == m)=eqDs ds es:=by
 subst h1 h2
 by_cases hl:ds.length=es.length
 ·rw [← hl,Nat.min_self,z4S hl z8R]
  simp
 ·rw [z4R hl]
  simp [hl]
theorem rcT (I:Inv X pins σ H s) (n:Nat) (A:Wo) (hu0:A.units < WX) (t1:s.heap.IsTuple a its.toArray) (t2:s.heap.IsTuple b jts.toArray) (r1:Vals vs its) (r2:Vals ws jts) (l1:vs.length=ds.length) (l2:ws.length=es.length)
  (g1:∀ (i:Nat) v d,vs[i]? = some v→ds[i]? = some d→Rep H NoO v d) (g2:∀ (i:Nat) v d,ws[i]? = some v→es[i]? = some d→Rep H NoO v d) (f1:flat n (.tup ds)=true) (f2:flat n (.tup es)=true) (ih:z8w H s A n) :
  RcAt A s (.ref a) (.ref b) (eqDs ds es):=by
 cases n with
 | zero=>simp [flat] at f1
 | succ n =>
  simp only [flat] at f1 f2
  obtain ⟨hu,ih⟩:=ih
  have q:=RcAt.tuples (A:=A) (s:=s) t1 t2 hu0 (z4Q hu ih r1 r2 l1 l2 g1 g2 f1 f2)
  rw [zbv (by have:=r1.length; simp; omega) (by have:=r2.length; simp; omega)] at q
  exact q
theorem rnT (I:Inv X pins σ H s) (n:Nat) (A:Wo) (hu0:A.units < WX) (t1:s.heap.IsTuple a its.toArray) (t2:s.heap.IsTuple b jts.toArray) (r1:Vals vs its) (r2:Vals ws jts) (l1:vs.length=ds.length) (l2:ws.length=es.length)
  (g1:∀ (i:Nat) v d,vs[i]? = some v→ds[i]? = some d→Rep H NoO v d) (g2:∀ (i:Nat) v d,ws[i]? = some v→es[i]? = some d→Rep H NoO v d) (f1:flat n (.tup ds)=true) (f2:flat n (.tup es)=true) (ih:z8w H s A n) :
  RcNeAt A s (.ref a) (.ref b) (!eqDs ds es):=by
 cases n with
 | zero=>simp [flat] at f1
 | succ n =>
  simp only [flat] at f1 f2
  obtain ⟨hu,ih⟩:=ih
  have q:=RcNeAt.tuples (A:=A) (s:=s) t1 t2 hu0 (z4Q hu ih r1 r2 l1 l2 g1 g2 f1 f2)
  rw [zbv (by have:=r1.length; simp; omega) (by have:=r2.length; simp; omega)] at q
  exact q
theorem rcL (I:Inv X pins σ H s) (n:Nat) (A:Wo) (hu0:A.units < WX) (t1:s.heap.IsList a its.toArray) (t2:s.heap.IsList b jts.toArray) (r1:Vals vs its) (r2:Vals ws jts) (l1:vs.length=ds.length) (l2:ws.length=es.length)
  (g1:∀ (i:Nat) v d,vs[i]? = some v→ds[i]? = some d→Rep H NoO v d) (g2:∀ (i:Nat) v d,ws[i]? = some v→es[i]? = some d→Rep H NoO v d) (f1:flat n (.lst ds)=true) (f2:flat n (.lst es)=true) (ih:z8w H s A n) :
  RcAt A s (.ref a) (.ref b) (eqDs ds es):=by
 cases n with
 | zero=>simp [flat] at f1
 | succ n =>
  simp only [flat] at f1 f2
  obtain ⟨hu,ih⟩:=ih
  have z1:its.toArray.size=ds.length:=by have:=r1.length; simp; omega
  have z2:jts.toArray.size=es.length:=by have:=r2.length; simp; omega
  by_cases hl:ds.length=es.length
  ·have q:=RcAt.lists (A:=A) (s:=s) t1 t2 (by rw [z1,z2]; exact hl) hu0 (z4Q hu ih r1 r2 l1 l2 g1 g2 f1 f2)
   rw [z1,z4S hl z8R] at q
   exact q
  ·rw [z4R hl]
   exact RcAt.lists_lengths (A:=A) (s:=s) t1 t2 (by rw [z1,z2]; simpa using hl) hu0
theorem rnL (I:Inv X pins σ H s) (n:Nat) (A:Wo) (hu0:A.units < WX) (t1:s.heap.IsList a its.toArray) (t2:s.heap.IsList b jts.toArray) (r1:Vals vs its) (r2:Vals ws jts) (l1:vs.length=ds.length) (l2:ws.length=es.length)
  (g1:∀ (i:Nat) v d,vs[i]? = some v→ds[i]? = some d→Rep H NoO v d) (g2:∀ (i:Nat) v d,ws[i]? = some v→es[i]? = some d→Rep H NoO v d) (f1:flat n (.lst ds)=true) (f2:flat n (.lst es)=true) (ih:z8w H s A n) :
  RcNeAt A s (.ref a) (.ref b) (!eqDs ds es):=by
 cases n with
 | zero=>simp [flat] at f1
 | succ n =>
  simp only [flat] at f1 f2
  obtain ⟨hu,ih⟩:=ih
  have z1:its.toArray.size=ds.length:=by have:=r1.length; simp; omega
  have z2:jts.toArray.size=es.length:=by have:=r2.length; simp; omega
  by_cases hl:ds.length=es.length
  ·have q:=RcNeAt.lists (A:=A) (s:=s) t1 t2 (by rw [z1,z2]; exact hl) hu0 (z4Q hu ih r1 r2 l1 l2 g1 g2 f1 f2)
   rw [z1,z4S hl z8R] at q
   exact q
  ·rw [z4R hl]
   exact RcNeAt.lists_lengths (A:=A) (s:=s) t1 t2 (by rw [z1,z2]; simpa using hl) hu0
theorem rcD (I:Inv X pins σ H s) (n:Nat) (A:Wo) (x y:V) (u w:Value) (d e:D) (hu0:A.units < WX) (fd:flat n d=true) (fe:flat n e=true) (ih:z8w H s A n) (rx:Rep H NoO x d) (ry:Rep H NoO y e) (ru:RelV x u) (rw':RelV y w):RcAt A s u w (eqD d e):=by
 cases rx with
 | non =>
  cases ru
  cases ry with
  | non =>
   cases rw'
   simp only [eqD]; exact RcAt.none_none
  | bl q =>
   cases rw'
   simp only [eqD]; exact RcAt.none_bool _
  | int q =>
   obtain ⟨t2,rfl⟩:=rw'
   simp only [eqD]; exact RcAt.none_int _ _
  | str q =>
   obtain ⟨t2,rfl⟩:=rw'
   simp only [eqD]; exact RcAt.none_str _ _
  | tup k1 k2 k3 k4 =>
   cases rw'; obtain ⟨its2,r2,t2⟩:=Inv.rdT I k2
   simp only [eqD]; exact RcAt.none_tuple t2 hu0
  | lst k1 k2 k3 k4 =>
   cases rw'; obtain ⟨its2,r2,t2⟩:=Inv.rdL I k2
   simp only [eqD]; exact RcAt.none_list t2 hu0
  | dct k1 k2 k3 k4=>(cases n <;> simp [flat] at fe)
  | exc k1 k2=>(cases n <;> simp [flat] at fe)
 | bl p =>
  cases ru
  cases ry with
  | non =>
   cases rw'
   simp only [eqD]; exact RcAt.bool_none _
  | bl q =>
   cases rw'
   simp only [eqD]; exact RcAt.bool_bool _ _
  | int q =>
   obtain ⟨t2,rfl⟩:=rw'
   simp only [eqD]; exact RcAt.bool_int _ _ _
  | str q =>
   obtain ⟨t2,rfl⟩:=rw'
   simp only [eqD]; exact RcAt.bool_str _ _ _
  | tup k1 k2 k3 k4 =>
   cases rw'; obtain ⟨its2,r2,t2⟩:=Inv.rdT I k2
   simp only [eqD]; exact RcAt.bool_tuple _ t2 hu0
  | lst k1 k2 k3 k4 =>
   cases rw'; obtain ⟨its2,r2,t2⟩:=Inv.rdL I k2
   simp only [eqD]; exact RcAt.bool_list _ t2 hu0
  | dct k1 k2 k3 k4=>(cases n <;> simp [flat] at fe)
  | exc k1 k2=>(cases n <;> simp [flat] at fe)
 | int p =>
  obtain ⟨t1,rfl⟩:=ru
  cases ry with
  | non =>
   cases rw'
   simp only [eqD]; exact RcAt.int_none _ _
  | bl q =>
   cases rw'
   simp only [eqD]; exact RcAt.int_bool _ _ _
  | int q =>
   obtain ⟨t2,rfl⟩:=rw'
   simp only [eqD]; exact RcAt.int_int _ _ _ _
  | str q =>
   obtain ⟨t2,rfl⟩:=rw'
   simp only [eqD]; exact RcAt.int_str _ _ _ _
  | tup k1 k2 k3 k4 =>
   cases rw'; obtain ⟨its2,r2,t2⟩:=Inv.rdT I k2
   simp only [eqD]; exact RcAt.int_tuple _ _ t2 hu0
  | lst k1 k2 k3 k4 =>
   cases rw'; obtain ⟨its2,r2,t2⟩:=Inv.rdL I k2
   simp only [eqD]; exact RcAt.int_list _ _ t2 hu0
  | dct k1 k2 k3 k4=>(cases n <;> simp [flat] at fe)
  | exc k1 k2=>(cases n <;> simp [flat] at fe)
 | str p =>
  obtain ⟨t1,rfl⟩:=ru
  cases ry with
  | non =>
   cases rw'
   simp only [eqD]; exact RcAt.str_none _ _
  | bl q =>
   cases rw'
   simp only [eqD]; exact RcAt.str_bool _ _ _
  | int q =>
   obtain ⟨t2,rfl⟩:=rw'
   simp only [eqD]; exact RcAt.str_int _ _ _ _
  | str q =>
   obtain ⟨t2,rfl⟩:=rw'
   simp only [eqD]; rw [← z7P]; exact RcAt.str_str _ _ _ _
  | tup k1 k2 k3 k4 =>
   cases rw'; obtain ⟨its2,r2,t2⟩:=Inv.rdT I k2
   simp only [eqD]; exact RcAt.str_tuple _ _ t2 hu0
  | lst k1 k2 k3 k4 =>
   cases rw'; obtain ⟨its2,r2,t2⟩:=Inv.rdL I k2
   simp only [eqD]; exact RcAt.str_list _ _ t2 hu0
  | dct k1 k2 k3 k4=>(cases n <;> simp [flat] at fe)
  | exc k1 k2=>(cases n <;> simp [flat] at fe)
 | tup h1 h2 h3 h4 =>
  cases ru; obtain ⟨its1,r1,t1⟩:=Inv.rdT I h2
  cases ry with
  | non =>
   cases rw'
   simp only [eqD]; exact RcAt.tuple_none t1 hu0
  | bl q =>
   cases rw'
   simp only [eqD]; exact RcAt.tuple_bool _ t1 hu0
  | int q =>
   obtain ⟨t2,rfl⟩:=rw'
   simp only [eqD]; exact RcAt.tuple_int _ _ t1 hu0
  | str q =>
   obtain ⟨t2,rfl⟩:=rw'
   simp only [eqD]; exact RcAt.tuple_str _ _ t1 hu0
  | tup k1 k2 k3 k4 =>
   cases rw'; obtain ⟨its2,r2,t2⟩:=Inv.rdT I k2
   simp only [eqD]; exact rcT I n A hu0 t1 t2 r1 r2 h3 k3 h4 k4 fd fe ih
  | lst k1 k2 k3 k4 =>
   cases rw'; obtain ⟨its2,r2,t2⟩:=Inv.rdL I k2
   simp only [eqD]; exact RcAt.tuple_list t1 t2 hu0
  | dct k1 k2 k3 k4=>(cases n <;> simp [flat] at fe)
  | exc k1 k2=>(cases n <;> simp [flat] at fe)
 | lst h1 h2 h3 h4 =>
  cases ru; obtain ⟨its1,r1,t1⟩:=Inv.rdL I h2
  cases ry with
  | non =>
   cases rw'
   simp only [eqD]; exact RcAt.list_none t1 hu0
  | bl q =>
   cases rw'
   simp only [eqD]; exact RcAt.list_bool _ t1 hu0
  | int q =>
   obtain ⟨t2,rfl⟩:=rw'
   simp only [eqD]; exact RcAt.list_int _ _ t1 hu0
  | str q =>
   obtain ⟨t2,rfl⟩:=rw'
   simp only [eqD]; exact RcAt.list_str _ _ t1 hu0
  | tup k1 k2 k3 k4 =>
   cases rw'; obtain ⟨its2,r2,t2⟩:=Inv.rdT I k2
   simp only [eqD]; exact RcAt.list_tuple t1 t2 hu0
  | lst k1 k2 k3 k4 =>
   cases rw'; obtain ⟨its2,r2,t2⟩:=Inv.rdL I k2
   simp only [eqD]; exact rcL I n A hu0 t1 t2 r1 r2 h3 k3 h4 k4 fd fe ih
  | dct k1 k2 k3 k4=>(cases n <;> simp [flat] at fe)
  | exc k1 k2=>(cases n <;> simp [flat] at fe)
 | dct h1 h2 h3 h4=>(cases n <;> simp [flat] at fd)
 | exc h1 h2=>(cases n <;> simp [flat] at fd)
theorem rnD (I:Inv X pins σ H s) (n:Nat) (A:Wo) (x y:V) (u w:Value) (d e:D) (hu0:A.units < WX) (fd:flat n d=true) (fe:flat n e=true) (ih:z8w H s A n) (rx:Rep H NoO x d) (ry:Rep H NoO y e) (ru:RelV x u) (rw':RelV y w):RcNeAt A s u w (!eqD d e):=by
 cases rx with
 | non =>
  cases ru
  cases ry with
  | non =>
   cases rw'
   simp only [eqD]; exact RcNeAt.none_none
  | bl q =>
   cases rw'
   simp only [eqD]; exact RcNeAt.none_bool _
  | int q =>
   obtain ⟨t2,rfl⟩:=rw'
   simp only [eqD]; exact RcNeAt.none_int _ _
  | str q =>
   obtain ⟨t2,rfl⟩:=rw'
   simp only [eqD]; exact RcNeAt.none_str _ _
  | tup k1 k2 k3 k4 =>
   cases rw'; obtain ⟨its2,r2,t2⟩:=Inv.rdT I k2
   simp only [eqD]; exact RcNeAt.none_tuple t2 hu0
  | lst k1 k2 k3 k4 =>
   cases rw'; obtain ⟨its2,r2,t2⟩:=Inv.rdL I k2
   simp only [eqD]; exact RcNeAt.none_list t2 hu0
  | dct k1 k2 k3 k4=>(cases n <;> simp [flat] at fe)
  | exc k1 k2=>(cases n <;> simp [flat] at fe)
 | bl p =>
  cases ru
  cases ry with
  | non =>
   cases rw'
   simp only [eqD]; exact RcNeAt.bool_none _
  | bl q =>
   cases rw'
   simp only [eqD]; exact RcNeAt.bool_bool _ _
  | int q =>
   obtain ⟨t2,rfl⟩:=rw'
   simp only [eqD]; exact RcNeAt.bool_int _ _ _
  | str q =>
   obtain ⟨t2,rfl⟩:=rw'
   simp only [eqD]; exact RcNeAt.bool_str _ _ _
  | tup k1 k2 k3 k4 =>
   cases rw'; obtain ⟨its2,r2,t2⟩:=Inv.rdT I k2
   simp only [eqD]; exact RcNeAt.bool_tuple _ t2 hu0
  | lst k1 k2 k3 k4 =>
   cases rw'; obtain ⟨its2,r2,t2⟩:=Inv.rdL I k2
   simp only [eqD]; exact RcNeAt.bool_list _ t2 hu0
  | dct k1 k2 k3 k4=>(cases n <;> simp [flat] at fe)
  | exc k1 k2=>(cases n <;> simp [flat] at fe)
 | int p =>
  obtain ⟨t1,rfl⟩:=ru
  cases ry with
  | non =>
   cases rw'
   simp only [eqD]; exact RcNeAt.int_none _ _
  | bl q =>
   cases rw'
   simp only [eqD]; exact RcNeAt.int_bool _ _ _
  | int q =>
   obtain ⟨t2,rfl⟩:=rw'
   simp only [eqD]; exact RcNeAt.int_int _ _ _ _
  | str q =>
   obtain ⟨t2,rfl⟩:=rw'
   simp only [eqD]; exact RcNeAt.int_str _ _ _ _
  | tup k1 k2 k3 k4 =>
   cases rw'; obtain ⟨its2,r2,t2⟩:=Inv.rdT I k2
   simp only [eqD]; exact RcNeAt.int_tuple _ _ t2 hu0
  | lst k1 k2 k3 k4 =>
   cases rw'; obtain ⟨its2,r2,t2⟩:=Inv.rdL I k2
   simp only [eqD]; exact RcNeAt.int_list _ _ t2 hu0
  | dct k1 k2 k3 k4=>(cases n <;> simp [flat] at fe)
  | exc k1 k2=>(cases n <;> simp [flat] at fe)
 | str p =>
  obtain ⟨t1,rfl⟩:=ru
  cases ry with
  | non =>
   cases rw'
   simp only [eqD]; exact RcNeAt.str_none _ _
  | bl q =>
   cases rw'
   simp only [eqD]; exact RcNeAt.str_bool _ _ _
  | int q =>
   obtain ⟨t2,rfl⟩:=rw'
   simp only [eqD]; exact RcNeAt.str_int _ _ _ _
  | str q =>
   obtain ⟨t2,rfl⟩:=rw'
   simp only [eqD]; rw [← z7P]; exact RcNeAt.str_str _ _ _ _
  | tup k1 k2 k3 k4 =>
   cases rw'; obtain ⟨its2,r2,t2⟩:=Inv.rdT I k2
   simp only [eqD]; exact RcNeAt.str_tuple _ _ t2 hu0
  | lst k1 k2 k3 k4 =>
   cases rw'; obtain ⟨its2,r2,t2⟩:=Inv.rdL I k2
   simp only [eqD]; exact RcNeAt.str_list _ _ t2 hu0
  | dct k1 k2 k3 k4=>(cases n <;> simp [flat] at fe)
  | exc k1 k2=>(cases n <;> simp [flat] at fe)
 | tup h1 h2 h3 h4 =>
  cases ru; obtain ⟨its1,r1,t1⟩:=Inv.rdT I h2
  cases ry with
  | non =>
   cases rw'
   simp only [eqD]; exact RcNeAt.tuple_none t1 hu0
  | bl q =>
   cases rw'
   simp only [eqD]; exact RcNeAt.tuple_bool _ t1 hu0
  | int q =>
   obtain ⟨t2,rfl⟩:=rw'
   simp only [eqD]; exact RcNeAt.tuple_int _ _ t1 hu0
  | str q =>
   obtain ⟨t2,rfl⟩:=rw'
   simp only [eqD]; exact RcNeAt.tuple_str _ _ t1 hu0
  | tup k1 k2 k3 k4 =>
   cases rw'; obtain ⟨its2,r2,t2⟩:=Inv.rdT I k2
   simp only [eqD]; exact rnT I n A hu0 t1 t2 r1 r2 h3 k3 h4 k4 fd fe ih
  | lst k1 k2 k3 k4 =>
   cases rw'; obtain ⟨its2,r2,t2⟩:=Inv.rdL I k2
   simp only [eqD]; exact RcNeAt.tuple_list t1 t2 hu0
  | dct k1 k2 k3 k4=>(cases n <;> simp [flat] at fe)
  | exc k1 k2=>(cases n <;> simp [flat] at fe)
 | lst h1 h2 h3 h4 =>
  cases ru; obtain ⟨its1,r1,t1⟩:=Inv.rdL I h2
  cases ry with
  | non =>
   cases rw'
   simp only [eqD]; exact RcNeAt.list_none t1 hu0
  | bl q =>
   cases rw'
   simp only [eqD]; exact RcNeAt.list_bool _ t1 hu0
  | int q =>
   obtain ⟨t2,rfl⟩:=rw'
   simp only [eqD]; exact RcNeAt.list_int _ _ t1 hu0
  | str q =>
   obtain ⟨t2,rfl⟩:=rw'
   simp only [eqD]; exact RcNeAt.list_str _ _ t1 hu0
  | tup k1 k2 k3 k4 =>
   cases rw'; obtain ⟨its2,r2,t2⟩:=Inv.rdT I k2
   simp only [eqD]; exact RcNeAt.list_tuple t1 t2 hu0
  | lst k1 k2 k3 k4 =>
   cases rw'; obtain ⟨its2,r2,t2⟩:=Inv.rdL I k2
   simp only [eqD]; exact rnL I n A hu0 t1 t2 r1 r2 h3 k3 h4 k4 fd fe ih
  | dct k1 k2 k3 k4=>(cases n <;> simp [flat] at fe)
  | exc k1 k2=>(cases n <;> simp [flat] at fe)
 | dct h1 h2 h3 h4=>(cases n <;> simp [flat] at fd)
 | exc h1 h2=>(cases n <;> simp [flat] at fd)
theorem zbb (h:RcAt A s u w k) (hs:u=w→k=true) (hf:∀ b t,u≠Value.float b t):EqAt A s u w k:=fun prog w' E Q hq=>by
 unfold eqBool
 refine Q3 ?_
 refine wpAny_ite_split (fun hab=>?_) (fun _=>?_)
 ·have e:=eq_of_beq hab
  rw [hs e] at hq
  exact W1 (JE (W8 hq))
 ·cases u with
  | float b t=>exact absurd rfl (hf b t)
  | _=>exact W1 (h prog w' E _ (Qy hq))
theorem zaI (r:Rep H NoO x d) (ru:RelV x u) (b:UInt64) (t:Tok):u≠Value.float b t:=by
 intro e
 subst e
 cases r <;> first | (cases ru; done) | (obtain ⟨t',e⟩:=ru; cases e)
theorem eqAtD (I:Inv X pins σ H s) (n:Nat):EqIt H s n:=by
 induction n with
 | zero =>
  intro A x y u w d e hu fd fe rx ry ru rw'
  refine zbb (rcD I 0 A x y u w d e (by omega) fd fe trivial rx ry ru rw') (fun h=>?_) (zaI rx ru)
  subst h
  have:=ru.inj rw'
  subst this
  rw [Rep.inj rx fd fe ry]
  exact z6G fe
 | succ n ih =>
  intro A x y u w d e hu fd fe rx ry ru rw'
  refine zbb (rcD I (n + 1) A x y u w d e (by omega) fd fe ⟨by omega,ih⟩ rx ry ru rw') (fun h=>?_) (zaI rx ru)
  subst h
  have:=ru.inj rw'
  subst this
  rw [Rep.inj rx fd fe ry]
  exact z6G fe
theorem zge (I:Inv X pins σ H s):∀ n:Nat,A.units + n + 1 < WX→z8w H s A n
 | 0,_=>trivial
 | n + 1,h=>⟨by omega,eqAtD I n⟩
def rEqD:R2:=fun x y H Q=>∃ d e,Rep H NoO x d∧Rep H NoO y e∧flat 50 d=true∧flat 50 e=true∧Q (.bl (eqD d e)) H
def rNeD:R2:=fun x y H Q=>∃ d e,Rep H NoO x d∧Rep H NoO y e∧flat 50 d=true∧flat 50 e=true∧Q (.bl (!eqD d e)) H
theorem z5c (hu:X.A.units + 64 < WX):OpR X (WA .Eq) rEqD:=by
 intro pins s σ H x y v u Q I rx ry h
 obtain ⟨d,e,r1,r2,f1,f2,q⟩:=h
 exact rcD I 50 X.A x y v u d e (by omega) f1 f2 (zge I 50 (by omega)) r1 r2 rx ry X.prog X.w X.xe _ ⟨.bl _,H,I,rfl,q⟩
theorem z7a (hu:X.A.units + 64 < WX):OpR X (WA .NotEq) rNeD:=by
 intro pins s σ H x y v u Q I rx ry h
 obtain ⟨d,e,r1,r2,f1,f2,q⟩:=h
 exact rnD I 50 X.A x y v u d e (by omega) f1 f2 (zge I 50 (by omega)) r1 r2 rx ry X.prog X.w X.xe _ ⟨.bl _,H,I,rfl,q⟩
end
def cutL {α:Type} (xs:List α) (lo hi:Option Int):List α:=(xs.drop (HT.sIx xs.length 0 lo)).take (HT.sIx xs.length xs.length hi - HT.sIx xs.length 0 lo)
theorem zdb (xs:List V) (lo hi:Option Int):cutL xs lo hi=cutV xs lo hi:=rfl
theorem zcK (xs:List α) (lo hi:Option Int):(cutL xs lo hi).length≤xs.length:=by
 unfold cutL
 rw [QZ,List.length_drop]
 omega
theorem Reps.cut (lo hi:Option Int) (h:Reps H O vs ds):Reps H O (cutL vs lo hi) (cutL ds lo hi):=by
 unfold cutL
 rw [h.1]
 exact Reps.take _ (Reps.drop _ h)
theorem zbk {α:Type} {xs:List α} {lo hi:Option Int} (h:HT.sIx xs.length 0 lo=0∧HT.sIx xs.length xs.length hi=xs.length):cutL xs lo hi=xs:=by
 unfold cutL
 rw [h.1,h.2]
 simp
section
variable {prog:Wj} {w:Wp} {A:Wo} {E:Value→W2→Prop} {s:W2}
theorem z3G {t sl:Addr} {items:Array Value} {vl vu:Value} {lo hi:Option Int} {Q:Value→W2→Prop} (ht:IsTup s.heap t items) (hs:s.heap.IsSliceOf sl vl vu .none) (pl:IsPart vl lo) (pu:IsPart vu hi)
  (hw:HT.sIx items.size 0 lo=0∧HT.sIx items.size items.size hi=items.size) (h:Q (.ref t) s):W9 (model prog w) A (Jp (.ref t) (.ref sl)) Q E s:=by
 obtain ⟨os,hos,hcs,hds⟩:=id hs
 have hTs:s.TypeIs (.ref sl) "slice":=⟨os,hos,hcs⟩
 unfold Jp
 try with_reducible refine Q3 ?_
 first | refine W1 (W8 ?_) | skip
 refine W1 (wpAny_sequenceKey ht.typeIs (by decide) ?_)
 refine W1 (QA (name:=Str.ofString "__getitem__") ht.typeIs WU
  (Jm WU ht.typeIs entry_tuple_getitem ?_ (args_tuple_getitem _ _)))
 show W9 _ _ (Builtin.Tuple.tupleItemsOf (.ref t) >>= _) _ _ s
 refine W1 (tupleItemsOf_ ht ?_)
 refine W1 (J0 hTs ?_)
 rw [if_pos (by decide)]
 refine W1 (HT.sliceApplied_gen hs pl pu ?_)
 show W9 _ _ (if (((HT.sIx items.size 0 lo:Nat):Int) == 0 && (1:Int) == 1 && (HT.sIx items.size items.size hi - HT.sIx items.size 0 lo) == items.size)=true then _ else _) _ _ s
 rw [hw.1,hw.2]
 rw [if_pos (by simp)]
 refine W1 (m:=Builtin.Tuple.tupleIsExact (.ref t)) ?_
 unfold Builtin.Tuple.tupleIsExact
 refine W1 (J0 ht.typeIs (W8 ?_))
 rw [if_pos (by decide)]
 exact W1 (JE (W1 (W8 (W8 ⟨_,rfl,W8 h⟩))))
end
section
variable {X:Cx}
def zf3 (K:W0):V→Option Int→Option Int→Hp→VK→Prop:=fun x lo hi H Q=>∃ a xs,x = .ref a∧SqT K H a xs ∧
 ((HT.sIx xs.length 0 lo=0∧HT.sIx xs.length xs.length hi=xs.length)→Q (.ref a) H)∧(¬ (HT.sIx xs.length 0 lo=0∧HT.sIx xs.length xs.length hi=xs.length)→∀ p,H p=none→Q (.ref p) (upd H p (.tup (cutV xs lo hi))))
theorem sl_tup2:SlR X (zf3 X.K):=by
 intro pins s σ H x v vl vu lo hi sl Q I rx hs pl pu h
 obtain ⟨a,xs,rfl,hx,q1,q2⟩:=h
 by_cases hw:HT.sIx xs.length 0 lo=0∧HT.sIx xs.length xs.length hi=xs.length
 ·cases rx
  obtain ⟨its,r,ht,hz⟩:=I.tuple hx
  have hlen:its.toArray.size=xs.length:=by rw [Wk]; exact r.length.symm
  refine ⟨"tuple",_,PyProof.Rows.slot_tuple_getitem.lookup,ht.typeIs,?_⟩
  exact z3G ht hs pl pu (by rw [hlen]; exact hw) ⟨.ref a,H,I,rfl,q1 hw⟩
 ·exact sl_tup pins s σ H (.ref a) v vl vu lo hi sl Q I rx hs pl pu ⟨a,xs,rfl,hx,hw,q2 hw⟩
theorem za7 (a b:Nat):sliceRange (a:Int) (b:Int) 1=(Wa (b - a)).map (fun k=>a + k):=by
 have h0:((1:Int) > 0)=True:=by simp
 unfold sliceRange
 simp only [h0,if_true]
 by_cases hlt:(a:Int) < (b:Int)
 ·rw [if_pos hlt]
  have e3:(((b:Int) - (a:Int) + 1 - 1) / 1).toNat=b - a:=by
   rw [Int.ediv_one]; omega
  rw [e3]
  refine J3 fun k _=>?_
  omega
 ·rw [if_neg hlt]
  have:b - a=0:=by omega
  rw [this]
  rfl
theorem z5R (lo hi:Option Int) (n:Nat):WJ lo hi 1 n=(Wa (HT.sIx n n hi - HT.sIx n 0 lo)).map (fun k=>HT.sIx n 0 lo + k):=by
 have c:∀ (i:Int) (d:Nat),max 0 (min (if i < 0 then i + (n:Int) else i) (n:Int))=((HT.sIx n d (some i):Nat):Int):=by
  intro i d
  show max 0 (min (if i < 0 then i + (n:Int) else i) (n:Int))=(((if i < 0 then (i + (n:Int)).toNat else min i.toNat n):Nat):Int)
  by_cases hi:i < 0
  ·simp only [if_pos hi]; omega
  ·simp only [if_neg hi]; omega
 have h0:((1:Int) > 0)=True:=by simp
 rw [← za7]
 unfold WJ
 simp only [h0,if_true]
 cases lo with
 | none =>
  cases hi with
  | none=>rfl
  | some j=>show sliceRange 0 (max 0 (min (if j < 0 then j + (n:Int) else j) (n:Int))) 1=_; rw [c j n]; rfl
 | some i =>
  cases hi with
  | none=>show sliceRange (max 0 (min (if i < 0 then i + (n:Int) else i) (n:Int))) (n:Int) 1=_; rw [c i 0]; rfl
  | some j=>show sliceRange (max 0 (min (if i < 0 then i + (n:Int) else i) (n:Int))) (max 0 (min (if j < 0 then j + (n:Int) else j) (n:Int))) 1=_; rw [c i 0,c j n]
theorem zdo (x:Tx) (lo hi:Option Int):(⟨((WJ lo hi 1 (toS x).length).filterMap ((toS x).cps[·]?)).toArray⟩:Str)=toS (cutL x lo hi):=by
 unfold toS
 congr 1
 rw [z5R]
 have:=pick_run (x.toArray) (HT.sIx x.length 0 lo) (HT.sIx x.length x.length hi - HT.sIx x.length 0 lo)
 have hl:({ cps:=x.toArray }:Str).length=x.length:=by simp [Str.length]
 rw [hl]
 rw [this]
 rfl
def rSlS:V→Option Int→Option Int→Hp→VK→Prop:=fun x lo hi H Q=>∃ z:Tx,x = .str (toS z)∧z.length≤W3∧Q (.str (toS (cutL z lo hi))) H
theorem zat (p:IsPart v o):∃ q:Option (Int×Tok),v=partValue q∧q.map (·.1)=o:=by
 cases p with
 | none=>exact ⟨none,rfl,rfl⟩
 | int i t=>exact ⟨some (i,t),rfl,rfl⟩
theorem sl_str:SlR X rSlS:=by
 intro pins s σ H x v vl vu lo hi sl Q I rx hs pl pu h
 obtain ⟨z,rfl,hz,q⟩:=h
 obtain ⟨t,rfl⟩:=rx
 obtain ⟨l,rfl,el⟩:=zat pl
 obtain ⟨u,rfl,eu⟩:=zat pu
 obtain ⟨o,ho,hc,hd⟩:=hs
 refine ⟨"str",_,F.slot_str_getitem.lookup,typeIs_str s _ t,?_⟩
 refine wpAny_getItem_str_slice (l:=l) (u:=u) (st:=none) ⟨o,ho,hc,hd⟩ rfl ?_
 unfold sliceMade
 have e:(slicePicked (toS z) l u none)=WJ lo hi 1 (toS z).length:=by
  unfold slicePicked
  rw [el,eu]
  rfl
 rw [e]
 by_cases hw:(((none:Option (Int×Tok)).map (·.1)).getD 1 == 1 && (WJ lo hi 1 (toS z).length).length == (toS z).length)=true
 ·rw [if_pos hw]
  refine ⟨.str (toS (cutL z lo hi)),H,I,⟨t,?_⟩,q⟩
  congr 1
  rw [Wi] at hw
  have hw2:=eq_of_beq hw.2
  rw [z5R,Qn,JH,z2b] at hw2
  have h1:=HT.sIx_le z.length 0 (Qb _) lo
  have h2:=HT.sIx_le z.length z.length (Wc _) hi
  unfold cutL
  congr 1
  by_cases h0:z.length=0
  ·have:z=[]:=List.eq_nil_of_length_eq_zero h0
   subst this
   simp
  ·have a1:HT.sIx z.length 0 lo=0:=by omega
   rw [a1] at hw2 ⊢
   rw [hw2]
   simp
 ·rw [if_neg hw]
  show Made.post (.str _) _ _
  rw [zdo]
  exact ⟨by rw [z2b]; exact WI (zcK z lo hi) hz,.str (toS (cutL z lo hi)),H,I.tok _,⟨_,rfl⟩,q⟩
def RvR (X:Cx) (r:V→Hp→VK→Prop):Prop :=
 ∀ (pins:List (Addr×Obj)) (s:W2) (σ:St) (H:Hp) (x:V) (v:Value) (t:Tok) (sl:Addr) (Q:VK),Inv X pins σ H s→RelV x v→s.heap.IsSliceOf sl .none .none (.int (-1) t)→r x H Q →
  ∃ T id,typeLookup (.type T) "__getitem__" = pure (some (.builtin id))∧s.TypeIs v T∧W9 (model X.prog X.w) X.A (Jp v (.ref sl)) (EP X pins σ Q) X.xe s
theorem RvR.or (h:RvR X r) (h':RvR X r'):RvR X (fun x H Q=>r x H Q∨r' x H Q):=by
 intro pins s σ H x v t sl Q I rx hs q
 rcases q with q | q
 ·exact h pins s σ H x v t sl Q I rx hs q
 ·exact h' pins s σ H x v t sl Q I rx hs q
theorem zfp {r:V→Hp→VK→Prop} {e st:Expr} {te:TE} {p2 pos:Pos} (hr:RvR X r) (he:PE X e te) (hst:PE X st (tC (.int (-1)))):PE X (.Subscript e (.Slice none none (some st) p2) pos) (tUn r te):=by
 intro pins s σ H Q I h
 refine Subscript_ (thn (he pins s σ H _ I h) fun v s1 ⟨x,H1,I1,r1,q1⟩=>?_)
 refine wpAny_Slice ?_
 rw [evalPart_none,evalPart_some]
 refine W8 (W8 ?_)
 refine thn (hst pins s1 σ H1 (fun y H2=>y = .int (-1)∧H2=H1) I1 ⟨rfl,rfl⟩) fun u s2 ⟨y,H2,I2,r2,ey,eh⟩=>?_
 subst ey eh
 obtain ⟨t,rfl⟩:=r2
 have I4:Inv X pins σ H2 { s2 with heap:=s2.heap.push { cls:=.type "slice",data:=.fields #[.none,.none,.int (-1) t] } }:=I2.kept (t':=s2.toks) fun b ob q=>W5 _ q
 obtain ⟨T,id,hT,ht,hg⟩:=hr pins { s2 with heap:=s2.heap.push { cls:=.type "slice",data:=.fields #[.none,.none,.int (-1) t] } } σ H2 x v t s2.heap.objs.size Q I4 r1 (Heap.IsSliceOf.new ..) q1
 show W9 (model X.prog X.w) X.A (subscriptTail e (.Slice none none (some st) p2) v (.ref s2.heap.objs.size)) (EP X pins σ Q) X.xe { s2 with heap:=s2.heap.push { cls:=.type "slice",data:=.fields #[.none,.none,.int (-1) t] } }
 exact tail_any (ops:=[v,.ref s2.heap.objs.size]) ht hT hg (by with_unfolding_all rfl)
theorem zaL {pos pos':Pos} {j}:PE X (.UnaryOp .USub (.Constant (.int 1) j pos') pos) (tC (.int (-1))) :=
 PE.weak (zfn zcQ zd1) fun σ H Q h=>⟨1,rfl,h⟩
theorem zem (n:Nat):WJ none none (-1) n=(Wa n).map fun k=>n - 1 - k:=by
 unfold WJ
 have h0:¬ ((-1:Int) > 0):=by decide
 simp only [h0,if_false]
 exact PySem.W.krv_sliceRange n
theorem rv_str:RvR X (fun x H Q=>∃ z:Tx,x = .str (toS z)∧z.length≤W3∧Q (.str (toS z.reverse)) H):=by
 intro pins s σ H x v t sl Q I rx hs h
 obtain ⟨z,rfl,hz,q⟩:=h
 obtain ⟨t',rfl⟩:=rx
 obtain ⟨o,ho,hc,hd⟩:=hs
 refine ⟨"str",_,F.slot_str_getitem.lookup,typeIs_str s _ t',?_⟩
 refine wpAny_getItem_str_slice (l:=none) (u:=none) (st:=some (-1,t)) ⟨o,ho,hc,hd⟩ (by show ((-1:Int) == 0)=false; decide) ?_
 unfold sliceMade
 rw [if_neg (by intro h; rw [Wi] at h; exact absurd (show ((-1:Int) == 1)=true from h.1) (by decide))]
 have e:(⟨((slicePicked (toS z) none none (some (-1,t))).filterMap ((toS z).cps[·]?)).toArray⟩:Str)=toS z.reverse:=by
  unfold slicePicked
  show (⟨((WJ none none (-1) (toS z).length).filterMap ((toS z).cps[·]?)).toArray⟩:Str)=_
  rw [zem,PySem.W.krv_range,List.filterMap_reverse]
  have:(toS z).length=(toS z).cps.size:=rfl
  rw [this,PySem.W.krv_all]
  simp [toS]
 show Made.post (.str _) _ _
 rw [e]
 exact ⟨by rw [z2b,Js]; exact hz,.str (toS z.reverse),H,I.tok _,⟨_,rfl⟩,q⟩
theorem zdE:RvR X (fun x H Q=>∃ a xs,x = .ref a∧SqL X.K H a xs∧∀ p,H p=none→Q (.ref p) (upd H p (.lst xs.reverse))):=by
 intro pins s σ H x v t sl Q I rx hs h
 obtain ⟨a,xs,rfl,hx,q⟩:=h
 cases rx
 obtain ⟨its,r,ht,hz⟩:=I.list hx
 have hlen:=r.length
 refine ⟨"list",_,slot_list_getitem.lookup,ht.isList.typeIs,?_⟩
 refine wpAny_getItem_list_slice ht.isList hs .none .none (.int (-1) t) (by decide) ?_ (by rw [Wk] <;> omega)
 rw [PySem.W.krv_pick]
 exact ⟨.ref s.heap.objs.size,_,I.lnew (t':=s.toks) r.reverse (by rw [Js]; exact hz),rfl,q _ I.fresh⟩
theorem op_catT0:OpR X (Qh .Add) (fun x y H Q=>∃ a b ys,x = .ref a∧y = .ref b∧SqT X.K H a []∧SqT X.K H b ys∧Q (.ref b) H):=by
 intro pins s σ H x y v u Q I rx ry h
 obtain ⟨a,b,ys,rfl,rfl,ha,hb,q⟩:=h
 cases rx
 cases ry
 obtain ⟨its,r1,p1,_⟩:=I.tuple ha
 obtain ⟨its2,r2,p2,_⟩:=I.tuple hb
 cases r1
 obtain ⟨⟨cls,dd,data,sl⟩,ho,hc,n,hd⟩:=id p1
 obtain ⟨⟨cls2,dd2,data2,sl2⟩,ho2,hc2,n2,hd2⟩:=id p2
 simp only at hc hd hc2 hd2
 subst hc hd hc2 hd2
 exact concat_meets ⟨_,ho,rfl⟩ ⟨_,ho2,rfl⟩ noFill_tuple_add seq_tuple_add PySem.F.slot_tuple_add PySem.F.entry_tuple_add (PySem.F.args_tuple_add_2 _ _)
   (tuple_addW0 a b #[] its2.toArray n n2 dd dd2 sl sl2 rfl) ⟨ho,ho2,.ref b,H,I,rfl,q⟩
def zf8 (K:W0):R2:=fun x y H Q=>∃ l b xs zs,x = .ref l∧y = .ref b∧SqL K H l xs∧SqL K H b zs∧xs.length + zs.length≤W3∧∀ p,H p=none→Q (.ref p) (upd H p (.lst (xs ++ zs)))
theorem ze9:OpR X (Qh .Add) (zf8 X.K):=by
 intro pins s σ H x y v u Q I rx ry h
 obtain ⟨l,b,xs,zs,rfl,rfl,hH,hB,hz,q⟩:=h
 cases rx
 cases ry
 obtain ⟨its,r,⟨⟨cls,dd,data,sl⟩,n,e,hc,hdd,hd⟩,z⟩:=I.list hH
 obtain ⟨its2,r2,⟨⟨cls2,dd2,data2,sl2⟩,n2,e2,hc2,hdd2,hd2⟩,z2⟩:=I.list hB
 simp only at hc hd hdd hc2 hd2 hdd2
 subst hc hd hdd hc2 hd2 hdd2
 have hl:=r.length
 have hl2:=r2.length
 refine concat_meets ⟨_,e,rfl⟩ ⟨_,e2,rfl⟩ noFill_list_add seq_list_add PySem.F.slot_list_add PySem.F.entry_list_add (PySem.F.args_list_add_2 _ _)
   (list_addW l b its.toArray its2.toArray n n2 none none sl sl2 (by rw [Wk,Wk]; omega)) ⟨e,e2,?_⟩
 have ea:its.toArray ++ its2.toArray=(its ++ its2).toArray:=by simp
 rw [ea]
 exact ⟨.ref _,_,I.lnew (t':=s.toks) (r.append r2) (by rw [WY]; omega),rfl,q _ I.fresh⟩
theorem z49:∀ {ys:List Str} {us:List Value},Vals (ys.map V.str) us→StrsAre us ys
 | [],us,r=>by cases r; exact .nil
 | y :: ys,us,r=>by
  cases r with
  | cons r1 r2 =>
   obtain ⟨t,rfl⟩:=r1
   exact .cons y t (z49 r2)
def zbT (K:W0):V→List V→Hp→VK→Prop:=fun x vs H Q=>∃ (z:Str) (a:Addr) (ys:List Str),x = .str z∧vs=[.ref a]∧(SqL K H a (ys.map V.str)∨SqT K H a (ys.map V.str)) ∧
 (ys.map (·.length)).sum + ys.length * z.length≤16777216∧Q (.str (Txt.join z ys)) H
theorem zee:MtR X "str.join" (zbT X.K):=by
 intro pins s σ H x vs v us Q I rx rv h
 obtain ⟨z,a,ys,rfl,rfl,hq,hz,q⟩:=h
 obtain ⟨t,rfl⟩:=rx
 obtain ⟨u,rfl,ru⟩:=rv.one
 cases ru
 rcases hq with hq | hq
 ·obtain ⟨its,r,p,_⟩:=I.list hq
  exact join_list p.isList (by simpa using z49 r) hz fun t' k=>⟨.str _,H,I.tok _,⟨t',rfl⟩,q⟩
 ·obtain ⟨its,r,p,_⟩:=I.tuple hq
  exact join_tuple p (by simpa using z49 r) hz fun t' k=>⟨.str _,H,I.tok _,⟨t',rfl⟩,q⟩
end
def p2 (p:D→D→Option S) (x y:D) (δ:Dl):Rs S:=match p x y with
 | some s=>.ok s δ
 | none=>.stuck
def eOp (p:D→D→Option S) (fa:DE) (fb:BE):DE:=fun δ=>(fa δ).bind fun x δ1=>(fb δ1).bind fun y δ2=>p2 p x.d y δ2
def eOpN (p:D→D→Option S) (i:Nat) (fb:BE):DE:=fun δ=>(fb δ).bind fun y δ1=>(bVar i δ1).bind fun x δ2=>p2 p x y δ2
def Op2 (r:R2) (p:D→D→Option S):Prop:=∀ (c:Fc) (σ:St) (δ:Dl) (H:Hp) (x y:V) (d e:D) (s:S) (Q:VK),Ok c σ δ H→RepB c σ δ H x d→RepB c σ δ H y e→p d e=some s →
 (∀ v H',Aft c σ δ H σ δ H'→RepS c σ δ H H' v s→Q v H')→r x y H Q
theorem RepB.aft (h:Rep H (Av c σ δ) v d) (x:Aft c σ δ H σ δ' H'):RepB c σ δ' H' v d:=.inl (Rep.aft h x)
section
variable {X:Cx} {c:Fc} {a b:Expr} {fa:DE} {fb:BE} {r:R2} {p:D→D→Option S} {pos:Pos}
theorem zau (hp:Op2 r p) (k:Ok c σ δ H) (rx:RepB c σ δ H x d) (ry:RepB c σ δ H y e)
  (h:post c (p2 p d e δ) fun s δ'=>∀ v H',Aft c σ δ H σ δ' H'→RepS c σ δ' H H' v s→Q v H'):r x y H Q:=by
 unfold p2 at h
 cases e1:p d e with
 | none=>rw [e1] at h; exact h.elim
 | some s=>rw [e1] at h; exact hp c σ δ H x y d e s Q k rx ry e1 h
theorem z6q (hp:Op2 r p) (h:tD c (eOp p fa fb) σ H Q):tOp r (tD c fa) (tB c fb) σ H Q:=by
 obtain ⟨δ,k,q⟩:=h
 refine ⟨δ,k,?_⟩
 unfold eOp at q
 rw [z03] at q
 refine z01 q fun x δ1 q1 v H1 a1 r1=>⟨δ1,a1.ok,?_⟩
 rw [z03] at q1
 refine z01 q1 fun y δ2 q2 u H2 a2 r2=>?_
 exact zau hp a2.ok (.inl (Rep.aft r1.rep a2)) r2 (z01 q2 fun s δ3 q3 v' H3 a3 r3=>q3 v' H3 (a1.trans (a2.trans a3)) (RepS.back r3 (a1.trans a2)))
theorem zcd (hp:Op2 r p) (h:tD c (eOpN p i fb) σ H Q) (hv:∀ δ,Ok c σ δ H→post c (fb δ) (fun _ _=>True)→∃ v,σ[i]? = some (some v)):tOp r (tVar i) (tB c fb) σ H Q:=by
 obtain ⟨δ,k,q⟩:=h
 unfold eOpN at q
 rw [z03] at q
 obtain ⟨v,ev⟩:=hv δ k (z01 q fun _ _ _=>trivial)
 refine ⟨v,ev,δ,k,z01 q fun y δ1 q1 u H1 a1 r1=>?_⟩
 rw [z03] at q1
 unfold bVar at q1
 cases e:δ1[i]? with
 | none=>rw [e] at q1; exact q1.elim
 | some o =>
  cases o with
  | none=>rw [e] at q1; exact q1.elim
  | some w =>
   rw [e] at q1
   have q1':post c (p2 p w.d y δ1) fun s δ'=>∀ v H',Aft c σ δ H σ δ' H'→RepS c σ δ' H H' v s→Q v H':=q1
   have rb:RepB c σ δ1 H1 v w.d:=by
    cases w with
    | pure d =>
     obtain ⟨v',e1,r⟩:=a1.ok.slot i d e
     rw [ev] at e1; cases e1
     exact .inl r
    | own d =>
     obtain ⟨a,e1,r,_⟩:=a1.ok.own i d e
     rw [ev] at e1; cases e1
     exact .inr ⟨a,rfl,r⟩
   exact zau hp a1.ok rb r1 (z01 q1' fun s δ3 q3 v' H3 a3 r3=>q3 v' H3 (a1.trans a3) (RepS.back r3 a1))
theorem z28 {i:Nat} {σ:St} {δ:Dl} {H:Hp} (k:Ok c σ δ H) {w:S} (e:δ[i]? = some (some w)):∃ v,σ[i]? = some (some v):=by
 cases w with
 | pure d=>obtain ⟨v,e1,_⟩:=k.slot i d e; exact ⟨v,e1⟩
 | own d=>obtain ⟨a,e1,_⟩:=k.own i d e; exact ⟨_,e1⟩
end
def eOpF (p:D→D→Option S) (i:Nat) (fb:BE):DE:=fun δ=>match δ[i]? with
 | some (some _)=>eOpN p i fb δ
 | _=>.stuck
section
variable {X:Cx} {c:Fc} {a b:Expr} {fa:DE} {fb:BE} {r:R2} {p:D→D→Option S} {pos:Pos}
theorem z4P (hp:Op2 r p) {i:Nat} {σ:St} {H:Hp} {Q:VK} (h:tD c (eOpF p i fb) σ H Q):tOp r (tVar i) (tB c fb) σ H Q:=by
 obtain ⟨δ,k,q⟩:=h
 unfold eOpF at q
 cases e:δ[i]? with
 | none=>rw [e] at q; exact q.elim
 | some o =>
  cases o with
  | none=>rw [e] at q; exact q.elim
  | some w =>
   rw [e] at q
   obtain ⟨v,ev⟩:=z28 k e
   exact zcd hp (i:=i) ⟨δ,k,q⟩ fun _ _ _=>⟨v,ev⟩
theorem z1x {op:Operator} (ho:OpR X (Qh op) r) (hp:Op2 r p) (ha:SE X c a fa) (hb:SB X c b fb):SE X c (.BinOp a op b pos) (eOp p fa fb):=PE.weak (zfq ho ha hb) fun _ _ _ h=>z6q hp h
theorem z1q {op:Operator} {i:Nat} (ho:OpR X (Qh op) r) (hp:Op2 r p) (ha:PE X a (tVar i)) (hb:SB X c b fb):SE X c (.BinOp a op b pos) (eOpF p i fb):=PE.weak (zfq ho ha hb) fun _ _ _ h=>z4P hp h
theorem z8D {op:CmpOp} (ho:OpR X (WA op) r) (hp:Op2 r p) (ha:SE X c a fa) (hb:SB X c b fb) (hm:Qj op b=false):SE X c (.Compare a [op] [b] pos) (eOp p fa fb):=PE.weak (zaq ho ha hb hm) fun _ _ _ h=>z6q hp h
theorem z6i {op:CmpOp} {i:Nat} (ho:OpR X (WA op) r) (hp:Op2 r p) (ha:PE X a (tVar i)) (hb:SB X c b fb) (hm:Qj op b=false):SE X c (.Compare a [op] [b] pos) (eOpF p i fb):=PE.weak (zaq ho ha hb hm) fun _ _ _ h=>z4P hp h
theorem z6X (hr:IxR X r) (hp:Op2 r p) (ha:SE X c a fa) (hb:SB X c b fb) (hs:z8u b):SE X c (.Subscript a b pos) (eOp p fa fb):=PE.weak (zfv hr ha hb hs) fun _ _ _ h=>z6q hp h
theorem z0s {i:Nat} (hr:IxR X r) (hp:Op2 r p) (ha:PE X a (tVar i)) (hb:SB X c b fb) (hs:z8u b):SE X c (.Subscript a b pos) (eOpF p i fb):=PE.weak (zfv hr ha hb hs) fun _ _ _ h=>z4P hp h
end
abbrev DT:=Dl→Rs Bool
def tT (c:Fc) (f:DT):TT:=fun σ H Q=>∃ δ,Ok c σ δ H∧post c (f δ) fun b δ'=>∀ H',Aft c σ δ H σ δ' H'→Q b H'
abbrev ST (X:Cx) (c:Fc) (e:Expr) (f:DT):Prop:=PT X e (tT c f)
theorem PT.weak (h:PT X e t) (w:∀ σ H Q,t' σ H Q→t σ H Q):PT X e t':=fun pins s σ H Q I q=>h pins s σ H Q I (w σ H Q q)
def dTr (f:DE):DT:=fun δ=>(f δ).bind fun r δ'=>match r with
 | .pure (.bl b)=>.ok b δ'
 | _=>.stuck
section
variable {X:Cx} {c:Fc} {a b:Expr} {fa f:DE} {fb:BE} {r:R2} {p:D→D→Option S} {pos:Pos}
theorem z7M (h:tT c (dTr f) σ H Q):tD c f σ H fun x H'=>∃ k,x = .bl k∧Q k H':=by
 obtain ⟨δ,k,q⟩:=h
 refine ⟨δ,k,?_⟩
 unfold dTr at q
 rw [z03] at q
 refine z01 q fun r δ1 q1 v H1 a1 r1=>?_
 cases r with
 | own d=>exact q1.elim
 | pure d =>
  cases d <;> first | exact q1.elim | skip
  rename_i b
  cases r1
  exact ⟨b,rfl,q1 H1 a1⟩
theorem z1z {op:CmpOp} (ho:OpR X (WA op) r) (hp:Op2 r p) (ha:SE X c a fa) (hb:SB X c b fb) (hm:Qj op b=false):ST X c (.Compare a [op] [b] pos) (dTr (eOp p fa fb)) :=
 PT.weak (zag ho ha hb hm) fun σ H Q h=>z6q hp (z7M h)
theorem zdp {op:CmpOp} {i:Nat} (ho:OpR X (WA op) r) (hp:Op2 r p) (ha:PE X a (tVar i)) (hb:SB X c b fb) (hm:Qj op b=false):ST X c (.Compare a [op] [b] pos) (dTr (eOpF p i fb)) :=
 PT.weak (zag ho ha hb hm) fun σ H Q h=>z4P hp (z7M h)
theorem z2p {e:Expr} (h:SE X c e f) (he:∀ whole,isTrue e X.env whole=(do let v ← whole; standAt e.pos; holding [v] (truthy v)):=by intro _; rfl):ST X c e (dTr f) :=
 PT.weak (zfh h he) fun σ H Q h=>z7M h
def dAnd (t u:DT):DT:=fun δ=>(t δ).bind fun b δ1=>if b then u δ1 else .ok false δ1
def dOr (t u:DT):DT:=fun δ=>(t δ).bind fun b δ1=>if b then .ok true δ1 else u δ1
def dNot (t:DT):DT:=fun δ=>(t δ).bind fun b δ1=>.ok (!b) δ1
abbrev SW (X:Cx) (c:Fc) (e:Expr) (f:DT):Prop:=PW X e (tT c f)
theorem PW.weak (h:PW X e t) (w:∀ σ H Q,t' σ H Q→t σ H Q):PW X e t':=fun wh pins s σ H Q I q=>h wh pins s σ H Q I (w σ H Q q)
variable {t u:DT} {rest:List Expr}
theorem z7Q (ha:ST X c a t):SW X c (.BoolOp .And [a] pos) t:=zdN ha
theorem z4u (ha:ST X c a t):SW X c (.BoolOp .Or [a] pos) t:=zff ha
theorem z9P (ha:ST X c a t) (hb:SW X c (.BoolOp .And (b :: rest) pos) u):SW X c (.BoolOp .And (a :: b :: rest) pos) (dAnd t u):=PW.weak (zfg ha hb) fun σ H Q ⟨δ,k,q⟩=>by
 unfold dAnd at q
 rw [z03] at q
 refine ⟨δ,k,z01 q fun x δ1 q1 H1 a1=>?_⟩
 cases x with
 | true=>exact ⟨δ1,a1.ok,z01 q1 fun y δ2 q2 H2 a2=>q2 H2 (a1.trans a2)⟩
 | false=>exact q1 H1 a1
theorem z5D (ha:ST X c a t) (hb:SW X c (.BoolOp .Or (b :: rest) pos) u):SW X c (.BoolOp .Or (a :: b :: rest) pos) (dOr t u):=PW.weak (pw_or ha hb) fun σ H Q ⟨δ,k,q⟩=>by
 unfold dOr at q
 rw [z03] at q
 refine ⟨δ,k,z01 q fun x δ1 q1 H1 a1=>?_⟩
 cases x with
 | false=>exact ⟨δ1,a1.ok,z01 q1 fun y δ2 q2 H2 a2=>q2 H2 (a1.trans a2)⟩
 | true=>exact q1 H1 a1
theorem z4V (h:SW X c a t):ST X c a t:=PW.pt h
theorem z2q (ha:ST X c a t):ST X c (.UnaryOp .Not a pos) (dNot t):=PT.weak (zfi ha) fun σ H Q ⟨δ,k,q⟩=>by
 unfold dNot at q
 rw [z03] at q
 exact ⟨δ,k,q⟩
def eAnd (f g:DE):DE:=fun δ=>(f δ).bind fun r δ1=>match r with
 | .pure (.bl true)=>g δ1
 | .pure (.bl false)=>.ok (.pure (.bl false)) δ1
 | _=>.stuck
def eNot (f:DE):DE:=fun δ=>(f δ).bind fun r δ1=>match r with
 | .pure (.bl b)=>.ok (.pure (.bl (!b))) δ1
 | _=>.stuck
def eIf (t:DT) (f g:DE):DE:=fun δ=>(t δ).bind fun b δ1=>if b then f δ1 else g δ1
variable {g:DE}
theorem z8B {op} (h:SE X c a f):SE X c (.BoolOp op [a] pos) f:=zfr h
theorem z70 (ha:SE X c a f) (hb:SE X c (.BoolOp .And (b :: rest) pos) g):SE X c (.BoolOp .And (a :: b :: rest) pos) (eAnd f g):=PE.weak (zfy ha hb) fun σ H Q ⟨δ,k,q⟩=>by
 unfold eAnd at q
 rw [z03] at q
 refine ⟨δ,k,z01 q fun r δ1 q1 v H1 a1 r1=>?_⟩
 cases r with
 | own d=>exact q1.elim
 | pure d =>
  cases d <;> first | exact q1.elim | skip
  rename_i b
  cases r1
  refine ⟨b,rfl,?_⟩
  cases b with
  | true=>exact ⟨δ1,a1.ok,z01 q1 fun y δ2 q2 v H2 a2 r2=>q2 v H2 (a1.trans a2) (RepS.back r2 a1)⟩
  | false=>exact q1 _ H1 a1 (.bl false)
theorem zcT (ha:SE X c a f):SE X c (.UnaryOp .Not a pos) (eNot f):=PE.weak (zfs ha) fun σ H Q ⟨δ,k,q⟩=>by
 unfold eNot at q
 rw [z03] at q
 refine ⟨δ,k,z01 q fun r δ1 q1 v H1 a1 r1=>?_⟩
 cases r with
 | own d=>exact q1.elim
 | pure d =>
  cases d <;> first | exact q1.elim | skip
  rename_i b
  cases r1
  exact ⟨b,rfl,q1 _ H1 a1 (.bl _)⟩
end
section
variable {c:Fc} {σ:St} {δ:Dl} {H:Hp} {x:V}
theorem RepB.int (h:RepB c σ δ H x (.int i)):x = .int i:=by
 rcases h with h | ⟨_,_,h⟩
 ·cases h; rfl
 ·exact h.elim
theorem RepB.bl (h:RepB c σ δ H x (.bl b)):x = .bl b:=by
 rcases h with h | ⟨_,_,h⟩
 ·cases h; rfl
 ·exact h.elim
theorem RepB.non (h:RepB c σ δ H x .non):x = .non:=by
 rcases h with h | ⟨_,_,h⟩
 ·cases h; rfl
 ·exact h.elim
theorem RepB.str (h:RepB c σ δ H x (.str z)):x = .str (toS z):=by
 rcases h with h | ⟨_,_,h⟩
 ·cases h; rfl
 ·exact h.elim
theorem RepB.tup (h:RepB c σ δ H x (.tup ds)):∃ a vs,x = .ref a∧H a=some (.tup vs)∧Reps H (Av c σ δ) vs ds:=by
 rcases h with h | ⟨_,_,h⟩
 ·cases h with
  | tup h1 h2 h3 h4=>exact ⟨_,_,rfl,h2,h3,h4⟩
 ·exact h.elim
theorem RepB.lst (h:RepB c σ δ H x (.lst ds)):∃ a vs,x = .ref a∧Rd H a (.lst vs)∧Reps H (Av c σ δ) vs ds:=by
 rcases h with h | ⟨a,e,h⟩
 ·cases h with
  | lst h1 h2 h3 h4=>exact ⟨_,_,rfl,h2,h3,h4⟩
 ·obtain ⟨vs,h1,h2⟩:=h
  exact ⟨a,vs,e,.inl h1,h2⟩
theorem RepB.dct (h:RepB c σ δ H x (.dct ds)):∃ a ws,x = .ref a∧H a=some (.dK ws)∧ws.map (·.1)=ds.map (fun p=>kOf p.1)∧∀ (i:Nat) p q,ws[i]? = some p→ds[i]? = some q→Rep H (Av c σ δ) p.2 q.2:=by
 rcases h with h | ⟨a,e,h⟩
 ·cases h with
  | dct h1 h2 h3 h4=>exact ⟨_,_,rfl,h2,h3,h4⟩
 ·obtain ⟨ws,h1,h2,h3⟩:=h
  exact ⟨a,ws,e,h1,h2,h3⟩
end
theorem z5Q (h:z.length≤W3):(toS z).length≤W3:=by rw [z2b]; exact h
theorem zdi (x y:Tx):toS x ++ toS y=toS (x ++ y):=by
 show Str.append (toS x) (toS y)=_
 simp [toS,Str.append]
def pAdd:D→D→Option S
 | .int i,.int j=>some (.pure (.int (i + j)))
 | .str x,.str y=>if x.length + y.length≤W3 then some (.pure (.str (x ++ y))) else none
 | .tup xs,.tup ys=>if xs.length + ys.length≤W3 then some (.pure (.tup (xs ++ ys))) else none
 | .lst xs,.lst ys=>if xs.length + ys.length≤W3 then some (.own (.lst (xs ++ ys))) else none
 | _,_=>none
def zf9 (K:W0):R2:=fun x y H Q=>rI0 (fun i j=>V.int (i + j)) x y H Q∨(∃ i j,x = .str i∧y = .str j∧i.length + j.length≤W3∧Q (.str (i ++ j)) H) ∨
 (∃ a b ys,x = .ref a∧y = .ref b∧SqT K H a []∧SqT K H b ys∧Q (.ref b) H)∨zf7 K x y H Q∨zf8 K x y H Q
theorem z15:OpR X (Qh .Add) (zf9 X.K):=op_add.or (op_add_str.or (op_catT0.or (op_catT.or ze9)))
theorem z1B {K:W0}:Op2 (zf9 K) pAdd:=by
 intro c σ δ H x y d e s Q k rx ry hp q
 cases d <;> cases e <;> first
  | (simp [pAdd] at hp; done)
  | skip
 ·rename_i i j
  simp only [pAdd,W6] at hp
  subst hp
  exact .inl ⟨i,j,rx.int,ry.int,q _ H (.refl k) (.int _)⟩
 ·rename_i u w
  simp only [pAdd] at hp
  split at hp
  ·rename_i hz
   simp only [W6] at hp
   subst hp
   refine .inr (.inl ⟨toS u,toS w,rx.str,ry.str,by rw [z2b,z2b]; exact hz,?_⟩)
   rw [zdi]
   exact q _ H (.refl k) (.str _)
  ·cases hp
 ·rename_i us ws
  simp only [pAdd] at hp
  split at hp
  ·rename_i hz
   simp only [W6] at hp
   subst hp
   obtain ⟨a,vs,ea,ha,ra⟩:=rx.tup
   obtain ⟨b,zs,eb,hb,rb⟩:=ry.tup
   cases vs with
   | nil =>
    have:us=[]:=by have:=ra.1; simpa using this.symm
    subst this
    refine .inr (.inr (.inl ⟨a,b,zs,ea,eb,.of ha,.of hb,?_⟩))
    rw [eb] at ry
    rcases ry with ry | ⟨_,_,ry⟩
    ·exact q _ H (.refl k) ry
    ·exact ry.elim
   | cons v0 vr =>
    refine .inr (.inr (.inr (.inl ⟨a,b,_,zs,ea,eb,.of ha,.of hb,by simp,by rw [ra.1,rb.1]; exact hz,fun e0=>?_,fun _ p hp=>?_⟩)))
    ·subst e0
     have:ws=[]:=by have:=rb.1; simpa using this.symm
     subst this
     rw [ea] at rx
     rcases rx with rx | ⟨_,_,rx⟩
     ·rw [WG] at q
      exact q _ H (.refl k) rx
     ·exact rx.elim
    ·exact q _ _ (.alloc k hp _) (RepS.newT k (ra.append rb) hp)
  ·cases hp
 ·rename_i us ws
  simp only [pAdd] at hp
  split at hp
  ·rename_i hz
   simp only [W6] at hp
   subst hp
   obtain ⟨a,vs,ea,ha,ra⟩:=rx.lst
   obtain ⟨b,zs,eb,hb,rb⟩:=ry.lst
   exact .inr (.inr (.inr (.inr ⟨a,b,vs,zs,ea,eb,.inl ha,.inl hb,by rw [ra.1,rb.1]; exact hz,fun p hp=>q _ _ (.alloc k hp _) (RepS.newL k (ra.append rb) hp)⟩)))
  ·cases hp
def pII (C:Int→Int→Bool) (g:Int→Int→D):D→D→Option S
 | .int i,.int j=>if C i j then some (.pure (g i j)) else none
 | _,_=>none
theorem zcf (hC:∀ i j,C' i j=true→C i j) (hg:∀ i j H O,Rep H O (g i j) (g' i j)):Op2 (rI C g) (pII C' g'):=by
 intro c σ δ H x y d e s Q k rx ry hp q
 cases d <;> cases e <;> first
  | (simp [pII] at hp; done)
  | skip
 rename_i i j
 simp only [pII] at hp
 split at hp
 ·rename_i hc
  simp only [W6] at hp
  subst hp
  exact ⟨i,j,rx.int,ry.int,hC i j hc,q _ H (.refl k) (hg i j H _)⟩
 ·cases hp
theorem zfF (hg:∀ i j H O,Rep H O (g i j) (g' i j)):Op2 (rI0 g) (pII (fun _ _=>true) g'):=by
 intro c σ δ H x y d e s Q k rx ry hp q
 cases d <;> cases e <;> first
  | (simp [pII] at hp; done)
  | skip
 rename_i i j
 simp only [pII,if_true,W6] at hp
 subst hp
 exact ⟨i,j,rx.int,ry.int,q _ H (.refl k) (hg i j H _)⟩
def pSub:=pII (fun _ _=>true) fun i j=>.int (i - j)
theorem z8O:Op2 (rI0 fun i j=>V.int (i - j)) pSub:=zfF fun _ _ _ _=>.int _
def cMul (i j:Int):Bool:=(decide (-(2 ^ 64) < i) && decide (i < 2 ^ 64)) || (decide (-(2 ^ 64) < j) && decide (j < 2 ^ 64))
def pMul:=pII cMul fun i j=>.int (i * j)
theorem zfD:Op2 (rI CMul fun i j=>V.int (i * j)) pMul:=zcf (fun i j h=>by
 unfold cMul at h
 simp only [Bool.or_eq_true,Wi,decide_eq_true_eq] at h
 exact h) fun _ _ _ _=>.int _
def cDiv (_ j:Int):Bool:=decide (0 < j) && decide (j < 1073741824)
def pDiv:=pII cDiv fun i j=>.int (i / j)
theorem z7f:Op2 (rI CDiv fun i j=>V.int (i / j)) pDiv:=zcf (fun i j h=>by
 unfold cDiv at h
 simp only [Wi,decide_eq_true_eq] at h
 exact h) fun _ _ _ _=>.int _
def pMod:=pII (fun _ j=>decide (0 < j)) fun i j=>.int (i % j)
theorem z5j:Op2 (rI (fun _ j=>0 < j) fun i j=>V.int (i % j)) pMod:=zcf (fun i j h=>by simpa using h) fun _ _ _ _=>.int _
def cPow (i j:Int):Bool:=decide (0≤j) && decide (j≤1000000) && decide (i.natAbs < 2 ^ 64)
def pPow:=pII cPow fun i j=>.int (i ^ j.toNat)
theorem zd4:Op2 (rI CPow fun i j=>V.int (i ^ j.toNat)) pPow:=zcf (fun i j h=>by
 unfold cPow at h
 simp only [Wi,decide_eq_true_eq] at h
 exact ⟨h.1.1,h.1.2,h.2⟩) fun _ _ _ _=>.int _
def pEq (d e:D):Option S:=if flat 50 d && flat 50 e then some (.pure (.bl (eqD d e))) else none
def pNe (d e:D):Option S:=if flat 50 d && flat 50 e then some (.pure (.bl (!eqD d e))) else none
theorem z88:Op2 rEqD pEq:=by
 intro c σ δ H x y d e s Q k rx ry hp q
 unfold pEq at hp
 split at hp
 ·rename_i hf
  rw [Wi] at hf
  simp only [W6] at hp
  subst hp
  exact ⟨d,e,rx.un,ry.un,hf.1,hf.2,q _ H (.refl k) (.bl _)⟩
 ·cases hp
theorem zaE:Op2 rNeD pNe:=by
 intro c σ δ H x y d e s Q k rx ry hp q
 unfold pNe at hp
 split at hp
 ·rename_i hf
  rw [Wi] at hf
  simp only [W6] at hp
  subst hp
  exact ⟨d,e,rx.un,ry.un,hf.1,hf.2,q _ H (.refl k) (.bl _)⟩
 ·cases hp
def pCmp (f:Int→Int→Bool) (g:Tx→Tx→Bool):D→D→Option S
 | .int i,.int j=>some (.pure (.bl (f i j)))
 | .str x,.str y=>some (.pure (.bl (g x y)))
 | _,_=>none
def rCmp (f:Int→Int→Bool) (g:List Nat→List Nat→Bool):R2:=fun x y H Q=>rI0 (fun i j=>V.bl (f i j)) x y H Q∨∃ i j,x = .str i∧y = .str j∧Q (.bl (g i.cps.toList j.cps.toList)) H
theorem z60:Op2 (rCmp f g) (pCmp f g):=by
 intro c σ δ H x y d e s Q k rx ry hp q
 cases d <;> cases e <;> first
  | (simp [pCmp] at hp; done)
  | skip
 ·rename_i i j
  simp only [pCmp,W6] at hp
  subst hp
  exact .inl ⟨i,j,rx.int,ry.int,q _ H (.refl k) (.bl _)⟩
 ·rename_i i j
  simp only [pCmp,W6] at hp
  subst hp
  refine .inr ⟨toS i,toS j,rx.str,ry.str,?_⟩
  rw [z7O,z7O]
  exact q _ H (.refl k) (.bl _)
theorem z85 {X:Cx} {op:CmpOp} {g:List Nat→List Nat→Bool} (rule:∀ (i j:Str) (t u:Tok) (Q:Value→W2→Prop) (s:W2),Q (.bool (g i.cps.toList j.cps.toList)) s→W9 (model X.prog X.w) X.A (WA op (.str i t) (.str j u)) Q X.xe s) :
  OpR X (WA op) (fun x y H Q=>∃ i j,x = .str i∧y = .str j∧Q (.bl (g i.cps.toList j.cps.toList)) H):=by
 intro pins s σ H x y v u Q I rx ry h
 obtain ⟨i,j,rfl,rfl,q⟩:=h
 obtain ⟨t,rfl⟩:=rx
 obtain ⟨t',rfl⟩:=ry
 exact rule i j t t' _ s ⟨.bl _,H,I,rfl,q⟩
def pLt:=pCmp (fun i j=>decide (i < j)) fun x y=>decide (x < y)
theorem zd3:OpR X (WA .Lt) (rCmp (fun i j=>decide (i < j)) fun x y=>decide (x < y)):=op_lt.or zay
theorem zfE:Op2 (rCmp (fun i j=>decide (i < j)) fun x y=>decide (x < y)) pLt:=z60
def pIx:D→D→Option S
 | .lst ds,.int i=>(atI ds i).map .pure
 | .tup ds,.int i=>(atI ds i).map .pure
 | .str x,.int i=>if x.length≤W3 then (atI x i).map fun n=>.pure (.str [n]) else none
 | _,_=>none
theorem z8G (r:Reps H O vs ds) (h:atI ds i=some d):∃ v,atI vs i=some v∧Rep H O v d:=by
 unfold atI at h ⊢
 rw [r.1]
 cases e:ixN ds.length i with
 | none=>rw [e] at h; cases h
 | some j =>
  rw [e] at h
  exact r.get h
theorem z0I {K:W0}:Op2 (rIx K) pIx:=by
 intro c σ δ H x y d e s Q k rx ry hp q
 cases d <;> cases e <;> first
  | (simp [pIx] at hp; done)
  | skip
 ·rename_i z i
  simp only [pIx] at hp
  split at hp
  ·rename_i hz
   cases e1:atI z i with
   | none=>rw [e1] at hp; cases hp
   | some n =>
    rw [e1] at hp
    simp only [WF,W6] at hp
    subst hp
    refine .inr (.inr ⟨toS z,i,n,rx.str,ry.int,z5Q hz,by rw [z7O]; exact e1,?_⟩)
    exact q (.str (toS [n])) H (.refl k) (.str [n])
  ·cases hp
 ·rename_i ds i
  simp only [pIx] at hp
  cases e1:atI ds i with
  | none=>rw [e1] at hp; cases hp
  | some n =>
   rw [e1] at hp
   simp only [WF,W6] at hp
   subst hp
   obtain ⟨a,vs,ea,ha,ra⟩:=rx.tup
   obtain ⟨v,e2,r2⟩:=z8G ra e1
   exact .inr (.inl ⟨a,vs,i,v,ea,ry.int,.of ha,e2,q v H (.refl k) r2⟩)
 ·rename_i ds i
  simp only [pIx] at hp
  cases e1:atI ds i with
  | none=>rw [e1] at hp; cases hp
  | some n =>
   rw [e1] at hp
   simp only [WF,W6] at hp
   subst hp
   obtain ⟨a,vs,ea,ha,ra⟩:=rx.lst
   obtain ⟨v,e2,r2⟩:=z8G ra e1
   exact .inl ⟨a,vs,i,v,ea,ry.int,.inl ha,e2,q v H (.refl k) r2⟩
def pLe:=pCmp (fun i j=>decide (i≤j)) fun x y=>!decide (y < x)
def pGt:=pCmp (fun i j=>decide (j < i)) fun x y=>decide (y < x)
def pGe:=pCmp (fun i j=>decide (j≤i)) fun x y=>!decide (x < y)
theorem zaz:OpR X (WA .LtE) (rCmp (fun i j=>decide (i≤j)) fun x y=>!decide (y < x)):=op_le.or (z85 (g:=fun x y=>!decide (y < x)) fun _ _ _ _ _ _ h=>PySem.P.le_str h)
theorem zfA:OpR X (WA .Gt) (rCmp (fun i j=>decide (j < i)) fun x y=>decide (y < x)):=op_gt.or (z85 (g:=fun x y=>decide (y < x)) fun _ _ _ _ _ _ h=>PySem.P.gt_str h)
theorem zfB:OpR X (WA .GtE) (rCmp (fun i j=>decide (j≤i)) fun x y=>!decide (x < y)):=op_ge.or (z85 (g:=fun x y=>!decide (x < y)) fun _ _ _ _ _ _ h=>PySem.P.ge_str h)
abbrev DA:=Dl→Rs (List D)
def tAD (c:Fc) (f:DA):TA:=fun σ H Q=>∃ δ,Ok c σ δ H∧post c (f δ) fun ds δ'=>∀ vs H',Aft c σ δ H σ δ' H'→Reps H' (Av c σ δ') vs ds→Q vs H'
structure SA (X:Cx) (c:Fc) (es:List Expr) (f:DA):Prop where
 pa:PA X es (tAD c f)
 len:∀ δ ds δ',f δ = .ok ds δ'→ds.length=es.length
theorem PA.weak (h:PA X es t) (w:∀ σ H Q,t' σ H Q→t σ H Q):PA X es t':=fun pos pins s σ H Q I q=>h pos pins s σ H Q I (w σ H Q q)
def aNil:DA:=fun δ=>.ok [] δ
def z0l (f:DE) (g:DA):DA:=fun δ=>(f δ).bind fun x δ1=>(g δ1).bind fun xs δ2=>.ok (x.d :: xs) δ2
section
variable {X:Cx} {c:Fc} {e:Expr} {es:List Expr} {f:DE} {g:DA} {pos:Pos}
theorem z0W:SA X c [] aNil:=⟨PA.weak z25 fun σ H Q ⟨δ,k,q⟩=>q [] H (.refl k) .nil,fun δ ds δ' h=>by cases h; rfl⟩
theorem za2 (ha:SE X c e f) (hr:SA X c es g) (hs:W7 (e :: es) X.env=(false,eval e X.env) :: W7 es X.env:=by rfl):SA X c (e :: es) (z0l f g):=by
 refine ⟨PA.weak (z0T ha hr.pa hs) fun σ H Q ⟨δ,k,q⟩=>?_,fun δ ds δ' h=>?_⟩
 ·unfold z0l at q
  rw [z03] at q
  refine ⟨δ,k,z01 q fun x δ1 q1 v H1 a1 r1=>⟨δ1,a1.ok,?_⟩⟩
  rw [z03] at q1
  exact z01 q1 fun xs δ2 q2 vs H2 a2 r2=>q2 (v :: vs) H2 (a1.trans a2) (.cons (Rep.aft r1.rep a2) r2)
 ·unfold z0l at h
  cases h1:f δ with
  | ok x δ1 =>
   rw [h1] at h
   cases h2:g δ1 with
   | ok xs δ2 =>
    simp only [Rs.bind,h2] at h
    cases h
    simp [hr.len _ _ _ h2]
   | exc x δx=>simp only [Rs.bind,h2] at h; cases h
   | stuck=>simp only [Rs.bind,h2] at h; cases h
  | exc x δx=>rw [h1] at h; cases h
  | stuck=>rw [h1] at h; cases h
def eTup (f:DA):DE:=fun δ=>(f δ).bind fun ds δ'=>.ok (.pure (.tup ds)) δ'
def eLst (f:DA):DE:=fun δ=>(f δ).bind fun ds δ'=>.ok (.own (.lst ds)) δ'
theorem z5T (h:n≤1000):n≤W3:=Nat.le_of_lt (z9X h)
theorem z77 (h:post c r k):post c r fun a δ=>r = .ok a δ∧k a δ:=by
 cases r with
 | ok a δ=>exact ⟨rfl,h⟩
 | exc x δx=>exact h
 | stuck=>exact h
theorem z3w {x1} (h:SA X c es g) (hz:es.length≤1000:=by decide):SE X c (.Tuple es x1 pos) (eTup g):=PE.weak (zfo h.pa) fun σ H Q ⟨δ,k,q⟩=>by
 unfold eTup at q
 rw [z03] at q
 refine ⟨δ,k,z01 (z77 q) fun ds δ1 ⟨e1,q1⟩ vs H1 a1 r1=>?_⟩
 have hl:=h.len _ _ _ e1
 exact ⟨by rw [r1.1,hl]; exact z5T hz,fun p hp=>q1 _ _ (a1.trans (.alloc a1.ok hp _)) (RepS.back (RepS.newT a1.ok r1 hp) a1)⟩
theorem z1r (h:SA X c es g) (hz:es.length≤1000:=by decide):SE X c (.List es pos) (eLst g):=PE.weak (zfu h.pa) fun σ H Q ⟨δ,k,q⟩=>by
 unfold eLst at q
 rw [z03] at q
 refine ⟨δ,k,z01 (z77 q) fun ds δ1 ⟨e1,q1⟩ vs H1 a1 r1=>?_⟩
 have hl:=h.len _ _ _ e1
 exact ⟨by rw [r1.1,hl]; exact z5T hz,fun p hp=>q1 _ _ (a1.trans (.alloc a1.ok hp _)) (RepS.back (RepS.newL a1.ok r1 hp) a1)⟩
end
def p1 (p:D→Option S) (x:D) (δ:Dl):Rs S:=match p x with
 | some s=>.ok s δ
 | none=>.stuck
def eC1 (p:D→Option S) (fb:BE):DE:=fun δ=>(fb δ).bind fun x δ1=>p1 p x δ1
def Op1 (r:V→Hp→VK→Prop) (p:D→Option S):Prop:=∀ (c:Fc) (σ:St) (δ:Dl) (H:Hp) (x:V) (d:D) (s:S) (Q:VK),Ok c σ δ H→RepB c σ δ H x d→p d=some s →
 (∀ v H',Aft c σ δ H σ δ H'→RepS c σ δ H H' v s→Q v H')→r x H Q
section
variable {X:Cx} {c:Fc} {e:Expr} {fb:BE} {r:V→Hp→VK→Prop} {p:D→Option S} {x:Str} {id T:String} {pp pos:Pos}
theorem z84 (hp:Op1 r p) (k:Ok c σ δ H) (rx:RepB c σ δ H v d)
  (h:post c (p1 p d δ) fun s δ'=>∀ v H',Aft c σ δ H σ δ' H'→RepS c σ δ' H H' v s→Q v H'):r v H Q:=by
 unfold p1 at h
 cases e1:p d with
 | none=>rw [e1] at h; exact h.elim
 | some s=>rw [e1] at h; exact hp c σ δ H v d s Q k rx e1 h
theorem z3z (hp:Op1 r p) (h:tD c (eC1 p fb) σ H Q):tUn r (tB c fb) σ H Q:=by
 obtain ⟨δ,k,q⟩:=h
 unfold eC1 at q
 rw [z03] at q
 exact ⟨δ,k,z01 q fun y δ1 q1 v H1 a1 r1=>z84 hp a1.ok r1 (z01 q1 fun s δ2 q2 w H2 a2 r2=>q2 w H2 (a1.trans a2) (RepS.back r2 a1))⟩
theorem z8E (hc:CallR X (.builtin id) rl) (hl:∀ v H Q,r v H Q→rl [v] H Q) (hp:Op1 r p) (hg:Gl X x) (hm:X.mg x=none) (hv:Qg x=some (.builtin id)) (he:SB X c e fb)
  (hn:x≠"__name__":=by decide) (hdb:(x == ("__debug__" : Str))=false:=by decide) (hs:W7 [e] X.env=(false,eval e X.env) :: W7 [] X.env:=by rfl) (hpl:(WT pos (W7 [] X.env)).any (·.1)=false:=by rfl) :
  SE X c (.Call (.Name x pp) [e] [] pos) (eC1 p fb):=PE.weak (z3V hc hg hm hv (z0T he z25 hs) hn hdb hs hpl) fun σ H Q h=>by
 obtain ⟨δ,k,q⟩:=z3z hp h
 exact ⟨δ,k,z01 q fun y δ1 q1 v H1 a1 r1=>hl _ _ _ (q1 v H1 a1 r1)⟩
theorem z4X (hc:CallR X (.type T) rl) (hl:∀ v H Q,r v H Q→rl [v] H Q) (hp:Op1 r p) (hg:Gl X x) (hm:X.mg x=none) (hv:Qg x=some (.type T)) (he:SB X c e fb)
  (hn:x≠"__name__":=by decide) (hdb:(x == ("__debug__" : Str))=false:=by decide) (hs:W7 [e] X.env=(false,eval e X.env) :: W7 [] X.env:=by rfl) (hpl:(WT pos (W7 [] X.env)).any (·.1)=false:=by rfl) :
  SE X c (.Call (.Name x pp) [e] [] pos) (eC1 p fb):=PE.weak (zar hc hg hm hv (z0T he z25 hs) hn hdb hs hpl) fun σ H Q h=>by
 obtain ⟨δ,k,q⟩:=z3z hp h
 exact ⟨δ,k,z01 q fun y δ1 q1 v H1 a1 r1=>hl _ _ _ (q1 v H1 a1 r1)⟩
def pLen:D→Option S
 | .lst ds=>some (.pure (.int ds.length))
 | .tup ds=>some (.pure (.int ds.length))
 | .str z=>if z.length≤W3 then some (.pure (.int z.length)) else none
 | .dct ds=>some (.pure (.int ds.length))
 | _=>none
def rLen (K:W0):V→Hp→VK→Prop:=fun v H Q=>((∃ p ys,v = .ref p∧(SqL K H p ys∨SqT K H p ys)∧Q (.int ys.length) H)∨∃ z,v = .str z∧z.length≤W3∧Q (.int z.length) H)∨∃ a kvs,v=V.ref a∧H a=some (.dK kvs)∧Q (.int kvs.length) H
theorem zfH {K:W0}:Op1 (rLen K) pLen:=by
 intro c σ δ H x d s Q k rx hp q
 cases d with
 | lst ds =>
  simp only [pLen,W6] at hp
  subst hp
  obtain ⟨a,vs,ea,ha,ra⟩:=rx.lst
  exact .inl (.inl ⟨a,vs,ea,.inl (.inl ha),by rw [ra.1]; exact q _ H (.refl k) (.int _)⟩)
 | tup ds =>
  simp only [pLen,W6] at hp
  subst hp
  obtain ⟨a,vs,ea,ha,ra⟩:=rx.tup
  exact .inl (.inl ⟨a,vs,ea,.inr (.of ha),by rw [ra.1]; exact q _ H (.refl k) (.int _)⟩)
 | str z =>
  simp only [pLen] at hp
  split at hp
  ·rename_i hz
   simp only [W6] at hp
   subst hp
   exact .inl (.inr ⟨toS z,rx.str,z5Q hz,by rw [z2b]; exact q _ H (.refl k) (.int _)⟩)
  ·cases hp
 | dct ds =>
  simp only [pLen,W6] at hp
  subst hp
  obtain ⟨a,ws,ea,ha,h1,h2⟩:=rx.dct
  have hl:ws.length=ds.length:=by have:=congrArg Jh h1; simpa using this
  exact .inr ⟨a,ws,ea,ha,by rw [hl]; exact q _ H (.refl k) (.int _)⟩
 | _=>simp [pLen] at hp
theorem z2Z (hg:Gl X "len") (hm:X.mg "len" = none) (he:SB X c e fb) (hs:W7 [e] X.env=(false,eval e X.env) :: W7 [] X.env:=by rfl):SE X c (.Call (.Name "len" pp) [e] [] pos) (eC1 pLen fb) :=
 z8E ((call_len_seq.or z7H).or zbq) (fun v H Q h=>by
  rcases h with (⟨p,ys,e,h⟩ | ⟨z,e,h⟩) | ⟨a,kvs,e,h⟩
  ·exact .inl (.inl ⟨p,ys,by rw [e],h⟩)
  ·exact .inl (.inr ⟨z,by rw [e],h⟩)
  ·exact .inr ⟨a,kvs,by rw [e],h⟩) (zfH (K:=X.K)) hg hm PySem.boot_len he (by decide) (by decide) hs
def z2J:D→Option S
 | .lst ds=>some (.pure (.tup ds))
 | .tup ds=>some (.pure (.tup ds))
 | _=>none
def zf2 (K:W0):V→Hp→VK→Prop:=fun v H Q=>∃ p ys,v = .ref p∧((SqL K H p ys∧∀ l,H l=none→Q (.ref l) (upd H l (.tup ys)))∨(SqT K H p ys∧Q (.ref p) H))
theorem zcg {K:W0}:Op1 (zf2 K) z2J:=by
 intro c σ δ H x d s Q k rx hp q
 cases d with
 | lst ds =>
  simp only [z2J,W6] at hp
  subst hp
  obtain ⟨a,vs,ea,ha,ra⟩:=rx.lst
  exact ⟨a,vs,ea,.inl ⟨.inl ha,fun l hl=>q _ _ (.alloc k hl _) (RepS.newT k ra hl)⟩⟩
 | tup ds =>
  simp only [z2J,W6] at hp
  subst hp
  obtain ⟨a,vs,ea,ha,ra⟩:=rx.tup
  refine ⟨a,vs,ea,.inr ⟨.of ha,?_⟩⟩
  rw [ea] at rx
  rcases rx with rx | ⟨_,_,rx⟩
  ·exact q _ H (.refl k) rx
  ·exact rx.elim
 | _=>simp [z2J] at hp
theorem z6h (hg:Gl X "tuple") (hm:X.mg "tuple" = none) (he:SB X c e fb) (hs:W7 [e] X.env=(false,eval e X.env) :: W7 [] X.env:=by rfl):SE X c (.Call (.Name "tuple" pp) [e] [] pos) (eC1 z2J fb) :=
 z4X z6L (fun v H Q ⟨p,ys,e,h⟩=>⟨p,ys,by rw [e],h⟩) (zcg (K:=X.K)) hg hm PyProof.Rows.boot_tuple he (by decide) (by decide) hs
def pInt:D→Option S
 | .int i=>some (.pure (.int i))
 | .bl b=>some (.pure (.int (if b then 1 else 0)))
 | _=>none
theorem zdB (hg:Gl X "int") (hm:X.mg "int" = none) (he:SB X c e fb) (hs:W7 [e] X.env=(false,eval e X.env) :: W7 [] X.env:=by rfl):SE X c (.Call (.Name "int" pp) [e] [] pos) (eC1 pInt fb) :=
 z4X (r:=fun v H Q=>(∃ i,v = .int i∧Q (.int i) H)∨∃ k,v = .bl k∧Q (.int (if k then 1 else 0)) H) zbr (fun v H Q h=>by
  rcases h with ⟨i,e,q⟩ | ⟨k,e,q⟩
  ·exact .inl ⟨i,by rw [e],q⟩
  ·exact .inr ⟨k,by rw [e],q⟩) (fun c σ δ H x d s Q k rx hp q=>by
  cases d with
  | int i =>
   simp only [pInt,W6] at hp
   subst hp
   exact .inl ⟨i,rx.int,q _ H (.refl k) (.int _)⟩
  | bl b =>
   simp only [pInt,W6] at hp
   subst hp
   exact .inr ⟨b,rx.bl,q _ H (.refl k) (.int _)⟩
  | _=>simp [pInt] at hp) hg hm PyProof.Rows.boot_int he (by decide) (by decide) hs
def z5O:List D→Option (List Bool)
 | []=>some []
 | .bl b :: r=>(z5O r).map (b :: ·)
 | _ :: _=>none
def z3q:List D→Option (List Tx)
 | []=>some []
 | .str x :: r=>(z3q r).map (x :: ·)
 | _ :: _=>none
theorem z4e:∀ {ds:List D} {vs:List V} {bs:List Bool},z5O ds=some bs→Reps H O vs ds→vs=bs.map V.bl
 | [],vs,bs,h,r=>by
  simp only [z5O,W6] at h
  subst h
  have:=r.1
  simpa using this
 | d :: ds,[],bs,h,r=>by have:=r.1; simp at this
 | d :: ds,v :: vs,bs,h,r=>by
  cases d with
  | bl b =>
   simp only [z5O] at h
   cases e:z5O ds with
   | none=>rw [e] at h; cases h
   | some bs' =>
    rw [e] at h
    simp only [WF,W6] at h
    subst h
    have:=r.head
    cases this
    rw [z4e e r.tail]
    rfl
  | _=>simp [z5O] at h
theorem z3o:∀ {ds:List D} {vs:List V} {bs:List Tx},z3q ds=some bs→Reps H O vs ds→vs=bs.map fun z=>V.str (toS z)
 | [],vs,bs,h,r=>by
  simp only [z3q,W6] at h
  subst h
  have:=r.1
  simpa using this
 | d :: ds,[],bs,h,r=>by have:=r.1; simp at this
 | d :: ds,v :: vs,bs,h,r=>by
  cases d with
  | str b =>
   simp only [z3q] at h
   cases e:z3q ds with
   | none=>rw [e] at h; cases h
   | some bs' =>
    rw [e] at h
    simp only [WF,W6] at h
    subst h
    have:=r.head
    cases this
    rw [z3o e r.tail]
    rfl
  | _=>simp [z3q] at h
def pMax:D→D→Option S
 | .int i,.int j=>some (.pure (.int (if j > i then j else i)))
 | _,_=>none
def eMax (f g:DE):DE:=fun δ=>(f δ).bind fun x δ1=>(g δ1).bind fun y δ2=>p2 pMax x.d y.d δ2
theorem zeT {a b:Expr} {f g:DE} (hc:X.calm=true) (hg:Gl X "max") (hm:X.mg "max" = none) (ha:SE X c a f) (hb:SE X c b g) (hs:W7 [a,b] X.env=(false,eval a X.env) :: W7 [b] X.env:=by rfl)
  (hs2:W7 [b] X.env=(false,eval b X.env) :: W7 [] X.env:=by rfl) (hpl:(WT pos (W7 [b] X.env)).any (·.1)=false:=by rfl):SE X c (.Call (.Name "max" pp) [a,b] [] pos) (eMax f g) :=
 PE.weak (z3V (zbp hc) hg hm PyProof.Rows.boot_max (z0T ha (z0T hb z25 hs2) hs) (by decide) (by decide) hs hpl) fun σ H Q ⟨δ,k,q⟩=>by
  unfold eMax at q
  rw [z03] at q
  refine ⟨δ,k,z01 q fun x δ1 q1 v H1 a1 r1=>⟨δ1,a1.ok,?_⟩⟩
  rw [z03] at q1
  refine z01 q1 fun y δ2 q2 u H2 a2 r2=>?_
  unfold p2 at q2
  have hx:RepB c σ δ2 H2 v x.d:=.inl (Rep.aft r1.rep a2)
  have hy:=r2.b
  generalize x.d=dx at q2 hx
  generalize y.d=dy at q2 hy
  cases dx <;> cases dy <;> first
   | exact q2.elim
   | skip
  rename_i i j
  exact ⟨i,j,by rw [hx.int,hy.int],q2 _ H2 (a1.trans a2) (.int _)⟩
def isTy (T:String):D→Option Bool
 | .non=>some (T == "NoneType")
 | .bl _=>some (T == "bool" || T == "int")
 | .int _=>some (T == "int")
 | .str _=>some (T == "str")
 | .tup _=>some (T == "tuple")
 | .lst _=>some (T == "list")
 | .dct _=>some (T == "dict")
 | .exc _=>none
structure TyK (K:W0) (T:String):Prop where
 non:Qu K (.type "NoneType") (.type T)=some (T == "NoneType")
 bl:Qu K (.type "bool") (.type T)=some (T == "bool" || T == "int")
 int:Qu K (.type "int") (.type T)=some (T == "int")
 str:Qu K (.type "str") (.type T)=some (T == "str")
 tup:Qu K (.type "tuple") (.type T)=some (T == "tuple")
 lst:Qu K (.type "list") (.type T)=some (T == "list")
 dct:Qu K (.type "dict") (.type T)=some (T == "dict")
def eIsi (T:String) (fb:BE):DE:=fun δ=>(fb δ).bind fun d δ'=>match isTy T d with
 | some b=>.ok (.pure (.bl b)) δ'
 | none=>.stuck
theorem zcs (ty:TyK X.K T) (I:Inv X pins σ H s) (ru:RelV v u) (r:Rep H NoO v d) (e:isTy T d=some b) (q:Q (.bl b) H) :
  W9 (model X.prog X.w) X.A (call (.builtin "isinstance") [u,.type T]) (EP X pins σ Q) X.xe s:=by
 have fin:∀ tk,EP X pins σ Q (.bool b) { s with toks:=tk }:=fun tk=>⟨.bl b,H,I.tok tk,rfl,q⟩
 cases r with
 | non=>exact z1W I ru .non (ty.non.trans e) fin
 | bl x=>exact z1W I ru (.bl x) (ty.bl.trans e) fin
 | int x=>exact z1W I ru (.int x) (ty.int.trans e) fin
 | str x=>exact z1W I ru (.str _) (ty.str.trans e) fin
 | tup _ h2 _ _=>exact z1W I ru (.tup h2) (ty.tup.trans e) fin
 | lst _ h2 _ _ =>
  rcases h2 with h2 | ⟨o,h2⟩
  ·exact z1W I ru (.lst h2) (ty.lst.trans e) fin
  ·exact z1W I ru (.frz h2) (ty.lst.trans e) fin
 | dct _ h2 _ _=>exact z1W I ru (.dK h2) (ty.dct.trans e) fin
 | exc _ _=>cases e
theorem zcM (ty:TyK X.K T):CallR X (.builtin "isinstance") (fun xs H Q=>∃ v d b,xs=[v,.ty T]∧Rep H NoO v d∧isTy T d=some b∧Q (.bl b) H):=by
 intro pins s σ H xs us Q I r h
 obtain ⟨v,d,b,rfl,rp,e,q⟩:=h
 obtain ⟨u,w',rfl,r1,r2⟩:=zde r
 cases r2
 exact zcs ty I r1 rp e q
theorem z5W {y:Str} {py:Pos} (ty:TyK X.K T) (hg:Gl X "isinstance") (hm:X.mg "isinstance" = none) (hgy:Gl X y) (hmy:X.mg y=none) (hvy:Qg y=some (.type T)) (he:SB X c e fb)
  (hny:y≠"__name__":=by decide) (hdy:(y == ("__debug__" : Str))=false:=by decide)
  (hs:W7 [e,.Name y py] X.env=(false,eval e X.env) :: W7 [.Name y py] X.env:=by rfl) (hpl:(WT pos (W7 [.Name y py] X.env)).any (·.1)=false:=by rfl) :
  SE X c (.Call (.Name "isinstance" pp) [e,.Name y py] [] pos) (eIsi T fb) :=
 PE.weak (z3V (zcM ty) hg hm PyProof.Rows.boot_isinstance (z0T he (z0T (zas (v:=.ty T) hgy hmy hvy rfl hny hdy) z25) hs) (by decide) (by decide) hs hpl) fun σ H Q ⟨δ,k,q⟩=>by
  unfold eIsi at q
  rw [z03] at q
  refine ⟨δ,k,z01 q fun d δ1 q1 v H1 a1 r1=>?_⟩
  cases e1:isTy T d with
  | none=>rw [e1] at q1; exact q1.elim
  | some b =>
   rw [e1] at q1
   exact ⟨v,d,b,rfl,r1.un,e1,q1 _ H1 a1 (.bl _)⟩
end
abbrev DOp:=Dl→Rs (Option Int)
def tOD (c:Fc) (f:DOp):TO:=fun σ H Q=>∃ δ,Ok c σ δ H∧post c (f δ) fun o δ'=>∀ H',Aft c σ δ H σ δ' H'→Q o H'
abbrev SO (X:Cx) (c:Fc) (e:Option Expr) (f:DOp):Prop:=PO X e (tOD c f)
theorem PO.weak (h:PO X e t) (w:∀ σ H Q,t' σ H Q→t σ H Q):PO X e t':=fun pins s σ H Q I q=>h pins s σ H Q I (w σ H Q q)
def zce:DOp:=fun δ=>.ok none δ
def z3r (f:DE):DOp:=fun δ=>(f δ).bind fun r δ'=>match r with
 | .pure (.int i)=>.ok (some i) δ'
 | _=>.stuck
section
variable {X:Cx} {c:Fc} {e:Expr} {f:DE} {fb:BE} {fl fh:DOp} {lo hi:Option Expr} {pos p2:Pos}
theorem z9V:SO X c none zce:=PO.weak zdY fun σ H Q ⟨δ,k,q⟩=>q H (.refl k)
theorem z4a (h:SE X c e f):SO X c (some e) (z3r f):=PO.weak (zdX h) fun σ H Q ⟨δ,k,q⟩=>by
 unfold z3r at q
 rw [z03] at q
 refine ⟨δ,k,z01 q fun r δ1 q1 v H1 a1 r1=>?_⟩
 cases r with
 | own d=>exact q1.elim
 | pure d =>
  cases d <;> first | exact q1.elim | skip
  rename_i i
  cases r1
  exact ⟨i,rfl,q1 H1 a1⟩
def pSl (lo hi:Option Int):D→Option S
 | .str x=>if x.length≤W3 then some (.pure (.str (cutL x lo hi))) else none
 | .tup ds=>some (.pure (.tup (cutL ds lo hi)))
 | .lst ds=>some (.own (.lst (cutL ds lo hi)))
 | _=>none
def rSlD (K:W0):V→Option Int→Option Int→Hp→VK→Prop:=fun x lo hi H Q=>rSlS x lo hi H Q∨zf3 K x lo hi H Q∨rSlL K x lo hi H Q
theorem sl_D:SlR X (rSlD X.K):=sl_str.or (sl_tup2.or zdt)
theorem zfG {K:W0} (lo hi:Option Int):Op1 (fun x H Q=>rSlD K x lo hi H Q) (pSl lo hi):=by
 intro c σ δ H x d s Q k rx hp q
 cases d with
 | str z =>
  simp only [pSl] at hp
  split at hp
  ·rename_i hz
   simp only [W6] at hp
   subst hp
   exact .inl ⟨z,rx.str,hz,q _ H (.refl k) (.str _)⟩
  ·cases hp
 | tup ds =>
  simp only [pSl,W6] at hp
  subst hp
  obtain ⟨a,vs,ea,ha,ra⟩:=rx.tup
  refine .inr (.inl ⟨a,vs,ea,.of ha,fun hw=>?_,fun _ p hp=>?_⟩)
  ·rw [ra.1] at hw
   rw [zbk hw] at q
   rw [ea] at rx
   rcases rx with rx | ⟨_,_,rx⟩
   ·exact q _ H (.refl k) rx
   ·exact rx.elim
  ·rw [← zdb]
   exact q _ _ (.alloc k hp _) (RepS.newT k (ra.cut lo hi) hp)
 | lst ds =>
  simp only [pSl,W6] at hp
  subst hp
  obtain ⟨a,vs,ea,ha,ra⟩:=rx.lst
  refine .inr (.inr ⟨a,vs,ea,.inl ha,fun p hp=>?_⟩)
  rw [← zdb]
  exact q _ _ (.alloc k hp _) (RepS.newL k (ra.cut lo hi) hp)
 | _=>simp [pSl] at hp
def eSl (f:DE) (fl fh:DOp):DE:=fun δ=>(f δ).bind fun x δ1=>(fl δ1).bind fun l δ2=>(fh δ2).bind fun h δ3=>p1 (pSl l h) x.d δ3
theorem se_sl (he:SE X c e f) (hl:SO X c lo fl) (hh:SO X c hi fh):SE X c (.Subscript e (.Slice lo hi none p2) pos) (eSl f fl fh):=PE.weak (z8J sl_D he hl hh) fun σ H Q ⟨δ,k,q⟩=>by
 unfold eSl at q
 rw [z03] at q
 refine ⟨δ,k,z01 q fun x δ1 q1 v H1 a1 r1=>⟨δ1,a1.ok,?_⟩⟩
 rw [z03] at q1
 refine z01 q1 fun l δ2 q2 H2 a2=>⟨δ2,a2.ok,?_⟩
 rw [z03] at q2
 refine z01 q2 fun h δ3 q3 H3 a3=>?_
 exact z84 (zfG l h) a3.ok (.inl (Rep.aft r1.rep (a2.trans a3))) (z01 q3 fun s δ4 q4 w H4 a4 r4=>q4 w H4 (a1.trans (a2.trans (a3.trans a4))) (RepS.back r4 (a1.trans (a2.trans a3))))
def eSlN (i:Nat) (fl fh:DOp):DE:=fun δ=>match δ[i]? with
 | some (some _)=>(fl δ).bind fun l δ2=>(fh δ2).bind fun h δ3=>(bVar i δ3).bind fun x δ4=>p1 (pSl l h) x δ4
 | _=>.stuck
theorem z7T {i:Nat} {σ:St} {δ:Dl} {H:Hp} {v:V} {w:S} (k:Ok c σ δ H) (e:δ[i]? = some (some w)) (ev:σ[i]? = some (some v)):RepB c σ δ H v w.d:=by
 cases w with
 | pure d =>
  obtain ⟨v',e1,r⟩:=k.slot i d e
  rw [ev] at e1; cases e1
  exact .inl r
 | own d =>
  obtain ⟨a,e1,r,_⟩:=k.own i d e
  rw [ev] at e1; cases e1
  exact .inr ⟨a,rfl,r⟩
theorem zbt (h:post c ((bVar i δ).bind g) kk):∃ w,δ[i]? = some (some w)∧post c (g w.d δ) kk:=by
 unfold bVar at h
 cases e:δ[i]? with
 | none=>rw [e] at h; exact h.elim
 | some o =>
  cases o with
  | none=>rw [e] at h; exact h.elim
  | some w=>rw [e] at h; exact ⟨w,rfl,h⟩
theorem za0 {i:Nat} (he:PE X e (tVar i)) (hl:SO X c lo fl) (hh:SO X c hi fh):SE X c (.Subscript e (.Slice lo hi none p2) pos) (eSlN i fl fh):=PE.weak (z8J sl_D he hl hh) fun σ H Q ⟨δ,k,q⟩=>by
 unfold eSlN at q
 cases e:δ[i]? with
 | none=>rw [e] at q; exact q.elim
 | some o =>
  cases o with
  | none=>rw [e] at q; exact q.elim
  | some w =>
   rw [e] at q
   obtain ⟨v,ev⟩:=z28 k e
   have q':post c ((fl δ).bind fun l δ2=>(fh δ2).bind fun h δ3=>(bVar i δ3).bind fun x δ4=>p1 (pSl l h) x δ4) fun r δ'=>∀ v H',Aft c σ δ H σ δ' H'→RepS c σ δ' H H' v r→Q v H':=q
   rw [z03] at q'
   refine ⟨v,ev,δ,k,z01 q' fun l δ2 q2 H2 a2=>⟨δ2,a2.ok,?_⟩⟩
   rw [z03] at q2
   refine z01 q2 fun h δ3 q3 H3 a3=>?_
   obtain ⟨w3,e3,q4⟩:=zbt q3
   exact z84 (zfG l h) a3.ok (z7T a3.ok e3 ev) (z01 q4 fun s δ4 q4 w H4 a4 r4=>q4 w H4 (a2.trans (a3.trans a4)) (RepS.back r4 (a2.trans a3)))
def pRev:D→Option S
 | .str x=>if x.length≤W3 then some (.pure (.str x.reverse)) else none
 | .lst ds=>some (.own (.lst ds.reverse))
 | _=>none
def rRev (K:W0):V→Hp→VK→Prop:=fun x H Q=>(∃ z:Tx,x = .str (toS z)∧z.length≤W3∧Q (.str (toS z.reverse)) H)∨∃ a xs,x = .ref a∧SqL K H a xs∧∀ p,H p=none→Q (.ref p) (upd H p (.lst xs.reverse))
def z5n (z:Tx):List Tx→Tx
 | []=>[]
 | [x]=>x
 | x :: y :: r=>x ++ z ++ z5n z (y :: r)
theorem z8W (z:Tx):∀ (r:List Tx) (acc:Tx),((r.map toS).foldl (fun (acc:Array Nat) p=>acc ++ (toS z).cps ++ p.cps) acc.toArray)=(match r with | []=>acc | x :: r'=>acc ++ z ++ z5n z (x :: r')).toArray
 | [],acc=>rfl
 | x :: r,acc=>by
  rw [Wr,Q6]
  have e:acc.toArray ++ (toS z).cps ++ (toS x).cps=(acc ++ z ++ x).toArray:=by simp [toS]
  rw [e,z8W z r (acc ++ z ++ x)]
  cases r with
  | nil=>simp [z5n]
  | cons y r'=>simp [z5n]
theorem zej (z:Tx) (ts:List Tx):Txt.join (toS z) (ts.map toS)=toS (z5n z ts):=by
 show Builtin.Str.glued _ _=_
 unfold Builtin.Str.glued
 cases ts with
 | nil=>rfl
 | cons x r =>
  rw [Wr]
  show (⟨(List.foldl _ (toS x).cps (r.map toS))⟩:Str)=_
  have:=z8W z r x
  have e:(toS x).cps=x.toArray:=rfl
  rw [e,this]
  cases r with
  | nil=>rfl
  | cons y r'=>rfl
def z7l (ts:List Tx):Nat:=(ts.map (·.length)).sum
def z83 (z:Tx):D→Option S
 | .lst ds=>match z3q ds with
  | some ts=>if z7l ts + ts.length * z.length≤16777216 then some (.pure (.str (z5n z ts))) else none
  | none=>none
 | .tup ds=>match z3q ds with
  | some ts=>if z7l ts + ts.length * z.length≤16777216 then some (.pure (.str (z5n z ts))) else none
  | none=>none
 | _=>none
theorem zeb {K:W0} (z:Tx):Op1 (fun x H Q=>zbT K (.str (toS z)) [x] H Q) (z83 z):=by
 intro c σ δ H x d s Q k rx hp q
 have key:∀ (a:Addr) (vs:List V) (ds:List D),x = .ref a→(SqL K H a vs∨SqT K H a vs)→Reps H (Av c σ δ) vs ds→(match z3q ds with | some ts=>if z7l ts + ts.length * z.length≤16777216 then some (S.pure (.str (z5n z ts))) else none | none=>none)=some s→zbT K (.str (toS z)) [x] H Q:=by
  intro a vs ds ea ha ra hp
  cases e:z3q ds with
  | none=>rw [e] at hp; cases hp
  | some ts =>
   rw [e] at hp
   simp only at hp
   split at hp
   ·rename_i hz
    simp only [W6] at hp
    subst hp
    have:=z3o e ra
    subst this
    refine ⟨toS z,a,ts.map toS,rfl,by rw [ea],?_,?_,?_⟩
    ·rw [Jj]; exact ha
    ·rw [Jj,Qn,z2b]
     have:((fun x:Str=>x.length) ∘ toS)=fun x:Tx=>x.length:=funext fun x=>z2b x
     rw [this]
     exact hz
    ·rw [zej]
     exact q _ H (.refl k) (.str _)
   ·cases hp
 cases d with
 | lst ds =>
  obtain ⟨a,vs,ea,ha,ra⟩:=rx.lst
  exact key a vs ds ea (.inl (.inl ha)) ra hp
 | tup ds =>
  obtain ⟨a,vs,ea,ha,ra⟩:=rx.tup
  exact key a vs ds ea (.inr (.of ha)) ra hp
 | _=>simp [z83] at hp
theorem zdA {x:Str} {j} {p0 apos cpos:Pos} (z:Tx) (he:SB X c e fb) (hx:x=toS z:=by decide +kernel)
  (hbase:Qt (.Constant (.str x) j p0) "join" X.env (eval (.Constant (.str x) j p0) X.env)=eval (.Constant (.str x) j p0) X.env:=by rfl)
  (hfew:((WT cpos (W7 [e] X.env)).all (fun x=>!x.1) && (Jx cpos (QX [] X.env)).all (fun x=>x.1.isSome)
   && decide ([e].length + ([]:List Keyword).length + (if ([]:List Keyword).isEmpty then 0 else 1) < 30))=true:=by rfl)
  (hline:(apos.endLine == cpos.line)=true:=by rfl) (hs:W7 [e] X.env=(false,eval e X.env) :: W7 [] X.env:=by rfl) :
  SE X c (.Call (.Attribute (.Constant (.str x) j p0) "join" apos) [e] [] cpos) (eC1 (z83 z) fb):=by
 subst hx
 refine PE.weak (zc9 PySem.F.plainAttrs_str PySem.F.slot_str_join PySem.F.type_str_join zee zd0 (z0T he z25 hs) hbase hfew hline hs rfl) fun σ H Q h=>?_
 obtain ⟨δ,k,q⟩:=z3z (r:=fun x H Q=>zbT X.K (.str (toS z)) [x] H Q) (zeb z) h
 refine ⟨?_,δ,k,q⟩
 show ("str" : String) = "str"
 rfl
end
inductive Fl where
 | next | ret (r:S) | brk | cont
abbrev DS:=Dl→Rs Fl
def fin (c:Fc) (D:Ends) (σ:St) (δ:Dl) (H:Hp):Fl→Prop
 | .next=>D.nx σ H
 | .ret r=>∀ v,RepS c σ δ c.H₀ H v r→D.rt v H
 | .brk=>D.bk σ H
 | .cont=>D.ct σ H
def z1E (c:Fc) (D:Ends) (σ:St) (δ:Dl) (H:Hp) (r:Rs Fl):Prop:=post c r fun fl δ'=>∀ σ' H',Aft c σ δ H σ' δ' H'→fin c D σ' δ' H' fl
def tDS (c:Fc) (f:DS):TS:=fun D σ H=>∃ δ,Ok c σ δ H∧z1E c D σ δ H (f δ)
abbrev SS (X:Cx) (c:Fc) (st:Stmt) (f:DS):Prop:=PS X st (tDS c f)
abbrev SSs (X:Cx) (c:Fc) (st:List Stmt) (f:DS):Prop:=PSs X st (tDS c f)
theorem PS.weak {X:Cx} {st:Stmt} {t t':TS} (h:PS X st t) (w:∀ D σ H,t' D σ H→t D σ H):PS X st t':=fun pins s σ H D I q=>h pins s σ H D I (w D σ H q)
theorem PSs.weak {X:Cx} {st:List Stmt} {t t':TS} (h:PSs X st t) (w:∀ D σ H,t' D σ H→t D σ H):PSs X st t':=fun pins s σ H D I q=>h pins s σ H D I (w D σ H q)
def z1f:DS:=fun δ=>.ok .next δ
def dSeq (f g:DS):DS:=fun δ=>(f δ).bind fun fl δ1=>match fl with
 | .next=>g δ1
 | .ret r=>.ok (.ret r) δ1
 | .brk=>.ok .brk δ1
 | .cont=>.ok .cont δ1
def z3v (f:DE):DS:=fun δ=>(f δ).bind fun _ δ1=>.ok .next δ1
def dRet (f:DE):DS:=fun δ=>(f δ).bind fun r δ1=>.ok (.ret r) δ1
def dIf (t:DT) (f g:DS):DS:=fun δ=>(t δ).bind fun b δ1=>if b then f δ1 else g δ1
def eRetN (np:List Nat) (i:Nat):DE:=fun δ=>match δ[i]? with
 | some (some (.own d))=>if np.contains i then .ok (.pure d) (δ.set i (some (.pure d))) else .ok (.own d) (δ.set i none)
 | some (some (.pure d))=>.ok (.pure d) δ
 | _=>.stuck
section
variable {X:Cx} {c:Fc} {st:Stmt} {sts:List Stmt} {e a:Expr} {f g:DS} {fe:DE} {t:DT} {pos pos':Pos}
theorem z1A:SSs X c [] z1f:=PSs.weak zdR fun D σ H ⟨δ,k,q⟩=>q σ H (.refl k)
theorem z05 (h1:SS X c st f) (h2:SSs X c sts g):SSs X c (st :: sts) (dSeq f g):=PSs.weak (zbY h1 h2) fun D σ H ⟨δ,k,q⟩=>by
 unfold dSeq z1E at q
 rw [z03] at q
 refine ⟨δ,k,z01 q fun fl δ1 q1 σ1 H1 a1=>?_⟩
 cases fl with
 | next=>exact ⟨δ1,a1.ok,z01 q1 fun fl2 δ2 q2 σ2 H2 a2=>q2 σ2 H2 (a1.trans a2)⟩
 | ret r=>exact q1 σ1 H1 a1
 | brk=>exact q1 σ1 H1 a1
 | cont=>exact q1 σ1 H1 a1
theorem z0c (h1:SS X c st f):SSs X c [st] f:=PSs.weak (zah h1) fun D σ H h=>h
theorem z0G (he:SE X c e fe):SS X c (.Return (some e) pos) (dRet fe):=PS.weak (zcX he) fun D σ H ⟨δ,k,q⟩=>by
 unfold dRet z1E at q
 rw [z03] at q
 exact ⟨δ,k,z01 q fun r δ1 q1 v H1 a1 r1=>q1 σ H1 a1 v r1.home⟩
theorem z2Y {b1 b2:List Stmt} (ht:ST X c e t) (h1:SSs X c b1 f) (h2:SSs X c b2 g):SS X c (.If e b1 b2 pos) (dIf t f g):=PS.weak (ps_if ht h1 h2) fun D σ H ⟨δ,k,q⟩=>by
 unfold dIf z1E at q
 rw [z03] at q
 refine ⟨δ,k,z01 q fun b δ1 q1 H1 a1=>?_⟩
 cases b with
 | true=>exact ⟨δ1,a1.ok,z01 q1 fun fl δ2 q2 σ2 H2 a2=>q2 σ2 H2 (a1.trans a2)⟩
 | false=>exact ⟨δ1,a1.ok,z01 q1 fun fl δ2 q2 σ2 H2 a2=>q2 σ2 H2 (a1.trans a2)⟩
theorem Own.of_set (h:Own (σ.set i (some v)) (δ.set i (some r)) b):Own σ δ b∨(v = .ref b∧∃ d,r = .own d):=by
 obtain ⟨j,d,e1,e2⟩:=h
 by_cases hj:i=j
 ·subst hj
  right
  rw [WH] at e1 e2
  simp at e1 e2
  obtain ⟨_,h1⟩:=e1
  obtain ⟨_,h2⟩:=e2
  exact ⟨h2,d,h1⟩
 ·rw [W4 hj] at e1 e2
  exact .inl ⟨j,d,e1,e2⟩
theorem Ok.set (x:Aft c σ₀ δ₀ H₁ σ δ H) (hr:RepS c σ δ H₁ H v r) (hp:∀ p ∈ c.pin,p.1≠i):Aft c σ₀ δ₀ H₁ (σ.set i (some v)) (δ.set i (some r)) H:=by
 have k:=x.ok
 -- all slots avoid the new address,too
 have all:∃ c':Fc,c'.H₀=c.H₀∧c'.pin=c.pin∧Ok c' σ δ H∧(∀ b,Av c (σ.set i (some v)) (δ.set i (some r)) b→Av c' σ δ b):=by
  cases r with
  | pure d =>
   refine ⟨c,rfl,rfl,k,fun b z=>?_⟩
   rcases z with z | z
   ·exact .inl z
   ·rcases z.of_set with z | ⟨_,d',e⟩
    ·exact .inr z
    ·cases e
  | own d =>
   obtain ⟨a,ea,o,n,f,k2,_⟩:=hr
   refine ⟨c.plus a,rfl,rfl,k2,fun b z=>?_⟩
   rcases z with z | z
   ·exact .inl (.inl z)
   ·rcases z.of_set with z | ⟨e,_⟩
    ·exact .inr z
    ·rw [ea] at e; cases e
     exact .inl (.inr rfl)
 obtain ⟨c',eH,eP,k2,sub⟩:=all
 have eI:∀ a,c'.I a ↔ c.I a:=fun a=>by unfold Fc.I; rw [eP]
 have hrep:Rep H (Av c (σ.set i (some v)) (δ.set i (some r))) v r.d∨∃ d,r = .own d:=by
  cases r with
  | pure d =>
   left
   refine Rep.anti hr fun b z=>?_
   rcases z with z | z
   ·exact .inl (.inl z)
   ·rcases z.of_set with z | ⟨_,d',e⟩
    ·exact .inl (.inr z)
    ·cases e
  | own d=>exact .inr ⟨d,rfl⟩
 refine ⟨⟨k.keep,k.bd,k.ith,by rw [Qo,Qo]; exact k.len,fun j d e=>?_,fun j d e=>?_,fun j l a d d' e1 e2 e3 e4=>?_,fun p hm=>?_⟩,x.keep,fun b z=>?_,x.there⟩
 ·by_cases hj:i=j
  ·subst hj
   rw [WH] at e
   simp at e
   obtain ⟨hi,rfl⟩:=e
   have hi':i < σ.length:=by rw [← k.len]; exact hi
   rcases hrep with h | ⟨_,h⟩
   ·exact ⟨v,by rw [Wl hi'],h⟩
   ·cases h
  ·rw [W4 hj] at e
   obtain ⟨w,e1,q⟩:=k2.slot j d e
   exact ⟨w,by rw [W4 hj]; exact e1,q.anti fun b z=>.inl (sub b z)⟩
 ·by_cases hj:i=j
  ·subst hj
   rw [WH] at e
   simp at e
   obtain ⟨hi,rfl⟩:=e
   have hi':i < σ.length:=by rw [← k.len]; exact hi
   obtain ⟨a,ea,o,n,f,k3,_⟩:=hr
   refine ⟨a,by rw [Wl hi',ea],o.anti fun b z=>.inl ?_,.inr f,n⟩
   rcases z with z | z
   ·exact .inl (.inl z)
   ·rcases z.of_set with z | ⟨e,_⟩
    ·exact .inr z
    ·rw [ea] at e; cases e
     exact .inl (.inr rfl)
  ·rw [W4 hj] at e
   obtain ⟨a,e1,q,q2,q3⟩:=k.own j d e
   obtain ⟨a',e1',q',_,_⟩:=k2.own j d e
   rw [e1] at e1'; cases e1'
   exact ⟨a,by rw [W4 hj]; exact e1,q'.anti fun b z=>.inl (sub b z),q2,q3⟩
 ·by_cases hj:i=j
  ·subst hj
   by_cases hl:i=l
   ·exact hl
   ·rw [W4 hl] at e2 e4
    rw [WH] at e1 e3
    simp at e1 e3
    obtain ⟨_,rfl⟩:=e1
    obtain ⟨_,rfl⟩:=e3
    obtain ⟨a',ea,o,n,f,k3,_⟩:=hr
    cases ea
    exact absurd ⟨l,d',e2,e4⟩ (z3U k3)
  ·rw [W4 hj] at e1 e3
   by_cases hl:i=l
   ·subst hl
    rw [WH] at e2 e4
    simp at e2 e4
    obtain ⟨_,rfl⟩:=e2
    obtain ⟨_,rfl⟩:=e4
    obtain ⟨a',ea,o,n,f,k3,_⟩:=hr
    cases ea
    exact absurd ⟨j,d,e1,e3⟩ (z3U k3)
   ·rw [W4 hl] at e2 e4
    exact k.inj j l a d d' e1 e2 e3 e4
 ·rw [W4 (Ne.symm (hp p hm))]
  exact k.pinned p hm
 ·rcases z.of_set with z | ⟨e,d,ed⟩
  ·exact x.own b z
  ·subst ed
   obtain ⟨a,ea,_,_,_,_,hs⟩:=hr
   rw [ea] at e; cases e
   exact .inr hs
abbrev DG:=S→Dl→Option Dl
def tGD (c:Fc) (g:DG):TG:=fun v σ H Q=>∃ σ₀ δ₀ H₁ δ r δ',Aft c σ₀ δ₀ H₁ σ δ H∧RepS c σ δ H₁ H v r∧g r δ=some δ'∧∀ σ',Aft c σ₀ δ₀ H₁ σ' δ' H→Q σ' H
abbrev SG (X:Cx) (c:Fc) (tg:Expr) (g:DG):Prop:=PG X tg (tGD c g)
def gNm (np:List Nat) (i:Nat):DG:=fun r δ=>if np.contains i then none else some (δ.set i (some r))
def Np (c:Fc) (np:List Nat):Prop:=∀ p ∈ c.pin,np.contains p.1=true
theorem z6D (hp:Np c np) (h:tGD c (gNm np i) v σ H Q):zcy i v σ H Q:=by
 obtain ⟨σ₀,δ₀,H₁,δ,r,δ',x,rr,e,q⟩:=h
 unfold gNm at e
 split at e
 ·cases e
 ·rename_i hn
  cases e
  exact q _ (Ok.set x rr fun p hm e=>hn (by rw [← e]; exact hp p hm))
theorem PG.weak {tg:Expr} {t t':TG} (h:PG X tg t) (w:∀ v σ H Q,t' v σ H Q→t v σ H Q):PG X tg t':=fun pins s σ H v u Q I r q=>h pins s σ H v u Q I r (w v σ H Q q)
theorem PGs.weak {tg:List Expr} {t t':TGs} (h:PGs X tg t) (w:∀ v σ H Q,t' v σ H Q→t v σ H Q):PGs X tg t':=fun pins s σ H v u Q I r q=>h pins s σ H v u Q I r (w v σ H Q q)
theorem z0y {np:List Nat} {i:Nat} {x:Str} (hp:Np c np) (hN:X.N.Nodup) (hi:X.N[i]? = some x) (hx:Loc X.env.scope x) (hf:X.fn x=true∨X.env.scope.names.lookup x=some .local):SG X c (.Name x pos) (gNm np i) :=
 PG.weak (zap hN hi hx hf) fun v σ H Q h=>z6D hp h
abbrev DGs:=List D→Dl→Option Dl
def tGDs (c:Fc) (g:DGs):TGs:=fun vs σ H Q=>∃ δ ds δ',Ok c σ δ H∧Reps H (Av c σ δ) vs ds∧g ds δ=some δ'∧∀ σ',Aft c σ δ H σ' δ' H→Q σ' H
abbrev SGs (X:Cx) (c:Fc) (tg:List Expr) (g:DGs):Prop:=PGs X tg (tGDs c g)
def z1F:DGs:=fun ds δ=>match ds with
 | []=>some δ
 | _=>none
def z0q (g:DG) (gs:DGs):DGs:=fun ds δ=>match ds with
 | []=>none
 | d :: r=>(g (.pure d) δ).bind fun δ1=>gs r δ1
theorem z2L:SGs X c [] z1F:=PGs.weak zao fun vs σ H Q ⟨δ,ds,δ',k,r,e,q⟩=>by
 cases ds with
 | nil =>
  cases e
  have:vs=[]:=by have:=r.1; simpa using this
  exact ⟨this,q σ (.refl k)⟩
 | cons d r=>cases e
theorem z0L {es:List Expr} {g:DG} {gs:DGs} (h1:SG X c e g) (h2:SGs X c es gs) (hs:(Q8 (e :: es) X.env).map (·.2)=assign e X.env :: (Q8 es X.env).map (·.2):=by rfl):SGs X c (e :: es) (z0q g gs) :=
 PGs.weak (z8I h1 h2 hs) fun vs σ H Q ⟨δ,ds,δ',k,r,e,q⟩=>by
  cases ds with
  | nil=>cases e
  | cons d ds =>
   cases vs with
   | nil=>have:=r.1; simp at this
   | cons v vs =>
    simp only [z0q] at e
    cases e1:g (.pure d) δ with
    | none=>rw [e1] at e; cases e
    | some δ1 =>
     rw [e1] at e
     refine ⟨v,vs,rfl,σ,δ,H,δ,.pure d,δ1,.refl k,r.head,e1,fun σ1 a1=>?_⟩
     exact ⟨δ1,ds,δ',a1.ok,Reps.aft r.tail a1,e,fun σ2 a2=>q σ2 (a1.trans a2)⟩
def gTp (n:Nat) (gs:DGs):DG:=fun r δ=>match r.d with
 | .tup ds=>if ds.length=n then gs ds δ else none
 | _=>none
theorem z3N {es:List Expr} {k:Nat} {gs:DGs} {n:Nat} (hc:X.calm=true) (h:SGs X c es gs) (hn:(Q8 es X.env).length=n:=by rfl) (hst:(Q8 es X.env).findIdx? (·.1)=none:=by rfl) :
  SG X c (.Tuple es k pos) (gTp n gs):=PG.weak (zcZ hc h hn hst) fun v σ H Q hw=>by
 obtain ⟨σ₀,δ₀,H₁,δ,r,δ',x,rr,e,q⟩:=hw
 have hb:=rr.b
 unfold gTp at e
 generalize r.d=d at e hb
 cases d <;> first | (cases e; done) | skip
 rename_i ds
 simp only at e
 split at e
 ·rename_i hl
  obtain ⟨a,vs,ea,ha,ra⟩:=hb.tup
  exact ⟨a,vs,ea,.of ha,by rw [ra.1]; exact hl,δ,ds,δ',x.ok,ra,e,fun σ' a1=>q σ' (x.trans a1)⟩
 ·cases e
def dAsg (f:DE) (g:DG):DS:=fun δ=>(f δ).bind fun r δ1=>match g r δ1 with
 | some δ2=>.ok .next δ2
 | none=>.stuck
theorem z6O {g:DG} {D:Ends} {σ:St} {H:Hp} {te:TE} {tg:TG} (he:∀ σ H Q,tD c fe σ H Q→te σ H Q) (hg:∀ v σ H Q,tGD c g v σ H Q→tg v σ H Q) (h:tDS c (dAsg fe g) D σ H):tAsg te tg D σ H:=by
 obtain ⟨δ,k,q⟩:=h
 unfold dAsg z1E at q
 rw [z03] at q
 refine he _ _ _ ⟨δ,k,z01 q fun r δ1 q1 v H1 a1 r1=>hg _ _ _ _ ?_⟩
 cases e:g r δ1 with
 | none=>rw [e] at q1; exact q1.elim
 | some δ2 =>
  rw [e] at q1
  exact ⟨σ,δ,H,δ1,r,δ2,a1,r1,e,fun σ' a2=>q1 σ' H1 a2⟩
theorem z8A {tg:Expr} {g:DG} (he:SE X c e fe) (hg:SG X c tg g) (hs:swapsWithSole [tg] e pos.line X.env=pure false:=by rfl) (hw:swappedStores [tg] e X.env=pure none:=by rfl)
  (h1:(Q8 [tg] X.env).map (·.2)=[assign tg X.env]:=by rfl):SS X c (.Assign [tg] e pos) (dAsg fe g):=PS.weak (zcY he hg hs hw h1) fun D σ H h=>z6O (fun _ _ _ h=>h) (fun _ _ _ _ h=>h) h
theorem z0t {np:List Nat} {i:Nat} {x:Str} (hp:Np c np) (hN:X.N.Nodup) (hi:X.N[i]? = some x) (hx:Loc X.env.scope x) (he:SE X c e fe) (hs:QW e (some (.Name x pos')) pos.line X.env=pure false) (hf:X.fn x=true∨X.env.scope.names.lookup x=some .local) :
  SS X c (.Assign [.Name x pos'] e pos) (dAsg fe (gNm np i)):=PS.weak (zfj hN hi hx he hs hf) fun D σ H h=>z6O (fun _ _ _ h=>h) (fun _ _ _ _ h=>z6D hp h) h
theorem zds (he:SE X c e fe) (hs:∀ (x:Value),QW e none pos.line X.env=pure false:=by intro _; rfl) (hd:True:=trivial) (h:PS X (.Expr e pos) (zdk (tD c fe))):SS X c (.Expr e pos) (z3v fe):=PS.weak h fun D σ H ⟨δ,k,q⟩=>by
 unfold z3v z1E at q
 rw [z03] at q
 exact ⟨δ,k,z01 q fun r δ1 q1 v H1 a1 r1=>q1 σ H1 a1⟩
theorem Ok.mutL {σ:St} {δ:Dl} {H:Hp} {i:Nat} {ds ds':List D} {a:Addr} {vs':List V} (k:Ok c σ δ H) (e:δ[i]? = some (some (.own (.lst ds)))) (ea:σ[i]? = some (some (.ref a))) (r:Reps H (Av c σ δ) vs' ds') :
  Aft c σ δ H σ (δ.set i (some (.own (.lst ds')))) (upd H a (.lst vs')):=by
 have hi:i < δ.length:=(Wb.mp e).1
 obtain ⟨a',ea',oa,ia,nb⟩:=k.own i _ e
 rw [ea] at ea'; cases ea'
 obtain ⟨vs,ha,_⟩:=oa
 have ownA:Own σ δ a:=⟨i,_,e,ea⟩
 have avA:Av c σ δ a:=.inr ownA
 have own_iff:∀ b,Own σ (δ.set i (some (.own (.lst ds')))) b ↔ Own σ δ b:=fun b=>by
  constructor
  ·rintro ⟨j,d,e1,e2⟩
   by_cases hj:i=j
   ·subst hj
    exact ⟨i,_,e,e2⟩
   ·rw [W4 hj] at e1
    exact ⟨j,d,e1,e2⟩
  ·rintro ⟨j,d,e1,e2⟩
   by_cases hj:i=j
   ·subst hj
    exact ⟨i,_,by rw [Wl hi],e2⟩
   ·exact ⟨j,d,by rw [W4 hj]; exact e1,e2⟩
 have av_iff:∀ b,Av c σ (δ.set i (some (.own (.lst ds')))) b→Av c σ δ b:=fun b z=>z.elim .inl fun z=>.inr ((own_iff b).mp z)
 have ne:∀ b,¬ Av c σ δ b→b≠a:=fun b n z=>n (by rw [z]; exact avA)
 have kp:∀ b o,H b=some o→¬ Av c σ δ b→upd H a (.lst vs') b=some o:=fun b o h n=>by rw [z0d (ne b n)]; exact h
 have hup:∀ b o,H b=some o→∃ o',upd H a (.lst vs') b=some o':=fun b o h=>by
  by_cases hb:b=a
  ·exact ⟨_,by rw [hb]; exact z0p⟩
  ·exact ⟨o,by rw [z0d hb]; exact h⟩
 refine ⟨⟨fun b o h n=>?_,fun b z=>?_,fun b z=>?_,by rw [Qo]; exact k.len,fun j d h=>?_,fun j d h=>?_,fun j l b d d' h1 h2 h3 h4=>?_,k.pinned⟩,fun b o h n=>?_,fun b z=>.inl ((own_iff b).mp z),hup⟩
 ·have hb:b≠a:=fun z=>by
   subst z
   rcases ia with z | z
   ·exact n z
   ·rw [z] at h; cases h
  rw [z0d hb]
  exact k.keep b o h n
 ·obtain ⟨o,h⟩:=k.bd b z
  exact hup b o h
 ·obtain ⟨o,h⟩:=k.ith b z
  exact hup b o h
 ·have hj:i≠j:=fun z=>by subst z; rw [Wl hi] at h; cases h
  rw [W4 hj] at h
  obtain ⟨v,h1,h2⟩:=k.slot j d h
  exact ⟨v,h1,(h2.keep kp).anti fun b z=>.inl (av_iff b z)⟩
 ·by_cases hj:i=j
  ·subst hj
   rw [Wl hi] at h
   cases h
   exact ⟨a,ea,⟨vs',z0p,Reps.anti (Reps.keep r kp) fun b z=>.inl (av_iff b z)⟩,ia,nb⟩
  ·rw [W4 hj] at h
   obtain ⟨b,h1,h2,h3,h4⟩:=k.own j d h
   have hb:b≠a:=fun z=>by subst z; exact hj (k.inj i j b _ d e h ea h1)
   exact ⟨b,h1,(h2.keep kp fun o q=>by rw [z0d hb]; exact q).anti fun b z=>.inl (av_iff b z),h3,h4⟩
 ·have f1:∃ d,δ[j]? = some (some (.own d)):=by
   by_cases hj:i=j
   ·subst hj; exact ⟨_,e⟩
   ·rw [W4 hj] at h1; exact ⟨d,h1⟩
  have f2:∃ d,δ[l]? = some (some (.own d)):=by
   by_cases hj:i=l
   ·subst hj; exact ⟨_,e⟩
   ·rw [W4 hj] at h2; exact ⟨d',h2⟩
  obtain ⟨_,f1⟩:=f1
  obtain ⟨_,f2⟩:=f2
  exact k.inj j l b _ _ f1 f2 h3 h4
 ·have hb:b≠a:=fun z=>n (by rw [z]; exact ownA)
  rw [z0d hb]; exact h
def z1X (δ:Dl) (i:Nat):Bool:=match δ[i]? with
 | some (some (.own (.lst _)))=>true
 | _=>false
def putL (δ:Dl) (i:Nat) (f:List D→Option (List D)):Rs Fl:=match δ[i]? with
 | some (some (.own (.lst ds)))=>match f ds with
  | some ds'=>.ok .next (δ.set i (some (.own (.lst ds'))))
  | none=>.stuck
 | _=>.stuck
theorem z7o (h:z1X δ i=true):∃ ds,δ[i]? = some (some (.own (.lst ds))):=by
 unfold z1X at h
 split at h
 ·rename_i ds e; exact ⟨ds,e⟩
 ·cases h
theorem z74 {δ:Dl} {i:Nat} {g:List D→Option (List D)} {kk:Fl→Dl→Prop} (h:post c (putL δ i g) kk):∃ ds ds',δ[i]? = some (some (.own (.lst ds)))∧g ds=some ds'∧kk .next (δ.set i (some (.own (.lst ds')))):=by
 unfold putL at h
 split at h
 ·rename_i ds e
  split at h
  ·rename_i ds' e2
   exact ⟨ds,ds',e,e2,h⟩
  ·exact h.elim
 ·exact h.elim
def z0F (i:Nat) (f:DE):DS:=fun δ=>if z1X δ i then (f δ).bind fun r δ1=>putL δ1 i fun ds=>if ds.length < W3 then some (ds ++ [r.d]) else none else .stuck
theorem z9U {i:Nat} {o:Expr} {p0 apos cpos:Pos} (ho:PE X o (tVar i)) (he:SE X c e fe)
  (h:PS X (.Expr (.Call (.Attribute o "append" apos) [e] [] cpos) pos) (zdk (tBM X.K "list" zad (tVar i) (zeP (tD c fe) tNil)))):SS X c (.Expr (.Call (.Attribute o "append" apos) [e] [] cpos) pos) (z0F i fe) :=
 PS.weak h fun D σ H ⟨δ,k,q⟩=>by
  unfold z0F z1E at q
  split at q
  ·rename_i hown
   obtain ⟨ds0,e0⟩:=z7o hown
   rw [z03] at q
   obtain ⟨a,ea,oa,_⟩:=k.own i _ e0
   refine ⟨.ref a,ea,?_,δ,k,z01 q fun r δ1 q1 v H1 a1 r1=>?_⟩
   ·obtain ⟨vs,ha,_⟩:=oa
    exact .inl ⟨rfl,vs,.of ha⟩
   ·obtain ⟨ds,ds',e1,e2,q2⟩:=z74 q1
    split at e2
    ·rename_i hz
     cases e2
     obtain ⟨a',ea',oa1,_⟩:=a1.ok.own i _ e1
     rw [ea] at ea'; cases ea'
     obtain ⟨vs,ha,ra⟩:=id oa1
     refine ⟨a,vs,v,rfl,rfl,ha,by rw [ra.1]; exact hz,?_⟩
     exact q2 σ _ (a1.trans (Ok.mutL a1.ok e1 ea (ra.append (.cons r1.rep .nil))))
    ·cases e2
  ·exact q.elim
def z7C (i:Nat) (fi:DE) (fe:DE):DS:=fun δ=>if z1X δ i then (fe δ).bind fun r δ1=>(fi δ1).bind fun k δ2=>match k with
 | .pure (.int j)=>putL δ2 i fun ds=>(ixN ds.length j).map fun n=>ds.set n r.d
 | _=>.stuck else .stuck
theorem z7R {i:Nat} {o ix:Expr} {fi:DE} {sp:Pos} (ho:PE X o (tVar i)) (hi:SE X c ix fi) (he:SE X c e fe)
  (ha:∀ v,assign (.Subscript o ix sp) X.env v=(do
   let ov ← holding [v] (eval o X.env)
   let iv ← holding [v,ov] (eval ix X.env)
   standAt sp
   holding [v,ov,iv] (setItem ov iv v)
   release [v,ov,iv] []):=by intro _; rfl)
  (hs:swapsWithSole [.Subscript o ix sp] e pos.line X.env=pure false:=by rfl) (hw:swappedStores [.Subscript o ix sp] e X.env=pure none:=by rfl)
  (h1:(Q8 [.Subscript o ix sp] X.env).map (·.2)=[assign (.Subscript o ix sp) X.env]:=by rfl):SS X c (.Assign [.Subscript o ix sp] e pos) (z7C i fi fe) :=
 PS.weak (zcY he (zfl ho hi zbG ha) hs hw h1) fun D σ H ⟨δ,k,q⟩=>by
  unfold z7C z1E at q
  split at q
  ·rename_i hown
   obtain ⟨ds0,e0⟩:=z7o hown
   rw [z03] at q
   obtain ⟨a,ea,_,_⟩:=k.own i _ e0
   refine ⟨δ,k,z01 q fun r δ1 q1 v H1 a1 r1=>⟨.ref a,ea,δ1,a1.ok,?_⟩⟩
   rw [z03] at q1
   refine z01 q1 fun kx δ2 q2 u H2 a2 r2=>?_
   cases kx with
   | own d=>exact q2.elim
   | pure d =>
    cases d <;> first | exact q2.elim | skip
    rename_i j
    cases r2
    obtain ⟨ds,ds',e1,e2,q3⟩:=z74 q2
    cases e3:ixN ds.length j with
    | none=>rw [e3] at e2; cases e2
    | some n =>
     rw [e3] at e2
     cases e2
     obtain ⟨a',ea',oa1,_⟩:=a2.ok.own i _ e1
     rw [ea] at ea'; cases ea'
     obtain ⟨vs,ha,ra⟩:=id oa1
     refine ⟨a,vs,j,n,rfl,rfl,ha,by rw [ra.1]; exact e3,?_⟩
     exact q3 σ _ (a1.trans (a2.trans (Ok.mutL a2.ok e1 ea (ra.set (Rep.aft r1.rep a2) n))))
  ·exact q.elim
end
abbrev DI:=Dl→Rs (List D)
def ItOk (c:Fc) (σ:St) (δ:Dl) (H:Hp) (J:It) (ds:List D):Prop:=∀ H2,(∀ a o,H a=some o→¬ Own σ δ a→H2 a=some o)→J.stop ds.length H2 ∧
 ∀ (i:Nat) d,ds[i]? = some d→J.go i H2∧∀ x H3,J.yld i H2 x H3→(H3=H2∧Rep H (Av c σ δ) x d) ∨
  ∃ p vs es,H2 p=none∧H3=upd H2 p (.tup vs)∧x = .ref p∧d = .tup es∧Reps H (Av c σ δ) vs es
def tI (c:Fc) (f:DI):TI:=fun σ H R=>∃ δ,Ok c σ δ H∧post c (f δ) fun ds δ'=>∀ J H',Aft c σ δ H σ δ' H'→ItOk c σ δ' H' J ds→R J H'
abbrev SI (X:Cx) (c:Fc) (tg iter:Expr) (f:DI):Prop:=PI X tg iter (tI c f)
theorem PI.weak (h:PI X tg iter t) (w:∀ σ H R,t' σ H R→t σ H R):PI X tg iter t':=fun pins s σ H R I q=>h pins s σ H R I (w σ H R q)
section
variable {X:Cx} {c:Fc} {tg e:Expr} {fe:DE} {pos pp:Pos}
theorem zfW (K:W0) (h:H a=some (.tup vs)) (n:¬ Own σ δ a) (r:Reps H (Av c σ δ) vs ds):ItOk c σ δ H (Itt K a) ds:=by
 intro H2 kp
 have h2:=kp a _ h n
 refine ⟨⟨vs,.of h2,by rw [r.1]; exact Wc _⟩,fun i d e=>?_⟩
 obtain ⟨v,ev,rv⟩:=r.get e
 refine ⟨⟨vs,v,.of h2,ev⟩,fun x H3 ⟨e3,y⟩=>.inl ⟨e3,?_⟩⟩
 have:=y vs (.of h2)
 rw [ev] at this
 cases this
 exact rv
def z0R (lo:Int) (n:Nat):List D:=(Wa n).map fun k:Nat=>D.int (lo + k)
theorem z9k {lo:Int} {n i:Nat} {d:D} (h:(z0R lo n)[i]? = some d):i < n∧d = .int (lo + i):=by
 unfold z0R at h
 rw [WB] at h
 by_cases hi:i < n
 ·rw [Jt hi] at h
  simp at h
  exact ⟨hi,h.symm⟩
 ·rw [WS (by simpa using hi)] at h
  cases h
theorem zcr (lo:Int) (n:Nat):ItOk c σ δ H (Itr lo n) (z0R lo n):=by
 intro H2 kp
 refine ⟨by show n≤(z0R lo n).length; simp [z0R],fun i d e=>?_⟩
 obtain ⟨hi,rfl⟩:=z9k e
 exact ⟨hi,fun x H3 ⟨e3,ex⟩=>.inl ⟨e3,by rw [ex]; exact .int _⟩⟩
def z5U (j:Int):Bool:=decide (-(2 ^ 62)≤j) && decide (j < 2 ^ 62)
def z1e (f:DE):DI:=fun δ=>(f δ).bind fun r δ1=>match r with
 | .pure (.int j)=>if z5U j then .ok (z0R 0 j.toNat) δ1 else .stuck
 | _=>.stuck
theorem z1S (hg:Gl X "range") (hm:X.mg "range" = none) (he:SE X c e fe) (hs:W7 [e] X.env=[(false,eval e X.env)]:=by rfl):SI X c tg (.Call (.Name "range" pp) [e] [] pos) (z1e fe) :=
 PI.weak (zan hg hm (z0T he z25 hs) hs) fun σ H R ⟨δ,k,q⟩=>by
  unfold z1e at q
  rw [z03] at q
  refine ⟨δ,k,z01 q fun r δ1 q1 v H1 a1 r1=>?_⟩
  cases r with
  | own d=>exact q1.elim
  | pure d =>
   cases d <;> first | exact q1.elim | skip
   rename_i j
   cases r1
   simp only at q1
   split at q1
   ·rename_i hj
    unfold z5U at hj
    simp only [Wi,decide_eq_true_eq] at hj
    exact ⟨j,rfl,hj.1,hj.2,q1 _ H1 a1 (zcr 0 j.toNat)⟩
   ·exact q1.elim
def forL (g:DG) (b:DS):List D→DS
 | [],δ=>.ok .next δ
 | d :: r,δ=>match g (.pure d) δ with
  | none=>.stuck
  | some δ1=>(b δ1).bind fun fl δ2=>match fl with
   | .next=>forL g b r δ2
   | .cont=>forL g b r δ2
   | .brk=>.ok .next δ2
   | .ret v=>.ok (.ret v) δ2
def dFor (it:DI) (g:DG) (b:DS):DS:=fun δ=>(it δ).bind fun ds δ1=>forL g b ds δ1
theorem z6d (io:ItOk c σ δ H J ds) (a:Aft c σ δ H σ2 δ2 H2) (e:ds[i]? = some d) (y:J.yld i H2 x H3):Aft c σ2 δ2 H2 σ2 δ2 H3∧Rep H3 (Av c σ2 δ2) x d:=by
 obtain ⟨_,t⟩:=io H2 a.keep
 rcases (t i d e).2 x H3 y with ⟨e3,r⟩ | ⟨p,vs,es,hp,e3,ex,ed,r⟩
 ·subst e3
  exact ⟨.refl a.ok,Rep.aft r a⟩
 ·subst e3 ex ed
  have:=RepS.newT a.ok (Reps.aft r a) hp
  exact ⟨.alloc a.ok hp _,this⟩
theorem z24 {iter:Expr} {body:List Stmt} {it:DI} {g:DG} {b:DS} (hp:PassesOwn (model X.prog X.w) X.A X.env X.xe) (hc:X.calm=true) (hi:SI X c tg iter it) (hg:SG X c tg g) (hb:SSs X c body b)
  (hs:∀ x,Ql iter X.env x=pure x:=by intro _; rfl):SS X c (.For tg iter body [] pos) (dFor it g b):=PS.weak (zfk hp hc hi hg hb hs) fun D σ H ⟨δ,k,q⟩=>by
 unfold dFor z1E at q
 rw [z03] at q
 refine ⟨δ,k,z01 q fun ds δ1 q1 J H1 a1 io=>?_⟩
 refine ⟨fun i m σ2 H2=>∃ δ2,m=ds.length - i∧i≤ds.length∧Aft c σ δ1 H1 σ2 δ2 H2∧z1E c D σ2 δ2 H2 (forL g b (ds.drop i) δ2),⟨ds.length,δ1,by simp,Qb _,.refl a1.ok,?_⟩,?_⟩
 ·rw [List.drop_zero]
  exact z01 q1 fun fl δ2 q2 σ2 H2 a2=>q2 σ2 H2 (a1.trans a2)
 ·rintro i m σ2 H2 ⟨δ2,rfl,hil,a2,p2⟩
  by_cases hlt:i < ds.length
  ·right
   have e:ds[i]? = some ds[i]:=by simp [hlt]
   rw [List.drop_eq_getElem_cons hlt] at p2
   refine ⟨((io H2 a2.keep).2 i _ e).1,fun σ4 H4=>∃ δ4,Aft c σ δ1 H1 σ4 δ4 H4∧z1E c D σ4 δ4 H4 (forL g b (ds.drop (i + 1)) δ4),fun σ4 H4 ⟨δ4,a4,p4⟩=>⟨ds.length - (i + 1),by omega,δ4,rfl,hlt,a4,p4⟩,fun x H3 y=>?_⟩
   obtain ⟨a3,r3⟩:=z6d io a2 e y
   simp only [forL,z1E] at p2
   cases eg:g (.pure ds[i]) δ2 with
   | none=>rw [eg] at p2; exact p2.elim
   | some δ3 =>
    rw [eg] at p2
    refine ⟨σ2,δ2,H3,δ2,.pure ds[i],δ3,.refl a3.ok,r3,eg,fun σ3 a3'=>?_⟩
    have p3:post c ((b δ3).bind fun fl δ2=>match fl with
     | .next=>forL g b (ds.drop (i + 1)) δ2
     | .cont=>forL g b (ds.drop (i + 1)) δ2
     | .brk=>.ok .next δ2
     | .ret v=>.ok (.ret v) δ2) fun fl δ'=>∀ σ' H',Aft c σ2 δ2 H2 σ' δ' H'→fin c D σ' δ' H' fl:=p2
    rw [z03] at p3
    have a23:Aft c σ2 δ2 H2 σ3 δ3 H3:=a3.trans a3'
    refine ⟨δ3,a3'.ok,z01 p3 fun fl δ4 p4 σ4 H4 a4=>?_⟩
    have a24:=a23.trans a4
    cases fl with
    | next=>exact ⟨δ4,a2.trans a24,z01 p4 fun fl δ5 p5 σ5 H5 a5=>p5 σ5 H5 (a24.trans a5)⟩
    | cont=>exact ⟨δ4,a2.trans a24,z01 p4 fun fl δ5 p5 σ5 H5 a5=>p5 σ5 H5 (a24.trans a5)⟩
    | brk=>exact p4 σ4 H4 a24
    | ret r=>exact p4 σ4 H4 a24
  ·left
   have hi2:i=ds.length:=by omega
   subst hi2
   rw [List.drop_length] at p2
   exact ⟨(io H2 a2.keep).1,p2 σ2 H2 (.refl a2.ok)⟩
def z23 (t:DT) (b:DS):Nat→DS
 | 0,_=>.stuck
 | n + 1,δ=>(t δ).bind fun x δ1=>if x then (b δ1).bind fun fl δ2=>match fl with
   | .next=>z23 t b n δ2
   | .cont=>z23 t b n δ2
   | .brk=>.ok .next δ2
   | .ret v=>.ok (.ret v) δ2
  else .ok .next δ1
theorem zbC {e:Expr} {body:List Stmt} {t:DT} {b:DS} (n:Nat) (hw:∀ {tt:TT} {tb:TS},PT X e tt→PSs X body tb→PS X (.While e body [] pos) (zcS tt tb)) (ht:ST X c e t) (hb:SSs X c body b):SS X c (.While e body [] pos) (z23 t b n) :=
 PS.weak (hw ht hb) fun D σ H ⟨δ,k,q⟩=>by
  refine ⟨fun m σ2 H2=>∃ δ2,Ok c σ2 δ2 H2∧z1E c D σ2 δ2 H2 (z23 t b m δ2),⟨n,δ,k,q⟩,?_⟩
  rintro m σ2 H2 ⟨δ2,k2,q2⟩
  cases m with
  | zero=>exact q2.elim
  | succ m =>
   simp only [z23,z1E] at q2
   rw [z03] at q2
   refine ⟨δ2,k2,z01 q2 fun x δ3 q3 H3 a3=>?_⟩
   cases x with
   | false=>exact q3 σ2 H3 a3
   | true =>
    have p3:post c ((b δ3).bind fun fl δ2=>match fl with
     | .next=>z23 t b m δ2
     | .cont=>z23 t b m δ2
     | .brk=>.ok .next δ2
     | .ret v=>.ok (.ret v) δ2) fun fl δ'=>∀ σ' H',Aft c σ2 δ2 H2 σ' δ' H'→fin c D σ' δ' H' fl:=q3
    rw [z03] at p3
    refine ⟨fun σ4 H4=>∃ δ4,Ok c σ4 δ4 H4∧z1E c D σ4 δ4 H4 (z23 t b m δ4),fun σ4 H4 w=>⟨m,Nat.lt_succ_self _,w⟩,δ3,a3.ok,z01 p3 fun fl δ4 p4 σ4 H4 a4=>?_⟩
    have a24:=a3.trans a4
    cases fl with
    | next=>exact ⟨δ4,a4.ok,z01 p4 fun fl δ5 p5 σ5 H5 a5=>p5 σ5 H5 (a24.trans a5)⟩
    | cont=>exact ⟨δ4,a4.ok,z01 p4 fun fl δ5 p5 σ5 H5 a5=>p5 σ5 H5 (a24.trans a5)⟩
    | brk=>exact p4 σ4 H4 a24
    | ret r=>exact p4 σ4 H4 a24
end
def clrD (cs:List Nat) (δ:Dl):Dl:=cs.foldl (fun δ i=>δ.set i none) δ
def z2D (cs:List Nat) (δ₁ δ:Dl):Dl:=cs.foldl (fun δ i=>match δ₁[i]? with | some o=>δ.set i o | none=>δ) δ
def z0B (δ:Dl) (i:Nat):Bool:=match δ[i]? with
 | some (some (.own _))=>true
 | _=>false
theorem z94 (cs:List Nat):∀ δ:Dl,(clrD cs δ).length=δ.length:=by
 induction cs with
 | nil=>intro δ; rfl
 | cons i r ih =>
  intro δ
  show (clrD r (δ.set i none)).length=_
  rw [ih]; simp
theorem z1j:∀ (cs:List Nat) (δ:Dl) (i:Nat) (v:S),(clrD cs δ)[i]? = some (some v)→δ[i]? = some (some v)∧i ∉ cs:=by
 intro cs
 induction cs with
 | nil=>intro δ i v h; exact ⟨h,by simp⟩
 | cons j r ih =>
  intro δ i v h
  have h':(clrD r (δ.set j none))[i]? = some (some v):=h
  obtain ⟨h1,h2⟩:=ih _ i v h'
  by_cases e:j=i
  ·subst e
   rw [WH] at h1
   simp at h1
  ·rw [W4 e] at h1
   exact ⟨h1,by simp only [Wf,not_or]; exact ⟨Ne.symm e,h2⟩⟩
theorem z2R:∀ (cs:List Nat) (σ:St) (i:Nat),i ∉ cs→(clr cs σ)[i]? = σ[i]?:=by
 intro cs
 induction cs with
 | nil=>intro σ i _; rfl
 | cons j r ih =>
  intro σ i h
  simp only [Wf,not_or] at h
  show (clr r (σ.set j none))[i]? = _
  rw [ih _ _ h.2,W4 (Ne.symm h.1)]
theorem zcL:∀ (cs:List Nat) (δ:Dl) (i:Nat),i ∉ cs→(clrD cs δ)[i]? = δ[i]?:=by
 intro cs
 induction cs with
 | nil=>intro σ i _; rfl
 | cons j r ih =>
  intro σ i h
  simp only [Wf,not_or] at h
  show (clrD r (σ.set j none))[i]? = _
  rw [ih _ _ h.2,W4 (Ne.symm h.1)]
theorem zbu (cs:List Nat) (δ₁:Dl):∀ δ:Dl,(z2D cs δ₁ δ).length=δ.length:=by
 induction cs with
 | nil=>intro δ; rfl
 | cons i r ih =>
  intro δ
  unfold z2D
  rw [Q6]
  have:=ih (match δ₁[i]? with | some o=>δ.set i o | none=>δ)
  unfold z2D at this
  rw [this]
  cases δ₁[i]? <;> simp
theorem z48:∀ (cs:List Nat) (δ₁ δ:Dl) (i:Nat),i ∉ cs→(z2D cs δ₁ δ)[i]? = δ[i]?:=by
 intro cs δ₁
 induction cs with
 | nil=>intro δ i _; rfl
 | cons j r ih =>
  intro δ i h
  simp only [Wf,not_or] at h
  unfold z2D
  rw [Q6]
  have:=ih (match δ₁[j]? with | some o=>δ.set j o | none=>δ) i h.2
  unfold z2D at this
  rw [this]
  cases δ₁[j]? with
  | none=>rfl
  | some o=>simp only; rw [W4 (Ne.symm h.1)]
theorem z6N:∀ (cs:List Nat) (δ₁ δ:Dl) (i:Nat),δ₁.length=δ.length→i ∈ cs→(z2D cs δ₁ δ)[i]? = δ₁[i]?:=by
 intro cs δ₁
 induction cs with
 | nil=>intro δ i _ h; simp at h
 | cons j r ih =>
  intro δ i hl h
  unfold z2D
  rw [Q6]
  have hl2:δ₁.length=(match δ₁[j]? with | some o=>δ.set j o | none=>δ).length:=by cases δ₁[j]? <;> simp [hl]
  by_cases hr:i ∈ r
  ·have:=ih (match δ₁[j]? with | some o=>δ.set j o | none=>δ) i hl2 hr
   unfold z2D at this
   exact this
  ·have e:i=j:=by
    rcases Wf.mp h with e | e
    ·exact e
    ·exact absurd e hr
   subst e
   have:=z48 r δ₁ (match δ₁[i]? with | some o=>δ.set i o | none=>δ) i hr
   unfold z2D at this
   rw [this]
   cases e:δ₁[i]? with
   | none =>
    simp only
    have:=List.getElem?_eq_none_iff.mp e
    exact WS (by omega)
   | some o =>
    simp only
    have:=(Wb.mp e).1
    rw [Wl (by omega)]
section
variable {c:Fc} {σ:St} {δ δ':Dl} {H H':Hp} {l:Addr} {cs:List Nat}
theorem Ok.less (k:Ok (c.plus l) σ δ H):Ok c σ δ H:=by
 have sub:∀ b,Av c σ δ b→Av (c.plus l) σ δ b:=fun b z=>z.elim (fun z=>.inl (.inl z)) .inr
 refine ⟨k.keep,fun a z=>k.bd a (.inl z),k.ith,k.len,fun i d e=>?_,fun i d e=>?_,k.inj,k.pinned⟩
 ·obtain ⟨v,h1,h2⟩:=k.slot i d e
  exact ⟨v,h1,h2.anti fun b z=>.inl (sub b z)⟩
 ·obtain ⟨a,h1,h2,h3,h4⟩:=k.own i d e
  exact ⟨a,h1,h2.anti fun b z=>.inl (sub b z),h3,fun z=>h4 (.inl z)⟩
theorem Ok.updB (k:Ok c σ δ H) (hb:c.B l) (h0:c.H₀ l=none) (o:HO):Ok c σ δ (upd H l o):=by
 have kp:∀ b w,H b=some w→¬ Av c σ δ b→upd H l o b=some w:=fun b w e n=>by
  rw [z0d (fun z=>n (by rw [z]; exact .inl hb))]; exact e
 have hup:∀ b w,H b=some w→∃ w',upd H l o b=some w':=fun b w h=>by
  by_cases hb:b=l
  ·exact ⟨_,by rw [hb]; exact z0p⟩
  ·exact ⟨w,by rw [z0d hb]; exact h⟩
 refine ⟨fun a w e n=>?_,fun a z=>?_,fun a z=>?_,k.len,fun i d e=>?_,fun i d e=>?_,k.inj,k.pinned⟩
 ·have:a≠l:=fun z=>by rw [z,h0] at e; cases e
  rw [z0d this]; exact k.keep a w e n
 ·obtain ⟨w,e⟩:=k.bd a z; exact hup a w e
 ·obtain ⟨w,e⟩:=k.ith a z; exact hup a w e
 ·obtain ⟨v,h1,h2⟩:=k.slot i d e
  exact ⟨v,h1,h2.keep kp⟩
 ·obtain ⟨a,h1,h2,h3,h4⟩:=k.own i d e
  have:a≠l:=fun z=>h4 (by rw [z]; exact hb)
  exact ⟨a,h1,h2.keep kp fun w q=>by rw [z0d this]; exact q,h3,h4⟩
theorem Own.clr (h:Own (clr cs σ) (clrD cs δ) l):Own σ δ l:=by
 obtain ⟨i,d,e1,e2⟩:=h
 exact ⟨i,d,(z1j cs δ i _ e1).1,(z3f cs σ i _ e2).1⟩
theorem Ok.clr (k:Ok c σ δ H) (hp:∀ p ∈ c.pin,p.1 ∉ cs):Ok c (L2.clr cs σ) (clrD cs δ) H:=by
 have sub:∀ b,Av c (L2.clr cs σ) (clrD cs δ) b→Av c σ δ b:=fun b z=>z.elim .inl fun z=>.inr z.clr
 refine ⟨k.keep,k.bd,k.ith,by rw [z94,z6K]; exact k.len,fun i d e=>?_,fun i d e=>?_,fun i j a d d' e1 e2 e3 e4=>?_,fun p hm=>?_⟩
 ·obtain ⟨e',hi⟩:=z1j cs δ i _ e
  obtain ⟨v,h1,h2⟩:=k.slot i d e'
  exact ⟨v,by rw [z2R cs σ i hi]; exact h1,h2.anti fun b z=>.inl (sub b z)⟩
 ·obtain ⟨e',hi⟩:=z1j cs δ i _ e
  obtain ⟨a,h1,h2,h3⟩:=k.own i d e'
  exact ⟨a,by rw [z2R cs σ i hi]; exact h1,h2.anti fun b z=>.inl (sub b z),h3⟩
 ·exact k.inj i j a d d' (z1j cs δ i _ e1).1 (z1j cs δ j _ e2).1 (z3f cs σ i _ e3).1 (z3f cs σ j _ e4).1
 ·rw [z2R cs σ _ (hp p hm)]; exact k.pinned p hm
theorem Aft.back (k:Ok c₀ σ δ H) (hpin:c.pin=c₀.pin) (hB:∀ b,c.B b→c₀.B b∨H b=none) (hno:cs.any (z0B δ)=false) (x:Aft c (L2.clr cs σ) (clrD cs δ) H (L2.clr cs σ) δ' H'):Aft c σ δ H σ (z2D cs δ δ') H':=by
 have len:δ.length=δ'.length:=by
  have:=x.ok.len
  rw [z6K] at this
  rw [this]; exact k.len
 have nown:∀ i d,i ∈ cs→δ[i]?≠some (some (.own d)):=fun i d hi e=>by
  have:=List.any_eq_false.mp hno i hi
  unfold z0B at this
  rw [e] at this
  simp at this
 have ownOut:∀ i d,(z2D cs δ δ')[i]? = some (some (.own d))→i ∉ cs∧δ'[i]? = some (some (.own d)):=fun i d e=>by
  by_cases hi:i ∈ cs
  ·rw [z6N cs δ δ' i len hi] at e
   exact absurd e (nown i d hi)
  ·rw [z48 cs δ δ' i hi] at e
   exact ⟨hi,e⟩
 have sub:∀ b,Own σ (z2D cs δ δ') b→Own (L2.clr cs σ) δ' b:=fun b ⟨i,d,e1,e2⟩=>by
  obtain ⟨hi,e⟩:=ownOut i d e1
  exact ⟨i,d,e,by rw [z2R cs σ i hi]; exact e2⟩
 have subA:∀ b,Av c σ (z2D cs δ δ') b→Av c (L2.clr cs σ) δ' b:=fun b z=>z.elim .inl fun z=>.inr (sub b z)
 have ownEq:∀ b,Own σ δ b→Own (L2.clr cs σ) (clrD cs δ) b:=fun b ⟨i,d,e1,e2⟩=>by
  have hi:i ∉ cs:=fun z=>nown i d z e1
  exact ⟨i,d,by rw [zcL cs δ i hi]; exact e1,by rw [z2R cs σ i hi]; exact e2⟩
 refine ⟨⟨x.ok.keep,x.ok.bd,x.ok.ith,by rw [zbu,← len]; exact k.len,fun i d e=>?_,fun i d e=>?_,fun i j a d d' e1 e2 e3 e4=>?_,by rw [hpin]; exact k.pinned⟩,fun a o e n=>?_,fun a z=>?_,x.there⟩
 ·by_cases hi:i ∈ cs
  ·rw [z6N cs δ δ' i len hi] at e
   obtain ⟨v,h1,h2⟩:=k.slot i d e
   have h3:Rep H (Av c (L2.clr cs σ) (clrD cs δ)) v d:=h2.anti fun b z=>by
    rcases z with z | z
    ·exact (hB b z).elim (fun z=>.inl (.inl z)) .inr
    ·exact .inl (.inr z.clr)
   exact ⟨v,h1,(Rep.aft h3 x).anti fun b z=>.inl (subA b z)⟩
  ·rw [z48 cs δ δ' i hi] at e
   obtain ⟨v,h1,h2⟩:=x.ok.slot i d e
   exact ⟨v,(z3f cs σ i v h1).1,h2.anti fun b z=>.inl (subA b z)⟩
 ·obtain ⟨hi,e'⟩:=ownOut i d e
  obtain ⟨a,h1,h2,h3⟩:=x.ok.own i d e'
  exact ⟨a,(z3f cs σ i _ h1).1,h2.anti fun b z=>.inl (subA b z),h3⟩
 ·obtain ⟨hi,f1⟩:=ownOut i d e1
  obtain ⟨hj,f2⟩:=ownOut j d' e2
  exact x.ok.inj i j a d d' f1 f2 (by rw [z2R cs σ i hi]; exact e3) (by rw [z2R cs σ j hj]; exact e4)
 ·exact x.keep a o e fun z=>n z.clr
 ·rcases x.own a (sub a z) with q | q
  ·exact .inl q.clr
  ·exact .inr q
end
def z2l (cs:List Nat) (g:DG) (t:DT) (el:DE):List D→Dl→List D→Rs (List D)
 | [],δ,acc=>.ok acc δ
 | d :: r,δ,acc=>match g (.pure d) δ with
  | none=>.stuck
  | some δ1=>(t δ1).bind fun b δ2=>if b then (el δ2).bind fun x δ3=>if acc.length < W3 then z2l cs g t el r (clrD cs δ3) (acc ++ [x.d]) else .stuck
   else z2l cs g t el r (clrD cs δ2) acc
def z6H (cs:List Nat) (it:DI) (g:DG) (t:DT) (el:DE):DE:=fun δ=>(it δ).bind fun ds δ1=>if cs.any (z0B δ1) then .stuck else
 (z2l cs g t el ds (clrD cs δ1) []).bind fun acc δ2=>.ok (.own (.lst acc)) (z2D cs δ1 δ2)
def dYes:DT:=fun δ=>.ok true δ
abbrev STs (X:Cx) (c:Fc) (ifs:List Expr) (t:DT):Prop:=PTs X ifs (tT c t)
theorem z9R {X:Cx} {c:Fc}:STs X c [] dYes:=fun pins s σ H Q I ⟨δ,k,q⟩=>zdQ pins s σ H Q I (q H (.refl k))
theorem zdn {X:Cx} {c:Fc} {e:Expr} {t:DT} (h:ST X c e t):STs X c [e] t:=zdP h
section
variable {X:Cx} {c:Fc} {cs:List Nat} {tg iter elt:Expr} {ifs:List Expr} {scope:Scope} {pos:Pos} {it:DI} {g:DG} {t:DT} {el:DE}
theorem Aft.clear (x:Aft c (L2.clr cs σ) δ H σ4 δ4 H4) (le:Le (L2.clr cs σ) σ4) (hp:∀ p ∈ c.pin,p.1 ∉ cs) (hs:∀ (i:Nat) v,σ4[i]? = some (some v)→i ∉ cs→σ[i]? = some (some v)):Aft c (L2.clr cs σ) δ H (L2.clr cs σ) (clrD cs δ4) H4:=by
 have eq:∀ i,i ∉ cs→∀ v,σ4[i]? = some (some v)→(L2.clr cs σ)[i]? = some (some v):=fun i hi v e=>by rw [z2R cs σ i hi]; exact hs i v e hi
 have own:∀ b,Own (L2.clr cs σ) (clrD cs δ4) b→Own σ4 δ4 b:=fun b ⟨i,d,e1,e2⟩=>by
  exact ⟨i,d,(z1j cs δ4 i _ e1).1,le.2 i _ e2⟩
 have sub:∀ b,Av c (L2.clr cs σ) (clrD cs δ4) b→Av c σ4 δ4 b:=fun b z=>z.elim .inl fun z=>.inr (own b z)
 have k:=x.ok
 refine ⟨⟨k.keep,k.bd,k.ith,by rw [z94,k.len]; exact le.1,fun i d e=>?_,fun i d e=>?_,fun i j a d d' e1 e2 e3 e4=>?_,fun p hm=>?_⟩,x.keep,fun a z=>x.own a (own a z),x.there⟩
 ·obtain ⟨e',hi⟩:=z1j cs δ4 i _ e
  obtain ⟨v,h1,h2⟩:=k.slot i d e'
  exact ⟨v,eq i hi v h1,h2.anti fun b z=>.inl (sub b z)⟩
 ·obtain ⟨e',hi⟩:=z1j cs δ4 i _ e
  obtain ⟨a,h1,h2,h3⟩:=k.own i d e'
  exact ⟨a,eq i hi _ h1,h2.anti fun b z=>.inl (sub b z),h3⟩
 ·exact k.inj i j a d d' (z1j cs δ4 i _ e1).1 (z1j cs δ4 j _ e2).1 (le.2 i _ e3) (le.2 j _ e4)
 ·exact eq p.1 (hp p hm) _ (k.pinned p hm)
def Out (cs:List Nat) (σ σ':St):Prop:=σ'.length=σ.length∧∀ i,i ∉ cs→σ'[i]? = σ[i]?
theorem Out.trans (a:Out cs σ σ') (b:Out cs σ' σ''):Out cs σ σ'':=⟨b.1.trans a.1,fun i h=>(b.2 i h).trans (a.2 i h)⟩
def tGC (cs:List Nat) (c:Fc) (g:DG):TG:=fun v σ H Q=>∃ σ₀ δ₀ H₁ δ r δ',Aft c σ₀ δ₀ H₁ σ δ H∧RepS c σ δ H₁ H v r∧g r δ=some δ'∧∀ σ',Aft c σ₀ δ₀ H₁ σ' δ' H→Out cs σ σ'→Q σ' H
abbrev SGC (X:Cx) (c:Fc) (cs:List Nat) (tg:Expr) (g:DG):Prop:=PG X tg (tGC cs c g)
theorem z4M {np:List Nat} {i:Nat} {x:Str} (hp:Np c np) (hN:X.N.Nodup) (hi:X.N[i]? = some x) (hx:Loc X.env.scope x) (hf:X.fn x=true∨X.env.scope.names.lookup x=some .local) (hc:i ∈ cs):SGC X c cs (.Name x pos) (gNm np i) :=
 PG.weak (zap hN hi hx hf) fun v σ H Q ⟨σ₀,δ₀,H₁,δ,r,δ',x,rr,e,q⟩=>by
  unfold gNm at e
  split at e
  ·cases e
  ·rename_i hn
   cases e
   refine q _ (Ok.set x rr fun p hm e=>hn (by rw [← e]; exact hp p hm)) ⟨by simp,fun j hj=>?_⟩
   rw [W4 (fun z=>hj (by rw [← z]; exact hc))]
def tGCs (cs:List Nat) (c:Fc) (g:DGs):TGs:=fun vs σ H Q=>∃ δ ds δ',Ok c σ δ H∧Reps H (Av c σ δ) vs ds∧g ds δ=some δ'∧∀ σ',Aft c σ δ H σ' δ' H→Out cs σ σ'→Q σ' H
abbrev SGCs (X:Cx) (c:Fc) (cs:List Nat) (tg:List Expr) (g:DGs):Prop:=PGs X tg (tGCs cs c g)
theorem zbF:SGCs X c cs [] z1F:=PGs.weak zao fun vs σ H Q ⟨δ,ds,δ',k,r,e,q⟩=>by
 cases ds with
 | nil =>
  cases e
  have:vs=[]:=by have:=r.1; simpa using this
  exact ⟨this,q σ (.refl k) ⟨rfl,fun _ _=>rfl⟩⟩
 | cons d r=>cases e
theorem z6W {e:Expr} {es:List Expr} {g:DG} {gs:DGs} (h1:SGC X c cs e g) (h2:SGCs X c cs es gs) (hs:(Q8 (e :: es) X.env).map (·.2)=assign e X.env :: (Q8 es X.env).map (·.2):=by rfl):SGCs X c cs (e :: es) (z0q g gs) :=
 PGs.weak (z8I h1 h2 hs) fun vs σ H Q ⟨δ,ds,δ',k,r,e,q⟩=>by
  cases ds with
  | nil=>cases e
  | cons d ds =>
   cases vs with
   | nil=>have:=r.1; simp at this
   | cons v vs =>
    simp only [z0q] at e
    cases e1:g (.pure d) δ with
    | none=>rw [e1] at e; cases e
    | some δ1 =>
     rw [e1] at e
     refine ⟨v,vs,rfl,σ,δ,H,δ,.pure d,δ1,.refl k,r.head,e1,fun σ1 a1 o1=>?_⟩
     exact ⟨δ1,ds,δ',a1.ok,Reps.aft r.tail a1,e,fun σ2 a2 o2=>q σ2 (a1.trans a2) (o1.trans o2)⟩
theorem zdw {es:List Expr} {k:Nat} {gs:DGs} {n:Nat} (hc:X.calm=true) (h:SGCs X c cs es gs) (hn:(Q8 es X.env).length=n:=by rfl) (hst:(Q8 es X.env).findIdx? (·.1)=none:=by rfl) :
  SGC X c cs (.Tuple es k pos) (gTp n gs):=PG.weak (zcZ hc h hn hst) fun v σ H Q hw=>by
 obtain ⟨σ₀,δ₀,H₁,δ,r,δ',x,rr,e,q⟩:=hw
 have hb:=rr.b
 unfold gTp at e
 generalize r.d=d at e hb
 cases d <;> first | (cases e; done) | skip
 rename_i ds
 simp only at e
 split at e
 ·rename_i hl
  obtain ⟨a,vs,ea,ha,ra⟩:=hb.tup
  exact ⟨a,vs,ea,.of ha,by rw [ra.1]; exact hl,δ,ds,δ',x.ok,ra,e,fun σ' a1 o1=>q σ' (x.trans a1) o1⟩
 ·cases e
theorem Aft.less (x:Aft (c.plus l) σ δ H σ' δ' H'):Aft c σ δ H σ' δ' H':=⟨x.ok.less,x.keep,x.own,x.there⟩
theorem z7D (hwi:∀ σ H R,tI c it σ H R→wi σ H R) (hg:∀ l v σ H Q,tGC cs (c.plus l) g v σ H Q→gt v σ H Q) (ht:∀ l σ H Q,tT (c.plus l) t σ H Q→tt σ H Q) (he:∀ l σ H Q,tD (c.plus l) el σ H Q→te σ H Q)
  (hp:∀ p ∈ c.pin,p.1 ∉ cs) (h:tD c (z6H cs it g t el) σ H Q):zdl cs wi gt tt te σ H Q:=by
 obtain ⟨δ,k,q⟩:=h
 unfold z6H at q
 rw [z03] at q
 refine hwi _ _ _ ⟨δ,k,z01 q fun ds δ1 q1 J H1 a1 io=>?_⟩
 intro l hl
 split at q1
 ·exact q1.elim
 ·rename_i hno
  have hno':cs.any (z0B δ1)=false:=by simpa using hno
  rw [z03] at q1
  have k1:=a1.ok
  have kp:=k1.plus hl (.lst [])
  have k0:Ok (c.plus l) (L2.clr cs σ) (clrD cs δ1) (upd H1 l (.lst [])):=kp.clr hp
  have up:∀ a w,H1 a=some w→upd H1 l (.lst []) a=some w:=fun a w e=>by
   rw [z0d (z0J e hl)]; exact e
  have h0:c.H₀ l=none:=k1.fresh₀ hl
  -- the walked things,as the block sees them
  have io':ItOk (c.plus l) (L2.clr cs σ) (clrD cs δ1) H1 J ds:=by
   intro H2 kp2
   obtain ⟨s1,s2⟩:=io H2 fun a o e n=>kp2 a o e fun z=>n z.clr
   have cv:∀ {x:V} {d:D},Rep H1 (Av c σ δ1) x d→Rep H1 (Av (c.plus l) (L2.clr cs σ) (clrD cs δ1)) x d:=fun {x d} r =>
    r.anti fun b z=>by
     rcases z with (z | z) | z
     ·exact .inl (.inl z)
     ·exact .inr (by rw [z]; exact hl)
     ·exact .inl (.inr z.clr)
   refine ⟨s1,fun i d e=>⟨(s2 i d e).1,fun x H3 y=>?_⟩⟩
   rcases (s2 i d e).2 x H3 y with ⟨e3,r⟩ | ⟨p,vs,es,hp,e3,ex,ed,r⟩
   ·exact .inl ⟨e3,cv r⟩
   ·exact .inr ⟨p,vs,es,hp,e3,ex,ed,r.1,fun i v d e1 e2=>cv (r.2 i v d e1 e2)⟩
  let Fin:List D→Dl→Prop:=fun acc δ'=>∀ H' vs,Aft (c.plus l) (L2.clr cs σ) (clrD cs δ1) H1 (L2.clr cs σ) δ' H'→H' l=some (.lst vs)→Reps H' (Av (c.plus l) (L2.clr cs σ) δ') vs acc→Q (.ref l) H'
  have q2:post c (z2l cs g t el ds (clrD cs δ1) []) Fin:=z01 q1 fun acc δ2 q2 H' vs x hv r=>by
   have b1:Aft (c.plus l) σ δ1 H1 σ (z2D cs δ1 δ2) H':=Aft.back k1 rfl (fun b z=>z.elim .inl fun z=>.inr (by rw [z]; exact hl)) hno' x
   have b2:Aft c σ δ1 H1 σ (z2D cs δ1 δ2) H':=b1.less
   have len:δ1.length=δ2.length:=by
    have:=x.ok.len
    rw [z6K] at this
    rw [this]; exact k1.len
   have hlH:H l=none:=by
    cases e:H l with
    | none=>rfl
    | some o =>
     obtain ⟨o',e'⟩:=a1.there l o e
     rw [hl] at e'; cases e'
   refine q2 _ H' (a1.trans b2) ⟨l,rfl,⟨vs,hv,Reps.anti r fun b z=>.inl ?_⟩,fun z=>k1.nav hl (.inl z),h0,b1.ok,hlH⟩
   rcases z with z | ⟨i,d,e1,e2⟩
   ·exact .inl z
   ·have hi:i ∉ cs:=fun hi=>by
     rw [z6N cs δ1 δ2 i len hi] at e1
     have:=List.any_eq_false.mp hno' i hi
     unfold z0B at this
     rw [e1] at this
     simp at this
    rw [z48 cs δ1 δ2 i hi] at e1
    exact .inr ⟨i,d,e1,by rw [z2R cs σ i hi]; exact e2⟩
  refine ⟨fun i m H2=>∃ δ2 acc vs,m=ds.length - i∧i≤ds.length∧Aft (c.plus l) (L2.clr cs σ) (clrD cs δ1) H1 (L2.clr cs σ) δ2 H2∧H2 l=some (.lst vs)∧Reps H2 (Av (c.plus l) (L2.clr cs σ) δ2) vs acc ∧
   post c (z2l cs g t el (ds.drop i) δ2 acc) Fin,⟨ds.length,clrD cs δ1,[],[],by simp,Qb _,⟨k0,fun a w e _=>up a w e,fun a z=>.inl z,fun a w e=>⟨w,up a w e⟩⟩,z0p,.nil,by rw [List.drop_zero]; exact q2⟩,?_⟩
  rintro i m H2 ⟨δ2,acc,vs,rfl,hil,a2,hv,rv,p2⟩
  by_cases hlt:i < ds.length
  ·right
   have e:ds[i]? = some ds[i]:=by simp [hlt]
   rw [List.drop_eq_getElem_cons hlt] at p2
   refine ⟨((io' H2 a2.keep).2 i _ e).1,fun x H3 y=>hg l _ _ _ _ ?_⟩
   obtain ⟨a3,r3⟩:=z6d io' a2 e y
   simp only [z2l] at p2
   cases eg:g (.pure ds[i]) δ2 with
   | none=>rw [eg] at p2; exact p2.elim
   | some δ3 =>
    rw [eg] at p2
    have p3:post c ((t δ3).bind fun b δ2=>if b then (el δ2).bind fun x δ3=>if acc.length < W3 then z2l cs g t el (ds.drop (i + 1)) (clrD cs δ3) (acc ++ [x.d]) else .stuck
     else z2l cs g t el (ds.drop (i + 1)) (clrD cs δ2) acc) Fin:=p2
    refine ⟨L2.clr cs σ,δ2,H3,δ2,.pure ds[i],δ3,.refl a3.ok,r3,eg,fun σ4 a4 o4=>?_⟩
    have le:Le (L2.clr cs σ) σ4:=⟨o4.1,fun j v ej=>by
     rw [o4.2 j (z3f cs σ j v ej).2]; exact ej⟩
    have hs:∀ (j:Nat) v,σ4[j]? = some (some v)→j ∉ cs→σ[j]? = some (some v):=fun j v ej hj=>by
     rw [o4.2 j hj] at ej
     exact (z3f cs σ j v ej).1
    refine ⟨le,ht l _ _ _ ⟨δ3,a4.ok,?_⟩⟩
    rw [z03] at p3
    have pinp:∀ p ∈ (c.plus l).pin,p.1 ∉ cs:=hp
    have a24:=a2.trans (a3.trans a4)
    have ln:∀ {σ':St} {δ':Dl} {H':Hp},Ok (c.plus l) σ' δ' H'→¬ Own σ' δ' l:=fun {σ' δ' H'} k=>z3U k
    have p3':post (c.plus l) (t δ3) fun b δ5=>post c (if b then (el δ5).bind fun x δ3=>if acc.length < W3 then z2l cs g t el (ds.drop (i + 1)) (clrD cs δ3) (acc ++ [x.d]) else .stuck
     else z2l cs g t el (ds.drop (i + 1)) (clrD cs δ5) acc) Fin:=p3
    refine z01 p3' fun b δ5 p5 H5 a5=>?_
    have a25:=a24.trans a5
    have hv3:H3 l=some (.lst vs):=a3.keep l _ hv (ln a2.ok)
    have hv5:H5 l=some (.lst vs):=a5.keep l _ hv3 (ln a4.ok)
    have rv3:=Reps.aft (Reps.aft (Reps.aft rv a3) a4) a5
    cases b with
    | false =>
     have c5:=a25.clear le pinp hs
     refine ⟨ds.length - (i + 1),by omega,clrD cs δ5,acc,vs,rfl,hlt,c5,hv5,Reps.anti rv3 fun b z=>.inl ?_,p5⟩
     exact z.elim .inl fun ⟨j,d,e1,e2⟩=>.inr ⟨j,d,(z1j cs δ5 j _ e1).1,le.2 j _ e2⟩
    | true =>
     have p5':post c ((el δ5).bind fun x δ3=>if acc.length < W3 then z2l cs g t el (ds.drop (i + 1)) (clrD cs δ3) (acc ++ [x.d]) else .stuck) Fin:=p5
     rw [z03] at p5'
     refine he l _ _ _ ⟨δ5,a5.ok,?_⟩
     have p6:post (c.plus l) (el δ5) fun x δ6=>post c (if acc.length < W3 then z2l cs g t el (ds.drop (i + 1)) (clrD cs δ6) (acc ++ [x.d]) else .stuck) Fin:=p5'
     refine z01 p6 fun x δ6 p7 v H6 a6 r6=>?_
     split at p7
     ·rename_i hz
      have a26:=a25.trans a6
      have hv6:H6 l=some (.lst vs):=a6.keep l _ hv5 (ln a5.ok)
      have rv6:=Reps.aft rv3 a6
      have rr:Reps H6 (Av (c.plus l) σ4 δ6) (vs ++ [v]) (acc ++ [x.d]):=rv6.append (.cons r6.rep .nil)
      have c6:=a26.clear le pinp hs
      have kpl:∀ b o,H6 b=some o→¬ Av (c.plus l) σ4 δ6 b→upd H6 l (.lst (vs ++ [v])) b=some o:=fun b o e n=>by
       rw [z0d (fun z=>n (by rw [z]; exact .inl (.inr rfl)))]; exact e
      have sub6:∀ b,Av (c.plus l) (L2.clr cs σ) (clrD cs δ6) b→Av (c.plus l) σ4 δ6 b:=fun b z=>z.elim .inl fun ⟨j,d,e1,e2⟩=>.inr ⟨j,d,(z1j cs δ6 j _ e1).1,le.2 j _ e2⟩
      refine ⟨vs,ds.length - (i + 1),hv6,by rw [rv6.1]; exact hz,by omega,clrD cs δ6,acc ++ [x.d],vs ++ [v],rfl,hlt,?_,z0p,Reps.anti (Reps.keep rr kpl) fun b z=>.inl (sub6 b z),p7⟩
      -- the list that is built has grown
      refine ⟨c6.ok.updB (.inr rfl) h0 _,fun a o ea n=>?_,fun a z=>c6.own a z,fun a o ea=>?_⟩
      ·have hal:a≠l:=fun z=>by rw [z,hl] at ea; cases ea
       rw [z0d hal]; exact c6.keep a o ea n
      ·by_cases hal:a=l
       ·exact ⟨_,by rw [hal]; exact z0p⟩
       ·obtain ⟨o',e'⟩:=c6.there a o ea
        exact ⟨o',by rw [z0d hal]; exact e'⟩
     ·exact p7.elim
  ·left
   have hi2:i=ds.length:=by omega
   subst hi2
   rw [List.drop_length] at p2
   exact ⟨(io' H2 a2.keep).1,p2 H2 vs a2 hv rv⟩
theorem zdD (hc:X.calm=true) (S:CScope X scope cs) (hi:SI X c tg iter it) (hg:∀ l s₀ H₀ ex,SGC (z1w X scope s₀ H₀ ex) (c.plus l) cs tg g) (ht:∀ l s₀ H₀ ex,STs (z1w X scope s₀ H₀ ex) (c.plus l) ifs t)
  (he:∀ l s₀ H₀ ex,SE (z1w X scope s₀ H₀ ex) (c.plus l) elt el) (hp:∀ p ∈ c.pin,p.1 ∉ cs) (hs:∀ x,Ql iter X.env x=pure x:=by intro _; rfl) :
  SE X c (.ListComp elt [⟨tg,iter,ifs,0⟩] scope pos) (z6H cs it g t el) :=
 PE.weak (ze3 (g:=fun v σ H Q=>∃ l,tGC cs (c.plus l) g v σ H Q) (tt:=fun σ H Q=>∃ l,tT (c.plus l) t σ H Q) (te:=fun σ H Q=>∃ l,tD (c.plus l) el σ H Q) hc S hi
  (fun s₀ H₀ ex pins s σ H v u Q I r ⟨l,q⟩=>hg l s₀ H₀ ex pins s σ H v u Q I r q) (fun s₀ H₀ ex pins s σ H Q I ⟨l,q⟩=>ht l s₀ H₀ ex pins s σ H Q I q) (fun s₀ H₀ ex pins s σ H Q I ⟨l,q⟩=>he l s₀ H₀ ex pins s σ H Q I q) hs)
  fun σ H Q h=>z7D (fun _ _ _ h=>h) (fun l _ _ _ _ h=>⟨l,h⟩) (fun l _ _ _ h=>⟨l,h⟩) (fun l _ _ _ h=>⟨l,h⟩) hp h
theorem z5S {np:List Nat} {i:Nat} {y:Str} {py spos:Pos} (hnp:Np c np) (hc:X.calm=true) (S:CScope X scope cs) (hN:X.N.Nodup) (hi':X.N[i]? = some y) (hy:X.env.scope.names.lookup y=some .local)
  (hi:SI X c tg iter it) (hg:∀ l s₀ H₀ ex,SGC (z1w X scope s₀ H₀ ex) (c.plus l) cs tg g) (ht:∀ l s₀ H₀ ex,STs (z1w X scope s₀ H₀ ex) (c.plus l) ifs t)
  (he:∀ l s₀ H₀ ex,SE (z1w X scope s₀ H₀ ex) (c.plus l) elt el) (hp:∀ p ∈ c.pin,p.1 ∉ cs)
  (hsw:QW (.ListComp elt [⟨tg,iter,ifs,0⟩] scope pos) (some (.Name y py)) spos.line X.env=pure true:=by rfl) (hs:∀ x,Ql iter X.env x=pure x:=by intro _; rfl) :
  SS X c (.Assign [.Name y py] (.ListComp elt [⟨tg,iter,ifs,0⟩] scope pos) spos) (dAsg (z6H cs it g t el) (gNm np i)) :=
 PS.weak (z9o (g:=fun v σ H Q=>∃ l,tGC cs (c.plus l) g v σ H Q) (tt:=fun σ H Q=>∃ l,tT (c.plus l) t σ H Q) (te:=fun σ H Q=>∃ l,tD (c.plus l) el σ H Q) hc S hN hi' hy hi
  (fun s₀ H₀ ex pins s σ H v u Q I r ⟨l,q⟩=>hg l s₀ H₀ ex pins s σ H v u Q I r q) (fun s₀ H₀ ex pins s σ H Q I ⟨l,q⟩=>ht l s₀ H₀ ex pins s σ H Q I q) (fun s₀ H₀ ex pins s σ H Q I ⟨l,q⟩=>he l s₀ H₀ ex pins s σ H Q I q) hsw hs)
  fun D σ H h=>z6O (fun σ H Q h=>z7D (fun _ _ _ h=>h) (fun l _ _ _ _ h=>⟨l,h⟩) (fun l _ _ _ h=>⟨l,h⟩) (fun l _ _ _ h=>⟨l,h⟩) hp h) (fun _ _ _ _ h=>z6D hnp h) h
end
abbrev DF:=List S→Option (S×List S)
def z0z:Nat→List S→List V→List (Nat×Addr)
 | n,.own _ :: ss,.ref a :: vs=>(n,a) :: z0z (n + 1) ss vs
 | n,_ :: ss,_ :: vs=>z0z (n + 1) ss vs
 | _,_,_=>[]
theorem z1m:∀ {n:Nat} {ss:List S} {vs:List V} {i:Nat} {a:Addr},(i,a) ∈ z0z n ss vs→∃ j d,i=n + j∧ss[j]? = some (.own d)∧vs[j]? = some (.ref a)
 | n,[],vs,i,a,h=>by simp [z0z] at h
 | n,s :: ss,[],i,a,h=>by cases s <;> simp [z0z] at h
 | n,s :: ss,v :: vs,i,a,h=>by
  have rec':(i,a) ∈ z0z (n + 1) ss vs→∃ j d,i=n + j∧(s :: ss)[j]? = some (.own d)∧(v :: vs)[j]? = some (.ref a):=fun h=>by
   obtain ⟨j,d,e,h1,h2⟩:=z1m h
   exact ⟨j + 1,d,by omega,by simpa using h1,by simpa using h2⟩
  cases s with
  | pure d=>exact rec' h
  | own d =>
   cases v with
   | ref b =>
    rcases Wf.mp h with e | h
    ·cases e
     exact ⟨0,d,rfl,rfl,rfl⟩
    ·exact rec' h
   | _=>exact rec' h
theorem z3Y:∀ {n:Nat} {ss:List S} {vs:List V} {j:Nat} {d:D} {a:Addr},ss[j]? = some (.own d)→vs[j]? = some (.ref a)→(n + j,a) ∈ z0z n ss vs
 | n,[],vs,j,d,a,h,_=>by simp at h
 | n,s :: ss,[],j,d,a,_,h=>by simp at h
 | n,s :: ss,v :: vs,0,d,a,h1,h2=>by
  simp at h1 h2
  subst h1 h2
  exact Wh
 | n,s :: ss,v :: vs,j + 1,d,a,h1,h2=>by
  have ih:=z3Y (n:=n + 1) (ss:=ss) (vs:=vs) (j:=j) (d:=d) (a:=a) (by simpa using h1) (by simpa using h2)
  have e:n + 1 + j=n + (j + 1):=by omega
  rw [e] at ih
  cases s with
  | pure d=>exact ih
  | own d =>
   cases v with
   | ref b=>exact We _ ih
   | _=>exact ih
abbrev z0X (vs:List V):St:=vs.map some
abbrev z14 (ss:List S):Dl:=ss.map some
theorem someS_get {ss:List S} {i:Nat} {r:S}:(z14 ss)[i]? = some (some r) ↔ ss[i]? = some r:=by
 rw [WB]
 cases ss[i]? <;> simp
theorem some'_get {vs:List V} {i:Nat} {v:V}:(z0X vs)[i]? = some (some v) ↔ vs[i]? = some v:=by
 rw [WB]
 cases vs[i]? <;> simp
def spD (n:Nat) (G:DF):Sp:=fun vs H Q _=>∃ ss B,vs.length=n∧Ok ⟨H,B,z0z 0 ss vs,fun _ _=>False⟩ (z0X vs) (z14 ss) H∧∃ r outs,G ss=some (r,outs) ∧
 ∀ v H',Aft ⟨H,B,z0z 0 ss vs,fun _ _=>False⟩ (z0X vs) (z14 ss) H (z0X vs) (z14 outs) H'→RepS ⟨H,B,z0z 0 ss vs,fun _ _=>False⟩ (z0X vs) (z14 outs) H H' v r→Q v H'
def KFn (P:Wj) (w:Wp) (K:W0) (mg:Str→Option Value) (base:Heap) (k:Nat) (x:Str) (n:Nat) (G:DF):Prop :=
 ∃ (f:Addr) (fd:WD) (ps:List Str),mg x=some (.ref f)∧Qa K (.ref f)=true∧Binds K fd ps []∧FnOk P w K mg base CX0 k f fd ps (spD n G)
def z0f (n:Nat) (ss:List S):Dl:=z14 ss ++ Wd (n - ss.length) none
def z0a:Nat→List S→Dl→Option (List S)
 | _,[],_=>some []
 | n,.pure d :: ss,δ=>(z0a (n + 1) ss δ).map (.pure d :: ·)
 | n,.own _ :: ss,δ=>match δ[n]? with
  | some (some (.own d'))=>(z0a (n + 1) ss δ).map (.own d' :: ·)
  | _=>none
def z0H:Fl→Option S
 | .next=>some (.pure .non)
 | .ret r=>some r
 | _=>none
def runD (f:DS) (n:Nat) (ss:List S):Option (S×List S):=match f (z0f n ss) with
 | .ok fl δ=>(z0H fl).bind fun r=>(z0a 0 ss δ).map fun outs=>(r,outs)
 | _=>none
def ioOk (np:List Nat):Nat→List S→Bool
 | _,[]=>true
 | n,.own _ :: ss=>np.contains n && ioOk np (n + 1) ss
 | n,.pure _ :: ss=>ioOk np (n + 1) ss
theorem z6C:∀ {n:Nat} {ss:List S} {j:Nat} {d:D},ioOk np n ss=true→ss[j]? = some (.own d)→np.contains (n + j)=true
 | n,[],j,d,_,h=>by simp at h
 | n,s :: ss,0,d,h,e=>by
  simp at e
  subst e
  simp only [ioOk,Wi] at h
  exact h.1
 | n,s :: ss,j + 1,d,h,e=>by
  have h':ioOk np (n + 1) ss=true:=by
   cases s with
   | pure d=>exact h
   | own d=>simp only [ioOk,Wi] at h; exact h.2
  have:=z6C (n:=n + 1) (j:=j) h' (by simpa using e)
  rw [show n + (j + 1)=n + 1 + j by omega]
  exact this
theorem z58:∀ {n:Nat} {ss outs:List S} {δ:Dl},z0a n ss δ=some outs→outs.length=ss.length∧∀ (i:Nat) s,ss[i]? = some s→(∃ d,s = .pure d∧outs[i]? = some (.pure d))∨∃ d d',s = .own d∧δ[n + i]? = some (some (.own d'))∧outs[i]? = some (.own d')
 | n,[],outs,δ,h=>by
  simp only [z0a,W6] at h
  subst h
  exact ⟨rfl,fun i s e=>by simp at e⟩
 | n,.pure d :: ss,outs,δ,h=>by
  simp only [z0a] at h
  cases e:z0a (n + 1) ss δ with
  | none=>rw [e] at h; cases h
  | some os =>
   rw [e] at h
   simp only [WF,W6] at h
   subst h
   obtain ⟨h1,h2⟩:=z58 e
   refine ⟨by simp [h1],fun i s es=>?_⟩
   cases i with
   | zero=>simp at es; subst es; exact .inl ⟨d,rfl,rfl⟩
   | succ i =>
    rcases h2 i s (by simpa using es) with ⟨d,z1,z2⟩ | ⟨d,d',z1,z2,z3⟩
    ·exact .inl ⟨d,z1,by simpa using z2⟩
    ·exact .inr ⟨d,d',z1,by rw [show n + (i + 1)=n + 1 + i by omega]; exact z2,by simpa using z3⟩
 | n,.own d :: ss,outs,δ,h=>by
  simp only [z0a] at h
  split at h
  ·rename_i d' ed
   cases e:z0a (n + 1) ss δ with
   | none=>rw [e] at h; cases h
   | some os =>
    rw [e] at h
    simp only [WF,W6] at h
    subst h
    obtain ⟨h1,h2⟩:=z58 e
    refine ⟨by simp [h1],fun i s es=>?_⟩
    cases i with
    | zero=>simp at es; subst es; exact .inr ⟨d,d',rfl,ed,rfl⟩
    | succ i =>
     rcases h2 i s (by simpa using es) with ⟨d,z1,z2⟩ | ⟨d,d',z1,z2,z3⟩
     ·exact .inl ⟨d,z1,by simpa using z2⟩
     ·exact .inr ⟨d,d',z1,by rw [show n + (i + 1)=n + 1 + i by omega]; exact z2,by simpa using z3⟩
  ·cases h
section
variable {c:Fc} {H H':Hp} {vs:List V} {ss outs:List S} {σ':St} {δ':Dl}
theorem z36 {α:Type} {l:List (Option α)} {k i:Nat} {v:α} (h:(l ++ Wd k none)[i]? = some (some v)):l[i]? = some (some v):=by
 by_cases hi:i < l.length
 ·rw [QU hi] at h; exact h
 ·rw [List.getElem?_append_right (by omega),List.getElem?_replicate] at h
  split at h <;> cases h
theorem z2O {α:Type} {l:List (Option α)} {k i:Nat} {v:α} (h:l[i]? = some (some v)):(l ++ Wd k none)[i]? = some (some v):=by
 have hi:i < l.length:=(Wb.mp h).1
 rw [QU hi]; exact h
theorem Own.ext {σ:St} {δ:Dl} {k:Nat} {a:Addr}:Own (σ ++ Wd k none) (δ ++ Wd k none) a ↔ Own σ δ a :=
 ⟨fun ⟨i,d,e1,e2⟩=>⟨i,d,z36 e1,z36 e2⟩,fun ⟨i,d,e1,e2⟩=>⟨i,d,z2O e1,z2O e2⟩⟩
theorem Ok.ext {σ:St} {δ:Dl} (k:Ok c σ δ H) (n:Nat):Ok c (σ ++ Wd n none) (δ ++ Wd n none) H:=by
 have sub:∀ b,Av c (σ ++ Wd n none) (δ ++ Wd n none) b→Av c σ δ b:=fun b z=>z.elim .inl fun z=>.inr (Own.ext.mp z)
 refine ⟨k.keep,k.bd,k.ith,by simp [k.len],fun i d e=>?_,fun i d e=>?_,fun i j a d d' e1 e2 e3 e4=>k.inj i j a d d' (z36 e1) (z36 e2) (z36 e3) (z36 e4),fun p hm=>z2O (k.pinned p hm)⟩
 ·obtain ⟨v,h1,h2⟩:=k.slot i d (z36 e)
  exact ⟨v,z2O h1,h2.anti fun b z=>.inl (sub b z)⟩
 ·obtain ⟨a,h1,h2,h3⟩:=k.own i d (z36 e)
  exact ⟨a,z2O h1,h2.anti fun b z=>.inl (sub b z),h3⟩
theorem z8g {B:Addr→Prop} {n:Nat} (hc:c = ⟨H,B,z0z 0 ss vs,fun _ _=>False⟩) (k:Ok c (z0X vs) (z14 ss) H) (x:Aft c (z0X vs ++ Wd n none) (z14 ss ++ Wd n none) H σ' δ' H') (ho:z0a 0 ss δ'=some outs) :
  Aft c (z0X vs) (z14 ss) H (z0X vs) (z14 outs) H'∧∀ v r,RepS c σ' δ' H H' v r→RepS c (z0X vs) (z14 outs) H H' v r:=by
 obtain ⟨hlen,hat⟩:=z58 ho
 have hvs:ss.length=vs.length:=by have:=k.len; simpa using this
 have pin:∀ (i:Nat) (a:Addr) (d:D),ss[i]? = some (.own d)→vs[i]? = some (.ref a)→σ'[i]? = some (some (.ref a)):=fun i a d h1 h2=>by
  have:=z3Y (n:=0) h1 h2
  rw [Q0] at this
  exact x.ok.pinned (i,a) (by rw [hc]; exact this)
 have ownS:∀ (i:Nat) (d:D),outs[i]? = some (.own d)→(∃ d₀,ss[i]? = some (.own d₀))∧δ'[i]? = some (some (.own d)):=fun i d e=>by
  have hi:i < ss.length:=by rw [← hlen]; exact (Wb.mp e).1
  rcases hat i ss[i] (by simp [hi]) with ⟨d₁,z1,z2⟩ | ⟨d₁,d',z1,z2,z3⟩
  ·rw [e] at z2; cases z2
  ·rw [e] at z3; cases z3
   rw [Q0] at z2
   exact ⟨⟨d₁,by rw [Ww hi,z1]⟩,z2⟩
 have sub:∀ b,Own (z0X vs) (z14 outs) b→Own σ' δ' b:=fun b ⟨i,d,e1,e2⟩=>by
  obtain ⟨⟨d₀,h0⟩,h1⟩:=ownS i d (someS_get.mp e1)
  exact ⟨i,d,h1,pin i b d₀ h0 (some'_get.mp e2)⟩
 have subA:∀ b,Av c (z0X vs) (z14 outs) b→Av c σ' δ' b:=fun b z=>z.elim .inl fun z=>.inr (sub b z)
 have okO:∀ {c':Fc},c'.pin=c.pin→Ok c' σ' δ' H'→(∀ b,c.B b→c'.B b)→(∀ (i:Nat) d v,ss[i]? = some (.pure d)→vs[i]? = some v→Rep H' (Av c' σ' δ') v d)→Ok c' (z0X vs) (z14 outs) H':=fun {c'} ep k' hB hsl=>by
  have subA':∀ b,Av c' (z0X vs) (z14 outs) b→Av c' σ' δ' b:=fun b z=>z.elim .inl fun z=>.inr (sub b z)
  refine ⟨k'.keep,k'.bd,k'.ith,by simp [hlen,hvs],fun i d e=>?_,fun i d e=>?_,fun i j a d d' e1 e2 e3 e4=>?_,fun p hm=>?_⟩
  ·have e':=someS_get.mp e
   have hi:i < ss.length:=by rw [← hlen]; exact (Wb.mp e').1
   have hv:i < vs.length:=by omega
   rcases hat i ss[i] (by simp [hi]) with ⟨d₁,z1,z2⟩ | ⟨d₁,d',z1,z2,z3⟩
   ·rw [e'] at z2; cases z2
    exact ⟨vs[i],by simp [hv],(hsl i d vs[i] (by rw [Ww hi,z1]) (by simp [hv])).anti fun b z=>.inl (subA' b z)⟩
   ·rw [e'] at z3; cases z3
  ·have e':=someS_get.mp e
   obtain ⟨⟨d₀,h0⟩,h1⟩:=ownS i d e'
   obtain ⟨a₀,h2,_⟩:=k.own i d₀ (someS_get.mpr h0)
   obtain ⟨a,h3,h4,h5⟩:=k'.own i d h1
   rw [pin i a₀ d₀ h0 (some'_get.mp h2)] at h3
   cases h3
   exact ⟨a₀,h2,h4.anti fun b z=>.inl (subA' b z),h5⟩
  ·obtain ⟨⟨d₀,h0⟩,h1⟩:=ownS i d (someS_get.mp e1)
   obtain ⟨⟨d₁,h2⟩,h3⟩:=ownS j d' (someS_get.mp e2)
   exact k'.inj i j a d d' h1 h3 (pin i a d₀ h0 (some'_get.mp e3)) (pin j a d₁ h2 (some'_get.mp e4))
  ·exact k.pinned p (by rw [← ep]; exact hm)
 have slots:∀ (i:Nat) d v,ss[i]? = some (.pure d)→vs[i]? = some v→Rep H' (Av c σ' δ') v d:=fun i d v h1 h2=>by
  obtain ⟨w,e1,r⟩:=(k.ext n).slot i d (z2O (someS_get.mpr h1))
  rw [z2O (some'_get.mpr h2)] at e1
  cases e1
  exact Rep.aft r x
 refine ⟨⟨okO rfl x.ok (fun _ z=>z) slots,fun a o e m=>x.keep a o e fun z=>m (Own.ext.mp z),fun a z=>(x.own a (sub a z)).elim (fun z=>.inl (Own.ext.mp z)) .inr,x.there⟩,fun v r hr=>?_⟩
 cases r with
 | pure d=>exact Rep.anti hr fun b z=>.inl (subA b z)
 | own d =>
  obtain ⟨a,ea,o,nb,h0,kp,hs⟩:=hr
  refine ⟨a,ea,o.anti fun b z=>.inl (z.elim .inl fun z=>.inr (sub b z)),nb,h0,okO rfl kp (fun _ z=>.inl z) fun i d v h1 h2=>?_,hs⟩
  obtain ⟨w,e1,r⟩:=(k.ext n).slot i d (z2O (someS_get.mpr h1))
  rw [z2O (some'_get.mpr h2)] at e1
  cases e1
  have hHa:H a=none:=hs
  have r1:Rep H (Av c (z0X vs ++ Wd n none) (z14 ss ++ Wd n none)) v d:=r
  have r2:Rep H (fun b=>Av c (z0X vs ++ Wd n none) (z14 ss ++ Wd n none) b∨Av (c.plus a) σ' δ' b) v d:=r1.anti fun b z=>by
   rcases z with z | (z | z) | z
   ·exact .inl z
   ·exact .inl (.inl z)
   ·exact .inr (by rw [z]; exact hHa)
   ·rcases x.own b z with q | q
    ·exact .inl (.inr q)
    ·exact .inr q
  exact (r2.keep fun b o e m=>x.keep b o e fun z=>m (.inl (.inr z))).anti fun b z=>.inl (.inr z)
end
section
variable {P:Wj} {w:Wp} {K:W0} {mg:Str→Option Value} {base:Heap}
theorem zg5 {x qual:Str} {st:Stmt} {f:Addr} {fd:WD} {N ps:List Str} {k:Nat} {np:List Nat} {fb:DS} {G:DF} (F:Fun K x qual st f fd) (S:FnScope N ps (z04 st))
  (hbody:∀ (c:Fc) (cdv:Value) (A:Wo) (outer:List Env) (s:W2) (H:Hp) (E:XK),Room k (A.deeper (Qq qual (z04 st) s.heap.objs.size f cdv))→Np c np→SSs (cxOf CX0 P w K mg base N qual (z04 st) f cdv A outer s H E).nox c (z19 st) fb)
  (hG:∀ ss y,G ss=some y→ioOk np 0 ss=true∧runD fb N.length ss=some y):FnOk P w K mg base CX0 (k + 1) f fd ps (spD ps.length G):=by
 refine F.ok S (fun vs H Q E h=>?_) fun cdv A outer s H vs Q E hr h=>?_
 ·obtain ⟨ss,B,hl,_⟩:=h
  exact hl
 ·obtain ⟨ss,B,hl,ok,r,outs,hg,q⟩:=h
  obtain ⟨hio,hrun⟩:=hG ss _ hg
  have hvs:ss.length=vs.length:=by have:=ok.len; simpa using this
  have np':Np ⟨H,B,z0z 0 ss vs,fun _ _=>False⟩ np:=fun p hp=>by
   obtain ⟨j,d,e,h1,_⟩:=z1m (i:=p.1) (a:=p.2) hp
   rw [e]
   exact z6C hio h1
  refine ⟨tDS ⟨H,B,z0z 0 ss vs,fun _ _=>False⟩ fb,hbody ⟨H,B,z0z 0 ss vs,fun _ _=>False⟩ cdv A outer s H E hr np',?_⟩
  have hst:start N vs=z0X vs ++ Wd (N.length - ss.length) none:=by rw [hvs]; rfl
  refine ⟨z0f N.length ss,by rw [hst]; exact ok.ext _,?_⟩
  unfold runD at hrun
  unfold z1E
  cases e:fb (z0f N.length ss) with
  | exc x δx=>rw [e] at hrun; cases hrun
  | stuck=>rw [e] at hrun; cases hrun
  | ok fl δ' =>
   rw [e] at hrun
   show ∀ σ' H',Aft _ (start N vs) (z0f N.length ss) H σ' δ' H'→fin _ _ σ' δ' H' fl
   intro σ' H' a
   rw [hst] at a
   simp only at hrun
   cases fl with
   | brk=>cases hrun
   | cont=>cases hrun
   | next =>
    simp only [z0H,WE] at hrun
    cases eo:z0a 0 ss δ' with
    | none=>rw [eo] at hrun; cases hrun
    | some os =>
     rw [eo] at hrun
     cases hrun
     obtain ⟨l1,l2⟩:=z8g rfl ok a eo
     exact q .non H' l1 .non
   | ret r' =>
    simp only [z0H,WE] at hrun
    cases eo:z0a 0 ss δ' with
    | none=>rw [eo] at hrun; cases hrun
    | some os =>
     rw [eo] at hrun
     cases hrun
     obtain ⟨l1,l2⟩:=z8g rfl ok a eo
     exact fun v rv=>q v H' l1 (l2 v _ rv)
theorem z1n {x qual:Str} {st:Stmt} {f:Addr} {fd:WD} {N ps:List Str} {k:Nat} {np:List Nat} {fb:DS} {G:DF} (F:Fun K x qual st f fd) (hm:mg x=some (.ref f)) (hb:Binds K fd ps []) (S:FnScope N ps (z04 st))
  (hbody:∀ (c:Fc) (cdv:Value) (A:Wo) (outer:List Env) (s:W2) (H:Hp) (E:XK),Room k (A.deeper (Qq qual (z04 st) s.heap.objs.size f cdv))→Np c np→SSs (cxOf CX0 P w K mg base N qual (z04 st) f cdv A outer s H E).nox c (z19 st) fb)
  (hG:∀ ss y,G ss=some y→ioOk np 0 ss=true∧runD fb N.length ss=some y):KFn P w K mg base (k + 1) x ps.length G:=⟨f,fd,ps,hm,F.kp,hb,zg5 F S hbody hG⟩
end
inductive Ak where
 | val (f:DE)
 | io (i:Nat)
def evX:List Ak→Dl→Rs (List (Option D))
 | [],δ=>.ok [] δ
 | .val f :: r,δ=>(f δ).bind fun x δ1=>(evX r δ1).bind fun xs δ2=>.ok (some x.d :: xs) δ2
 | .io _ :: r,δ=>(evX r δ).bind fun xs δ2=>.ok (none :: xs) δ2
inductive ArgR (c:Fc) (σ:St) (δ:Dl) (H:Hp):List V→List Ak→List (Option D)→Prop
 | nil:ArgR c σ δ H [] [] []
 | val {v:V} {d:D} {f:DE} {vs:List V} {as:List Ak} {ds:List (Option D)}:Rep H (Av c σ δ) v d→ArgR c σ δ H vs as ds→ArgR c σ δ H (v :: vs) (.val f :: as) (some d :: ds)
 | io {v:V} {i:Nat} {vs:List V} {as:List Ak} {ds:List (Option D)}:σ[i]? = some (some v)→ArgR c σ δ H vs as ds→ArgR c σ δ H (v :: vs) (.io i :: as) (none :: ds)
theorem ArgR.aft (h:ArgR c σ δ H vs as ds) (x:Aft c σ δ H σ δ' H'):ArgR c σ δ' H' vs as ds:=by
 induction h with
 | nil=>exact .nil
 | val r _ ih=>exact .val (Rep.aft r x) ih
 | io e _ ih=>exact .io e ih
def tX (c:Fc) (as:List Ak):TA:=fun σ H Q=>∃ δ,Ok c σ δ H∧(∀ i,Ak.io i ∈ as→∃ v,σ[i]? = some (some v))∧post c (evX as δ) fun ds δ'=>∀ vs H',Aft c σ δ H σ δ' H'→ArgR c σ δ' H' vs as ds→Q vs H'
abbrev SX (X:Cx) (c:Fc) (es:List Expr) (as:List Ak):Prop:=PA X es (tX c as)
section
variable {X:Cx} {c:Fc} {e:Expr} {es:List Expr} {fe:DE} {as:List Ak} {pos pp:Pos}
theorem z0j:SX X c [] []:=PA.weak z25 fun σ H Q ⟨δ,k,_,q⟩=>q [] H (.refl k) .nil
theorem zeQ (ha:SE X c e fe) (hr:SX X c es as) (hs:W7 (e :: es) X.env=(false,eval e X.env) :: W7 es X.env:=by rfl):SX X c (e :: es) (.val fe :: as):=PA.weak (z0T ha hr hs) fun σ H Q ⟨δ,k,hio,q⟩=>by
 unfold evX at q
 rw [z03] at q
 refine ⟨δ,k,z01 q fun x δ1 q1 v H1 a1 r1=>⟨δ1,a1.ok,fun i hi=>hio i (We _ hi),?_⟩⟩
 rw [z03] at q1
 exact z01 q1 fun xs δ2 q2 vs H2 a2 r2=>q2 (v :: vs) H2 (a1.trans a2) (.val (Rep.aft r1.rep a2) r2)
theorem sx_io (ha:PE X e (tVar i)) (hr:SX X c es as) (hs:W7 (e :: es) X.env=(false,eval e X.env) :: W7 es X.env:=by rfl):SX X c (e :: es) (.io i :: as):=PA.weak (z0T ha hr hs) fun σ H Q ⟨δ,k,hio,q⟩=>by
 obtain ⟨v,ev⟩:=hio i Wh
 unfold evX at q
 rw [z03] at q
 exact ⟨v,ev,δ,k,fun i hi=>hio i (We _ hi),z01 q fun xs δ2 q2 vs H2 a2 r2=>q2 (v :: vs) H2 a2 (.io ev r2)⟩
end
def mkA:List Ak→List (Option D)→Dl→Option (List S)
 | [],[],_=>some []
 | .val _ :: as,some d :: ds,δ=>(mkA as ds δ).map (.pure d :: ·)
 | .io i :: as,none :: ds,δ=>match δ[i]? with
  | some (some (.own d))=>(mkA as ds δ).map (.own d :: ·)
  | _=>none
 | _,_,_=>none
def ios:List Ak→List Nat
 | []=>[]
 | .val _ :: as=>ios as
 | .io i :: as=>i :: ios as
def putA:List Ak→List S→Dl→Dl
 | .io i :: as,r :: rs,δ=>putA as rs (δ.set i (some r))
 | .val _ :: as,_ :: rs,δ=>putA as rs δ
 | _,_,δ=>δ
def ndup:List Nat→Bool
 | []=>true
 | i :: r=>!r.contains i && ndup r
def z08 (G:DF) (as:List Ak):DE:=fun δ=>if (ios as).all (z0B δ) && ndup (ios as) then (evX as δ).bind fun ds δ1=>match mkA as ds δ1 with
  | none=>.stuck
  | some ss=>match G ss with
   | none=>.stuck
   | some (r,outs)=>.ok r (putA as outs δ1)
 else .stuck
theorem z3p:∀ {l:List Nat},ndup l=true→l.Nodup
 | [],_=>.nil
 | i :: r,h=>by
  simp only [ndup,Wi,JI] at h
  exact List.nodup_cons.mpr ⟨fun hm=>by have:=h.1; simp at this; exact this hm,z3p h.2⟩
theorem ios_mem:∀ {as:List Ak} {i:Nat},i ∈ ios as ↔ Ak.io i ∈ as
 | [],i=>by simp [ios]
 | .val f :: as,i=>by simp [ios,ios_mem (as:=as)]
 | .io j :: as,i=>by simp [ios,ios_mem (as:=as)]
theorem zaW:∀ {as:List Ak} {i j k:Nat},(ios as).Nodup→as[j]? = some (.io i)→as[k]? = some (.io i)→j=k
 | [],i,j,k,_,h,_=>by simp at h
 | .val f :: as,i,j,k,nd,h1,h2=>by
  cases j with
  | zero=>simp at h1
  | succ j =>
   cases k with
   | zero=>simp at h2
   | succ k=>exact congrArg (· + 1) (zaW (as:=as) nd (by simpa using h1) (by simpa using h2))
 | .io n :: as,i,j,k,nd,h1,h2=>by
  have nd':=QJ.mp nd
  cases j with
  | zero =>
   simp at h1
   subst h1
   cases k with
   | zero=>rfl
   | succ k=>exact absurd (ios_mem.mpr (Wv (by simpa using h2))) nd'.1
  | succ j =>
   cases k with
   | zero =>
    simp at h2
    subst h2
    exact absurd (ios_mem.mpr (Wv (by simpa using h1))) nd'.1
   | succ k=>exact congrArg (· + 1) (zaW (as:=as) nd'.2 (by simpa using h1) (by simpa using h2))
section
variable {c:Fc} {σ:St} {δ:Dl} {H:Hp} {vs:List V} {as:List Ak} {ds:List (Option D)} {ss:List S}
theorem z7i (h:ArgR c σ δ H vs as ds):∀ {ss:List S},mkA as ds δ=some ss→ss.length=vs.length∧as.length=vs.length∧∀ (j:Nat) s v,ss[j]? = some s→vs[j]? = some v →
  (∃ d f,s = .pure d∧as[j]? = some (.val f)∧Rep H (Av c σ δ) v d)∨∃ d i,s = .own d∧as[j]? = some (.io i)∧σ[i]? = some (some v)∧δ[i]? = some (some (.own d)):=by
 induction h with
 | nil =>
  intro ss h
  simp only [mkA,W6] at h
  subst h
  exact ⟨rfl,rfl,fun j s v e _=>by simp at e⟩
 | @val v d f vs as ds r _ ih =>
  intro ss h
  simp only [mkA] at h
  cases e:mkA as ds δ with
  | none=>rw [e] at h; cases h
  | some rs =>
   rw [e] at h
   simp only [WF,W6] at h
   subst h
   obtain ⟨h1,h2,h3⟩:=ih e
   refine ⟨by simp [h1],by simp [h2],fun j s v' e1 e2=>?_⟩
   cases j with
   | zero=>simp at e1 e2; subst e1 e2; exact .inl ⟨d,f,rfl,rfl,r⟩
   | succ j=>simpa using h3 j s v' (by simpa using e1) (by simpa using e2)
 | @io v i vs as ds ev _ ih =>
  intro ss h
  simp only [mkA] at h
  split at h
  ·rename_i d ed
   cases e:mkA as ds δ with
   | none=>rw [e] at h; cases h
   | some rs =>
    rw [e] at h
    simp only [WF,W6] at h
    subst h
    obtain ⟨h1,h2,h3⟩:=ih e
    refine ⟨by simp [h1],by simp [h2],fun j s v' e1 e2=>?_⟩
    cases j with
    | zero=>simp at e1 e2; subst e1 e2; exact .inr ⟨d,i,rfl,rfl,ev,ed⟩
    | succ j=>simpa using h3 j s v' (by simpa using e1) (by simpa using e2)
  ·cases h
theorem z6n:∀ (as:List Ak) (rs:List S) (δ:Dl),(putA as rs δ).length=δ.length
 | [],rs,δ=>by simp [putA]
 | .val f :: as,[],δ=>by simp [putA]
 | .io i :: as,[],δ=>by simp [putA]
 | .val f :: as,r :: rs,δ=>by simp [putA,z6n as rs δ]
 | .io i :: as,r :: rs,δ=>by simp [putA,z6n as rs]
theorem z3T:∀ (as:List Ak) (rs:List S) (δ:Dl) (i:Nat),i ∉ ios as→(putA as rs δ)[i]? = δ[i]?
 | [],rs,δ,i,_=>by simp [putA]
 | .val f :: as,[],δ,i,_=>by simp [putA]
 | .io j :: as,[],δ,i,_=>by simp [putA]
 | .val f :: as,r :: rs,δ,i,h=>by rw [putA]; exact z3T as rs δ i h
 | .io j :: as,r :: rs,δ,i,h=>by
  simp only [ios,Wf,not_or] at h
  rw [putA,z3T as rs _ i h.2,W4 (Ne.symm h.1)]
theorem z6o:∀ (as:List Ak) (rs:List S) (δ:Dl) (i j:Nat) (r:S),(ios as).Nodup→as[j]? = some (.io i)→rs[j]? = some r→i < δ.length→(putA as rs δ)[i]? = some (some r)
 | [],rs,δ,i,j,r,_,h,_,_=>by simp at h
 | a :: as,[],δ,i,j,r,_,_,h,_=>by simp at h
 | .val f :: as,r0 :: rs,δ,i,j,r,nd,h1,h2,hi=>by
  cases j with
  | zero=>simp at h1
  | succ j=>rw [putA]; exact z6o as rs δ i j r nd (by simpa using h1) (by simpa using h2) hi
 | .io k :: as,r0 :: rs,δ,i,j,r,nd,h1,h2,hi=>by
  have nd':=QJ.mp nd
  cases j with
  | zero =>
   simp at h1 h2
   subst h1 h2
   rw [putA,z3T as rs _ k nd'.1,Wl hi]
  | succ j=>rw [putA]; exact z6o as rs _ i j r nd'.2 (by simpa using h1) (by simpa using h2) (by simpa using hi)
theorem z8r (k:Ok c σ δ H) (hr:ArgR c σ δ H vs as ds) (hm:mkA as ds δ=some ss) (nd:(ios as).Nodup) :
  Ok ⟨H,fun a=>Av c σ δ a∧¬ ∃ (j:Nat) (d:D),ss[j]? = some (S.own d)∧vs[j]? = some (V.ref a),z0z 0 ss vs,fun _ _=>False⟩ (z0X vs) (z14 ss) H:=by
 obtain ⟨h1,h2,h3⟩:=z7i hr hm
 have at':∀ (j:Nat) s,ss[j]? = some s→∃ v,vs[j]? = some v:=fun j s e=>by
  have:j < vs.length:=by rw [← h1]; exact (Wb.mp e).1
  exact ⟨vs[j],by simp [this]⟩
 have ownE:∀ a,Own (z0X vs) (z14 ss) a ↔ ∃ (j:Nat) (d:D),ss[j]? = some (S.own d)∧vs[j]? = some (V.ref a):=fun a =>
  ⟨fun ⟨j,d,e1,e2⟩=>⟨j,d,someS_get.mp e1,some'_get.mp e2⟩,fun ⟨j,d,e1,e2⟩=>⟨j,d,someS_get.mpr e1,some'_get.mpr e2⟩⟩
 have own2:∀ a,Own (z0X vs) (z14 ss) a→Own σ δ a:=fun a z=>by
  obtain ⟨j,d,e1,e2⟩:=(ownE a).mp z
  rcases h3 j _ _ e1 e2 with ⟨d',f,e,_⟩ | ⟨d',i,e,_,es,ed⟩
  ·cases e
  ·exact ⟨i,d',ed,es⟩
 have sub:∀ a,Av ⟨H,fun a=>Av c σ δ a∧¬ ∃ (j:Nat) (d:D),ss[j]? = some (S.own d)∧vs[j]? = some (V.ref a),z0z 0 ss vs,fun _ _=>False⟩ (z0X vs) (z14 ss) a→Av c σ δ a:=fun a z=>z.elim (fun z=>z.1) fun z=>.inr (own2 a z)
 refine ⟨fun a o e _=>e,fun a z=>k.avthere z.1,fun a ⟨i,hi⟩=>?_,by simp [h1],fun j d e=>?_,fun j d e=>?_,fun i j a d d' e1 e2 e3 e4=>?_,fun p hp=>?_⟩
 ·obtain ⟨j,d,_,e1,e2⟩:=z1m hi
  exact k.othere (own2 a ((ownE a).mpr ⟨j,d,e1,e2⟩))
 ·have e':=someS_get.mp e
  obtain ⟨v,ev⟩:=at' j _ e'
  rcases h3 j _ v e' ev with ⟨d',f,e,_,r⟩ | ⟨d',i,e,_⟩
  ·cases e
   exact ⟨v,some'_get.mpr ev,r.anti fun b z=>.inl (sub b z)⟩
  ·cases e
 ·have e':=someS_get.mp e
  obtain ⟨v,ev⟩:=at' j _ e'
  rcases h3 j _ v e' ev with ⟨d',f,e,_,r⟩ | ⟨d',i,e,_,es,ed⟩
  ·cases e
  ·cases e
   obtain ⟨a,g1,g2,g3⟩:=k.own i d ed
   rw [es] at g1
   cases g1
   refine ⟨a,some'_get.mpr ev,g2.anti fun b z=>.inl (sub b z),.inl ⟨0 + j,z3Y e' ev⟩,fun z=>z.2 ⟨j,d,e',ev⟩⟩
 ·have f1:=someS_get.mp e1
  have f2:=someS_get.mp e2
  rcases h3 i _ _ f1 (some'_get.mp e3) with ⟨_,_,e,_⟩ | ⟨d1,i1,e,a1,s1,x1⟩
  ·cases e
  ·rcases h3 j _ _ f2 (some'_get.mp e4) with ⟨_,_,e',_⟩ | ⟨d2,i2,e',a2,s2,x2⟩
   ·cases e'
   ·have:=k.inj i1 i2 a d1 d2 x1 x2 s1 s2
    subst this
    exact zaW nd a1 a2
 ·obtain ⟨j,d,e,e1,e2⟩:=z1m (i:=p.1) (a:=p.2) hp
  rw [Q0] at e
  rw [e]
  exact some'_get.mpr e2
theorem z4T (k:Ok c σ δ H) (hr:ArgR c σ δ H vs as ds) (hm:mkA as ds δ=some ss) (nd:(ios as).Nodup) (hB:B=fun a=>Av c σ δ a∧¬ ∃ (j:Nat) (d:D),ss[j]? = some (S.own d)∧vs[j]? = some (V.ref a))
  (x:Aft ⟨H,B,z0z 0 ss vs,fun _ _=>False⟩ (z0X vs) (z14 ss) H (z0X vs) (z14 outs) H') (hio:∀ (j:Nat) d,ss[j]? = some (.own d)→∃ d',outs[j]? = some (.own d')) (hpo:∀ (j:Nat) d,ss[j]? = some (.pure d)→∃ d',outs[j]? = some (.pure d')) :
  Aft c σ δ H σ (putA as outs δ) H'∧∀ v r,RepS ⟨H,B,z0z 0 ss vs,fun _ _=>False⟩ (z0X vs) (z14 outs) H H' v r→RepS c σ (putA as outs δ) H H' v r:=by
 obtain ⟨h1,h2,h3⟩:=z7i hr hm
 have inIdx:∀ i,i ∈ ios as→∃ (j:Nat) (d:D) (a:Addr),as[j]? = some (.io i)∧ss[j]? = some (.own d)∧vs[j]? = some (.ref a)∧σ[i]? = some (some (.ref a))∧δ[i]? = some (some (.own d)):=fun i hi=>by
  obtain ⟨j,hj,ej⟩:=List.mem_iff_getElem.mp (ios_mem.mp hi)
  have hv:j < vs.length:=by omega
  have hs:j < ss.length:=by omega
  have ej':as[j]? = some (.io i):=by rw [Ww hj,ej]
  rcases h3 j ss[j] vs[j] (by simp [hs]) (by simp [hv]) with ⟨d,f,e,a1,_⟩ | ⟨d,i',e,a1,s1,x1⟩
  ·rw [ej'] at a1; cases a1
  ·rw [ej'] at a1; cases a1
   obtain ⟨a,g1,_⟩:=k.own i d x1
   rw [s1] at g1
   have g2:vs[j] = .ref a:=by
    have:=Wt g1
    exact Wt this
   exact ⟨j,d,a,ej',by rw [Ww hs,e],by rw [Ww hv,g2],by rw [s1,g2],x1⟩
 have passed:∀ a,(∃ (j:Nat) (d:D),ss[j]? = some (S.own d)∧vs[j]? = some (V.ref a))→Own σ δ a:=fun a ⟨j,d,e1,e2⟩=>by
  rcases h3 j _ _ e1 e2 with ⟨d',f,e,_⟩ | ⟨d',i,e,_,es,ed⟩
  ·cases e
  ·exact ⟨i,d',ed,es⟩
 have Iiff:∀ a,(⟨H,B,z0z 0 ss vs,fun _ _=>False⟩:Fc).I a ↔ ∃ (j:Nat) (d:D),ss[j]? = some (S.own d)∧vs[j]? = some (V.ref a):=fun a =>
  ⟨fun ⟨i,hi⟩=>by obtain ⟨j,d,_,e1,e2⟩:=z1m hi; exact ⟨j,d,e1,e2⟩,fun ⟨j,d,e1,e2⟩=>⟨0 + j,z3Y e1 e2⟩⟩
 have ownIn:∀ a,Own (z0X vs) (z14 ss) a→∃ (j:Nat) (d:D),ss[j]? = some (S.own d)∧vs[j]? = some (V.ref a):=fun a ⟨j,d,e1,e2⟩=>⟨j,d,someS_get.mp e1,some'_get.mp e2⟩
 -- the owned addresses are the same
 have slotP:∀ (i:Nat) (d:D),(putA as outs δ)[i]? = some (some (.own d))→(i ∉ ios as∧δ[i]? = some (some (.own d)))∨(i ∈ ios as∧∃ (j:Nat) (d0:D) (a:Addr),as[j]? = some (.io i)∧ss[j]? = some (.own d0)∧vs[j]? = some (.ref a)∧σ[i]? = some (some (.ref a))∧outs[j]? = some (.own d)):=fun i d e=>by
  by_cases hi:i ∈ ios as
  ·right
   obtain ⟨j,d0,a,a1,a2,a3,a4,a5⟩:=inIdx i hi
   obtain ⟨d',ed'⟩:=hio j d0 a2
   have hlt:i < δ.length:=(Wb.mp a5).1
   have:=z6o as outs δ i j (.own d') nd a1 ed' hlt
   rw [e] at this
   cases this
   exact ⟨hi,j,d0,a,a1,a2,a3,a4,ed'⟩
  ·rw [z3T as outs δ i hi] at e
   exact .inl ⟨hi,e⟩
 have own_sub:∀ b,Own σ (putA as outs δ) b→Own σ δ b:=fun b ⟨i,d,e1,e2⟩=>by
  rcases slotP i d e1 with ⟨_,e⟩ | ⟨hi,j,d0,a,_,a2,a3,a4,_⟩
  ·exact ⟨i,d,e,e2⟩
  ·rw [e2] at a4
   have:b=a:=by injection (Wt (Wt a4))
   subst this
   exact passed b ⟨j,d0,a2,a3⟩
 have pureP:∀ (i:Nat) (d:D),(putA as outs δ)[i]? = some (some (.pure d))→i ∉ ios as∧δ[i]? = some (some (.pure d)):=fun i d e=>by
  by_cases hi:i ∈ ios as
  ·obtain ⟨j,d0,a,a1,a2,a3,a4,a5⟩:=inIdx i hi
   obtain ⟨d',ed'⟩:=hio j d0 a2
   have hlt:i < δ.length:=(Wb.mp a5).1
   have:=z6o as outs δ i j (.own d') nd a1 ed' hlt
   rw [e] at this
   cases this
  ·rw [z3T as outs δ i hi] at e
   exact ⟨hi,e⟩
 have kpAv:∀ a o,H a=some o→¬ Av c σ δ a→H' a=some o:=fun a o e n=>x.keep a o e fun z=>n (.inr (passed a (ownIn a z)))
 have subA:∀ b,Av c σ (putA as outs δ) b→Av c σ δ b:=fun b z=>z.elim .inl fun z=>.inr (own_sub b z)
 -- the callee's set holds ours
 have big:∀ {c':Fc},c'.B=B→∀ b,Av c σ δ b→Av c' (z0X vs) (z14 outs) b:=fun {c'} hB' b z=>by
  by_cases hp:∃ (j:Nat) (d:D),ss[j]? = some (S.own d)∧vs[j]? = some (V.ref b)
  ·obtain ⟨j,d,e1,e2⟩:=hp
   obtain ⟨d',ed'⟩:=hio j d e1
   exact .inr ⟨j,d',someS_get.mpr ed',some'_get.mpr e2⟩
  ·exact .inl (by rw [hB',hB]; exact ⟨z,hp⟩)
 have okc:∀ (c1 c2:Fc),c1.H₀=c.H₀→c1.pin=c.pin→(∀ b,c1.B b→c.B b∨(c2.B b∧H b=none))→c2.pin=z0z 0 ss vs→(∀ b,B b→c2.B b)→Ok c2 (z0X vs) (z14 outs) H'→(∀ b,c1.B b→∃ o,H' b=some o)→Ok c1 σ (putA as outs δ) H':=fun c1 c2 e0 e1 e2 e3 e4 k2 hex=>by
  have sub1:∀ b,Av c1 σ (putA as outs δ) b→Av c σ δ b∨H b=none:=fun b z=>by
   rcases z with z | z
   ·rcases e2 b z with z | ⟨_,z⟩
    ·exact .inl (.inl z)
    ·exact .inr z
   ·exact .inl (.inr (own_sub b z))
  have sub2:∀ b,Av c1 σ (putA as outs δ) b→Av c2 (z0X vs) (z14 outs) b:=fun b z=>by
   have bg:∀ b,Av c σ δ b→Av c2 (z0X vs) (z14 outs) b:=fun b z=>by
    by_cases hp:∃ (j:Nat) (d:D),ss[j]? = some (S.own d)∧vs[j]? = some (V.ref b)
    ·obtain ⟨j,d,e1,e2⟩:=hp
     obtain ⟨d',ed'⟩:=hio j d e1
     exact .inr ⟨j,d',someS_get.mpr ed',some'_get.mpr e2⟩
    ·exact .inl (e4 b (by rw [hB]; exact ⟨z,hp⟩))
   rcases z with z | z
   ·rcases e2 b z with z | ⟨z,_⟩
    ·exact bg b (.inl z)
    ·exact .inl z
   ·exact bg b (.inr (own_sub b z))
  have kp':∀ {v:V} {d:D},Rep H (Av c σ δ) v d→Rep H' (Av c1 σ (putA as outs δ)) v d:=fun {v d} r=>by
   have r1:Rep H (fun b=>Av c σ δ b∨Av c1 σ (putA as outs δ) b) v d:=r.anti fun b z=>z.elim .inl (sub1 b)
   exact (r1.keep fun b o e n=>kpAv b o e fun z=>n (.inl z)).anti fun b z=>.inl (.inr z)
  refine ⟨fun a o e n=>?_,hex,fun a z=>?_,by rw [z6n]; exact k.len,fun i d e=>?_,fun i d e=>?_,fun i j a d d' f1 f2 f3 f4=>?_,by rw [e1]; exact k.pinned⟩
  ·rw [e0] at e
   have n':¬ c.I a:=fun z=>n (by unfold Fc.I at z ⊢; rw [e1]; exact z)
   refine x.keep a o (k.keep a o e n') fun z=>?_
   obtain ⟨i,d,g1,g2⟩:=passed a (ownIn a z)
   obtain ⟨a',g3,_,g4,_⟩:=k.own i d g1
   rw [g2] at g3; cases g3
   rcases g4 with g4 | g4
   ·exact n' g4
   ·rw [g4] at e; cases e
  ·have z':c.I a:=by unfold Fc.I at z ⊢; rw [← e1]; exact z
   obtain ⟨o,e⟩:=k.ith a z'
   exact x.there a o e
  ·obtain ⟨hi,e'⟩:=pureP i d e
   obtain ⟨v,g1,g2⟩:=k.slot i d e'
   exact ⟨v,g1,kp' g2⟩
  ·rcases slotP i d e with ⟨hi,e'⟩ | ⟨hi,j,d0,a,b1,b2,b3,b4,b5⟩
   ·obtain ⟨a,g1,g2,g3,g4⟩:=k.own i d e'
    have na:¬ Own (z0X vs) (z14 ss) a:=fun z=>by
     obtain ⟨j,d1,q1,q2⟩:=ownIn a z
     rcases h3 j _ _ q1 q2 with ⟨d',f,ee,_⟩ | ⟨d',i',ee,ai,es,ed⟩
     ·cases ee
     ·have:=k.inj i i' a d d' e' ed g1 es
      subst this
      exact hi (ios_mem.mpr (Wv ai))
    have g2':OwnAt H' (Av c1 σ (putA as outs δ)) a d:=by
     have o1:OwnAt H (fun b=>Av c σ δ b∨Av c1 σ (putA as outs δ) b) a d:=g2.anti fun b z=>z.elim .inl (sub1 b)
     exact (o1.keep (fun b o e n=>kpAv b o e fun z=>n (.inl z)) fun o e=>x.keep a o e na).anti fun b z=>.inl (.inr z)
    refine ⟨a,g1,g2',by unfold Fc.I at g3 ⊢; rw [e0,e1]; exact g3,fun z=>?_⟩
    rcases e2 a z with z | ⟨_,z⟩
    ·exact g4 z
    ·obtain ⟨o,eo⟩:=g2.some
     rw [z] at eo; cases eo
   ·obtain ⟨a',g1,g2,g3,g4⟩:=k2.own j d (someS_get.mpr b5)
    rw [some'_get.mpr b3] at g1
    cases g1
    obtain ⟨i0,d1,q1,q2⟩:=passed a ⟨j,d0,b2,b3⟩
    obtain ⟨a'',q3,q4,q5,q6⟩:=k.own i0 d1 q1
    rw [q2] at q3; cases q3
    refine ⟨a,b4,g2.anti fun b z=>.inl (sub2 b z),by unfold Fc.I at q5 ⊢; rw [e0,e1]; exact q5,fun z=>?_⟩
    rcases e2 a z with z | ⟨_,z⟩
    ·exact q6 z
    ·obtain ⟨o,eo⟩:=q4.some
     rw [z] at eo; cases eo
  ·obtain ⟨d1,g1⟩:∃ d1,δ[i]? = some (some (.own d1)):=by
    rcases slotP i d f1 with ⟨_,e'⟩ | ⟨hi,_⟩
    ·exact ⟨d,e'⟩
    ·obtain ⟨_,d1,_,_,_,_,_,a5⟩:=inIdx i hi
     exact ⟨d1,a5⟩
   obtain ⟨d2,g2⟩:∃ d2,δ[j]? = some (some (.own d2)):=by
    rcases slotP j d' f2 with ⟨_,e'⟩ | ⟨hi,_⟩
    ·exact ⟨d',e'⟩
    ·obtain ⟨_,d1,_,_,_,_,_,a5⟩:=inIdx j hi
     exact ⟨d1,a5⟩
   exact k.inj i j a d1 d2 g1 g2 f3 f4
 have ok1:Ok c σ (putA as outs δ) H':=okc c ⟨H,B,z0z 0 ss vs,fun _ _=>False⟩ rfl rfl (fun b z=>.inl z) rfl (fun b z=>z) x.ok fun b z=>by
  obtain ⟨o,e⟩:=k.bd b z
  exact x.there b o e
 refine ⟨⟨ok1,fun a o e n=>x.keep a o e fun z=>n (passed a (ownIn a z)),fun a z=>.inl (own_sub a z),x.there⟩,fun v r hr=>?_⟩
 cases r with
 | pure d=>exact Rep.anti hr fun b z=>.inl (big rfl b (subA b z))
 | own d =>
  obtain ⟨a,ea,o,nb,h0,kp,hs⟩:=hr
  have hHa:H a=none:=hs
  have nav:¬ Av c σ δ a:=k.nav hHa
  refine ⟨a,ea,o.anti fun b z=>.inl ?_,fun z=>nav (.inl z),k.fresh₀ hHa,?_,hHa⟩
  ·rcases z with (z | z) | z
   ·exact (big rfl b (.inl z)).elim (fun z=>.inl (.inl z)) .inr
   ·exact .inl (.inr z)
   ·exact (big rfl b (.inr (own_sub b z))).elim (fun z=>.inl (.inl z)) .inr
  ·refine okc (c.plus a) (Fc.plus ⟨H,B,z0z 0 ss vs,fun _ _=>False⟩ a) rfl rfl (fun b z=>?_) rfl (fun b z=>.inl z) kp fun b z=>?_
   ·rcases z with z | z
    ·exact .inl z
    ·exact .inr ⟨.inr z,by rw [z]; exact hHa⟩
   ·rcases z with z | z
    ·obtain ⟨o,e⟩:=k.bd b z
     exact x.there b o e
    ·rw [z]; exact o.some
end
def z1K (G:DF):Prop:=∀ ss r outs,G ss=some (r,outs)→outs.length=ss.length∧∀ (j:Nat),(∀ d,ss[j]? = some (.own d)→∃ d',outs[j]? = some (.own d'))∧∀ d,ss[j]? = some (.pure d)→∃ d',outs[j]? = some (.pure d')
theorem z9j (hG:∀ ss y,G ss=some y→runD fb n ss=some y):z1K G:=fun ss r outs h=>by
 have:=hG ss _ h
 unfold runD at this
 cases e:fb (z0f n ss) with
 | exc x δx=>rw [e] at this; cases this
 | stuck=>rw [e] at this; cases this
 | ok fl δ =>
  rw [e] at this
  simp only at this
  cases e1:z0H fl with
  | none=>rw [e1] at this; cases this
  | some r' =>
   rw [e1] at this
   simp only [WE] at this
   cases e2:z0a 0 ss δ with
   | none=>rw [e2] at this; cases this
   | some os =>
    rw [e2] at this
    cases this
    obtain ⟨h1,h2⟩:=z58 e2
    refine ⟨h1,fun j=>⟨fun d ed=>?_,fun d ed=>?_⟩⟩
    ·rcases h2 j _ ed with ⟨d',z,_⟩ | ⟨d',d'',_,_,z⟩
     ·cases z
     ·exact ⟨d'',z⟩
    ·rcases h2 j _ ed with ⟨d',z,z'⟩ | ⟨d',d'',z,_⟩
     ·exact ⟨d',z'⟩
     ·cases z
section
variable {X:Cx} {c:Fc} {e:Expr} {es:List Expr} {as:List Ak} {k n:Nat} {x:Str} {G:DF} {pp pos:Pos}
theorem z7G {ps:List Str} (hK:z1K G) {σ:St} {H:Hp} {Q:VK} (hl:as.length=n) (h:tD c (z08 G as) σ H Q):zdm (spD n G) [] E0 (tX c as) σ H Q:=by
 obtain ⟨δ,kk,q⟩:=h
 unfold z08 at q
 split at q
 ·rename_i hc
  rw [Wi] at hc
  have nd:=z3p hc.2
  rw [z03] at q
  refine ⟨δ,kk,fun i hi=>?_,z01 q fun ds δ1 q1 vs H1 a1 r1=>?_⟩
  ·have:=Qi.mp hc.1 i (ios_mem.mpr hi)
   unfold z0B at this
   split at this
   ·rename_i d ed
    exact z28 kk ed
   ·cases this
  ·cases em:mkA as ds δ1 with
   | none=>rw [em] at q1; exact q1.elim
   | some ss =>
    rw [em] at q1
    simp only at q1
    cases eg:G ss with
    | none=>rw [eg] at q1; exact q1.elim
    | some y =>
     obtain ⟨r,outs⟩:=y
     rw [eg] at q1
     have hin:=z8r a1.ok r1 em nd
     obtain ⟨m1,m2,_⟩:=z7i r1 em
     obtain ⟨g1,g2⟩:=hK ss r outs eg
     refine ⟨ss,_,by rw [WG,← m2]; exact hl,by rw [WG]; exact hin,r,outs,eg,fun v H2 a2 r2=>?_⟩
     rw [WG] at a2 r2
     obtain ⟨o1,o2⟩:=z4T a1.ok r1 em nd rfl a2 (fun j d ed=>(g2 j).1 d ed) fun j d ed=>(g2 j).2 d ed
     exact q1 v H2 (a1.trans o1) (RepS.back (o2 v r r2) a1)
 ·exact q.elim
theorem z0k (F:KFn X.prog X.w X.K X.mg X.base k x n G) (hK:z1K G) (hr:Room k X.A) (hg:Gl X x) (ha:SX X c (e :: es) as) (hl:as.length=n) (hdb:(x == ("__debug__" : Str))=false:=by decide)
  (he:W7 (e :: es) X.env=(false,eval e X.env) :: W7 es X.env:=by rfl) (hpl:(WT pos (W7 es X.env)).any (·.1)=false:=by rfl):SE X c (.Call (.Name x pp) (e :: es) [] pos) (z08 G as):=by
 obtain ⟨f,fd,ps,hm,hk,hb,ok⟩:=F
 exact PE.weak (ze4 ok hr hg hm hk hb .nil pass0 ha hdb he hpl) fun σ H Q h=>z7G (ps:=ps) hK hl h
end
def gOf (np:List Nat) (n:Nat) (b:DS):DF:=fun ss=>if ioOk np 0 ss then runD b n ss else none
theorem z0O (h:gOf np n b ss=some y):ioOk np 0 ss=true∧runD b n ss=some y:=by
 unfold gOf at h
 split at h
 ·rename_i hi; exact ⟨hi,h⟩
 ·cases h
theorem z0u:z1K (gOf np n b):=z9j fun _ _ h=>(z0O h).2
theorem z1y (r:Room k A):A.units + 64 < WX:=by have:=r.un; omega
theorem zaH {c:Fc} {np cs:List Nat} (h:Np c np) (hc:cs.all (fun i=>!np.contains i)=true):∀ p ∈ c.pin,p.1 ∉ cs:=fun p hp z=>by
 have h1:=h p hp
 have h2:=Qi.mp hc p.1 z
 rw [h1] at h2
 cases h2
def ndS:List Str→Bool
 | []=>true
 | x :: r=>!r.contains x && ndS r
theorem zd5:∀ {l:List Str},ndS l=true→l.Nodup
 | [],_=>.nil
 | x :: r,h=>by
  simp only [ndS,Wi,JI] at h
  exact List.nodup_cons.mpr ⟨fun hm=>by have:=h.1; simp at this; exact this hm,zd5 h.2⟩
def z4m (names:List (Str×NameKind)) (x:Str) (k:NameKind):Bool:=match names.lookup x with
 | some j=>j == k
 | none=>false
theorem z6B (h:z4m names x k=true):names.lookup x=some k:=by
 unfold z4m at h
 split at h
 ·rename_i j e; rw [e,eq_of_beq h]
 ·cases h
def cscB (names:List (Str×NameKind)) (N:List Str) (sc:List (Str×NameKind)) (cs:List Nat):Bool :=
 sc.all (fun x=>!(x.2 == .local) || z4m sc x.1 .local) && sc.all (fun x=>!(x.2 == .free) || (z4m names x.1 .cell || z4m names x.1 .free)) && ndS (sc.map (·.1)) &&
 (Wa N.length).all fun i=>match N[i]? with
  | some x=>!(z4m sc x .local || z4m sc x .cell) || cs.contains i
  | none=>true
theorem z8P (h:names.lookup x=some k):z4m names x k=true:=by
 unfold z4m; rw [h]; simp
theorem z5u {X:Cx} {scope:Scope} {cs:List Nat} (hk:scope.kind = .function) (h:cscB X.env.scope.names X.N scope.names cs=true):CScope X scope cs:=by
 unfold cscB at h
 simp only [Wi] at h
 obtain ⟨⟨⟨h1,h2⟩,h3⟩,h4⟩:=h
 refine ⟨hk,fun x hx hl=>?_,fun x hx hf=>?_,zd5 h3,fun i x hi hl=>?_⟩
 ·have:=Qi.mp h1 x hx
  rw [hl] at this
  exact z6B (by simpa using this)
 ·have:=Qi.mp h2 x hx
  rw [hf] at this
  have:z4m X.env.scope.names x.1 .cell=true∨z4m X.env.scope.names x.1 .free=true:=by simpa using this
  exact this.elim (fun z=>.inl (z6B z)) fun z=>.inr (z6B z)
 ·have hil:i < X.N.length:=(Wb.mp hi).1
  have:=Qi.mp h4 i (Qk.mpr hil)
  rw [hi] at this
  have hl':(z4m scope.names x .local || z4m scope.names x .cell)=true:=by
   rcases hl with z | z
   ·rw [z8P z]; rfl
   ·rw [z8P z]; simp
  simp only [hl',Bool.not_true,Bool.false_or] at this
  simpa using this
theorem zdh {K:W0}:TyK K "int":=⟨rfl,rfl,rfl,rfl,rfl,rfl,rfl⟩
theorem zbA {K:W0}:TyK K "bool":=⟨rfl,rfl,rfl,rfl,rfl,rfl,rfl⟩
theorem zdg {K:W0}:TyK K "str":=⟨rfl,rfl,rfl,rfl,rfl,rfl,rfl⟩
theorem z9M {K:W0}:TyK K "tuple":=⟨rfl,rfl,rfl,rfl,rfl,rfl,rfl⟩
def z4j:Expr→Bool
 | .Starred ..=>false
 | _=>true
theorem z4U (h:z4j e=true):W7 (e :: es) env=(false,eval e env) :: W7 es env:=by
 cases e <;> first | (cases h; done) | rw [W7] | rfl
 all_goals (intros; contradiction)
section
variable {X:Cx} {c:Fc} {e:Expr} {es:List Expr} {f fe:DE} {g:DA} {as:List Ak}
theorem z07 (ha:SE X c e f) (hr:SA X c es g) (hs:z4j e=true:=by rfl):SA X c (e :: es) (z0l f g):=za2 ha hr (z4U hs)
theorem z00 (ha:SE X c e fe) (hr:SX X c es as) (hs:z4j e=true:=by rfl):SX X c (e :: es) (.val fe :: as):=zeQ ha hr (z4U hs)
theorem z2c {i:Nat} (ha:PE X e (tVar i)) (hr:SX X c es as) (hs:z4j e=true:=by rfl):SX X c (e :: es) (.io i :: as):=sx_io ha hr (z4U hs)
end
mutual
def z3d:Nat→Expr→Option D
 | _,.Constant (.int i) _ _=>some (.int i)
 | _,.Constant (.bool b) _ _=>some (.bl b)
 | _,.Constant .none _ _=>some .non
 | _,.Constant (.str x) _ _=>some (.str x.cps.toList)
 | n + 1,.Tuple es _ _=>if es.length≤1000 then (z3I n es).map .tup else none
 | _,_=>none
def z3I:Nat→List Expr→Option (List D)
 | _,[]=>some []
 | n,e :: es=>match z3d n e,z3I n es with
  | some d,some ds=>some (d :: ds)
  | _,_=>none
end
theorem z9C:∀ {n:Nat} {e:Expr} {d:D},z3d n e=some d→z4j e=true:=fun {n e d} h=>by
 cases e <;> first | rfl | (cases n <;> simp [z3d] at h)
mutual
theorem z6Z:∀ {n:Nat} {e:Expr} {d:D},z3d n e=some d→SE X c e (eD d)
 | _,.Constant (.int i) _ _,d,h=>by
  simp only [z3d,W6] at h; subst h; exact z06
 | _,.Constant (.bool b) _ _,d,h=>by
  simp only [z3d,W6] at h; subst h; exact z4Y
 | _,.Constant .none _ _,d,h=>by
  simp only [z3d,W6] at h; subst h; exact z3O
 | _,.Constant (.str x) _ _,d,h=>by
  simp only [z3d,W6] at h; subst h; exact z2U _ (zeM x)
 | 0,.Tuple es k pos,d,h=>by simp [z3d] at h
 | n + 1,.Tuple es k pos,d,h=>by
  simp only [z3d] at h
  split at h
  ·rename_i hl
   cases e:z3I n es with
   | none=>rw [e] at h; cases h
   | some ds =>
    rw [e] at h
    simp only [WF,W6] at h
    subst h
    exact z3w (z53 e) hl
  ·cases h
theorem z53:∀ {n:Nat} {es:List Expr} {ds:List D},z3I n es=some ds→SA X c es (fun δ=>.ok ds δ)
 | _,[],ds,h=>by
  simp only [z3I,W6] at h; subst h; exact z0W
 | n,e :: es,ds,h=>by
  simp only [z3I] at h
  split at h
  ·rename_i d ds' h1 h2
   cases h
   exact za2 (z6Z h1) (z53 h2) (z4U (z9C h1))
  ·cases h
end
def z8n (ds:List D):DE:=fun δ=>.ok (.own (.lst ds)) δ
theorem zbL {X:Cx} {c:Fc} {e:Expr} {d:D} (h:z3d 9 e=some d):SE X c e (eD d):=z6Z h
theorem z6Y {X:Cx} {c:Fc} {es:List Expr} {ds:List D} {pos:Pos} (h:z3I 9 es=some ds) (hl:es.length≤1000):SE X c (.List es pos) (z8n ds):=z1r (z53 h) hl
section
variable {X:Cx} {c:Fc} {e:Expr} {fe:DE} {pos:Pos} {tg:Expr}
theorem z7U {x:Str} {i:Int} (hg:Gl X x) (hm:∃ t,X.mg x=some (.int i t)) (hd:(x == ("__debug__" : Str))=false:=by decide):SE X c (.Name x pos) (eD (.int i)):=by
 obtain ⟨t,h⟩:=hm
 exact z9i hg h hd
theorem z3n (he:SE X c e fe) (hs:QW e none pos.line X.env=pure false:=by rfl):SS X c (.Expr e pos) (z3v fe) :=
 zds he (fun _=>hs) trivial (zal he hs)
theorem z1l {i:Nat} {o:Expr} {apos cpos:Pos} (ho:PE X o (tVar i)) (he:SE X c e fe)
  (hbase:Qt o "append" X.env (eval o X.env)=eval o X.env:=by rfl)
  (hfew:((WT cpos (W7 [e] X.env)).all (fun x=>!x.1) && (Jx cpos (QX [] X.env)).all (fun x=>x.1.isSome)
   && decide ([e].length + ([]:List Keyword).length + (if ([]:List Keyword).isEmpty then 0 else 1) < 30))=true:=by rfl)
  (hline:(apos.endLine == cpos.line)=true:=by rfl) (hs:W7 [e] X.env=(false,eval e X.env) :: W7 [] X.env:=by rfl)
  (hsw:QW (.Call (.Attribute o "append" apos) [e] [] cpos) none pos.line X.env=pure false:=by rfl):SS X c (.Expr (.Call (.Attribute o "append" apos) [e] [] cpos) pos) (z0F i fe) :=
 z9U (p0:=apos) ho he (zal (zc9 PySem.F.plainAttrs_list PySem.F.slot_list_append PySem.F.type_list_append z7h ho (z0T he z25 hs) hbase hfew hline hs rfl) hsw)
end
def noL (K:W0):Bool:=K.all fun p=>match p.2.cls with
 | .type t=>!(t == "list")
 | _=>true
theorem zd7 [BEq α] [LawfulBEq α]:∀ {K:List (α×β)} {a:α} {o:β},K.lookup a=some o→(a,o) ∈ K
 | [],a,o,e=>by simp at e
 | (b,o') :: r,a,o,e=>by
  rw [Q9] at e
  cases hb:a == b with
  | true =>
   rw [hb] at e
   have h1:o'=o:=Wt e
   have h2:a=b:=eq_of_beq hb
   rw [h1,h2]
   exact Wh
  | false =>
   rw [hb] at e
   exact We _ (zd7 e)
theorem zfJ {K:W0} {a:Addr} {o:Obj} (h:noL K=true) (e:K.lookup a=some o) (hc:o.cls = .type "list"):False:=by
 have hm:(a,o) ∈ (K:List (Addr×Obj)):=zd7 e
 have h1:=Qi.mp h (a,o) hm
 have h2:(match o.cls with | .type t=>!(t == "list") | _=>true)=true:=h1
 rw [hc] at h2
 have h3:(!(("list" : String) == "list"))=true:=h2
 rw [beq_self_eq_true] at h3
 cases h3
theorem zfL {K:W0} {G:DF} {H:Hp} {a:Addr} {ns:List Int} {E:XK} (hK:noL K=true) (hS:SqL K H a (ns.map V.int)) (hG:∃ outs,G [.pure (.lst (ns.map .int))]=some (.pure (.bl true),outs)) :
  spD 1 G [.ref a] H (fun v _=>v = .bl true) E:=by
 have hR:Rd H a (.lst (ns.map V.int)):=by
  rcases hS with h | ⟨o,its,n,e,hc,_⟩
  ·exact h
  ·exact (zfJ hK e hc).elim
 obtain ⟨outs,hg⟩:=hG
 have rep:∀ O:Addr→Prop,¬ O a→Rep H O (.ref a) (.lst (ns.map D.int)):=fun O hO=>.lst hO hR (by simp) fun i v d e1 e2=>by
  rw [WB] at e1 e2
  cases e:ns[i]? with
  | none=>rw [e] at e1; cases e1
  | some k=>rw [e] at e1 e2; cases e1; cases e2; exact .int k
 refine ⟨[.pure (.lst (ns.map .int))],fun _=>False,rfl,⟨fun b o e _=>e,fun b z=>z.elim,fun b ⟨i,z⟩=>?_,rfl,fun i d e=>?_,fun i d e=>?_,fun i j b d d' e1 e2 e3 e4=>?_,fun p z=>?_⟩,_,outs,hg,fun v H' x r=>?_⟩
 ·simp [z0z] at z
 ·cases i with
  | zero =>
   simp at e
   subst e
   refine ⟨.ref a,rfl,rep _ fun z=>?_⟩
   rcases z with z | ⟨j,d',z1,z2⟩
   ·exact z
   ·cases j with
    | zero=>simp at z1
    | succ j=>simp at z1
  | succ i=>simp at e
 ·cases i with
  | zero=>simp at e
  | succ i=>simp at e
 ·cases i with
  | zero=>simp at e1
  | succ i=>simp at e1
 ·simp [z0z] at z
 ·cases r
  rfl
theorem walkD {l:PySem.W.OpenLaw} {q:Wj} {loose:List Str} {XP:(Str→Option Value)→Heap→Prop} {YP:Wp→Heap→Prop} {d:DefRec} {K:Params→W0} {k:Nat} {G:DF} (hn:l.most=some 63) (hdf:d.params.defaults=[]) (hr:Room k callerA)
  (hY:∀ (w:Wp) (h:Heap),YP w h→(K w.params).In h) (hL:∀ p:Params,noL (K p)=true)
  (hG:∀ ns:List Int,ns.length≤63→∃ outs,G [.pure (.lst (ns.map .int))]=some (.pure (.bl true),outs))
  (F:∀ (w:Wp) (mg:Str→Option Value) (fa:Addr) (h:Heap),(K w.params).In h→h.Ns Wn mg→mg d.name=some (.ref fa) →
   ∃ fd:WD,(∀ (s:W2) (u:Value),BindsTo s fd ⟨[u],[]⟩ [("script",u)])∧∀ base:Heap,(K w.params).In base→base.Ns Wn mg→FnOk l.prog w (K w.params) mg base CX0 k fa fd ["script"] (spD 1 G)) :
  PySem.W.WalkO q loose XP YP l.row.toRowW d [] (fun f vs=>PySem.call f vs) :=
 L2.walk_of (n:=63) (k:=k) (x:="script") (CX:=fun _=>CX0) (sp:=fun _=>spD 1 G) hn (by decide) hdf hr hY F (fun w H a ns hl _ hS=>zfL (hL w.params) hS (hG ns hl)) fun _ _ _ _ _ z=>z
end DV
set_option maxHeartbeats 400000
namespace L2
open PySem PySem.Spec PyProof.Rows
def Its (x:Str):It:=⟨fun i _=>i < x.cps.size,fun i H y H'=>H'=H∧∃ c,x.cps[i]? = some c∧y = .str ⟨#[c]⟩,fun i _=>i=x.cps.size⟩
theorem zbB {P:Wj} {w:Wp} {K:W0} {tg:Expr} (x:Str) (t:Tok) (it:Addr) (T:String) (hT:T = "str_ascii_iterator"∨T = "str_iterator"):Turn P w K tg (Its x) [it] it (fun i h=>h.IsStrIter it T x t i):=by
 have W:∀ A:Wo,A.handled=none→Walks P w A it [it] [it] x.cps.size (SignAt x) (fun i h=>h.IsStrIter it T x t i):=fun A hh=>by
  rcases hT with rfl | rfl
  ·exact Walks.strAscii hh it x t
  ·exact Walks.strWide hh it x t
 refine ⟨by simp,fun i h st b hb=>?_,fun i h h' st k=>?_,?_,?_,fun A i s Q E st h=>?_⟩
 ·have e:b=it:=by simpa using hb
  subst e
  obtain ⟨o,e,c,d⟩:=st
  exact ⟨o,e,fun v z=>by rw [d] at z; cases z⟩
 ·obtain ⟨o,e,r⟩:=st
  exact ⟨o,k it (by simp) o e,r⟩
 ·intro X hP hw hK hc i pins s σ H E I hf st hg
  subst hP hw hK
  obtain ⟨f0,f1,f2,f3,f4,f5⟩:=hf it (by simp)
  refine (W X.A (I.ok.hd hc)).item i s _ _ hg st fun v h' tk hv st' kk=>?_
  obtain ⟨c,u,hx,rfl⟩:=hv
  have I1:Inv X pins σ H { s with heap:=h',toks:=tk }:=I.turned (fun b o hb e=>kk b o (by simpa using hb) e) f0 f1 f3 f4 f5
  obtain ⟨o,e,c',d⟩:=id st'
  refine ⟨_,rfl,zcx (s:={ s with heap:=h',toks:=tk }) e c' d (by rcases hT with rfl | rfl <;> decide) ⟨.str ⟨#[c]⟩,H,I1,⟨u,rfl⟩,⟨rfl,c,hx,rfl⟩,st',fun b hb=>(hf b hb).1⟩⟩
 ·intro X hP hw hK hc i pins s σ H E I hf st hg
  subst hP hw hK
  have hg':i=x.cps.size:=hg
  subst hg'
  obtain ⟨f0,f1,f2,f3,f4,f5⟩:=hf it (by simp)
  exact (W X.A (I.ok.hd hc)).done s _ _ st fun h' tk eb=>⟨rfl,I.turned (fun b o hb e=>eb b o (by simpa using hb) e) f0 f1 f3 f4 f5⟩
 ·rcases hT with rfl | rfl
  ·exact wpAny_pyIter_striter_ascii st h
  ·exact wpAny_pyIter_striter_wide st h
end L2
namespace DV
open PySem PySem.Spec PyProof.Rows L2
section
variable {X:Cx} {c:Fc} {tg e:Expr} {fe:DE} {pos pp:Pos}
def iSeqS (K:W0) (tl:TE):TI:=fun σ H R=>tl σ H fun x H1=>(∃ a,x = .ref a∧(∃ xs,SqL K H1 a xs)∧R (Itl K a) H1)∨(∃ a,x = .ref a∧(∃ xs,SqT K H1 a xs)∧R (Itt K a) H1)∨∃ z,x = .str z∧R (Its z) H1
theorem zdZ {l:Expr} {tl:TE} (hl:PE X l tl):PI X tg l (iSeqS X.K tl):=by
 intro pins s σ H R I h
 refine thn (hl pins s σ H _ I h) fun v s1 ⟨x,H1,I1,r1,q1⟩=>?_
 rcases q1 with q1 | q1 | ⟨z,e,q⟩
 ·obtain ⟨a,e,⟨xs,hq⟩,q⟩:=q1
  subst e
  cases r1
  obtain ⟨its,rv,p,hz⟩:=I1.list hq
  refine wpAny_pyIter_list p.isList ?_
  refine ⟨s1.heap.objs.size,[s1.heap.objs.size],_,_,H1,rfl,I1.kept (t':=s1.toks) fun b o e=>W5 _ e,z9N a _,⟨_,Wq _ rfl,rfl,rfl⟩,fun b hb=>?_,q⟩
  have e:b=s1.heap.objs.size:=by simpa using hb
  subst e
  exact I1.fpOk (Wc _) (I1.hok.fresh (Wc _))
 ·obtain ⟨a,e,⟨xs,hq⟩,q⟩:=q1
  subst e
  cases r1
  obtain ⟨its,rv,p,hz⟩:=I1.tuple hq
  refine Jc (show s1.heap.IsTuple a its.toArray from p) ?_
  refine ⟨s1.heap.objs.size,[s1.heap.objs.size],_,_,H1,rfl,I1.kept (t':=s1.toks) fun b o e=>W5 _ e,z9c a _,⟨_,Wq _ rfl,rfl,rfl⟩,fun b hb=>?_,q⟩
  have e:b=s1.heap.objs.size:=by simpa using hb
  subst e
  exact I1.fpOk (Wc _) (I1.hok.fresh (Wc _))
 ·subst e
  obtain ⟨t,rfl⟩:=r1
  refine wpAny_pyIter_strU ?_
  have hT:JL z = "str_ascii_iterator"∨JL z = "str_iterator":=by
   unfold JL
   split
   ·exact .inl rfl
   ·exact .inr rfl
  refine ⟨s1.heap.objs.size,[s1.heap.objs.size],_,_,H1,rfl,I1.kept (t':=s1.toks) fun b o e=>W5 _ e,zbB z t _ _ hT,⟨_,Wq _ rfl,rfl,rfl⟩,fun b hb=>?_,q⟩
  have e:b=s1.heap.objs.size:=by simpa using hb
  subst e
  exact I1.fpOk (Wc _) (I1.hok.fresh (Wc _))
theorem zfX (z:Tx):ItOk c σ δ H (Its (toS z)) (z.map fun n=>D.str [n]):=by
 intro H2 kp
 have hsz:(toS z).cps.size=z.length:=by simp [toS]
 refine ⟨by show (z.map _).length=_; rw [hsz]; simp,fun i d e=>?_⟩
 rw [WB] at e
 cases ez:z[i]? with
 | none=>rw [ez] at e; cases e
 | some n =>
  rw [ez] at e
  cases e
  have hi:i < z.length:=(Wb.mp ez).1
  refine ⟨by show i < _; rw [hsz]; exact hi,fun x H3 ⟨e3,cc,hc,hx⟩=>.inl ⟨e3,?_⟩⟩
  have:(toS z).cps[i]? = z[i]?:=by simp [toS]
  rw [this,ez] at hc
  cases hc
  rw [hx]
  exact .str [n]
def iSq (f:DE):DI:=fun δ=>(f δ).bind fun r δ1=>match r.d with
 | .lst ds=>.ok ds δ1
 | .tup ds=>.ok ds δ1
 | .str x=>.ok (x.map fun n=>.str [n]) δ1
 | _=>.stuck
theorem z6g (he:SE X c e fe):SI X c tg e (iSq fe):=PI.weak (zdZ he) fun σ H R ⟨δ,k,q⟩=>by
 unfold iSq at q
 rw [z03] at q
 refine ⟨δ,k,z01 q fun r δ1 q1 v H1 a1 r1=>?_⟩
 have rr:=r1.rep
 generalize r.d=d at q1 rr
 cases d <;> first | exact q1.elim | skip
 ·cases rr
  exact .inr (.inr ⟨_,rfl,q1 _ H1 a1 (zfX _)⟩)
 ·cases rr with
  | tup h1 h2 h3 h4=>exact .inr (.inl ⟨_,rfl,⟨_,.of h2⟩,q1 _ H1 a1 (zfW _ h2 (fun z=>h1 (.inr z)) ⟨h3,h4⟩)⟩)
 ·cases rr with
  | lst h1 h2 h3 h4 =>
   refine .inl ⟨_,rfl,⟨_,.inl h2⟩,q1 _ H1 a1 ?_⟩
   intro H2 kp
   rename_i a vs
   have h5:Rd H2 a (.lst vs):=Rd.keep h2 fun o e=>kp a o e fun z=>h1 (.inr z)
   have r':Reps H1 (Av c σ δ1) vs _:=⟨h3,h4⟩
   refine ⟨⟨vs,.inl h5,by rw [r'.1]; exact Wc _⟩,fun i d e=>?_⟩
   obtain ⟨v,ev,rv⟩:=r'.get e
   refine ⟨⟨vs,v,.inl h5,ev⟩,fun x H3 ⟨e3,y⟩=>.inl ⟨e3,?_⟩⟩
   have:=y vs (.inl h5)
   rw [ev] at this
   cases this
   exact rv
end
end DV
namespace L2
open PySem PySem.Spec PyProof.Rows
theorem z5K (a:Int) (t:Tok) (l:Addr) (dd:Option Addr) (items:Array Value) (n:Nat) (sl:Array (Option Value)) :
  Meets (Builtin.«int.__rmul__» ⟨[.int a t,.ref l],[]⟩) (fun _ R s=>s.heap.get? l=some { cls:=.type "tuple",dict:=dd,data:=.seq items n,slots:=sl }∧R (.ok (.ret Value.notImplemented)) s) :=
 .of_wp fun prog w A R s h=>by obtain ⟨hp,g,d,tk,os⟩:=s; obtain ⟨hl,h⟩:=h; wp_walk; exact ⟨_,rfl,h⟩
theorem z4E:fillsNumberSlot (.type "tuple") "mul" = pure false :=
 PySem.fillsNumberSlot_seq (id:="tuple.__mul__") (r:=some (.builtin "tuple.__rmul__")) F.slot_tuple_mul.lookup (by decide +kernel) F.slot_tuple_rmul.lookup (by decide +kernel)
theorem z72:seqRepeat? (.type "tuple")=pure (some (.builtin "tuple.__mul__")):=by
 unfold seqRepeat?
 rw [PySem.seqSlot_of (T:="tuple") (name:="__mul__") (id:="tuple.__mul__") F.slot_tuple_mul.lookup (by decide +kernel),PySem.seqSlot_of (T:="tuple") (name:="__rmul__") (id:="tuple.__rmul__") F.slot_tuple_rmul.lookup (by decide +kernel)]
 rfl
theorem z5C (l:Addr) (dd:Option Addr) (items:Array Value) (n:Nat) (sl:Array (Option Value)) (x:Int) (u:Tok) (h1:¬ (decide (x < -(2 ^ 63)) || decide (x ≥ 2 ^ 63))=true) (h2:¬ (items.isEmpty || x == 1)=true) (h3:¬ (decide (x≤0) || items.isEmpty)=true) (h4:¬ items.size * x > (2 ^ 63 - 1) / 8) (h5:¬ Builtin.Tuple.tupleTooMany (items.size * x)=true) (h6:((Wd x.toNat items).foldl (· ++ ·) #[]).size≤W3) :
  Meets (Builtin.«tuple.__mul__» ⟨[.ref l,.int x u],[]⟩) (fun _ R s=>s.heap.get? l=some { cls:=.type "tuple",dict:=dd,data:=.seq items n,slots:=sl } ∧
   R (.ok (.ret (.ref s.heap.objs.size))) { s with heap:=s.heap.push { cls:=.type "tuple",data:=.seq ((Wd x.toNat items).foldl (· ++ ·) #[]) } }) :=
 .of_wp fun prog w A R s h=>by
  obtain ⟨hp,g,d,tk,os⟩:=s; obtain ⟨hl,h⟩:=h
  wp_walk
  rw [if_neg h1]
  wp_walk
  try rw [if_neg h2]
  try wp_walk
  try rw [if_neg h3]
  try wp_walk
  try rw [if_neg h4]
  try wp_walk
  try rw [if_neg h5]
  try wp_walk
  exact ⟨_,rfl,h⟩
theorem z6E (its:List α):∀ (k:Nat) (acc:List α),List.foldl (fun x1 x2:Array α=>x1 ++ x2) acc.toArray (Wd k its.toArray)=(acc ++ (Wd k its).flatten).toArray
 | 0,acc=>by simp
 | k + 1,acc=>by
  rw [Q2,Q6,show acc.toArray ++ its.toArray=(acc ++ its).toArray by simp,z6E its k]
  simp [Q2]
section
variable {X:Cx}
def zf4 (K:W0):R2:=fun x y H Q=>∃ l k xs,x = .ref l∧y = .int k∧SqT K H l xs∧xs≠[]∧2≤k∧k≤1000000∧xs.length * k.toNat≤W3∧∀ p,H p=none→Q (.ref p) (upd H p (.tup (Wd k.toNat xs).flatten))
theorem ze8:OpR X (Qh .Mult) (zf4 X.K):=by
 intro pins s σ H x y v u Q I rx ry h
 obtain ⟨l,k,xs,rfl,rfl,hH,hne,h1,h2,hz,q⟩:=h
 cases rx
 obtain ⟨t,rfl⟩:=ry
 obtain ⟨its,r,pl,hl⟩:=I.tuple hH
 obtain ⟨⟨cls,dd,data,sl⟩,ho,hc,n,hd⟩:=id pl
 simp only at hc hd
 subst hc hd
 have hlen:its.toArray.size=xs.length:=by rw [Wk]; exact r.length.symm
 have hem:its.toArray.isEmpty=false:=by
  cases its with
  | nil=>exact absurd (r.nil_iff.mp rfl) hne
  | cons a b=>rfl
 have hline:W3=16777216:=rfl
 have hk:(k.toNat:Int)=k:=by omega
 have hmul:((its.toArray.size:Nat):Int) * k=((xs.length * k.toNat:Nat):Int):=by rw [hlen,Qf,hk]
 have hfold:List.foldl (fun x1 x2=>x1 ++ x2) #[] (Wd k.toNat its.toArray)=(Wd k.toNat its).flatten.toArray:=by
  have:=z7t its k.toNat []
  rw [Qw] at this
  exact this
 refine wpAny_binaryOp_repeat_ref (T:="tuple") (U:="int") (by decide) ⟨_,ho,rfl⟩ (fun s'=>JC s' k t) z4E F.fills_int_mul F.slot_int_rmul z72 F.slot_int_index.lookup
  (JD F.slot_int_rmul (JC s k t) F.entry_int_rmul (F.args_int_rmul_2 _ _) (z5K k t l dd its.toArray n sl)
   ⟨ho,rfl,⟨_,ho,rfl⟩,JD F.slot_tuple_mul ⟨_,ho,rfl⟩ F.entry_tuple_mul (F.args_tuple_mul_2 _ _) (z5C l dd its.toArray n sl k t ?_ ?_ ?_ ?_ ?_ ?_) ⟨ho,?_⟩⟩)
 ·simp; omega
 ·rw [hem]; simp; omega
 ·rw [hem]; simp; omega
 ·rw [hmul]; omega
 ·rw [hmul]
  unfold Builtin.Tuple.tupleTooMany
  rw [hline] at hz
  generalize xs.length * k.toNat=m at hz
  simp only [hline,decide_eq_true_eq]
  omega
 ·rw [hfold,Wk,z8f,← r.length,Q4]; exact hz
 ·rw [hfold]
  have I1:Inv X pins σ (upd H s.heap.objs.size (.tup (Wd k.toNat xs).flatten)) { s with heap:=s.heap.push { cls:=.type "tuple",data:=.seq (Wd k.toNat its).flatten.toArray } } :=
   I.laid (t':=s.toks) (fun b o e=>W5 _ e) (Wc _) (show ObjOk X.prog X.w _ _ _ (.tup (Wd k.toNat xs).flatten) from ⟨by rw [z8f,Q4]; exact hz,(Wd k.toNat its).flatten,r.rep k.toNat,IsTupN.new _ _⟩)
  exact ⟨.ref _,_,I1,rfl,q _ (I.hok.fresh (Wc _))⟩
def zf5:R2:=fun x y H Q=>∃ z k,x = .str z∧y = .int k∧2≤k∧k≤1000000∧0 < z.length∧z.length * k.toNat≤W3∧Q (.str ⟨(Wd k.toNat z.cps).foldl (· ++ ·) #[]⟩) H
theorem op_repS:OpR X (Qh .Mult) zf5:=by
 intro pins s σ H x y v u Q I rx ry h
 obtain ⟨z,k,rfl,rfl,h1,h2,h0,hz,q⟩:=h
 obtain ⟨t,rfl⟩:=rx
 obtain ⟨t',rfl⟩:=ry
 have hline:W3=16777216:=rfl
 have c1:¬ k < 1:=by omega
 have c2:(k == 1 || z.length == 0)=false:=by
  simp
  omega
 refine PySem.P.mul_str (by simp; omega) (fun _ _=>?_) (fun _ _=>?_) ?_
 ·have hm:(z.length:Int) * k≤16777216:=by
   have:(z.length:Int) * k=((z.length * k.toNat:Nat):Int):=by rw [Qf,show (k.toNat:Int)=k by omega]
   rw [this]
   rw [hline] at hz
   omega
  have:(z.length:Int)≤(2 ^ 63 - 1) / k:=(Int.le_ediv_iff_mul_le (by omega)).mpr (by omega)
  omega
 ·unfold Builtin.Str.tooLong
  rw [hline] at hz
  generalize z.length * k.toNat=m at hz
  simp only [hline,decide_eq_false_iff_not]
  omega
 ·rw [if_neg c1,if_neg (by rw [c2]; simp)]
  have hsz:((Wd k.toNat z.cps).foldl (· ++ ·) #[]).size=k.toNat * z.length:=by
   have h:=z6E z.cps.toList k.toNat []
   simp only [Qw,Array.toArray_toList] at h
   rw [h,Wk,z8f]
   simp [Str.length]
  exact ⟨by show ((Wd k.toNat z.cps).foldl (· ++ ·) #[]).size≤_; rw [hsz,Q4]; exact hz,.str _,H,I.tok _,⟨_,rfl⟩,q⟩
end
end L2
namespace DV
open PySem PySem.Spec PyProof.Rows L2
def z1h:D→D→Option S
 | .int i,.int j=>pMul (.int i) (.int j)
 | .str x,.int k=>if 2≤k∧k≤1000000∧0 < x.length∧x.length * k.toNat≤W3 then some (.pure (.str (Wd k.toNat x).flatten)) else none
 | .tup xs,.int k=>if 2≤k∧k≤1000000∧0 < xs.length∧xs.length * k.toNat≤W3 then some (.pure (.tup (Wd k.toNat xs).flatten)) else none
 | _,_=>none
def zf6 (K:W0):R2:=fun x y H Q=>rI CMul (fun i j=>V.int (i * j)) x y H Q∨zf5 x y H Q∨zf4 K x y H Q
theorem z2f:OpR X (Qh .Mult) (zf6 X.K):=op_mul.or (op_repS.or ze8)
theorem Reps.rep (h:Reps H O vs ds):∀ k:Nat,Reps H O (Wd k vs).flatten (Wd k ds).flatten
 | 0=>.nil
 | k + 1=>by rw [Q2,Q2,QP,QP]; exact h.append (Reps.rep h k)
theorem z2g {K:W0}:Op2 (zf6 K) z1h:=by
 intro c σ δ H x y d e s Q k rx ry hp q
 cases d <;> cases e <;> first | (simp [z1h] at hp; done) | skip
 ·exact .inl (zfD c σ δ H x y _ _ s Q k rx ry hp q)
 ·rename_i z n
  simp only [z1h] at hp
  split at hp
  ·rename_i h
   cases hp
   refine .inr (.inl ⟨toS z,n,rx.str,ry.int,h.1,h.2.1,by rw [z2b]; exact h.2.2.1,by rw [z2b]; exact h.2.2.2,?_⟩)
   have e:(⟨(Wd n.toNat (toS z).cps).foldl (· ++ ·) #[]⟩:Str)=toS (Wd n.toNat z).flatten:=by
    unfold toS
    congr 1
    have:=z6E z n.toNat []
    rw [Qw] at this
    exact this
   rw [e]
   exact q _ H (.refl k) (.str _)
  ·cases hp
 ·rename_i ds n
  simp only [z1h] at hp
  split at hp
  ·rename_i h
   cases hp
   obtain ⟨a,vs,ex,ha,r⟩:=rx.tup
   refine .inr (.inr ⟨a,n,vs,ex,ry.int,.of ha,?_,h.1,h.2.1,by rw [r.1]; exact h.2.2.2,fun p hp'=>?_⟩)
   ·intro z
    rw [z] at r
    have:=r.1
    simp at this
    omega
   ·exact q _ _ (.alloc k hp' _) (RepS.newT k (Reps.rep r _) hp')
  ·cases hp
theorem RepS.newD (k:Ok c σ δ H) (hp:H p=none):RepS c σ δ H (upd H p (.dK [])) (.ref p) (.own (.dct [])):=by
 refine ⟨p,rfl,⟨[],z0p,rfl,fun i p q e=>by simp at e⟩,fun z=>k.nav hp (.inl z),k.fresh₀ hp,k.plus hp _,hp⟩
def z93:DE:=fun δ=>.ok (.own (.dct [])) δ
theorem z8C {X:Cx} {c:Fc} {pos:Pos}:SE X c (.Dict [] [] pos) z93:=PE.weak zc6 fun σ H Q ⟨δ,k,q⟩=>fun p hp=>q _ _ (.alloc k hp _) (RepS.newD k hp)
section
variable {X:Cx} {c:Fc} {e a x y:Expr} {fb:BE} {f g fa:DE} {pos pp p p2:Pos}
end
end DV
set_option maxHeartbeats 1000000
namespace L2
open PySem PySem.Spec PyProof.Rows
theorem z3c:entryFor table "dict.update.loop" = some Builtin.«dict.update.loop»:=entryFor_of_tree (by kernel_rfl)
theorem z16:plainId "dict.update.loop" = true:=by decide +kernel
theorem z5l:typeLookup (.type "tuple") "keys" = pure none:=by rw [typeLookup_type,builtinLookup_eq_fast]; kernel_rfl
theorem z5G:typeLookup (.type "list") "keys" = pure none:=by rw [typeLookup_type,builtinLookup_eq_fast]; kernel_rfl
set_option maxRecDepth 8000 in
theorem z7g
  (hx:s.heap.get? a=some o) (hc:o.cls = .type "tuple") (hdat:o.data = .seq xs k) (hd:o.dict=none) (hA:A.handled=none)
  (h:∀ h' tk,(∀ b ob,s.heap.get? b=some ob→h'.get? b=some ob)→Q none { s with heap:=h',toks:=tk }) :
  W9 (model prog w) A (getAttr? (.ref a) "keys") Q E s:=by
 obtain ⟨c,dct,dat,sl⟩:=o
 simp only at hc hdat hd
 subst hc hdat hd
 obtain ⟨hp,g,d,tk,os⟩:=s
 have hT:∀ tk',(⟨hp,g,d,tk',os⟩:W2).TypeIs (.ref a) "tuple":=fun _=>⟨_,hx,rfl⟩
 have f1:=sub_AttributeError
 have f3:=F.slot_tuple_getattribute.lookup
 have f4:=F.slot_tuple_getattribute.bind (.ref a)
 have f5:=am_tuple_getattr_none
 have hmiss:=z5l
 unfold getAttr? getAttrBy? getAttrBy
 repeat (any_goals (first | assumption | exact hT _ | ((with_reducible show W9 _ _ (call (Value.builtin "tuple.__getattribute__") _ _) _ _ _); refine JD F.slot_tuple_getattribute (hT _) am_entry_tuple_getattribute (F.args_tuple_getattribute_2 _ _) (meets_getattribute_miss_tuple a xs k sl "keys" _ hmiss (by decide +kernel)) ⟨hx,hA,fun h' tk' e hx'=>?_⟩) | wp_step))
 obtain ⟨t',u',he⟩:=hx'.there
 show W9 _ _ (Jz _ _ _ _ _ _ _) _ _ _
 unfold Jz
 repeat (any_goals (first | assumption | wp_step))
 exact h _ _ hx'.keeps
set_option maxRecDepth 8000 in
theorem z89
  (hx:s.heap.get? a=some o) (hc:o.cls = .type "list") (hdat:o.data = .seq xs k) (hd:o.dict=none) (hA:A.handled=none)
  (h:∀ h' tk,(∀ b ob,s.heap.get? b=some ob→h'.get? b=some ob)→Q none { s with heap:=h',toks:=tk }) :
  W9 (model prog w) A (getAttr? (.ref a) "keys") Q E s:=by
 obtain ⟨c,dct,dat,sl⟩:=o
 simp only at hc hdat hd
 subst hc hdat hd
 obtain ⟨hp,g,d,tk,os⟩:=s
 have hT:∀ tk',(⟨hp,g,d,tk',os⟩:W2).TypeIs (.ref a) "list":=fun _=>⟨_,hx,rfl⟩
 have f1:=sub_AttributeError
 have f3:=F.slot_list_getattribute.lookup
 have f4:=F.slot_list_getattribute.bind (.ref a)
 have f5:=am_list_getattr_none
 have hmiss:=z5G
 unfold getAttr? getAttrBy? getAttrBy
 repeat (any_goals (first | assumption | exact hT _ | ((with_reducible show W9 _ _ (call (Value.builtin "list.__getattribute__") _ _) _ _ _); refine JD F.slot_list_getattribute (hT _) am_entry_list_getattribute (F.args_list_getattribute_2 _ _) (meets_getattribute_miss_list a xs k sl "keys" _ hmiss (by decide +kernel)) ⟨hx,hA,fun h' tk' e hx'=>?_⟩) | wp_step))
 obtain ⟨t',u',he⟩:=hx'.there
 show W9 _ _ (Jz _ _ _ _ _ _ _) _ _ _
 unfold Jz
 repeat (any_goals (first | assumption | wp_step))
 exact h _ _ hx'.keeps
def z1T (kps:List (Key×V)) (acc:List (Key×V)):List (Key×V):=kps.foldl (fun a kv=>putK a kv.1 kv.2) acc
theorem zbg {prog:Wj} {w:Wp} {A:Wo} {R:Result→W2→Prop} {s:W2} {dl it:Addr} {i:Int} {t0:Tok}
  (hn:W9 (model prog w) A.in1 (pyNext (.ref it)) (fun r s1=>∃ (q:Addr) (k v:Value) (n:Nat),r=some (.ref q)∧s1.heap.get? q=some { cls:=.type "tuple",dict:=none,data:=.seq #[k,v] n,slots:=#[] } ∧
   W9 (model prog w) A.in1 (dictSet dl k v) (fun _ s2=>Qz (model prog w) A (.builtin "dict.update.loop" ⟨[.ref dl,.ref it,rawInt (i + 1),.none],[]⟩) R s2) (fun _ _=>False) s1) (fun _ _=>False) s) :
  Qz (model prog w) A (.builtin "dict.update.loop" ⟨[.ref dl,.ref it,.int i t0,.none],[]⟩) R s:=by
 refine Jd z3c ?_
 rw [Around.under_plainId z16 _]
 show W9 _ A.in1 (pyNext (.ref it) >>= _) _ _ s
 refine W1 (WL hn (fun r s1 hr=>?_) fun _ _ z=>z.elim)
 obtain ⟨q,k,v,n,rfl,hq,hd⟩:=hr
 dsimp only
 refine W1 ?_
 try with_reducible refine Q3 ?_
 refine W1 (JF ?_)
 have hT:s1.TypeIs (.ref q) "tuple":=⟨_,hq,rfl⟩
 unfold Builtin.Dict.pairItems
 refine W1 (J0 hT ?_)
 rw [if_pos (by decide)]
 refine W1 ?_
 unfold seqItems?
 refine W1 (wpAny_load hq (W8 ?_))
 refine W8 ?_
 show W9 _ A.in1 (holding [k,v] (dictSet dl k v)) _ _ s1
 try with_reducible refine Q3 ?_
 refine WL hd (fun _ s2 h2=>?_) fun _ _ z=>z.elim
 exact W8 ⟨J5 z16 _,h2⟩
theorem zbh {prog:Wj} {w:Wp} {A:Wo} {R:Result→W2→Prop} {s:W2} {dl it:Addr} {i:Int} {t0:Tok}
  (hn:W9 (model prog w) A.in1 (pyNext (.ref it)) (fun r s1=>r=none∧R (.ok (.ret .none)) s1) (fun _ _=>False) s) :
  Qz (model prog w) A (.builtin "dict.update.loop" ⟨[.ref dl,.ref it,.int i t0,.none],[]⟩) R s:=by
 refine Jd z3c ?_
 rw [Around.under_plainId z16 _]
 show W9 _ A.in1 (pyNext (.ref it) >>= _) _ _ s
 refine W1 (WL hn (fun r s1 hr=>?_) fun _ _ z=>z.elim)
 obtain ⟨rfl,hd⟩:=hr
 dsimp only
 show W9 _ A.in1 (Builtin.Dict.addKeywords dl [] >>= _) _ _ s1
 exact W1 (W8 (W8 hd))
section
variable {X:Cx} {pins:List (Addr×Obj)} {σ:St} {H:Hp}
theorem Rd.sub (h:Rd H a u) (k:∀ b o,H b=some o→H' b=some o):Rd H' a u:=by
 rcases h with h | ⟨o,h⟩
 ·exact .inl (k _ _ h)
 ·exact .inr ⟨o,k _ _ h⟩
def z6P (H:Hp) (ys:List V) (kps:List (Key×V)):Prop:=ys.length=kps.length∧∀ (i:Nat) y kv,ys[i]? = some y→kps[i]? = some kv→∃ q,y = .ref q∧H q=some (.tup [kV kv.1,kv.2])
theorem z41:∀ (kps acc:List (Key×V)),(z1T kps acc).length≤acc.length + kps.length
 | [],acc=>Wc _
 | kv :: r,acc=>by
  have h1:=z41 r (putK acc kv.1 kv.2)
  have h2:=z2i acc kv.1 kv.2
  show (z1T r (putK acc kv.1 kv.2)).length≤_
  simp only [WM]
  omega
theorem z81 (kps:List (Key×V)) (kv:Key×V) (acc:List (Key×V)):z1T (kps ++ [kv]) acc=putK (z1T kps acc) kv.1 kv.2:=by
 unfold z1T
 rw [List.foldl_append]
 rfl
theorem z7B {A:Wo} {R:Result→W2→Prop} {dl it:Addr} {ys:List V} {kps:List (Key×V)} {tn:Nat→Heap→Prop} (hP:z6P H ys kps) (hdl:H dl=none) (hz:kps.length≤W3)
  (item:∀ (i:Nat) (y:V) (H':Hp) (s:W2) (Q:Option Value→W2→Prop),(∀ b o,H b=some o→H' b=some o)→H' it=none→Inv X pins σ H' s→tn i s.heap→ys[i]? = some y→(∀ u s',RelV y u→Inv X pins σ H' s'→tn (i + 1) s'.heap→Q (some u) s')→W9 (model X.prog X.w) A.in1 (pyNext (.ref it)) Q (fun _ _=>False) s)
  (done:∀ (H':Hp) (s:W2) (Q:Option Value→W2→Prop),(∀ b o,H b=some o→H' b=some o)→H' it=none→Inv X pins σ H' s→tn ys.length s.heap→(∀ s',Inv X pins σ H' s'→Q none s')→W9 (model X.prog X.w) A.in1 (pyNext (.ref it)) Q (fun _ _=>False) s)
  (keep:∀ (i:Nat) (h h':Heap),tn i h→(∀ o,h.get? it=some o→h'.get? it=some o)→tn i h') (hit:H it=none) (hne:it≠dl) (hR:∀ s',Inv X pins σ (upd H dl (.dK (z1T kps []))) s'→R (.ok (.ret .none)) s') :
  ∀ (k i:Nat) (s:W2) (j:Int) (t0:Tok),ys.length - i=k→i≤ys.length→Inv X pins σ (upd H dl (.dK (z1T (kps.take i) []))) s→tn i s.heap →
   Qz (model X.prog X.w) A (.builtin "dict.update.loop" ⟨[.ref dl,.ref it,.int j t0,.none],[]⟩) R s:=by
 have up:∀ (acc:List (Key×V)) b o,H b=some o→upd H dl (.dK acc) b=some o:=fun acc b o e=>by rw [z0d (z0J e hdl)]; exact e
 have nit:∀ acc:List (Key×V),upd H dl (.dK acc) it=none:=fun acc=>by rw [z0d hne]; exact hit
 intro k
 induction k with
 | zero =>
  intro i s j t0 hk hi I st
  have e:i=ys.length:=by omega
  subst e
  rw [hP.1,List.take_of_length_le (Wc _)] at I
  refine zbh (done _ s _ (up _) (nit _) I st fun s' I'=>⟨rfl,hR s' I'⟩)
 | succ k ih =>
  intro i s j t0 hk hi I st
  have hlt:i < ys.length:=by omega
  have hlk:i < kps.length:=by rw [← hP.1]; exact hlt
  obtain ⟨q,ey,hq⟩:=hP.2 i ys[i] kps[i] (by simp [hlt]) (by simp [hlk])
  -- the item is a tuple of two
  have main:∀ s1,Inv X pins σ (upd H dl (.dK (z1T (kps.take i) []))) s1→tn (i + 1) s1.heap→∃ (kk vv:Value) (n:Nat),s1.heap.get? q=some { cls:=.type "tuple",dict:=none,data:=.seq #[kk,vv] n,slots:=#[] }∧RelV (kV kps[i].1) kk∧RelV kps[i].2 vv:=fun s1 I1 _=>by
   obtain ⟨_,its,r,n,e⟩:=(show ObjOk X.prog X.w _ s1.heap q (.tup [kV kps[i].1,kps[i].2]) from I1.hok q _ (up _ q _ hq))
   obtain ⟨u,v,rfl,r1,r2⟩:=Vals.two r
   exact ⟨u,v,n,e,r1,r2⟩
  refine zbg (item i ys[i] _ s _ (up _) (nit _) I st (by simp [hlt]) fun u s' ru I' st'=>?_)
  rw [ey] at ru
  cases ru
  obtain ⟨kk,vv,n,e,r1,r2⟩:=main s' I' st'
  refine ⟨q,kk,vv,n,rfl,e,?_⟩
  obtain ⟨z,hd,vs,rel,dd⟩:=zcG I'.hok z0p
  have hvs:vs.length≤W3:=by rw [← rel.length]; exact z
  have hl:(putK (z1T (kps.take i) []) kps[i].1 kps[i].2).length≤W3:=by
   have h1:=z2i (z1T (kps.take i) []) kps[i].1 kps[i].2
   have h2:=z41 (kps.take i) []
   simp at h2
   omega
  refine wpAny_dictSet_pairs (hsz:=hvs) (z7m r1) dd fun h' dd' hs=>?_
  have he:∃ q,h'.get? dl=some q:=let ⟨q,_,_,hq,_⟩:=dd'; ⟨q,hq⟩
  have I2:=z6J (t':=s'.toks + 1) I' (by rw [z0p]; exact True.intro) hs he (zbe hl hd (rel.put kps[i].1 r2) dd')
  rw [zdf] at I2
  have et:kps.take (i + 1)=kps.take i ++ [kps[i]]:=by rw [JJ]; simp [hlk]
  rw [show putK (z1T (kps.take i) []) kps[i].1 kps[i].2=z1T (kps.take (i + 1)) [] by rw [et,z81]] at I2
  exact ih (i + 1) _ (j + 1) _ (by omega) hlt I2 (keep (i + 1) _ _ st' fun o eo=>(hs.2 it hne).trans eo)
theorem z5x (hc:X.calm=true):CallR X (.type "dict") (fun xs H Q=>∃ p ys kps,xs=[.ref p]∧(H p=some (.tup ys)∨Rd H p (.lst ys))∧z6P H ys kps∧kps.length≤W3∧∀ l,H l=none→Q (.ref l) (upd H l (.dK (z1T kps [])))):=by
 intro pins s σ H xs us Q I r h
 obtain ⟨p,ys,kps,rfl,hp,hP,hz,q⟩:=h
 obtain ⟨u,rfl,rx⟩:=z5B r
 cases rx
 have hA:X.A.handled=none:=I.ok.hd hc
 refine callType_codes (Q₁:=fun obj s₁=>obj = .ref s.heap.objs.size∧s₁ = { s with heap:=s.heap.push { cls:=.type "dict",data:=.dict #[] } }) F.kt_called_dict (F.kt_typeCall_dict_1 _) F.entry_dict_init (kt_code_dict_new _ ⟨rfl,rfl⟩) ?_
 rintro obj s₁ ⟨rfl,rfl⟩
 have hdl:H s.heap.objs.size=none:=I.hok.fresh (Wc _)
 have I1:Inv X pins σ (upd H s.heap.objs.size (.dK [])) { s with heap:=s.heap.push { cls:=.type "dict",data:=.dict #[] } }:=I.laid (t':=s.toks) (fun _ _ q=>W5 _ q) (Wc _) (z6I s.heap I.big)
 generalize hdd:s.heap.objs.size=dl at hdl I1
 have up:∀ (acc:List (Key×V)) b o,H b=some o→upd H dl (.dK acc) b=some o:=fun acc b o e=>by rw [z0d (z0J e hdl)]; exact e
 have hTd:({ s with heap:=s.heap.push { cls:=.type "dict",data:=.dict #[] } }:W2).TypeIs (.ref dl) "dict":=⟨_,by rw [← hdd]; exact Wq _ rfl,rfl⟩
 refine ⟨hTd,F.args_dict_init_2 _ _,?_⟩
 unfold Builtin.«dict.__init__»
 refine W1 ?_
 unfold Builtin.Dict.selfAndRest
 refine W1 (wpAny_notOrdered_dict hTd ?_)
 show W9 _ _ (pure (dl,[Value.ref p])) _ _ _
 refine W8 ?_
 show W9 _ _ (Builtin.Dict.updateFrom "dict.__init__" dl (.ref p) [] .none) _ _ _
 unfold Builtin.Dict.updateFrom
 have fin:∀ s',Inv X pins σ (upd H dl (.dK (z1T kps []))) s'→EP X pins σ Q (.ref dl) s':=fun s' I'=>⟨.ref dl,_,I',rfl,q dl hdl⟩
 rcases hp with hp | hp
 ·obtain ⟨_,its,r,n,e⟩:=(show ObjOk X.prog X.w _ (s.heap.push { cls:=.type "dict",data:=.dict #[] }) p (.tup ys) from I1.hok p _ (up _ p _ hp))
  refine W1 (J0 ⟨_,e,rfl⟩ ?_)
  rw [if_pos (by decide)]
  refine W1 (z7g e rfl rfl rfl hA fun h' tk kp=>?_)
  rw [if_pos (show (none:Option Value).isNone=true from rfl)]
  refine W1 (JE ?_)
  have I2:Inv X pins σ (upd H dl (.dK [])) { s with heap:=h',toks:=tk }:=I1.kept kp
  have isT:h'.IsTuple p its.toArray:=⟨_,kp _ _ e,rfl,n,rfl⟩
  refine W1 (Jc (s:={ s with heap:=h',toks:=tk }) isT ?_)
  refine W8 ⟨J5 z16 _,?_⟩
  have hfr:upd H dl (.dK []) h'.objs.size=none:=I2.hok.fresh (Wc _)
  have hne:h'.objs.size≠dl:=fun z=>by rw [z,z0p] at hfr; cases hfr
  have hit:H h'.objs.size=none:=by rw [z0d hne] at hfr; exact hfr
  have fp:∀ H':Hp,H' h'.objs.size=none→FpOk X pins H' h'.objs.size:=fun H' hn=>I2.fpOk (Wc _) hn
  refine z7B (X:=X) (pins:=pins) (σ:=σ) (H:=H) (dl:=dl) (it:=h'.objs.size) (ys:=ys) (kps:=kps) (tn:=fun i h=>h.IsTupleIter h'.objs.size p i) hP hdl hz ?_ ?_ (fun i h h2 st k=>st.at k) hit hne (fun s' I'=>⟨rfl,fin s' I'⟩) ys.length 0 _ 0 _ (Nat.sub_zero _) (Qb _) ?_ ?_
  ·intro i y H' s' Q' sub hn I' st hy k
   obtain ⟨_,its2,r2,n2,e2⟩:=(show ObjOk X.prog X.w _ s'.heap p (.tup ys) from I'.hok p _ (sub p _ hp))
   obtain ⟨v,hv,rv⟩:=r2.get hy
   obtain ⟨f0,f1,f2,f3,f4,f5⟩:=fp H' hn
   refine wpAny_pyNext_tuple_item st (items:=its2.toArray) ⟨_,e2,rfl,n2,rfl⟩ (x:=v) (by simpa using hv) fun h3 st3 sb=>?_
   exact k v { s' with heap:=h3 } rv (I'.turned (t':=s'.toks) (fun b o hb e=>(sb.2 b hb).trans e) f0 f1 f3 f4 f5) st3
  ·intro H' s' Q' sub hn I' st k
   obtain ⟨_,its2,r2,n2,e2⟩:=(show ObjOk X.prog X.w _ s'.heap p (.tup ys) from I'.hok p _ (sub p _ hp))
   obtain ⟨f0,f1,f2,f3,f4,f5⟩:=fp H' hn
   have hl2:=r2.length
   exact wpAny_pyNext_tuple_end (show X.A.in1.in1.handled=none from hA) st (items:=its2.toArray) ⟨_,e2,rfl,n2,rfl⟩ (by simp; omega) fun h3 eb=>k { s' with heap:=h3 } (I'.turned (t':=s'.toks) (fun b o hb e=>eb b o hb e) f0 f1 f3 f4 f5)
  ·exact I2.kept (t':=tk) fun b o e=>W5 _ e
  ·exact ⟨_,Wq _ rfl,rfl,rfl⟩
 ·obtain ⟨_,its,n,r,e⟩:=(show ObjOk X.prog X.w _ (s.heap.push { cls:=.type "dict",data:=.dict #[] }) p (.lst ys) from (Rd.sub hp (up _)).ok I1.hok)
  refine W1 (J0 ⟨_,e,rfl⟩ ?_)
  rw [if_pos (by decide)]
  refine W1 (z89 e rfl rfl rfl hA fun h' tk kp=>?_)
  rw [if_pos (show (none:Option Value).isNone=true from rfl)]
  refine W1 (JE ?_)
  have I2:Inv X pins σ (upd H dl (.dK [])) { s with heap:=h',toks:=tk }:=I1.kept kp
  have isT:h'.IsList p its.toArray:=⟨_,kp _ _ e,rfl,n,rfl⟩
  refine W1 (wpAny_pyIter_list (s:={ s with heap:=h',toks:=tk }) isT ?_)
  refine W8 ⟨J5 z16 _,?_⟩
  have hfr:upd H dl (.dK []) h'.objs.size=none:=I2.hok.fresh (Wc _)
  have hne:h'.objs.size≠dl:=fun z=>by rw [z,z0p] at hfr; cases hfr
  have hit:H h'.objs.size=none:=by rw [z0d hne] at hfr; exact hfr
  have fp:∀ H':Hp,H' h'.objs.size=none→FpOk X pins H' h'.objs.size:=fun H' hn=>I2.fpOk (Wc _) hn
  refine z7B (X:=X) (pins:=pins) (σ:=σ) (H:=H) (dl:=dl) (it:=h'.objs.size) (ys:=ys) (kps:=kps) (tn:=fun i h=>h.IsListIter h'.objs.size p i) hP hdl hz ?_ ?_ (fun i h h2 st k=>st.at k) hit hne (fun s' I'=>⟨rfl,fin s' I'⟩) ys.length 0 _ 0 _ (Nat.sub_zero _) (Qb _) ?_ ?_
  ·intro i y H' s' Q' sub hn I' st hy k
   obtain ⟨_,its2,n2,r2,e2⟩:=(show ObjOk X.prog X.w _ s'.heap p (.lst ys) from (Rd.sub hp sub).ok I'.hok)
   obtain ⟨v,hv,rv⟩:=r2.get hy
   obtain ⟨f0,f1,f2,f3,f4,f5⟩:=fp H' hn
   refine wpAny_pyNext_list_item st (items:=its2.toArray) ⟨_,e2,rfl,n2,rfl⟩ (x:=v) (by simpa using hv) fun h3 st3 sb=>?_
   exact k v { s' with heap:=h3 } rv (I'.turned (t':=s'.toks) (fun b o hb e=>(sb.2 b hb).trans e) f0 f1 f3 f4 f5) st3
  ·intro H' s' Q' sub hn I' st k
   obtain ⟨_,its2,n2,r2,e2⟩:=(show ObjOk X.prog X.w _ s'.heap p (.lst ys) from (Rd.sub hp sub).ok I'.hok)
   obtain ⟨f0,f1,f2,f3,f4,f5⟩:=fp H' hn
   have hl2:=r2.length
   exact wpAny_pyNext_list_end (show X.A.in1.in1.handled=none from hA) st (items:=its2.toArray) ⟨_,e2,rfl,n2,rfl⟩ (by simp; omega) fun h3 eb=>k { s' with heap:=h3 } (I'.turned (t':=s'.toks) (fun b o hb e=>eb b o hb e) f0 f1 f3 f4 f5)
  ·exact I2.kept (t':=tk) fun b o e=>W5 _ e
  ·exact ⟨_,Wq _ rfl,rfl,rfl⟩
end
end L2
set_option maxHeartbeats 400000
namespace DV
open PySem PySem.Spec PyProof.Rows L2
def valD (kvs:List (DKey×D)) (k:DKey):Option D:=(kvs.find? fun kv=>decide (kv.1=k)).map (·.2)
def putD (kvs:List (DKey×D)) (k:DKey) (v:D):List (DKey×D) :=
 if (kvs.any fun kv=>decide (kv.1=k))=true then kvs.map (fun kv=>if kv.1=k then (kv.1,v) else kv) else kvs ++ [(k,v)]
def z80 (kps acc:List (DKey×D)):List (DKey×D):=kps.foldl (fun a kv=>putD a kv.1 kv.2) acc
theorem zei (h:kOf k=kOf j):k=j:=by
 cases k <;> cases j <;> simp [kOf] at h
 ·rw [h]
 ·rw [z7N h]
def DR (H:Hp) (O:Addr→Prop):List (Key×V)→List (DKey×D)→Prop
 | [],[]=>True
 | p :: ws,q :: ds=>p.1=kOf q.1∧Rep H O p.2 q.2∧DR H O ws ds
 | _,_=>False
section
variable {H H':Hp} {O O':Addr→Prop}
theorem DR.of:∀ {ws:List (Key×V)} {ds:List (DKey×D)},ws.map (·.1)=ds.map (fun p=>kOf p.1)→(∀ (i:Nat) p q,ws[i]? = some p→ds[i]? = some q→Rep H O p.2 q.2)→DR H O ws ds
 | [],[],_,_=>trivial
 | [],_ :: _,h,_=>by simp at h
 | _ :: _,[],h,_=>by simp at h
 | p :: ws,q :: ds,h,k=>by
  simp only [Wr,List.cons.injEq] at h
  exact ⟨h.1,k 0 p q rfl rfl,DR.of h.2 fun i p' q' e1 e2=>k (i + 1) p' q' (by simpa using e1) (by simpa using e2)⟩
theorem DR.keys:∀ {ws:List (Key×V)} {ds:List (DKey×D)},DR H O ws ds→ws.map (·.1)=ds.map (fun p=>kOf p.1)
 | [],[],_=>rfl
 | [],_ :: _,h=>h.elim
 | _ :: _,[],h=>h.elim
 | p :: ws,q :: ds,h=>by simp only [Wr,h.1,DR.keys h.2.2]
theorem DR.vals:∀ {ws:List (Key×V)} {ds:List (DKey×D)},DR H O ws ds→∀ (i:Nat) p q,ws[i]? = some p→ds[i]? = some q→Rep H O p.2 q.2
 | [],[],_,i,p,q,e,_=>by simp at e
 | [],_ :: _,h,_,_,_,_,_=>h.elim
 | _ :: _,[],h,_,_,_,_,_=>h.elim
 | p :: ws,q :: ds,h,i,p',q',e1,e2=>by
  cases i with
  | zero=>simp at e1 e2; subst e1 e2; exact h.2.1
  | succ i=>exact DR.vals h.2.2 i p' q' (by simpa using e1) (by simpa using e2)
theorem DR.map:∀ {ws:List (Key×V)} {ds:List (DKey×D)},DR H O ws ds→(∀ v d,Rep H O v d→Rep H' O' v d)→DR H' O' ws ds
 | [],[],_,_=>trivial
 | [],_ :: _,h,_=>h.elim
 | _ :: _,[],h,_=>h.elim
 | p :: ws,q :: ds,h,k=>⟨h.1,k _ _ h.2.1,DR.map h.2.2 k⟩
theorem z3E (h:p=kOf q):(p=kOf k) ↔ q=k:=⟨fun e=>zei (by rw [← h]; exact e),fun e=>by rw [h,e]⟩
theorem DR.any:∀ {ws:List (Key×V)} {ds:List (DKey×D)} (k:DKey),DR H O ws ds→(ws.any fun kv=>decide (kv.1=kOf k))=ds.any fun kv=>decide (kv.1=k)
 | [],[],_,_=>rfl
 | [],_ :: _,_,h=>h.elim
 | _ :: _,[],_,h=>h.elim
 | p :: ws,q :: ds,k,h=>by
  rw [QM,QM,DR.any k h.2.2]
  congr 1
  exact decide_eq_decide.mpr (z3E h.1)
theorem DR.val:∀ {ws:List (Key×V)} {ds:List (DKey×D)} (k:DKey),DR H O ws ds→(valD ds k=none∧valV ws (kOf k)=none)∨∃ v d,valD ds k=some d∧valV ws (kOf k)=some v∧Rep H O v d
 | [],[],_,_=>.inl ⟨rfl,rfl⟩
 | [],_ :: _,_,h=>h.elim
 | _ :: _,[],_,h=>h.elim
 | p :: ws,q :: ds,k,h=>by
  by_cases e:q.1=k
  ·have e':=(z3E h.1).mpr e
   exact .inr ⟨p.2,q.2,by simp [valD,WZ,e],z4K e',h.2.1⟩
  ·have e':¬ p.1=kOf k:=fun z=>e ((z3E h.1).mp z)
   have ev:valD (q :: ds) k=valD ds k:=by simp [valD,WZ,e]
   rw [ev,z4L e']
   exact DR.val k h.2.2
theorem DR.append:∀ {ws ws':List (Key×V)} {ds ds':List (DKey×D)},DR H O ws ds→DR H O ws' ds'→DR H O (ws ++ ws') (ds ++ ds')
 | [],_,[],_,_,h'=>h'
 | [],_,_ :: _,_,h,_=>h.elim
 | _ :: _,_,[],_,h,_=>h.elim
 | p :: ws,_,q :: ds,_,h,h'=>⟨h.1,h.2.1,DR.append h.2.2 h'⟩
theorem DR.store:∀ {ws:List (Key×V)} {ds:List (DKey×D)} {k:DKey} {v:V} {d:D},DR H O ws ds→Rep H O v d→DR H O (ws.map fun kv=>if kv.1=kOf k then (kv.1,v) else kv) (ds.map fun kv=>if kv.1=k then (kv.1,d) else kv)
 | [],[],_,_,_,_,_=>trivial
 | [],_ :: _,_,_,_,h,_=>h.elim
 | _ :: _,[],_,_,_,h,_=>h.elim
 | p :: ws,q :: ds,k,v,d,h,r=>by
  refine ⟨?_,?_,DR.store h.2.2 r⟩
  ·by_cases e:q.1=k
   ·dsimp only; rw [if_pos ((z3E h.1).mpr e),if_pos e]; exact h.1
   ·dsimp only; rw [if_neg fun z=>e ((z3E h.1).mp z),if_neg e]; exact h.1
  ·by_cases e:q.1=k
   ·dsimp only; rw [if_pos ((z3E h.1).mpr e),if_pos e]; exact r
   ·dsimp only; rw [if_neg fun z=>e ((z3E h.1).mp z),if_neg e]; exact h.2.1
theorem DR.put (h:DR H O ws ds) (r:Rep H O v d):DR H O (putK ws (kOf k) v) (putD ds k d):=by
 unfold putK putD
 rw [DR.any k h]
 split
 ·exact DR.store h r
 ·exact DR.append h ⟨rfl,r,trivial⟩
theorem DR.puts:∀ {kps:List (Key×V)} {dps:List (DKey×D)} {ws:List (Key×V)} {ds:List (DKey×D)},DR H O kps dps→DR H O ws ds→DR H O (z1T kps ws) (z80 dps ds)
 | [],[],_,_,_,h=>h
 | [],_ :: _,_,_,h,_=>h.elim
 | _ :: _,[],_,_,h,_=>h.elim
 | p :: kps,q :: dps,ws,ds,h,h'=>by
  show DR H O (z1T kps (putK ws p.1 p.2)) (z80 dps (putD ds q.1 q.2))
  rw [h.1]
  exact DR.puts h.2.2 (DR.put h' h.2.1)
end
def keyD:D→Option DKey
 | .int i=>some (.inl i)
 | .str x=>some (.inr x)
 | _=>none
theorem za6 (h:keyD d=some k) (r:Rep H O v d):v=kV (kOf k):=by
 cases d <;> simp [keyD] at h <;> subst h <;> cases r <;> rfl
theorem z3S (h:keyD d=some k) (r:RepB c σ δ H v d):v=kV (kOf k):=by
 rcases r with r | ⟨a,rfl,r⟩
 ·exact za6 h r
 ·cases d <;> simp [keyD] at h <;> exact r.elim
def z3x:List D→Option (List (DKey×D))
 | []=>some []
 | .tup [k,v] :: r=>match keyD k,z3x r with
  | some k',some r'=>some ((k',v) :: r')
  | _,_=>none
 | _ :: _=>none
def z2C:D→Option S
 | .lst ds=>(z3x ds).bind fun ps=>if ps.length≤W3 then some (.own (.dct (z80 ps []))) else none
 | .tup ds=>(z3x ds).bind fun ps=>if ps.length≤W3 then some (.own (.dct (z80 ps []))) else none
 | _=>none
theorem z6p:∀ {ds:List D} {vs:List V} {ps:List (DKey×D)},z3x ds=some ps→Reps H O vs ds→∃ kps,z6P H vs kps∧DR H O kps ps∧kps.length=ps.length
 | [],[],ps,h,_=>by
  simp [z3x] at h
  subst h
  exact ⟨[],⟨rfl,fun i y kv e=>by simp at e⟩,trivial,rfl⟩
 | [],_ :: _,_,_,r=>by have:=r.1; simp at this
 | _ :: _,[],_,_,r=>by have:=r.1; simp at this
 | d :: ds,v :: vs,ps,h,r=>by
  unfold z3x at h
  split at h
  ·rename_i heq; cases heq
  ·rename_i k w r' heq
   cases heq
   split at h
   ·rename_i k' r'' hk hr
    cases h
    obtain ⟨kps,hP,hD,hL⟩:=z6p hr r.tail
    have rp:=r.head
    cases rp with
    | tup h1 h2 h3 h4 =>
     rename_i a us
     match us,h3,h4,h2 with
     | [x,y],_,h4,h2 =>
      have rk:=h4 0 x k rfl rfl
      have rv:=h4 1 y w rfl rfl
      have ek:=za6 hk rk
      subst ek
      refine ⟨(kOf k',y) :: kps,⟨by simp [hP.1],fun i z kv e1 e2=>?_⟩,⟨rfl,rv,hD⟩,by simp [hL]⟩
      cases i with
      | zero=>simp at e1 e2; subst e1 e2; exact ⟨a,rfl,h2⟩
      | succ i=>exact hP.2 i z kv (by simpa using e1) (by simpa using e2)
   ·cases h
  ·cases h
theorem RepS.newDk (k:Ok c σ δ H) (hp:H p=none) (r:DR H (Av c σ δ) ws ds):RepS c σ δ H (upd H p (.dK ws)) (.ref p) (.own (.dct ds)):=by
 have up:∀ a w,H a=some w→upd H p (.dK ws) a=some w:=fun a w e=>by rw [z0d (z0J e hp)]; exact e
 have r1:DR (upd H p (.dK ws)) (Av (c.plus p) σ δ) ws ds:=r.map fun v d h=>(h.anti fun b z=>by
  rcases z with (z | z) | z
  ·exact .inl (.inl z)
  ·exact .inr (by rw [z]; exact hp)
  ·exact .inl (.inr z)).keep fun b w e _=>up b w e
 exact ⟨p,rfl,⟨ws,z0p,r1.keys,r1.vals⟩,fun z=>k.nav hp (.inl z),k.fresh₀ hp,k.plus hp _,hp⟩
section
variable {X:Cx} {c:Fc} {e:Expr} {fb:BE} {pos pp:Pos}
theorem z9G:Qg "dict" = some (.type "dict"):=by decide +kernel
theorem z4W (hc:X.calm=true) (hg:Gl X "dict") (hm:X.mg "dict" = none) (he:SB X c e fb) (hs:z4j e=true:=by rfl):SE X c (.Call (.Name "dict" pp) [e] [] pos) (eC1 z2C fb) :=
 z4X (r:=fun v H Q=>∃ p ys kps,v = .ref p∧(H p=some (.tup ys)∨Rd H p (.lst ys))∧z6P H ys kps∧kps.length≤W3∧∀ l,H l=none→Q (.ref l) (upd H l (.dK (z1T kps []))))
  (z5x hc) (fun v H Q ⟨p,ys,kps,e,h⟩=>⟨p,ys,kps,by rw [e],h⟩)
  (fun c σ δ H x d s Q k rx hp q=>by
   cases d with
   | lst ds =>
    simp only [z2C] at hp
    cases hps:z3x ds with
    | none=>rw [hps] at hp; cases hp
    | some ps =>
     rw [hps] at hp
     simp only [WE] at hp
     split at hp
     ·rename_i hz
      cases hp
      obtain ⟨a,vs,ex,ha,r⟩:=rx.lst
      obtain ⟨kps,hP,hD,hL⟩:=z6p hps r
      exact ⟨a,vs,kps,ex,.inr ha,hP,by rw [hL]; exact hz,fun l hl=>q _ _ (.alloc k hl _) (RepS.newDk k hl (DR.puts hD (ws:=[]) (ds:=[]) trivial))⟩
     ·cases hp
   | tup ds =>
    simp only [z2C] at hp
    cases hps:z3x ds with
    | none=>rw [hps] at hp; cases hp
    | some ps =>
     rw [hps] at hp
     simp only [WE] at hp
     split at hp
     ·rename_i hz
      cases hp
      obtain ⟨a,vs,ex,ha,r⟩:=rx.tup
      obtain ⟨kps,hP,hD,hL⟩:=z6p hps r
      exact ⟨a,vs,kps,ex,.inl ha,hP,by rw [hL]; exact hz,fun l hl=>q _ _ (.alloc k hl _) (RepS.newDk k hl (DR.puts hD (ws:=[]) (ds:=[]) trivial))⟩
     ·cases hp
   | _=>simp [z2C] at hp) hg hm z9G he (by decide) (by decide) (z4U hs)
end
theorem z4N (r:RepB c σ δ H v (.dct ds)):∃ a ws,v = .ref a∧H a=some (.dK ws)∧DR H (Av c σ δ) ws ds:=by
 obtain ⟨a,ws,e,h,k1,k2⟩:=r.dct
 exact ⟨a,ws,e,h,DR.of k1 k2⟩
def rInD (neg:Bool):R2:=fun x y H Q=>∃ a kvs k,y = .ref a∧H a=some (.dK kvs)∧x=kV k∧Q (.bl (if neg then !(valV kvs k).isSome else (valV kvs k).isSome)) H
theorem zfz (hu:X.A.units + 64 < WX):OpR X (WA .In) (rInD false):=by
 intro pins s σ H x y v u Q I rx ry h
 obtain ⟨a,kvs,k,rfl,ha,rfl,q⟩:=h
 cases ry
 exact d_in (by omega) I (DGet.k ha) rx fun s' I'=>⟨.bl _,H,I',rfl,q⟩
theorem zaw (hu:X.A.units + 64 < WX):OpR X (WA .NotIn) (rInD true):=by
 intro pins s σ H x y v u Q I rx ry h
 obtain ⟨a,kvs,k,rfl,ha,rfl,q⟩:=h
 cases ry
 exact zeA (by omega) I (DGet.k ha) rx fun s' I'=>⟨.bl _,H,I',rfl,q⟩
def zac (K:W0) (neg:Bool):R2:=fun x y H Q=>rInD neg x y H Q∨rIn K neg x y H Q∨∃ i j,x = .str i∧y = .str j∧Q (.bl (if neg then !(!(J4 j i 0 j.length 1).isEmpty) else !(J4 j i 0 j.length 1).isEmpty)) H
theorem zcc {X:Cx} (hu:X.A.units + 64 < WX):OpR X (WA .In) (zac X.K false):=(zfz hu).or (op_in_seq.or zaB)
theorem z59 {X:Cx} (hu:X.A.units + 64 < WX):OpR X (WA .NotIn) (zac X.K true):=(zaw hu).or (op_notIn_seq.or z79)
def pIn (neg:Bool) (x y:D):Option S:=match y with
 | .dct ds=>(keyD x).map fun k=>.pure (.bl (if neg then !(valD ds k).isSome else (valD ds k).isSome))
 | .str y=>match x with
  | .str [n]=>some (.pure (.bl (if neg then !decide (n ∈ y) else decide (n ∈ y))))
  | _=>none
 | .lst ds=>match x,z3q ds with
  | .str z,some ts=>some (.pure (.bl (if neg then !ts.contains z else ts.contains z)))
  | _,_=>none
 | .tup ds=>match x,z3q ds with
  | .str z,some ts=>some (.pure (.bl (if neg then !ts.contains z else ts.contains z)))
  | _,_=>none
 | _=>none
theorem z7r (z:Tx) (ts:List Tx):inV (V.str (toS z)) (ts.map fun z=>V.str (toS z))=ts.contains z:=by
 unfold inV
 rw [List.any_map]
 induction ts with
 | nil=>rfl
 | cons t r ih =>
  rw [QM,JA,ih]
  congr 1
  show (toS t == toS z)=(z == t)
  rw [z7P,Bool.beq_comm]
theorem z66 (ts:List Tx):(ts.map fun z=>V.str (toS z)).all z6F=true:=by
 rw [List.all_map]
 exact List.all_eq_true.mpr fun _ _=>rfl
theorem z6x {K:W0} (neg:Bool):Op2 (zac K neg) (pIn neg):=by
 intro c σ δ H x y d e s Q k rx ry hp q
 cases e <;> first | (simp [pIn] at hp; done) | skip
 ·rename_i z
  simp only [pIn] at hp
  split at hp <;> first | (cases hp; done) | skip
  rename_i n
  cases hp
  refine .inr (.inr ⟨toS [n],toS z,rx.str,ry.str,?_⟩)
  rw [show toS [n] = ⟨#[n]⟩ from rfl,PySem.StrLaws.found_one,show (toS z).cps.toList=z by simp [toS]]
  exact q _ H (.refl k) (.bl _)
 ·rename_i ds
  simp only [pIn] at hp
  split at hp <;> first | (cases hp; done) | skip
  rename_i z ts ht
  cases hp
  obtain ⟨a,vs,ea,ha,r⟩:=ry.tup
  have ev:=z3o ht r
  refine .inr (.inl ⟨a,vs,ea,.inr (.of ha),by rw [rx.str]; rfl,by rw [ev]; exact z66 ts,?_⟩)
  rw [rx.str,ev,z7r]
  exact q _ H (.refl k) (.bl _)
 ·rename_i ds
  simp only [pIn] at hp
  split at hp <;> first | (cases hp; done) | skip
  rename_i z ts ht
  cases hp
  obtain ⟨a,vs,ea,ha,r⟩:=ry.lst
  have ev:=z3o ht r
  refine .inr (.inl ⟨a,vs,ea,.inl (.inl ha),by rw [rx.str]; rfl,by rw [ev]; exact z66 ts,?_⟩)
  rw [rx.str,ev,z7r]
  exact q _ H (.refl k) (.bl _)
 ·rename_i ds
  simp only [pIn] at hp
  cases hk:keyD d with
  | none=>rw [hk] at hp; cases hp
  | some kk =>
   rw [hk] at hp
   cases hp
   obtain ⟨a,ws,ea,ha,dr⟩:=z4N ry
   refine .inl ⟨a,ws,kOf kk,ea,ha,z3S hk rx,?_⟩
   have:(valV ws (kOf kk)).isSome=(valD ds kk).isSome:=by
    rcases dr.val kk with ⟨e1,e2⟩ | ⟨v,d,e1,e2,_⟩
    ·rw [e1,e2]; rfl
    ·rw [e1,e2]; rfl
   rw [this]
   exact q _ H (.refl k) (.bl _)
def rIxD:R2:=fun x y H Q=>∃ a kvs k v,x = .ref a∧H a=some (.dK kvs)∧y=kV k∧valV kvs k=some v∧Q v H
def pIxX:D→D→Option S
 | .dct ds,k=>(keyD k).bind fun k=>(valD ds k).map .pure
 | x,y=>pIx x y
theorem zek (hu:X.A.units + 64 < WX):IxR X rIxD:=by
 intro value slice pins s σ H x y v u Q I rx ry h hs
 obtain ⟨a,kvs,k,w,rfl,ha,rfl,hv,q⟩:=h
 cases rx
 obtain ⟨_,_,vs,_,dd⟩:=zcG I.hok ha
 have hT:s.TypeIs (.ref a) "dict":=dd.typeIs
 exact tail_any hT F.slot_dict_getitem.lookup (zbj (v:=w) (by omega) I (by rw [← hv]; exact DGet.k ha) ry fun w' s' I' rw'=>⟨w,H,I',rw',q⟩) hs
theorem zaF {K:W0}:Op2 (fun x y H Q=>rIxD x y H Q∨rIx K x y H Q) pIxX:=by
 intro c σ δ H x y d e s Q k rx ry hp q
 cases d with
 | dct ds =>
  simp only [pIxX] at hp
  cases hk:keyD e with
  | none=>rw [hk] at hp; cases hp
  | some kk =>
   rw [hk] at hp
   simp only [WE,Wx] at hp
   obtain ⟨dv,hv,rfl⟩:=hp
   obtain ⟨a,ws,ea,ha,dr⟩:=z4N rx
   rcases dr.val kk with ⟨e1,e2⟩ | ⟨v,d',e1,e2,r⟩
   ·rw [e1] at hv; cases hv
   ·rw [e1] at hv; cases hv
    exact .inl ⟨a,ws,kOf kk,v,ea,ha,z3S hk ry,e2,q v H (.refl k) r⟩
 | _=>exact .inr (z0I c σ δ H x y _ e s Q k rx ry hp q)
end DV
namespace PySem
open Sem (wp)
open AutoSeq1 (wpAny_loadPart')
section
variable {prog:Wj} {w:Wp} {A:Wo} {E:Value→W2→Prop} {s:W2}
theorem z4k {items} (hit:s.heap.IsTupleIter it l i) (hl:s.heap.IsTuple l items) (hx:items[i]? = some x)
  (hQ:∀ h',h'.IsTupleIter it l (i + 1)→Heap.SameBut it s.heap h'→Q x { s with heap:=h' }):W9 (model prog w) A (QV (.ref it)) Q E s:=by
 obtain ⟨o,ho,hc,hd⟩:=id hit
 obtain ⟨ol,hol,_,nl,hdl⟩:=hl
 unfold QV
 refine W1 (QA (name:=Str.ofString "__next__") hit.typeIs QN
  (Jm QN hit.typeIs F.entry_tuple_iterator_next ?_ (F.args_tuple_iterator_next_1 _)))
 show W9 _ _ (field (.ref it) 0 >>= _) _ _ s
 refine W1 (QE ho hd (x:=.ref l) rfl ?_)
 show W9 _ _ (if (Value.ref l == Value.none)=true then _ else _) _ _ s
 rw [if_neg (show ¬ ((Value.ref l == Value.none)=true) from WP)]
 show W9 _ _ (field (.ref it) 1 >>= _) _ _ s
 refine W1 (QE ho hd (x:=.int i 0) rfl ?_)
 show W9 _ _ (seqItems? (.ref l) >>= _) _ _ s
 refine W1 (JG hol hdl ?_)
 simp only [Int.toNat_natCast,hx]
 refine W1 (wpAny_setField ho hd (by simp) (W8 ⟨x,rfl,W8 (hQ _ ?_ (Heap.SameBut.update ..))⟩))
 exact ⟨_,QK _ ho (Obj.isFreed_of_fields (Obj.data_mapFields hd _)),(Obj.cls_mapFields ..).trans hc,by
  rw [Obj.data_mapFields hd]; simp [rawInt]⟩
theorem z4F {items} (hh:A.handled=none) (hit:s.heap.IsTupleIter it l i) (hl:s.heap.IsTuple l items) (hx:items[i]? = none)
  (hE:∀ h' e,Heap.ExtBut it s.heap h'→(∃ o,h'.get? e=some o∧o.cls = .type "StopIteration")→E (.ref e) { s with heap:=h' }):W9 (model prog w) A (QV (.ref it)) Q E s:=by
 obtain ⟨o,ho,hc,hd⟩:=id hit
 obtain ⟨ol,hol,_,nl,hdl⟩:=hl
 unfold QV
 refine W1 (QA (name:=Str.ofString "__next__") hit.typeIs QN
  (Jm QN hit.typeIs F.entry_tuple_iterator_next ?_ (F.args_tuple_iterator_next_1 _)))
 show W9 _ _ (field (.ref it) 0 >>= _) _ _ s
 refine W1 (QE ho hd (x:=.ref l) rfl ?_)
 show W9 _ _ (if (Value.ref l == Value.none)=true then _ else _) _ _ s
 rw [if_neg (show ¬ ((Value.ref l == Value.none)=true) from WP)]
 show W9 _ _ (field (.ref it) 1 >>= _) _ _ s
 refine W1 (QE ho hd (x:=.int i 0) rfl ?_)
 show W9 _ _ (seqItems? (.ref l) >>= _) _ _ s
 refine W1 (JG hol hdl ?_)
 simp only [Int.toNat_natCast,hx]
 refine W1 (JE (W1 (wpAny_setField ho hd (by simp) ?_)))
 show W9 _ _ (newExc (.type "StopIteration") [] >>= _) _ _ _
 refine W1 ?_
 simp only [newExc,newTuple]
 refine W1 (WN ?_ (by size_fits))
 refine W1 (m:=firstArgMember _ _) (wpAny_of_eq (a:=Value.none) (by first | rfl | (simp only [firstArgMember]; rfl)) ?_)
 refine WN ?_ (by size_fits)
 simp only [raiseNew]
 refine W1 (wpAny_handled ?_)
 first | rw [show A.in1.handled=none from hh] | rw [hh]
 refine W1 (W8 (wpAny_throw ?_))
 exact hE _ _ (((Heap.SameBut.update ..).extBut.push _).push _) ⟨_,Wq _ rfl,rfl⟩
end
theorem IsTuple.at' {h h':Heap} {l:Addr} {items:Array Value} (x:h.IsTuple l items) (k:∀ o,h.get? l=some o→h'.get? l=some o):h'.IsTuple l items:=by
 obtain ⟨o,ho,r⟩:=x
 exact ⟨o,k o ho,r⟩
theorem Draws.tuple' {prog:Wj} {w:Wp} {A:Wo} (hh:A.handled=none) (it l:Addr) (hne:l≠it) (items:Array Value) :
  Draws prog w A it [it,l] items.size (fun i v=>items[i]? = some v) (fun i h=>h.IsTupleIter it l i∧h.IsTuple l items) where
 live:=fun _ _ st=>let ⟨o,ho,_⟩:=st.1; ⟨o,ho⟩
 frame:=fun _ _ _ st hk=>⟨st.1.at fun o e=>hk it (by simp) o e,IsTuple.at' st.2 fun o e=>hk l (by simp) o e⟩
 item:=fun i s Q E hi st hQ=>by
  refine z4k st.1 st.2 (x:=items[i]) (by simp [hi]) fun h' hit' hs'=>?_
  exact hQ _ h' s.toks (by simp [hi]) ⟨hit',IsTuple.at' st.2 fun o e=>(hs'.2 l hne).trans e⟩ hs'
 done:=fun s Q E st hE=>z4F hh st.1 st.2 (by simp) hE
theorem z3s (l:Addr) (items:Array Value) (n:Nat) (dct:Option Addr) (sl:Array (Option Value)) :
  Meets (Builtin.«enumerate.__new__» ⟨[.type "enumerate",.ref l],[]⟩) (fun _ R s=>s.heap.get? l=some { cls:=.type "tuple",dict:=dct,data:=.seq items n,slots:=sl } ∧
   R (.ok (.ret (.ref (s.heap.push { cls:=.type "tuple_iterator",data:=.fields #[.ref l,.int 0 0] }).objs.size)))
    { s with heap:=(s.heap.push { cls:=.type "tuple_iterator",data:=.fields #[.ref l,.int 0 0] }).push { cls:=.type "enumerate",data:=.fields #[.none,.bool false,.ref s.heap.objs.size,rawInt 0,.none,.none] } }) :=
 .of_wp fun prog w A R s h=>by
  obtain ⟨hp,g,d,tk,os⟩:=s; obtain ⟨hl,h⟩:=h
  have hsub:=sub_enumerate
  have hL:Heap.IsTuple (Shared.heap ⟨hp,g,d,tk,os⟩) l items:=⟨_,hl,rfl,n,rfl⟩
  wp_walk using Q5 hl
  refine wpAny_stack_any fun st=>W8 ?_
  split
  ·rename_i c _ _ _ _ _
   cases (c == Value.type "enumerate")
   ·wp_walk using Q5 hl,Jc hL
    exact ⟨_,rfl,h⟩
   ·wp_walk using Q5 hl,Jc hL
    exact ⟨_,rfl,h⟩
  ·wp_walk using Q5 hl,Jc hL
   exact ⟨_,rfl,h⟩
theorem z3g (hL:s.heap.IsTuple l items)
  (h:∀ h',IsEnum h' (s.heap.objs.size + 1) s.heap.objs.size 0 .none→h'.IsTupleIter s.heap.objs.size l 0→h'.objs.size=s.heap.objs.size + 2 →
   (∀ b o,s.heap.get? b=some o→h'.get? b=some o)→Q (.ref (s.heap.objs.size + 1)) { s with heap:=h' }) :
  W9 (model prog w) A (call (.type "enumerate") [.ref l]) Q E s:=by
 obtain ⟨⟨c,dct,dt,sl⟩,hl,hc,n,hd⟩:=hL
 replace hc:c = .type "tuple":=hc
 replace hd:dt = .seq items n:=hd
 subst hc hd
 refine callType_new F.called_enumerate (by decide) (F.typeCall_enumerate_1 _) (F.newCall_enumerate_1 _) (fun obj=>F.args_object_init_2 obj _) F.entry_enumerate_new
  (z3s l items n dct sl) ⟨hl,?_⟩
 have hz:(s.heap.push { cls:=.type "tuple_iterator",data:=.fields #[.ref l,.int 0 0] }).objs.size=s.heap.objs.size + 1:=Ji ..
 show _∧_
 rw [hz]
 have he:IsEnum ((s.heap.push { cls:=.type "tuple_iterator",data:=.fields #[.ref l,.int 0 0] }).push
   { cls:=.type "enumerate",data:=.fields #[.none,.bool false,.ref s.heap.objs.size,rawInt 0,.none,.none] }) (s.heap.objs.size + 1) s.heap.objs.size 0 .none:=by
  have:=Wq (s.heap.push { cls:=.type "tuple_iterator",data:=.fields #[.ref l,.int 0 0] })
   (o:={ cls:=.type "enumerate",data:=.fields #[.none,.bool false,.ref s.heap.objs.size,rawInt 0,.none,.none] }) rfl
  rw [hz] at this; exact this
 refine ⟨⟨_,he,rfl⟩,h _ he ⟨_,W5 _ (Wq _ rfl),rfl,rfl⟩ (by rw [Ji,hz]) fun b o x=>W5 _ (W5 _ x)⟩
end PySem
namespace L2
open PySem PySem.Spec PyProof.Rows
section
variable {X:Cx} {pins:List (Addr×Obj)} {σ:St} {H:Hp} {s:W2} {h':Heap}
theorem Inv.turnedL (fp:List Addr) (I:Inv X pins σ H s) (k:∀ b o,b ∉ fp→s.heap.get? b=some o→h'.get? b=some o) (hf:∀ b ∈ fp,FpOk X pins H b):Inv X pins σ H { s with heap:=h',toks:=t' }:=by
 have nit:∀ b u,H b=some u→b ∉ fp:=fun b u e z=>by rw [(hf b z).1] at e; cases e
 refine I.step (g':=s.gens) (d':=s.drawn) (ch:=fp) (fun b hb=>?_) (fun b o _ _ hc e _=>k b o hc e) (fun b o _ _ hc e _=>⟨o.slots,k b o hc e⟩) (fun _ _ _ _ n=>n)
  (fun b o hc e=>⟨o,k b o hc e⟩) (fun _ _ e=>e) (fun _ _ _ e=>e) (fun b ps e=>⟨#[],by rw [e]; simp⟩) (fun m hm=>?_) (fun b u e=>?_) I.bare
 ·obtain ⟨f0,f1,f2,f3,f4,f5⟩:=hf b hb
  exact ⟨f3,f1,f4,f5⟩
 ·obtain ⟨o,es,ep,ho,r⟩:=hm
  exact ⟨o,es,ep,k _ o (fun z=>(hf _ z).2.1 rfl) ho,r⟩
 ·refine (I.hok b u e).stay (fun c v hc q=>k c v ?_ q) (fun _ q=>q) fun _ _ q=>q
  rcases hc with z | z
  ·rw [z]; exact nit b u e
  ·exact nit c _ z
theorem Inv.pairLaid (I:Inv X pins σ H s) (hf:∀ b ∈ [e,it],FpOk X pins H b) (hlt:∀ b ∈ [e,it],b < s.heap.objs.size) (ru:RelV y u)
  (hT:h'.get? s.heap.objs.size=some { cls:=.type "tuple",data:=.seq #[.int i tk,u] }) (k:∀ b o,b≠e→b≠it→s.heap.get? b=some o→h'.get? b=some o) :
  Inv X pins σ (upd H s.heap.objs.size (.tup [.int i,y])) { s with heap:=h',toks:=t' }:=by
 have I1:Inv X pins σ (upd H s.heap.objs.size (.tup [.int i,y])) { s with heap:=s.heap.push { cls:=.type "tuple",data:=.seq #[.int i tk,u] },toks:=t' } :=
  I.laid (t':=t') (fun b o e=>W5 _ e) (Wc _) (show ObjOk X.prog X.w _ _ _ (.tup [.int i,y]) from
   ⟨by simp only [WM,JS]; rw [JK]; decide,[.int i tk,u],.cons ⟨_,rfl⟩ (.cons ru .nil),IsTupN.new _ _⟩)
 have:=Inv.turnedL (t':=t') (h':=h') [e,it] I1 (fun b o hb eb=>?_) fun b hb=>?_
 ·exact this
 ·have he:b≠e:=fun z=>hb (by simp [z])
  have hi:b≠it:=fun z=>hb (by simp [z])
  rcases Heap.get?_push_cases eb with ⟨z,z'⟩ | eb
  ·subst z z'
   exact hT
  ·exact k b o he hi eb
 ·obtain ⟨f0,r⟩:=hf b hb
  refine ⟨?_,r⟩
  have hl:=hlt b hb
  rw [z0d (Ws hl)]
  exact f0
def IteL (K:W0) (a:Addr):It :=
 ⟨(Itl K a).go,fun i H x H'=>∃ p y,H p=none∧(∀ xs,SqL K H a xs→xs[i]? = some y)∧H'=upd H p (.tup [.int i,y])∧x = .ref p,fun i H=>∃ xs,SqL K H a xs∧xs.length=i⟩
def IteT (K:W0) (a:Addr):It :=
 ⟨(Itt K a).go,fun i H x H'=>∃ p y,H p=none∧(∀ xs,SqT K H a xs→xs[i]? = some y)∧H'=upd H p (.tup [.int i,y])∧x = .ref p,fun i H=>∃ xs,SqT K H a xs∧xs.length=i⟩
theorem z9g {P:Wj} {w:Wp} {K:W0} {elts:List Expr} {ctx} {pos:Pos} (a e it:Addr) (hei:e≠it) (hae:a≠e) (hai:a≠it):Turn P w K (.Tuple elts ctx pos) (IteL K a) [e,it] e (fun i h=>(∃ old,IsEnum h e it i old)∧h.IsListIter it a i) where
 mem:=by simp
 obj:=fun i h st b hb=>by
  obtain ⟨⟨old,he⟩,hi⟩:=st
  have hb:b=e∨b=it:=by simpa using hb
  rcases hb with z | z
  ·subst z
   exact ⟨_,he,fun v z=>by
    have z':Data.fields _=Data.cell v:=z
    cases z'⟩
  ·subst z
   obtain ⟨o,e,c,d⟩:=hi
   exact ⟨o,e,fun v z=>by rw [d] at z; cases z⟩
 keep:=fun i h h' st k=>⟨let ⟨old,he⟩:=st.1; ⟨old,k e (by simp) _ he⟩,st.2.at fun o q=>k it (by simp) o q⟩
 item:=by
  intro X hP hw hK hc i pins s σ H E I hf st hg
  subst hP hw hK
  obtain ⟨xs,x,hq,hx⟩:=hg
  obtain ⟨its,rv,p,hz⟩:=I.list hq
  obtain ⟨u,hu,ru⟩:=rv.get hx
  obtain ⟨⟨old,he⟩,hi⟩:=st
  have hL:s.heap.IsList a its.toArray:=p.isList
  have D:=Draws.list (prog:=X.prog) (w:=X.w) (A:=X.A.in1) (I.ok.hd hc) it a hai its.toArray
  have hilt:i < its.length:=(Wb.mp hu).1
  have hlt:∀ b ∈ [e,it],b < s.heap.objs.size:=fun b hb=>by
   have hb:b=e∨b=it:=by simpa using hb
   rcases hb with z | z
   ·subst z; exact Wg he
   ·subst z; obtain ⟨o,q,_⟩:=hi; exact Wg q
  refine wpAny_pyNext_enum_itemD D he ⟨hi,hL⟩ (by simpa using hilt) hei (by simp [hei,Ne.symm hae]) fun x' h' tk hP ho hs' hT hsz hk=>?_
  have ex:x'=u:=by
   have:its.toArray[i]? = some x':=hP
   rw [List.getElem?_toArray,hu] at this
   cases this
   rfl
  subst ex
  refine ⟨_,rfl,wpAny_letOwnedTupleGo_enum ho fun h2 he2 sb=>?_⟩
  have k2:∀ b o,b≠e→b≠it→s.heap.get? b=some o→h2.get? b=some o:=fun b o q1 q2 q=>(sb.2 b q1).trans (hk b o q1 q2 q)
  have hT2:h2.get? s.heap.objs.size=some { cls:=.type "tuple",data:=.seq #[.int i tk,x'] }:=(sb.2 _ (Nat.ne_of_gt (hlt e (by simp)))).trans hT
  have I2:Inv X pins σ (upd H s.heap.objs.size (.tup [.int i,x])) { s with heap:=h2,toks:=tk + 1 }:=Inv.pairLaid (t':=tk + 1) I hf hlt ru hT2 k2
  refine ⟨.ref s.heap.objs.size,_,I2,rfl,⟨s.heap.objs.size,x,I.hok.fresh (Wc _),fun ys hy=>by rw [I.list_inj hy hq]; exact hx,rfl,rfl⟩,⟨⟨x',by simpa using he2⟩,hs'.1.at fun o q=>(sb.2 it (Ne.symm hei)).trans q⟩,fun b hb=>?_⟩
  rw [z0d (Ws (hlt b hb))]
  exact (hf b hb).1
 done:=by
  intro X hP hw hK hc i pins s σ H E I hf st hg
  subst hP hw hK
  obtain ⟨xs,hq,hx⟩:=hg
  obtain ⟨its,rv,p,hz⟩:=I.list hq
  obtain ⟨⟨old,he⟩,hi⟩:=st
  have hL:s.heap.IsList a its.toArray:=p.isList
  have hl:=rv.length
  have D:=Draws.list (prog:=X.prog) (w:=X.w) (A:=X.A.in1) (I.ok.hd hc) it a hai its.toArray
  have hn:its.toArray.size=i:=by simp; omega
  obtain ⟨f0,f1,f2,f3,f4,f5⟩:=hf it (by simp)
  exact wpAny_pyNext_enum_endD D he ⟨by rw [hn]; exact hi,hL⟩ fun h' eb=>⟨rfl,I.turned (t':=s.toks) (fun b o hb q=>eb b o hb q) f0 f1 f3 f4 f5⟩
 self:=fun _ _ _ _ _ st h=>by
  obtain ⟨⟨old,he⟩,_⟩:=st
  exact QR he h
theorem z9e {P:Wj} {w:Wp} {K:W0} {elts:List Expr} {ctx} {pos:Pos} (a e it:Addr) (hei:e≠it) (hae:a≠e) (hai:a≠it):Turn P w K (.Tuple elts ctx pos) (IteT K a) [e,it] e (fun i h=>(∃ old,IsEnum h e it i old)∧h.IsTupleIter it a i) where
 mem:=by simp
 obj:=fun i h st b hb=>by
  obtain ⟨⟨old,he⟩,hi⟩:=st
  have hb:b=e∨b=it:=by simpa using hb
  rcases hb with z | z
  ·subst z
   exact ⟨_,he,fun v z=>by
    have z':Data.fields _=Data.cell v:=z
    cases z'⟩
  ·subst z
   obtain ⟨o,e,c,d⟩:=hi
   exact ⟨o,e,fun v z=>by rw [d] at z; cases z⟩
 keep:=fun i h h' st k=>⟨let ⟨old,he⟩:=st.1; ⟨old,k e (by simp) _ he⟩,st.2.at fun o q=>k it (by simp) o q⟩
 item:=by
  intro X hP hw hK hc i pins s σ H E I hf st hg
  subst hP hw hK
  obtain ⟨xs,x,hq,hx⟩:=hg
  obtain ⟨its,rv,p,hz⟩:=I.tuple hq
  obtain ⟨u,hu,ru⟩:=rv.get hx
  obtain ⟨⟨old,he⟩,hi⟩:=st
  have hL:s.heap.IsTuple a its.toArray:=p
  have D:=Draws.tuple' (prog:=X.prog) (w:=X.w) (A:=X.A.in1) (I.ok.hd hc) it a hai its.toArray
  have hilt:i < its.length:=(Wb.mp hu).1
  have hlt:∀ b ∈ [e,it],b < s.heap.objs.size:=fun b hb=>by
   have hb:b=e∨b=it:=by simpa using hb
   rcases hb with z | z
   ·subst z; exact Wg he
   ·subst z; obtain ⟨o,q,_⟩:=hi; exact Wg q
  refine wpAny_pyNext_enum_itemD D he ⟨hi,hL⟩ (by simpa using hilt) hei (by simp [hei,Ne.symm hae]) fun x' h' tk hP ho hs' hT hsz hk=>?_
  have ex:x'=u:=by
   have:its.toArray[i]? = some x':=hP
   rw [List.getElem?_toArray,hu] at this
   cases this
   rfl
  subst ex
  refine ⟨_,rfl,wpAny_letOwnedTupleGo_enum ho fun h2 he2 sb=>?_⟩
  have k2:∀ b o,b≠e→b≠it→s.heap.get? b=some o→h2.get? b=some o:=fun b o q1 q2 q=>(sb.2 b q1).trans (hk b o q1 q2 q)
  have hT2:h2.get? s.heap.objs.size=some { cls:=.type "tuple",data:=.seq #[.int i tk,x'] }:=(sb.2 _ (Nat.ne_of_gt (hlt e (by simp)))).trans hT
  have I2:Inv X pins σ (upd H s.heap.objs.size (.tup [.int i,x])) { s with heap:=h2,toks:=tk + 1 }:=Inv.pairLaid (t':=tk + 1) I hf hlt ru hT2 k2
  refine ⟨.ref s.heap.objs.size,_,I2,rfl,⟨s.heap.objs.size,x,I.hok.fresh (Wc _),fun ys hy=>by rw [I.tuple_inj hy hq]; exact hx,rfl,rfl⟩,⟨⟨x',by simpa using he2⟩,hs'.1.at fun o q=>(sb.2 it (Ne.symm hei)).trans q⟩,fun b hb=>?_⟩
  rw [z0d (Ws (hlt b hb))]
  exact (hf b hb).1
 done:=by
  intro X hP hw hK hc i pins s σ H E I hf st hg
  subst hP hw hK
  obtain ⟨xs,hq,hx⟩:=hg
  obtain ⟨its,rv,p,hz⟩:=I.tuple hq
  obtain ⟨⟨old,he⟩,hi⟩:=st
  have hL:s.heap.IsTuple a its.toArray:=p
  have hl:=rv.length
  have D:=Draws.tuple' (prog:=X.prog) (w:=X.w) (A:=X.A.in1) (I.ok.hd hc) it a hai its.toArray
  have hn:its.toArray.size=i:=by simp; omega
  obtain ⟨f0,f1,f2,f3,f4,f5⟩:=hf it (by simp)
  exact wpAny_pyNext_enum_endD D he ⟨by rw [hn]; exact hi,hL⟩ fun h' eb=>⟨rfl,I.turned (t':=s.toks) (fun b o hb q=>eb b o hb q) f0 f1 f3 f4 f5⟩
 self:=fun _ _ _ _ _ st h=>by
  obtain ⟨⟨old,he⟩,_⟩:=st
  exact QR he h
end
end L2
namespace DV
open PySem PySem.Spec PyProof.Rows L2
section
variable {X:Cx} {c:Fc} {tg e:Expr} {fe:DE} {pos pp:Pos}
def zg1 (K:W0) (ta:TA):TI:=fun σ H R=>ta σ H fun vs H1=>(∃ a,vs=[.ref a]∧(∃ xs,SqL K H1 a xs)∧R (IteL K a) H1)∨(∃ a,vs=[.ref a]∧(∃ xs,SqT K H1 a xs)∧R (IteT K a) H1)
theorem ze0 {ctx} (hg:Gl X "enumerate") (hm:X.mg "enumerate" = none) (ha:PA X [a] ta) (hs:W7 [a] X.env=[(false,eval a X.env)]:=by rfl):PI X (.Tuple elts ctx tp) (.Call (.Name "enumerate" pp) [a] [] pos) (zg1 X.K ta):=by
 intro pins s σ H R I h
 refine Call_ (z64 I hg hm boot_enumerate (QF (thn (ha pos pins s σ H _ I h) fun us s1 ⟨vs,H1,I1,r1,q1⟩=>?_) hs rfl))
 rcases q1 with ⟨a,ev,⟨xs,hq⟩,q⟩ | ⟨a,ev,⟨xs,hq⟩,q⟩
 ·subst ev
  cases r1 with
  | cons r rr =>
   cases rr
   cases r
   obtain ⟨its,rv,p,hz⟩:=I1.list hq
   have hL:s1.heap.IsList a its.toArray:=p.isList
   have hlt:a < s1.heap.objs.size:=by obtain ⟨o,q,_⟩:=hL; exact Wg q
   refine call_enumerate_list hL fun h' he hi hsz kp=>QR he ?_
   refine ⟨s1.heap.objs.size + 1,[s1.heap.objs.size + 1,s1.heap.objs.size],_,_,H1,rfl,I1.kept (t':=s1.toks) kp,z9g a _ _ (JO _) (Ws (QQ hlt)) (Ws hlt),⟨⟨_,he⟩,hi⟩,fun b hb=>?_,q⟩
   have hb:b=s1.heap.objs.size + 1∨b=s1.heap.objs.size:=by simpa using hb
   have hle:s1.heap.objs.size≤b:=by rcases hb with z | z <;> subst z <;> first | exact Wc _ | exact Nat.le_succ _
   exact I1.fpOk hle (I1.hok.fresh hle)
 ·subst ev
  cases r1 with
  | cons r rr =>
   cases rr
   cases r
   obtain ⟨its,rv,p,hz⟩:=I1.tuple hq
   have hL:s1.heap.IsTuple a its.toArray:=p
   have hlt:a < s1.heap.objs.size:=by obtain ⟨o,q,_⟩:=hL; exact Wg q
   refine z3g hL fun h' he hi hsz kp=>QR he ?_
   refine ⟨s1.heap.objs.size + 1,[s1.heap.objs.size + 1,s1.heap.objs.size],_,_,H1,rfl,I1.kept (t':=s1.toks) kp,z9e a _ _ (JO _) (Ws (QQ hlt)) (Ws hlt),⟨⟨_,he⟩,hi⟩,fun b hb=>?_,q⟩
   have hb:b=s1.heap.objs.size + 1∨b=s1.heap.objs.size:=by simpa using hb
   have hle:s1.heap.objs.size≤b:=by rcases hb with z | z <;> subst z <;> first | exact Wc _ | exact Nat.le_succ _
   exact I1.fpOk hle (I1.hok.fresh hle)
def z3u (ds:List D):List D:=ds.mapIdx fun i d=>D.tup [.int (i:Nat),d]
theorem z5s {ds:List D} {i:Nat} {d:D} (h:(z3u ds)[i]? = some d):∃ d',ds[i]? = some d'∧d = .tup [.int i,d']:=by
 unfold z3u at h
 rw [List.getElem?_mapIdx] at h
 cases e:ds[i]? with
 | none=>rw [e] at h; cases h
 | some d' =>
  rw [e] at h
  cases h
  exact ⟨d',rfl,rfl⟩
theorem Reps.pair (r:Rep H O v d):Reps H O [.int i,v] [.int i,d]:=by
 refine ⟨rfl,fun j v' d' e1 e2=>?_⟩
 match j with
 | 0=>simp at e1 e2; subst e1 e2; exact .int _
 | 1=>simp at e1 e2; subst e1 e2; exact r
 | j + 2=>simp at e1
def z9y (f:DE):DI:=fun δ=>(f δ).bind fun r δ1=>match r.d with
 | .lst ds=>.ok (z3u ds) δ1
 | .tup ds=>.ok (z3u ds) δ1
 | _=>.stuck
theorem z9Z {elts:List Expr} {ctx} {tp:Pos} (hg:Gl X "enumerate") (hm:X.mg "enumerate" = none) (he:SE X c e fe) (hs:W7 [e] X.env=[(false,eval e X.env)]:=by rfl):SI X c (.Tuple elts ctx tp) (.Call (.Name "enumerate" pp) [e] [] pos) (z9y fe) :=
 PI.weak (ze0 hg hm (z0T he z25 hs) hs) fun σ H R ⟨δ,k,q⟩=>by
  unfold z9y at q
  rw [z03] at q
  refine ⟨δ,k,z01 q fun r δ1 q1 v H1 a1 r1=>?_⟩
  have rr:=r1.rep
  generalize r.d=d at q1 rr
  cases d <;> first | exact q1.elim | skip
  ·cases rr with
   | tup h1 h2 h3 h4 =>
    rename_i a vs
    refine .inr ⟨_,rfl,⟨_,.of h2⟩,q1 _ H1 a1 ?_⟩
    intro H2 kp
    have h5:=kp _ _ h2 fun z=>h1 (.inr z)
    have r':Reps H1 (Av c σ δ1) vs _:=⟨h3,h4⟩
    refine ⟨⟨vs,.of h5,by rw [r'.1]; simp [z3u]⟩,fun i d e=>?_⟩
    obtain ⟨d',e',rfl⟩:=z5s e
    obtain ⟨v,ev,rv⟩:=r'.get e'
    refine ⟨⟨vs,v,.of h5,ev⟩,fun x H3 ⟨p,y,hp,hy,e3,ex⟩=>.inr ⟨p,_,_,hp,e3,ex,rfl,?_⟩⟩
    have:=hy vs (.of h5)
    rw [ev] at this
    cases this
    exact Reps.pair rv
  ·cases rr with
   | lst h1 h2 h3 h4 =>
    rename_i a vs
    refine .inl ⟨_,rfl,⟨_,.inl h2⟩,q1 _ H1 a1 ?_⟩
    intro H2 kp
    have h5:Rd H2 a (.lst vs):=Rd.keep h2 fun o e=>kp a o e fun z=>h1 (.inr z)
    have r':Reps H1 (Av c σ δ1) vs _:=⟨h3,h4⟩
    refine ⟨⟨vs,.inl h5,by rw [r'.1]; simp [z3u]⟩,fun i d e=>?_⟩
    obtain ⟨d',e',rfl⟩:=z5s e
    obtain ⟨v,ev,rv⟩:=r'.get e'
    refine ⟨⟨vs,v,.inl h5,ev⟩,fun x H3 ⟨p,y,hp,hy,e3,ex⟩=>.inr ⟨p,_,_,hp,e3,ex,rfl,?_⟩⟩
    have:=hy vs (.inl h5)
    rw [ev] at this
    cases this
    exact Reps.pair rv
end
end DV
namespace HT
open PySem PySem.Spec PyProof.Rows
section
variable {prog:Wj} {w:Wp} {A:Wo} {E:Value→W2→Prop} {s:W2}
theorem z9H (n:Nat):Qe none none (-1) (n:Int)=((n:Int) - 1,-1):=by
 unfold Qe
 simp
theorem z9p (n:Nat):WO ((n:Int) - 1) (-1) (-1)=n:=by
 unfold WO
 simp
 try omega
theorem z4A {sl:Addr} {t:Tok} {n:Nat} {Q:Int×Int×Nat→W2→Prop} (hs:s.heap.IsSliceOf sl .none .none (.int (-1) t))
  (h:Q ((n:Int) - 1,-1,n) s):W9 (model prog w) A (QL (.ref sl) (pure (n:Int))) Q E s:=by
 obtain ⟨os,hos,hcs,hds⟩:=id hs
 unfold QL Builtin.Slice.sliceFields
 refine W1 (W1 (QE hos hds (x:=.none) rfl (W1 (QE hos hds (x:=.none) rfl (W1 (QE hos hds (x:=.int (-1) t) rfl (W8 ?_)))))))
 refine W1 (slicePart_int ?_)
 show W9 _ _ (if ((-1:Int) == 0)=true then _ else _) _ _ s
 rw [if_neg (by decide)]
 refine W1 (slicePart_none (W1 (slicePart_none (W1 (W8 ?_)))))
 show W9 _ _ (match Qe none none (-1) (n:Int) with | (lo,hi)=>pure (lo,(-1:Int),WO lo hi (-1))) _ _ s
 rw [z9H n]
 show W9 _ _ (pure ((n:Int) - 1,(-1:Int),WO ((n:Int) - 1) (-1) (-1))) _ _ s
 rw [z9p]
 exact W8 h
theorem z8Z:∀ {l:List α},(∀ x ∈ l,f x=g x)→l.filterMap f=l.filterMap g
 | [],_=>rfl
 | x :: l,h=>by
  rw [J1,J1,h x (by simp),z8Z fun y hy=>h y (by simp [hy])]
theorem zc2 (xs:Array Value):((Wa xs.size).filterMap fun (m:Nat)=>xs[(((xs.size:Int) - 1) + (m:Int) * -1).toNat]?).toArray=xs.toList.reverse.toArray:=by
 have e:((Wa xs.size).filterMap fun (m:Nat)=>xs[(((xs.size:Int) - 1) + (m:Int) * -1).toNat]?)=((Wa xs.size).map fun k=>xs.size - 1 - k).filterMap (xs[·]?):=by
  rw [List.filterMap_map]
  refine z8Z fun m hm=>?_
  have:(((xs.size:Int) - 1) + (m:Int) * -1).toNat=xs.size - 1 - m:=by
   have:=Qk.mp hm
   omega
  simp only [this,Function.comp]
 rw [e,PySem.W.krv_range,List.filterMap_reverse,PySem.W.krv_all]
theorem getItem_tuple_rev (ht:IsTup s.heap t items) (hs:s.heap.IsSliceOf sl .none .none (.int (-1) tk))
  (h:Q (.ref s.heap.objs.size) { s with heap:=s.heap.push { cls:=.type "tuple",data:=.seq items.toList.reverse.toArray } })
  (hsz:items.size≤W3):W9 (model prog w) A (Jp (.ref t) (.ref sl)) Q E s:=by
 have htake:sizeOk (.seq items.toList.reverse.toArray):=by
  show items.toList.reverse.toArray.size≤W3
  simpa using hsz
 obtain ⟨os,hos,hcs,hds⟩:=id hs
 have hTs:s.TypeIs (.ref sl) "slice":=⟨os,hos,hcs⟩
 unfold Jp
 try with_reducible refine Q3 ?_
 first | refine W1 (W8 ?_) | skip
 refine W1 (wpAny_sequenceKey ht.typeIs (by decide) ?_)
 refine W1 (QA (name:=Str.ofString "__getitem__") ht.typeIs WU
  (Jm WU ht.typeIs entry_tuple_getitem ?_ (args_tuple_getitem _ _)))
 show W9 _ _ (Builtin.Tuple.tupleItemsOf (.ref t) >>= _) _ _ s
 refine W1 (tupleItemsOf_ ht ?_)
 refine W1 (J0 hTs ?_)
 rw [if_pos (by decide)]
 refine W1 (z4A hs ?_)
 have hno:¬ ((((items.size:Int) - 1) == 0 && (-1:Int) == 1 && items.size == items.size)=true):=by
  intro q
  rw [Wi,Wi] at q
  exact absurd q.1.2 (by decide)
 show W9 _ _ (if (((items.size:Int) - 1) == 0 && (-1:Int) == 1 && items.size == items.size)=true then _ else _) _ _ s
 rw [if_neg hno,zc2]
 first
  | exact W1 (m:=WR _) (WN (W8 ⟨_,rfl,W8 h⟩) htake)
  | exact W1 (m:=WR _) (WN (W1 (W8 (W8 ⟨_,rfl,W8 h⟩))) htake)
  | exact W1 (W1 (m:=WR _) (WN (W8 (W8 ⟨_,rfl,W8 h⟩)) htake))
  | exact W1 (W1 (m:=WR _) (WN (W8 ⟨_,rfl,W8 h⟩) htake))
end
end HT
namespace DV
open PySem PySem.Spec PyProof.Rows L2
theorem rv_tup:RvR X (fun x H Q=>∃ a xs,x = .ref a∧SqT X.K H a xs∧∀ p,H p=none→Q (.ref p) (upd H p (.tup xs.reverse))):=by
 intro pins s σ H x v t sl Q I rx hs h
 obtain ⟨a,xs,rfl,hx,q⟩:=h
 cases rx
 obtain ⟨its,r,ht,hz⟩:=I.tuple hx
 have hlen:=r.length
 refine ⟨"tuple",_,PyProof.Rows.slot_tuple_getitem.lookup,ht.typeIs,?_⟩
 refine HT.getItem_tuple_rev ht hs ?_ (by rw [Wk]; omega)
 refine ⟨.ref s.heap.objs.size,_,I.laid (t':=s.toks) (o:=.tup xs.reverse) (fun b ob q=>W5 _ q) (Wc _) ?_,rfl,q _ (I.hok.fresh (Wc _))⟩
 exact ⟨by rw [Js]; exact hz,_,r.reverse,IsTupN.new _ _⟩
section
variable {X:Cx} {c:Fc} {e:Expr} {fb:BE} {pos p2:Pos}
def z82:D→Option S
 | .tup ds=>some (.pure (.tup ds.reverse))
 | d=>pRev d
def rRevX (K:W0):V→Hp→VK→Prop:=fun x H Q=>(∃ a xs,x = .ref a∧SqT K H a xs∧∀ p,H p=none→Q (.ref p) (upd H p (.tup xs.reverse)))∨rRev K x H Q
theorem zdy {st:Expr} (he:SB X c e fb) (hst:PE X st (tC (.int (-1)))):SE X c (.Subscript e (.Slice none none (some st) p2) pos) (eC1 z82 fb) :=
 PE.weak (zfp (r:=rRevX X.K) (rv_tup.or (rv_str.or zdE)) he hst) fun σ H Q h=>z3z (fun c σ δ H x d s Q k rx hp q=>by
  cases d with
  | tup ds =>
   simp only [z82,W6] at hp
   subst hp
   obtain ⟨a,vs,ea,ha,ra⟩:=rx.tup
   exact .inl ⟨a,vs,ea,.of ha,fun p hp=>q _ _ (.alloc k hp _) (RepS.newT k ra.reverse hp)⟩
  | str z =>
   simp only [z82,pRev] at hp
   split at hp
   ·rename_i hz
    simp only [W6] at hp
    subst hp
    exact .inr (.inl ⟨z,rx.str,hz,q _ H (.refl k) (.str _)⟩)
   ·cases hp
  | lst ds =>
   simp only [z82,pRev,W6] at hp
   subst hp
   obtain ⟨a,vs,ea,ha,ra⟩:=rx.lst
   exact .inr (.inr ⟨a,vs,ea,.inl ha,fun p hp=>q _ _ (.alloc k hp _) (RepS.newL k ra.reverse hp)⟩)
  | _=>simp [z82,pRev] at hp) h
def pNeg:D→Option S
 | .int i=>some (.pure (.int (-i)))
 | _=>none
theorem z4v (he:SB X c e fb):SE X c (.UnaryOp .USub e pos) (eC1 pNeg fb) :=
 PE.weak (zfn zcQ he) fun σ H Q h=>z3z (fun c σ δ H x d s Q k rx hp q=>by
  cases d with
  | int i =>
   simp only [pNeg,W6] at hp
   subst hp
   exact ⟨i,rx.int,q _ H (.refl k) (.int _)⟩
  | _=>simp [pNeg] at hp) h
def z8j:D→Bool
 | .non=>true
 | _=>false
def pIsN (neg:Bool) (d e:D):Option S:=match e with
 | .non=>some (.pure (.bl (neg != z8j d)))
 | _=>none
theorem zaG:Op2 (fun x y H Q=>y = .non∧Q (.bl (decide (x = .non))) H) (pIsN false):=by
 intro c σ δ H x y d e s Q k rx ry hp q
 cases e with
 | non =>
  simp only [pIsN,W6] at hp
  subst hp
  have ey:y = .non:=by
   rcases ry with r | ⟨a,e,o⟩
   ·cases r; rfl
   ·exact o.elim
  have:decide (x=V.non)=(false != z8j d):=by
   rcases rx with r | ⟨a,e,o⟩
   ·cases r <;> simp [z8j]
   ·subst e
    cases d <;> first | exact o.elim | simp [z8j]
  exact ⟨ey,by rw [this]; exact q _ H (.refl k) (.bl _)⟩
 | _=>simp [pIsN] at hp
theorem zaD:Op2 (fun x y H Q=>y = .non∧Q (.bl (!decide (x = .non))) H) (pIsN true):=by
 intro c σ δ H x y d e s Q k rx ry hp q
 cases e with
 | non =>
  simp only [pIsN,W6] at hp
  subst hp
  have ey:y = .non:=by
   rcases ry with r | ⟨a,e,o⟩
   ·cases r; rfl
   ·exact o.elim
  have:(!decide (x=V.non))=(true != z8j d):=by
   rcases rx with r | ⟨a,e,o⟩
   ·cases r <;> simp [z8j]
   ·subst e
    cases d <;> first | exact o.elim | simp [z8j]
  exact ⟨ey,by rw [this]; exact q _ H (.refl k) (.bl _)⟩
 | _=>simp [pIsN] at hp
end
def Fc.park (c:Fc) (i:Nat) (a:Addr):Fc:=⟨c.H₀,fun b=>c.B b∨b=a,(i,a) :: c.pin,c.xc⟩
theorem Np.park (h:Np c np):Np (c.park i a) (i :: np):=fun p hp=>by
 rcases Wf.mp hp with e | hp
 ·subst e; simp
 ·have:=h p hp
  simp at this ⊢
  exact .inr this
section
variable {c:Fc} {σ σ':St} {δ δ':Dl} {H H':Hp} {i:Nat} {a:Addr} {ds:List D}
theorem Own.unset (h:Own σ (δ.set i none) b):Own σ δ b:=by
 obtain ⟨j,d',e1,e2⟩:=h
 by_cases hj:i=j
 ·subst hj
  rw [WH] at e1
  split at e1
  ·split at e1 <;> cases e1
  ·rename_i q; exact absurd rfl q
 ·rw [W4 hj] at e1
  exact ⟨j,d',e1,e2⟩
theorem zeE (k:Ok c σ δ H) (e:δ[i]? = some (some (.own (.lst ds)))) (ea:σ[i]? = some (some (.ref a))) (b:Addr) (z:Av (c.park i a) σ (δ.set i none) b):Av c σ δ b:=by
 rcases z with (z | z) | z
 ·exact .inl z
 ·subst z; exact .inr ⟨i,_,e,ea⟩
 ·exact .inr z.unset
theorem Ok.park (k:Ok c σ δ H) (e:δ[i]? = some (some (.own (.lst ds)))) (ea:σ[i]? = some (some (.ref a))):Ok (c.park i a) σ (δ.set i none) H:=by
 have sub:=zeE k e ea
 have ne:∀ j d,(δ.set i none)[j]? = some (some d)→i≠j∧δ[j]? = some (some d):=fun j d q=>by
  by_cases hj:i=j
  ·subst hj
   rw [Wl (Wb.mp e).1] at q; cases q
  ·rw [W4 hj] at q; exact ⟨hj,q⟩
 refine ⟨fun b o h n=>k.keep b o h fun ⟨j,z⟩=>n ⟨j,We _ z⟩,fun b z=>?_,fun b ⟨j,z⟩=>?_,by rw [Qo]; exact k.len,fun j d q=>?_,fun j d q=>?_,fun j l b d d' q1 q2=>?_,fun p hp=>?_⟩
 ·rcases z with z | z
  ·exact k.bd b z
  ·subst z; exact k.othere ⟨i,_,e,ea⟩
 ·rcases Wf.mp z with z | z
  ·cases z; exact k.othere ⟨i,_,e,ea⟩
  ·exact k.ith b ⟨j,z⟩
 ·obtain ⟨_,q⟩:=ne j _ q
  obtain ⟨v,g1,g2⟩:=k.slot j d q
  exact ⟨v,g1,g2.anti fun b z=>.inl (sub b z)⟩
 ·obtain ⟨hj,q⟩:=ne j _ q
  obtain ⟨b,g1,g2,g3,g4⟩:=k.own j d q
  refine ⟨b,g1,g2.anti fun b z=>.inl (sub b z),g3.imp (fun ⟨l,z⟩=>⟨l,We _ z⟩) id,fun z=>?_⟩
  rcases z with z | z
  ·exact g4 z
  ·subst z; exact hj (k.inj i j b _ _ e q ea g1)
 ·exact k.inj j l b d d' (ne j _ q1).2 (ne l _ q2).2
 ·rcases Wf.mp hp with z | z
  ·subst z; exact ea
  ·exact k.pinned p z
end
def dForO (i:Nat) (g:DG) (b:DS):DS:=fun δ=>match δ[i]? with
 | some (some (.own (.lst ds)))=>(forL g b ds (δ.set i none)).bind fun fl δ'=>match fl with
  | .ret (.own _)=>.stuck
  | fl=>.ok fl (δ'.set i (some (.own (.lst ds))))
 | _=>.stuck
section
variable {X:Cx} {c:Fc} {tg iter:Expr} {body:List Stmt} {g:DG} {b:DS} {i:Nat} {pos:Pos}
def z5N (np:List Nat) (i:Nat):DS:=fun δ=>match δ[i]? with
 | some (some (.own d))=>if np.contains i || !np.all (z0B δ) then .ok (.ret (.pure d)) (δ.set i (some (.pure d))) else .ok (.ret (.own d)) (δ.set i none)
 | some (some (.pure d))=>.ok (.ret (.pure d)) δ
 | _=>.stuck
theorem z7S {np:List Nat} {e:Expr} (hnp:Np c np) (he:PE X e (tVar i)):SS X c (.Return (some e) pos) (z5N np i):=PS.weak (zcX he) fun D σ H ⟨δ,k,q⟩=>by
 unfold z5N z1E at q
 split at q
 ·rename_i d e
  obtain ⟨a,ea,oa,ia,nb⟩:=k.own i d e
  refine ⟨.ref a,ea,?_⟩
  split at q
  ·obtain ⟨a',ea',x,r⟩:=k.give e
   rw [ea] at ea'; cases ea'
   exact q σ H x _ r
  ·rename_i hc
   simp only [Bool.or_eq_true,not_or,Bool.not_eq_true,Bool.not_eq_false',List.all_eq_true] at hc
   obtain ⟨hc1,hc2⟩:=hc
   have nI:¬ c.I a:=fun ⟨j,z⟩=>by
    have z1:=hnp (j,a) z
    have z2:=k.pinned (j,a) z
    have z3:=hc2 j (by simpa using z1)
    unfold z0B at z3
    split at z3
    ·rename_i d' ej
     have:=k.inj i j a _ _ e ej ea z2
     subst this
     rw [z1] at hc1; cases hc1
    ·cases z3
   have h0:c.H₀ a=none:=ia.resolve_left nI
   have hi:i < δ.length:=(Wb.mp e).1
   have ne:∀ j d,(δ.set i none)[j]? = some (some d)→i≠j∧δ[j]? = some (some d):=fun j d q=>by
    by_cases hj:i=j
    ·subst hj
     rw [Wl hi] at q; cases q
    ·rw [W4 hj] at q; exact ⟨hj,q⟩
   have sub:∀ b,Av (c.plus a) σ (δ.set i none) b→Av c σ δ b:=fun b z=>by
    rcases z with (z | z) | z
    ·exact .inl z
    ·subst z; exact .inr ⟨i,_,e,ea⟩
    ·exact .inr z.unset
   have kp:Ok (c.plus a) σ (δ.set i none) H:=by
    refine ⟨k.keep,fun b z=>?_,k.ith,by rw [Qo]; exact k.len,fun j d q=>?_,fun j d q=>?_,fun j l b d d' q1 q2=>k.inj j l b d d' (ne j _ q1).2 (ne l _ q2).2,k.pinned⟩
    ·rcases z with z | z
     ·exact k.bd b z
     ·subst z; exact k.othere ⟨i,_,e,ea⟩
    ·obtain ⟨_,q⟩:=ne j _ q
     obtain ⟨v,g1,g2⟩:=k.slot j d q
     exact ⟨v,g1,g2.anti fun b z=>.inl (sub b z)⟩
    ·obtain ⟨hj,q⟩:=ne j _ q
     obtain ⟨b,g1,g2,g3,g4⟩:=k.own j d q
     refine ⟨b,g1,g2.anti fun b z=>.inl (sub b z),g3,fun z=>?_⟩
     rcases z with z | z
     ·exact g4 z
     ·subst z; exact hj (k.inj i j b _ _ e q ea g1)
   have x:Aft c σ δ H σ (δ.set i none) H:=by
    refine ⟨⟨k.keep,k.bd,k.ith,by rw [Qo]; exact k.len,fun j d q=>?_,fun j d q=>?_,fun j l b d d' q1 q2=>k.inj j l b d d' (ne j _ q1).2 (ne l _ q2).2,k.pinned⟩,fun _ _ w _=>w,fun b z=>.inl z.unset,fun _ o w=>⟨o,w⟩⟩
    ·obtain ⟨_,q⟩:=ne j _ q
     obtain ⟨v,g1,g2⟩:=k.slot j d q
     exact ⟨v,g1,g2.anti fun b z=>.inl (z.elim .inl fun z=>.inr z.unset)⟩
    ·obtain ⟨hj,q⟩:=ne j _ q
     obtain ⟨b,g1,g2,g3,g4⟩:=k.own j d q
     exact ⟨b,g1,g2.anti fun b z=>.inl (z.elim .inl fun z=>.inr z.unset),g3,g4⟩
   exact q σ H x _ ⟨a,rfl,oa.anti fun b z=>.inl (sub b z),nb,h0,kp,h0⟩
 ·rename_i d e
  obtain ⟨v,e1,r⟩:=k.slot i d e
  exact ⟨v,e1,q σ H (.refl k) v r⟩
 ·exact q.elim
end
theorem ix_X (hu:X.A.units + 64 < WX):IxR X (fun x y H Q=>rIxD x y H Q∨rIx X.K x y H Q):=(zek hu).or z0n
end DV
namespace L2
open PySem PySem.Spec PyProof.Rows
section
variable {X:Cx}
end
end L2
namespace DV
open PySem PySem.Spec PyProof.Rows L2
section
variable {X:Cx} {c:Fc} {e:Expr} {fe:DE} {pos:Pos}
end
section
variable {c:Fc} {σ:St} {δ δ':Dl} {H H':Hp} {i:Nat} {a p:Addr} {ds:List D}
end
open Classical in
noncomputable def itAt (δ₀:Dl) (ds:List D):DI:=fun δ=>if δ=δ₀ then .ok ds δ else .stuck
section
variable {X:Cx} {c:Fc} {cs:List Nat} {tg iter elt:Expr} {ifs:List Expr} {scope:Scope} {pos:Pos} {g:DG} {t:DT} {el:DE} {i:Nat}
end
section
variable {X:Cx} {c:Fc} {e:Expr} {fe:DE} {pos pos':Pos}
end
section
variable {X:Cx} {c:Fc} {pp pos:Pos}
end
section
variable {c:Fc} {σ:St} {δ:Dl} {H:Hp} {a:Addr} {d:D}
theorem getA (h:(xs ++ [x])[i]? = some y):xs[i]? = some y∨(i=xs.length∧y=x):=by
 rw [List.getElem?_append] at h
 split at h
 ·exact .inl h
 ·rename_i hi
  right
  have:i - xs.length=0:=by
   cases hk:i - xs.length with
   | zero=>rfl
   | succ k=>rw [hk] at h; simp at h
  rw [this] at h
  simp at h
  exact ⟨by omega,h.symm⟩
theorem getL {α:Type} {xs:List α} {x y:α} {i:Nat} (h:xs[i]? = some y):(xs ++ [x])[i]? = some y:=by
 rw [QU (Wb.mp h).1]; exact h
theorem Ok.cutl (hl:δ.length=σ.length) (k:Ok c (σ ++ [some (.ref a)]) (δ ++ [some (.own d)]) H) (hp:∀ p ∈ c.pin,p.1 < σ.length):Ok c σ δ H:=by
 have sub:∀ b,Av c σ δ b→Av c (σ ++ [some (.ref a)]) (δ ++ [some (.own d)]) b:=fun b z=>z.elim .inl fun ⟨i,d',e1,e2⟩=>.inr ⟨i,d',getL e1,getL e2⟩
 refine ⟨k.keep,k.bd,k.ith,hl,fun i d' e=>?_,fun i d' e=>?_,fun i j b d1 d2 e1 e2 s1 s2=>k.inj i j b d1 d2 (getL e1) (getL e2) (getL s1) (getL s2),fun p hm=>?_⟩
 ·obtain ⟨v,g1,g2⟩:=k.slot i d' (getL e)
  have hi:=(Wb.mp e).1
  rcases getA g1 with g1 | ⟨z,_⟩
  ·exact ⟨v,g1,g2.anti fun b z=>.inl (sub b z)⟩
  ·omega
 ·obtain ⟨b,g1,g2,g3⟩:=k.own i d' (getL e)
  have hi:=(Wb.mp e).1
  rcases getA g1 with g1 | ⟨z,_⟩
  ·exact ⟨b,g1,g2.anti fun b z=>.inl (sub b z),g3⟩
  ·omega
 ·rcases getA (k.pinned p hm) with g | ⟨z,_⟩
  ·exact g
  ·have:=hp p hm; omega
end
section
variable {X:Cx} {c:Fc} {e:Expr} {es:List Expr} {as:List Ak} {f0:DE} {k n:Nat} {x:Str} {G:DF} {pp pos:Pos}
end
section
variable {X:Cx} {c:Fc} {e:Expr} {fe:DE} {pos:Pos}
theorem Ok.mutD (k:Ok c σ δ H) (e:δ[i]? = some (some (.own (.dct ds)))) (ea:σ[i]? = some (some (.ref a))) (r:DR H (Av c σ δ) vs' ds') :
  Aft c σ δ H σ (δ.set i (some (.own (.dct ds')))) (upd H a (.dK vs')):=by
 have hi:i < δ.length:=(Wb.mp e).1
 obtain ⟨a',ea',oa,ia,nb⟩:=k.own i _ e
 rw [ea] at ea'; cases ea'
 obtain ⟨vs,ha,_⟩:=oa
 have ownA:Own σ δ a:=⟨i,_,e,ea⟩
 have avA:Av c σ δ a:=.inr ownA
 have own_iff:∀ b,Own σ (δ.set i (some (.own (.dct ds')))) b ↔ Own σ δ b:=fun b=>by
  constructor
  ·rintro ⟨j,d,e1,e2⟩
   by_cases hj:i=j
   ·subst hj
    exact ⟨i,_,e,e2⟩
   ·rw [W4 hj] at e1
    exact ⟨j,d,e1,e2⟩
  ·rintro ⟨j,d,e1,e2⟩
   by_cases hj:i=j
   ·subst hj
    exact ⟨i,_,by rw [Wl hi],e2⟩
   ·exact ⟨j,d,by rw [W4 hj]; exact e1,e2⟩
 have av_iff:∀ b,Av c σ (δ.set i (some (.own (.dct ds')))) b→Av c σ δ b:=fun b z=>z.elim .inl fun z=>.inr ((own_iff b).mp z)
 have ne:∀ b,¬ Av c σ δ b→b≠a:=fun b n z=>n (by rw [z]; exact avA)
 have kp:∀ b o,H b=some o→¬ Av c σ δ b→upd H a (.dK vs') b=some o:=fun b o h n=>by rw [z0d (ne b n)]; exact h
 have hup:∀ b o,H b=some o→∃ o',upd H a (.dK vs') b=some o':=fun b o h=>by
  by_cases hb:b=a
  ·exact ⟨_,by rw [hb]; exact z0p⟩
  ·exact ⟨o,by rw [z0d hb]; exact h⟩
 refine ⟨⟨fun b o h n=>?_,fun b z=>?_,fun b z=>?_,by rw [Qo]; exact k.len,fun j d h=>?_,fun j d h=>?_,fun j l b d d' h1 h2 h3 h4=>?_,k.pinned⟩,fun b o h n=>?_,fun b z=>.inl ((own_iff b).mp z),hup⟩
 ·have hb:b≠a:=fun z=>by
   subst z
   rcases ia with z | z
   ·exact n z
   ·rw [z] at h; cases h
  rw [z0d hb]
  exact k.keep b o h n
 ·obtain ⟨o,h⟩:=k.bd b z
  exact hup b o h
 ·obtain ⟨o,h⟩:=k.ith b z
  exact hup b o h
 ·have hj:i≠j:=fun z=>by subst z; rw [Wl hi] at h; cases h
  rw [W4 hj] at h
  obtain ⟨v,h1,h2⟩:=k.slot j d h
  exact ⟨v,h1,(h2.keep kp).anti fun b z=>.inl (av_iff b z)⟩
 ·by_cases hj:i=j
  ·subst hj
   rw [Wl hi] at h
   cases h
   exact ⟨a,ea,(let r':=r.map fun v d h=>(Rep.keep h kp).anti fun b z=>.inl (av_iff b z); ⟨vs',z0p,r'.keys,r'.vals⟩),ia,nb⟩
  ·rw [W4 hj] at h
   obtain ⟨b,h1,h2,h3,h4⟩:=k.own j d h
   have hb:b≠a:=fun z=>by subst z; exact hj (k.inj i j b _ d e h ea h1)
   exact ⟨b,h1,(h2.keep kp fun o q=>by rw [z0d hb]; exact q).anti fun b z=>.inl (av_iff b z),h3,h4⟩
 ·have f1:∃ d,δ[j]? = some (some (.own d)):=by
   by_cases hj:i=j
   ·subst hj; exact ⟨_,e⟩
   ·rw [W4 hj] at h1; exact ⟨d,h1⟩
  have f2:∃ d,δ[l]? = some (some (.own d)):=by
   by_cases hj:i=l
   ·subst hj; exact ⟨_,e⟩
   ·rw [W4 hj] at h2; exact ⟨d',h2⟩
  obtain ⟨_,f1⟩:=f1
  obtain ⟨_,f2⟩:=f2
  exact k.inj j l b _ _ f1 f2 h3 h4
 ·have hb:b≠a:=fun z=>n (by rw [z]; exact ownA)
  rw [z0d hb]; exact h
def z7p (δ:Dl) (i:Nat):Bool:=match δ[i]? with
 | some (some (.own (.dct _)))=>true
 | _=>false
def zcH (i:Nat) (fi fe:DE):DS:=fun δ=>if z7p δ i then (fe δ).bind fun r δ1=>if z7p δ1 i then (fi δ1).bind fun k δ2=>match δ2[i]? with
  | some (some (.own (.dct ds)))=>match keyD k.d with
   | some kk=>if ds.length < W3 then .ok .next (δ2.set i (some (.own (.dct (putD ds kk r.d))))) else .stuck
   | none=>.stuck
  | _=>.stuck else .stuck else .stuck
theorem zaV (h:z7p δ i=true):∃ ds,δ[i]? = some (some (.own (.dct ds))):=by
 unfold z7p at h
 split at h
 ·rename_i ds e; exact ⟨ds,e⟩
 ·cases h
theorem zdq {i:Nat} {o ix:Expr} {fi:DE} {sp:Pos} (hu:X.A.units + 64 < WX) (ho:PE X o (tVar i)) (hi:SE X c ix fi) (he:SE X c e fe)
  (hs:QW e (some (.Subscript o ix sp)) pos.line X.env=pure false:=by rfl):SS X c (.Assign [.Subscript o ix sp] e pos) (zcH i fi fe) :=
 PS.weak (zdU (by omega) ho hi he hs) fun D σ H ⟨δ,k,q⟩=>by
  unfold zcH z1E at q
  split at q
  case isFalse=>exact q.elim
  rename_i hown
  rw [z03] at q
  refine ⟨δ,k,z01 q fun r δ1 q1 v H1 a1 r1=>?_⟩
  split at q1
  case isFalse=>exact q1.elim
  rename_i hown1
  obtain ⟨ds1,e1⟩:=zaV hown1
  obtain ⟨a,ea,_,_⟩:=a1.ok.own i _ e1
  refine ⟨.ref a,ea,δ1,a1.ok,?_⟩
  rw [z03] at q1
  refine z01 q1 fun kx δ2 q2 u H2 a2 r2=>?_
  split at q2
  ·rename_i ds e2
   split at q2
   ·rename_i kk hk
    split at q2
    ·rename_i hz
     obtain ⟨a',ea',oa,_⟩:=a2.ok.own i _ e2
     rw [ea] at ea'; cases ea'
     obtain ⟨ws,ha,hk1,hk2⟩:=id oa
     have dr:DR H2 (Av c σ δ2) ws ds:=DR.of hk1 hk2
     have hu':=z3S hk r2.b
     subst hu'
     have hlen:ws.length=ds.length:=by have:=congrArg Jh hk1; simpa using this
     have rv:Rep H2 (Av c σ δ2) v r.d:=Rep.aft r1.rep a2
     refine ⟨a,_,rfl,DPut.k ha (by rw [hlen]; exact hz),?_⟩
     exact q2 σ _ (a1.trans (a2.trans (Ok.mutD a2.ok e2 ea (dr.put rv))))
    ·exact q2.elim
   ·exact q2.elim
  ·exact q2.elim
end
section
variable {X:Cx} {c:Fc} {o e f:Expr} {fe ff:DE} {i:Nat} {apos cpos:Pos}
def zcu (δ:Dl) (i:Nat):Bool:=match δ[i]? with
 | some (some s)=>match s.d with
  | .dct _=>true
  | _=>false
 | _=>false
theorem zct (k:Ok c σ δ H) (h:zcu δ i=true):∃ a ws ds s,δ[i]? = some (some s)∧s.d = .dct ds∧σ[i]? = some (some (.ref a))∧H a=some (.dK ws)∧DR H (Av c σ δ) ws ds:=by
 unfold zcu at h
 split at h
 ·rename_i s e
  split at h
  ·rename_i ds hs
   obtain ⟨v,ev⟩:=z28 k e
   have rb:=z7T k e ev
   rw [hs] at rb
   obtain ⟨a,ws,rfl,ha,dr⟩:=z4N rb
   exact ⟨a,ws,ds,s,e,hs,ev,ha,dr⟩
  ·cases h
 ·cases h
def zbc (i:Nat) (fe:DE):DE:=fun δ=>if zcu δ i then (fe δ).bind fun k δ1=>match δ1[i]? with
  | some (some s)=>match s.d,keyD k.d with
   | .dct ds,some kk=>.ok (.pure ((valD ds kk).getD .non)) δ1
   | _,_=>.stuck
  | _=>.stuck else .stuck
theorem zdC (hu:X.A.units + 64 < WX) (ho:PE X o (tVar i)) (he:SE X c e fe) (hb:Qt o "get" X.env (eval o X.env)=eval o X.env:=by rfl)
  (hf:((WT cpos (W7 [e] X.env)).all (fun x=>!x.1) && (Jx cpos (QX [] X.env)).all (fun x=>x.1.isSome)
   && decide (([e]:List Expr).length + ([]:List Keyword).length + (if ([]:List Keyword).isEmpty then 0 else 1) < 30))=true:=by rfl) (hl:(apos.endLine == cpos.line)=true:=by rfl)
  (ht:WT cpos (W7 [e] X.env)=[(false,eval e X.env)]:=by rfl):SE X c (.Call (.Attribute o "get" apos) [e] [] cpos) (zbc i fe) :=
 PE.weak (zc7 (by omega) ho he ⟨hb,hf,hl,ht⟩) fun σ H Q ⟨δ,k,q⟩=>by
  unfold zbc at q
  split at q
  case isFalse=>exact q.elim
  rename_i hd
  obtain ⟨a,ws,ds,s,e1,e2,e3,e4,_⟩:=zct k hd
  rw [z03] at q
  refine ⟨.ref a,e3,a,rfl,.inl ⟨ws,.inl e4⟩,δ,k,z01 q fun kx δ1 q1 v H1 a1 r1=>?_⟩
  split at q1
  ·rename_i s1 es1
   split at q1
   ·rename_i ds1 kk hs1 hk
    have rb:=z7T a1.ok es1 e3
    rw [hs1] at rb
    obtain ⟨a',ws1,ea,ha1,dr1⟩:=z4N rb
    cases ea
    have hv:=z3S hk r1.b
    subst hv
    refine ⟨_,.inl ⟨ws1,_,.inl ha1,rfl,rfl⟩,?_⟩
    rcases dr1.val kk with ⟨z1,z2⟩ | ⟨v,d,z1,z2,z3⟩
    ·rw [z1] at q1; rw [z2]
     exact q1 _ H1 a1 .non
    ·rw [z1] at q1; rw [z2]
     exact q1 _ H1 a1 z3
   ·exact q1.elim
  ·exact q1.elim
end
section
variable {X:Cx}
end
end DV
namespace L2
open PySem PySem.Spec PyProof.Rows
section
variable {X:Cx} {tg:Expr}
end
end L2
namespace DV
open PySem PySem.Spec PyProof.Rows L2
variable {X:Cx} {c:Fc} {tg e:Expr} {fe:DE} {pp pos:Pos}
section
variable {X:Cx}
end
theorem vals_ints:∀ {ns:List Int} {us:List Value},Vals (ns.map V.int) us→∃ ys:List (Int×Tok),us=(ys.map fun p=>Value.int p.1 p.2)∧ns=ys.map (·.1)
 | [],us,r=>by cases r; exact ⟨[],rfl,rfl⟩
 | n :: ns,us,r=>by
  cases r with
  | cons r1 r2 =>
   obtain ⟨ys,e1,e2⟩:=vals_ints r2
   obtain ⟨t,rfl⟩:=r1
   exact ⟨(n,t) :: ys,by rw [e1]; rfl,by rw [e2]; rfl⟩
section
variable {X:Cx}
end
def z5J:List D→Option (List Int)
 | []=>some []
 | .int i :: r=>(z5J r).map (i :: ·)
 | _ :: _=>none
theorem ints_map (ns:List Int):z5J (ns.map D.int)=some ns:=by
 induction ns with
 | nil=>rfl
 | cons n r ih=>simp [z5J,ih]
section
variable {X:Cx} {c:Fc} {e:Expr} {fb:BE} {pos pp:Pos}
end
end DV
namespace L2
open PySem PySem.Spec PyProof.Rows
section
variable {prog:Wj} {w:Wp} {A:Wo} {E:Value→W2→Prop} {s:W2}
end
section
variable {X:Cx} {pos:Pos}
end
end L2
namespace DV
open PySem PySem.Spec PyProof.Rows L2
section
variable {X:Cx} {c:Fc} {pos:Pos}
end
open PySem PySem.Builtin PySem.Builtin.Str PySem.StrLaws
section
variable {X:Cx}
end
section
variable {X:Cx} {c:Fc} {e:Expr} {fb:BE}
end
end DV
set_option maxHeartbeats 1000000
namespace PySem
open Sem (wp)
open AutoSeq1 (wpAny_loadPart')
section
variable {prog:Wj} {w:Wp} {A:Wo} {E:Value→W2→Prop} {s:W2}
end
end PySem
namespace PyProof.Rows
open PySem
section
variable {M:Model} {A:Wo} {E:Value→W2→Prop} {s:W2} {env:Env}
end
end PyProof.Rows
set_option maxHeartbeats 400000
namespace L2
open PySem PySem.Spec PyProof.Rows
end L2
namespace DV
open PySem PySem.Spec PyProof.Rows L2
section
variable {X:Cx} {c:Fc} {tg e:Expr} {fe:DE} {pos pp:Pos}
end
end DV
namespace L2
open PySem PySem.Spec PyProof.Rows
abbrev vErr:List Value:=[.type "ValueError",.type "Exception",.type "BaseException",.type "object"]
def ExcC (K:W0) (C:Addr):Prop:=JM K C vErr "ValueError.__new__" = true
theorem ExcC.obj {K:W0} {C:Addr} {h:Heap} (q:ExcC K C) (X:K.In h):∃ (bm:List Value) (N:Addr) (nm qn:Str) (bs:List Value) (hdct:Bool) (sn:List Str) (sub:List Value) (ab:Bool) (col:Option Bool) (dd:Option Addr) (k0 k1 k2 k3 k5:Option Value) (mN:Str→Option Value),
  h.get? C=some (excClassObj nm qn C N bs bm hdct sn sub ab col dd k0 k1 k2 k3 k5 "ValueError.__new__")∧h.Ns N mN∧mN "__init__" = none∧OwnTail h vErr bm:=by
 unfold ExcC JM at q
 split at q
 next dd cd sl lk =>
  split at q
  next C' bm k0 k1 k2 k3 n k5 e1 e2 =>
   simp only [Wi,beq_iff_eq,JI] at q
   obtain ⟨⟨⟨⟨⟨c1,c2⟩,c3⟩,c4⟩,c5⟩,c6⟩:=q
   subst c1; subst c2
   have e3:sl = #[k0,k1,k2,k3,some (.builtin "ValueError.__new__"),k5]:=by
    cases sl; simp only at e2; rw [e2]
   subst e3
   cases cd
   simp only at e1 c3 c4 c5 c6 lk
   subst e1; subst c3
   exact ⟨bm,_,_,_,_,_,_,_,_,_,dd,k0,k1,k2,k3,k5,_,X _ _ lk,.of_isNs (PySem.W.isNs_of_in X c5),PySem.W.nsMap_none_of_in X c5 c6,PySem.W.tail_of_in X c4⟩
  next=>cases q
 next=>cases q
def Fly (h:Heap) (a C T:Addr):Prop :=
 ∃ oe vs oT ts a0,h.get? a=some oe∧(oe.cls = .ref C∧vs[0]? = some a0)∧oe.data = .fields vs∧vs[1]? = some (.ref T)∧T≠a∧h.get? T=some oT∧oT.data = .fields ts∧ts[3]? = some .none
def CXe (P:Wj) (w:Wp):CXT:=fun outer H s E v s' =>
 ∃ (a C T:Addr) (H':Hp),v = .ref a∧s'.os=s.os∧AllBare s'.gens∧Un (frs outer) [] H H' s.heap s'.heap∧HOk P w H' s'.heap∧Fly s'.heap a C T∧s.heap.get? a=none∧s.heap.get? T=none∧H' a=none∧H' T=none∧E (.ref C) none H'
section
variable {X:Cx} {x:Str} {C:Addr} {np cpos pos:Pos}
theorem zak {W:St→Hp→Prop} (q:ExcC X.K C) (hc:X.calm=true) (hg:Gl X x) (hm:X.mg x=some (.ref C)) (hd:(x == ("__debug__" : Str))=false)
  (hxe:∀ pins σ H s h' e,Inv X pins σ H s→W σ H→Heap.MadeExcOf s.heap h' e (.ref C) []→X.xe (.ref e) { s with heap:=h' }) :
  PS X (.Raise (some (.Call (.Name x np) [] [] cpos)) none pos) (fun _ σ H=>W σ H):=by
 intro pins s σ H D I hw
 obtain ⟨bm,N,nm,qn,bs,hdct,sn,sub,ab,col,dd,k0,k1,k2,k3,k5,mN,hC,hN,hi,hT⟩:=q.obj I.kIn
 refine wpAny_Raise_call_subT (C:=C) (nm:=nm) (q:=qn) (N:=N) (bs:=bs) (bm:=bm) (hdct:=hdct) (sn:=sn) (sub:=sub) (ab:=ab) (col:=col) (dd:=dd) (k0:=k0) (k1:=k1) (k2:=k2) (k3:=k3) (k5:=k5) (mN:=mN)
  PySem.F.excBase_ValueError (hT.hasType rfl) (I.ok.hd hc) rfl hi (z39 I hg hm ⟨rfl,?_⟩ hd)
 exact evalArgs_empty ⟨rfl,Qb _,hC,hN,hT,fun h' e hm=>hxe pins σ H s h' e I hw hm⟩
end
section
variable {X:Cx} {pins:List (Addr×Obj)} {σ:St} {H:Hp} {s:W2} {h':Heap}
theorem Inv.gone (I:Inv X pins σ H s) (hx:X.ex=[]) (e:s.heap.get? b=none):H b=none∧X.s₀.heap.get? b=none:=by
 constructor
 ·cases q:H b with
  | none=>rfl
  | some o =>
   exfalso
   have:∃ u,s.heap.get? b=some u:=by
    have z:=I.hok b o q
    clear q
    induction o with
    | lst xs=>obtain ⟨_,_,_,_,e⟩:=z; exact ⟨_,e⟩
    | tup xs=>obtain ⟨_,_,_,_,e⟩:=z; exact ⟨_,e⟩
    | dK kvs=>obtain ⟨_,_,_,_,_,_,_,e,_⟩:=z; exact ⟨_,e⟩
    | dT kvs=>obtain ⟨_,_,_,_,_,_,_,e,_⟩:=z; exact ⟨_,e⟩
    | set S n=>obtain ⟨_,_,_,_,e,_⟩:=z; exact ⟨_,e⟩
    | ins C dx fs=>obtain ⟨_,_,_,e,_⟩:=z; exact ⟨_,e⟩
    | own y=>exact z
    | xd fs=>obtain ⟨_,⟨_,_,_,e,_⟩,_⟩:=z; exact ⟨_,e⟩
    | rng lo hi=>obtain ⟨_,_,_,e⟩:=z; exact ⟨_,e⟩
    | frz ob u ih=>exact ⟨_,z.1⟩
    | tbl ps=>exact ⟨_,z⟩
    | met f y=>exact ⟨_,z⟩
    | ext φ=>exact z.2.1
   obtain ⟨u,q⟩:=this
   rw [e] at q; cases q
 ·cases q:X.s₀.heap.get? b with
  | none=>rfl
  | some o =>
   obtain ⟨o',q'⟩:=I.base.there b o q (by rw [hx]; simp)
   rw [e] at q'; cases q'
theorem zcn (hB:B=J9 h (e :: frs l)) (hL:Heap.LeftW B l e (.ref C) a0 h h') :
  (∀ b o,h.get? b=some o→b≠e→b ∉ frs l→h'.get? b=some o)∧(∀ b o,h.get? b=some o→(∀ vs,o.data≠.fields vs)→∃ sl,h'.get? b=some { o with slots:=sl })∧∃ T,Fly h' e C T∧h.get? T=none:=by
 obtain ⟨l1,l2,⟨oe,vs,T,oT,ts,t1,t2,t3,t4,t5,t6,t7,t8,t9⟩,l4⟩:=hL
 refine ⟨fun b o q ne nf=>l1 b o ?_,l4,T,⟨oe,vs,oT,ts,a0,t1,t2,t3,t4,t6,t7,t8,t9⟩,?_⟩
 ·rw [hB]; exact QB _ q (by simp [ne,nf])
 ·cases q:h.get? T with
  | none=>rfl
  | some o =>
   exfalso
   by_cases hf:T ∈ frs l
   ·obtain ⟨_,o',g1,g2⟩:=l2.mem hf
    rw [t7] at g1
    cases g1
    exact g2 ts t8
   ·rw [hB,QB _ q (by simp [t6,hf])] at t5
    cases t5
end
section
variable {P:Wj} {w:Wp} {K:W0} {mg:Str→Option Value} {base:Heap} {N:List Str} {qual:Str} {scope:Scope} {f:Addr} {cd:Value} {A:Wo} {outer:List Env} {s₀:W2} {H₀:Hp} {E:XK}
end
structure Apart (X:Cx) (pins:List (Addr×Obj)) (H:Hp) (b:Addr):Prop where
 old:X.s₀.heap.get? b=none
 free:H b=none
 loc:b≠X.env.locals
 cel:∀ x c,X.env.cells.lookup x=some c→c≠b
 pin:∀ p ∈ X.pn ++ pins,p.1≠b
section
variable {X:Cx} {pins:List (Addr×Obj)} {σ:St} {H:Hp} {s:W2} {h':Heap} {a T:Addr}
theorem Inv.neL (I:Inv X pins σ H s) (e:X.s₀.heap.get? b=some o):b≠X.env.locals:=Ws (Wy (Wg e) I.ok.above)
theorem Inv.noted2 (I:Inv X pins σ H s) (ha:Apart X pins H a) (hT:Apart X pins H T) (k1:∀ b o,s.heap.get? b=some o→b ∉ frs X.stack→b≠a→b≠T→h'.get? b=some o)
  (k2:∀ b o,s.heap.get? b=some o→b ∈ frs X.stack→∃ sl,h'.get? b=some { o with slots:=sl }):Inv X pins σ H { s with heap:=h' }:=by
 have any:∀ b o,s.heap.get? b=some o→b≠a→b≠T→∃ sl,h'.get? b=some { o with slots:=sl }:=fun b o e n1 n2=>by
  by_cases hb:b ∈ frs X.stack
  ·exact k2 b o e hb
  ·exact ⟨o.slots,k1 b o e hb n1 n2⟩
 have ne:∀ b o,X.s₀.heap.get? b=some o→b≠a∧b≠T:=fun b o e=>⟨fun z=>(by rw [z,ha.old] at e; cases e),fun z=>(by rw [z,hT.old] at e; cases e)⟩
 have nst:∀ b,b≠X.env.locals→b ∉ X.fs→b ∉ frs X.stack:=fun b n1 n2 z=>(Wf.mp (I.stkSub b z)).elim n1 n2
 have cellK:∀ y c,X.env.cells.lookup y=some c→∀ v,s.heap.IsCell c v→h'.IsCell c v:=fun y c e v ⟨o,ho,hd⟩=>by
  obtain ⟨sl,q⟩:=any c o ho (ha.cel y c e) (hT.cel y c e)
  exact ⟨_,q,hd⟩
 refine ⟨I.ok,I.os,I.bare,⟨fun b o e n hb hx=>?_,fun b o e n hb hx=>?_,I.base.free,fun b o e hx=>?_,I.base.tups,I.base.frzs,I.base.tbls⟩,?_,fun y c e=>?_,I.free,I.freeC,fun p hp=>?_,fun b o e=>?_,I.len⟩
 ·exact k1 b o (I.base.keep b o e n hb hx) (nst b (I.neL e) hb) (ne b o e).1 (ne b o e).2
 ·obtain ⟨sl,q⟩:=I.base.slot b o e n hb hx
  obtain ⟨sl',q'⟩:=any b _ q (ne b o e).1 (ne b o e).2
  exact ⟨sl',q'⟩
 ·obtain ⟨o',q⟩:=I.base.there b o e hx
  obtain ⟨sl',q'⟩:=any b _ q (ne b o e).1 (ne b o e).2
  exact ⟨_,q'⟩
 ·obtain ⟨m,⟨o,es,ep,ho,hd,r⟩,hl⟩:=I.loc
  obtain ⟨sl,q⟩:=any _ o ho (fun z=>ha.loc z.symm) (fun z=>hT.loc z.symm)
  refine ⟨m,⟨_,es,ep,q,hd,r⟩,fun i y v e1 e2 e3=>?_⟩
  obtain ⟨u,ru,lk⟩:=hl i y v e1 e2 e3
  refine ⟨u,ru,lk.elim .inl fun ⟨k,c,e,z⟩=>.inr ⟨k,c,e,cellK y c e _ z⟩⟩
 ·obtain ⟨v,z⟩:=I.cell y c e
  exact ⟨v,cellK y c e v z⟩
 ·obtain ⟨e,n,nl,nf,d⟩:=I.pin p hp
  exact ⟨k1 p.1 p.2 e (nst _ nl nf) (ha.pin p hp) (hT.pin p hp),n,nl,nf,d⟩
 ·refine (I.hok b o e).stay (fun c u hc q=>k1 c u q (fun z=>?_) (fun z=>?_) (fun z=>?_)) (fun _ q=>q) fun _ _ q=>q
  ·have:=I.stkFree c z
   rcases hc with rfl | hc
   ·rw [e] at this; cases this
   ·rw [hc] at this; cases this
  ·subst z
   rcases hc with rfl | hc
   ·rw [ha.free] at e; cases e
   ·rw [ha.free] at hc; cases hc
  ·subst z
   rcases hc with rfl | hc
   ·rw [hT.free] at e; cases e
   ·rw [hT.free] at hc; cases hc
theorem Inv.track (I:Inv X pins σ H s) (ha:Apart X pins H a) (ob:ObjOk X.prog X.w (upd H a o) s.heap a o):Inv X pins σ (upd H a o) s:=by
 have ne:∀ {b:Addr} {u:HO},H b=some u→b≠a:=fun {b u} e z=>by rw [z,ha.free] at e; cases e
 have up:∀ {b:Addr} {u:HO},H b=some u→upd H a o b=some u:=fun {b u} e=>by rw [z0d (ne e)]; exact e
 have no:∀ {b:Addr},b≠a→H b=none→upd H a o b=none:=fun {b} n e=>by rw [z0d n]; exact e
 refine ⟨I.ok,I.os,I.bare,⟨I.base.keep,I.base.slot,fun b u e n hx=>no (fun z=>by rw [z,ha.old] at e; cases e) (I.base.free b u e n hx),I.base.there,fun b xs e=>up (I.base.tups b xs e),fun b u z e=>up (I.base.frzs b u z e),fun b ps e=>?_⟩,I.loc,I.cell,no (Ne.symm ha.loc) I.free,fun x c e=>no (ha.cel x c e) (I.freeC x c e),fun p hp=>?_,fun b u e=>?_,I.len⟩
 ·obtain ⟨m,q⟩:=I.base.tbls b ps e
  exact ⟨m,up q⟩
 ·obtain ⟨e,n,nl,nf,d⟩:=I.pin p hp
  exact ⟨e,no (ha.pin p hp) n,nl,nf,d⟩
 ·by_cases hb:b=a
  ·subst hb
   rw [z0p] at e
   cases e
   exact ob
  ·rw [z0d hb] at e
   exact (I.hok b u e).stay (fun _ _ _ q=>q) (fun c q=>up q) fun c xs q=>up q
theorem z9b (I:Inv X pins σ H s) (hN:X.N.Nodup) (hi:X.N[i]? = some x) (hk:X.env.scope.names.lookup x=some .local)
  (h:∀ s',Inv X pins (σ.set i none) H s'→Q () s'):W9 M A (do bindName X.env x .none; unbindBehindTheSuite X.env x pos) Q E s:=by
 have hiσ:i < σ.length:=by rw [I.len]; exact (Wb.mp hi).1
 refine W1 (wpAny_bindName (z3M (v:=.non) (u:=.none) I hN hi (.inl hk) rfl (fun s1 I1 _=>?_) (.inr hk)))
 obtain ⟨m,hn,hl⟩:=id I1.loc
 obtain ⟨u,ru,lk⟩:=hl i x .non hi (Wl hiσ) (.inl hk)
 have hv:m x=some u:=by
  rcases lk with ⟨_,e⟩ | ⟨z,_⟩
  ·exact e
  ·have:X.env.kindOf x=some .local:=hk
   rw [this] at z
   rcases z with z | z <;> cases z
 refine wpAny_onRaise (wpAny_unbindName_local hk hn hv (by rw [I.ok.kind]; rfl) fun h' w' hn' hs=>h _ ?_)
 obtain ⟨oL,_,_,hoL,_⟩:=id hn
 have cne:=I1.cne
 refine ⟨I1.ok,I1.os,I1.bare,⟨fun b o e n hb hx=>?_,fun b o e n hb hx=>?_,I1.base.free,fun b o e hx=>?_,I1.base.tups,I1.base.frzs,I1.base.tbls⟩,⟨_,hn',fun j y v' e1 e2 e3=>?_⟩,fun y c e=>?_,I1.free,I1.freeC,fun p hp=>?_,fun b ob e=>?_,by simpa using I.len⟩
 ·exact (hs.2 b (I1.neL e)).trans (I1.base.keep b o e n hb hx)
 ·obtain ⟨sl,q⟩:=I1.base.slot b o e n hb hx
  exact ⟨sl,(hs.2 b (I1.neL e)).trans q⟩
 ·obtain ⟨o',q⟩:=I1.base.there b o e hx
  exact ⟨o',(hs.2 b (I1.neL e)).trans q⟩
 ·by_cases hj:j=i
  ·subst hj
   rw [Wl hiσ] at e2
   cases e2
  ·rw [W4 (Ne.symm hj)] at e2
   obtain ⟨u',r',q⟩:=hl j y v' e1 (by rw [W4 (Ne.symm hj)]; exact e2) e3
   have hyx:y≠x:=fun z=>hj (z6y hN e1 (z ▸ hi))
   refine ⟨u',r',?_⟩
   rcases q with ⟨k,e⟩ | ⟨k,c,e,z⟩
   ·exact .inl ⟨k,by simp [hyx,e]⟩
   ·exact .inr ⟨k,c,e,z.sameBut hs (cne y c e)⟩
 ·obtain ⟨w2,z⟩:=I1.cell y c e
  exact ⟨w2,z.sameBut hs (cne y c e)⟩
 ·obtain ⟨e,n,nl,nf,d⟩:=I1.pin p hp
  exact ⟨(hs.2 p.1 nl).trans e,n,nl,nf,d⟩
 ·refine (I1.hok b ob e).stay (fun c u' hc q=>(hs.2 c fun z=>?_).trans q) (fun _ q=>q) fun _ _ q=>q
  subst z
  have:=I1.free
  rcases hc with rfl | hc
  ·rw [e] at this; cases this
  ·rw [hc] at this; cases this
end
section
variable {prog:Wj} {w:Wp} {A:Wo} {E:Value→W2→Prop} {K:W0}
theorem zb4 {C B e:Addr} {oe:Obj} {h:Heap} {g:Array GenState} {d:Drawn} {t:Nat} {os:OsState} {Q:Bool→W2→Prop} (X:K.In h) (qB:ExcC K B) (qm:PySem.W.mroIn K C (.ref B)=some true) (he:h.get? e=some oe) (hc:oe.cls = .ref C)
  (hq:Q true ⟨h,g,d,t,os⟩):W9 (model prog w) A (excMatches (.ref e) (.ref B)) Q E ⟨h,g,d,t,os⟩:=by
 obtain ⟨bm,N,nm,qn,bs,hdct,sn,sub,ab,col,dd,k0,k1,k2,k3,k5,mN,hB,_,_,hT⟩:=qB.obj X
 have cB:(Value.ref B :: bm).contains (.type "BaseException")=true:=by rw [JA,hT.hasType (X:="BaseException") (b:=true) rfl,Bool.or_true]
 have lk:=PySem.W.looks_mroIn (M:=model prog w) X qm
 have f:=tc_notTuple
 unfold excMatches
 repeat (first | with_reducible refine PySem.W.Looks.at lk ?_ | (with_reducible refine Qc he ?_; rw [hc]) | with_reducible refine Qc hB ?_ | (with_reducible refine wpAny_isSubtype_exc hB ?_; rw [cB]) | wp_step)
 exact hq
end
def Cx.wt (X:Cx) (pn:List (Addr×Obj)) (xe:Value→W2→Prop):Cx:={ X with pn:=pn,xe:=xe }
def Cx.hand (X:Cx) (a:Addr):Cx:={ X with A:=X.A.mark (some (.ref a)),calm:=false,xe:=fun _ _=>False }
section
variable {X:Cx} {pins ps:List (Addr×Obj)} {σ:St} {H:Hp} {s:W2} {a:Addr} {xe:Value→W2→Prop} {pn:List (Addr×Obj)}
theorem Cx.Ok.wt (o:X.Ok):(X.wt pn xe).Ok:=⟨o.mod,o.kind,o.glob,o.blt,o.above,o.inj,o.has,o.cab,o.hd,o.frames,o.stk,o.exf,o.bs,o.bsz,o.noex,o.exfs,o.funs,o.frf⟩
theorem Cx.Ok.hand (o:X.Ok):(X.hand a).Ok:=⟨o.mod,o.kind,o.glob,o.blt,o.above,o.inj,o.has,o.cab,fun z=>(by cases z),o.frames,o.stk,o.exf,o.bs,o.bsz,o.noex,o.exfs,o.funs,o.frf⟩
theorem Inv.wt (I:Inv X pins σ H s):Inv (X.wt (X.pn ++ pins) xe) [] σ H s:=⟨I.ok.wt,I.os,I.bare,I.base,I.loc,I.cell,I.free,I.freeC,fun p hp=>I.pin p (by simpa [Cx.wt] using hp),I.hok,I.len⟩
theorem Inv.unwt (o:X.Ok) (J:Inv (X.wt (X.pn ++ pins) xe) ps σ H s):Inv X pins σ H s:=⟨o,J.os,J.bare,J.base,J.loc,J.cell,J.free,J.freeC,fun p hp=>J.pin p (Jl _ hp),J.hok,J.len⟩
theorem Inv.hand (I:Inv X pins σ H s):Inv (X.hand a) pins σ H s:=⟨I.ok.hand,I.os,I.bare,I.base,I.loc,I.cell,I.free,I.freeC,I.pin,I.hok,I.len⟩
theorem Inv.unhand (o:X.Ok) (J:Inv (X.hand a) pins σ H s):Inv X pins σ H s:=⟨o,J.os,J.bare,J.base,J.loc,J.cell,J.free,J.freeC,J.pin,J.hok,J.len⟩
theorem Apart.unwt (h:Apart (X.wt (X.pn ++ pins) xe) ps H a):Apart X pins H a:=⟨h.old,h.free,h.loc,h.cel,fun p hp=>h.pin p (Jl _ hp)⟩
theorem SP.unwt (o:X.Ok) (h:SP (X.wt (X.pn ++ pins) xe) ps D f s):SP X pins D f s:=by
 cases f with
 | next=>obtain ⟨σ',H',J,q⟩:=h; exact ⟨σ',H',Inv.unwt o J,q⟩
 | brk=>obtain ⟨σ',H',J,q⟩:=h; exact ⟨σ',H',Inv.unwt o J,q⟩
 | cont=>obtain ⟨σ',H',J,q⟩:=h; exact ⟨σ',H',Inv.unwt o J,q⟩
 | ret u=>obtain ⟨v,σ',H',J,r,q⟩:=h; exact ⟨v,σ',H',Inv.unwt o J,r,q⟩
def zeH (X:Cx) (pins:List (Addr×Obj)) (H:Hp) (s:W2) (a C:Addr):Prop:=∃ T,Fly s.heap a C T∧Apart X pins H a∧Apart X pins H T
def Ends.hand (D:Ends) (i:Nat):Ends where
 nx:=fun σ H=>D.nx (σ.set i none) H
 rt:=D.rt
 bk:=fun σ H=>D.bk (σ.set i none) H
 ct:=fun σ H=>D.ct (σ.set i none) H
theorem zai {body:List Stmt} {x n:Str} {b₀:Stmt} {suite:List Stmt} {np hpos pos:Pos} {B:Addr} {i:Nat} {tb:(Addr→St→Hp→Prop)→TS} {th:Addr→Addr→TS} (hst:X.stack=X.env :: X.outer) (hf:X.env.frame=some X.env.locals)
  (hN:X.N.Nodup) (hi:X.N[i]? = some n) (hl:X.env.scope.names.lookup n=some .local) (hg:Gl X x) (hm:X.mg x=some (.ref B)) (qB:ExcC X.K B) (hdb:(x == ("__debug__" : Str))=false)
  (hbody:∀ (W:Addr→St→Hp→Prop) (pn:List (Addr×Obj)) (xe:Value→W2→Prop),(∀ ps σ H s a C,Inv (X.wt pn xe) ps σ H s→zeH (X.wt pn xe) ps H s a C→W C σ H→xe (.ref a) s)→PSs (X.wt pn xe) body (tb W))
  (hhand:∀ C a,PSs (X.hand a) (b₀ :: suite) (th C a)) :
  PS X (.Try body [.ExceptHandler (some (.Name x np)) (some n) (b₀ :: suite) hpos] [] [] pos)
   (fun D σ H=>tb (fun C σ' H'=>PySem.W.mroIn X.K C (.ref B)=some true∧∀ a,H' a=none→th C a (D.hand i) (σ'.set i (some (.ref a))) (upd H' a (.ext (DV.excAt C a)))) D σ H):=by
 intro pins s σ H D I hw
 refine wpAny_Try_except (WL (hbody _ (X.pn ++ pins) _ (fun ps σ1 H1 s1 a C J hc hW=>?_) [] s σ H D I.wt hw) (fun f s1 hs=>?_) fun e s1 he=>he)
 ·obtain ⟨T,⟨oe,vs,oT,ts,a0,t1,⟨t2,t2'⟩,t3,t4,t5,t6,t7,t8⟩,pa,pT⟩:=hc
  have J:Inv X pins σ1 H1 s1:=Inv.unwt I.ok J
  have pa:=pa.unwt
  have pT:=pT.unwt
  have hfr:X.A.frames=some (X.env :: X.outer):=by rw [← hst]; exact J.ok.frames
  have hB0:Heap.FlyingW (J9 s1.heap (a :: T :: frs (X.env :: X.outer))) (X.env :: X.outer) a (.ref C) a0 s1.heap:=by
   refine ⟨fun b o z=>Jv _ z,Qv _ (.head _),?_,oe,vs,T,oT,ts,t1,⟨t2,t2'⟩,t3,t4,Qv _ (.tail _ (.head _)),t5,t6,t7,t8⟩
   have:=J.stack
   rw [hst] at this
   exact PySem.W.funFrames_hide this fun env he b hb=>We _ (We _ (Q7.mpr ⟨env,he,hb⟩))
  -- whatever the notes do,ours is kept
  have keepI:∀ h2,Heap.FlyingW (J9 s1.heap (a :: T :: frs (X.env :: X.outer))) (X.env :: X.outer) a (.ref C) a0 h2→s1.heap.UpToSlots h2→Inv X pins σ1 H1 { s1 with heap:=h2 }:=fun h2 hf2 up=>by
   refine J.noted2 pa pT (fun b o z n n1 n2=>hf2.1 b o (QB _ z ?_)) fun b o z n=>?_
   ·rw [hst] at n
    simp [n,n1,n2]
   ·obtain ⟨_,o',g1,g2⟩:=J.stack.mem n
    rw [z] at g1; cases g1
    exact up b o z g2
  refine wpAny_looks_onW hfr hf hB0 fun h2 held up2=>?_
  refine wpAny_landsW held fun h3 fly3 up3=>?_
  have I3:=keepI h3 fly3 (up2.trans up3)
  obtain ⟨ob,hob,hobc⟩:=fly3.there
  obtain ⟨qm,qh⟩:=hW
  refine wpAny_handleBy_cons (codeAny_handlers_test ?_) (by intro z; cases z)
  have I3h:Inv (X.hand a) pins σ1 H1 { s1 with heap:=h3 }:=I3.hand
  refine z39 (X:=X.hand a) I3h hg hm ?_ hdb
  refine zb4 I3.kIn qB qm hob hobc ?_
  refine codeAny_handlers_suite_as (lands_againW fly3 fun h4 fly4 up4=>?_)
  have I4:=keepI h4 fly4 ((up2.trans up3).trans up4)
  obtain ⟨oe4,vs4,_,_,_,u1,⟨u2,_⟩,u3,_⟩:=fly4.2.2.2
  have I5:Inv X pins σ1 (upd H1 a (.ext (DV.excAt C a))) { s1 with heap:=h4 }:=I4.track pa ⟨⟨oe4,u1,u2,vs4,u3⟩,⟨oe4,u1⟩,fun h1 h2 ⟨o,e1,e2⟩ k=>⟨o,k o e1,e2⟩⟩
  refine z3M (v:=.ref a) (u:=.ref a) (X:=X.hand a) I5.hand hN hi (.inl hl) rfl (fun s6 I6 _=>?_) (.inr hl)
  refine WL (hhand C a pins s6 _ _ (D.hand i) I6 (qh a pa.free)) (fun f s7 hs=>?_) (fun e s7 he=>he.elim)
  have un:∀ {σ':St} {H':Hp} {Q:Flow→W2→Prop},Inv (X.hand a) pins σ' H' s7→(∀ s8,Inv X pins (σ'.set i none) H' s8→Q f s8)→W9 (model X.prog X.w) X.A (do bindName X.env n .none; unbindBehindTheSuite X.env n hpos) (fun _ s8=>Q f s8) X.xe s7 :=
   fun {σ' H' Q} J7 k=>z9b (Inv.unhand I.ok J7) hN hi hl fun s8 J8=>k s8 J8
  cases f with
  | next=>obtain ⟨σ',H',J7,q⟩:=hs; exact un J7 fun s8 J8=>⟨_,_,J8,q⟩
  | brk=>obtain ⟨σ',H',J7,q⟩:=hs; exact un J7 fun s8 J8=>⟨_,_,J8,q⟩
  | cont=>obtain ⟨σ',H',J7,q⟩:=hs; exact un J7 fun s8 J8=>⟨_,_,J8,q⟩
  | ret u=>obtain ⟨v,σ',H',J7,r,q⟩:=hs; exact un J7 fun s8 J8=>⟨v,_,_,J8,r,q⟩
 ·have hs:=SP.unwt I.ok hs
  cases f with
  | next=>exact Ja hs
  | brk=>exact hs
  | cont=>exact hs
  | ret u=>exact hs
end
def XOk (X:Cx) (W:Addr→St→Hp→Prop):Prop:=∀ ps σ H s a C,Inv X ps σ H s→zeH X ps H s a C→W C σ H→X.xe (.ref a) s
def Young (X:Cx) (ps:List (Addr×Obj)) (H:Hp) (s:W2) (a C:Addr):Prop:=(∃ oe vs a0,s.heap.get? a=some oe∧(oe.cls = .ref C∧vs[0]? = some a0)∧oe.data = .fields vs∧vs[1]? = some .none)∧Apart X ps H a
def XOkR (X:Cx) (W:Addr→St→Hp→Prop):Prop:=∀ ps σ H s a C,Inv X ps σ H s→Young X ps H s a C→W C σ H→X.xe (.ref a) s
section
variable {X:Cx} {pins:List (Addr×Obj)} {σ:St} {H:Hp} {s:W2} {b:Addr}
theorem Inv.apart (I:Inv X pins σ H s) (hx:X.ex=[]) (e:s.heap.get? b=none) (f:H' b=none):Apart X pins H' b:=by
 refine ⟨(I.gone hx e).2,f,fun z=>?_,fun x c hc z=>?_,fun p hp z=>?_⟩
 ·obtain ⟨m,⟨o,_,_,ho,_⟩,_⟩:=I.loc
  rw [← z,e] at ho; cases ho
 ·obtain ⟨v,o,ho,_⟩:=I.cell x c hc
  rw [z,e] at ho; cases ho
 ·have:=(I.pin p hp).1
  rw [z,e] at this; cases this
theorem Inv.afterX (I:Inv X pins σ H s) (hx:X.ex=[]) (h:CXe X.prog X.w X.stack H s E v s'):∃ a C H',v = .ref a∧Inv X pins σ H' s'∧zeH X pins H' s' a C∧E (.ref C) none H':=by
 obtain ⟨a,C,T,H',rfl,ho,hb,un,hok,fl,na,nT,fa,fT,q⟩:=h
 exact ⟨a,C,H',rfl,I.call' (ch:=[]) ho un hok hb (fun b z=>absurd z (by simp)),⟨T,fl,I.apart hx na fa,I.apart hx nT fT⟩,q⟩
end
section
variable {X:Cx} {k:Nat} {f:Addr} {fd:WD} {ps:List Str} {sp:Sp} {x:Str} {p pos:Pos} {e:Expr} {es:List Expr} {t:TA} {W:Addr→St→Hp→Prop}
theorem z8K (F:FnOk X.prog X.w X.K X.mg X.base (CXe X.prog X.w) k f fd ps sp) (hr:Room k X.A) (hex:X.ex=[]) (hg:Gl X x) (hm:X.mg x=some (.ref f)) (hk:Qa X.K (.ref f)=true) (hb:Binds X.K fd ps []) (hx:XOk X W)
  (ha:PA X (e :: es) t) (hdb:(x == ("__debug__" : Str))=false:=by decide) (he:W7 (e :: es) X.env=(false,eval e X.env) :: W7 es X.env:=by rfl) (hpl:(WT pos (W7 es X.env)).any (·.1)=false:=by rfl) :
  PE X (.Call (.Name x p) (e :: es) [] pos) (fun σ H Q=>t σ H fun vs H1=>sp vs H1 Q (fun c _ H'=>∃ C,c = .ref C∧W C σ H')):=by
 intro pins s σ H Q I h
 refine QG (z39 I hg hm ?_ hdb)
 refine PySem.W.callWith_K (h₀:=X.base) I.ok.mod.kin hk (thn (ha pos pins s σ H _ I h) fun us s1 ⟨vs,H1,I1,r,q⟩=>⟨I1.kIn,?_⟩) he hpl
 have hl:(us ++ []).length=ps.length:=by rw [WG,← r.length]; exact F.len _ _ _ _ q
 refine wpAny_call (Jw (F.run X.A X.stack s1 H1 ⟨us,[]⟩ us vs Q _ hr I1.env0 (by have:=hb s1 us I1.kIn hl; rwa [WG] at this) r q) fun r s' hq=>?_)
 cases r with
 | error e =>
  obtain ⟨a,C,H',ea,I2,co,C',hC,hW⟩:=I1.afterX (E:=fun c _ H'=>∃ C,c = .ref C∧W C σ H') (v:=e) (s':=s') hex hq
  cases hC
  subst ea
  exact hx pins σ H' s' a C I2 co hW
 | ok fl =>
  cases fl with
  | ret u=>exact I1.after hq
  | next=>exact False.elim hq
  | brk=>exact False.elim hq
  | cont=>exact False.elim hq
end
section
variable {P:Wj} {w:Wp} {K:W0} {mg:Str→Option Value} {base:Heap} {N:List Str} {qual:Str} {scope:Scope} {f:Addr} {cd:Value} {A:Wo} {outer:List Env} {s₀:W2} {H₀:Hp} {E:XK}
theorem zby (hW:∀ C σ H,W C σ H→E (.ref C) none H):XOkR (cxOf (CXe P w) P w K mg base N qual scope f cd A outer s₀ H₀ E) W:=fun ps σ H s a C I y q=>by
 obtain ⟨⟨oe,vs,a0,t1,⟨t2,t2'⟩,t3,t4⟩,pa⟩:=y
 have hstk:s.heap.FunFrames base (Qq qual scope s₀.heap.objs.size f cd :: outer):=I.stack
 refine wpAny_leaving_firstW (base:=J9 s.heap (a :: frs (Qq qual scope s₀.heap.objs.size f cd :: outer))) (outer:=outer) (L:=s₀.heap.objs.size) (oe:=oe) I.ok.frames
  (PySem.W.funFrames_hide hstk fun env he b hf=>We _ (Q7.mpr ⟨env,he,hf⟩)) rfl t1 (fun b o z=>Jv _ z) (Qv _ (.head _)) t3 t4 t2' fun h2 hL=>?_
 rw [t2] at hL
 obtain ⟨k1,k2,T,hT,nT⟩:=zcn rfl hL
 have gT:=I.gone rfl nT
 have pT:=I.apart rfl nT gT.1
 have I2:Inv (cxOf (CXe P w) P w K mg base N qual scope f cd A outer s₀ H₀ E) ps σ H { s with heap:=h2 }:=I.noted2 pa pT (fun b o z n n1 n2=>k1 b o z n1 n) fun b o z n=>by
  obtain ⟨_,o',g1,g2⟩:=I.stack.mem n
  rw [z] at g1; cases g1
  exact k2 b o z g2
 exact ⟨a,C,T,H,rfl,I.os,I.bare,I2.base,I2.hok,hT,pa.old,gT.2,pa.free,gT.1,hW C σ H q⟩
theorem z9K (hW:∀ C σ H,W C σ H→E (.ref C) none H):XOk (cxOf (CXe P w) P w K mg base N qual scope f cd A outer s₀ H₀ E) W:=fun ps σ H s a C I hc q=>by
 obtain ⟨T,⟨oe,vs,oT,ts,a0,t1,⟨t2,t2'⟩,t3,t4,t5,t6,t7,t8⟩,pa,pT⟩:=hc
 have hstk:s.heap.FunFrames base (Qq qual scope s₀.heap.objs.size f cd :: outer):=I.stack
 refine wpAny_leaving_nextW (base:=J9 s.heap (a :: T :: frs (Qq qual scope s₀.heap.objs.size f cd :: outer))) (outer:=outer) (L:=s₀.heap.objs.size) (cls:=.ref C) (a0:=a0) I.ok.frames
  (PySem.W.funFrames_hide hstk fun env he b hf=>We _ (We _ (Q7.mpr ⟨env,he,hf⟩))) rfl
  ⟨oe,vs,T,oT,ts,t1,⟨t2,t2'⟩,t3,t4,Qv _ (.tail _ (.head _)),t5,t6,t7,t8⟩ (fun b o z=>Jv _ z) (Qv _ (.head _)) fun h2 hL=>?_
 obtain ⟨l1,l2,⟨oe',vs',T',oT',ts',u1,u2,u3,u4,u5,u6,u7,u8,u9⟩,l4⟩:=hL
 have I2:Inv (cxOf (CXe P w) P w K mg base N qual scope f cd A outer s₀ H₀ E) ps σ H { s with heap:=h2 }:=I.noted2 pa pT (fun b o z n n1 n2=>l1 b o (QB _ z (by
   have n':b ∉ frs (Qq qual scope s₀.heap.objs.size f cd :: outer):=n
   simp [n',n1,n2]))) fun b o z n=>by
  obtain ⟨_,o',g1,g2⟩:=I.stack.mem n
  rw [z] at g1; cases g1
  exact l4 b o z g2
 have hT':H T'=none∧s₀.heap.get? T'=none:=by
  by_cases hh:T'=T
  ·rw [hh]; exact ⟨pT.free,pT.old⟩
  ·cases z:s.heap.get? T' with
   | none=>exact I.gone rfl z
   | some o =>
    exfalso
    by_cases hf:T' ∈ frs (Qq qual scope s₀.heap.objs.size f cd :: outer)
    ·obtain ⟨_,o',g1,g2⟩:=l2.mem hf
     rw [u7] at g1
     cases g1
     exact g2 ts' u8
    ·rw [QB _ z (by simp [hh,u6,hf])] at u5
     cases u5
 exact ⟨a,C,T',H,rfl,I.os,I.bare,I2.base,I2.hok,⟨oe',vs',oT',ts',a0,u1,u2,u3,u4,u6,u7,u8,u9⟩,pa.old,hT'.2,pa.free,hT'.1,hW C σ H q⟩
end
end L2
namespace DV
open PySem PySem.Spec PyProof.Rows L2
section
variable {c:Fc} {σ σ':St} {δ δ':Dl} {H H':Hp} {g:Xc→Dl→Prop}
theorem Ok.xc (k:Ok c σ δ H):Ok { c with xc:=g } σ δ H:=⟨k.keep,k.bd,k.ith,k.len,k.slot,k.own,k.inj,k.pinned⟩
theorem Ok.unxc (k:Ok { c with xc:=g } σ δ H):Ok c σ δ H:=⟨k.keep,k.bd,k.ith,k.len,k.slot,k.own,k.inj,k.pinned⟩
theorem Ok.since (h0:c.H₀=H) (k:Ok c σ δ H) (hI:∀ a,c.I a→Own σ δ a) (k':Ok c σ' δ' H'):Aft c σ δ H σ' δ' H':=by
 refine ⟨k',fun a o e n=>k'.keep a o (by rw [h0]; exact e) fun z=>n (hI a z),fun a ⟨i,d,e1,e2⟩=>?_,fun a o e=>?_⟩
 ·obtain ⟨b,e3,_,q,_⟩:=k'.own i d e1
  rw [e2] at e3; cases e3
  rcases q with q | q
  ·exact .inl (hI a q)
  ·rw [h0] at q; exact .inr q
 ·by_cases z:c.I a
  ·exact k'.ith a z
  ·exact ⟨o,k'.keep a o (by rw [h0]; exact e) z⟩
end
def wD (mg:Str→Option Value) (c:Fc) (C:Addr) (σ:St) (H:Hp):Prop:=∃ (x:Tx) (δ:Dl),mg (toS x)=some (.ref C)∧Ok c σ δ H∧c.xc ⟨x,[]⟩ δ
def z3y (x:Tx):DS:=fun δ=>.exc ⟨x,[]⟩ δ
theorem z6e {X:Cx} {c:Fc} {x:Str} {C:Addr} {np cpos pos:Pos} (y:Tx) (q:ExcC X.K C) (hc:X.calm=true) (hg:Gl X x) (hm:X.mg x=some (.ref C)) (hx:XOkR X (wD X.mg c)) (hy:x=toS y:=by decide +kernel) (hd:(x == ("__debug__" : Str))=false:=by decide) (hex:X.ex=[]:=by rfl) :
  SS X c (.Raise (some (.Call (.Name x np) [] [] cpos)) none pos) (z3y y) :=
 PS.weak (zak (W:=fun σ H=>wD X.mg c C σ H) q hc hg hm hd fun ps σ H s h' e I w hm=>by
  obtain ⟨t,ht,_⟩:=hm.there
  have I1:Inv X ps σ H { s with heap:=h' }:=I.kept (t':=s.toks) hm.keeps
  exact hx ps σ H _ e C I1 ⟨⟨_,_,_,ht,⟨rfl,rfl⟩,rfl,rfl⟩,I.apart hex hm.new (I.gone hex hm.new).1⟩ w) fun D σ H ⟨δ,k,w⟩=>⟨y,δ,by rw [← hy]; exact hm,k,w⟩
abbrev DX:=List S→Option ((S×List S) ⊕ (Tx×List S))
def runX (f:DS) (n:Nat) (ss:List S):Option ((S×List S) ⊕ (Tx×List S)):=match f (z0f n ss) with
 | .ok fl δ=>(z0H fl).bind fun r=>(z0a 0 ss δ).map fun outs=>.inl (r,outs)
 | .exc x δ=>if x.flds.isEmpty then (z0a 0 ss δ).map fun outs=>.inr (x.cls,outs) else none
 | .stuck=>none
def spX (mg:Str→Option Value) (n:Nat) (G:DX):Sp:=fun vs H Q E=>∃ ss B,vs.length=n∧Ok ⟨H,B,z0z 0 ss vs,fun _ _=>False⟩ (z0X vs) (z14 ss) H∧∃ y,G ss=some y∧match y with
 | .inl (r,outs)=>∀ v H',Aft ⟨H,B,z0z 0 ss vs,fun _ _=>False⟩ (z0X vs) (z14 ss) H (z0X vs) (z14 outs) H'→RepS ⟨H,B,z0z 0 ss vs,fun _ _=>False⟩ (z0X vs) (z14 outs) H H' v r→Q v H'
 | .inr (x,outs)=>∀ C H',mg (toS x)=some (.ref C)→Aft ⟨H,B,z0z 0 ss vs,fun _ _=>False⟩ (z0X vs) (z14 ss) H (z0X vs) (z14 outs) H'→E (.ref C) none H'
def KFnX (P:Wj) (w:Wp) (K:W0) (mg:Str→Option Value) (base:Heap) (k:Nat) (x:Str) (n:Nat) (G:DX):Prop :=
 ∃ (f:Addr) (fd:WD) (ps:List Str),mg x=some (.ref f)∧Qa K (.ref f)=true∧Binds K fd ps []∧FnOk P w K mg base (CXe P w) k f fd ps (spX mg n G)
theorem zca (h:(⟨H,B,z0z 0 ss vs,g⟩:Fc).I a):Own (z0X vs) (z14 ss) a:=by
 obtain ⟨i,hi⟩:=h
 obtain ⟨j,d,_,e1,e2⟩:=z1m hi
 exact ⟨j,d,someS_get.mpr e1,some'_get.mpr e2⟩
section
variable {P:Wj} {w:Wp} {K:W0} {mg:Str→Option Value} {base:Heap}
theorem Aft.unxc (x:Aft { c with xc:=g } σ δ H σ' δ' H'):Aft c σ δ H σ' δ' H':=⟨x.ok.unxc,x.keep,x.own,x.there⟩
theorem RepS.unxc (h:RepS { c with xc:=g } σ δ Hs H v r):RepS c σ δ Hs H v r:=by
 cases r with
 | pure d=>exact h
 | own d =>
  obtain ⟨a,e,o,n,f,k,q⟩:=h
  exact ⟨a,e,o,n,f,⟨k.keep,k.bd,k.ith,k.len,k.slot,k.own,k.inj,k.pinned⟩,q⟩
theorem zg4 {x qual:Str} {st:Stmt} {f:Addr} {fd:WD} {N ps:List Str} {k:Nat} {np:List Nat} {fb:DS} {G:DX} (F:Fun K x qual st f fd) (S:FnScope N ps (z04 st))
  (hbody:∀ (c:Fc) (cdv:Value) (A:Wo) (outer:List Env) (s:W2) (H:Hp) (E:XK),Room k (A.deeper (Qq qual (z04 st) s.heap.objs.size f cdv))→Np c np →
   XOk (cxOf (CXe P w) P w K mg base N qual (z04 st) f cdv A outer s H E) (wD mg c)→XOkR (cxOf (CXe P w) P w K mg base N qual (z04 st) f cdv A outer s H E) (wD mg c)→SSs (cxOf (CXe P w) P w K mg base N qual (z04 st) f cdv A outer s H E) c (z19 st) fb)
  (hG:∀ ss y,G ss=some y→ioOk np 0 ss=true∧runX fb N.length ss=some y):FnOk P w K mg base (CXe P w) (k + 1) f fd ps (spX mg ps.length G):=by
 obtain ⟨oc,od,kV,doc,pm,an,cdv,ct,osl,rfl,lk,hcd⟩:=F.ex
 refine zg7 lk hcd S (fun vs H Q E h=>?_) fun A outer s H vs Q E hr h=>?_
 ·obtain ⟨ss,B,hl,_⟩:=h
  exact hl
 ·obtain ⟨ss,B,hl,ok,y,hg,q⟩:=h
  obtain ⟨hio,hrun⟩:=hG ss _ hg
  have hvs:ss.length=vs.length:=by have:=ok.len; simpa using this
  let g:Xc→Dl→Prop:=fun x δ'=>∃ outs,x.flds=[]∧z0a 0 ss δ'=some outs∧y = .inr (x.cls,outs)
  have np':Np ⟨H,B,z0z 0 ss vs,g⟩ np:=fun p hp=>by
   obtain ⟨j,d,e,h1,_⟩:=z1m (i:=p.1) (a:=p.2) hp
   rw [e]
   exact z6C hio h1
  have hst:start N vs=z0X vs ++ Wd (N.length - ss.length) none:=by rw [hvs]; rfl
  have ok0:Ok ⟨H,B,z0z 0 ss vs,fun _ _=>False⟩ (start N vs) (z0f N.length ss) H:=by rw [hst]; exact ok.ext _
  have wish:∀ C σ' H',wD mg ⟨H,B,z0z 0 ss vs,g⟩ C σ' H'→E (.ref C) none H':=fun C σ' H' ⟨z,δ',hm,k',outs,_,ho,hy⟩=>by
   rw [hy] at q
   have k1:Ok ⟨H,B,z0z 0 ss vs,fun _ _=>False⟩ σ' δ' H':=⟨k'.keep,k'.bd,k'.ith,k'.len,k'.slot,k'.own,k'.inj,k'.pinned⟩
   have a:Aft ⟨H,B,z0z 0 ss vs,fun _ _=>False⟩ (z0X vs ++ Wd (N.length - ss.length) none) (z14 ss ++ Wd (N.length - ss.length) none) H σ' δ' H' :=
    Ok.since rfl (by rw [hst] at ok0; exact ok0) (fun a z=>Own.ext.mpr (zca z)) k1
   exact q C H' hm (z8g rfl ok a ho).1
  refine ⟨tDS ⟨H,B,z0z 0 ss vs,g⟩ fb,hbody ⟨H,B,z0z 0 ss vs,g⟩ cdv A outer s H E hr np' (z9K wish) (zby wish),z0f N.length ss,⟨ok0.keep,ok0.bd,ok0.ith,ok0.len,ok0.slot,ok0.own,ok0.inj,ok0.pinned⟩,?_⟩
  unfold runX at hrun
  unfold z1E
  cases e:fb (z0f N.length ss) with
  | stuck=>rw [e] at hrun; cases hrun
  | exc x δx =>
   rw [e] at hrun
   simp only at hrun
   split at hrun
   ·rename_i hfl
    cases eo:z0a 0 ss δx with
    | none=>rw [eo] at hrun; cases hrun
    | some os =>
     rw [eo] at hrun
     cases hrun
     exact ⟨os,List.isEmpty_iff.mp hfl,eo,rfl⟩
   ·cases hrun
  | ok fl δ' =>
   rw [e] at hrun
   show ∀ σ' H',Aft _ (start N vs) (z0f N.length ss) H σ' δ' H'→fin _ _ σ' δ' H' fl
   intro σ' H' a
   rw [hst] at a
   have k1:=a.ok
   have a1:Aft ⟨H,B,z0z 0 ss vs,fun _ _=>False⟩ (z0X vs ++ Wd (N.length - ss.length) none) (z0f N.length ss) H σ' δ' H':=⟨⟨k1.keep,k1.bd,k1.ith,k1.len,k1.slot,k1.own,k1.inj,k1.pinned⟩,a.keep,a.own,a.there⟩
   simp only at hrun
   cases fl with
   | brk=>cases hrun
   | cont=>cases hrun
   | next =>
    simp only [z0H,WE] at hrun
    cases eo:z0a 0 ss δ' with
    | none=>rw [eo] at hrun; cases hrun
    | some os =>
     rw [eo] at hrun
     cases hrun
     obtain ⟨l1,l2⟩:=z8g rfl ok a1 eo
     exact q .non H' l1 .non
   | ret r' =>
    simp only [z0H,WE] at hrun
    cases eo:z0a 0 ss δ' with
    | none=>rw [eo] at hrun; cases hrun
    | some os =>
     rw [eo] at hrun
     cases hrun
     obtain ⟨l1,l2⟩:=z8g rfl ok a1 eo
     exact fun v rv=>q v H' l1 (l2 v _ (RepS.unxc (c:=⟨H,B,z0z 0 ss vs,fun _ _=>False⟩) (g:=g) rv))
theorem z3H {x qual:Str} {st:Stmt} {f:Addr} {fd:WD} {N ps:List Str} {k:Nat} {np:List Nat} {fb:DS} {G:DX} (F:Fun K x qual st f fd) (hm:mg x=some (.ref f)) (hb:Binds K fd ps []) (S:FnScope N ps (z04 st))
  (hbody:∀ (c:Fc) (cdv:Value) (A:Wo) (outer:List Env) (s:W2) (H:Hp) (E:XK),Room k (A.deeper (Qq qual (z04 st) s.heap.objs.size f cdv))→Np c np →
   XOk (cxOf (CXe P w) P w K mg base N qual (z04 st) f cdv A outer s H E) (wD mg c)→XOkR (cxOf (CXe P w) P w K mg base N qual (z04 st) f cdv A outer s H E) (wD mg c)→SSs (cxOf (CXe P w) P w K mg base N qual (z04 st) f cdv A outer s H E) c (z19 st) fb)
  (hG:∀ ss y,G ss=some y→ioOk np 0 ss=true∧runX fb N.length ss=some y):KFnX P w K mg base (k + 1) x ps.length G:=⟨f,fd,ps,hm,F.kp,hb,zg4 F S hbody hG⟩
end
def ze6:(S×List S) ⊕ (Tx×List S)→List S
 | .inl y=>y.2
 | .inr y=>y.2
def z2X (G:DX):Prop:=∀ ss y,G ss=some y→∀ (j:Nat),(∀ d,ss[j]? = some (.own d)→∃ d',(ze6 y)[j]? = some (.own d'))∧∀ d,ss[j]? = some (.pure d)→∃ d',(ze6 y)[j]? = some (.pure d')
theorem zav {ss os:List S} {δ:Dl} (e:z0a 0 ss δ=some os) (j:Nat):(∀ d,ss[j]? = some (.own d)→∃ d',os[j]? = some (.own d'))∧∀ d,ss[j]? = some (.pure d)→∃ d',os[j]? = some (.pure d'):=by
 obtain ⟨h1,h2⟩:=z58 e
 refine ⟨fun d ed=>?_,fun d ed=>?_⟩
 ·rcases h2 j _ ed with ⟨d',z,_⟩ | ⟨d',d'',_,_,z⟩
  ·cases z
  ·exact ⟨d'',z⟩
 ·rcases h2 j _ ed with ⟨d',z,z'⟩ | ⟨d',d'',z,_⟩
  ·exact ⟨d',z'⟩
  ·cases z
theorem za4 (h:runX fb n ss=some y):∃ δ,z0a 0 ss δ=some (ze6 y):=by
 unfold runX at h
 cases e:fb (z0f n ss) with
 | stuck=>rw [e] at h; cases h
 | exc x δ =>
  rw [e] at h
  simp only at h
  split at h
  ·cases e2:z0a 0 ss δ with
   | none=>rw [e2] at h; cases h
   | some os=>rw [e2] at h; cases h; exact ⟨δ,e2⟩
  ·cases h
 | ok fl δ =>
  rw [e] at h
  simp only at h
  cases e1:z0H fl with
  | none=>rw [e1] at h; cases h
  | some r =>
   rw [e1] at h
   simp only [WE] at h
   cases e2:z0a 0 ss δ with
   | none=>rw [e2] at h; cases h
   | some os=>rw [e2] at h; cases h; exact ⟨δ,e2⟩
def gOfX (np:List Nat) (n:Nat) (b:DS):DX:=fun ss=>if ioOk np 0 ss then runX b n ss else none
theorem z2s (h:gOfX np n b ss=some y):ioOk np 0 ss=true∧runX b n ss=some y:=by
 unfold gOfX at h
 split at h
 ·exact ⟨by assumption,h⟩
 ·cases h
theorem z1G {np:List Nat} {n:Nat} {b:DS}:z2X (gOfX np n b):=fun ss y h j=>by
 obtain ⟨δ,e⟩:=za4 (z2s h).2
 exact zav e j
def z0P (G:DX) (as:List Ak):DE:=fun δ=>if (ios as).all (z0B δ) && ndup (ios as) then (evX as δ).bind fun ds δ1=>match mkA as ds δ1 with
  | none=>.stuck
  | some ss=>match G ss with
   | none=>.stuck
   | some (.inl (r,outs))=>.ok r (putA as outs δ1)
   | some (.inr (x,outs))=>.exc ⟨x,[]⟩ (putA as outs δ1)
 else .stuck
section
variable {X:Cx} {c:Fc} {e:Expr} {es:List Expr} {as:List Ak} {k n:Nat} {x:Str} {G:DX} {pp pos:Pos}
theorem z9E (hK:z2X G) (hl:as.length=n) (h:tD c (z0P G as) σ H Q):tX c as σ H fun vs H1=>spX X.mg n G vs H1 Q (fun c' _ H'=>∃ C,c' = .ref C∧wD X.mg c C σ H'):=by
 obtain ⟨δ,kk,q⟩:=h
 unfold z0P at q
 split at q
 ·rename_i hc
  rw [Wi] at hc
  have nd:=z3p hc.2
  rw [z03] at q
  refine ⟨δ,kk,fun i hi=>?_,z01 q fun ds δ1 q1 vs H1 a1 r1=>?_⟩
  ·have:=Qi.mp hc.1 i (ios_mem.mpr hi)
   unfold z0B at this
   split at this
   ·rename_i d ed
    exact z28 kk ed
   ·cases this
  ·cases em:mkA as ds δ1 with
   | none=>rw [em] at q1; exact q1.elim
   | some ss =>
    rw [em] at q1
    simp only at q1
    cases eg:G ss with
    | none=>rw [eg] at q1; exact q1.elim
    | some y =>
     rw [eg] at q1
     have hin:=z8r a1.ok r1 em nd
     obtain ⟨m1,m2,_⟩:=z7i r1 em
     have g2:=hK ss y eg
     refine ⟨ss,_,by rw [← m2]; exact hl,hin,y,eg,?_⟩
     cases y with
     | inl y =>
      obtain ⟨r,outs⟩:=y
      intro v H2 a2 r2
      obtain ⟨o1,o2⟩:=z4T a1.ok r1 em nd rfl a2 (fun j d ed=>(g2 j).1 d ed) fun j d ed=>(g2 j).2 d ed
      exact q1 v H2 (a1.trans o1) (RepS.back (o2 v r r2) a1)
     | inr y =>
      obtain ⟨z,outs⟩:=y
      intro C H2 hm a2
      obtain ⟨o1,o2⟩:=z4T a1.ok r1 em nd rfl a2 (fun j d ed=>(g2 j).1 d ed) fun j d ed=>(g2 j).2 d ed
      exact ⟨C,rfl,z,putA as outs δ1,hm,o1.ok,q1⟩
 ·exact q.elim
theorem z27 (F:KFnX X.prog X.w X.K X.mg X.base k x n G) (hK:z2X G) (hr:Room k X.A) (hex:X.ex=[]) (hx:XOk X (wD X.mg c)) (hg:Gl X x) (ha:SX X c (e :: es) as) (hl:as.length=n) (hdb:(x == ("__debug__" : Str))=false:=by decide)
  (he:W7 (e :: es) X.env=(false,eval e X.env) :: W7 es X.env:=by rfl) (hpl:(WT pos (W7 es X.env)).any (·.1)=false:=by rfl):SE X c (.Call (.Name x pp) (e :: es) [] pos) (z0P G as):=by
 obtain ⟨f,fd,ps,hm,hk,hb,ok⟩:=F
 exact PE.weak (z8K ok hr hex hg hm hk hb hx ha hdb he hpl) fun σ H Q h=>z9E hK hl h
end
def zed (δ:Dl):Bool:=δ.all fun
 | some (.own _)=>false
 | _=>true
def unset (i:Nat):Rs Fl→Rs Fl
 | .ok fl δ=>.ok fl (δ.set i none)
 | r=>r
def dTry (ce:Tx→Nat) (ys:List Tx) (i:Nat) (fb fh:DS):DS:=fun δ=>if zed δ then match fb δ with
  | .exc x δ'=>if ys.contains x.cls && x.flds.isEmpty && decide (i < δ'.length) then unset i (fh (δ'.set i (some (.pure (.exc (ce x.cls)))))) else .stuck
  | r=>r
 else .stuck
section
variable {c:Fc} {σ σ':St} {δ δ':Dl} {H H':Hp}
theorem zfI (h:Np c []):c.pin=[]:=by
 cases e:c.pin with
 | nil=>rfl
 | cons p r =>
  have:=h p (by rw [e]; exact Wh)
  simp at this
theorem Aft.unset (x:Aft c σ₀ δ₀ H₀ σ δ H) (hp:c.pin=[]) (i:Nat):Aft c σ₀ δ₀ H₀ (σ.set i none) (δ.set i none) H:=by
 have k:=x.ok
 have back:∀ {α:Type} {l:List (Option α)} {j:Nat} {v:α},(l.set i none)[j]? = some (some v)→l[j]? = some (some v)∧i≠j:=fun {α l j v} e=>by
  by_cases hj:i=j
  ·subst hj
   rw [WH] at e
   simp at e
  ·rw [W4 hj] at e
   exact ⟨e,hj⟩
 have own:∀ a,Own (σ.set i none) (δ.set i none) a→Own σ δ a:=fun a ⟨j,d,e1,e2⟩=>⟨j,d,(back e1).1,(back e2).1⟩
 have av:∀ a,Av c (σ.set i none) (δ.set i none) a→Av c σ δ a:=fun a z=>z.elim .inl fun z=>.inr (own a z)
 refine ⟨⟨k.keep,k.bd,k.ith,by simp [k.len],fun j d e=>?_,fun j d e=>?_,fun j1 j2 a d d' e1 e2 e3 e4=>k.inj j1 j2 a d d' (back e1).1 (back e2).1 (back e3).1 (back e4).1,fun p hm=>by rw [hp] at hm; simp at hm⟩,x.keep,fun a z=>x.own a (own a z),x.there⟩
 ·obtain ⟨e',n⟩:=back e
  obtain ⟨v,e1,r⟩:=k.slot j d e'
  exact ⟨v,by rw [W4 n]; exact e1,r.anti fun a z=>.inl (av a z)⟩
 ·obtain ⟨e',n⟩:=back e
  obtain ⟨a,e1,r,q⟩:=k.own j d e'
  exact ⟨a,by rw [W4 n]; exact e1,r.anti fun a z=>.inl (av a z),q⟩
end
section
variable {c:Fc} {σ σ':St} {δ δ':Dl} {H H':Hp} {B':Addr→Prop} {g:Xc→Dl→Prop}
theorem Ok.inTry (k:Ok c σ δ H) (h:zed δ=true):Ok ⟨H,c.B,[],g⟩ σ δ H :=
 ⟨fun _ _ e _=>e,k.bd,fun a ⟨i,z⟩=>(by simp at z),k.len,k.slot,fun i d e=>((by have:=Qi.mp h _ (Wv e); cases this)),k.inj,fun p z=>(by simp at z)⟩
theorem Ok.outTry (k:Ok c σ δ H) (hp:c.pin=[]) (k':Ok ⟨H,B',[],g⟩ σ' δ' H'):Ok { c with B:=B' } σ' δ' H':=by
 have nI:∀ a,¬ c.I a:=fun a ⟨i,z⟩=>by rw [hp] at z; simp at z
 have nI':∀ a,¬ (⟨H,B',[],g⟩:Fc).I a:=fun a ⟨i,z⟩=>by simp at z
 refine ⟨fun a o e n=>k'.keep a o (k.keep a o e n) (nI' a),k'.bd,fun a z=>absurd z (nI a),k'.len,k'.slot,fun i d e=>?_,k'.inj,fun p z=>by rw [show ({ c with B:=B' }:Fc).pin=c.pin from rfl,hp] at z; simp at z⟩
 obtain ⟨a,e1,r,q,nb⟩:=k'.own i d e
 refine ⟨a,e1,r,.inr ?_,nb⟩
 rcases q with q | q
 ·exact absurd q (nI' a)
 ·exact k.fresh₀ q
theorem Aft.outTry (k:Ok c σ δ H) (hp:c.pin=[]) (x:Aft ⟨H,c.B,[],g⟩ σ δ H σ' δ' H'):Aft c σ δ H σ' δ' H':=⟨k.outTry hp x.ok,x.keep,x.own,x.there⟩
theorem RepS.outTry (k:Ok c σ δ H) (hp:c.pin=[]) (h:RepS ⟨H,c.B,[],g⟩ σ' δ' H H' v r):RepS c σ' δ' c.H₀ H' v r:=by
 cases r with
 | pure d=>exact h
 | own d =>
  obtain ⟨a,e,o,n,f,k',q⟩:=h
  exact ⟨a,e,o,n,k.fresh₀ f,k.outTry hp k',k.fresh₀ f⟩
theorem RepS.unset (hp:c.pin=[]) (i:Nat) (h:RepS c σ δ Hs H v r):RepS c (σ.set i none) (δ.set i none) Hs H v r:=by
 have own:∀ a,Own (σ.set i none) (δ.set i none) a→Own σ δ a:=fun a ⟨j,d,e1,e2⟩=>by
  have back:∀ {α:Type} {l:List (Option α)} {v:α},(l.set i none)[j]? = some (some v)→l[j]? = some (some v):=fun {α l v} e=>by
   by_cases hj:i=j
   ·subst hj; rw [WH] at e; simp at e
   ·rw [W4 hj] at e; exact e
  exact ⟨j,d,back e1,back e2⟩
 cases r with
 | pure d=>exact Rep.anti h fun a z=>.inl (z.elim .inl fun z=>.inr (own a z))
 | own d =>
  obtain ⟨a,e,o,n,f,k,q⟩:=h
  exact ⟨a,e,o.anti fun b z=>.inl (z.elim .inl fun z=>.inr (own b z)),n,f,(Aft.unset (Aft.refl k) hp i).ok,q⟩
end
theorem zeR (hnp:Np c []) (hst:X.stack=X.env :: X.outer) (hf:X.env.frame=some X.env.locals)
  (hN:X.N.Nodup) (hi:X.N[i]? = some n) (hl:X.env.scope.names.lookup n=some .local) (hg:Gl X x) (hm:X.mg x=some (.ref B)) (qB:ExcC X.K B)
  (hys:∀ y ∈ ys,X.mg (toS y)=some (.ref (ce y))∧PySem.W.mroIn X.K (ce y) (.ref B)=some true)
  (hb:∀ (c':Fc) (pn:List (Addr×Obj)) (xe:Value→W2→Prop),Np c' []→XOk (X.wt pn xe) (wD X.mg c')→SSs (X.wt pn xe) c' body fb) (hh:∀ a,SSs (X.hand a) c (b₀ :: suite) fh) (hdb:(x == ("__debug__" : Str))=false:=by decide) :
  SS X c (.Try body [.ExceptHandler (some (.Name x np)) (some n) (b₀ :: suite) hpos] [] [] pos) (dTry ce ys i fb fh):=by
 have hp:=zfI hnp
 refine PS.weak (zai (i:=i) (B:=B) (th:=fun _ _=>tDS c fh)
  (tb:=fun W D σ H=>tDS ⟨H,c.B,[],fun z δ'=>∀ σ' H',Ok ⟨H,c.B,[],fun _ _=>False⟩ σ' δ' H'→∀ C,X.mg (toS z.cls)=some (.ref C)→z.flds=[]→W C σ' H'⟩ fb D σ H) hst hf hN hi hl hg hm qB hdb
  (fun W pn xe acc pins s σ H D I hw=>hb _ pn xe (fun p z=>(by simp at z)) (fun ps σ' H' s' a C J co ⟨y,δ',hy,k',w'⟩=>acc ps σ' H' s' a C J co (w' σ' H' ⟨k'.keep,k'.bd,k'.ith,k'.len,k'.slot,k'.own,k'.inj,k'.pinned⟩ C hy rfl)) pins s σ H D I hw)
  (fun _ a=>hh a)) fun D σ H ⟨δ,k,q⟩=>?_
 unfold dTry at q
 split at q
 ·rename_i hno
  refine ⟨δ,k.inTry hno,?_⟩
  unfold z1E at q ⊢
  cases e:fb δ with
  | stuck=>rw [e] at q; exact q.elim
  | ok fl δ' =>
   rw [e] at q
   intro σ' H' a
   have f0:=q σ' H' (Aft.outTry k hp a)
   cases fl with
   | next=>exact f0
   | brk=>exact f0
   | cont=>exact f0
   | ret r=>exact fun v rv=>f0 v (RepS.outTry k hp rv)
  | exc z δ' =>
   rw [e] at q
   simp only at q
   split at q
   ·rename_i hc
    simp only [Wi,decide_eq_true_eq] at hc
    obtain ⟨⟨hy,hfl⟩,hlt⟩:=hc
    intro σ' H' k' C hC _
    obtain ⟨y1,y2⟩:=hys z.cls (by simpa using hy)
    rw [y1] at hC
    cases hC
    refine ⟨y2,fun a ha=>?_⟩
    have A1:Aft c σ δ H σ' δ' H':=Aft.outTry k hp (Ok.since (c:=⟨H,c.B,[],fun _ _=>False⟩) rfl (k.inTry hno) (fun a ⟨j,z⟩=>by simp at z) k')
    have A2:=A1.trans (Aft.alloc A1.ok ha (.ext (excAt (ce z.cls) a)))
    have A3:=Ok.set (i:=i) (v:=.ref a) (r:=.pure (.exc (ce z.cls))) A2 (.exc (A1.ok.nav ha) z0p) (fun p zz=>by rw [hp] at zz; simp at zz)
    refine ⟨δ'.set i (some (.pure (.exc (ce z.cls)))),A3.ok,?_⟩
    unfold z1E
    generalize fh (δ'.set i (some (.pure (.exc (ce z.cls)))))=r at q
    cases r with
    | stuck=>exact q.elim
    | exc z' δ4=>exact q
    | ok fl δ4 =>
     intro σ4 H4 A4
     have f0:=q (σ4.set i none) H4 (Aft.unset (A3.trans A4) hp i)
     cases fl with
     | next=>exact f0
     | brk=>exact f0
     | cont=>exact f0
     | ret r=>exact fun v rv=>f0 v (RepS.unset hp i rv)
   ·exact q.elim
 ·exact q.elim
end DV
namespace L2
open PySem PySem.Spec PyProof.Rows PySem.W Builtin Builtin.ObjectAttr Builtin.Getset_descriptor
section
variable {prog:Wj} {w:Wp} {A:Wo} {E:Value→W2→Prop} {K:W0} {C e:Addr} {oe:Obj} {h:Heap} {g:Array GenState} {d:Drawn} {t:Nat} {os:OsState}
structure ExcK (K:W0) (C:Addr):Prop where
 ga:QS K (.ref C) "__getattribute__" = some (some (.builtin "BaseException.__getattribute__"))
 gt:QS K (.ref C) "__getattr__" = some none
 cl:QS K (.ref C) "__class__" = some (some (.builtin "object.__class__"))
 sp:specialIn K (.builtin "object.__class__") "__get__" = some (some (.builtin "getset_descriptor.__get__"))
 tk:takesIn K (.builtin "object.__class__")=some true
 mo:mroIn K C (.type "object")=some true
 mb:mroIn K C (.type "BaseException")=some true
theorem zes (X:K.In h) (k:ExcK K C) (he:h.get? e=some oe) (hc:oe.cls = .ref C) (q:R (.ok (.ret (.ref C))) ⟨h,g,d,t,os⟩) :
  Qz (model prog w) A (.call (.builtin "getset_descriptor.__get__") ⟨[.builtin "object.__class__",.ref e,tp],[]⟩) R ⟨h,g,d,t,os⟩:=by
 have l1:Looks (model prog w) h (typeOf (.ref e)) (.ref C):=hc ▸ (Looks.ld he).andThen .now
 have l2:=looks_mroIn (M:=model prog w) X k.mo
 refine codeAny_call_builtin
  KF.slot_gs.plain KF.entry_gs
  (KF.slot_gs.check _ _ _ _ _ _ _ _
   KF.type_class (KF.args_gs _ _ _) ?_)
 unfold Builtin.«getset_descriptor.__get__» descrGet; rw [dga_obj]
 refine W1 (W8 ?_)
 unfold descrGetter descrCheckInstance descrNameAndClass isInstance; simp only [KF.owner_class]
 repeat lk
 refine ⟨Code.quiet_builtin _ (by decide +kernel),
  Jd KF.entry_class ?_⟩
 unfold Builtin.«object.__class__» shownTypeOf; repeat lk
 exact q
theorem zb5 (X:K.In h) (k:ExcK K C) (he:h.get? e=some oe) (hc:oe.cls = .ref C) (q:Q (.done (.ret (.ref C))) ⟨h,g,d,t,os⟩) :
  W9 (model prog w) A (Builtin.«object.__getattribute__» ⟨[.ref e,.str "__class__" tk],[]⟩) Q E ⟨h,g,d,t,os⟩:=by
 have l0:Looks (model prog w) h (typeOf (.ref e)) (.ref C):=hc ▸ (Looks.ld he).andThen .now
 have l1:=looks_findIn (M:=model prog w) X k.cl
 have l2:=KF.type_class
 have l3:=F.slot_gs_get.lookup
 have l4:=F.slot_gs_set.lookup
 repeat (any_goals (first | assumption | with_reducible refine Looks.at l0 ?_ | with_reducible refine Looks.at l1 ?_ | (with_reducible refine Qc he ?_; rw [hc]) | wp_step))
 refine zes X k he hc ?_
 repeat (any_goals (first | assumption | wp_step))
theorem zb7 (X:K.In h) (k:ExcK K C) (he:h.get? e=some oe) (hc:oe.cls = .ref C) (q:Q () ⟨h,g,d,t,os⟩) :
  W9 (model prog w) A (checkBuiltinCall "BaseException.__getattribute__" ⟨[.ref e,nv],[]⟩) Q E ⟨h,g,d,t,os⟩:=by
 have l0:Looks (model prog w) h (typeOf (.ref e)) (.ref C):=hc ▸ (Looks.ld he).andThen .now
 have l1:=looks_mroIn (M:=model prog w) X k.mb
 have b1:builtinKind "BaseException.__getattribute__" = some .slot:=by decide +kernel
 have b2:splitId "BaseException.__getattribute__" = some ("BaseException","__getattribute__"):=by decide +kernel
 have b3:=F.args_bexc_ga (.ref e) nv
 simp only [checkBuiltinCall,b1,b2]
 refine W1 ?_
 unfold isInstance
 repeat (first | with_reducible refine Looks.at l0 ?_ | with_reducible refine Looks.at l1 ?_ | (with_reducible refine Qc he ?_; rw [hc]) | wp_step)
 exact q
theorem zb6 (X:K.In h) (k:ExcK K C) (he:h.get? e=some oe) (hc:oe.cls = .ref C) (q:Q (some (.ref C)) ⟨h,g,d,t + 1,os⟩):W9 (model prog w) A (getAttr? (.ref e) "__class__") Q E ⟨h,g,d,t,os⟩:=by
 have L0:Looks (model prog w) h (typeOf (.ref e)) (.ref C):=hc ▸ (Looks.ld he).andThen .now
 have L1:=looks_findIn (M:=model prog w) X k.ga
 have L2:=looks_findIn (M:=model prog w) X k.gt
 have L3:=looks_mroIn (M:=model prog w) X k.mb
 have hx0:(false && onTheHeap (Value.builtin "BaseException.__getattribute__"))=false:=rfl
 have hx2:(Value.builtin "BaseException.__getattribute__" == Value.builtin "object.__getattribute__")=false:=by decide +kernel
 have f3:=F.attrBase_ValueError.ga.bind (.ref e)
 unfold getAttr? getAttrBy? getAttrBy
 refine W1 (wpAny_mkText (W1 (wpAny_attempt (Q3 (W1 (L0.at (W1 (L1.at ?_))))))))
 dsimp only
 rw [hx2,Bool.and_false]
 simp only [Bool.false_eq_true,if_false]
 unfold getAttrByItsOwn hookBefore
 repeat (any_goals (first | assumption | with_reducible refine Looks.at L2 ?_ | wp_step))
 refine codeAny_call_builtin F.attrBase_ValueError.ga.plain F.entry_bexc_ga (zb7 X k he hc (zb5 X k he hc ?_))
 repeat (any_goals (first | assumption | wp_step))
theorem zcq (k:ExcK K C) (hk:(clsIn K C).isSome=true):KitX K (.ref e) (.ref C) (DV.excAt C e) where
 ty:=fun M h X ⟨o,h1,h2,_⟩=>h2 ▸ (Looks.ld h1).andThen .now
 it:=fun M h X _=>by
  obtain ⟨cd,hcd⟩:=QY.mp hk
  unfold clsIn at hcd
  split at hcd
  next c' d' cd' sl' ho=>exact fun A' Q' E' s' kk q=>by unfold isType loadHead; exact W1 (wpAny_loadPart (kk _ _ (X _ _ ho)) (W8 q))
  next=>cases hcd
 ne:=fun h tp dd its n sl X htp=>by
  obtain ⟨cd,hcd⟩:=QY.mp hk
  refine Bool.eq_false_iff.mpr fun q=>?_
  obtain rfl:C=tp:=Value.ref.inj (beq_iff_eq.mp q)
  unfold clsIn at hcd
  split at hcd
  next c' d' cd' sl' ho=>have z:=(X _ _ ho).symm.trans htp; cases z
  next=>cases hcd
 ca:=fun {prog w A E Q s} X ⟨o,h1,h2,_⟩ q=>by
  obtain ⟨hh,gg,dd,tt,oo⟩:=s
  exact zb6 X k h1 h2 q
end
section
variable {X:Cx} {y:Str} {D:Addr} {pos:Pos}
theorem zfw (hg:Gl X y) (hm:X.mg y=some (.ref D)) (hd:(y == ("__debug__" : Str))=false:=by decide):PE X (.Name y pos) (fun σ H Q=>Q (.ref D) H):=fun pins s σ H Q I h=>z39 I hg hm ⟨.ref D,H,I,rfl,h⟩ hd
structure IsT (K:W0) (ce:DV.Tx→Nat) (ys:List DV.Tx) (cv:Value) (tab:DV.Tx→Bool):Prop where
 k:∀ z ∈ ys,ExcK K (ce z)
 c:∀ z ∈ ys,(PySem.W.clsIn K (ce z)).isSome=true
 one:∀ z ∈ ys,Qu K (.ref (ce z)) cv=some (tab z)
theorem z96 (hcv:∀ u,RelV cV u→u=cv) (T:IsT X.K ce ys cv tab) :
  CallR X (.builtin "isinstance") (fun xs H Q=>∃ (a:Addr) (z:DV.Tx),xs=[.ref a,cV]∧H a=some (.ext (DV.excAt (ce z) a))∧z ∈ ys∧Q (.bl (tab z)) H):=by
 intro pins s σ H xs us Q I r h
 obtain ⟨a,z,rfl,ha,hz,q⟩:=h
 obtain ⟨u,w',rfl,r1,r2⟩:=zde r
 cases r1
 have e:=hcv _ r2
 subst e
 obtain ⟨p,_,_⟩:=I.hok a _ ha
 exact WW (zcq (T.k z hz) (T.c z hz)) I.kIn p (T.one z hz) (fun z=>nomatch z) fun tk=>⟨.bl (tab z),H,I.tok tk,rfl,q⟩
end
structure RoomH (k:Nat) (A:Wo):Prop where
 dp:A.depth + 3 * k + 5 < recursionLimit
 un:A.units + 16 * k + 200 < WX
theorem RoomH.deeper (r:RoomH (k + 1) A) (env:Env):RoomH k (A.deeper env) :=
 ⟨by have:=r.dp; show A.depth + 1 + 3 * k + 5 < _; omega,by have:=r.un; show A.units + 3 + 16 * k + 200 < _; omega⟩
theorem Room.h (r:Room k A):RoomH k A:=⟨r.dp,r.un⟩
theorem RoomH.mono (r:RoomH k A) (h:j≤k):RoomH j A:=⟨by have:=r.dp; omega,by have:=r.un; omega⟩
theorem RoomH.mark (r:RoomH k A) (v:Option Value):RoomH k (A.mark v):=⟨r.dp,r.un⟩
def Cx.cold (X:Cx):Cx:={ X with calm:=false,xe:=fun _ _=>False }
structure FnOkH (P:Wj) (w:Wp) (K:W0) (mg:Str→Option Value) (base:Heap) (k:Nat) (f:Addr) (fd:WD) (ps:List Str) (sp:Sp):Prop where
 len:∀ vs H Q E,sp vs H Q E→vs.length=ps.length
 run:∀ (A:Wo) (outer:List Env) (s:W2) (H:Hp) (args:Args) (us:List Value) (vs:List V) (Q:VK),RoomH k A→Env0 P w K mg base A outer s H→BindsTo s fd args (ps.zip us)→Vals vs us→sp vs H Q E0 →
  Qz (model P w) A (.call (.ref f) args) (CR CX0 outer P w H s Q E0) s
section
variable {P:Wj} {w:Wp} {K:W0} {mg:Str→Option Value} {base:Heap} {k:Nat} {f:Addr}
theorem zg6 {x qual:Str} {st:Stmt} {fd:WD} {N ps:List Str} {sp:Sp} (F:Fun K x qual st f fd) (S:FnScope N ps (z04 st)) (len:∀ vs H Q E,sp vs H Q E→vs.length=ps.length)
  (hbody:∀ (cdv:Value) (A:Wo) (outer:List Env) (s:W2) (H:Hp) (vs:List V) (Q:VK),RoomH k (A.deeper (Qq qual (z04 st) s.heap.objs.size f cdv))→sp vs H Q E0 →
   ∃ t,PSs (cxOf CX0 P w K mg base N qual (z04 st) f cdv A outer s H E0).cold (z19 st) t∧t { nx:=fun _ H'=>Q .non H',rt:=Q } (start N vs) H):FnOkH P w K mg base (k + 1) f fd ps sp:=by
 obtain ⟨oc,od,kV,doc,pm,an,cdv,ct,osl,rfl,lk,hcd⟩:=F.ex
 refine ⟨len,fun A outer s H args us vs Q hr e0 hb r hsp=>?_⟩
 have hl:=len _ _ _ _ hsp
 have KX:K.In s.heap:=e0.mod.kin.keeps fun b o e=>(e0.bs b o e).1
 have lim:s.heap.NoLimit:=e0.mod.nolimit.keeps fun b o e=>(e0.bs b o e).1
 have hkind:∀ y ∈ ps.zip us,(z04 st).names.lookup y.1=some .local∨((z04 st).names.lookup y.1=some .cell∧((Qm (s.heap.objs.size + 1) (z04 st).names []).lookup y.1).isSome=true):=fun ⟨n,v⟩ hy=>by
  rcases S.par n (JP hy).1 with q | q
  ·exact .inl q
  ·exact .inr ⟨q,Jg _ _ _ (.inl q)⟩
 have hdep:A.depth < recursionLimit:=by have:=hr.dp; omega
 refine codeAny_call_function hdep (KX _ _ lk) rfl S.co S.gen rfl (PySem.W.codeRec_of KX hcd) (hb _ _ _ _ ?_)
 refine wpAny_newFunctionEnv_cells S.kind hkind fun env he s1 x=>?_
 subst he
 refine ⟨lim.keeps x.toInCall.keep,codeAny_func ?_⟩
 obtain ⟨t,ht,hq⟩:=hbody cdv A outer s H vs Q (hr.deeper _) hsp
 have e1:Env0 P w K mg base { A with handled:=none } outer s H:=⟨e0.frames,e0.mod,e0.bs,e0.bsz,e0.funs,e0.frf,e0.hok,e0.bare⟩
 have J:=z7q (CX:=CX0) (E:=E0) (qual:=qual) (f:=f) (cd:=cdv) (A:={ A with handled:=none }) S rfl e1 hl r x
 have I:Inv (cxOf CX0 P w K mg base N qual (z04 st) f cdv A outer s H E0).cold [] (start N vs) H s1:=by
  have o:=J.ok
  exact ⟨⟨o.mod,o.kind,o.glob,o.blt,o.above,o.inj,o.has,o.cab,fun z=>(by cases z),Around.frames_deeper e0.frames,o.stk,o.exf,o.bs,o.bsz,o.noex,o.exfs,o.funs,o.frf⟩,J.os,J.bare,J.base,J.loc,J.cell,J.free,J.freeC,J.pin,J.hok,J.len⟩
 refine WL (ht [] s1 (start N vs) H _ I hq) (fun fl s' hs=>?_) fun e s' hs=>hs.elim
 cases fl with
 | ret u =>
  obtain ⟨v,σ',H',J2,rv,q⟩:=hs
  exact ⟨v,H',J2.os,J2.bare,J2.base,J2.hok,rv,q⟩
 | next =>
  obtain ⟨σ',H',J2,q⟩:=hs
  exact ⟨V.non,H',J2.os,J2.bare,J2.base,J2.hok,rfl,q⟩
 | brk =>
  obtain ⟨_,_,_,q⟩:=hs
  exact False.elim q
 | cont =>
  obtain ⟨_,_,_,q⟩:=hs
  exact False.elim q
end
section
variable {X:Cx} {k:Nat} {f:Addr} {fd:WD} {ps:List Str} {sp:Sp} {x:Str} {p pos:Pos} {e:Expr} {es:List Expr} {t:TA}
theorem zc8 (F:FnOkH X.prog X.w X.K X.mg X.base k f fd ps sp) (hr:RoomH k X.A) (hg:Gl X x) (hm:X.mg x=some (.ref f)) (hk:Qa X.K (.ref f)=true) (hb:Binds X.K fd ps [])
  (ha:PA X (e :: es) t) (hdb:(x == ("__debug__" : Str))=false:=by decide) (he:W7 (e :: es) X.env=(false,eval e X.env) :: W7 es X.env:=by rfl) (hpl:(WT pos (W7 es X.env)).any (·.1)=false:=by rfl) :
  PE X (.Call (.Name x p) (e :: es) [] pos) (zdm sp [] E0 t):=by
 intro pins s σ H Q I h
 refine QG (z39 I hg hm ?_ hdb)
 refine PySem.W.callWith_K (h₀:=X.base) I.ok.mod.kin hk (thn (ha pos pins s σ H _ I h) fun us s1 ⟨vs,H1,I1,r,q⟩=>⟨I1.kIn,?_⟩) he hpl
 have q:sp vs H1 Q E0:=by have q':sp (vs ++ []) H1 Q E0:=q; rwa [WG] at q'
 have hl:(us ++ []).length=ps.length:=by rw [WG,← r.length]; exact F.len _ _ _ _ q
 refine wpAny_call (Jw (F.run X.A X.stack s1 H1 ⟨us,[]⟩ us vs Q hr I1.env0 (by have:=hb s1 us I1.kIn hl; rwa [WG] at this) r q) fun r s' hq=>?_)
 cases r with
 | error e=>exact False.elim hq
 | ok fl =>
  cases fl with
  | ret u=>exact I1.after hq
  | next=>exact False.elim hq
  | brk=>exact False.elim hq
  | cont=>exact False.elim hq
end
end L2
namespace DV
open PySem PySem.Spec PyProof.Rows L2
def eIsC (ce:Tx→Nat) (ys:List Tx) (tab:Tx→Bool) (fb:BE):DE:=fun δ=>(fb δ).bind fun d δ'=>match d with
 | .exc n=>match ys.find? fun z=>ce z == n with
  | some z=>.ok (.pure (.bl (tab z))) δ'
  | none=>.stuck
 | _=>.stuck
section
variable {X:Cx} {c:Fc} {e:Expr} {fb:BE} {pp py pos:Pos} {y:Str} {ce:Tx→Nat} {ys:List Tx} {tab:Tx→Bool}
theorem z8S (h:tD c (eIsC ce ys tab fb) σ H Q):tB c fb σ H fun v H1=>∃ (a:Addr) (z:Tx),[v,cV]=[.ref a,cV]∧H1 a=some (.ext (excAt (ce z) a))∧z ∈ ys∧Q (.bl (tab z)) H1:=by
 obtain ⟨δ,k,q⟩:=h
 unfold eIsC at q
 rw [z03] at q
 refine ⟨δ,k,z01 q fun d δ1 q1 v H1 a1 r1=>?_⟩
 cases d <;> first | exact q1.elim | skip
 rename_i n
 simp only at q1
 split at q1
 ·rename_i z hz
  have h1:=List.find?_some hz
  have h2:=List.mem_of_find?_eq_some hz
  have e:ce z=n:=by simpa using h1
  subst e
  rcases r1 with r1 | ⟨a,_,o⟩
  ·cases r1 with
   | exc _ ha=>exact ⟨_,z,rfl,ha,h2,q1 _ H1 a1 (.bl _)⟩
  ·exact o.elim
 ·exact q1.elim
theorem z3P {D:Addr} (T:IsT X.K ce ys (.ref D) tab) (hg:Gl X "isinstance") (hm:X.mg "isinstance" = none) (hgy:Gl X y) (hmy:X.mg y=some (.ref D)) (he:SB X c e fb) (hdy:(y == ("__debug__" : Str))=false:=by decide)
  (hs:W7 [e,.Name y py] X.env=(false,eval e X.env) :: W7 [.Name y py] X.env:=by rfl) (hpl:(WT pos (W7 [.Name y py] X.env)).any (·.1)=false:=by rfl) :
  SE X c (.Call (.Name "isinstance" pp) [e,.Name y py] [] pos) (eIsC ce ys tab fb) :=
 PE.weak (z3V (z96 (cV:=.ref D) (fun u r=>by cases r; rfl) T) hg hm PyProof.Rows.boot_isinstance (z0T he (z0T (zfw hgy hmy hdy) z25) hs) (by decide) (by decide) hs hpl) fun σ H Q h=>z8S h
theorem zeU {T':String} (T:IsT X.K ce ys (.type T') tab) (hg:Gl X "isinstance") (hm:X.mg "isinstance" = none) (hgy:Gl X y) (hmy:X.mg y=none) (hvy:Qg y=some (.type T')) (he:SB X c e fb)
  (hny:y≠"__name__":=by decide) (hdy:(y == ("__debug__" : Str))=false:=by decide)
  (hs:W7 [e,.Name y py] X.env=(false,eval e X.env) :: W7 [.Name y py] X.env:=by rfl) (hpl:(WT pos (W7 [.Name y py] X.env)).any (·.1)=false:=by rfl) :
  SE X c (.Call (.Name "isinstance" pp) [e,.Name y py] [] pos) (eIsC ce ys tab fb) :=
 PE.weak (z3V (z96 (cV:=.ty T') (fun u r=>by cases r; rfl) T) hg hm PyProof.Rows.boot_isinstance (z0T he (z0T (zas (v:=.ty T') hgy hmy hvy rfl hny hdy) z25) hs) (by decide) (by decide) hs hpl) fun σ H Q h=>z8S h
end
def KFnH (P:Wj) (w:Wp) (K:W0) (mg:Str→Option Value) (base:Heap) (k:Nat) (x:Str) (n:Nat) (G:DF):Prop :=
 ∃ (f:Addr) (fd:WD) (ps:List Str),mg x=some (.ref f)∧Qa K (.ref f)=true∧Binds K fd ps []∧FnOkH P w K mg base k f fd ps (spD n G)
theorem zg2 (r:RoomH k A):A.units + 64 < WX:=by have:=r.un; omega
section
variable {P:Wj} {w:Wp} {K:W0} {mg:Str→Option Value} {base:Heap}
theorem zeq {x qual:Str} {st:Stmt} {f:Addr} {fd:WD} {N ps:List Str} {k:Nat} {np:List Nat} {fb:DS} {G:DF} (F:Fun K x qual st f fd) (hm:mg x=some (.ref f)) (hb:Binds K fd ps []) (S:FnScope N ps (z04 st))
  (hbody:∀ (c:Fc) (cdv:Value) (A:Wo) (outer:List Env) (s:W2) (H:Hp) (E:XK),RoomH k (A.deeper (Qq qual (z04 st) s.heap.objs.size f cdv))→Np c np→SSs (cxOf CX0 P w K mg base N qual (z04 st) f cdv A outer s H E).cold c (z19 st) fb)
  (hG:∀ ss y,G ss=some y→ioOk np 0 ss=true∧runD fb N.length ss=some y):KFnH P w K mg base (k + 1) x ps.length G:=by
 refine ⟨f,fd,ps,hm,F.kp,hb,zg6 F S (fun vs H Q E h=>?_) fun cdv A outer s H vs Q hr h=>?_⟩
 ·obtain ⟨ss,B,hl,_⟩:=h
  exact hl
 ·obtain ⟨ss,B,hl,ok,r,outs,hg,q⟩:=h
  obtain ⟨hio,hrun⟩:=hG ss _ hg
  have hvs:ss.length=vs.length:=by have:=ok.len; simpa using this
  have np':Np ⟨H,B,z0z 0 ss vs,fun _ _=>False⟩ np:=fun p hp=>by
   obtain ⟨j,d,e,h1,_⟩:=z1m (i:=p.1) (a:=p.2) hp
   rw [e]
   exact z6C hio h1
  refine ⟨tDS ⟨H,B,z0z 0 ss vs,fun _ _=>False⟩ fb,hbody ⟨H,B,z0z 0 ss vs,fun _ _=>False⟩ cdv A outer s H E0 hr np',?_⟩
  have hst:start N vs=z0X vs ++ Wd (N.length - ss.length) none:=by rw [hvs]; rfl
  refine ⟨z0f N.length ss,by rw [hst]; exact ok.ext _,?_⟩
  unfold runD at hrun
  unfold z1E
  cases e:fb (z0f N.length ss) with
  | exc x δx=>rw [e] at hrun; cases hrun
  | stuck=>rw [e] at hrun; cases hrun
  | ok fl δ' =>
   rw [e] at hrun
   show ∀ σ' H',Aft _ (start N vs) (z0f N.length ss) H σ' δ' H'→fin _ _ σ' δ' H' fl
   intro σ' H' a
   rw [hst] at a
   simp only at hrun
   cases fl with
   | brk=>cases hrun
   | cont=>cases hrun
   | next =>
    simp only [z0H,WE] at hrun
    cases eo:z0a 0 ss δ' with
    | none=>rw [eo] at hrun; cases hrun
    | some os =>
     rw [eo] at hrun
     cases hrun
     obtain ⟨l1,l2⟩:=z8g rfl ok a eo
     exact q .non H' l1 .non
   | ret r' =>
    simp only [z0H,WE] at hrun
    cases eo:z0a 0 ss δ' with
    | none=>rw [eo] at hrun; cases hrun
    | some os =>
     rw [eo] at hrun
     cases hrun
     obtain ⟨l1,l2⟩:=z8g rfl ok a eo
     exact fun v rv=>q v H' l1 (l2 v _ rv)
end
section
variable {X:Cx} {c:Fc} {e:Expr} {es:List Expr} {as:List Ak} {k n:Nat} {x:Str} {G:DF} {pp pos:Pos}
theorem zbM (F:KFnH X.prog X.w X.K X.mg X.base k x n G) (hK:z1K G) (hr:RoomH k X.A) (hg:Gl X x) (ha:SX X c (e :: es) as) (hl:as.length=n) (hdb:(x == ("__debug__" : Str))=false:=by decide)
  (he:W7 (e :: es) X.env=(false,eval e X.env) :: W7 es X.env:=by rfl) (hpl:(WT pos (W7 es X.env)).any (·.1)=false:=by rfl):SE X c (.Call (.Name x pp) (e :: es) [] pos) (z08 G as):=by
 obtain ⟨f,fd,ps,hm,hk,hb,ok⟩:=F
 exact PE.weak (zc8 ok hr hg hm hk hb ha hdb he hpl) fun σ H Q h=>z7G (ps:=ps) hK hl h
end
end DV
namespace L2
open PySem PySem.Spec PyProof.Rows PySem.SeqAt
theorem z6c:∀ {bs:List Bool} {us:List Value},Vals (bs.map V.bl) us→us=bs.map Value.bool
 | [],us,r=>by cases r; rfl
 | b :: bs,us,r=>by
  cases r with
  | cons r1 r2 =>
   cases r1
   rw [z6c r2]
   rfl
def z5o:Value→Bool
 | .bool b=>b
 | _=>false
theorem z5v:∀ bs:List Bool,(bs.map Value.bool).countP z5o=bs.count true
 | []=>rfl
 | b :: bs=>by
  rw [Wr,List.countP_cons,z5v bs,List.count_cons]
  cases b <;> rfl
def zcW (K:W0):V→List V→Hp→VK→Prop:=fun x xs H Q=>∃ (a:Addr) (bs:List Bool),x = .ref a∧xs=[.bl true]∧SqL K H a (bs.map V.bl)∧Q (.int (bs.count true:Nat)) H
def zcV (K:W0):V→List V→Hp→VK→Prop:=fun x xs H Q=>∃ (a:Addr) (bs:List Bool),x = .ref a∧xs=[.bl true]∧SqL K H a (bs.map V.bl)∧true ∈ bs∧bs.length≤1000∧Q (.int (bs.idxOf true:Nat)) H
section
variable {X:Cx}
theorem zcm:MtR X "list.count" (zcW X.K):=by
 intro pins s σ H x xs v us Q I rx rs h
 obtain ⟨a,bs,rfl,rfl,hq,q⟩:=h
 obtain ⟨u,rfl,ru⟩:=z5B rs
 cases ru
 cases rx
 obtain ⟨its,r',p,_⟩:=I.list hq
 obtain rfl:=z6c r'
 obtain ⟨⟨cls,dd,data,sl⟩,ho,hc,n,hd⟩:=p.isList
 simp only at hc hd
 subst hc; subst hd
 refine JD PySem.F.slot_list_count ⟨_,ho,rfl⟩ PySem.F.entry_list_count (PySem.F.args_list_count_2 _ _) (list_countAt a _ n dd sl (.bool true) z5o) ⟨ho,fun y hy=>?_,?_⟩
 ·have hy':y ∈ bs.map Value.bool:=by simpa using hy
  obtain ⟨b,_,rfl⟩:=Qx.mp hy'
  have:=EqAt.bool_bool (A:=X.A.in1) (s:=s) b true
  cases b <;> exact this
 ·rw [show (bs.map Value.bool).toArray.toList=bs.map Value.bool from rfl,z5v]
  exact ⟨.int (bs.count true:Nat),H,I.tok _,⟨_,rfl⟩,q⟩
theorem zcl:MtR X "list.index" (zcV X.K):=by
 intro pins s σ H x xs v us Q I rx rs h
 obtain ⟨a,bs,rfl,rfl,hq,hm,hl,q⟩:=h
 obtain ⟨u,rfl,ru⟩:=z5B rs
 cases ru
 cases rx
 obtain ⟨its,r',p,_⟩:=I.list hq
 obtain rfl:=z6c r'
 obtain ⟨⟨cls,dd,data,sl⟩,ho,hc,n,hd⟩:=p.isList
 simp only at hc hd
 subst hc; subst hd
 have hj:bs.idxOf true < bs.length:=List.idxOf_lt_length_iff.mpr hm
 refine JD PySem.F.slot_list_index ⟨_,ho,rfl⟩ PySem.F.entry_list_index (PySem.F.args_list_index_2 _ _) (list_indexAt a _ n dd sl (.bool true) z5o (bs.idxOf true) (by simpa using hj) (by omega) ?_ ?_) ⟨ho,fun y hy=>?_,⟨.int (bs.idxOf true:Nat),H,I.tok _,⟨_,rfl⟩,q⟩⟩
 ·have:=List.getElem_idxOf hj
  simp [z5o,this]
 ·intro m hm' hlt
  have hm2:m < bs.length:=by simpa using hm'
  have:bs[m]≠true:=fun z=>by
   have z2:=List.not_of_lt_findIdx (p:=(· == true)) (xs:=bs) (i:=m) hlt
   rw [z] at z2
   cases z2
  simp [z5o,this]
 ·have hy':y ∈ bs.map Value.bool:=by simpa using hy
  obtain ⟨b,_,rfl⟩:=Qx.mp hy'
  have:=EqAt.bool_bool (A:=X.A.in1) (s:=s) b true
  cases b <;> exact this
end
end L2
namespace DV
open PySem PySem.Spec PyProof.Rows L2
def z4x:D→Option S
 | .lst ds=>(z5O ds).map fun bs=>.pure (.int (bs.count true:Nat))
 | _=>none
def z37:D→Option S
 | .lst ds=>match z5O ds with
  | some bs=>if true ∈ bs∧bs.length≤1000 then some (.pure (.int (bs.idxOf true:Nat))) else none
  | none=>none
 | _=>none
section
variable {X:Cx} {c:Fc} {e:Expr} {fb:BE}
theorem zci {K:W0}:Op1 (fun x H Q=>tyV K "list" x H∧zcW K x [.bl true] H Q) z4x:=by
 intro c σ δ H x d s Q k rx hp q
 cases d with
 | lst ds =>
  simp only [z4x] at hp
  cases e:z5O ds with
  | none=>rw [e] at hp; cases hp
  | some bs =>
   rw [e] at hp
   cases hp
   obtain ⟨a,vs,ea,ha,ra⟩:=rx.lst
   obtain rfl:=z4e e ra
   subst ea
   exact ⟨.inl ⟨rfl,_,.inl ha⟩,a,bs,rfl,rfl,.inl ha,q _ H (.refl k) (.int _)⟩
 | _=>simp [z4x] at hp
theorem zch {K:W0}:Op1 (fun x H Q=>tyV K "list" x H∧zcV K x [.bl true] H Q) z37:=by
 intro c σ δ H x d s Q k rx hp q
 cases d with
 | lst ds =>
  simp only [z37] at hp
  cases e:z5O ds with
  | none=>rw [e] at hp; cases hp
  | some bs =>
   rw [e] at hp
   simp only at hp
   split at hp
   ·rename_i hz
    cases hp
    obtain ⟨a,vs,ea,ha,ra⟩:=rx.lst
    obtain rfl:=z4e e ra
    subst ea
    exact ⟨.inl ⟨rfl,_,.inl ha⟩,a,bs,rfl,rfl,.inl ha,hz.1,hz.2,q _ H (.refl k) (.int _)⟩
   ·cases hp
 | _=>simp [z37] at hp
theorem zbK {j} {p0 apos cpos:Pos} (he:SB X c e fb)
  (hbase:Qt e "count" X.env (eval e X.env)=eval e X.env:=by rfl)
  (hfew:((WT cpos (W7 [.Constant (.bool true) j p0] X.env)).all (fun x=>!x.1) && (Jx cpos (QX [] X.env)).all (fun x=>x.1.isSome)
   && decide ([Expr.Constant (.bool true) j p0].length + ([]:List Keyword).length + (if ([]:List Keyword).isEmpty then 0 else 1) < 30))=true:=by rfl)
  (hline:(apos.endLine == cpos.line)=true:=by rfl) (hs:W7 [.Constant (.bool true) j p0] X.env=(false,eval (.Constant (.bool true) j p0) X.env) :: W7 [] X.env:=by rfl) :
  SE X c (.Call (.Attribute e "count" apos) [.Constant (.bool true) j p0] [] cpos) (eC1 z4x fb):=by
 refine PE.weak (zc9 PySem.F.plainAttrs_list PySem.F.slot_list_count PySem.F.type_list_count zcm he (z0T ze5 z25 hs) hbase hfew hline hs rfl) fun σ H Q h=>?_
 obtain ⟨δ,k,q⟩:=z3z (zci (K:=X.K)) h
 exact ⟨δ,k,z01 q fun y δ1 q1 v H1 a1 r1=>q1 v H1 a1 r1⟩
theorem zbI {j} {p0 apos cpos:Pos} (he:SB X c e fb)
  (hbase:Qt e "index" X.env (eval e X.env)=eval e X.env:=by rfl)
  (hfew:((WT cpos (W7 [.Constant (.bool true) j p0] X.env)).all (fun x=>!x.1) && (Jx cpos (QX [] X.env)).all (fun x=>x.1.isSome)
   && decide ([Expr.Constant (.bool true) j p0].length + ([]:List Keyword).length + (if ([]:List Keyword).isEmpty then 0 else 1) < 30))=true:=by rfl)
  (hline:(apos.endLine == cpos.line)=true:=by rfl) (hs:W7 [.Constant (.bool true) j p0] X.env=(false,eval (.Constant (.bool true) j p0) X.env) :: W7 [] X.env:=by rfl) :
  SE X c (.Call (.Attribute e "index" apos) [.Constant (.bool true) j p0] [] cpos) (eC1 z37 fb):=by
 refine PE.weak (zc9 PySem.F.plainAttrs_list PySem.F.slot_list_index PySem.F.type_list_index zcl he (z0T ze5 z25 hs) hbase hfew hline hs rfl) fun σ H Q h=>?_
 obtain ⟨δ,k,q⟩:=z3z (zch (K:=X.K)) h
 exact ⟨δ,k,z01 q fun y δ1 q1 v H1 a1 r1=>q1 v H1 a1 r1⟩
end
theorem SS.nox {X:Cx} {c:Fc} {st:Stmt} {f:DS} (h:SS X.nox c st f):SS X c st f:=fun pins s σ H D I hw =>
 WL (h pins s σ H D (I.wish _) hw) (fun _ _ q=>q.unwish) fun _ _ z=>False.elim z
theorem z5y:Qg "ValueError" = some (.type "ValueError"):=by decide +kernel
def ceOf:List (Tx×Nat)→Tx→Nat
 | [],_=>0
 | p :: r,x=>bif p.1 == x then p.2 else ceOf r x
end DV
namespace L2
open PySem PySem.Spec PyProof.Rows
section
variable {X:Cx}
end
end L2
namespace DV
open PySem PySem.Spec PyProof.Rows L2
end DV
namespace PySem
open Sem (wp)
structure ZA (z TI TO i1 i2:Addr) (f1 f2:List Addr):Prop where
 m1:i1 ∈ f1
 m2:i2 ∈ f2
 z1:z ∉ f1
 z2:z ∉ f2
 t1:TO ∉ f1
 t2:TO ∉ f2
 k1:i1 ∉ f2
 k2:i2 ∉ f1
 tz:TO≠z
 iz:TI≠z
 io:TI≠TO
 n1:TI≠i1
 n2:TI≠i2
section
variable {prog:Wj} {w:Wp} {A:Wo} {E:Value→W2→Prop} {s:W2}
end
def IsB (b:Bool) (h:Heap) (a:Addr) (its:Array Value):Prop:=match b with
 | true=>h.IsList a its
 | false=>h.IsTuple a its
theorem IsB.lt (q:IsB b h a its):a < h.objs.size:=by
 cases b
 ·obtain ⟨o,e,_⟩:=(q:h.IsTuple a its); exact Wg e
 ·obtain ⟨o,e,_⟩:=(q:h.IsList a its); exact Wg e
theorem IsB.push (q:IsB b h a its) (o:Obj):IsB b (h.push o) a its:=by
 cases b
 ·obtain ⟨o,e,r⟩:=(q:h.IsTuple a its); exact ⟨o,W5 _ e,r⟩
 ·obtain ⟨o,e,r⟩:=(q:h.IsList a its); exact ⟨o,W5 _ e,r⟩
end PySem
namespace L2
open PySem PySem.Spec PyProof.Rows
section
variable {X:Cx} {pins:List (Addr×Obj)} {σ:St} {H:Hp} {s:W2} {h':Heap}
end
end L2
namespace DV
open PySem PySem.Spec PyProof.Rows L2
section
variable {X:Cx} {c:Fc} {tg e:Expr} {fe:DE} {pos pp:Pos}
theorem Reps.two (r:Rep H O u x) (r':Rep H O v y):Reps H O [u,v] [x,y]:=by
 refine ⟨rfl,fun j v' d' e1 e2=>?_⟩
 match j with
 | 0=>simp at e1 e2; subst e1 e2; exact r
 | 1=>simp at e1 e2; subst e1 e2; exact r'
 | j + 2=>simp at e1
end
def z26 (G:DX) (as:List Ak):DE:=fun δ=>if (ios as).all (z0B δ) && ndup (ios as) then (evX as δ).bind fun ds δ1=>match mkA as ds δ1 with
  | none=>.stuck
  | some ss=>match G ss with
   | some (.inl (r,outs))=>.ok r (putA as outs δ1)
   | _=>.stuck
 else .stuck
section
variable {X:Cx} {c:Fc} {e:Expr} {es:List Expr} {as:List Ak} {k n:Nat} {x:Str} {G:DX} {pp pos:Pos}
theorem z9F (hK:z2X G) (hl:as.length=n) (h:tD c (z26 G as) σ H Q):tX c as σ H fun vs H1=>spX X.mg n G vs H1 Q (fun c' _ H'=>∃ C,c' = .ref C∧False):=by
 obtain ⟨δ,kk,q⟩:=h
 unfold z26 at q
 split at q
 ·rename_i hc
  rw [Wi] at hc
  have nd:=z3p hc.2
  rw [z03] at q
  refine ⟨δ,kk,fun i hi=>?_,z01 q fun ds δ1 q1 vs H1 a1 r1=>?_⟩
  ·have:=Qi.mp hc.1 i (ios_mem.mpr hi)
   unfold z0B at this
   split at this
   ·rename_i d ed
    exact z28 kk ed
   ·cases this
  ·cases em:mkA as ds δ1 with
   | none=>rw [em] at q1; exact q1.elim
   | some ss =>
    rw [em] at q1
    simp only at q1
    cases eg:G ss with
    | none=>rw [eg] at q1; exact q1.elim
    | some y =>
     rw [eg] at q1
     have hin:=z8r a1.ok r1 em nd
     obtain ⟨m1,m2,_⟩:=z7i r1 em
     have g2:=hK ss y eg
     cases y with
     | inl y =>
      refine ⟨ss,_,by rw [← m2]; exact hl,hin,.inl y,eg,?_⟩
      obtain ⟨r,outs⟩:=y
      intro v H2 a2 r2
      obtain ⟨o1,o2⟩:=z4T a1.ok r1 em nd rfl a2 (fun j d ed=>(g2 j).1 d ed) fun j d ed=>(g2 j).2 d ed
      exact q1 v H2 (a1.trans o1) (RepS.back (o2 v r r2) a1)
     | inr y=>exact q1.elim
 ·exact q.elim
theorem z3Q (F:KFnX X.prog X.w X.K X.mg X.base k x n G) (hK:z2X G) (hr:Room k X.A) (hex:X.ex=[]) (hg:Gl X x) (ha:SX X c (e :: es) as) (hl:as.length=n) (hdb:(x == ("__debug__" : Str))=false:=by decide)
  (he:W7 (e :: es) X.env=(false,eval e X.env) :: W7 es X.env:=by rfl) (hpl:(WT pos (W7 es X.env)).any (·.1)=false:=by rfl):SE X c (.Call (.Name x pp) (e :: es) [] pos) (z26 G as):=by
 obtain ⟨f,fd,ps,hm,hk,hb,ok⟩:=F
 exact PE.weak (z8K (W:=fun _ _ _=>False) ok hr hex hg hm hk hb (fun _ _ _ _ _ _ _ _ h=>h.elim) ha hdb he hpl) fun σ H Q h=>z9F hK hl h
end
end DV
namespace PySem
open Sem (wp)
section
variable {prog:Wj} {w:Wp} {A:Wo} {E:Value→W2→Prop} {hp:Heap} {g:Array GenState} {d:Drawn} {t:Nat} {os:OsState}
variable {nm qn:Str} {C N:Addr} {bs bm bmB:List Value} {hdct:Bool} {sn:List Str} {sub:List Value} {ab:Bool} {col:Option Bool} {dd:Option Addr} {k0 k1 k2 k3 k5:Option Value} {B newId initId:String}
theorem z9h (F:ExcBaseFacts B newId initId bmB) (T:OwnTail hp bmB bm)
  (hC:hp.get? C=some (excClassObj nm qn C N bs bm hdct sn sub ab col dd k0 k1 k2 k3 k5 newId)) (hN:hp.Ns N mN) (hi:mN "__init__" = some (.ref f)) (hf:hp.get? f=some o) (hfc:o.cls = .type "function")
  (q:∀ h' e,Heap.MadeExcOf hp h' e (.ref C) vs→W9 (model prog w) A (call (.ref f) (.ref e :: vs)) (fun r s'=>r = .none∧Q (.done (.ret (.ref e))) s') E ⟨h',g,d,t,os⟩) (hl:vs.length≤W3) :
  W9 (model prog w) A (Builtin.«type.__call__» ⟨.ref C :: vs,[]⟩) Q E ⟨hp,g,d,t,os⟩:=by
 repeat (first | with_reducible refine Qc hC ?_ | with_reducible refine wpAny_madeBy_exc hC ?_ | wp_step)
 refine codeAny_call_builtin_code (Code.quiet_builtin _ F.quiet) (wpAny_check_new_subT F T hC (codeAny_exc_new_subT F T hC ?_ hl))
 show W9 _ _ _ _ _ _
 have up:∀ {o1 o2:Obj} {b:Addr} {u:Obj},hp.get? b=some u→((hp.push o1).push o2).get? b=some u:=fun e=>W5 _ (W5 _ e)
 have hC1:=up (o1:={ cls:=.type "tuple",data:=.seq vs.toArray }) (o2:={ cls:=.ref C,data:=.fields #[.ref hp.objs.size,.none,.none,.none,.bool false,.none] }) hC
 have hf1:=up (o1:={ cls:=.type "tuple",data:=.seq vs.toArray }) (o2:={ cls:=.ref C,data:=.fields #[.ref hp.objs.size,.none,.none,.none,.bool false,.none] }) hf
 have hN1:((hp.push { cls:=.type "tuple",data:=.seq vs.toArray }).push { cls:=.ref C,data:=.fields #[.ref hp.objs.size,.none,.none,.none,.bool false,.none] }).Ns N mN:=let ⟨o,es,ep,e,r⟩:=hN; ⟨o,es,ep,up e,r⟩
 have he:((hp.push { cls:=.type "tuple",data:=.seq vs.toArray }).push { cls:=.ref C,data:=.fields #[.ref hp.objs.size,.none,.none,.none,.bool false,.none] }).get? (hp.objs.size + 1)=some { cls:=.ref C,data:=.fields #[.ref hp.objs.size,.none,.none,.none,.bool false,.none] }:=by heap_get
 have hc:(Value.ref C :: bm).contains (.ref C)=true:=by simp
 have T1:=T.keeps (h':=(hp.push { cls:=.type "tuple",data:=.seq vs.toArray }).push { cls:=.ref C,data:=.fields #[.ref hp.objs.size,.none,.none,.none,.bool false,.none] }) fun b o e=>up e
 unfold isInstance
 repeat (first | with_reducible refine Qc he ?_ | (with_reducible refine wpAny_isSubtype_exc hC1 ?_; rw [hc]) | wp_step)
 show W9 _ _ (typeLookup (.ref C) _) _ _ _
 refine wpAny_typeLookup_tail hC1 hN1 T1 F.mroIs F.init.lookup ?_
 rw [hi]
 refine Q3 (W1 ?_)
 unfold bindSpecial
 refine W1 (J0 (T:="function") ⟨_,hf1,hfc⟩ ?_)
 rw [if_pos (by decide)]
 refine W8 (W1 (WL (q _ (hp.objs.size + 1) ⟨fun b o hb=>up hb,Heap.get?_none_of_le (Nat.le_succ _),hp.objs.size,he,Heap.get?_none_of_le (Wc _),W5 _ (Heap.get?_push_at rfl rfl)⟩) (fun r s' hr=>?_) fun _ _ x=>x))
 obtain ⟨rfl,hQ⟩:=hr
 wp_walk
 exact hQ
theorem zbs (F:ExcBaseFacts B newId initId bmB) (T:OwnTail hp bmB bm)
  (hC:hp.get? C=some (excClassObj nm qn C N bs bm hdct sn sub ab col dd k0 k1 k2 k3 k5 newId)) (hN:hp.Ns N mN) (hi:mN "__init__" = some (.ref f)) (hf:hp.get? f=some o) (hfc:o.cls = .type "function")
  (q:∀ h' e,Heap.MadeExcOf hp h' e (.ref C) vs→W9 (model prog w) (A.under (.builtin "type.__call__" ⟨.ref C :: vs,[]⟩)) (call (.ref f) (.ref e :: vs)) (fun r s'=>r = .none∧Q (.ref e) s') E ⟨h',g,d,t,os⟩) (hl:vs.length≤W3) :
  W9 (model prog w) A (call (.ref C) vs) Q E ⟨hp,g,d,t,os⟩:=by
 have f1:=tc_lookup
 have f2:=tc_bind (.ref C)
 have hT:(⟨hp,g,d,t,os⟩:W2).TypeIs (.ref C) "type":=⟨_,hC,rfl⟩
 refine wpAny_call (codeAny_of_tree ?_); show W9 _ _ (callAny (.ref C) _) _ _ _
 repeat (any_goals (first | assumption | with_reducible refine Qc hC ?_ | wp_step))
 exact ⟨rfl,codeAny_call_builtin_at (Code.quiet_builtin _ (by decide +kernel)) entry_typeCall (wpAny_check_type_call_sub hC (z9h F T hC hN hi hf hfc (fun h' e hm=>q h' e hm) hl))⟩
theorem zbO (hh:A.handled=none)
  (h:W9 M A x (fun v s1=>∃ (e C N:Addr) (dx:Option Addr) (vs:Array Value) (sl:Array (Option Value)) (nm qn:Str) (bs bm:List Value) (hdct:Bool) (sn:List Str) (sub:List Value) (ab:Bool) (col:Option Bool) (dd:Option Addr) (k0 k1 k2 k3 k5:Option Value) (newId:String),
   v = .ref e∧bm.contains (.type "BaseException")=true∧s1.heap.get? C=some (excClassObj nm qn C N bs bm hdct sn sub ab col dd k0 k1 k2 k3 k5 newId)∧s1.heap.get? e=some ⟨.ref C,dx,.fields vs,sl⟩∧vs[1]? = some .none∧E (.ref e) s1) E s) :
  W9 M A (raiseStmt env (some x) none) Q E s:=by
 unfold raiseStmt
 refine W1 (WL h (fun v s1 h1=>?_) fun _ _ x=>x)
 obtain ⟨e,C,N,dx,vs,sl,nm,qn,bs,bm,hdct,sn,sub,ab,col,dd,k0,k1,k2,k3,k5,newId,rfl,hb,hC,he,hv,hE⟩:=h1
 have hc:(Value.ref C :: bm).contains (.type "BaseException")=true:=by rw [JA,hb,Bool.or_true]
 obtain ⟨hp,g,d,tk,os⟩:=s1
 repeat (first | with_reducible refine Qc he ?_ | with_reducible refine Qc hC ?_ | (with_reducible refine wpAny_isSubtype_exc hC ?_; rw [hc]) | wp_step)
 rw [hv]
 repeat (first | wp_step)
 exact wpAny_raiseNew_none hh hE
end
end PySem
namespace L2
open PySem PySem.Spec PyProof.Rows PySem.W PySem.Builtin PySem.Builtin.ObjectAttr
def zcb:List Value→Bool
 | .ref _ :: r=>zcb r
 | l=>l == vErr
theorem z4g (self:Value):∀ {l:List Value},zcb l=true→refuseLoop self "__setattr__" l=pure ()
 | [],e=>by cases e
 | .ref c :: r,e=>by rw [refuseLoop_ref]; exact z4g self e
 | .none :: r,e=>by cases e
 | .type n :: r,e=>by
  have:(Value.type n :: r)=vErr:=beq_iff_eq.mp e
  rw [this]; exact PySem.F.store_ValueError.passes self
 | .bool b :: r,e=>by cases (beq_iff_eq.mp (show ((Value.bool b :: r) == vErr)=true from e))
 | v :: r,e=>by
  cases v <;> first
   | (rw [refuseLoop_ref]; exact z4g self e)
   | (rw [show _=vErr from beq_iff_eq.mp e]; exact PySem.F.store_ValueError.passes self)
theorem z78:∀ {l:List Value},zcb l=true→l.contains (.type "object")=true
 | [],e=>by cases e
 | v :: r,e=>by
  cases v <;> first
   | (rw [JA,z78 (l:=r) e,Bool.or_true])
   | (rw [show _=vErr from beq_iff_eq.mp e]; decide)
def z8M (K:W0) (C:Addr):Bool:=(clsIn K C).any fun cd=>zcb cd.mro
section
variable {prog:Wj} {w:Wp} {A:Wo} {E:Value→W2→Prop} {s:W2} {K:W0} {x C:Addr} {name:Str} {v:Value} {R:Result→W2→Prop}
theorem ze7 (X:K.In s.heap) (I:InstAt s.heap x ox C od) (hp:z8M K C=true) (ht:takerIn K C name=some none)
  (q:∀ b,W9 (model prog w) A.in1 (storeInOwnDict (.ref x) (.ref C) (.str name tk) name v b) (fun fin s'=>match fin with | .done f=>R (.ok f) s' | .again c'=>c'.quiet=true∧Qz (model prog w) A c' R s') (fun e s'=>R (.error e) s') s) :
  Qz (model prog w) A (.call (.builtin "object.__setattr__") ⟨[.ref x,.str name tk,v],[]⟩) R s:=by
 have SF:=PySem.F.store_object
 obtain ⟨cd,hc,ho⟩:=any_some hp
 have ne:cd.mro.isEmpty=false:=by
  cases z:cd.mro with
  | nil=>rw [z] at ho; cases ho
  | cons _ _=>rfl
 have sub:Looks (model prog w) s.heap (isInstance (.ref x) (.type "object")) true:=I.type.andThen (looks_mroIn X (by unfold mroIn; rw [hc,WE,if_neg (by rw [ne]; decide),z78 ho]))
 refine codeAny_call_builtin SF.slot.plain SF.entry (@check_slot (model prog w) _ _ s "object.__setattr__" "object" "__setattr__" (.ref x) [.str name tk,v] [] _ SF.kind SF.split sub (SF.args (.ref x) (.str name tk) v) ?_)
 obtain ⟨attr,ha,hr⟩:=Option.bind_eq_some_iff.mp ht
 have hm:Looks (model prog w) s.heap (mroOf (.ref C)) cd.mro:=(looks_clsIn X hc).andThen .now
 have L3:Looks (model prog w) s.heap (storeTaker? attr) none:=by
  cases attr with
  | none=>exact .now
  | some a =>
   obtain ⟨b,hb,hn⟩:=Wx.mp hr
   refine (looks_takesIn X hb).andThen ?_
   cases b
   ·exact .now
   ·cases hn
 rw [osa_eq,refuse_eq]
 refine W1 (W1 (I.type.here (W1 (hm.here ?_))))
 rw [z4g _ ho]
 exact W8 (W1 (I.type.here (W1 ((looks_findIn X ha).here (W1 (L3.here (q _)))))))
theorem zdx (X:K.In s.heap) (hx:s.heap.get? x=some ⟨.ref C,none,.fields vs,sl⟩)
  (hs:QS K (.ref C) "__setattr__" = some (some (.builtin "object.__setattr__"))) (hp:z8M K C=true) (ht:takerIn K C name=some none) (hh:hasDictIn K C=true)
  (q:∀ h' tk,h'.get? x=some ⟨.ref C,some s.heap.objs.size,.fields vs,sl⟩→(∀ b o,b≠x→s.heap.get? b=some o→h'.get? b=some o)→Q () { s with heap:=h',toks:=tk }) :
  W9 (model prog w) A (setAttr (.ref x) name v) Q E s:=by
 have J:InstAt s.heap x ⟨.ref C,none,.fields vs,sl⟩ C none:=⟨hx,rfl,rfl,trivial⟩
 refine set_plain X J hs (ze7 (s:={ s with toks:=s.toks + 1 }) X J hp ht fun b=>?_)
 obtain ⟨cd,hc,hd'⟩:=any_some hh
 have hx1:(s.heap.push { cls:=.type "dict",data:=.dict #[] }).get? x=some ⟨.ref C,none,.fields vs,sl⟩:=W5 _ hx
 have hxs:x≠s.heap.objs.size:=Ws (Wg hx)
 refine W1 (W8 (W1 (W1 (wpAny_loadPart hx (W1 (PySem.W.Looks.here (s:={ s with toks:=s.toks + 1 }) (PySem.W.looks_clsIn X hc) ?_))))))
 rw [hd']
 show W9 _ _ (alloc { cls:=.type "dict",data:=.dict #[] } >>= fun d=>(update x fun o=>{ cls:=o.cls,dict:=some d,data:=o.data,slots:=o.slots }) >>= fun _=>dictMade (.ref C) x d) _ _ _
 refine W1 (wpAny_alloc' (W1 (wpAny_update' hx1 (W8 ?_))))
 have gd:((s.heap.push { cls:=.type "dict",data:=.dict #[] }).update x fun o=>{ cls:=o.cls,dict:=some s.heap.objs.size,data:=o.data,slots:=o.slots }).get? s.heap.objs.size=some { cls:=.type "dict",data:=.dict #[] }:=(Heap.get?_update_ne _ _ _ _ hxs.symm).trans (Heap.get?_push_at rfl rfl)
 have nd:((s.heap.push { cls:=.type "dict",data:=.dict #[] }).update x fun o=>{ cls:=o.cls,dict:=some s.heap.objs.size,data:=o.data,slots:=o.slots }).Ns s.heap.objs.size (fun _=>none):=⟨_,#[],_,gd,rfl,fun e he=>absurd he (by simp),fun _=>rfl⟩
 show W9 _ _ (storeInDict s.heap.objs.size (.str name _) name v) _ _ _
 unfold storeInDict newKeyGuard
 refine W1 (W8 (W1 (wpAny_nsSet1 (Heap.Ns1.of_empty nd) fun h' hn' sb=>?_)))
 obtain ⟨oD,esD,epD,hoD,hdD,hcD⟩:=hn'.count (Within.cons name v Within.nil)
 refine W1 (wpAny_lookBehind hoD (by rw [hdD]; exact pastItsLine_dict (WI hcD (by rw [WM,JS,JK]; omega))) ?_)
 refine W8 (q h' _ ((sb.2 x hxs).trans (QK _ hx1 rfl)) fun b o hb e=>?_)
 exact (sb.2 b (Ws (Wg e))).trans ((Heap.get?_update_ne _ _ _ _ hb).trans (W5 _ e))
end
def excN (C a:Addr):Heap→Prop:=fun h=>∃ vs sl a0,h.get? a=some ⟨.ref C,none,.fields vs,sl⟩∧vs[0]? = some a0∧vs[1]? = some .none
def excD (C a:Addr):Heap→Prop:=fun h=>∃ dx vs sl a0,h.get? a=some ⟨.ref C,dx,.fields vs,sl⟩∧vs[0]? = some a0∧vs[1]? = some .none
section
variable {P:Wj} {w:Wp} {H:Hp} {h:Heap} {C a:Addr}
theorem zet (q:excN C a h):ObjOk P w H h a (.ext (excN C a)):=by
 refine ⟨q,?_,?_⟩
 ·obtain ⟨vs,sl,a0,e,_⟩:=q
  exact ⟨_,e⟩
 ·rintro h1 h2 ⟨vs,sl,a0,e,r⟩ k
  exact ⟨vs,sl,a0,k _ e,r⟩
theorem zeu (q:excD C a h):ObjOk P w H h a (.ext (excD C a)):=by
 refine ⟨q,?_,?_⟩
 ·obtain ⟨dx,vs,sl,a0,e,_⟩:=q
  exact ⟨_,e⟩
 ·rintro h1 h2 ⟨dx,vs,sl,a0,e,r⟩ k
  exact ⟨dx,vs,sl,a0,k _ e,r⟩
end
structure ExcS (K:W0) (C:Addr) (f:Str):Prop where
 set:QS K (.ref C) "__setattr__" = some (some (.builtin "object.__setattr__"))
 over:z8M K C=true
 hd:hasDictIn K C=true
 tk:takerIn K C f=some none
section
variable {X:Cx} {o value:Expr} {f:Str} {ta tv:TE} {pos pos':Pos}
def zeV (K:W0) (ta tv:TE) (f:Str):TS:=fun D σ H=>tv σ H fun y H1=>ta σ H1 fun x H2=>∃ a C,x = .ref a∧H2 a=some (.ext (excN C a))∧ExcS K C f∧D.nx σ (upd H2 a (.ext (excD C a)))
theorem zdS (ha:PE X o ta) (hv:PE X value tv) (hs:QW value (some (.Attribute o f pos')) pos.line X.env=pure false):PS X (.Assign [.Attribute o f pos'] value pos) (zeV X.K ta tv f):=by
 intro pins s σ H D I h
 refine plainObj_wpAny_Assign_Attribute (thn (hv pins s σ H _ I h) fun u s1 ⟨y,H1,I1,ry,q⟩=>thn (ha pins s1 σ H1 _ I1 q) fun ov s2 ⟨x,H2,I2,rx,a,C,ex,ea,c,q2⟩=>?_) hs
 subst ex
 obtain rfl:ov=Value.ref a:=rx
 obtain ⟨⟨vs,sl,a0,e0,e1,e2⟩,_,_⟩:=(show ObjOk X.prog X.w H2 s2.heap a (.ext (excN C a)) from I2.hok a _ ea)
 refine zdx I2.kIn e0 c.set c.over c.tk c.hd fun h' tk g1 g2=>⟨σ,_,?_,q2⟩
 exact I2.write (x:=a) (e:=a) (t':=tk) (by rw [ea]; exact True.intro) (.inl rfl) (fun b u nb z=>g2 b u nb z) ⟨_,g1⟩ (zeu ⟨_,vs,sl,a0,g1,e1,e2⟩)
end
def excI (K:W0) (C f:Addr):Bool:=match K.lookup C with
 | some ⟨.type "type",_,.cls c,ss⟩=>(match c.mro,ss.toList with
  | .ref C' :: bm,[_,_,_,_,some (.builtin n),_]=>C' == C && n == "ValueError.__new__" && !c.hasDel && tailIn K vErr bm && nsOkIn K c.ns && nsIn K c.ns "__init__" == some (some (.ref f))
  | _,_=>false)
 | _=>false
theorem zec {K:W0} {h:Heap} {N:Addr} {m:Str→Option Value} {n:Str} {v:Value} (X:K.In h) (G:h.Ns N m) (e:nsIn K N n=some (some v)):m n=some v:=by
 obtain ⟨o,es,ep,ho,hd,_,hf⟩:=G
 unfold nsIn at e
 split at e
 next c d es' n' sl q =>
  have z:=X _ _ q
  rw [ho] at z
  cases z
  simp only at hd
  injection hd with h1 h2
  subst h1
  split at e
  next x hx =>
   cases e
   rw [← hf n]
   unfold nsFind findBy
   rw [← Array.find?_toList,hx]
   rfl
  next=>split at e <;> cases e
 next=>cases e
theorem z91 {K:W0} {C f:Addr} {h:Heap} (q:excI K C f=true) (X:K.In h):∃ (bm:List Value) (N:Addr) (nm qn:Str) (bs:List Value) (hdct:Bool) (sn:List Str) (sub:List Value) (ab:Bool) (col:Option Bool) (dd:Option Addr) (k0 k1 k2 k3 k5:Option Value) (mN:Str→Option Value),
  h.get? C=some (excClassObj nm qn C N bs bm hdct sn sub ab col dd k0 k1 k2 k3 k5 "ValueError.__new__")∧h.Ns N mN∧mN "__init__" = some (.ref f)∧OwnTail h vErr bm:=by
 unfold excI at q
 split at q
 next dd cd sl lk =>
  split at q
  next C' bm k0 k1 k2 k3 n k5 e1 e2 =>
   simp only [Wi,beq_iff_eq,JI] at q
   obtain ⟨⟨⟨⟨⟨c1,c2⟩,c3⟩,c4⟩,c5⟩,c6⟩:=q
   subst c1; subst c2
   have e3:sl = #[k0,k1,k2,k3,some (.builtin "ValueError.__new__"),k5]:=by
    cases sl; simp only at e2; rw [e2]
   subst e3
   cases cd
   simp only at e1 c3 c4 c5 c6 lk
   subst e1; subst c3
   have hN:=Heap.Ns.of_isNs (isNs_of_in X c5)
   exact ⟨bm,_,_,_,_,_,_,_,_,_,dd,k0,k1,k2,k3,k5,_,X _ _ lk,hN,zec X hN c6,tail_of_in X c4⟩
  next=>cases q
 next=>cases q
section
variable {X:Cx} {k:Nat} {f C:Addr} {fd:WD} {ps:List Str} {sp:Sp} {x:Str} {p pos:Pos} {e:Expr} {es:List Expr} {t:TA}
theorem fn_at {K:W0} {h:Heap} (X:K.In h) (q:isFn K (.ref f)=true):∃ o,h.get? f=some o∧o.cls = .type "function":=by
 have z:(K.lookup f).map (·.cls)=some (.type "function"):=beq_iff_eq.mp q
 obtain ⟨o,lk,e⟩:=Wx.mp z
 exact ⟨o,X _ _ lk,e⟩
theorem za3 {pins:List (Addr×Obj)} {σ:St} {H:Hp} {s:W2} {Q:VK} {us:List Value} {vs:List V} (q:excI X.K C f=true) (hfn:isFn X.K (.ref f)=true) (F:FnOk X.prog X.w X.K X.mg X.base CX0 k f fd ps sp) (hr:Room (k + 1) X.A) (hb:Binds X.K fd ps []) (hex:X.ex=[])
  (I:Inv X pins σ H s) (r:Vals vs us) (hl:us.length≤W3)
  (h:∀ a,H a=none→X.s₀.heap.get? a=none→sp (.ref a :: vs) (upd H a (.ext (excN C a))) (fun v H2=>v = .non∧Q (.ref a) H2) E0) :
  W9 (model X.prog X.w) X.A (call (.ref C) us) (EP X pins σ Q) X.xe s:=by
 obtain ⟨bm,N,nm,qn,bs,hdct,sn,sub,ab,col,dd,k0,k1,k2,k3,k5,mN,hC,hN,hi,hT⟩:=z91 q I.kIn
 obtain ⟨o,hf,hfc⟩:=fn_at I.kIn hfn
 obtain ⟨hp,g,d,tk,os⟩:=s
 refine zbs PySem.F.excBase_ValueError hT hC hN hi hf hfc (fun h' a hm=>?_) hl
 obtain ⟨t0,ht,_,_⟩:=hm.there
 have I1:Inv X pins σ H ⟨h',g,d,tk,os⟩:=I.kept (t':=tk) hm.keeps
 have g1:=I.gone hex hm.new
 have ap:=I.apart hex hm.new g1.1
 have I2:Inv X pins σ (upd H a (.ext (excN C a))) ⟨h',g,d,tk,os⟩:=I1.track ap (zet ⟨_,_,_,ht,rfl,rfl⟩)
 have hq:=h a g1.1 g1.2
 have r2:Vals (V.ref a :: vs) (Value.ref a :: us):=.cons rfl r
 have hln:(Value.ref a :: us ++ []).length=ps.length:=by
  rw [WG,← r2.length]; exact F.len _ _ _ _ hq
 refine wpAny_call (Jw (F.run _ X.stack _ _ ⟨Value.ref a :: us,[]⟩ (Value.ref a :: us) _ _ E0 (hr.make C us []) (I2.env0.make C us []) (by have:=hb _ (Value.ref a :: us) I2.kIn hln; rwa [WG] at this) r2 hq) fun rr s' hq'=>?_)
 cases rr with
 | error z=>exact hq'.elim
 | ok fl =>
  cases fl with
  | ret u =>
   obtain ⟨v,H',I3,rv,ev,q3⟩:=I2.after hq'
   subst ev
   exact ⟨rv,⟨V.ref a,H',I3,rfl,q3⟩⟩
  | next=>exact False.elim hq'
  | brk=>exact False.elim hq'
  | cont=>exact False.elim hq'
theorem zc5 (q:excI X.K C f=true) (hfn:isFn X.K (.ref f)=true) (hk:keepIn X.K (.ref C)=true) (F:FnOk X.prog X.w X.K X.mg X.base CX0 k f fd ps sp) (hr:Room (k + 1) X.A) (hb:Binds X.K fd ps []) (hex:X.ex=[]) (hg:Gl X x) (hm:X.mg x=some (.ref C))
  (ha:PA X (e :: es) t) (hl:(e :: es).length≤100) (hdb:(x == ("__debug__" : Str))=false:=by decide) (he:W7 (e :: es) X.env=(false,eval e X.env) :: W7 es X.env:=by rfl) (hpl:(WT pos (W7 es X.env)).any (·.1)=false:=by rfl) :
  PE X (.Call (.Name x p) (e :: es) [] pos) (fun σ H Q=>t σ H fun vs H1=>vs.length≤100∧∀ a,H1 a=none→X.s₀.heap.get? a=none→sp (.ref a :: vs) (upd H1 a (.ext (excN C a))) (fun v H2=>v = .non∧Q (.ref a) H2) E0):=by
 intro pins s σ H Q I h
 refine QG (z39 I hg hm ?_ hdb)
 refine callWith_K (h₀:=X.base) I.ok.mod.kin hk (thn (ha pos pins s σ H _ I h) fun us s1 ⟨vs,H1,I1,r,q1⟩=>⟨I1.kIn,?_⟩) he hpl
 exact za3 q hfn F hr hb hex I1 r (by rw [Qw,← r.length,JK]; have:=q1.1; omega) q1.2
end
def spX1 (K:W0) (fld:Str):Sp:=fun vs H Q _=>∃ a C y,vs=[.ref a,y]∧H a=some (.ext (excN C a))∧ExcS K C fld∧Q .non (upd H a (.ext (excD C a)))
theorem zcz {P:Wj} {w:Wp} {K:W0} {mg:Str→Option Value} {base:Heap} {x qual fld:Str} {st:Stmt} {f:Addr} {fd:WD} {N ps:List Str} {k:Nat} (F:Fun K x qual st f fd) (S:FnScope N ps (z04 st)) (hps:ps.length=2) (h0:∀ vs:List V,vs.length=2→start N vs=vs.map some)
  (hbody:∀ (cdv:Value) (A:Wo) (outer:List Env) (s:W2) (H:Hp) (E:XK),Room k (A.deeper (Qq qual (z04 st) s.heap.objs.size f cdv))→PSs (cxOf CX0 P w K mg base N qual (z04 st) f cdv A outer s H E).nox (z19 st) (zeV K (tVar 0) (tVar 1) fld)) :
  FnOk P w K mg base CX0 (k + 1) f fd ps (spX1 K fld):=by
 refine F.ok S (fun vs H Q E ⟨a,C,y,e,_⟩=>by rw [e,hps]; rfl) fun cdv A outer s H vs Q E hr ⟨a,C,y,e,ea,c,q⟩=>⟨_,hbody cdv A outer s H E hr,?_⟩
 subst e
 rw [h0 _ rfl]
 exact ⟨y,rfl,.ref a,rfl,a,C,rfl,ea,c,q⟩
theorem ObjOk.less:∀ {b:Addr} {o:HO},ObjOk P w (upd H a (.ext φ)) h b o→ObjOk P w H h b o:=by
 have dn:∀ {c:Addr} {u:HO},upd H a (.ext φ) c=some u→(∀ ψ,u≠.ext ψ)→H c=some u:=fun {c u} e n=>by
  by_cases hc:c=a
  ·subst hc; rw [z0p] at e; cases e; exact absurd rfl (n φ)
  ·rw [z0d hc] at e; exact e
 intro b o
 induction o generalizing b with
 | dT kvs =>
  rintro ⟨h1,h2,xs,h3,h4⟩
  refine ⟨h1,h2,xs,L2.Paired.mapP h3 (fun p q ⟨e1,e2,e3⟩=>⟨e1,dn e2 (fun ψ z=>by cases z),e3⟩),h4⟩
 | ins C dx fs =>
  rintro ⟨h1,h2⟩
  exact ⟨dn h1 (fun ψ z=>by cases z),h2⟩
 | frz ob u ih=>exact fun ⟨h1,h2⟩=>⟨h1,ih h2⟩
 | _=>exact fun x=>x
theorem Inv.untrack (I:Inv X pins σ (upd H a (.ext φ)) s) (hn:H a=none):Inv X pins σ H s:=by
 have dn:∀ {c:Addr} {u:HO},upd H a (.ext φ) c=some u→(∀ ψ,u≠.ext ψ)→H c=some u:=fun {c u} e n=>by
  by_cases hc:c=a
  ·subst hc; rw [z0p] at e; cases e; exact absurd rfl (n φ)
  ·rw [z0d hc] at e; exact e
 have no:∀ {c:Addr},upd H a (.ext φ) c=none→H c=none:=fun {c} e=>by
  by_cases hc:c=a
  ·subst hc; exact hn
  ·rw [z0d hc] at e; exact e
 refine ⟨I.ok,I.os,I.bare,⟨I.base.keep,I.base.slot,fun b o e n hx=>no (I.base.free b o e n hx),I.base.there,fun b xs e=>dn (I.base.tups b xs e) (fun ψ z=>by cases z),fun b o u e=>dn (I.base.frzs b o u e) (fun ψ z=>by cases z),fun b ps e=>?_⟩,I.loc,I.cell,no I.free,fun x c e=>no (I.freeC x c e),fun p hp=>?_,fun b o e=>?_,I.len⟩
 ·obtain ⟨m,q⟩:=I.base.tbls b ps e
  exact ⟨m,dn q (fun ψ z=>by cases z)⟩
 ·obtain ⟨e,n,r⟩:=I.pin p hp
  exact ⟨e,no n,r⟩
 ·have hb:b≠a:=fun z=>by rw [z,hn] at e; cases e
  exact (I.hok b o (by rw [z0d hb]; exact e)).less
section
variable {X:Cx} {C f:Addr} {call:Expr} {te:TE} {pos:Pos}
theorem zaj {W:St→Hp→Prop} (q:excI X.K C f=true) (hc:X.calm=true) (he:PE X call te)
  (hxe:∀ pins σ H s a,Inv X pins σ (upd H a (.ext (excD C a))) s→H a=none→X.s₀.heap.get? a=none→W σ H→X.xe (.ref a) s) :
  PS X (.Raise (some call) none pos) (fun _ σ H=>te σ H fun v H2=>∃ a H1,v = .ref a∧H2=upd H1 a (.ext (excD C a))∧H1 a=none∧X.s₀.heap.get? a=none∧W σ H1):=by
 intro pins s σ H D I h
 rw [arm_exec_Raise]
 refine W1 (wpAny_standAt (zbO (I.ok.hd hc) (W1 (thn (he pins s σ H _ I h) fun v s1 ⟨x,H2,I2,rx,a,H1,ex,eH,n1,n2,w⟩=>W1 (wpAny_standAt (W8 ?_))))))
 subst ex eH
 obtain rfl:v=Value.ref a:=rx
 obtain ⟨bm,N,nm,qn,bs,hdct,sn,sub,ab,col,dd,k0,k1,k2,k3,k5,mN,hC,hN,hi,hT⟩:=z91 q I2.kIn
 obtain ⟨⟨dx,vs,sl,a0,e0,e1,e2⟩,_,_⟩:=(show ObjOk X.prog X.w (upd H1 a (.ext (excD C a))) s1.heap a (.ext (excD C a)) from I2.hok a _ z0p)
 exact ⟨a,C,N,dx,vs,sl,nm,qn,bs,bm,hdct,sn,sub,ab,col,dd,k0,k1,k2,k3,k5,_,rfl,hT.hasType rfl,hC,e0,e2,hxe pins σ H1 s1 a I2 n1 n2 w⟩
end
end L2
namespace DV
open PySem PySem.Spec PyProof.Rows L2 PySem.W
def z4r (y:Tx) (f:DE):DS:=fun δ=>(f δ).bind fun _ δ1=>.exc ⟨y,[]⟩ δ1
theorem z9T {X:Cx} {c:Fc} {x fld:Str} {C f:Addr} {fd:WD} {ps:List Str} {k:Nat} {e:Expr} {fe:DE} {np cpos pos:Pos} (y:Tx) (q:excI X.K C f=true) (hfn:isFn X.K (.ref f)=true) (hk:keepIn X.K (.ref C)=true) (hS:ExcS X.K C fld)
  (F:FnOk X.prog X.w X.K X.mg X.base CX0 k f fd ps (spX1 X.K fld)) (hr:Room (k + 1) X.A) (hb:Binds X.K fd ps []) (hc:X.calm=true) (hg:Gl X x) (hm:X.mg x=some (.ref C)) (he:SE X c e fe) (hx:XOkR X (wD X.mg c)) (hy:x=toS y:=by decide +kernel) (hd:(x == ("__debug__" : Str))=false:=by decide) (hex:X.ex=[]:=by rfl)
  (hs:W7 [e] X.env=(false,eval e X.env) :: W7 [] X.env:=by rfl):SS X c (.Raise (some (.Call (.Name x np) [e] [] cpos)) none pos) (z4r y fe) :=
 PS.weak (zaj (W:=fun σ H=>wD X.mg c C σ H) q hc (zc5 (p:=np) (pos:=cpos) q hfn hk F hr hb hex hg hm (z0T he z25 hs) (by simp) hd hs rfl) fun pins σ H s a I n1 n2 w=>by
  obtain ⟨⟨dx,vs,sl,a0,e0,e1,e2⟩,_,_⟩:=(show ObjOk X.prog X.w (upd H a (.ext (excD C a))) s.heap a (.ext (excD C a)) from I.hok a _ z0p)
  have ne:∀ {b:Addr},upd H a (.ext (excD C a)) b=none→a≠b:=fun {b} z e=>by rw [← e,z0p] at z; cases z
  exact hx pins σ H s a C (I.untrack n1) ⟨⟨_,vs,a0,e0,⟨rfl,e1⟩,rfl,e2⟩,n2,n1,ne I.free,fun x c hc z=>ne (I.freeC x c hc) z.symm,fun p hp z=>ne (I.pin p hp).2.1 z.symm⟩ w) fun D σ H ⟨δ,k,q⟩=>by
  unfold z4r z1E at q
  rw [z03] at q
  refine ⟨δ,k,z01 q fun r δ1 q1 v H1 a1 r1=>⟨by simp,fun a n1 n2=>⟨a,C,v,rfl,z0p,hS,rfl,a,H1,rfl,?_,n1,n2,y,δ1,by rw [← hy]; exact hm,a1.ok,q1⟩⟩⟩
  funext b
  unfold upd
  by_cases hb:b=a
  ·simp [hb]
  ·simp [hb]
def IniK (P:Wj) (w:Wp) (K:W0) (mg:Str→Option Value) (base:Heap) (C:Addr) (fld:Str):Prop :=
 ∃ (f:Addr) (fd:WD) (ps:List Str),excI K C f=true∧isFn K (.ref f)=true∧keepIn K (.ref C)=true∧ExcS K C fld∧Binds K fd ps []∧FnOk P w K mg base CX0 1 f fd ps (spX1 K fld)
theorem z9S {X:Cx} {c:Fc} {x fld:Str} {C:Addr} {e:Expr} {fe:DE} {np cpos pos:Pos} (y:Tx) (N:IniK X.prog X.w X.K X.mg X.base C fld) (hr:Room 2 X.A) (hc:X.calm=true) (hg:Gl X x) (hm:X.mg x=some (.ref C)) (he:SE X c e fe) (hx:XOkR X (wD X.mg c))
  (hy:x=toS y:=by decide +kernel) (hd:(x == ("__debug__" : Str))=false:=by decide) (hex:X.ex=[]:=by rfl) (hs:W7 [e] X.env=(false,eval e X.env) :: W7 [] X.env:=by rfl):SS X c (.Raise (some (.Call (.Name x np) [e] [] cpos)) none pos) (z4r y fe):=by
 obtain ⟨f,fd,ps,h1,h2,h3,h4,h5,h6⟩:=N
 exact z9T y h1 h2 h3 h4 h6 hr h5 hc hg hm he hx hy hd hex hs
def zeB:Stmt→List Stmt
 | .ClassDef _ _ _ b _ _ _ _ _ _ _=>b
 | _=>[]
section
variable {X:Cx} {c:Fc} {e:Expr} {fb:BE}
def z5Z:D→Option S
 | .str [n]=>if 97≤n∧n≤122 then some (.pure (.str [n - 32])) else none
 | _=>none
theorem zbz:∀ k:Nat,k < 26→Txt.upper (toS [97 + k])=toS [97 + k - 32]:=by decide +kernel
theorem zck:MtR X "str.upper" (fun x vs H Q=>∃ n:Nat,x = .str (toS [n])∧vs=[]∧(97≤n∧n≤122)∧Q (.str (toS [n - 32])) H):=by
 intro pins s σ H x vs v us Q I rx rv h
 obtain ⟨n,rfl,rfl,hn,q⟩:=h
 obtain ⟨t,rfl⟩:=rx
 cases rv
 have e:Txt.upper (toS [n])=toS [n - 32]:=by
  have:=zbz (n - 97) (by omega)
  rwa [show 97 + (n - 97)=n by omega] at this
 exact SC.upper (by rw [e]; rfl) (by rw [e]; exact ⟨.str _,H,I.tok _,⟨_,rfl⟩,q⟩)
theorem zbH {apos cpos:Pos} (he:SB X c e fb) (hbase:Qt e "upper" X.env (eval e X.env)=eval e X.env:=by rfl) (hline:(apos.endLine == cpos.line)=true:=by rfl) :
  SE X c (.Call (.Attribute e "upper" apos) [] [] cpos) (eC1 z5Z fb):=by
 refine PE.weak (zfx PySem.F.plainAttrs_str PySem.F.slot_str_upper PySem.F.type_str_upper zck he hbase hline) fun σ H Q h=>?_
 obtain ⟨δ,k,q⟩:=h
 refine ⟨δ,k,?_⟩
 unfold eC1 at q
 rw [z03] at q
 refine z01 q fun d δ1 q1 v H1 a1 r1=>?_
 unfold p1 at q1
 cases d with
 | str z =>
  match z with
  | []=>exact q1.elim
  | [n] =>
   have hv:v = .str (toS [n]):=by
    rcases r1 with r1 | ⟨a,_,o⟩
    ·cases r1; rfl
    ·exact o.elim
   by_cases hn:97≤n∧n≤122
   ·have e1:z5Z (.str [n])=some (.pure (.str [n - 32])):=if_pos hn
    rw [e1] at q1
    subst hv
    exact ⟨rfl,n,rfl,rfl,hn,q1 _ H1 a1 (.str _)⟩
   ·have e1:z5Z (.str [n])=none:=if_neg hn
    rw [e1] at q1
    exact q1.elim
  | _ :: _ :: _=>exact q1.elim
 | _=>exact q1.elim
end
end DV
namespace L2
open PySem PySem.Spec PyProof.Rows
section
variable {X:Cx} {tg:Expr}
theorem zdT (hc:X.calm=true) (hi:PI X tg iter wi) (hg:PG X.nox tg g) (hb:PSs X.nox body tb)
  (hs:∀ x,Ql iter X.env x=pure x:=by intro _; rfl):PS X (.For tg iter body [] pos) (tFor wi g tb):=by
 intro pins s σ H D I h
 refine wpAny_For (thn (hi pins s σ H _ I h) fun v s1 h1=>thn h1 fun itv s2 h2=>?_) hs
 obtain ⟨it,fp,tn,J,H2,e,I2,T,st2,f2,W,⟨m0,w0⟩,turn⟩:=h2
 subst e
 -- what stays true of the iterator's objects through the loop
 have stat:∀ {H':Hp},(∀ b ∈ fp,H' b=none)→∀ b ∈ fp,FpOk X.nox pins H' b:=fun hn b hb=>⟨hn b hb,(f2 b hb).2⟩
 refine codeAny_forLoop_any (fun n s'=>∃ i σ' H',Inv X.nox pins σ' H' s'∧tn i s'.heap∧(∀ b ∈ fp,H' b=none)∧W i n σ' H') ?_ m0 ⟨0,σ,H2,I2.wish _,st2,fun b hb=>(f2 b hb).1,w0⟩
 rintro n s3 ⟨i,σ3,H3,I3,st3,fr3,w3⟩
 rcases turn i n σ3 H3 w3 with ⟨stop,qn⟩ | ⟨go,N,hN,step⟩
 ·refine wpAny_noRaise (thn (T.done X.nox rfl rfl rfl hc i pins s3 σ3 H3 (fun _ _=>False) I3 (stat fr3) st3 stop) fun r s4 ⟨hr,I4⟩=>?_)
  subst hr
  exact Ja ⟨σ3,H3,I4.unwish,qn⟩
 ·refine wpAny_noRaise (thn (T.item X.nox rfl rfl rfl hc i pins s3 σ3 H3 (fun _ _=>False) I3 (stat fr3) st3 go) fun r s4 ⟨u,hr,h4⟩=>?_)
  subst hr
  refine wpAny_noRaise (thn h4 fun _ s5 ⟨x,H5,I5,r5,y5,st5,fr5⟩=>?_)
  have I5':=I5.pinned (stat fr5) (T.obj _ _ st5)
  refine wpAny_noRaise (thn (hg _ s5 σ3 H5 x u _ I5' r5 (step x H5 y5)) fun _ s6 ⟨σ6,H6,I6,q6⟩=>?_)
  refine wpAny_noRaise (thn (hb _ s6 σ6 H6 _ I6 q6) fun f s7 q7=>?_)
  have again:∀ {σ7:St} {H7:Hp},Inv X.nox (pins ++ z5Y fp s5.heap) σ7 H7 s7→N σ7 H7→∃ m,m < n∧∃ i σ' H',Inv X.nox pins σ' H' s7∧tn i s7.heap∧(∀ b ∈ fp,H' b=none)∧W i m σ' H':=fun {σ7 H7} I7 n7=>by
   obtain ⟨m',hm,w7⟩:=hN σ7 H7 n7
   refine ⟨m',hm,i + 1,σ7,H7,I7.unpinned,T.keep _ _ _ st5 fun b hb o e=>(I7.pin (b,o) (Wz _ (Wz _ (z29 hb e)))).1,fun b hb=>?_,w7⟩
   obtain ⟨o,e,d⟩:=T.obj _ _ st5 b hb
   exact (I7.pin (b,o) (Wz _ (Wz _ (z29 hb e)))).2.1
  cases f with
  | next=>obtain ⟨σ7,H7,I7,n7⟩:=q7; exact again I7 n7
  | cont=>obtain ⟨σ7,H7,I7,n7⟩:=q7; exact again I7 n7
  | brk=>obtain ⟨σ7,H7,I7,q7⟩:=q7; exact ⟨σ7,H7,I7.unpinned.unwish,q7⟩
  | ret v=>obtain ⟨x7,σ7,H7,I7,r7,q7⟩:=q7; exact ⟨x7,σ7,H7,I7.unpinned.unwish,r7,q7⟩
end
end L2
namespace DV
open PySem PySem.Spec PyProof.Rows L2
section
variable {X:Cx} {c:Fc} {tg e:Expr} {fe:DE} {pos pp:Pos}
theorem zdr {iter:Expr} {body:List Stmt} {it:DI} {g:DG} {b:DS} (hc:X.calm=true) (hi:SI X c tg iter it) (hg:SG X.nox c tg g) (hb:SSs X.nox c body b)
  (hs:∀ x,Ql iter X.env x=pure x:=by intro _; rfl):SS X c (.For tg iter body [] pos) (dFor it g b):=PS.weak (zdT hc hi hg hb hs) fun D σ H ⟨δ,k,q⟩=>by
 unfold dFor z1E at q
 rw [z03] at q
 refine ⟨δ,k,z01 q fun ds δ1 q1 J H1 a1 io=>?_⟩
 refine ⟨fun i m σ2 H2=>∃ δ2,m=ds.length - i∧i≤ds.length∧Aft c σ δ1 H1 σ2 δ2 H2∧z1E c D σ2 δ2 H2 (forL g b (ds.drop i) δ2),⟨ds.length,δ1,by simp,Qb _,.refl a1.ok,?_⟩,?_⟩
 ·rw [List.drop_zero]
  exact z01 q1 fun fl δ2 q2 σ2 H2 a2=>q2 σ2 H2 (a1.trans a2)
 ·rintro i m σ2 H2 ⟨δ2,rfl,hil,a2,p2⟩
  by_cases hlt:i < ds.length
  ·right
   have e:ds[i]? = some ds[i]:=by simp [hlt]
   rw [List.drop_eq_getElem_cons hlt] at p2
   refine ⟨((io H2 a2.keep).2 i _ e).1,fun σ4 H4=>∃ δ4,Aft c σ δ1 H1 σ4 δ4 H4∧z1E c D σ4 δ4 H4 (forL g b (ds.drop (i + 1)) δ4),fun σ4 H4 ⟨δ4,a4,p4⟩=>⟨ds.length - (i + 1),by omega,δ4,rfl,hlt,a4,p4⟩,fun x H3 y=>?_⟩
   obtain ⟨a3,r3⟩:=z6d io a2 e y
   simp only [forL,z1E] at p2
   cases eg:g (.pure ds[i]) δ2 with
   | none=>rw [eg] at p2; exact p2.elim
   | some δ3 =>
    rw [eg] at p2
    refine ⟨σ2,δ2,H3,δ2,.pure ds[i],δ3,.refl a3.ok,r3,eg,fun σ3 a3'=>?_⟩
    have p3:post c ((b δ3).bind fun fl δ2=>match fl with
     | .next=>forL g b (ds.drop (i + 1)) δ2
     | .cont=>forL g b (ds.drop (i + 1)) δ2
     | .brk=>.ok .next δ2
     | .ret v=>.ok (.ret v) δ2) fun fl δ'=>∀ σ' H',Aft c σ2 δ2 H2 σ' δ' H'→fin c D σ' δ' H' fl:=p2
    rw [z03] at p3
    have a23:Aft c σ2 δ2 H2 σ3 δ3 H3:=a3.trans a3'
    refine ⟨δ3,a3'.ok,z01 p3 fun fl δ4 p4 σ4 H4 a4=>?_⟩
    have a24:=a23.trans a4
    cases fl with
    | next=>exact ⟨δ4,a2.trans a24,z01 p4 fun fl δ5 p5 σ5 H5 a5=>p5 σ5 H5 (a24.trans a5)⟩
    | cont=>exact ⟨δ4,a2.trans a24,z01 p4 fun fl δ5 p5 σ5 H5 a5=>p5 σ5 H5 (a24.trans a5)⟩
    | brk=>exact p4 σ4 H4 a24
    | ret r=>exact p4 σ4 H4 a24
  ·left
   have hi2:i=ds.length:=by omega
   subst hi2
   rw [List.drop_length] at p2
   exact ⟨(io H2 a2.keep).1,p2 σ2 H2 (.refl a2.ok)⟩
end
end DV
namespace PySem.SeqAt
open AutoSeq1 (wpAny_loadPart')
open MeetsSeq
section
variable {A:Wo} {s:W2}
end
end PySem.SeqAt
namespace DV
open PySem PySem.Spec PyProof.Rows L2
end DV
namespace PySem.SeqAt
open AutoSeq1 (wpAny_loadPart')
open MeetsSeq
abbrev prO (dd:Option Addr) (a1 a2:Int) (t1 t2:Tok) (n:Nat) (sl:Array (Option Value)):Obj:={ cls:=.type "tuple",dict:=dd,data:=.seq #[.int a1 t1,.int a2 t2] n,slots:=sl }
def ltP (a1 a2 b1 b2:Int):Bool:=if a1 == b1 then decide (a2 < b2) else decide (a1 < b1)
theorem z6T (l b:Addr) (a1 a2 b1 b2:Int) (t1 t2 u1 u2:Tok) (n n2:Nat) (dd dd2:Option Addr) (sl sl2:Array (Option Value)) :
  Meets (Builtin.«tuple.__lt__» ⟨[.ref l,.ref b],[]⟩)
   (fun _ R s=>s.heap.get? l=some (prO dd a1 a2 t1 t2 n sl)∧s.heap.get? b=some (prO dd2 b1 b2 u1 u2 n2 sl2)∧R (.ok (.ret (.bool (ltP a1 a2 b1 b2)))) s) :=
 .of_wp fun prog w A R s h=>by
  obtain ⟨hp,g,d,tk,os⟩:=s; obtain ⟨hl,hb,h⟩:=h
  have f2:=AutoSeq1.sub_tuple_tuple
  wp_walk using Q5 hl,Q5 hb,wpAny_forIn_list _ (fun rest c s'=>c.1=none∧s' = ⟨hp,g,d,tk,os⟩ ∧
   (rest=[(.int a1 t1,.int b1 u1),(.int a2 t2,.int b2 u2)]∨(rest=[(.int a2 t2,.int b2 u2)]∧a1=b1)∨(rest=[]∧a1=b1∧a2=b2))) _
  case turn =>
   rintro ⟨y,x⟩ rest c s' ⟨hc,rfl,hz⟩
   rcases hz with hz | ⟨hz,e1⟩ | ⟨hz,_⟩
   ·injection hz with hyx hrest
    cases hyx
    refine W1 (EqAt.int_int a1 t1 b1 u1 prog w _ _ ?_)
    by_cases e:a1=b1
    ·rw [show (a1 == b1)=true by simp [e]]
     wp_walk
     exact ⟨rfl,rfl,.inr (.inl ⟨hrest,e⟩)⟩
    ·rw [show (a1 == b1)=false by simp [e]]
     have hlt:ltP a1 a2 b1 b2=decide (a1 < b1):=by simp [ltP,e]
     rw [hlt] at h
     simp only [Bool.not_false,if_true]
     refine W1 (JE ?_)
     refine W1 (richCompare_gives (op:=.Lt) (JC _ _ t1) (JC _ _ u1) F.slot_int_lt F.entry_int_lt (F.args_int_lt_2 _ _) (gives_int_lt _ _ t1 u1) (fun x=>nomatch x) ?_)
     refine W1 (W8 ?_)
     exact W8 (W8 ⟨_,rfl,h⟩)
   ·injection hz with hyx hrest
    cases hyx
    refine W1 (EqAt.int_int a2 t2 b2 u2 prog w _ _ ?_)
    by_cases e:a2=b2
    ·rw [show (a2 == b2)=true by simp [e]]
     wp_walk
     exact ⟨rfl,rfl,.inr (.inr ⟨hrest,e1,e⟩)⟩
    ·rw [show (a2 == b2)=false by simp [e]]
     have hlt:ltP a1 a2 b1 b2=decide (a2 < b2):=by simp [ltP,e1]
     rw [hlt] at h
     simp only [Bool.not_false,if_true]
     refine W1 (JE ?_)
     refine W1 (richCompare_gives (op:=.Lt) (JC _ _ t2) (JC _ _ u2) F.slot_int_lt F.entry_int_lt (F.args_int_lt_2 _ _) (gives_int_lt _ _ t2 u2) (fun x=>nomatch x) ?_)
     refine W1 (W8 ?_)
     exact W8 (W8 ⟨_,rfl,h⟩)
   ·cases hz
  case fin =>
   rintro ⟨c1,c2⟩ s' ⟨hc,rfl,hz⟩
   simp only at hc
   subst hc
   rcases hz with hz | ⟨hz,e1⟩ | ⟨_,e1,e2⟩
   ·cases hz
   ·cases hz
   ·have hlt:ltP a1 a2 b1 b2=false:=by simp [ltP,e1,e2]
    rw [hlt] at h
    wp_walk
    exact ⟨_,rfl,h⟩
  case h=>exact ⟨rfl,rfl,.inl rfl⟩
end PySem.SeqAt
namespace PySem
open SeqAt (prO ltP z6T)
section
variable {prog:Wj} {w:Wp} {A:Wo} {R:Result→W2→Prop} {I:Addr} {fp wr:List Addr} {n:Nat} {P:Nat→Value→Prop} {St:Nat→Heap→Prop}
theorem zaM (W:Walks prog w A.in1 I fp wr n P St) (bt:Nat→Nat→Bool) (S:Addr) (hSf:S ∉ fp) (T:Heap→Prop) (hT:∀ h h':Heap,(∀ b o,b ∉ wr→b≠S→h.get? b=some o→h'.get? b=some o)→T h→T h')
  (ask:∀ i j vi vj (s:W2) (Q:Value→W2→Prop) (E:Value→W2→Prop),T s.heap→P i vi→P j vj→Q (.bool (bt i j)) s→W9 (model prog w) A.in1 (richCompare .Lt vi vj) Q E s) :
  ∀ (m j:Nat) (s:W2) (vb:Value) (c:Nat),j + 1 + m=n→T s.heap→St (j + 1) s.heap→P (Qp bt j) vb→s.heap.get? S=some { cls:=.type "list",dict:=none,data:=.seq #[vb,vb] c,slots:=#[] } →
   (∀ v h' tk,P (Qp bt (n - 1)) v→(∀ b o,b ∉ wr→b≠S→s.heap.get? b=some o→h'.get? b=some o)→R (.ok (.ret v)) { s with heap:=h',toks:=tk }) →
   Qz (model prog w) A (.builtin "min.loop" ⟨[.ref I,.none,.ref S],[]⟩) R s:=by
 have hSw:S ∉ wr:=fun h=>hSf (W.sub _ h)
 have hname:(toString "min" ++ toString ".loop" : String) = "min.loop":=by decide
 intro m
 induction m with
 | zero =>
  intro j s vb c hj ht hst hb hS hR
  have hn:j + 1=n:=by omega
  refine Jd F.entry_min_loop ?_
  rw [Around.under_plainId QD _]
  show W9 _ A.in1 (seqItems? (.ref S) >>= _) _ _ s
  refine W1 (JG hS rfl ?_)
  show W9 _ A.in1 (tryCatch (pyNext (.ref I)) _ >>= _) _ _ s
  refine W1 (JF (W.done s _ _ (hn ▸ hst) fun h1 tk k1=>?_))
  show W9 _ A.in1 (updateSeq S (fun _=>#[]) >>= _) _ _ _
  refine W1 (wpAny_updateSeq (k1 S _ hSw hS) rfl (W1 (wpAny_letGo (W8 ?_))))
  exact hR vb _ tk (by rw [← hn]; exact hb) fun b o x y e=>(WQ _ _ (Ne.symm y)).trans (k1 b o x e)
 | succ m ih =>
  intro j s vb c hj ht hst hb hS hR
  refine Jd F.entry_min_loop ?_
  rw [Around.under_plainId QD _]
  show W9 _ A.in1 (seqItems? (.ref S) >>= _) _ _ s
  refine W1 (JG hS rfl ?_)
  show W9 _ A.in1 (tryCatch (pyNext (.ref I)) _ >>= _) _ _ s
  refine W1 (JF (W.item (j + 1) s _ _ (by omega) hst fun v h1 tk hv hst1 k1=>?_))
  have S1:=k1 S _ hSw hS
  have t1:T h1:=hT _ _ (fun b o x _ e=>k1 b o x e) ht
  show W9 _ A.in1 (tryCatch (holding [v,v] (richCompare .Lt v vb >>= _)) _ >>= _) _ _ _
  refine W1 (JF (Q3 (W1 (ask (j + 1) (Qp bt j) v vb _ _ _ t1 hv hb ?_))))
  refine W1 (Q3 (Qy ?_))
  refine W1 (wpAny_letGo (W8 ?_))
  by_cases hc:bt (j + 1) (Qp bt j)=true
  ·have hbest:Qp bt (j + 1)=j + 1:=by simp only [Qp,hc,if_true]
   simp only [hc,if_true]
   refine W1 (wpAny_updateSeq S1 rfl (W1 (wpAny_letGo ?_)))
   rw [hname]
   refine W8 ⟨J5 QD _,ih (j + 1) _ v _ (by omega) (hT h1 _ (fun b o _ y e=>(WQ _ _ (Ne.symm y)).trans e) t1)
    (W.frame _ _ _ hst1 fun b x o e=>(WQ _ _ (fun h:S=b=>hSf (by rw [h]; exact x))).trans e) (by rw [hbest]; exact hv) (QK _ S1 rfl) fun v' h2 tk2 p2 k2=>?_⟩
   exact hR v' h2 tk2 p2 fun b o x y e=>k2 b o x y ((WQ _ _ (Ne.symm y)).trans (k1 b o x e))
  ·have hbest:Qp bt (j + 1)=Qp bt j:=by simp only [Qp,hc,Bool.false_eq_true,if_false]
   simp only [hc,Bool.false_eq_true,if_false]
   refine W1 (wpAny_letGo ?_)
   rw [hname]
   refine W8 ⟨J5 QD _,ih (j + 1) _ vb c (by omega) t1 hst1 (by rw [hbest]; exact hb) S1 fun v' h2 tk2 p2 k2=>?_⟩
   exact hR v' h2 tk2 p2 fun b o x y e=>k2 b o x y (k1 b o x e)
end
theorem ltP_iff (a1 a2 b1 b2:Int):ltP a1 a2 b1 b2=true ↔ a1 < b1∨(a1=b1∧a2 < b2):=by
 unfold ltP
 by_cases e:a1=b1
 ·simp [e]
 ·simp [e]
theorem z97 (f:Nat→Int×Int):∀ k,Qp (fun i j=>ltP (f i).1 (f i).2 (f j).1 (f j).2) k≤k∧∀ j,j≤k→ltP (f j).1 (f j).2 (f (Qp (fun i j=>ltP (f i).1 (f i).2 (f j).1 (f j).2) k)).1 (f (Qp (fun i j=>ltP (f i).1 (f i).2 (f j).1 (f j).2) k)).2=false
 | 0=>⟨Wc _,fun j hj=>by
  obtain rfl:j=0:=by omega
  show ltP (f 0).1 (f 0).2 (f 0).1 (f 0).2=false
  simp [ltP]⟩
 | k + 1=>by
  obtain ⟨h1,h2⟩:=z97 f k
  have e:Qp (fun i j=>ltP (f i).1 (f i).2 (f j).1 (f j).2) (k + 1)=if ltP (f (k + 1)).1 (f (k + 1)).2 (f (Qp (fun i j=>ltP (f i).1 (f i).2 (f j).1 (f j).2) k)).1 (f (Qp (fun i j=>ltP (f i).1 (f i).2 (f j).1 (f j).2) k)).2 then k + 1 else Qp (fun i j=>ltP (f i).1 (f i).2 (f j).1 (f j).2) k:=rfl
  rw [e]
  generalize Qp (fun i j=>ltP (f i).1 (f i).2 (f j).1 (f j).2) k=m at *
  cases hc:ltP (f (k + 1)).1 (f (k + 1)).2 (f m).1 (f m).2 with
  | true =>
   rw [if_pos rfl]
   refine ⟨Wc _,fun j hj=>?_⟩
   rw [Qd,Ne,ltP_iff]
   rw [ltP_iff] at hc
   by_cases hjk:j=k + 1
   ·subst hjk; omega
   ·have:=h2 j (by omega)
    rw [Qd,Ne,ltP_iff] at this
    omega
  | false =>
   rw [if_neg (by simp)]
   refine ⟨by omega,fun j hj=>?_⟩
   by_cases hjk:j=k + 1
   ·subst hjk; exact hc
   ·exact h2 j (by omega)
section
variable {prog:Wj} {w:Wp} {A:Wo} {E:Value→W2→Prop} {s:W2}
theorem zeg {l:Addr} {ps:Array (Addr×Int×Int)} {Q:Value→W2→Prop} (hh:A.handled=none) (hu:A.units + 2 < WX) (hl:s.heap.IsList l (ps.map fun p=>.ref p.1)) (hne:0 < ps.size)
  (ho:∀ p ∈ ps,∃ dd t1 t2 n sl,s.heap.get? p.1=some (prO dd p.2.1 p.2.2 t1 t2 n sl))
  (h:∀ p h' tk,p ∈ ps→(∀ q ∈ ps,ltP q.2.1 q.2.2 p.2.1 p.2.2=false)→(∀ b o,s.heap.get? b=some o→h'.get? b=some o)→Q (.ref p.1) { s with heap:=h',toks:=tk }) :
  W9 (model prog w) A (call (.builtin "min") [.ref l]) Q E s:=by
 have hname:(toString "min" ++ toString ".loop" : String) = "min.loop":=by decide
 let f:Nat→Int×Int:=fun i=>((ps[i]?).map (·.2)).getD (0,0)
 have hlt:l < s.heap.objs.size:=by obtain ⟨_,e,_⟩:=hl; exact Wg e
 refine call_function_tree F.kind_min F.plain_min F.entry_min (F.args_min1 _) ?_
 show W9 _ A.in1 (Builtin.Builtins.bindParams "min" ["key","default"] 0 ⟨[],[]⟩ >>= _) _ _ s
 refine W1 (wpAny_of_eq (show Builtin.Builtins.bindParams "min" ["key","default"] 0 ⟨[],[]⟩=pure [none,none] from rfl) ?_)
 refine W1 (W8 ?_)
 refine W1 (wpAny_pyIter_list hl ?_)
 refine W1 (WN ?_)
 rw [hname]
 obtain ⟨I,hI⟩:∃ I:Nat,s.heap.objs.size=I:=⟨_,rfl⟩
 rw [hI] at hlt
 rw [hI]
 have hI2:(s.heap.push { cls:=.type "list_iterator",data:=.fields #[.ref l,.int 0 0] }).objs.size=I + 1:=by rw [Ji,hI]
 rw [hI2]
 have hli:l≠I:=Ws hlt
 have W:=Walks.list (prog:=prog) (w:=w) (A:=A.in1) hh I l hli (ps.map fun p=>Value.ref p.1)
 have hSf:I + 1 ∉ [I,l]:=fun hm=>by
  rcases Wf.mp hm with e | hm
  ·exact absurd e (JO I)
  ·rcases Wf.mp hm with e | hm
   ·exact absurd hlt (by rw [← e]; exact Nat.not_lt.mpr (Nat.le_succ I))
   ·cases hm
 have hold:∀ b o,s.heap.get? b=some o→((s.heap.push { cls:=.type "list_iterator",data:=.fields #[.ref l,.int 0 0] }).push { cls:=.type "list",data:=.seq #[] }).get? b=some o:=fun b o e=>W5 _ (W5 _ e)
 -- what stays on the heap
 let T:Heap→Prop:=fun h'=>∀ p ∈ ps,∀ o,s.heap.get? p.1=some o→h'.get? p.1=some o
 have hT:∀ h1 h2:Heap,(∀ b o,b ∉ [I]→b≠I + 1→h1.get? b=some o→h2.get? b=some o)→T h1→T h2:=fun h1 h2 k t p hp o e=>by
  have hb:=Wg e
  rw [hI] at hb
  exact k p.1 o (fun hm=>absurd (List.mem_singleton.mp hm) (Ws hb)) (Ws (QQ hb)) (t p hp o e)
 have ask:∀ i j vi vj (s':W2) (Q:Value→W2→Prop) (E:Value→W2→Prop),T s'.heap→(ps.map fun p=>Value.ref p.1)[i]? = some vi→(ps.map fun p=>Value.ref p.1)[j]? = some vj→Q (.bool (ltP (f i).1 (f i).2 (f j).1 (f j).2)) s'→W9 (model prog w) A.in1 (richCompare .Lt vi vj) Q E s':=fun i j vi vj s' Q E t hi hj q=>by
  simp only [Array.getElem?_map,Wx] at hi hj
  obtain ⟨p,hp,rfl⟩:=hi
  obtain ⟨r,hr,rfl⟩:=hj
  have hpm:=Array.mem_of_getElem? hp
  have hrm:=Array.mem_of_getElem? hr
  obtain ⟨dd,t1,t2,n,sl,e1⟩:=ho p hpm
  obtain ⟨dd2,u1,u2,n2,sl2,e2⟩:=ho r hrm
  have fi:f i=p.2:=by simp only [f,hp]; rfl
  have fj:f j=r.2:=by simp only [f,hr]; rfl
  rw [fi,fj] at q
  exact richCompare_meets_room (op:=.Lt) ⟨_,t p hpm _ e1,rfl⟩ ⟨_,t r hrm _ e2,rfl⟩ F.slot_tuple_lt F.entry_tuple_lt (F.args_tuple_lt_2 _ _) (z6T p.1 r.1 _ _ _ _ t1 t2 u1 u2 n n2 dd dd2 sl sl2)
   ⟨t p hpm _ e1,t r hrm _ e2,(fun x=>nomatch x),q⟩ (show A.units + 1 < WX by omega)
 -- the first one
 have hsz:(ps.map fun p=>Value.ref p.1).size=ps.size:=Array.size_map ..
 refine W8 ⟨J5 QD _,?_⟩
 refine Jd F.entry_min_loop ?_
 rw [Around.under_plainId QD _]
 have hSo:((s.heap.push { cls:=.type "list_iterator",data:=.fields #[.ref l,.int 0 0] }).push { cls:=.type "list",data:=.seq #[] }).get? (I + 1)=some { cls:=.type "list",dict:=none,data:=.seq #[] 0,slots:=#[] }:=by rw [← hI2]; exact Wq _ rfl
 have hIo:((s.heap.push { cls:=.type "list_iterator",data:=.fields #[.ref l,.int 0 0] }).push { cls:=.type "list",data:=.seq #[] }).get? I=some { cls:=.type "list_iterator",data:=.fields #[.ref l,.int 0 0] }:=W5 _ (by rw [← hI]; exact Wq _ rfl)
 show W9 _ A.in1 (seqItems? (.ref (I + 1)) >>= _) _ _ _
 refine W1 (JG hSo rfl ?_)
 show W9 _ A.in1 (tryCatch (pyNext (.ref I)) _ >>= _) _ _ _
 refine W1 (JF (W.item 0 _ _ _ (by rw [hsz]; exact hne) ⟨⟨_,hIo,rfl,rfl⟩,(hl.push _).push _⟩ fun v h1 tk hv hst1 k1=>?_))
 have S1:=k1 (I + 1) _ (by simp) hSo
 show W9 _ A.in1 (updateSeq (I + 1) (fun _=>#[v,v]) >>= _) _ _ _
 refine W1 (wpAny_updateSeq S1 rfl ?_)
 rw [hname]
 have t0:T h1:=fun p hp o e=>by
  have hb:=Wg e
  rw [hI] at hb
  exact k1 p.1 o (fun hm=>absurd (List.mem_singleton.mp hm) (Ws hb)) (hold _ _ e)
 refine W8 ⟨J5 QD _,zaM W (fun i j=>ltP (f i).1 (f i).2 (f j).1 (f j).2) (I + 1) hSf T hT ask (ps.size - 1) 0 _ v _ (by rw [hsz]; omega) (hT h1 _ (fun b o _ y e=>(WQ _ _ (Ne.symm y)).trans e) t0)
  (W.frame _ _ _ hst1 fun b x o e=>(WQ _ _ (fun hh:I + 1=b=>hSf (by rw [hh]; exact x))).trans e) hv (QK _ S1 rfl) fun v' h2 tk2 p2 k2=>?_⟩
 obtain ⟨b1,b2⟩:=z97 f (ps.size - 1)
 rw [hsz] at p2
 simp only [Array.getElem?_map,Wx] at p2
 obtain ⟨p,hp,rfl⟩:=p2
 have fp:f (Qp (fun i j=>ltP (f i).1 (f i).2 (f j).1 (f j).2) (ps.size - 1))=p.2:=by
  show ((ps[Qp (fun i j=>ltP (f i).1 (f i).2 (f j).1 (f j).2) (ps.size - 1)]?).map (·.2)).getD (0,0)=p.2
  rw [hp]; rfl
 rw [fp] at b2
 refine h p h2 tk2 (Array.mem_of_getElem? hp) (fun q hq=>?_) (fun b o e=>?_)
 ·obtain ⟨j,hj,ej⟩:=Array.getElem_of_mem hq
  have:=b2 j (by omega)
  have fj:f j=q.2:=by
   show ((ps[j]?).map (·.2)).getD (0,0)=q.2
   rw [Array.getElem?_eq_getElem hj,ej]; rfl
  rw [fj] at this
  exact this
 ·have hb:=Wg e
  rw [hI] at hb
  have nI:b ∉ [I]:=fun hm=>absurd (List.mem_singleton.mp hm) (Ws hb)
  have nS:b≠I + 1:=Ws (QQ hb)
  exact k2 b o nI nS ((WQ _ _ (Ne.symm nS)).trans (k1 b o nI (hold b o e)))
end
end PySem
namespace DV
open PySem PySem.Spec PyProof.Rows L2
open PySem.SeqAt (prO ltP)
def prD2:D→Option (Int×Int)
 | .tup [.int a,.int b]=>some (a,b)
 | _=>none
def prsD:List D→Option (List (Int×Int))
 | []=>some []
 | d :: r=>(prD2 d).bind fun p=>(prsD r).map (p :: ·)
def mnP:List (Int×Int)→Int×Int
 | []=>(0,0)
 | p :: r=>match r with
  | []=>p
  | _=>if ltP p.1 p.2 (mnP r).1 (mnP r).2 then p else mnP r
theorem zaK:∀ ps:List (Int×Int),ps≠[]→mnP ps ∈ ps∧∀ q ∈ ps,ltP q.1 q.2 (mnP ps).1 (mnP ps).2=false
 | [],h=>(h rfl).elim
 | [p],_=>by simp [mnP,ltP]
 | p :: b :: r,_=>by
  obtain ⟨h1,h2⟩:=zaK (b :: r) (by simp)
  have e:mnP (p :: b :: r)=if ltP p.1 p.2 (mnP (b :: r)).1 (mnP (b :: r)).2 then p else mnP (b :: r):=rfl
  rw [e]
  generalize mnP (b :: r)=m at *
  cases hc:ltP p.1 p.2 m.1 m.2 with
  | true =>
   rw [if_pos rfl]
   refine ⟨Wh,fun q hq=>?_⟩
   rw [Qd,Ne,ltP_iff]
   rw [ltP_iff] at hc
   rcases Wf.mp hq with rfl | hq
   ·omega
   ·have:=h2 q hq
    rw [Qd,Ne,ltP_iff] at this
    omega
  | false =>
   rw [if_neg (by simp)]
   refine ⟨We _ h1,fun q hq=>?_⟩
   rcases Wf.mp hq with rfl | hq
   ·exact hc
   ·exact h2 q hq
theorem zef (hp:p ∈ ps) (h:∀ q ∈ ps,ltP q.1 q.2 p.1 p.2=false):p=mnP ps:=by
 obtain ⟨m1,m2⟩:=zaK ps (List.ne_nil_of_mem hp)
 have a:=h _ m1
 have b:=m2 _ hp
 rw [Qd,Ne,ltP_iff] at a b
 apply Prod.ext <;> omega
def z9r:D→Option S
 | .lst ds=>match prsD ds with
  | some (p :: ps)=>some (.pure (.tup [.int (mnP (p :: ps)).1,.int (mnP (p :: ps)).2]))
  | _=>none
 | _=>none
theorem z6S:∀ {as:List Addr} {us:List Value},Vals (as.map V.ref) us→us=as.map Value.ref
 | [],us,r=>by cases r; rfl
 | a :: as,us,r=>by
  cases r with
  | cons r1 r2 =>
   cases r1
   rw [z6S r2]
   rfl
theorem zbo (hc:X.calm=true) (hu:X.A.units + 64 < WX):CallR X (.builtin "min") (fun xs H Q=>∃ (a:Addr) (ps:List (Addr×Int×Int)),xs=[.ref a]∧SqL X.K H a (ps.map fun p=>V.ref p.1)∧ps≠[]∧(∀ p ∈ ps,SqT X.K H p.1 [.int p.2.1,.int p.2.2])∧∀ p ∈ ps,(∀ q ∈ ps,ltP q.2.1 q.2.2 p.2.1 p.2.2=false)→Q (.ref p.1) H):=by
 intro pins s σ H xs us Q I r h
 obtain ⟨a,ps,rfl,hq,hne,ht,q⟩:=h
 obtain ⟨u,rfl,ru⟩:=z5B r
 cases ru
 obtain ⟨its,r',p,_⟩:=I.list hq
 have r2:Vals ((ps.map (·.1)).map V.ref) its:=by rw [Jj]; exact r'
 have e:=z6S r2
 subst e
 have hl:=p.isList
 have el:((ps.map (·.1)).map Value.ref).toArray=ps.toArray.map fun p=>Value.ref p.1:=by simp
 rw [el] at hl
 refine zeg (I.ok.hd hc) (by omega) hl (by cases ps with | nil=>exact (hne rfl).elim | cons _ _=>simp) (fun p hp=>?_) fun p h' tk hp hm hk=>?_
 ·obtain ⟨ts,rt,pt,_⟩:=I.tuple (ht p (by simpa using hp))
  cases rt with
  | cons r1 r2 =>
   cases r2 with
   | cons r2 r3 =>
    cases r3
    obtain ⟨t1,rfl⟩:=r1
    obtain ⟨t2,rfl⟩:=r2
    obtain ⟨⟨cls,dd,data,sl⟩,ho,hcl,n,hd⟩:=(show s.heap.IsTuple p.1 _ from pt)
    simp only at hcl hd
    subst hcl hd
    exact ⟨dd,t1,t2,n,sl,ho⟩
 ·exact ⟨.ref p.1,H,I.kept hk,rfl,q p (by simpa using hp) fun r hr=>hm r (by simpa using hr)⟩
theorem zdV (h:prD2 d=some p):d = .tup [.int p.1,.int p.2]:=by
 unfold prD2 at h
 split at h
 ·cases h; rfl
 ·cases h
theorem z8F:∀ {ds:List D} {vs:List V} {qs:List (Int×Int)},prsD ds=some qs→Reps H O vs ds→∃ ps:List (Addr×Int×Int),vs=(ps.map fun p=>V.ref p.1)∧qs=ps.map (·.2)∧∀ p ∈ ps,¬ O p.1∧H p.1=some (.tup [.int p.2.1,.int p.2.2])
 | [],vs,qs,h,r=>by
  simp only [prsD,W6] at h
  subst h
  have:=r.1
  exact ⟨[],by simpa using this,rfl,fun p hp=>by cases hp⟩
 | d :: ds,[],qs,h,r=>by have:=r.1; simp at this
 | d :: ds,v :: vs,qs,h,r=>by
  obtain ⟨⟨a,b⟩,e1,h⟩:=Option.bind_eq_some_iff.mp (show ((prD2 d).bind fun p=>(prsD ds).map (p :: ·))=some qs from h)
  obtain ⟨qs',e,rfl⟩:=Wx.mp h
  have ed:=zdV e1
  subst ed
  obtain ⟨ps,e1,e2,e3⟩:=z8F e r.tail
  have hd:=r.head
  cases hd with
  | tup ho hH hl hr =>
   rename_i p ws
   match ws,hl with
   | [w1,w2],_ =>
    have h1:=hr 0 w1 _ rfl rfl
    have h2:=hr 1 w2 _ rfl rfl
    cases h1
    cases h2
    refine ⟨(p,a,b) :: ps,by rw [e1]; rfl,by rw [e2]; rfl,fun q hq=>?_⟩
    rcases Wf.mp hq with rfl | hq
    ·exact ⟨ho,hH⟩
    ·exact e3 q hq
section
variable {X:Cx} {c:Fc} {e:Expr} {fb:BE} {pos pp:Pos}
theorem zdz (hc:X.calm=true) (hu:X.A.units + 64 < WX) (hg:Gl X "min") (hm:X.mg "min" = none) (he:SB X c e fb) (hs:W7 [e] X.env=(false,eval e X.env) :: W7 [] X.env:=by rfl):SE X c (.Call (.Name "min" pp) [e] [] pos) (eC1 z9r fb) :=
 z8E (r:=fun v H Q=>∃ (a:Addr) (ps:List (Addr×Int×Int)),v = .ref a∧SqL X.K H a (ps.map fun p=>V.ref p.1)∧ps≠[]∧(∀ p ∈ ps,SqT X.K H p.1 [.int p.2.1,.int p.2.2])∧∀ p ∈ ps,(∀ q ∈ ps,ltP q.2.1 q.2.2 p.2.1 p.2.2=false)→Q (.ref p.1) H) (zbo hc hu) (fun v H Q ⟨a,ps,e,h⟩=>⟨a,ps,by rw [e],h⟩) (fun c σ δ H x d s Q k rx hp q=>by
  cases d with
  | lst ds =>
   simp only [z9r] at hp
   cases e:prsD ds with
   | none=>rw [e] at hp; cases hp
   | some qs =>
    rw [e] at hp
    cases qs with
    | nil=>cases hp
    | cons n ns =>
     simp only [W6] at hp
     subst hp
     obtain ⟨a,vs,ea,ha,ra⟩:=rx.lst
     obtain ⟨ps,e1,e2,e3⟩:=z8F e ra
     subst e1
     refine ⟨a,ps,ea,.inl ha,(fun z=>by rw [z] at e2; cases e2),fun p hp=>.of (e3 p hp).2,fun p hp hm=>?_⟩
     have hmin:p.2=mnP (n :: ns):=by
      rw [e2]
      refine zef (WC hp) fun z hz=>?_
      obtain ⟨r,hr,rfl⟩:=Qx.mp hz
      exact hm r hr
     refine q _ H (.refl k) ?_
     rw [← hmin]
     refine .tup (e3 p hp).1 (e3 p hp).2 rfl fun i v d h1 h2=>?_
     match i with
     | 0=>cases h1; cases h2; exact .int _
     | 1=>cases h1; cases h2; exact .int _
     | i + 2=>cases h1
  | _=>simp [z9r] at hp) hg hm PyProof.Rows.boot_min he (by decide) (by decide) hs
end
def z7z (fk fv:DE):DE:=fun δ=>(fk δ).bind fun r δ1=>(fv δ1).bind fun s δ2=>match r,s with
 | .pure dk,.pure d=>match keyD dk with
  | some kk=>.ok (.own (.dct [(kk,d)])) δ2
  | none=>.stuck
 | _,_=>.stuck
section
variable {c:Fc} {σ:St} {δ δ':Dl} {H H':Hp} {p:Addr}
theorem Ok.updP (k:Ok (c.plus p) σ δ H) (h0:c.H₀ p=none) (o:HO):Ok (c.plus p) σ δ (upd H p o):=by
 have kpl:∀ b w,H b=some w→¬ Av (c.plus p) σ δ b→upd H p o b=some w:=fun b w e n=>by
  rw [z0d (fun z:b=p=>n (.inl (.inr z)))]; exact e
 have ex:∀ b,(∃ w,H b=some w)→∃ w,upd H p o b=some w:=fun b ⟨w,e⟩=>by
  by_cases z:b=p
  ·rw [z]; exact ⟨o,z0p⟩
  ·rw [z0d z]; exact ⟨w,e⟩
 refine ⟨fun a w e n=>?_,fun a z=>ex a (k.bd a z),fun a z=>ex a (k.ith a z),k.len,fun i d e=>?_,fun i d e=>?_,k.inj,k.pinned⟩
 ·rw [z0d (fun z:a=p=>by have e':c.H₀ a=some w:=e; rw [z,h0] at e'; cases e')]
  exact k.keep a w e n
 ·obtain ⟨v,e1,r⟩:=k.slot i d e
  exact ⟨v,e1,r.keep kpl⟩
 ·obtain ⟨a,e1,oa,h1,h2⟩:=k.own i d e
  exact ⟨a,e1,oa.keep kpl (fun w e=>by rw [z0d (fun z:a=p=>h2 (.inr z))]; exact e),h1,h2⟩
theorem z76 (h:post c r k) (m:∀ a δ,k a δ→k' a δ):post (c.plus p) r k':=by
 cases r with
 | ok a δ=>exact m a δ h
 | exc x δ=>exact h
 | stuck=>exact h
end
theorem zbJ {X:Cx} {c:Fc} {k v:Expr} {fk fv:DE} {pos:Pos} (hk:∀ c',SE X c' k fk) (hv:∀ c',SE X c' v fv):SE X c (.Dict [some k] [v] pos) (z7z fk fv):=by
 have PK:PE X k (fun σ H Q=>∃ c',tD c' fk σ H Q):=fun pins s σ H Q I ⟨c',h⟩=>hk c' pins s σ H Q I h
 have PV:PE X v (fun σ H Q=>∃ c',tD c' fv σ H Q):=fun pins s σ H Q I ⟨c',h⟩=>hv c' pins s σ H Q I h
 refine PE.weak (ze2 (zc0 PK PV zdW) rfl rfl (by simp) (by simp)) fun σ H Q ⟨δ,kk,q⟩=>?_
 intro p hp
 show ∃ c',tD c' fk σ (upd H p (.dK [])) fun x H1=>∃ c',tD c' fv σ H1 fun y H2=>H2 p=some (.dK [])∧∃ kvs:List (Key×V),[(x,y)]=kvs.map (fun kv=>(kV kv.1,kv.2))∧kvs.length≤15∧Q (.ref p) (upd H2 p (.dK (z5m [] kvs)))
 unfold z7z at q
 rw [z03] at q
 refine ⟨c.plus p,δ,kk.plus hp _,z76 q fun r δ1 q1 x H1 a1 rx=>?_⟩
 rw [z03] at q1
 refine ⟨c.plus p,δ1,a1.ok,z76 q1 fun s δ2 q2 y H2 a2 ry=>?_⟩
 have A:=a1.trans a2
 have h0:=kk.fresh₀ hp
 have nb:¬ c.B p:=fun z=>kk.nav hp (.inl z)
 have Hp2:H2 p=some (.dK []):=A.keep p _ z0p fun z=>kk.nav hp (.inr z)
 cases r with
 | own d=>exact q2.elim
 | pure dk =>
  cases s with
  | own d=>exact q2.elim
  | pure d =>
   cases hkd:keyD dk with
   | none=>simp only [hkd] at q2; exact q2.elim
   | some kd =>
    simp only [hkd] at q2
    have ex:x=kV (kOf kd):=z3S hkd (.inl rx)
    refine ⟨Hp2,[(kOf kd,y)],by rw [ex]; rfl,by simp,?_⟩
    have em:z5m [] [(kOf kd,y)]=[(kOf kd,y)]:=rfl
    rw [em]
    have ok':=A.ok.updP h0 (.dK [(kOf kd,y)])
    have ne:∀ {a w},H a=some w→a≠p:=fun e z=>by rw [z,hp] at e; cases e
    refine q2 (.ref p) _ ⟨ok'.less,fun a w e n=>?_,fun a z=>?_,fun a w e=>?_⟩ ⟨p,rfl,⟨[(kOf kd,y)],z0p,rfl,fun i u t e1 e2=>?_⟩,nb,h0,ok',hp⟩
    ·rw [z0d (ne e)]
     exact A.keep a w (by rw [z0d (ne e)]; exact e) n
    ·by_cases zp:a=p
     ·rw [zp]; exact .inr hp
     ·rcases A.own a z with z | z
      ·exact .inl z
      ·rw [z0d zp] at z; exact .inr z
    ·obtain ⟨w',e'⟩:=A.there a w (by rw [z0d (ne e)]; exact e)
     exact ⟨w',by rw [z0d (ne e)]; exact e'⟩
    ·match i with
     | 0 =>
      cases e1
      cases e2
      exact Rep.keep (show Rep H2 (Av (c.plus p) σ δ2) y d from ry) fun b w e n=>by rw [z0d (fun z:b=p=>n (.inl (.inr z)))]; exact e
     | i + 1=>cases e1
end DV
namespace L2
open PySem PySem.Spec PyProof.Rows
def IteS (x:Str):It:=⟨fun i _=>i < x.cps.size,fun i H y H'=>∃ p c,H p=none∧x.cps[i]? = some c∧H'=upd H p (.tup [.int i,.str ⟨#[c]⟩])∧y = .ref p,fun i _=>i=x.cps.size⟩
theorem z9f {P:Wj} {w:Wp} {K:W0} {elts:List Expr} {ctx} {pos:Pos} (x:Str) (t:Tok) (e it:Addr) (T:String) (hT:T = "str_ascii_iterator"∨T = "str_iterator") (hei:e≠it):Turn P w K (.Tuple elts ctx pos) (IteS x) [e,it] e (fun i h=>(∃ old,IsEnum h e it i old)∧h.IsStrIter it T x t i):=by
 have DD:∀ A:Wo,A.handled=none→Draws P w A it [it] x.cps.size (fun i v=>∃ c u,x.cps[i]? = some c∧v = .str ⟨#[c]⟩ u) (fun i h=>h.IsStrIter it T x t i):=fun A hh=>by
  rcases hT with rfl | rfl
  ·exact Draws.strAscii hh it x t
  ·exact Draws.strWide hh it x t
 refine ⟨by simp,fun i h st b hb=>?_,fun i h h' st k=>?_,?_,?_,fun A i s Q E st h=>?_⟩
 ·obtain ⟨⟨old,he⟩,hi⟩:=st
  have hb:b=e∨b=it:=by simpa using hb
  rcases hb with z | z
  ·subst z
   exact ⟨_,he,fun v z=>by
    have z':Data.fields _=Data.cell v:=z
    cases z'⟩
  ·subst z
   obtain ⟨o,e,c,d⟩:=hi
   exact ⟨o,e,fun v z=>by rw [d] at z; cases z⟩
 ·obtain ⟨⟨old,he⟩,o,e2,r⟩:=st
  exact ⟨⟨old,k e (by simp) _ he⟩,o,k it (by simp) o e2,r⟩
 ·intro X hP hw hK hc i pins s σ H E I hf st hg
  subst hP hw hK
  have hilt:i < x.cps.size:=hg
  obtain ⟨⟨old,he⟩,hi⟩:=st
  have D:=DD X.A.in1 (I.ok.hd hc)
  have hlt:∀ b ∈ [e,it],b < s.heap.objs.size:=fun b hb=>by
   have hb:b=e∨b=it:=by simpa using hb
   rcases hb with z | z
   ·subst z; exact Wg he
   ·subst z; obtain ⟨o,q,_⟩:=hi; exact Wg q
  refine wpAny_pyNext_enum_itemD D he hi hilt hei (by simp [hei]) fun x' h' tk hP ho hs' hTt hsz hk=>?_
  obtain ⟨c,u,hx,rfl⟩:=hP
  refine ⟨_,rfl,wpAny_letOwnedTupleGo_enum ho fun h2 he2 sb=>?_⟩
  have k2:∀ b o,b≠e→b≠it→s.heap.get? b=some o→h2.get? b=some o:=fun b o q1 q2 q=>(sb.2 b q1).trans (hk b o q1 q2 q)
  have hT2:h2.get? s.heap.objs.size=some { cls:=.type "tuple",data:=.seq #[.int i tk,.str ⟨#[c]⟩ u] }:=(sb.2 _ (Nat.ne_of_gt (hlt e (by simp)))).trans hTt
  have I2:Inv X pins σ (upd H s.heap.objs.size (.tup [.int i,.str ⟨#[c]⟩])) { s with heap:=h2,toks:=tk + 1 }:=Inv.pairLaid (t':=tk + 1) I hf hlt ⟨u,rfl⟩ hT2 k2
  refine ⟨.ref s.heap.objs.size,_,I2,rfl,⟨s.heap.objs.size,c,I.hok.fresh (Wc _),hx,rfl,rfl⟩,⟨⟨_,by simpa using he2⟩,?_⟩,fun b hb=>?_⟩
  ·obtain ⟨o,e2,r⟩:=hs'
   exact ⟨o,(sb.2 it (Ne.symm hei)).trans e2,r⟩
  ·rw [z0d (Ws (hlt b hb))]
   exact (hf b hb).1
 ·intro X hP hw hK hc i pins s σ H E I hf st hg
  subst hP hw hK
  have hg':i=x.cps.size:=hg
  subst hg'
  obtain ⟨⟨old,he⟩,hi⟩:=st
  have D:=DD X.A.in1 (I.ok.hd hc)
  obtain ⟨f0,f1,f2,f3,f4,f5⟩:=hf it (by simp)
  exact wpAny_pyNext_enum_endD D he hi fun h' eb=>⟨rfl,I.turned (t':=s.toks) (fun b o hb q=>eb b o hb q) f0 f1 f3 f4 f5⟩
 ·obtain ⟨⟨old,he⟩,_⟩:=st
  exact QR he h
end L2
namespace DV
open PySem PySem.Spec PyProof.Rows L2
section
variable {X:Cx} {c:Fc} {tg e:Expr} {fe:DE} {pos pp:Pos}
def zen (ta:TA):TI:=fun σ H R=>ta σ H fun vs H1=>∃ z,vs=[.str z]∧R (IteS z) H1
theorem zc4 {a:Expr} {ta:TA} {elts:List Expr} {ctx} {tp:Pos} (hg:Gl X "enumerate") (hm:X.mg "enumerate" = none) (ha:PA X [a] ta) (hs:W7 [a] X.env=[(false,eval a X.env)]:=by rfl):PI X (.Tuple elts ctx tp) (.Call (.Name "enumerate" pp) [a] [] pos) (zen ta):=by
 intro pins s σ H R I h
 refine Call_ (z64 I hg hm boot_enumerate (QF (thn (ha pos pins s σ H _ I h) fun us s1 ⟨vs,H1,I1,r1,q1⟩=>?_) hs rfl))
 obtain ⟨z,ev,q⟩:=q1
 subst ev
 cases r1 with
 | cons r rr =>
  cases rr
  obtain ⟨t,rfl⟩:=r
  have hT:JL z = "str_ascii_iterator"∨JL z = "str_iterator":=by
   unfold JL
   split
   ·exact .inl rfl
   ·exact .inr rfl
  refine call_enumerate_str fun h' he hi hsz kp=>QR he ?_
  refine ⟨s1.heap.objs.size + 1,[s1.heap.objs.size + 1,s1.heap.objs.size],_,_,H1,rfl,I1.kept (t':=s1.toks) kp,z9f z t _ _ _ hT (JO _),⟨⟨_,he⟩,hi⟩,fun b hb=>?_,q⟩
  have hb:b=s1.heap.objs.size + 1∨b=s1.heap.objs.size:=by simpa using hb
  have hle:s1.heap.objs.size≤b:=by rcases hb with z | z <;> subst z <;> first | exact Wc _ | exact Nat.le_succ _
  exact I1.fpOk hle (I1.hok.fresh hle)
def z8T (f:DE):DI:=fun δ=>(f δ).bind fun r δ1=>match r.d with
 | .str x=>.ok (z3u (x.map fun n=>.str [n])) δ1
 | _=>.stuck
theorem zbE {elts:List Expr} {ctx} {tp:Pos} (hg:Gl X "enumerate") (hm:X.mg "enumerate" = none) (he:SE X c e fe) (hs:W7 [e] X.env=[(false,eval e X.env)]:=by rfl):SI X c (.Tuple elts ctx tp) (.Call (.Name "enumerate" pp) [e] [] pos) (z8T fe) :=
 PI.weak (zc4 hg hm (z0T he z25 hs) hs) fun σ H R ⟨δ,k,q⟩=>by
  unfold z8T at q
  rw [z03] at q
  refine ⟨δ,k,z01 q fun r δ1 q1 v H1 a1 r1=>?_⟩
  have rr:=r1.rep
  generalize r.d=d at q1 rr
  cases d <;> first | exact q1.elim | skip
  rename_i x
  cases rr
  refine ⟨toS x,rfl,q1 _ H1 a1 ?_⟩
  have hsz:(toS x).cps.size=x.length:=by simp [toS]
  intro H2 kp
  refine ⟨by show (z3u (x.map fun n=>D.str [n])).length=(toS x).cps.size; rw [hsz]; simp [z3u],fun i d e=>?_⟩
  obtain ⟨d',e',rfl⟩:=z5s e
  rw [WB,Wx] at e'
  obtain ⟨n,hn,rfl⟩:=e'
  have hi:i < x.length:=(Wb.mp hn).1
  refine ⟨by show i < (toS x).cps.size; rw [hsz]; exact hi,fun y H3 ⟨p,cc,hp,hx,e3,ey⟩=>.inr ⟨p,_,_,hp,e3,ey,rfl,?_⟩⟩
  have hcn:cc=n:=by
   have:(toS x).cps[i]? = some n:=by simp [toS,hn]
   rw [hx] at this
   cases this
   rfl
  subst hcn
  exact Reps.pair (.str [cc])
end
section
variable {K:W0} {h:Heap} {mg:Str→Option Value} {x q:Str} {st:Stmt} {f:Addr} {fd:WD}
abbrev FnH (K:W0) (x:Str) (st:Stmt):Prop:=∃ (f:Addr) (oc:Value) (od:Option Addr) (kV dc pm:Value) (an:Option Addr) (cd ct:Value) (sl:Array (Option Value)),
 PySem.W.nsIn K Wn x=some (some (.ref f))∧K.lookup f=some ⟨oc,od,.func (Qr x x (z2Q st) (z19 st) (z04 st) .none kV dc pm an cd ct),sl⟩∧PySem.W.codeIn K cd x=true∧Qa K (.ref f)=true
theorem fnH (X:K.In h) (G:h.Ns Wn mg) (d:FnH K x st):∃ f fd,Fun K x x st f fd∧mg x=some (.ref f):=by
 obtain ⟨f,oc,od,kV,dc,pm,an,cd,ct,sl,a,l,c,k⟩:=d
 exact ⟨f,_,zb0 l c k,PySem.W.mg_of X G a⟩
abbrev Bd (x q:Str) (st:Stmt) (ps:List Str) (us:List Value):Prop:=∀ (kV doc pm:Value) (an:Option Addr) (cdv ct:Value),bindArgs (Qr x q (z2Q st) (z19 st) (z04 st) .none kV doc pm an cdv ct) ⟨us,[]⟩=pure (ps.zip us)
variable {p1 p2 p3 p4 p5 p6:Str}
theorem bd1 (F:Fun K x q st f fd) (h:∀ a,Bd x q st [p1] [a]):Binds K fd [p1] []:=F.binds fun _ _ _ _ _ _ us hl=>match us,hl with
 | [a],_=>h a _ _ _ _ _ _
theorem bd2 (F:Fun K x q st f fd) (h:∀ a b,Bd x q st [p1,p2] [a,b]):Binds K fd [p1,p2] []:=F.binds fun _ _ _ _ _ _ us hl=>match us,hl with
 | [a,b],_=>h a b _ _ _ _ _ _
theorem bd3 (F:Fun K x q st f fd) (h:∀ a b c,Bd x q st [p1,p2,p3] [a,b,c]):Binds K fd [p1,p2,p3] []:=F.binds fun _ _ _ _ _ _ us hl=>match us,hl with
 | [a,b,c],_=>h a b c _ _ _ _ _ _
theorem bd4 (F:Fun K x q st f fd) (h:∀ a b c d,Bd x q st [p1,p2,p3,p4] [a,b,c,d]):Binds K fd [p1,p2,p3,p4] []:=F.binds fun _ _ _ _ _ _ us hl=>match us,hl with
 | [a,b,c,d],_=>h a b c d _ _ _ _ _ _
theorem bd5 (F:Fun K x q st f fd) (h:∀ a b c d e,Bd x q st [p1,p2,p3,p4,p5] [a,b,c,d,e]):Binds K fd [p1,p2,p3,p4,p5] []:=F.binds fun _ _ _ _ _ _ us hl=>match us,hl with
 | [a,b,c,d,e],_=>h a b c d e _ _ _ _ _ _
end
theorem fm1 {α:Type} {P:α→Prop} {a:α} (x:P a):∀ z ∈ [a],P z:=fun _ h=>by cases h with | head=>exact x | tail _ h=>cases h
theorem fm2 {α:Type} {P:α→Prop} {a b:α} (x:P a) (y:P b):∀ z ∈ [a,b],P z:=fun _ h=>by cases h with | head=>exact x | tail _ h=>exact fm1 y _ h
theorem fm3 {α:Type} {P:α→Prop} {a b c:α} (x:P a) (y:P b) (w:P c):∀ z ∈ [a,b,c],P z:=fun _ h=>by cases h with | head=>exact x | tail _ h=>exact fm2 y w _ h
open PySem (sizeLine)
section
variable {α β:Type}
@[simp] theorem z0N (a:α) (δ:Dl) (f:α→Dl→Rs β):(Rs.ok a δ).bind f=f a δ:=id rfl
@[simp] theorem zcE (f:α→Dl→Rs β):(Rs.stuck:Rs α).bind f = .stuck:=id rfl
@[simp] theorem zgc (d:D):(S.pure d).d=d:=id rfl
@[simp] theorem ev_d2 (d:D):(S.own d).d=d:=id rfl
end
section
variable (δ:Dl) (i:Nat) (d e:D) (f g:DE) (fb:BE) (t u:DT) (p:D→D→Option S)
@[simp] theorem ev_eD:eD d δ = .ok (.pure d) δ:=id rfl
@[simp] theorem zd9:bOf f δ=(f δ).bind fun r δ'=>.ok r.d δ':=id rfl
@[simp] theorem zga:eOp p f fb δ=(f δ).bind fun x δ1=>(fb δ1).bind fun y δ2=>p2 p x.d y δ2:=id rfl
@[simp] theorem ev_dAnd:dAnd t u δ=(t δ).bind fun b δ1=>if b then u δ1 else .ok false δ1:=id rfl
@[simp] theorem ev_dOr:dOr t u δ=(t δ).bind fun b δ1=>if b then .ok true δ1 else u δ1:=id rfl
@[simp] theorem ev_dNot:dNot t δ=(t δ).bind fun b δ1=>.ok (!b) δ1:=id rfl
@[simp] theorem ev_eIf:eIf t f g δ=(t δ).bind fun b δ1=>if b then f δ1 else g δ1:=id rfl
@[simp] theorem ev_dNext:z1f δ = .ok .next δ:=id rfl
@[simp] theorem ev_dYes:dYes δ = .ok true δ:=id rfl
@[simp] theorem ev_dDrop:z3v f δ=(f δ).bind fun _ δ1=>.ok .next δ1:=id rfl
@[simp] theorem ev_dRet:dRet f δ=(f δ).bind fun r δ1=>.ok (.ret r) δ1:=id rfl
@[simp] theorem ev_dIf (a b:DS):dIf t a b δ=(t δ).bind fun x δ1=>if x then a δ1 else b δ1:=id rfl
@[simp] theorem zba (it:DI) (gg:DG) (b:DS):dFor it gg b δ=(it δ).bind fun ds δ1=>forL gg b ds δ1:=id rfl
@[simp] theorem zew (a:DA):eTup a δ=(a δ).bind fun ds δ'=>.ok (.pure (.tup ds)) δ':=id rfl
@[simp] theorem zex (a:DA):eLst a δ=(a δ).bind fun ds δ'=>.ok (.own (.lst ds)) δ':=id rfl
@[simp] theorem ev_eLstC (ds:List D):z8n ds δ = .ok (.own (.lst ds)) δ:=id rfl
@[simp] theorem zey:aNil δ = .ok [] δ:=id rfl
@[simp] theorem zcF (a:DA):z0l f a δ=(f δ).bind fun x δ1=>(a δ1).bind fun xs δ2=>.ok (x.d :: xs) δ2:=id rfl
@[simp] theorem zgb (q:D→Option S):eC1 q fb δ=(fb δ).bind fun x δ1=>p1 q x δ1:=id rfl
@[simp] theorem ev_eMax:eMax f g δ=(f δ).bind fun x δ1=>(g δ1).bind fun y δ2=>p2 pMax x.d y.d δ2:=id rfl
@[simp] theorem ev_eSl (fl fh:DOp):eSl f fl fh δ=(f δ).bind fun x δ1=>(fl δ1).bind fun l δ2=>(fh δ2).bind fun h δ3=>p1 (pSl l h) x.d δ3:=id rfl
@[simp] theorem ev_oNone:zce δ = .ok none δ:=id rfl
@[simp] theorem ev_eComp (cs:List Nat) (it:DI) (gg:DG) (el:DE):z6H cs it gg t el δ=(it δ).bind fun ds δ1=>if cs.any (z0B δ1) then .stuck else
 (z2l cs gg t el ds (clrD cs δ1) []).bind fun acc δ2=>.ok (.own (.lst acc)) (z2D cs δ1 δ2):=id rfl
@[simp] theorem ev_gNm (np:List Nat) (r:S):gNm np i r δ=if np.contains i then none else some (δ.set i (some r)):=id rfl
@[simp] theorem zev (gg:DG) (b:DS):forL gg b [] δ = .ok .next δ:=id rfl
end
section
variable (δ:Dl) (i:Nat) (d e:D) (f g:DE) (fb:BE) (p:D→D→Option S) (s:S)
@[simp] theorem zg9 (x y:D):p2 p x y δ=match p x y with | some s=>.ok s δ | none=>.stuck:=id rfl
@[simp] theorem ev_p1 (q:D→Option S) (x:D):p1 q x δ=match q x with | some s=>.ok s δ | none=>.stuck:=id rfl
@[simp] theorem z8m (a b:DS):dSeq a b δ=(a δ).bind fun fl δ1=>match fl with | .next=>b δ1 | .ret r=>.ok (.ret r) δ1 | .brk=>.ok .brk δ1 | .cont=>.ok .cont δ1:=id rfl
@[simp] theorem zeI {α β:Type} (c:Prop) [Decidable c] (x y:Rs α) (k:α→Dl→Rs β):(if c then x else y).bind k=if c then x.bind k else y.bind k:=by split <;> rfl
end
theorem z2h:W3=16777216:=rfl
theorem z1R (xs:List α) (i:Nat):atI xs (i:Int)=xs[i]?:=by
 unfold atI ixN
 by_cases h:i < xs.length
 ·rw [if_pos (by omega),if_pos (by omega)]
  simp
 ·rw [if_pos (by omega),if_neg (by omega)]
  simp [WS (Nat.le_of_not_lt h)]
theorem z8s (xs:List α):atI xs 2=xs[2]?:=z1R xs 2
theorem z1Q (xs:List α):atI xs 0=xs[0]?:=z1R xs 0
theorem z5z (xs:List α):atI xs 1=xs[1]?:=z1R xs 1
theorem z7F (I:Dl→Prop) (R:D→D→Prop) :
  ∀ (ds:List D) (δ:Dl) (acc:List D),I δ→acc.length + ds.length≤W3 →
   (∀ d ∈ ds,∀ δ,I δ→∃ δ1 δ2 x δ3,g (.pure d) δ=some δ1∧t δ1 = .ok true δ2∧el δ2 = .ok x δ3∧I (clrD cs δ3)∧R d x.d) →
   ∃ xs δ',z2l cs g t el ds δ acc = .ok (acc ++ xs) δ'∧I δ'∧xs.length=ds.length∧∀ (i:Nat) d x,ds[i]? = some d→xs[i]? = some x→R d x
 | [],δ,acc,h,_,_=>⟨[],δ,by simp [z2l],h,rfl,fun i d x e=>by simp at e⟩
 | d :: r,δ,acc,h,hl,hs=>by
  obtain ⟨δ1,δ2,x,δ3,e1,e2,e3,h3,hr⟩:=hs d Wh δ h
  have hl':acc.length < W3:=by simp at hl; omega
  obtain ⟨xs,δ',e4,h4,hn,hf⟩:=z7F (g:=g) (t:=t) (el:=el) I R r (clrD cs δ3) (acc ++ [x.d]) h3 (by simp at hl ⊢; omega) (fun d hd=>hs d (We _ hd))
  refine ⟨x.d :: xs,δ',?_,h4,by simp [hn],fun i d' x' f1 f2=>?_⟩
  ·unfold z2l
   rw [e1]
   simp only [e2,z0N,if_true,e3,if_pos hl',e4]
   simp
  ·cases i with
   | zero=>simp at f1 f2; subst f1 f2; exact hr
   | succ i=>exact hf i d' x' (by simpa using f1) (by simpa using f2)
theorem z1O (I:Nat→Dl→Prop) :
  ∀ (ds:List D) (n:Nat) (δ:Dl),I n δ →
   (∀ (i:Nat) d δ,ds[i]? = some d→I (n + i) δ→∃ δ1 δ2,g (.pure d) δ=some δ1∧b δ1 = .ok .next δ2∧I (n + i + 1) δ2) →
   ∃ δ',forL g b ds δ = .ok .next δ'∧I (n + ds.length) δ'
 | [],n,δ,h,_=>⟨δ,rfl,h⟩
 | d :: r,n,δ,h,hs=>by
  obtain ⟨δ1,δ2,e1,e2,h2⟩:=hs 0 d δ rfl h
  obtain ⟨δ',e3,h3⟩:=z1O (g:=g) (b:=b) I r (n + 1) δ2 h2 (fun i d' δ' e hi=>by
   have:=hs (i + 1) d' δ' (by simpa using e) (by rw [show n + (i + 1)=n + 1 + i by omega]; exact hi)
   rw [show n + (i + 1) + 1=n + 1 + i + 1 by omega] at this
   exact this)
  refine ⟨δ',?_,by rw [WM,show n + (r.length + 1)=n + 1 + r.length by omega]; exact h3⟩
  unfold forL
  rw [e1]
  simp only [e2,z0N,e3]
theorem zcA (xs:List Tx):z3q (xs.map .str)=some xs:=by
 induction xs with
 | nil=>rfl
 | cons x r ih=>simp [z3q,ih]
theorem z4z:∀ ts:List Tx,z5n [] ts=ts.flatten
 | []=>rfl
 | [x]=>by simp [z5n]
 | x :: y :: r=>by rw [z5n,z4z (y :: r)]; simp
theorem z9z (xs:List Nat):z7l (xs.map fun n=>[n])=xs.length:=by
 unfold z7l
 induction xs with
 | nil=>rfl
 | cons x r ih=>simp at ih ⊢; omega
theorem zcC (xs:List Nat):(xs.map fun n=>[n]).flatten=xs:=by
 induction xs with
 | nil=>rfl
 | cons x r ih=>simp [ih]
theorem zcB (xs:List Nat) (h:xs.length≤16777216):z83 [] (.lst (xs.map fun n=>.str [n]))=some (.pure (.str xs)):=by
 have e:(xs.map fun n=>D.str [n])=(xs.map fun n=>[n]).map D.str:=by simp
 unfold z83
 simp only [e,zcA,z9z,z4z,zcC]
 rw [if_pos (by simpa using h)]
theorem z7y (r:Tx) (c:Nat) (h:c < r.length) (hl:r.length≤64):pIx (.str r) (.int c)=some (.pure (.str [r.getD c 0])):=by
 unfold pIx
 have:W3=16777216:=rfl
 simp only
 rw [if_pos (by omega),z1R]
 simp [h]
theorem z9A (r:Tx) (hl:r.length≤64):pLen (.str r)=some (.pure (.int r.length)):=by
 unfold pLen
 have:W3=16777216:=rfl
 simp only
 rw [if_pos (by omega)]
abbrev flD (fl:List Tx):D:=.tup (fl.map .str)
structure Rect (w:Nat) (fl:List Tx):Prop where
 h0:0 < fl.length
 h1:fl.length≤64
 w0:0 < w
 w1:w≤64
 all:∀ r ∈ fl,r.length=w
def turn (w:Nat) (fl:List Tx):List Tx:=(Wa w).map fun c=>fl.map fun r=>r.getD c 0
def back (fl:List Tx):List Tx:=fl.map List.reverse
theorem z7x (fl:List Tx):pLen (flD fl)=some (.pure (.int fl.length)):=by simp [pLen]
def rng (r:S) (δ1:Dl):Rs (List D):=match r with
 | .pure (.int j)=>if z5U j then .ok (z0R 0 j.toNat) δ1 else .stuck
 | _=>.stuck
@[simp] theorem zb8 (f:DE) (δ:Dl):z1e f δ=(f δ).bind fun r δ1=>rng r δ1:=id rfl
theorem z9W (w:Nat) (hw:w≤1000000):z5U (w:Int)=true:=by
 have h1 : -(4611686018427387904:Int)≤(w:Int):=by omega
 have h2:(w:Int) < 4611686018427387904:=by omega
 unfold z5U
 rw [Wi]
 exact ⟨decide_eq_true h1,decide_eq_true h2⟩
theorem zeX (j:Int) (hs:z5U j=true) (δ:Dl):rng (.pure (.int j)) δ = .ok (z0R 0 j.toNat) δ:=by unfold rng; simp only [hs,if_true]
theorem z4w (w:Nat) (hw:w≤1000000) (δ:Dl):rng (.pure (.int w)) δ = .ok (z0R 0 w) δ:=by
 have:=zeX (w:Int) (z9W w hw) δ
 rwa [Int.toNat_natCast] at this
theorem z2t (h:(z0R 0 n)[i]? = some d):i < n∧d = .int (i:Int):=by
 unfold z0R at h
 rw [WB] at h
 by_cases hi:i < n
 ·rw [Jt hi] at h
  simp at h
  exact ⟨hi,h.symm⟩
 ·rw [WS (by simpa using hi)] at h
  cases h
theorem z7w (h:d ∈ z0R 0 n):∃ i:Nat,i < n∧d = .int (i:Int):=by
 obtain ⟨i,hi⟩:=List.getElem?_of_mem h
 exact ⟨i,z2t hi⟩
@[simp] theorem z4y (lo:Int) (n:Nat):(z0R lo n).length=n:=by simp [z0R]
theorem z9Y {P:Nat→Prop}:∀ {xs:List D},(∀ x ∈ xs,∃ n,P n∧x = .str [n])→∃ row:List Nat,xs=row.map (fun n=>.str [n])∧∀ n ∈ row,P n
 | [],_=>⟨[],rfl,by simp⟩
 | x :: r,h=>by
  obtain ⟨n,hn,rfl⟩:=h x Wh
  obtain ⟨row,rfl,hr⟩:=z9Y (xs:=r) fun y hy=>h y (We _ hy)
  exact ⟨n :: row,rfl,by simpa using ⟨hn,hr⟩⟩
theorem zdF {R:D→D→Prop} {ds xs:List D} {Q:D→Prop} (hn:xs.length=ds.length) (hf:∀ (i:Nat) d x,ds[i]? = some d→xs[i]? = some x→R d x) (hq:∀ d x,d ∈ ds→R d x→Q x):∀ x ∈ xs,Q x:=fun x hx=>by
 obtain ⟨i,hi⟩:=List.getElem?_of_mem hx
 have h1:=(Wb.mp hi).1
 have h2:ds[i]? = some (ds[i]'(by omega)):=by simp [show i < ds.length by omega]
 exact hq _ x (QC _) (hf i _ x h2 hi)
abbrev blD (b:Nat×List Tx):D:=.tup [.str [b.1],flD b.2]
abbrev ruD (h w:Nat) (bs:List (Nat×List Tx)):D:=.tup [.int h,.int w,.tup (bs.map blD)]
structure Rul (h w:Nat) (bs:List (Nat×List Tx)):Prop where
 h0:0 < h
 h1:h≤4
 w0:0 < w
 w1:w≤4
 hw:2 < h + w
 n0:0 < bs.length
 n1:bs.length≤26
 up:(bs.map (·.1)).Pairwise (· < ·)
 let':∀ b ∈ bs,97≤b.1∧b.1≤122
 blk:∀ b ∈ bs,b.2.length=h∧∀ r ∈ b.2,r.length=w∧∀ n ∈ r,n ∈ bs.map (·.1)
theorem z68 (f F:A→D) (δ:Dl):∀ (as:List A) (acc:List D),acc.length + as.length≤W3 →
  (∀ a ∈ as,∃ δ1 δ2 x δ3,g (.pure (f a)) δ=some δ1∧t δ1 = .ok true δ2∧el δ2 = .ok x δ3∧clrD cs δ3=δ∧x.d=F a)→z2l cs g t el (as.map f) δ acc = .ok (acc ++ as.map F) δ
 | [],acc,_,_=>by simp [z2l]
 | a :: r,acc,hl,hs=>by
  obtain ⟨δ1,δ2,x,δ3,e1,e2,e3,e4,e5⟩:=hs a Wh
  have hl':acc.length < W3:=by simp at hl; omega
  have ih:=z68 (cs:=cs) (g:=g) (t:=t) (el:=el) f F δ r (acc ++ [x.d]) (by simp at hl ⊢; omega) (fun a ha=>hs a (We _ ha))
  rw [Wr]
  unfold z2l
  rw [e1]
  rw [e5] at ih
  simp only [e2,z0N,if_true,e3,if_pos hl',e4,e5,ih]
  simp
end DV
namespace K14
open PySem.W (nsIn keepIn codeIn findIn mroIn kitOne mg_of)
open PySem PySem.Spec PyProof.Rows L2 DV
def top (i:Nat):Stmt:=PySem.Challenge.pw_tilegrow_k14_first_places.main.body.getD i (.Pass ⟨0,0,0,0⟩)
abbrev z2B:Stmt:=top 27
abbrev z2M:Stmt:=top 29
abbrev z3C:Stmt:=top 28
abbrev z3D:Stmt:=top 30
abbrev z2y:Stmt:=top 33
abbrev z2d:Stmt:=top 36
abbrev z1Z:Stmt:=top 15
abbrev z30:Stmt:=top 12
abbrev z2v:Stmt:=top 13
abbrev z1C:Stmt:=top 19
abbrev z2x:Stmt:=top 25
abbrev z3A:Stmt:=top 24
abbrev z31:Stmt:=top 16
abbrev z2w:Stmt:=top 20
abbrev z32:Stmt:=top 21
abbrev z4d:Stmt:=top 22
abbrev z4c:Stmt:=top 23
abbrev z33:Stmt:=top 31
abbrev z2z:Stmt:=top 38
abbrev z20:Stmt:=top 42
abbrev z34:Stmt:=top 34
abbrev z2N:Stmt:=top 35
abbrev z35:Stmt:=top 39
abbrev z1D:Stmt:=top 41
abbrev z2e:Stmt:=top 37
abbrev z2A:Stmt:=top 32
abbrev z3B:Stmt:=top 40
abbrev z1c:Stmt:=top 43
abbrev z6l:Stmt:=top 44
abbrev si_f:Stmt:=(zeB (top 7)).getD 0 (.Pass ⟨0,0,0,0⟩)
theorem sci_f:FnScope ["self","tile"] ["self","tile"] (z04 si_f):=⟨rfl,rfl,rfl,by decide +kernel,rfl,by decide +kernel,by decide +kernel⟩
abbrev ys:List Tx:=[[78,111,80,108,97,99,101],[78,111,78,117,109,98,101,114],[78,111,84,105,108,101]]
def InjC (ce:Tx→Nat):Prop:=∀ x ∈ ys,∀ y ∈ ys,ce x=ce y→x=y
section
variable (ce:Tx→Nat)
structure Txt (K:W0) (mg:Str→Option Value):Prop where
 z_ValueError:mg "ValueError" = none
 z_bool:mg "bool" = none
 z_dict:mg "dict" = none
 z_enumerate:mg "enumerate" = none
 z_int:mg "int" = none
 z_isinstance:mg "isinstance" = none
 z_len:mg "len" = none
 z_max:mg "max" = none
 z_min:mg "min" = none
 z_range:mg "range" = none
 z_str:mg "str" = none
 z_tuple:mg "tuple" = none
 ty_bool:TyK K "bool"
 ty_int:TyK K "int"
 ty_str:TyK K "str"
 ty_tuple:TyK K "tuple"
 g_MOST_GROWINGS:∃ t,mg "MOST_GROWINGS" = some (.int 60 t)
 c_j:mg "FloorError" = some (.ref (ce [70,108,111,111,114,69,114,114,111,114]))
 c_a:mg "NoFloor" = some (.ref (ce [78,111,70,108,111,111,114]))
 c_b:mg "NoPlace" = some (.ref (ce [78,111,80,108,97,99,101]))
 c_c:mg "NoNumber" = some (.ref (ce [78,111,78,117,109,98,101,114]))
 c_d:mg "NoRow" = some (.ref (ce [78,111,82,111,119]))
 c_e:mg "Unlike" = some (.ref (ce [85,110,108,105,107,101]))
 c_f:mg "NoTile" = some (.ref (ce [78,111,84,105,108,101]))
 c_g:mg "NoRule" = some (.ref (ce [78,111,82,117,108,101]))
 c_h:mg "NoText" = some (.ref (ce [78,111,84,101,120,116]))
 c_i:mg "TooGreat" = some (.ref (ce [84,111,111,71,114,101,97,116]))
 q_j:ExcC K (ce [70,108,111,111,114,69,114,114,111,114])
 q_c:ExcC K (ce [78,111,78,117,109,98,101,114])
 q_b:ExcC K (ce [78,111,80,108,97,99,101])
 i_a:IsT K ce ys (.ref (ce [78,111,70,108,111,111,114])) (fun z=>z == [78,111,70,108,111,111,114])
 i_b:IsT K ce ys (.ref (ce [78,111,80,108,97,99,101])) (fun z=>z == [78,111,80,108,97,99,101])
 i_c:IsT K ce ys (.ref (ce [78,111,78,117,109,98,101,114])) (fun z=>z == [78,111,78,117,109,98,101,114])
 i_d:IsT K ce ys (.ref (ce [78,111,82,111,119])) (fun z=>z == [78,111,82,111,119])
 i_e:IsT K ce ys (.ref (ce [85,110,108,105,107,101])) (fun z=>z == [85,110,108,105,107,101])
 i_f:IsT K ce ys (.ref (ce [78,111,84,105,108,101])) (fun z=>z == [78,111,84,105,108,101])
 i_g:IsT K ce ys (.ref (ce [78,111,82,117,108,101])) (fun z=>z == [78,111,82,117,108,101])
 i_h:IsT K ce ys (.ref (ce [78,111,84,101,120,116])) (fun z=>z == [78,111,84,101,120,116])
 i_i:IsT K ce ys (.ref (ce [84,111,111,71,114,101,97,116])) (fun z=>z == [84,111,111,71,114,101,97,116])
 i_ValueError:IsT K ce ys (.type "ValueError") (fun _=>true)
 m_j:∀ y ∈ ys,mg (toS y)=some (.ref (ce y))∧mroIn K (ce y) (.ref (ce [70,108,111,111,114,69,114,114,111,114]))=some true
end
def z2I:DS:=(dSeq (dIf (dTr (eOpF pLt 1 (bOf (eC1 pLen (bVar 0))))) (dRet (eOpF pIx 0 (bVar 1))) z1f) (dRet (eD (.int 0))))
def z0V:DF:=gOf [] 2 z2I
theorem z47:z1K z0V:=z0u
theorem z52:FnScope ["script","k"] ["script","k"] (z04 z2B):=⟨rfl,rfl,rfl,by decide +kernel,rfl,by decide +kernel,by decide +kernel⟩
theorem z5i {K:W0} (F:Fun K "_law_cell_at" "_law_cell_at" z2B f fd) (hm:mg "_law_cell_at" = some (.ref f)) (hb:Binds K fd ["script","k"] []) (T:Txt ce K mg):KFn P w K mg base 1 "_law_cell_at" 2 z0V :=
 z1n (np:=[]) (fb:=z2I) F hm hb z52 (fun c cdv A outer s H E hr hnp=>by
  have hq:=z1y hr
  refine (@z05 _ _ _ _ _ _ ?_ ?_)
  ·refine (@z2Y _ _ _ _ _ _ _ _ _ ?_ ?_ ?_)
   ·exact (@zdp _ _ _ _ _ _ _ _ _ _ zd3 zfE (pv 1) (@z09 _ _ _ _ (@z2Z _ _ _ _ _ _ rfl T.z_len (@z0e _ _ _ _ (pv 0)) (by rfl))) (z1s _))
   ·refine (@z0c _ _ _ _ ?_)
    refine (@z0G _ _ _ _ _ ?_)
    exact (@z0s _ _ _ _ _ _ _ _ _ z0n z0I (pv 0) (@z0e _ _ _ _ (pv 1)) (fun _ _=>rfl))
   ·exact z1A
  refine (@z0c _ _ _ _ ?_)
  refine (@z0G _ _ _ _ _ ?_)
  exact (@z06 _ _ _ _ _)) fun ss y h=>z0O h
def z2S:DS:=(dSeq (dAsg (eMax (eVar 0) (eOp pSub (eD (.int 0)) (bVar 0))) (gNm [] 1)) (dRet (eLst (z0l (eVar 1) (z0l (eC1 pInt (bOf (eOpF pGe 1 (bOf (eOp pPow (eD (.int 10)) (bOf (eD (.int 18)))))))) (z0l (eOpF pMod 1 (bOf (eD (.int 1000003)))) aNil))))))
def z12:DF:=gOf [] 2 z2S
theorem z4n:z1K z12:=z0u
theorem sc__law_pen_of:FnScope ["cell","left"] ["cell"] (z04 z2M):=⟨rfl,rfl,rfl,by decide +kernel,rfl,by decide +kernel,by decide +kernel⟩
theorem z5E {K:W0} (F:Fun K "_law_pen_of" "_law_pen_of" z2M f fd) (hm:mg "_law_pen_of" = some (.ref f)) (hb:Binds K fd ["cell"] []) (T:Txt ce K mg):KFn P w K mg base 1 "_law_pen_of" 1 z12 :=
 z1n (np:=[]) (fb:=z2S) F hm hb sc__law_pen_of (fun c cdv A outer s H E hr hnp=>by
  have hq:=z1y hr
  refine (@z05 _ _ _ _ _ _ ?_ ?_)
  ·exact (@z0t _ _ _ _ _ _ ([]) (1) _ hnp sc__law_pen_of.nd rfl (Or.inl rfl) (@zeT _ _ _ _ _ _ _ _ rfl rfl T.z_max (@z02 _ _ _ _ (pv 0)) (@z1x _ _ _ _ _ _ _ _ _ _ z8N z8O (@z06 _ _ _ _ _) (@z0e _ _ _ _ (pv 0))) (by rfl) (by rfl) (by rfl)) rfl (Or.inl rfl))
  refine (@z0c _ _ _ _ ?_)
  refine (@z0G _ _ _ _ _ ?_)
  exact (@z1r _ _ _ _ _ (@z07 _ _ _ _ _ _ (@z02 _ _ _ _ (pv 1)) (@z07 _ _ _ _ _ _ (@zdB _ _ _ _ _ _ rfl T.z_int (@z09 _ _ _ _ (@z6i _ _ _ _ _ _ _ _ _ _ zfB z60 (pv 1) (@z09 _ _ _ _ (@z1x _ _ _ _ _ _ _ _ _ _ zd2 zd4 (@z06 _ _ _ _ _) (@z09 _ _ _ _ (@z06 _ _ _ _ _)))) (z1s _))) (by rfl)) (@z07 _ _ _ _ _ _ (@z1q _ _ _ _ _ _ _ _ _ _ z5a z5j (pv 1) (@z09 _ _ _ _ (@z06 _ _ _ _ _))) (@z0W _ _) (by rfl)) (by rfl)) (by rfl)) (by decide))) fun ss y h=>z0O h
def z3K:DS:=(dSeq (dAsg (eOp pMod (eOpF pAdd 0 (bOf (eD (.int 7919)))) (bOf (eD (.int 2147483647)))) (gNm [] 0)) (dRet (eOp pMod (eOp pAdd (eOp pAdd (eOpF z1h 0 (bVar 0)) (bOf (eOp z1h (eD (.int 48271)) (bVar 0)))) (bOf (eD (.int 12345)))) (bOf (eD (.int 2147483629))))))
def z1k:DF:=gOf [] 1 z3K
theorem z3a:z1K z1k:=z0u
theorem sc__law_next:FnScope ["seed"] ["seed"] (z04 z3C):=⟨rfl,rfl,rfl,by decide +kernel,rfl,by decide +kernel,by decide +kernel⟩
theorem z7d {K:W0} (F:Fun K "_law_next" "_law_next" z3C f fd) (hm:mg "_law_next" = some (.ref f)) (hb:Binds K fd ["seed"] []) (T:Txt ce K mg):KFn P w K mg base 1 "_law_next" 1 z1k :=
 z1n (np:=[]) (fb:=z3K) F hm hb sc__law_next (fun c cdv A outer s H E hr hnp=>by
  have hq:=z1y hr
  refine (@z05 _ _ _ _ _ _ ?_ ?_)
  ·exact (@z0t _ _ _ _ _ _ ([]) (0) _ hnp sc__law_next.nd rfl (Or.inl rfl) (@z1x _ _ _ _ _ _ _ _ _ _ z5a z5j (@z1q _ _ _ _ _ _ _ _ _ _ z15 z1B (pv 0) (@z09 _ _ _ _ (@z06 _ _ _ _ _))) (@z09 _ _ _ _ (@z06 _ _ _ _ _))) rfl (Or.inl rfl))
  refine (@z0c _ _ _ _ ?_)
  refine (@z0G _ _ _ _ _ ?_)
  exact (@z1x _ _ _ _ _ _ _ _ _ _ z5a z5j (@z1x _ _ _ _ _ _ _ _ _ _ z15 z1B (@z1x _ _ _ _ _ _ _ _ _ _ z15 z1B (@z1q _ _ _ _ _ _ _ _ _ _ z2f z2g (pv 0) (@z0e _ _ _ _ (pv 0))) (@z09 _ _ _ _ (@z1x _ _ _ _ _ _ _ _ _ _ z2f z2g (@z06 _ _ _ _ _) (@z0e _ _ _ _ (pv 0))))) (@z09 _ _ _ _ (@z06 _ _ _ _ _))) (@z09 _ _ _ _ (@z06 _ _ _ _ _)))) fun ss y h=>z0O h
def z3L:DS:=(dSeq (dIf (dTr (eOp pEq (eOpF pIx 0 (bOf (eD (.int 1)))) (bOf (eD (.int 1))))) (dSeq (dAsg (eOp pMod (eOpF pIx 0 (bOf (eD (.int 0)))) (bVar 1)) (gNm [0] 2)) (dSeq (z7C 0 (eD (.int 0)) (eOp pDiv (eOpF pIx 0 (bOf (eD (.int 0)))) (bVar 1))) (dRet (eVar 2)))) z1f) (dSeq (z7C 0 (eD (.int 2)) (z08 z1k [.val (eOp pAdd (z08 z1k [.val (eOpF pIx 0 (bOf (eD (.int 2))))]) (bOf (eD (.int 7))))])) (dRet (eOp pMod (eOp pDiv (eOpF pIx 0 (bOf (eD (.int 2)))) (bOf (eD (.int 64)))) (bVar 1)))))
def z0b:DF:=gOf [0] 3 z3L
theorem z0o:z1K z0b:=z0u
theorem sc__law_draw:FnScope ["pen","many","found"] ["pen","many"] (z04 z3D):=⟨rfl,rfl,rfl,by decide +kernel,rfl,by decide +kernel,by decide +kernel⟩
theorem z7e {K:W0} (F:Fun K "_law_draw" "_law_draw" z3D f fd) (hm:mg "_law_draw" = some (.ref f)) (hb:Binds K fd ["pen","many"] []) (T:Txt ce K mg) (k__law_next:KFn P w K mg base 1 "_law_next" 1 z1k):KFn P w K mg base 2 "_law_draw" 2 z0b :=
 z1n (np:=[0]) (fb:=z3L) F hm hb sc__law_draw (fun c cdv A outer s H E hr hnp=>by
  have hq:=z1y hr
  refine (@z05 _ _ _ _ _ _ ?_ ?_)
  ·refine (@z2Y _ _ _ _ _ _ _ _ _ ?_ ?_ ?_)
   ·exact (@z1z _ _ _ _ _ _ _ _ _ _ (z5c hq) z88 (@z0s _ _ _ _ _ _ _ _ _ z0n z0I (pv 0) (@z09 _ _ _ _ (@z06 _ _ _ _ _)) (fun _ _=>rfl)) (@z09 _ _ _ _ (@z06 _ _ _ _ _)) (z1s _))
   ·refine (@z05 _ _ _ _ _ _ ?_ ?_)
    ·exact (@z0t _ _ _ _ _ _ ([0]) (2) _ hnp sc__law_draw.nd rfl (Or.inl rfl) (@z1x _ _ _ _ _ _ _ _ _ _ z5a z5j (@z0s _ _ _ _ _ _ _ _ _ z0n z0I (pv 0) (@z09 _ _ _ _ (@z06 _ _ _ _ _)) (fun _ _=>rfl)) (@z0e _ _ _ _ (pv 1))) rfl (Or.inl rfl))
    refine (@z05 _ _ _ _ _ _ ?_ ?_)
    ·exact (@z7R _ _ _ _ _ _ _ _ _ _ (pv 0) (@z06 _ _ _ _ _) (@z1x _ _ _ _ _ _ _ _ _ _ z5b z7f (@z0s _ _ _ _ _ _ _ _ _ z0n z0I (pv 0) (@z09 _ _ _ _ (@z06 _ _ _ _ _)) (fun _ _=>rfl)) (@z0e _ _ _ _ (pv 1))) (by intro _; rfl) (by rfl) (by rfl) (by rfl))
    refine (@z0c _ _ _ _ ?_)
    refine (@z0G _ _ _ _ _ ?_)
    exact (@z02 _ _ _ _ (pv 2))
   ·exact z1A
  refine (@z05 _ _ _ _ _ _ ?_ ?_)
  ·exact (@z7R _ _ _ _ _ _ _ _ _ _ (pv 0) (@z06 _ _ _ _ _) (@z0k _ _ _ _ _ (1) _ _ _ _ _ k__law_next z3a (hr.mono (by decide)) rfl (@z00 _ _ _ _ _ _ (@z1x _ _ _ _ _ _ _ _ _ _ z15 z1B (@z0k _ _ _ _ _ (1) _ _ _ _ _ k__law_next z3a (hr.mono (by decide)) rfl (@z00 _ _ _ _ _ _ (@z0s _ _ _ _ _ _ _ _ _ z0n z0I (pv 0) (@z09 _ _ _ _ (@z06 _ _ _ _ _)) (fun _ _=>rfl)) (@z0j _ _) (by rfl)) rfl (by decide) (by rfl) (by rfl)) (@z09 _ _ _ _ (@z06 _ _ _ _ _))) (@z0j _ _) (by rfl)) rfl (by decide) (by rfl) (by rfl)) (by intro _; rfl) (by rfl) (by rfl) (by rfl))
  refine (@z0c _ _ _ _ ?_)
  refine (@z0G _ _ _ _ _ ?_)
  exact (@z1x _ _ _ _ _ _ _ _ _ _ z5a z5j (@z1x _ _ _ _ _ _ _ _ _ _ z5b z7f (@z0s _ _ _ _ _ _ _ _ _ z0n z0I (pv 0) (@z09 _ _ _ _ (@z06 _ _ _ _ _)) (fun _ _=>rfl)) (@z09 _ _ _ _ (@z06 _ _ _ _ _))) (@z0e _ _ _ _ (pv 1)))) fun ss y h=>z0O h
def z1P:DS:=(dSeq (dAsg (eD (.str [97,98,99,100,101,102,103,104,105,106,107,108,109,110,111,112,113,114,115,116,117,118,119,120,121,122])) (gNm [0] 2)) (dSeq (dAsg (eOp pIx (z8n [.tup [.int 2,.int 2],.tup [.int 1,.int 2],.tup [.int 2,.int 1],.tup [.int 2,.int 2],.tup [.int 1,.int 3],.tup [.int 2,.int 3],.tup [.int 3,.int 1],.tup [.int 3,.int 2],.tup [.int 4,.int 4],.tup [.int 2,.int 2]]) (bOf (z08 z0b [.io 0,.val (eD (.int 10))]))) (gTp 2 (z0q (gNm [0] 3) (z0q (gNm [0] 4) z1F)))) (dSeq (dAsg (z08 z0b [.io 0,.val (eOp pSub (eD (.int 27)) (bVar 1))]) (gNm [0] 5)) (dSeq (dAsg (eSlN 2 (z3r (eVar 5)) (z3r (eOp pAdd (eOpF pAdd 5 (bOf (eD (.int 1)))) (bOf (z08 z0b [.io 0,.val (eVar 1)]))))) (gNm [0] 6)) (dSeq (dAsg (eOp pAdd (eD (.int 1)) (bOf (z08 z0b [.io 0,.val (eD (.int 3))]))) (gNm [0] 7)) (dSeq (dAsg (eLst aNil) (gNm [0] 8)) (dSeq (dFor (iSq (eVar 6)) (gNm [0] 9) (dSeq (dAsg (eLst aNil) (gNm [0] 10)) (dSeq (dFor (z1e (eVar 3)) (gNm [0] 11) (dSeq (dAsg (z6H [14] (z1e (eVar 4)) (gNm [0] 14) dYes (eOpF pIx 6 (bOf (eOp pDiv (z08 z0b [.io 0,.val (eC1 pLen (bVar 6))]) (bVar 7))))) (gNm [0] 12)) (z0F 10 (eC1 (z83 []) (bVar 12))))) (z0F 8 (eTup (z0l (eVar 9) (z0l (eC1 z2J (bVar 10)) aNil))))))) (dSeq (dIf (dTr (eOp pEq (z08 z0b [.io 0,.val (eD (.int 2))]) (bOf (eD (.int 0))))) (dSeq (dAsg (eOpF pIx 8 (bOf (eD (.int 0)))) (gTp 2 (z0q (gNm [0] 9) (z0q (gNm [0] 13) z1F)))) (z7C 8 (eD (.int 0)) (eTup (z0l (eVar 9) (z0l (eOp pAdd (eTup (z0l (eOpF pAdd 9 (bOf (eSl (eOpF pIx 13 (bOf (eD (.int 0)))) (z3r (eD (.int 1))) zce))) aNil)) (bOf (eSlN 13 (z3r (eD (.int 1))) zce))) aNil))))) z1f) (dRet (eTup (z0l (eVar 3) (z0l (eVar 4) (z0l (eC1 z2J (bVar 8)) aNil)))))))))))))
def z0M:DF:=gOf [0] 15 z1P
theorem z45:z1K z0M:=z0u
theorem sc__law_rule_by:FnScope ["pen","most","letters","high","wide","start","tiles","alike","blocks","tile","rows","row","signs","block","column"] ["pen","most"] (z04 z2y):=⟨rfl,rfl,rfl,by decide +kernel,rfl,by decide +kernel,by decide +kernel⟩
theorem z5g {K:W0} (F:Fun K "_law_rule_by" "_law_rule_by" z2y f fd) (hm:mg "_law_rule_by" = some (.ref f)) (hb:Binds K fd ["pen","most"] []) (T:Txt ce K mg) (k__law_draw:KFn P w K mg base 2 "_law_draw" 2 z0b):KFn P w K mg base 3 "_law_rule_by" 2 z0M :=
 z1n (np:=[0]) (fb:=z1P) F hm hb sc__law_rule_by (fun c cdv A outer s H E hr hnp=>by
  have hq:=z1y hr
  refine (@z05 _ _ _ _ _ _ ?_ ?_)
  ·exact (@z0t _ _ _ _ _ _ ([0]) (2) _ hnp sc__law_rule_by.nd rfl (Or.inl rfl) (@z2U _ _ _ _ _ [97,98,99,100,101,102,103,104,105,106,107,108,109,110,111,112,113,114,115,116,117,118,119,120,121,122] (by decide +kernel)) rfl (Or.inl rfl))
  refine (@z05 _ _ _ _ _ _ ?_ ?_)
  ·refine (@z8A _ _ _ _ _ _ _ ?_ ?_ (by rfl) (by rfl) (by rfl))
   ·exact (@z6X _ _ _ _ _ _ _ _ _ z0n z0I (@z6Y _ _ _ _ _ (by rfl) (by decide)) (@z09 _ _ _ _ (@z0k _ _ _ _ _ (2) _ _ _ _ _ k__law_draw z0o (hr.mono (by decide)) rfl (@z2c _ _ _ _ _ _ (pv 0) (@z00 _ _ _ _ _ _ (@z06 _ _ _ _ _) (@z0j _ _) (by rfl)) (by rfl)) rfl (by decide) (by rfl) (by rfl))) (fun _ _=>rfl))
   ·exact (@z3N _ _ _ _ _ _ _ rfl (@z0L _ _ _ _ _ _ (@z0y _ _ _ ([0]) (3) _ hnp sc__law_rule_by.nd rfl (Or.inl rfl) (Or.inl rfl)) (@z0L _ _ _ _ _ _ (@z0y _ _ _ ([0]) (4) _ hnp sc__law_rule_by.nd rfl (Or.inl rfl) (Or.inl rfl)) (@z2L _ _) (by rfl)) (by rfl)) (by rfl) (by rfl))
  refine (@z05 _ _ _ _ _ _ ?_ ?_)
  ·exact (@z0t _ _ _ _ _ _ ([0]) (5) _ hnp sc__law_rule_by.nd rfl (Or.inl rfl) (@z0k _ _ _ _ _ (2) _ _ _ _ _ k__law_draw z0o (hr.mono (by decide)) rfl (@z2c _ _ _ _ _ _ (pv 0) (@z00 _ _ _ _ _ _ (@z1x _ _ _ _ _ _ _ _ _ _ z8N z8O (@z06 _ _ _ _ _) (@z0e _ _ _ _ (pv 1))) (@z0j _ _) (by rfl)) (by rfl)) rfl (by decide) (by rfl) (by rfl)) rfl (Or.inl rfl))
  refine (@z05 _ _ _ _ _ _ ?_ ?_)
  ·exact (@z0t _ _ _ _ _ _ ([0]) (6) _ hnp sc__law_rule_by.nd rfl (Or.inr rfl) (@za0 _ _ _ _ _ _ _ _ _ _ (pv 2) (@z4a _ _ _ _ (@z02 _ _ _ _ (pv 5))) (@z4a _ _ _ _ (@z1x _ _ _ _ _ _ _ _ _ _ z15 z1B (@z1q _ _ _ _ _ _ _ _ _ _ z15 z1B (pv 5) (@z09 _ _ _ _ (@z06 _ _ _ _ _))) (@z09 _ _ _ _ (@z0k _ _ _ _ _ (2) _ _ _ _ _ k__law_draw z0o (hr.mono (by decide)) rfl (@z2c _ _ _ _ _ _ (pv 0) (@z00 _ _ _ _ _ _ (@z02 _ _ _ _ (pv 1)) (@z0j _ _) (by rfl)) (by rfl)) rfl (by decide) (by rfl) (by rfl)))))) rfl (Or.inl rfl))
  refine (@z05 _ _ _ _ _ _ ?_ ?_)
  ·exact (@z0t _ _ _ _ _ _ ([0]) (7) _ hnp sc__law_rule_by.nd rfl (Or.inr rfl) (@z1x _ _ _ _ _ _ _ _ _ _ z15 z1B (@z06 _ _ _ _ _) (@z09 _ _ _ _ (@z0k _ _ _ _ _ (2) _ _ _ _ _ k__law_draw z0o (hr.mono (by decide)) rfl (@z2c _ _ _ _ _ _ (pv 0) (@z00 _ _ _ _ _ _ (@z06 _ _ _ _ _) (@z0j _ _) (by rfl)) (by rfl)) rfl (by decide) (by rfl) (by rfl)))) rfl (Or.inl rfl))
  refine (@z05 _ _ _ _ _ _ ?_ ?_)
  ·exact (@z0t _ _ _ _ _ _ ([0]) (8) _ hnp sc__law_rule_by.nd rfl (Or.inl rfl) (@z1r _ _ _ _ _ (@z0W _ _) (by decide)) rfl (Or.inl rfl))
  refine (@z05 _ _ _ _ _ _ ?_ ?_)
  ·refine (@z24 _ _ _ _ _ _ _ _ _ PassesOwn.never rfl ?_ ?_ ?_ (by intro _; rfl))
   ·exact (@z6g _ _ _ _ _ (@z02 _ _ _ _ (pv 6)))
   ·exact (@z0y _ _ _ ([0]) (9) _ hnp sc__law_rule_by.nd rfl (Or.inl rfl) (Or.inl rfl))
   ·refine (@z05 _ _ _ _ _ _ ?_ ?_)
    ·exact (@z0t _ _ _ _ _ _ ([0]) (10) _ hnp sc__law_rule_by.nd rfl (Or.inl rfl) (@z1r _ _ _ _ _ (@z0W _ _) (by decide)) rfl (Or.inl rfl))
    refine (@z05 _ _ _ _ _ _ ?_ ?_)
    ·refine (@z24 _ _ _ _ _ _ _ _ _ PassesOwn.never rfl ?_ ?_ ?_ (by intro _; rfl))
     ·exact (@z1S _ _ _ _ _ _ _ rfl T.z_range (@z02 _ _ _ _ (pv 3)) (by rfl))
     ·exact (@z0y _ _ _ ([0]) (11) _ hnp sc__law_rule_by.nd rfl (Or.inl rfl) (Or.inl rfl))
     ·refine (@z05 _ _ _ _ _ _ ?_ ?_)
      ·exact (@z5S _ _ ([14]) _ _ _ _ _ _ _ _ _ _ ([0]) (12) _ _ _ hnp rfl (@z5u _ _ _ rfl rfl) sc__law_rule_by.nd rfl rfl (@z1S _ _ _ _ _ _ _ rfl T.z_range (@z02 _ _ _ _ (pv 4)) (by rfl)) (fun l s0 H0 ex=>(@z4M _ _ _ _ ([0]) (14) _ hnp sc__law_rule_by.nd rfl (Or.inl rfl) (Or.inr rfl) (by decide))) (fun l s0 H0 ex=>(@z9R _ _)) (fun l s0 H0 ex=>(@z0s _ _ _ _ _ _ _ _ _ z0n z0I (pv 6) (@z09 _ _ _ _ (@z1x _ _ _ _ _ _ _ _ _ _ z5b z7f (@z0k _ _ _ _ _ (2) _ _ _ _ _ k__law_draw z0o (hr.mono (by decide)) rfl (@z2c _ _ _ _ _ _ (pv 0) (@z00 _ _ _ _ _ _ (@z2Z _ _ _ _ _ _ rfl T.z_len (@z0e _ _ _ _ (pv 6)) (by rfl)) (@z0j _ _) (by rfl)) (by rfl)) rfl (by decide) (by rfl) (by rfl)) (@z0e _ _ _ _ (pv 7)))) (fun _ _=>rfl))) (zaH hnp rfl) (by rfl) (by intro _; rfl))
      refine (@z0c _ _ _ _ ?_)
      exact (@z1l _ _ _ _ _ _ _ _ _ (pv 10) (@zdA _ _ _ _ _ _ _ _ _ [] (@z0e _ _ _ _ (pv 12)) (by decide +kernel) (by rfl) (by rfl) (by rfl) (by rfl)) (by rfl) (by rfl) (by rfl) (by rfl) (by rfl))
    refine (@z0c _ _ _ _ ?_)
    exact (@z1l _ _ _ _ _ _ _ _ _ (pv 8) (@z3w _ _ _ _ _ _ (@z07 _ _ _ _ _ _ (@z02 _ _ _ _ (pv 9)) (@z07 _ _ _ _ _ _ (@z6h _ _ _ _ _ _ rfl T.z_tuple (@z0e _ _ _ _ (pv 10)) (by rfl)) (@z0W _ _) (by rfl)) (by rfl)) (by decide)) (by rfl) (by rfl) (by rfl) (by rfl) (by rfl))
  refine (@z05 _ _ _ _ _ _ ?_ ?_)
  ·refine (@z2Y _ _ _ _ _ _ _ _ _ ?_ ?_ ?_)
   ·exact (@z1z _ _ _ _ _ _ _ _ _ _ (z5c hq) z88 (@z0k _ _ _ _ _ (2) _ _ _ _ _ k__law_draw z0o (hr.mono (by decide)) rfl (@z2c _ _ _ _ _ _ (pv 0) (@z00 _ _ _ _ _ _ (@z06 _ _ _ _ _) (@z0j _ _) (by rfl)) (by rfl)) rfl (by decide) (by rfl) (by rfl)) (@z09 _ _ _ _ (@z06 _ _ _ _ _)) (z1s _))
   ·refine (@z05 _ _ _ _ _ _ ?_ ?_)
    ·refine (@z8A _ _ _ _ _ _ _ ?_ ?_ (by rfl) (by rfl) (by rfl))
     ·exact (@z0s _ _ _ _ _ _ _ _ _ z0n z0I (pv 8) (@z09 _ _ _ _ (@z06 _ _ _ _ _)) (fun _ _=>rfl))
     ·exact (@z3N _ _ _ _ _ _ _ rfl (@z0L _ _ _ _ _ _ (@z0y _ _ _ ([0]) (9) _ hnp sc__law_rule_by.nd rfl (Or.inl rfl) (Or.inl rfl)) (@z0L _ _ _ _ _ _ (@z0y _ _ _ ([0]) (13) _ hnp sc__law_rule_by.nd rfl (Or.inl rfl) (Or.inl rfl)) (@z2L _ _) (by rfl)) (by rfl)) (by rfl) (by rfl))
    refine (@z0c _ _ _ _ ?_)
    exact (@z7R _ _ _ _ _ _ _ _ _ _ (pv 8) (@z06 _ _ _ _ _) (@z3w _ _ _ _ _ _ (@z07 _ _ _ _ _ _ (@z02 _ _ _ _ (pv 9)) (@z07 _ _ _ _ _ _ (@z1x _ _ _ _ _ _ _ _ _ _ z15 z1B (@z3w _ _ _ _ _ _ (@z07 _ _ _ _ _ _ (@z1q _ _ _ _ _ _ _ _ _ _ z15 z1B (pv 9) (@z09 _ _ _ _ (@se_sl _ _ _ _ _ _ _ _ _ _ (@z0s _ _ _ _ _ _ _ _ _ z0n z0I (pv 13) (@z09 _ _ _ _ (@z06 _ _ _ _ _)) (fun _ _=>rfl)) (@z4a _ _ _ _ (@z06 _ _ _ _ _)) (@z9V _ _)))) (@z0W _ _) (by rfl)) (by decide)) (@z09 _ _ _ _ (@za0 _ _ _ _ _ _ _ _ _ _ (pv 13) (@z4a _ _ _ _ (@z06 _ _ _ _ _)) (@z9V _ _)))) (@z0W _ _) (by rfl)) (by rfl)) (by decide)) (by intro _; rfl) (by rfl) (by rfl) (by rfl))
   ·exact z1A
  refine (@z0c _ _ _ _ ?_)
  refine (@z0G _ _ _ _ _ ?_)
  exact (@z3w _ _ _ _ _ _ (@z07 _ _ _ _ _ _ (@z02 _ _ _ _ (pv 3)) (@z07 _ _ _ _ _ _ (@z02 _ _ _ _ (pv 4)) (@z07 _ _ _ _ _ _ (@z6h _ _ _ _ _ _ rfl T.z_tuple (@z0e _ _ _ _ (pv 8)) (by rfl)) (@z0W _ _) (by rfl)) (by rfl)) (by rfl)) (by decide))) fun ss y h=>z0O h
def z2n:DS:=(dRet (z6H [1,2] (iSq (eOpF pIx 0 (bOf (eD (.int 2))))) (gTp 2 (z0q (gNm [] 1) (z0q (gNm [] 2) z1F))) dYes (eVar 1)))
def z0x:DF:=gOf [] 3 z2n
theorem z2j:z1K z0x:=z0u
theorem sc__law_tiles_of:FnScope ["rule","tile","block"] ["rule"] (z04 z2d):=⟨rfl,rfl,rfl,by decide +kernel,rfl,by decide +kernel,by decide +kernel⟩
theorem z4C {K:W0} (F:Fun K "_law_tiles_of" "_law_tiles_of" z2d f fd) (hm:mg "_law_tiles_of" = some (.ref f)) (hb:Binds K fd ["rule"] []) (T:Txt ce K mg):KFn P w K mg base 1 "_law_tiles_of" 1 z0x :=
 z1n (np:=[]) (fb:=z2n) F hm hb sc__law_tiles_of (fun c cdv A outer s H E hr hnp=>by
  have hq:=z1y hr
  refine (@z0c _ _ _ _ ?_)
  refine (@z0G _ _ _ _ _ ?_)
  exact (@zdD _ _ ([1,2]) _ _ _ _ _ _ _ _ _ _ rfl (@z5u _ _ _ rfl rfl) (@z6g _ _ _ _ _ (@z0s _ _ _ _ _ _ _ _ _ z0n z0I (pv 0) (@z09 _ _ _ _ (@z06 _ _ _ _ _)) (fun _ _=>rfl))) (fun l s0 H0 ex=>(@zdw _ _ _ _ _ _ _ _ rfl (@z6W _ _ _ _ _ _ _ (@z4M _ _ _ _ ([]) (1) _ hnp sc__law_tiles_of.nd rfl (Or.inl rfl) (Or.inr rfl) (by decide)) (@z6W _ _ _ _ _ _ _ (@z4M _ _ _ _ ([]) (2) _ hnp sc__law_tiles_of.nd rfl (Or.inl rfl) (Or.inr rfl) (by decide)) (@zbF _ _ _) (by rfl)) (by rfl)) (by rfl) (by rfl))) (fun l s0 H0 ex=>(@z9R _ _)) (fun l s0 H0 ex=>(@z02 _ _ _ _ (pv 1))) (zaH hnp rfl) (by intro _; rfl))) fun ss y h=>z0O h
def z21:DS:=(dIf (dOr (dNot (dTr (eIsi "str" (bVar 1)))) (dTr (eOp (pIn true) (eVar 1) (bOf (eC1 z2C (bOf (eOpF pIx 0 (bOf (eD (.int 2)))))))))) (z4r [78,111,84,105,108,101] (eVar 1)) z1f)
def z0h:DX:=gOfX [] 2 z21
theorem z1d:z2X z0h:=z1G
theorem z4b:FnScope ["rule","thing"] ["rule","thing"] (z04 z1Z):=⟨rfl,rfl,rfl,by decide +kernel,rfl,by decide +kernel,by decide +kernel⟩
theorem z4h {K:W0} (F:Fun K "refuse_no_tile" "refuse_no_tile" z1Z f fd) (hm:mg "refuse_no_tile" = some (.ref f)) (hb:Binds K fd ["rule","thing"] []) (T:Txt ce K mg) (n_f:IniK P w K mg base (ce [78,111,84,105,108,101]) "tile"):KFnX P w K mg base 3 "refuse_no_tile" 2 z0h :=
 z3H (np:=[]) (fb:=z21) F hm hb z4b (fun c cdv A outer s H E hr hnp hxo hxr=>by
  have hq:=z1y hr
  refine (@z0c _ _ _ _ ?_)
  refine (@z2Y _ _ _ _ _ _ _ _ _ ?_ ?_ ?_)
  ·exact (@z4V _ _ _ _ (@z5D _ _ _ _ _ _ _ _ (@z2q _ _ _ _ _ (@z2p _ _ _ _ (@z5W _ _ _ _ _ _ _ _ _ T.ty_str rfl T.z_isinstance rfl T.z_str boot_str (@z0e _ _ _ _ (pv 1)) (by decide) (by decide) (by rfl) (by rfl)) (by intro _; rfl))) (@z4u _ _ _ _ _ (@z1z _ _ _ _ _ _ _ _ _ _ (@z59 _ hq) (@z6x _ true) (@z02 _ _ _ _ (pv 1)) (@z09 _ _ _ _ (@z4W _ _ _ _ _ _ rfl rfl T.z_dict (@z09 _ _ _ _ (@z0s _ _ _ _ _ _ _ _ _ z0n z0I (pv 0) (@z09 _ _ _ _ (@z06 _ _ _ _ _)) (fun _ _=>rfl))) (by rfl))) rfl))))
  ·refine (@z0c _ _ _ _ ?_)
   exact (@z9S _ _ _ _ _ _ _ _ _ _ [78,111,84,105,108,101] n_f (hr.mono (by decide)) rfl rfl T.c_f (@z02 _ _ _ _ (pv 1)) hxr (by decide +kernel) (by decide) (by rfl) (by rfl))
  ·exact z1A) fun ss y h=>z2s h
def z3h:DS:=(dRet (eAnd (eIsi "int" (bVar 0)) (eAnd (eNot (eIsi "bool" (bVar 0))) (eOpF pLe 1 (bVar 0)))))
def z1o:DF:=gOf [] 2 z3h
theorem z4G:z1K z1o:=z0u
theorem z6j:FnScope ["thing","least"] ["thing","least"] (z04 z30):=⟨rfl,rfl,rfl,by decide +kernel,rfl,by decide +kernel,by decide +kernel⟩
theorem z6r {K:W0} (F:Fun K "whole_from" "whole_from" z30 f fd) (hm:mg "whole_from" = some (.ref f)) (hb:Binds K fd ["thing","least"] []) (T:Txt ce K mg):KFn P w K mg base 1 "whole_from" 2 z1o :=
 z1n (np:=[]) (fb:=z3h) F hm hb z6j (fun c cdv A outer s H E hr hnp=>by
  have hq:=z1y hr
  refine (@z0c _ _ _ _ ?_)
  refine (@z0G _ _ _ _ _ ?_)
  exact (@z70 _ _ _ _ _ _ _ _ (@z5W _ _ _ _ _ _ _ _ _ T.ty_int rfl T.z_isinstance rfl T.z_int boot_int (@z0e _ _ _ _ (pv 0)) (by decide) (by decide) (by rfl) (by rfl)) (@z70 _ _ _ _ _ _ _ _ (@zcT _ _ _ _ _ (@z5W _ _ _ _ _ _ _ _ _ T.ty_bool rfl T.z_isinstance rfl T.z_bool boot_bool (@z0e _ _ _ _ (pv 0)) (by decide) (by decide) (by rfl) (by rfl))) (@z8B _ _ _ _ _ _ (@z6i _ _ _ _ _ _ _ _ _ _ zaz z60 (pv 1) (@z0e _ _ _ _ (pv 0)) (z1s _)))))) fun ss y h=>z0O h
def z2E:DS:=(dRet (eAnd (z08 z1o [.val (eVar 0),.val (eVar 1)]) (eOpF pLe 0 (bVar 2))))
def z0w:DF:=gOf [] 3 z2E
theorem z1u:z1K z0w:=z0u
theorem z4Z:FnScope ["thing","least","most"] ["thing","least","most"] (z04 z2v):=⟨rfl,rfl,rfl,by decide +kernel,rfl,by decide +kernel,by decide +kernel⟩
theorem z5d {K:W0} (F:Fun K "whole_within" "whole_within" z2v f fd) (hm:mg "whole_within" = some (.ref f)) (hb:Binds K fd ["thing","least","most"] []) (T:Txt ce K mg) (k_whole_from:KFn P w K mg base 1 "whole_from" 2 z1o):KFn P w K mg base 2 "whole_within" 3 z0w :=
 z1n (np:=[]) (fb:=z2E) F hm hb z4Z (fun c cdv A outer s H E hr hnp=>by
  have hq:=z1y hr
  refine (@z0c _ _ _ _ ?_)
  refine (@z0G _ _ _ _ _ ?_)
  exact (@z70 _ _ _ _ _ _ _ _ (@z0k _ _ _ _ _ (1) _ _ _ _ _ k_whole_from z4G (hr.mono (by decide)) rfl (@z00 _ _ _ _ _ _ (@z02 _ _ _ _ (pv 0)) (@z00 _ _ _ _ _ _ (@z02 _ _ _ _ (pv 1)) (@z0j _ _) (by rfl)) (by rfl)) rfl (by decide) (by rfl) (by rfl)) (@z8B _ _ _ _ _ _ (@z6i _ _ _ _ _ _ _ _ _ _ zaz z60 (pv 0) (@z0e _ _ _ _ (pv 2)) (z1s _))))) fun ss y h=>z0O h
def z1H:DS:=(dIf (dNot (dTr (z08 z0w [.val (eVar 0),.val (eD (.int 0)),.val (eD (.int 60))]))) (z3y [78,111,78,117,109,98,101,114]) z1f)
def z0g:DX:=gOfX [] 1 z1H
theorem z1U:z2X z0g:=z1G
theorem z3R:FnScope ["growings"] ["growings"] (z04 z1C):=⟨rfl,rfl,rfl,by decide +kernel,rfl,by decide +kernel,by decide +kernel⟩
theorem z3W {K:W0} (F:Fun K "refuse_growings" "refuse_growings" z1C f fd) (hm:mg "refuse_growings" = some (.ref f)) (hb:Binds K fd ["growings"] []) (T:Txt ce K mg) (k_whole_within:KFn P w K mg base 2 "whole_within" 3 z0w):KFnX P w K mg base 3 "refuse_growings" 1 z0g :=
 z3H (np:=[]) (fb:=z1H) F hm hb z3R (fun c cdv A outer s H E hr hnp hxo hxr=>by
  have hq:=z1y hr
  refine (@z0c _ _ _ _ ?_)
  refine (@z2Y _ _ _ _ _ _ _ _ _ ?_ ?_ ?_)
  ·exact (@z2q _ _ _ _ _ (@z2p _ _ _ _ (@z0k _ _ _ _ _ (2) _ _ _ _ _ k_whole_within z1u (hr.mono (by decide)) rfl (@z00 _ _ _ _ _ _ (@z02 _ _ _ _ (pv 0)) (@z00 _ _ _ _ _ _ (@z06 _ _ _ _ _) (@z00 _ _ _ _ _ _ (@z7U _ _ _ _ _ rfl T.g_MOST_GROWINGS (by decide)) (@z0j _ _) (by rfl)) (by rfl)) (by rfl)) rfl (by decide) (by rfl) (by rfl)) (by intro _; rfl)))
  ·refine (@z0c _ _ _ _ ?_)
   exact (@z6e _ _ _ _ _ _ _ [78,111,78,117,109,98,101,114] T.q_c rfl rfl T.c_c hxr (by decide +kernel) (by decide) (by rfl))
  ·exact z1A) fun ss y h=>z2s h
abbrev B1_:DS:=dIf (dTr (eOp (pIn false) (eVar 11) (bVar 1))) (dSeq (dAsg (eOpF pIxX 1 (bVar 11)) (gTp 2 (z0q (gNm [] 12) (z0q (gNm [] 13) z1F)))) (z0F 7 (eTup (z0l (eOp pAdd (eOpF z1h 8 (bVar 2)) (bVar 12)) (z0l (eOp pAdd (eOpF z1h 10 (bVar 3)) (bVar 13)) aNil))))) z1f
abbrev B19_:DS:=dFor (z8T (eVar 9)) (gTp 2 (z0q (gNm [] 10) (z0q (gNm [] 11) z1F))) (B1_)
abbrev B5_:DS:=dSeq (dAsg (eLst aNil) (gNm [] 7)) (dSeq (dFor (z9y (eVar 6)) (gTp 2 (z0q (gNm [] 8) (z0q (gNm [] 9) z1F))) (B19_)) (dIf (dTr (eOp pGt (eC1 pLen (bVar 7)) (bOf (eD (.int 0))))) (zcH 4 (eVar 5) (eC1 z9r (bVar 7))) z1f))
abbrev B11_:DS:=dSeq (dAsg z93 (gNm [] 4)) (dSeq (dFor (iSq (eOpF pIx 0 (bOf (eD (.int 2))))) (gTp 2 (z0q (gNm [] 5) (z0q (gNm [] 6) z1F))) (B5_)) (z5N [] 4))
def z2G:DS:=(B11_)
def z0C:DF:=gOf [] 14 z2G
theorem z44:z1K z0C:=z0u
theorem sc_grown_places:FnScope ["rule","place_of","tall","broad","grown","tile","block","places","i","tiles","j","part","row","column"] ["rule","place_of","tall","broad"] (z04 z2x):=⟨rfl,rfl,rfl,by decide +kernel,rfl,by decide +kernel,by decide +kernel⟩
theorem z5f {K:W0} (F:Fun K "grown_places" "grown_places" z2x f fd) (hm:mg "grown_places" = some (.ref f)) (hb:Binds K fd ["rule","place_of","tall","broad"] []) (T:Txt ce K mg):KFn P w K mg base 1 "grown_places" 4 z0C :=
 z1n (np:=[]) (fb:=z2G) F hm hb sc_grown_places (fun c cdv A outer s H E hr hnp=>by
  have hq:=z1y hr
  refine (@z05 _ _ _ _ _ _ ?_ ?_)
  ·exact (@z0t _ _ _ _ _ _ ([]) (4) _ hnp sc_grown_places.nd rfl (Or.inl rfl) (@z8C _ _ _) rfl (Or.inl rfl))
  refine (@z05 _ _ _ _ _ _ ?_ ?_)
  ·refine (@z24 _ _ _ _ _ _ _ _ _ PassesOwn.never rfl ?_ ?_ ?_ (by intro _; rfl))
   ·exact (@z6g _ _ _ _ _ (@z0s _ _ _ _ _ _ _ _ _ z0n z0I (pv 0) (@z09 _ _ _ _ (@z06 _ _ _ _ _)) (fun _ _=>rfl)))
   ·exact (@z3N _ _ _ _ _ _ _ rfl (@z0L _ _ _ _ _ _ (@z0y _ _ _ ([]) (5) _ hnp sc_grown_places.nd rfl (Or.inl rfl) (Or.inl rfl)) (@z0L _ _ _ _ _ _ (@z0y _ _ _ ([]) (6) _ hnp sc_grown_places.nd rfl (Or.inl rfl) (Or.inl rfl)) (@z2L _ _) (by rfl)) (by rfl)) (by rfl) (by rfl))
   ·refine (@z05 _ _ _ _ _ _ ?_ ?_)
    ·exact (@z0t _ _ _ _ _ _ ([]) (7) _ hnp sc_grown_places.nd rfl (Or.inl rfl) (@z1r _ _ _ _ _ (@z0W _ _) (by decide)) rfl (Or.inl rfl))
    refine (@z05 _ _ _ _ _ _ ?_ ?_)
    ·refine (@z24 _ _ _ _ _ _ _ _ _ PassesOwn.never rfl ?_ ?_ ?_ (by intro _; rfl))
     ·exact (@z9Z _ _ _ _ _ _ _ _ _ rfl T.z_enumerate (@z02 _ _ _ _ (pv 6)) (by rfl))
     ·exact (@z3N _ _ _ _ _ _ _ rfl (@z0L _ _ _ _ _ _ (@z0y _ _ _ ([]) (8) _ hnp sc_grown_places.nd rfl (Or.inl rfl) (Or.inl rfl)) (@z0L _ _ _ _ _ _ (@z0y _ _ _ ([]) (9) _ hnp sc_grown_places.nd rfl (Or.inl rfl) (Or.inl rfl)) (@z2L _ _) (by rfl)) (by rfl)) (by rfl) (by rfl))
     ·refine (@z0c _ _ _ _ ?_)
      refine (@z24 _ _ _ _ _ _ _ _ _ PassesOwn.never rfl ?_ ?_ ?_ (by intro _; rfl))
      ·exact (@zbE _ _ _ _ _ _ _ _ _ rfl T.z_enumerate (@z02 _ _ _ _ (pv 9)) (by rfl))
      ·exact (@z3N _ _ _ _ _ _ _ rfl (@z0L _ _ _ _ _ _ (@z0y _ _ _ ([]) (10) _ hnp sc_grown_places.nd rfl (Or.inl rfl) (Or.inl rfl)) (@z0L _ _ _ _ _ _ (@z0y _ _ _ ([]) (11) _ hnp sc_grown_places.nd rfl (Or.inl rfl) (Or.inl rfl)) (@z2L _ _) (by rfl)) (by rfl)) (by rfl) (by rfl))
      ·refine (@z0c _ _ _ _ ?_)
       refine (@z2Y _ _ _ _ _ _ _ _ _ ?_ ?_ ?_)
       ·exact (@z1z _ _ _ _ _ _ _ _ _ _ (@zcc _ hq) (@z6x _ false) (@z02 _ _ _ _ (pv 11)) (@z0e _ _ _ _ (pv 1)) rfl)
       ·refine (@z05 _ _ _ _ _ _ ?_ ?_)
        ·refine (@z8A _ _ _ _ _ _ _ ?_ ?_ (by rfl) (by rfl) (by rfl))
         ·exact (@z0s _ _ _ _ _ _ _ _ _ (ix_X hq) zaF (pv 1) (@z0e _ _ _ _ (pv 11)) (fun _ _=>rfl))
         ·exact (@z3N _ _ _ _ _ _ _ rfl (@z0L _ _ _ _ _ _ (@z0y _ _ _ ([]) (12) _ hnp sc_grown_places.nd rfl (Or.inl rfl) (Or.inl rfl)) (@z0L _ _ _ _ _ _ (@z0y _ _ _ ([]) (13) _ hnp sc_grown_places.nd rfl (Or.inl rfl) (Or.inl rfl)) (@z2L _ _) (by rfl)) (by rfl)) (by rfl) (by rfl))
        refine (@z0c _ _ _ _ ?_)
        exact (@z1l _ _ _ _ _ _ _ _ _ (pv 7) (@z3w _ _ _ _ _ _ (@z07 _ _ _ _ _ _ (@z1x _ _ _ _ _ _ _ _ _ _ z15 z1B (@z1q _ _ _ _ _ _ _ _ _ _ z2f z2g (pv 8) (@z0e _ _ _ _ (pv 2))) (@z0e _ _ _ _ (pv 12))) (@z07 _ _ _ _ _ _ (@z1x _ _ _ _ _ _ _ _ _ _ z15 z1B (@z1q _ _ _ _ _ _ _ _ _ _ z2f z2g (pv 10) (@z0e _ _ _ _ (pv 3))) (@z0e _ _ _ _ (pv 13))) (@z0W _ _) (by rfl)) (by rfl)) (by decide)) (by rfl) (by rfl) (by rfl) (by rfl) (by rfl))
       ·exact z1A
    refine (@z0c _ _ _ _ ?_)
    refine (@z2Y _ _ _ _ _ _ _ _ _ ?_ ?_ ?_)
    ·exact (@z1z _ _ _ _ _ _ _ _ _ _ zfA z60 (@z2Z _ _ _ _ _ _ rfl T.z_len (@z0e _ _ _ _ (pv 7)) (by rfl)) (@z09 _ _ _ _ (@z06 _ _ _ _ _)) (z1s _))
    ·refine (@z0c _ _ _ _ ?_)
     exact (@zdq _ _ _ _ _ _ _ _ _ _ hq (pv 4) (@z02 _ _ _ _ (pv 5)) (@zdz _ _ _ _ _ _ rfl hq rfl T.z_min (@z0e _ _ _ _ (pv 7)) (by rfl)) (by rfl))
    ·exact z1A
  refine (@z0c _ _ _ _ ?_)
  exact (@z7S _ _ _ _ _ _ hnp (pv 4))) fun ss y h=>z0O h
abbrev B12_:DS:=dSeq (dAsg (eOpF z1h 5 (bOf (eOpF pIx 0 (bOf (eD (.int 0)))))) (gNm [] 5)) (dAsg (eOpF z1h 6 (bOf (eOpF pIx 0 (bOf (eD (.int 1)))))) (gNm [] 6))
def z1I:DS:=(dSeq (z3v (z0P z0h [.val (eVar 0),.val (eVar 1)])) (dSeq (z3v (z0P z0g [.val (eVar 2)])) (dSeq (z3v (z0P z0h [.val (eVar 0),.val (eVar 3)])) (dSeq (dAsg (z7z (eVar 3) (eD (.tup [.int 0,.int 0]))) (gNm [] 4)) (dSeq (dAsg (eD (.int 1)) (gNm [] 5)) (dSeq (dAsg (eD (.int 1)) (gNm [] 6)) (dSeq (dFor (z1e (eVar 2)) (gNm [] 7) (dSeq (dAsg (z08 z0C [.val (eVar 0),.val (eVar 4),.val (eVar 5),.val (eVar 6)]) (gNm [] 4)) (B12_))) (dRet (zbc 4 (eVar 1))))))))))
def z0i:DX:=gOfX [] 8 z1I
theorem z18:z2X z0i:=z1G
theorem sc_first_far:FnScope ["rule","tile","growings","other","place_of","tall","broad","growing"] ["rule","tile","growings","other"] (z04 z3A):=⟨rfl,rfl,rfl,by decide +kernel,rfl,by decide +kernel,by decide +kernel⟩
theorem z7b {K:W0} (F:Fun K "first_far" "first_far" z3A f fd) (hm:mg "first_far" = some (.ref f)) (hb:Binds K fd ["rule","tile","growings","other"] []) (T:Txt ce K mg) (k_refuse_no_tile:KFnX P w K mg base 3 "refuse_no_tile" 2 z0h) (k_refuse_growings:KFnX P w K mg base 3 "refuse_growings" 1 z0g) (k_grown_places:KFn P w K mg base 1 "grown_places" 4 z0C):KFnX P w K mg base 4 "first_far" 4 z0i :=
 z3H (np:=[]) (fb:=z1I) F hm hb sc_first_far (fun c cdv A outer s H E hr hnp hxo hxr=>by
  have hq:=z1y hr
  refine (@z05 _ _ _ _ _ _ ?_ ?_)
  ·exact (@z3n _ _ _ _ _ (@z27 _ _ _ _ _ (3) _ _ _ _ _ k_refuse_no_tile z1d (hr.mono (by decide)) rfl hxo rfl (@z00 _ _ _ _ _ _ (@z02 _ _ _ _ (pv 0)) (@z00 _ _ _ _ _ _ (@z02 _ _ _ _ (pv 1)) (@z0j _ _) (by rfl)) (by rfl)) rfl (by decide) (by rfl) (by rfl)) (by rfl))
  refine (@z05 _ _ _ _ _ _ ?_ ?_)
  ·exact (@z3n _ _ _ _ _ (@z27 _ _ _ _ _ (3) _ _ _ _ _ k_refuse_growings z1U (hr.mono (by decide)) rfl hxo rfl (@z00 _ _ _ _ _ _ (@z02 _ _ _ _ (pv 2)) (@z0j _ _) (by rfl)) rfl (by decide) (by rfl) (by rfl)) (by rfl))
  refine (@z05 _ _ _ _ _ _ ?_ ?_)
  ·exact (@z3n _ _ _ _ _ (@z27 _ _ _ _ _ (3) _ _ _ _ _ k_refuse_no_tile z1d (hr.mono (by decide)) rfl hxo rfl (@z00 _ _ _ _ _ _ (@z02 _ _ _ _ (pv 0)) (@z00 _ _ _ _ _ _ (@z02 _ _ _ _ (pv 3)) (@z0j _ _) (by rfl)) (by rfl)) rfl (by decide) (by rfl) (by rfl)) (by rfl))
  refine (@z05 _ _ _ _ _ _ ?_ ?_)
  ·exact (@z0t _ _ _ _ _ _ ([]) (4) _ hnp sc_first_far.nd rfl (Or.inl rfl) (@zbJ _ _ _ _ _ _ _ (fun c=>(@z02 _ _ _ _ (pv 3))) (fun c=>(@zbL _ _ _ _ (by rfl)))) rfl (Or.inl rfl))
  refine (@z05 _ _ _ _ _ _ ?_ ?_)
  ·exact (@z0t _ _ _ _ _ _ ([]) (5) _ hnp sc_first_far.nd rfl (Or.inl rfl) (@z06 _ _ _ _ _) rfl (Or.inl rfl))
  refine (@z05 _ _ _ _ _ _ ?_ ?_)
  ·exact (@z0t _ _ _ _ _ _ ([]) (6) _ hnp sc_first_far.nd rfl (Or.inl rfl) (@z06 _ _ _ _ _) rfl (Or.inl rfl))
  refine (@z05 _ _ _ _ _ _ ?_ ?_)
  ·refine SS.nox ?_
   refine (@z24 _ _ _ _ _ _ _ _ _ PassesOwn.never rfl ?_ ?_ ?_ (by intro _; rfl))
   ·exact (@z1S _ _ _ _ _ _ _ rfl T.z_range (@z02 _ _ _ _ (pv 2)) (by rfl))
   ·exact (@z0y _ _ _ ([]) (7) _ hnp sc_first_far.nd rfl (Or.inl rfl) (Or.inl rfl))
   ·refine (@z05 _ _ _ _ _ _ ?_ ?_)
    ·exact (@z0t _ _ _ _ _ _ ([]) (4) _ hnp sc_first_far.nd rfl (Or.inl rfl) (@z0k _ _ _ _ _ (1) _ _ _ _ _ k_grown_places z44 (hr.mono (by decide)) rfl (@z00 _ _ _ _ _ _ (@z02 _ _ _ _ (pv 0)) (@z00 _ _ _ _ _ _ (@z02 _ _ _ _ (pv 4)) (@z00 _ _ _ _ _ _ (@z02 _ _ _ _ (pv 5)) (@z00 _ _ _ _ _ _ (@z02 _ _ _ _ (pv 6)) (@z0j _ _) (by rfl)) (by rfl)) (by rfl)) (by rfl)) rfl (by decide) (by rfl) (by rfl)) rfl (Or.inl rfl))
    refine (@z05 _ _ _ _ _ _ ?_ ?_)
    ·exact (@z0t _ _ _ _ _ _ ([]) (5) _ hnp sc_first_far.nd rfl (Or.inl rfl) (@z1q _ _ _ _ _ _ _ _ _ _ z2f z2g (pv 5) (@z09 _ _ _ _ (@z0s _ _ _ _ _ _ _ _ _ z0n z0I (pv 0) (@z09 _ _ _ _ (@z06 _ _ _ _ _)) (fun _ _=>rfl)))) rfl (Or.inl rfl))
    refine (@z0c _ _ _ _ ?_)
    exact (@z0t _ _ _ _ _ _ ([]) (6) _ hnp sc_first_far.nd rfl (Or.inl rfl) (@z1q _ _ _ _ _ _ _ _ _ _ z2f z2g (pv 6) (@z09 _ _ _ _ (@z0s _ _ _ _ _ _ _ _ _ z0n z0I (pv 0) (@z09 _ _ _ _ (@z06 _ _ _ _ _)) (fun _ _=>rfl)))) rfl (Or.inl rfl))
  refine (@z0c _ _ _ _ ?_)
  refine (@z0G _ _ _ _ _ ?_)
  exact (@zdC _ _ _ _ _ _ _ _ hq (pv 4) (@z02 _ _ _ _ (pv 1)) (by rfl) (by rfl) (by rfl) (by rfl))) fun ss y h=>z2s h
def z3i:DS:=(dSeq (dFor (z1e (eVar 2)) (gNm [] 3) (dAsg (eOpF z1h 0 (bVar 1)) (gNm [] 0))) (dRet (eVar 0)))
def z0Z:DF:=gOf [] 4 z3i
theorem z2V:z1K z0Z:=z0u
theorem sc_grown_size:FnScope ["size","factor","often","growing"] ["size","factor","often"] (z04 z31):=⟨rfl,rfl,rfl,by decide +kernel,rfl,by decide +kernel,by decide +kernel⟩
theorem z6s {K:W0} (F:Fun K "grown_size" "grown_size" z31 f fd) (hm:mg "grown_size" = some (.ref f)) (hb:Binds K fd ["size","factor","often"] []) (T:Txt ce K mg):KFn P w K mg base 1 "grown_size" 3 z0Z :=
 z1n (np:=[]) (fb:=z3i) F hm hb sc_grown_size (fun c cdv A outer s H E hr hnp=>by
  have hq:=z1y hr
  refine (@z05 _ _ _ _ _ _ ?_ ?_)
  ·refine (@z24 _ _ _ _ _ _ _ _ _ PassesOwn.never rfl ?_ ?_ ?_ (by intro _; rfl))
   ·exact (@z1S _ _ _ _ _ _ _ rfl T.z_range (@z02 _ _ _ _ (pv 2)) (by rfl))
   ·exact (@z0y _ _ _ ([]) (3) _ hnp sc_grown_size.nd rfl (Or.inl rfl) (Or.inl rfl))
   ·refine (@z0c _ _ _ _ ?_)
    exact (@z0t _ _ _ _ _ _ ([]) (0) _ hnp sc_grown_size.nd rfl (Or.inl rfl) (@z1q _ _ _ _ _ _ _ _ _ _ z2f z2g (pv 0) (@z0e _ _ _ _ (pv 1))) rfl (Or.inl rfl))
  refine (@z0c _ _ _ _ ?_)
  refine (@z0G _ _ _ _ _ ?_)
  exact (@z02 _ _ _ _ (pv 0))) fun ss y h=>z0O h
def z2F:DS:=(dSeq (dIf (dNot (dTr (z08 z0w [.val (eVar 2),.val (eD (.int 0)),.val (eOp pSub (z08 z0Z [.val (eD (.int 1)),.val (eOpF pIx 0 (bOf (eD (.int 0)))),.val (eVar 1)]) (bOf (eD (.int 1))))]))) (z3y [78,111,80,108,97,99,101]) z1f) (dIf (dNot (dTr (z08 z0w [.val (eVar 3),.val (eD (.int 0)),.val (eOp pSub (z08 z0Z [.val (eD (.int 1)),.val (eOpF pIx 0 (bOf (eD (.int 1)))),.val (eVar 1)]) (bOf (eD (.int 1))))]))) (z3y [78,111,80,108,97,99,101]) z1f))
def z0U:DX:=gOfX [] 4 z2F
theorem z43:z2X z0U:=z1G
theorem z50:FnScope ["rule","growings","row","column"] ["rule","growings","row","column"] (z04 z2w):=⟨rfl,rfl,rfl,by decide +kernel,rfl,by decide +kernel,by decide +kernel⟩
theorem z5e {K:W0} (F:Fun K "refuse_place" "refuse_place" z2w f fd) (hm:mg "refuse_place" = some (.ref f)) (hb:Binds K fd ["rule","growings","row","column"] []) (T:Txt ce K mg) (k_whole_within:KFn P w K mg base 2 "whole_within" 3 z0w) (k_grown_size:KFn P w K mg base 1 "grown_size" 3 z0Z):KFnX P w K mg base 3 "refuse_place" 4 z0U :=
 z3H (np:=[]) (fb:=z2F) F hm hb z50 (fun c cdv A outer s H E hr hnp hxo hxr=>by
  have hq:=z1y hr
  refine (@z05 _ _ _ _ _ _ ?_ ?_)
  ·refine (@z2Y _ _ _ _ _ _ _ _ _ ?_ ?_ ?_)
   ·exact (@z2q _ _ _ _ _ (@z2p _ _ _ _ (@z0k _ _ _ _ _ (2) _ _ _ _ _ k_whole_within z1u (hr.mono (by decide)) rfl (@z00 _ _ _ _ _ _ (@z02 _ _ _ _ (pv 2)) (@z00 _ _ _ _ _ _ (@z06 _ _ _ _ _) (@z00 _ _ _ _ _ _ (@z1x _ _ _ _ _ _ _ _ _ _ z8N z8O (@z0k _ _ _ _ _ (1) _ _ _ _ _ k_grown_size z2V (hr.mono (by decide)) rfl (@z00 _ _ _ _ _ _ (@z06 _ _ _ _ _) (@z00 _ _ _ _ _ _ (@z0s _ _ _ _ _ _ _ _ _ z0n z0I (pv 0) (@z09 _ _ _ _ (@z06 _ _ _ _ _)) (fun _ _=>rfl)) (@z00 _ _ _ _ _ _ (@z02 _ _ _ _ (pv 1)) (@z0j _ _) (by rfl)) (by rfl)) (by rfl)) rfl (by decide) (by rfl) (by rfl)) (@z09 _ _ _ _ (@z06 _ _ _ _ _))) (@z0j _ _) (by rfl)) (by rfl)) (by rfl)) rfl (by decide) (by rfl) (by rfl)) (by intro _; rfl)))
   ·refine (@z0c _ _ _ _ ?_)
    exact (@z6e _ _ _ _ _ _ _ [78,111,80,108,97,99,101] T.q_b rfl rfl T.c_b hxr (by decide +kernel) (by decide) (by rfl))
   ·exact z1A
  refine (@z0c _ _ _ _ ?_)
  refine (@z2Y _ _ _ _ _ _ _ _ _ ?_ ?_ ?_)
  ·exact (@z2q _ _ _ _ _ (@z2p _ _ _ _ (@z0k _ _ _ _ _ (2) _ _ _ _ _ k_whole_within z1u (hr.mono (by decide)) rfl (@z00 _ _ _ _ _ _ (@z02 _ _ _ _ (pv 3)) (@z00 _ _ _ _ _ _ (@z06 _ _ _ _ _) (@z00 _ _ _ _ _ _ (@z1x _ _ _ _ _ _ _ _ _ _ z8N z8O (@z0k _ _ _ _ _ (1) _ _ _ _ _ k_grown_size z2V (hr.mono (by decide)) rfl (@z00 _ _ _ _ _ _ (@z06 _ _ _ _ _) (@z00 _ _ _ _ _ _ (@z0s _ _ _ _ _ _ _ _ _ z0n z0I (pv 0) (@z09 _ _ _ _ (@z06 _ _ _ _ _)) (fun _ _=>rfl)) (@z00 _ _ _ _ _ _ (@z02 _ _ _ _ (pv 1)) (@z0j _ _) (by rfl)) (by rfl)) (by rfl)) rfl (by decide) (by rfl) (by rfl)) (@z09 _ _ _ _ (@z06 _ _ _ _ _))) (@z0j _ _) (by rfl)) (by rfl)) (by rfl)) rfl (by decide) (by rfl) (by rfl)) (by intro _; rfl)))
  ·refine (@z0c _ _ _ _ ?_)
   exact (@z6e _ _ _ _ _ _ _ [78,111,80,108,97,99,101] T.q_b rfl rfl T.c_b hxr (by decide +kernel) (by decide) (by rfl))
  ·exact z1A) fun ss y h=>z2s h
abbrev B18_:DS:=dSeq (z0F 7 (eTup (z0l (eOpF pMod 2 (bVar 4)) (z0l (eOpF pMod 3 (bVar 5)) aNil)))) (dSeq (dAsg (eOpF pDiv 2 (bVar 4)) (gNm [] 2)) (dAsg (eOpF pDiv 3 (bVar 5)) (gNm [] 3)))
abbrev B8_:DS:=dSeq (dAsg (eVar 0) (gTp 3 (z0q (gNm [] 4) (z0q (gNm [] 5) (z0q (gNm [] 6) z1F))))) (dSeq (dAsg (eLst aNil) (gNm [] 7)) (dSeq (dFor (z1e (eVar 1)) (gNm [] 8) (B18_)) (dRet (eC1 z82 (bVar 7)))))
def z3j:DS:=(dSeq (z3v (z0P z0g [.val (eVar 1)])) (dSeq (z3v (z0P z0U [.val (eVar 0),.val (eVar 1),.val (eVar 2),.val (eVar 3)])) (B8_)))
def z1a:DX:=gOfX [] 9 z3j
theorem z4H:z2X z1a:=z1G
theorem sc_digits_far:FnScope ["rule","growings","row","column","high","wide","blocks","digits","growing"] ["rule","growings","row","column"] (z04 z32):=⟨rfl,rfl,rfl,by decide +kernel,rfl,by decide +kernel,by decide +kernel⟩
theorem z6t {K:W0} (F:Fun K "digits_far" "digits_far" z32 f fd) (hm:mg "digits_far" = some (.ref f)) (hb:Binds K fd ["rule","growings","row","column"] []) (T:Txt ce K mg) (k_refuse_growings:KFnX P w K mg base 3 "refuse_growings" 1 z0g) (k_refuse_place:KFnX P w K mg base 3 "refuse_place" 4 z0U):KFnX P w K mg base 4 "digits_far" 4 z1a :=
 z3H (np:=[]) (fb:=z3j) F hm hb sc_digits_far (fun c cdv A outer s H E hr hnp hxo hxr=>by
  have hq:=z1y hr
  refine (@z05 _ _ _ _ _ _ ?_ ?_)
  ·exact (@z3n _ _ _ _ _ (@z27 _ _ _ _ _ (3) _ _ _ _ _ k_refuse_growings z1U (hr.mono (by decide)) rfl hxo rfl (@z00 _ _ _ _ _ _ (@z02 _ _ _ _ (pv 1)) (@z0j _ _) (by rfl)) rfl (by decide) (by rfl) (by rfl)) (by rfl))
  refine (@z05 _ _ _ _ _ _ ?_ ?_)
  ·exact (@z3n _ _ _ _ _ (@z27 _ _ _ _ _ (3) _ _ _ _ _ k_refuse_place z43 (hr.mono (by decide)) rfl hxo rfl (@z00 _ _ _ _ _ _ (@z02 _ _ _ _ (pv 0)) (@z00 _ _ _ _ _ _ (@z02 _ _ _ _ (pv 1)) (@z00 _ _ _ _ _ _ (@z02 _ _ _ _ (pv 2)) (@z00 _ _ _ _ _ _ (@z02 _ _ _ _ (pv 3)) (@z0j _ _) (by rfl)) (by rfl)) (by rfl)) (by rfl)) rfl (by decide) (by rfl) (by rfl)) (by rfl))
  refine (@z05 _ _ _ _ _ _ ?_ ?_)
  ·refine (@z8A _ _ _ _ _ _ _ ?_ ?_ (by rfl) (by rfl) (by rfl))
   ·exact (@z02 _ _ _ _ (pv 0))
   ·exact (@z3N _ _ _ _ _ _ _ rfl (@z0L _ _ _ _ _ _ (@z0y _ _ _ ([]) (4) _ hnp sc_digits_far.nd rfl (Or.inl rfl) (Or.inl rfl)) (@z0L _ _ _ _ _ _ (@z0y _ _ _ ([]) (5) _ hnp sc_digits_far.nd rfl (Or.inl rfl) (Or.inl rfl)) (@z0L _ _ _ _ _ _ (@z0y _ _ _ ([]) (6) _ hnp sc_digits_far.nd rfl (Or.inl rfl) (Or.inl rfl)) (@z2L _ _) (by rfl)) (by rfl)) (by rfl)) (by rfl) (by rfl))
  refine (@z05 _ _ _ _ _ _ ?_ ?_)
  ·exact (@z0t _ _ _ _ _ _ ([]) (7) _ hnp sc_digits_far.nd rfl (Or.inl rfl) (@z1r _ _ _ _ _ (@z0W _ _) (by decide)) rfl (Or.inl rfl))
  refine (@z05 _ _ _ _ _ _ ?_ ?_)
  ·refine SS.nox ?_
   refine (@z24 _ _ _ _ _ _ _ _ _ PassesOwn.never rfl ?_ ?_ ?_ (by intro _; rfl))
   ·exact (@z1S _ _ _ _ _ _ _ rfl T.z_range (@z02 _ _ _ _ (pv 1)) (by rfl))
   ·exact (@z0y _ _ _ ([]) (8) _ hnp sc_digits_far.nd rfl (Or.inl rfl) (Or.inl rfl))
   ·refine (@z05 _ _ _ _ _ _ ?_ ?_)
    ·exact (@z1l _ _ _ _ _ _ _ _ _ (pv 7) (@z3w _ _ _ _ _ _ (@z07 _ _ _ _ _ _ (@z1q _ _ _ _ _ _ _ _ _ _ z5a z5j (pv 2) (@z0e _ _ _ _ (pv 4))) (@z07 _ _ _ _ _ _ (@z1q _ _ _ _ _ _ _ _ _ _ z5a z5j (pv 3) (@z0e _ _ _ _ (pv 5))) (@z0W _ _) (by rfl)) (by rfl)) (by decide)) (by rfl) (by rfl) (by rfl) (by rfl) (by rfl))
    refine (@z05 _ _ _ _ _ _ ?_ ?_)
    ·exact (@z0t _ _ _ _ _ _ ([]) (2) _ hnp sc_digits_far.nd rfl (Or.inl rfl) (@z1q _ _ _ _ _ _ _ _ _ _ z5b z7f (pv 2) (@z0e _ _ _ _ (pv 4))) rfl (Or.inl rfl))
    refine (@z0c _ _ _ _ ?_)
    exact (@z0t _ _ _ _ _ _ ([]) (3) _ hnp sc_digits_far.nd rfl (Or.inl rfl) (@z1q _ _ _ _ _ _ _ _ _ _ z5b z7f (pv 3) (@z0e _ _ _ _ (pv 5))) rfl (Or.inl rfl))
  refine (@z0c _ _ _ _ ?_)
  refine (@z0G _ _ _ _ _ ?_)
  exact (@zdy _ _ _ _ _ _ _ (@z0e _ _ _ _ (pv 7)) (@zaL _ _ _ _))) fun ss y h=>z2s h
def z4t:DS:=(dSeq (z3v (z0P z0h [.val (eVar 0),.val (eVar 1)])) (dSeq (dAsg (eC1 z2C (bOf (eOpF pIx 0 (bOf (eD (.int 2)))))) (gNm [] 5)) (dSeq (dAsg (eLst (z0l (eVar 1) aNil)) (gNm [] 6)) (dSeq (dFor (iSq (z0P z1a [.val (eVar 0),.val (eVar 2),.val (eVar 3),.val (eVar 4)])) (gTp 2 (z0q (gNm [] 7) (z0q (gNm [] 8) z1F))) (z0F 6 (eOp pIx (eOp pIx (eOpF pIxX 5 (bOf (eOpF pIx 6 (bOf (eC1 pNeg (bOf (eD (.int 1)))))))) (bVar 7)) (bVar 8)))) (z5N [] 6)))))
def z1M:DX:=gOfX [] 9 z4t
theorem z5I:z2X z1M:=z1G
theorem sc_line_far:FnScope ["rule","tile","growings","row","column","block_of","line","i","j"] ["rule","tile","growings","row","column"] (z04 z4d):=⟨rfl,rfl,rfl,by decide +kernel,rfl,by decide +kernel,by decide +kernel⟩
theorem z87 {K:W0} (F:Fun K "line_far" "line_far" z4d f fd) (hm:mg "line_far" = some (.ref f)) (hb:Binds K fd ["rule","tile","growings","row","column"] []) (T:Txt ce K mg) (k_refuse_no_tile:KFnX P w K mg base 3 "refuse_no_tile" 2 z0h) (k_digits_far:KFnX P w K mg base 4 "digits_far" 4 z1a):KFnX P w K mg base 5 "line_far" 5 z1M :=
 z3H (np:=[]) (fb:=z4t) F hm hb sc_line_far (fun c cdv A outer s H E hr hnp hxo hxr=>by
  have hq:=z1y hr
  refine (@z05 _ _ _ _ _ _ ?_ ?_)
  ·exact (@z3n _ _ _ _ _ (@z27 _ _ _ _ _ (3) _ _ _ _ _ k_refuse_no_tile z1d (hr.mono (by decide)) rfl hxo rfl (@z00 _ _ _ _ _ _ (@z02 _ _ _ _ (pv 0)) (@z00 _ _ _ _ _ _ (@z02 _ _ _ _ (pv 1)) (@z0j _ _) (by rfl)) (by rfl)) rfl (by decide) (by rfl) (by rfl)) (by rfl))
  refine (@z05 _ _ _ _ _ _ ?_ ?_)
  ·exact (@z0t _ _ _ _ _ _ ([]) (5) _ hnp sc_line_far.nd rfl (Or.inl rfl) (@z4W _ _ _ _ _ _ rfl rfl T.z_dict (@z09 _ _ _ _ (@z0s _ _ _ _ _ _ _ _ _ z0n z0I (pv 0) (@z09 _ _ _ _ (@z06 _ _ _ _ _)) (fun _ _=>rfl))) (by rfl)) rfl (Or.inl rfl))
  refine (@z05 _ _ _ _ _ _ ?_ ?_)
  ·exact (@z0t _ _ _ _ _ _ ([]) (6) _ hnp sc_line_far.nd rfl (Or.inl rfl) (@z1r _ _ _ _ _ (@z07 _ _ _ _ _ _ (@z02 _ _ _ _ (pv 1)) (@z0W _ _) (by rfl)) (by decide)) rfl (Or.inl rfl))
  refine (@z05 _ _ _ _ _ _ ?_ ?_)
  ·refine (@zdr _ _ _ _ _ _ _ _ _ rfl ?_ ?_ ?_ (by intro _; rfl))
   ·exact (@z6g _ _ _ _ _ (@z27 _ _ _ _ _ (4) _ _ _ _ _ k_digits_far z4H (hr.mono (by decide)) rfl hxo rfl (@z00 _ _ _ _ _ _ (@z02 _ _ _ _ (pv 0)) (@z00 _ _ _ _ _ _ (@z02 _ _ _ _ (pv 2)) (@z00 _ _ _ _ _ _ (@z02 _ _ _ _ (pv 3)) (@z00 _ _ _ _ _ _ (@z02 _ _ _ _ (pv 4)) (@z0j _ _) (by rfl)) (by rfl)) (by rfl)) (by rfl)) rfl (by decide) (by rfl) (by rfl)))
   ·exact (@z3N _ _ _ _ _ _ _ rfl (@z0L _ _ _ _ _ _ (@z0y _ _ _ ([]) (7) _ hnp sc_line_far.nd rfl (Or.inl rfl) (Or.inl rfl)) (@z0L _ _ _ _ _ _ (@z0y _ _ _ ([]) (8) _ hnp sc_line_far.nd rfl (Or.inl rfl) (Or.inl rfl)) (@z2L _ _) (by rfl)) (by rfl)) (by rfl) (by rfl))
   ·refine (@z0c _ _ _ _ ?_)
    exact (@z1l _ _ _ _ _ _ _ _ _ (pv 6) (@z6X _ _ _ _ _ _ _ _ _ z0n z0I (@z6X _ _ _ _ _ _ _ _ _ z0n z0I (@z0s _ _ _ _ _ _ _ _ _ (ix_X hq) zaF (pv 5) (@z09 _ _ _ _ (@z0s _ _ _ _ _ _ _ _ _ z0n z0I (pv 6) (@z09 _ _ _ _ (@z4v _ _ _ _ _ (@z09 _ _ _ _ (@z06 _ _ _ _ _)))) (fun _ _=>rfl))) (fun _ _=>rfl)) (@z0e _ _ _ _ (pv 7)) (fun _ _=>rfl)) (@z0e _ _ _ _ (pv 8)) (fun _ _=>rfl)) (by rfl) (by rfl) (by rfl) (by rfl) (by rfl))
  refine (@z0c _ _ _ _ ?_)
  exact (@z7S _ _ _ _ _ _ hnp (pv 6))) fun ss y h=>z2s h
def z4s:DS:=(dRet (eOp pIx (z0P z1M [.val (eVar 0),.val (eVar 1),.val (eVar 2),.val (eVar 3),.val (eVar 4)]) (bOf (eC1 pNeg (bOf (eD (.int 1)))))))
def z1L:DX:=gOfX [] 5 z4s
theorem z5H:z2X z1L:=z1G
theorem z7V:FnScope ["rule","tile","growings","row","column"] ["rule","tile","growings","row","column"] (z04 z4c):=⟨rfl,rfl,rfl,by decide +kernel,rfl,by decide +kernel,by decide +kernel⟩
theorem z86 {K:W0} (F:Fun K "tile_far" "tile_far" z4c f fd) (hm:mg "tile_far" = some (.ref f)) (hb:Binds K fd ["rule","tile","growings","row","column"] []) (T:Txt ce K mg) (k_line_far:KFnX P w K mg base 5 "line_far" 5 z1M):KFnX P w K mg base 6 "tile_far" 5 z1L :=
 z3H (np:=[]) (fb:=z4s) F hm hb z7V (fun c cdv A outer s H E hr hnp hxo hxr=>by
  have hq:=z1y hr
  refine (@z0c _ _ _ _ ?_)
  refine (@z0G _ _ _ _ _ ?_)
  exact (@z6X _ _ _ _ _ _ _ _ _ z0n z0I (@z27 _ _ _ _ _ (5) _ _ _ _ _ k_line_far z5I (hr.mono (by decide)) rfl hxo rfl (@z00 _ _ _ _ _ _ (@z02 _ _ _ _ (pv 0)) (@z00 _ _ _ _ _ _ (@z02 _ _ _ _ (pv 1)) (@z00 _ _ _ _ _ _ (@z02 _ _ _ _ (pv 2)) (@z00 _ _ _ _ _ _ (@z02 _ _ _ _ (pv 3)) (@z00 _ _ _ _ _ _ (@z02 _ _ _ _ (pv 4)) (@z0j _ _) (by rfl)) (by rfl)) (by rfl)) (by rfl)) (by rfl)) rfl (by decide) (by rfl) (by rfl)) (@z09 _ _ _ _ (@z4v _ _ _ _ _ (@z09 _ _ _ _ (@z06 _ _ _ _ _)))) (fun _ _=>rfl))) fun ss y h=>z2s h
def z3k:DS:=(dRet (eAnd (eIsi "int" (bVar 0)) (eNot (eIsi "bool" (bVar 0)))))
def z10:DF:=gOf [] 1 z3k
theorem z2W:z1K z10:=z0u
theorem z6k:FnScope ["found"] ["found"] (z04 z33):=⟨rfl,rfl,rfl,by decide +kernel,rfl,by decide +kernel,by decide +kernel⟩
theorem z6u {K:W0} (F:Fun K "_law_whole" "_law_whole" z33 f fd) (hm:mg "_law_whole" = some (.ref f)) (hb:Binds K fd ["found"] []) (T:Txt ce K mg):KFn P w K mg base 1 "_law_whole" 1 z10 :=
 z1n (np:=[]) (fb:=z3k) F hm hb z6k (fun c cdv A outer s H E hr hnp=>by
  have hq:=z1y hr
  refine (@z0c _ _ _ _ ?_)
  refine (@z0G _ _ _ _ _ ?_)
  exact (@z70 _ _ _ _ _ _ _ _ (@z5W _ _ _ _ _ _ _ _ _ T.ty_int rfl T.z_isinstance rfl T.z_int boot_int (@z0e _ _ _ _ (pv 0)) (by decide) (by decide) (by rfl) (by rfl)) (@z8B _ _ _ _ _ _ (@zcT _ _ _ _ _ (@z5W _ _ _ _ _ _ _ _ _ T.ty_bool rfl T.z_isinstance rfl T.z_bool boot_bool (@z0e _ _ _ _ (pv 0)) (by decide) (by decide) (by rfl) (by rfl)))))) fun ss y h=>z0O h
def z2H:DS:=(dSeq (dIf (dOr (dNot (dTr (eIsi "tuple" (bVar 0)))) (dOr (dTr (eOp pNe (eC1 pLen (bVar 0)) (bOf (eD (.int 2))))) (dOr (dNot (dTr (z08 z10 [.val (eOpF pIx 0 (bOf (eD (.int 0))))]))) (dNot (dTr (z08 z10 [.val (eOpF pIx 0 (bOf (eD (.int 1))))])))))) (dRet (eD (.bl false))) z1f) (dRet (eOpF pEq 0 (bVar 1))))
def z0D:DF:=gOf [] 2 z2H
theorem z2r:z1K z0D:=z0u
theorem z51:FnScope ["found","due"] ["found","due"] (z04 z2z):=⟨rfl,rfl,rfl,by decide +kernel,rfl,by decide +kernel,by decide +kernel⟩
theorem z5h {K:W0} (F:Fun K "_law_pair_is" "_law_pair_is" z2z f fd) (hm:mg "_law_pair_is" = some (.ref f)) (hb:Binds K fd ["found","due"] []) (T:Txt ce K mg) (k__law_whole:KFn P w K mg base 1 "_law_whole" 1 z10):KFn P w K mg base 2 "_law_pair_is" 2 z0D :=
 z1n (np:=[]) (fb:=z2H) F hm hb z51 (fun c cdv A outer s H E hr hnp=>by
  have hq:=z1y hr
  refine (@z05 _ _ _ _ _ _ ?_ ?_)
  ·refine (@z2Y _ _ _ _ _ _ _ _ _ ?_ ?_ ?_)
   ·exact (@z4V _ _ _ _ (@z5D _ _ _ _ _ _ _ _ (@z2q _ _ _ _ _ (@z2p _ _ _ _ (@z5W _ _ _ _ _ _ _ _ _ T.ty_tuple rfl T.z_isinstance rfl T.z_tuple boot_tuple (@z0e _ _ _ _ (pv 0)) (by decide) (by decide) (by rfl) (by rfl)) (by intro _; rfl))) (@z5D _ _ _ _ _ _ _ _ (@z1z _ _ _ _ _ _ _ _ _ _ (z7a hq) zaE (@z2Z _ _ _ _ _ _ rfl T.z_len (@z0e _ _ _ _ (pv 0)) (by rfl)) (@z09 _ _ _ _ (@z06 _ _ _ _ _)) (z1s _)) (@z5D _ _ _ _ _ _ _ _ (@z2q _ _ _ _ _ (@z2p _ _ _ _ (@z0k _ _ _ _ _ (1) _ _ _ _ _ k__law_whole z2W (hr.mono (by decide)) rfl (@z00 _ _ _ _ _ _ (@z0s _ _ _ _ _ _ _ _ _ z0n z0I (pv 0) (@z09 _ _ _ _ (@z06 _ _ _ _ _)) (fun _ _=>rfl)) (@z0j _ _) (by rfl)) rfl (by decide) (by rfl) (by rfl)) (by intro _; rfl))) (@z4u _ _ _ _ _ (@z2q _ _ _ _ _ (@z2p _ _ _ _ (@z0k _ _ _ _ _ (1) _ _ _ _ _ k__law_whole z2W (hr.mono (by decide)) rfl (@z00 _ _ _ _ _ _ (@z0s _ _ _ _ _ _ _ _ _ z0n z0I (pv 0) (@z09 _ _ _ _ (@z06 _ _ _ _ _)) (fun _ _=>rfl)) (@z0j _ _) (by rfl)) rfl (by decide) (by rfl) (by rfl)) (by intro _; rfl))))))))
   ·refine (@z0c _ _ _ _ ?_)
    refine (@z0G _ _ _ _ _ ?_)
    exact (@z4Y _ _ _ _ _)
   ·exact z1A
  refine (@z0c _ _ _ _ ?_)
  refine (@z0G _ _ _ _ _ ?_)
  exact (@z6i _ _ _ _ _ _ _ _ _ _ (z5c hq) z88 (pv 0) (@z0e _ _ _ _ (pv 1)) (z1s _))) fun ss y h=>z0O h
def z22:DS:=(dSeq (dAsg (z26 z0i [.val (eVar 0),.val (eVar 1),.val (eVar 2),.val (eVar 3)]) (gNm [] 4)) (dSeq (dIf (dTr (eOp (pIsN false) (eVar 4) (bOf (eD .non)))) (dRet (eOp (pIsN false) (z26 z0i [.val (eVar 0),.val (eVar 1),.val (eVar 2),.val (eVar 3)]) (bOf (eD .non)))) z1f) (dSeq (dIf (dOr (dNot (dTr (z08 z0D [.val (eVar 4),.val (eVar 4)]))) (dTr (eOp pNe (z26 z1L [.val (eVar 0),.val (eVar 1),.val (eVar 2),.val (eOpF pIx 4 (bOf (eD (.int 0)))),.val (eOpF pIx 4 (bOf (eD (.int 1))))]) (bVar 3)))) (dRet (eD (.bl false))) z1f) (dRet (eOp pEq (z26 z0i [.val (eVar 0),.val (eVar 1),.val (eVar 2),.val (eVar 3)]) (bVar 4))))))
def z0K:DF:=gOf [] 5 z22
theorem z3t:z1K z0K:=z0u
theorem sc__law_far_right:FnScope ["rule","tile","growings","other","found"] ["rule","tile","growings","other"] (z04 z20):=⟨rfl,rfl,rfl,by decide +kernel,rfl,by decide +kernel,by decide +kernel⟩
theorem z4i {K:W0} (F:Fun K "_law_far_right" "_law_far_right" z20 f fd) (hm:mg "_law_far_right" = some (.ref f)) (hb:Binds K fd ["rule","tile","growings","other"] []) (T:Txt ce K mg) (k_first_far:KFnX P w K mg base 4 "first_far" 4 z0i) (k_tile_far:KFnX P w K mg base 6 "tile_far" 5 z1L) (k__law_pair_is:KFn P w K mg base 2 "_law_pair_is" 2 z0D):KFn P w K mg base 7 "_law_far_right" 4 z0K :=
 z1n (np:=[]) (fb:=z22) F hm hb sc__law_far_right (fun c cdv A outer s H E hr hnp=>by
  have hq:=z1y hr
  refine (@z05 _ _ _ _ _ _ ?_ ?_)
  ·exact (@z0t _ _ _ _ _ _ ([]) (4) _ hnp sc__law_far_right.nd rfl (Or.inl rfl) (@z3Q _ _ _ _ _ (4) _ _ _ _ _ k_first_far z18 (hr.mono (by decide)) rfl rfl (@z00 _ _ _ _ _ _ (@z02 _ _ _ _ (pv 0)) (@z00 _ _ _ _ _ _ (@z02 _ _ _ _ (pv 1)) (@z00 _ _ _ _ _ _ (@z02 _ _ _ _ (pv 2)) (@z00 _ _ _ _ _ _ (@z02 _ _ _ _ (pv 3)) (@z0j _ _) (by rfl)) (by rfl)) (by rfl)) (by rfl)) rfl (by decide) (by rfl) (by rfl)) rfl (Or.inl rfl))
  refine (@z05 _ _ _ _ _ _ ?_ ?_)
  ·refine (@z2Y _ _ _ _ _ _ _ _ _ ?_ ?_ ?_)
   ·exact (@z1z _ _ _ _ _ _ _ _ _ _ zaA zaG (@z02 _ _ _ _ (pv 4)) (@z09 _ _ _ _ (@z3O _ _ _ _)) rfl)
   ·refine (@z0c _ _ _ _ ?_)
    refine (@z0G _ _ _ _ _ ?_)
    exact (@z8D _ _ _ _ _ _ _ _ _ _ zaA zaG (@z3Q _ _ _ _ _ (4) _ _ _ _ _ k_first_far z18 (hr.mono (by decide)) rfl rfl (@z00 _ _ _ _ _ _ (@z02 _ _ _ _ (pv 0)) (@z00 _ _ _ _ _ _ (@z02 _ _ _ _ (pv 1)) (@z00 _ _ _ _ _ _ (@z02 _ _ _ _ (pv 2)) (@z00 _ _ _ _ _ _ (@z02 _ _ _ _ (pv 3)) (@z0j _ _) (by rfl)) (by rfl)) (by rfl)) (by rfl)) rfl (by decide) (by rfl) (by rfl)) (@z09 _ _ _ _ (@z3O _ _ _ _)) rfl)
   ·exact z1A
  refine (@z05 _ _ _ _ _ _ ?_ ?_)
  ·refine (@z2Y _ _ _ _ _ _ _ _ _ ?_ ?_ ?_)
   ·exact (@z4V _ _ _ _ (@z5D _ _ _ _ _ _ _ _ (@z2q _ _ _ _ _ (@z2p _ _ _ _ (@z0k _ _ _ _ _ (2) _ _ _ _ _ k__law_pair_is z2r (hr.mono (by decide)) rfl (@z00 _ _ _ _ _ _ (@z02 _ _ _ _ (pv 4)) (@z00 _ _ _ _ _ _ (@z02 _ _ _ _ (pv 4)) (@z0j _ _) (by rfl)) (by rfl)) rfl (by decide) (by rfl) (by rfl)) (by intro _; rfl))) (@z4u _ _ _ _ _ (@z1z _ _ _ _ _ _ _ _ _ _ (z7a hq) zaE (@z3Q _ _ _ _ _ (6) _ _ _ _ _ k_tile_far z5H (hr.mono (by decide)) rfl rfl (@z00 _ _ _ _ _ _ (@z02 _ _ _ _ (pv 0)) (@z00 _ _ _ _ _ _ (@z02 _ _ _ _ (pv 1)) (@z00 _ _ _ _ _ _ (@z02 _ _ _ _ (pv 2)) (@z00 _ _ _ _ _ _ (@z0s _ _ _ _ _ _ _ _ _ z0n z0I (pv 4) (@z09 _ _ _ _ (@z06 _ _ _ _ _)) (fun _ _=>rfl)) (@z00 _ _ _ _ _ _ (@z0s _ _ _ _ _ _ _ _ _ z0n z0I (pv 4) (@z09 _ _ _ _ (@z06 _ _ _ _ _)) (fun _ _=>rfl)) (@z0j _ _) (by rfl)) (by rfl)) (by rfl)) (by rfl)) (by rfl)) rfl (by decide) (by rfl) (by rfl)) (@z0e _ _ _ _ (pv 3)) (z1s _)))))
   ·refine (@z0c _ _ _ _ ?_)
    refine (@z0G _ _ _ _ _ ?_)
    exact (@z4Y _ _ _ _ _)
   ·exact z1A
  refine (@z0c _ _ _ _ ?_)
  refine (@z0G _ _ _ _ _ ?_)
  exact (@z8D _ _ _ _ _ _ _ _ _ _ (z5c hq) z88 (@z3Q _ _ _ _ _ (4) _ _ _ _ _ k_first_far z18 (hr.mono (by decide)) rfl rfl (@z00 _ _ _ _ _ _ (@z02 _ _ _ _ (pv 0)) (@z00 _ _ _ _ _ _ (@z02 _ _ _ _ (pv 1)) (@z00 _ _ _ _ _ _ (@z02 _ _ _ _ (pv 2)) (@z00 _ _ _ _ _ _ (@z02 _ _ _ _ (pv 3)) (@z0j _ _) (by rfl)) (by rfl)) (by rfl)) (by rfl)) rfl (by decide) (by rfl) (by rfl)) (@z0e _ _ _ _ (pv 4)) (z1s _))) fun ss y h=>z0O h
abbrev B21_:DS:=dAsg (eOpF pAdd 6 (bOf (eOp pIx (eOpF pIxX 2 (bVar 7)) (bVar 5)))) (gNm [] 6)
abbrev B6_:DS:=dSeq (dAsg (eD (.str [])) (gNm [] 6)) (dSeq (dFor (iSq (eVar 4)) (gNm [] 7) (B21_)) (z0F 3 (eVar 6)))
abbrev B22_:DS:=dFor (z1e (eOpF pIx 0 (bOf (eD (.int 0))))) (gNm [] 5) (B6_)
abbrev B13_:DS:=dSeq (dAsg (eC1 z2C (bOf (eOpF pIx 0 (bOf (eD (.int 2)))))) (gNm [] 2)) (dSeq (dAsg (eLst aNil) (gNm [] 3)) (dSeq (dFor (iSq (eVar 1)) (gNm [] 4) (B22_)) (dRet (eC1 z2J (bVar 3)))))
def z3l:DS:=(B13_)
def z1b:DF:=gOf [] 8 z3l
theorem z4I:z1K z1b:=z0u
theorem sc__law_grown:FnScope ["rule","floor","blocks","found","row","line","signs","tile"] ["rule","floor"] (z04 z34):=⟨rfl,rfl,rfl,by decide +kernel,rfl,by decide +kernel,by decide +kernel⟩
theorem z6v {K:W0} (F:Fun K "_law_grown" "_law_grown" z34 f fd) (hm:mg "_law_grown" = some (.ref f)) (hb:Binds K fd ["rule","floor"] []) (T:Txt ce K mg):KFn P w K mg base 1 "_law_grown" 2 z1b :=
 z1n (np:=[]) (fb:=z3l) F hm hb sc__law_grown (fun c cdv A outer s H E hr hnp=>by
  have hq:=z1y hr
  refine (@z05 _ _ _ _ _ _ ?_ ?_)
  ·exact (@z0t _ _ _ _ _ _ ([]) (2) _ hnp sc__law_grown.nd rfl (Or.inl rfl) (@z4W _ _ _ _ _ _ rfl rfl T.z_dict (@z09 _ _ _ _ (@z0s _ _ _ _ _ _ _ _ _ z0n z0I (pv 0) (@z09 _ _ _ _ (@z06 _ _ _ _ _)) (fun _ _=>rfl))) (by rfl)) rfl (Or.inl rfl))
  refine (@z05 _ _ _ _ _ _ ?_ ?_)
  ·exact (@z0t _ _ _ _ _ _ ([]) (3) _ hnp sc__law_grown.nd rfl (Or.inl rfl) (@z1r _ _ _ _ _ (@z0W _ _) (by decide)) rfl (Or.inl rfl))
  refine (@z05 _ _ _ _ _ _ ?_ ?_)
  ·refine (@z24 _ _ _ _ _ _ _ _ _ PassesOwn.never rfl ?_ ?_ ?_ (by intro _; rfl))
   ·exact (@z6g _ _ _ _ _ (@z02 _ _ _ _ (pv 1)))
   ·exact (@z0y _ _ _ ([]) (4) _ hnp sc__law_grown.nd rfl (Or.inl rfl) (Or.inl rfl))
   ·refine (@z0c _ _ _ _ ?_)
    refine (@z24 _ _ _ _ _ _ _ _ _ PassesOwn.never rfl ?_ ?_ ?_ (by intro _; rfl))
    ·exact (@z1S _ _ _ _ _ _ _ rfl T.z_range (@z0s _ _ _ _ _ _ _ _ _ z0n z0I (pv 0) (@z09 _ _ _ _ (@z06 _ _ _ _ _)) (fun _ _=>rfl)) (by rfl))
    ·exact (@z0y _ _ _ ([]) (5) _ hnp sc__law_grown.nd rfl (Or.inl rfl) (Or.inl rfl))
    ·refine (@z05 _ _ _ _ _ _ ?_ ?_)
     ·exact (@z0t _ _ _ _ _ _ ([]) (6) _ hnp sc__law_grown.nd rfl (Or.inl rfl) (@z2U _ _ _ _ _ [] (by decide +kernel)) rfl (Or.inl rfl))
     refine (@z05 _ _ _ _ _ _ ?_ ?_)
     ·refine (@z24 _ _ _ _ _ _ _ _ _ PassesOwn.never rfl ?_ ?_ ?_ (by intro _; rfl))
      ·exact (@z6g _ _ _ _ _ (@z02 _ _ _ _ (pv 4)))
      ·exact (@z0y _ _ _ ([]) (7) _ hnp sc__law_grown.nd rfl (Or.inl rfl) (Or.inl rfl))
      ·refine (@z0c _ _ _ _ ?_)
       exact (@z0t _ _ _ _ _ _ ([]) (6) _ hnp sc__law_grown.nd rfl (Or.inl rfl) (@z1q _ _ _ _ _ _ _ _ _ _ z15 z1B (pv 6) (@z09 _ _ _ _ (@z6X _ _ _ _ _ _ _ _ _ z0n z0I (@z0s _ _ _ _ _ _ _ _ _ (ix_X hq) zaF (pv 2) (@z0e _ _ _ _ (pv 7)) (fun _ _=>rfl)) (@z0e _ _ _ _ (pv 5)) (fun _ _=>rfl)))) rfl (Or.inl rfl))
     refine (@z0c _ _ _ _ ?_)
     exact (@z1l _ _ _ _ _ _ _ _ _ (pv 3) (@z02 _ _ _ _ (pv 6)) (by rfl) (by rfl) (by rfl) (by rfl) (by rfl))
  refine (@z0c _ _ _ _ ?_)
  refine (@z0G _ _ _ _ _ ?_)
  exact (@z6h _ _ _ _ _ _ rfl T.z_tuple (@z0e _ _ _ _ (pv 3)) (by rfl))) fun ss y h=>z0O h
def z2T:DS:=(dSeq (dAsg (eLst (z0l (eTup (z0l (eVar 1) aNil)) aNil)) (gNm [] 3)) (dSeq (z23 (dAnd (dTr (eOp pLe (eOp z1h (eOp z1h (eOp z1h (eC1 pLen (bOf (eOpF pIx 3 (bOf (eC1 pNeg (bOf (eD (.int 1)))))))) (bOf (eOpF pIx 0 (bOf (eD (.int 0)))))) (bOf (eC1 pLen (bOf (eOp pIx (eOpF pIx 3 (bOf (eC1 pNeg (bOf (eD (.int 1)))))) (bOf (eD (.int 0)))))))) (bOf (eOpF pIx 0 (bOf (eD (.int 1)))))) (bVar 2))) (dTr (eOp pLt (eC1 pLen (bVar 3)) (bOf (eD (.int 8)))))) (z0F 3 (z08 z1b [.val (eVar 0),.val (eOpF pIx 3 (bOf (eC1 pNeg (bOf (eD (.int 1))))))])) 1000000) (z5N [] 3)))
def z13:DF:=gOf [] 4 z2T
theorem z4o:z1K z13:=z0u
theorem sc__law_floors:FnScope ["rule","tile","most","found"] ["rule","tile","most"] (z04 z2N):=⟨rfl,rfl,rfl,by decide +kernel,rfl,by decide +kernel,by decide +kernel⟩
theorem z5F {K:W0} (F:Fun K "_law_floors" "_law_floors" z2N f fd) (hm:mg "_law_floors" = some (.ref f)) (hb:Binds K fd ["rule","tile","most"] []) (T:Txt ce K mg) (k__law_grown:KFn P w K mg base 1 "_law_grown" 2 z1b):KFn P w K mg base 2 "_law_floors" 3 z13 :=
 z1n (np:=[]) (fb:=z2T) F hm hb sc__law_floors (fun c cdv A outer s H E hr hnp=>by
  have hq:=z1y hr
  refine (@z05 _ _ _ _ _ _ ?_ ?_)
  ·exact (@z0t _ _ _ _ _ _ ([]) (3) _ hnp sc__law_floors.nd rfl (Or.inl rfl) (@z1r _ _ _ _ _ (@z07 _ _ _ _ _ _ (@z3w _ _ _ _ _ _ (@z07 _ _ _ _ _ _ (@z02 _ _ _ _ (pv 1)) (@z0W _ _) (by rfl)) (by decide)) (@z0W _ _) (by rfl)) (by decide)) rfl (Or.inl rfl))
  refine (@z05 _ _ _ _ _ _ ?_ ?_)
  ·refine (@zbC _ _ _ _ _ _ _ 1000000 (fun h1 h2=>zbZ PassesOwn.never h1 h2) ?_ ?_)
   ·exact (@z4V _ _ _ _ (@z9P _ _ _ _ _ _ _ _ (@z1z _ _ _ _ _ _ _ _ _ _ zaz z60 (@z1x _ _ _ _ _ _ _ _ _ _ z2f z2g (@z1x _ _ _ _ _ _ _ _ _ _ z2f z2g (@z1x _ _ _ _ _ _ _ _ _ _ z2f z2g (@z2Z _ _ _ _ _ _ rfl T.z_len (@z09 _ _ _ _ (@z0s _ _ _ _ _ _ _ _ _ z0n z0I (pv 3) (@z09 _ _ _ _ (@z4v _ _ _ _ _ (@z09 _ _ _ _ (@z06 _ _ _ _ _)))) (fun _ _=>rfl))) (by rfl)) (@z09 _ _ _ _ (@z0s _ _ _ _ _ _ _ _ _ z0n z0I (pv 0) (@z09 _ _ _ _ (@z06 _ _ _ _ _)) (fun _ _=>rfl)))) (@z09 _ _ _ _ (@z2Z _ _ _ _ _ _ rfl T.z_len (@z09 _ _ _ _ (@z6X _ _ _ _ _ _ _ _ _ z0n z0I (@z0s _ _ _ _ _ _ _ _ _ z0n z0I (pv 3) (@z09 _ _ _ _ (@z4v _ _ _ _ _ (@z09 _ _ _ _ (@z06 _ _ _ _ _)))) (fun _ _=>rfl)) (@z09 _ _ _ _ (@z06 _ _ _ _ _)) (fun _ _=>rfl))) (by rfl)))) (@z09 _ _ _ _ (@z0s _ _ _ _ _ _ _ _ _ z0n z0I (pv 0) (@z09 _ _ _ _ (@z06 _ _ _ _ _)) (fun _ _=>rfl)))) (@z0e _ _ _ _ (pv 2)) (z1s _)) (@z7Q _ _ _ _ _ (@z1z _ _ _ _ _ _ _ _ _ _ zd3 zfE (@z2Z _ _ _ _ _ _ rfl T.z_len (@z0e _ _ _ _ (pv 3)) (by rfl)) (@z09 _ _ _ _ (@z06 _ _ _ _ _)) (z1s _)))))
   ·refine (@z0c _ _ _ _ ?_)
    exact (@z1l _ _ _ _ _ _ _ _ _ (pv 3) (@z0k _ _ _ _ _ (1) _ _ _ _ _ k__law_grown z4I (hr.mono (by decide)) rfl (@z00 _ _ _ _ _ _ (@z02 _ _ _ _ (pv 0)) (@z00 _ _ _ _ _ _ (@z0s _ _ _ _ _ _ _ _ _ z0n z0I (pv 3) (@z09 _ _ _ _ (@z4v _ _ _ _ _ (@z09 _ _ _ _ (@z06 _ _ _ _ _)))) (fun _ _=>rfl)) (@z0j _ _) (by rfl)) (by rfl)) rfl (by decide) (by rfl) (by rfl)) (by rfl) (by rfl) (by rfl) (by rfl) (by rfl))
  refine (@z0c _ _ _ _ ?_)
  exact (@z7S _ _ _ _ _ _ hnp (pv 3))) fun ss y h=>z0O h
abbrev B16_:DS:=dFor (z1e (eC1 pLen (bOf (eOpF pIx 0 (bOf (eD (.int 0))))))) (gNm [] 3) (dIf (dTr (eOp pEq (eOp pIx (eOpF pIx 0 (bVar 2)) (bVar 3)) (bVar 1))) (dRet (eTup (z0l (eVar 2) (z0l (eVar 3) aNil)))) z1f)
abbrev B7_:DS:=dSeq (dFor (z1e (eC1 pLen (bVar 0))) (gNm [] 2) (B16_)) (dRet (eD .non))
def z3m:DS:=(B7_)
def z1p:DF:=gOf [] 4 z3m
theorem z4J:z1K z1p:=z0u
theorem sc__law_first:FnScope ["floor","tile","row","column"] ["floor","tile"] (z04 z35):=⟨rfl,rfl,rfl,by decide +kernel,rfl,by decide +kernel,by decide +kernel⟩
theorem z6w {K:W0} (F:Fun K "_law_first" "_law_first" z35 f fd) (hm:mg "_law_first" = some (.ref f)) (hb:Binds K fd ["floor","tile"] []) (T:Txt ce K mg):KFn P w K mg base 1 "_law_first" 2 z1p :=
 z1n (np:=[]) (fb:=z3m) F hm hb sc__law_first (fun c cdv A outer s H E hr hnp=>by
  have hq:=z1y hr
  refine (@z05 _ _ _ _ _ _ ?_ ?_)
  ·refine (@z24 _ _ _ _ _ _ _ _ _ PassesOwn.never rfl ?_ ?_ ?_ (by intro _; rfl))
   ·exact (@z1S _ _ _ _ _ _ _ rfl T.z_range (@z2Z _ _ _ _ _ _ rfl T.z_len (@z0e _ _ _ _ (pv 0)) (by rfl)) (by rfl))
   ·exact (@z0y _ _ _ ([]) (2) _ hnp sc__law_first.nd rfl (Or.inl rfl) (Or.inl rfl))
   ·refine (@z0c _ _ _ _ ?_)
    refine (@z24 _ _ _ _ _ _ _ _ _ PassesOwn.never rfl ?_ ?_ ?_ (by intro _; rfl))
    ·exact (@z1S _ _ _ _ _ _ _ rfl T.z_range (@z2Z _ _ _ _ _ _ rfl T.z_len (@z09 _ _ _ _ (@z0s _ _ _ _ _ _ _ _ _ z0n z0I (pv 0) (@z09 _ _ _ _ (@z06 _ _ _ _ _)) (fun _ _=>rfl))) (by rfl)) (by rfl))
    ·exact (@z0y _ _ _ ([]) (3) _ hnp sc__law_first.nd rfl (Or.inl rfl) (Or.inl rfl))
    ·refine (@z0c _ _ _ _ ?_)
     refine (@z2Y _ _ _ _ _ _ _ _ _ ?_ ?_ ?_)
     ·exact (@z1z _ _ _ _ _ _ _ _ _ _ (z5c hq) z88 (@z6X _ _ _ _ _ _ _ _ _ z0n z0I (@z0s _ _ _ _ _ _ _ _ _ z0n z0I (pv 0) (@z0e _ _ _ _ (pv 2)) (fun _ _=>rfl)) (@z0e _ _ _ _ (pv 3)) (fun _ _=>rfl)) (@z0e _ _ _ _ (pv 1)) (z1s _))
     ·refine (@z0c _ _ _ _ ?_)
      refine (@z0G _ _ _ _ _ ?_)
      exact (@z3w _ _ _ _ _ _ (@z07 _ _ _ _ _ _ (@z02 _ _ _ _ (pv 2)) (@z07 _ _ _ _ _ _ (@z02 _ _ _ _ (pv 3)) (@z0W _ _) (by rfl)) (by rfl)) (by decide))
     ·exact z1A
  refine (@z0c _ _ _ _ ?_)
  refine (@z0G _ _ _ _ _ ?_)
  exact (@z3O _ _ _ _)) fun ss y h=>z0O h
def z1J:DS:=(dSeq (dFor (z9y (z08 z13 [.val (eVar 0),.val (eVar 1),.val (eD (.int 300))])) (gTp 2 (z0q (gNm [] 3) (z0q (gNm [] 4) z1F))) (dSeq (dAsg (z08 z1p [.val (eVar 4),.val (eVar 2)]) (gNm [] 5)) (dSeq (dAsg (z26 z0i [.val (eVar 0),.val (eVar 1),.val (eVar 3),.val (eVar 2)]) (gNm [] 6)) (dIf (dOr (dAnd (dTr (eOp (pIsN false) (eVar 5) (bOf (eD .non)))) (dTr (eOp (pIsN true) (eVar 6) (bOf (eD .non))))) (dAnd (dTr (eOp (pIsN true) (eVar 5) (bOf (eD .non)))) (dNot (dTr (z08 z0D [.val (eVar 6),.val (eVar 5)]))))) (dRet (eD (.bl false))) z1f)))) (dRet (eD (.bl true))))
def z0A:DF:=gOf [] 7 z1J
theorem z1V:z1K z0A:=z0u
theorem sc__law_near_right:FnScope ["rule","tile","other","growings","floor","due","found"] ["rule","tile","other"] (z04 z1D):=⟨rfl,rfl,rfl,by decide +kernel,rfl,by decide +kernel,by decide +kernel⟩
theorem z3X {K:W0} (F:Fun K "_law_near_right" "_law_near_right" z1D f fd) (hm:mg "_law_near_right" = some (.ref f)) (hb:Binds K fd ["rule","tile","other"] []) (T:Txt ce K mg) (k_first_far:KFnX P w K mg base 4 "first_far" 4 z0i) (k__law_pair_is:KFn P w K mg base 2 "_law_pair_is" 2 z0D) (k__law_floors:KFn P w K mg base 2 "_law_floors" 3 z13) (k__law_first:KFn P w K mg base 1 "_law_first" 2 z1p):KFn P w K mg base 5 "_law_near_right" 3 z0A :=
 z1n (np:=[]) (fb:=z1J) F hm hb sc__law_near_right (fun c cdv A outer s H E hr hnp=>by
  have hq:=z1y hr
  refine (@z05 _ _ _ _ _ _ ?_ ?_)
  ·refine (@z24 _ _ _ _ _ _ _ _ _ PassesOwn.never rfl ?_ ?_ ?_ (by intro _; rfl))
   ·exact (@z9Z _ _ _ _ _ _ _ _ _ rfl T.z_enumerate (@z0k _ _ _ _ _ (2) _ _ _ _ _ k__law_floors z4o (hr.mono (by decide)) rfl (@z00 _ _ _ _ _ _ (@z02 _ _ _ _ (pv 0)) (@z00 _ _ _ _ _ _ (@z02 _ _ _ _ (pv 1)) (@z00 _ _ _ _ _ _ (@z06 _ _ _ _ _) (@z0j _ _) (by rfl)) (by rfl)) (by rfl)) rfl (by decide) (by rfl) (by rfl)) (by rfl))
   ·exact (@z3N _ _ _ _ _ _ _ rfl (@z0L _ _ _ _ _ _ (@z0y _ _ _ ([]) (3) _ hnp sc__law_near_right.nd rfl (Or.inl rfl) (Or.inl rfl)) (@z0L _ _ _ _ _ _ (@z0y _ _ _ ([]) (4) _ hnp sc__law_near_right.nd rfl (Or.inl rfl) (Or.inl rfl)) (@z2L _ _) (by rfl)) (by rfl)) (by rfl) (by rfl))
   ·refine (@z05 _ _ _ _ _ _ ?_ ?_)
    ·exact (@z0t _ _ _ _ _ _ ([]) (5) _ hnp sc__law_near_right.nd rfl (Or.inl rfl) (@z0k _ _ _ _ _ (1) _ _ _ _ _ k__law_first z4J (hr.mono (by decide)) rfl (@z00 _ _ _ _ _ _ (@z02 _ _ _ _ (pv 4)) (@z00 _ _ _ _ _ _ (@z02 _ _ _ _ (pv 2)) (@z0j _ _) (by rfl)) (by rfl)) rfl (by decide) (by rfl) (by rfl)) rfl (Or.inl rfl))
    refine (@z05 _ _ _ _ _ _ ?_ ?_)
    ·exact (@z0t _ _ _ _ _ _ ([]) (6) _ hnp sc__law_near_right.nd rfl (Or.inl rfl) (@z3Q _ _ _ _ _ (4) _ _ _ _ _ k_first_far z18 (hr.mono (by decide)) rfl rfl (@z00 _ _ _ _ _ _ (@z02 _ _ _ _ (pv 0)) (@z00 _ _ _ _ _ _ (@z02 _ _ _ _ (pv 1)) (@z00 _ _ _ _ _ _ (@z02 _ _ _ _ (pv 3)) (@z00 _ _ _ _ _ _ (@z02 _ _ _ _ (pv 2)) (@z0j _ _) (by rfl)) (by rfl)) (by rfl)) (by rfl)) rfl (by decide) (by rfl) (by rfl)) rfl (Or.inl rfl))
    refine (@z0c _ _ _ _ ?_)
    refine (@z2Y _ _ _ _ _ _ _ _ _ ?_ ?_ ?_)
    ·exact (@z4V _ _ _ _ (@z5D _ _ _ _ _ _ _ _ (@z4V _ _ _ _ (@z9P _ _ _ _ _ _ _ _ (@z1z _ _ _ _ _ _ _ _ _ _ zaA zaG (@z02 _ _ _ _ (pv 5)) (@z09 _ _ _ _ (@z3O _ _ _ _)) rfl) (@z7Q _ _ _ _ _ (@z1z _ _ _ _ _ _ _ _ _ _ zax zaD (@z02 _ _ _ _ (pv 6)) (@z09 _ _ _ _ (@z3O _ _ _ _)) rfl)))) (@z4u _ _ _ _ _ (@z4V _ _ _ _ (@z9P _ _ _ _ _ _ _ _ (@z1z _ _ _ _ _ _ _ _ _ _ zax zaD (@z02 _ _ _ _ (pv 5)) (@z09 _ _ _ _ (@z3O _ _ _ _)) rfl) (@z7Q _ _ _ _ _ (@z2q _ _ _ _ _ (@z2p _ _ _ _ (@z0k _ _ _ _ _ (2) _ _ _ _ _ k__law_pair_is z2r (hr.mono (by decide)) rfl (@z00 _ _ _ _ _ _ (@z02 _ _ _ _ (pv 6)) (@z00 _ _ _ _ _ _ (@z02 _ _ _ _ (pv 5)) (@z0j _ _) (by rfl)) (by rfl)) rfl (by decide) (by rfl) (by rfl)) (by intro _; rfl)))))))))
    ·refine (@z0c _ _ _ _ ?_)
     refine (@z0G _ _ _ _ _ ?_)
     exact (@z4Y _ _ _ _ _)
    ·exact z1A
  refine (@z0c _ _ _ _ ?_)
  refine (@z0G _ _ _ _ _ ?_)
  exact (@z4Y _ _ _ _ _)) fun ss y h=>z0O h
abbrev B10_:DS:=dAsg (eOpF pAdd 4 (bOf (eLst (z0l (eLst (z0l (eOpF pIx 2 (bOf (eD (.int 0)))) aNil)) (z0l (eTup (z0l (eOpF pIx 2 (bOf (eD (.int 0)))) aNil)) (z0l z93 (z0l (eOpF pIx 3 (bOf (eD (.int 0)))) (z0l (eOpF pIx 3 (bOf (eC1 pNeg (bOf (eD (.int 1)))))) (z0l (eD (.str [49])) aNil))))))))) (gNm [0] 4)
abbrev B14_:DS:=dAsg (z6H [5] (iSq (eD (.str [97,98,99,100,101,102,103,104,105,106,107,108,109,110,111,112,113,114,115,116,117,118,119,120,121,122]))) (gNm [0] 5) (dTr (eOp (pIn true) (eVar 5) (bVar 2))) (eVar 5)) (gNm [0] 3)
def z2o:DS:=(dSeq (dAsg (z08 z0x [.val (eVar 1)]) (gNm [0] 2)) (dSeq (B14_) (dSeq (dAsg (eLst (z0l (eD .non) (z0l (eD (.int 0)) (z0l (eD (.bl true)) (z0l (eD (.str [])) (z0l (eOp z1h (eOpF pIx 2 (bOf (eD (.int 0)))) (bOf (eD (.int 2)))) (z0l (eC1 z5Z (bOf (eOpF pIx 2 (bOf (eD (.int 0)))))) aNil))))))) (gNm [0] 4)) (dSeq (B10_) (dRet (eOpF pIx 4 (bOf (z08 z0b [.io 0,.val (eD (.int 12))]))))))))
def z0Q:DF:=gOf [0] 6 z2o
theorem z3F:z1K z0Q:=z0u
theorem sc__law_odd_tile:FnScope ["pen","rule","tiles","some","odd","sign"] ["pen","rule"] (z04 z2e):=⟨rfl,rfl,rfl,by decide +kernel,rfl,by decide +kernel,by decide +kernel⟩
theorem z4D {K:W0} (F:Fun K "_law_odd_tile" "_law_odd_tile" z2e f fd) (hm:mg "_law_odd_tile" = some (.ref f)) (hb:Binds K fd ["pen","rule"] []) (T:Txt ce K mg) (k__law_draw:KFn P w K mg base 2 "_law_draw" 2 z0b) (k__law_tiles_of:KFn P w K mg base 1 "_law_tiles_of" 1 z0x):KFn P w K mg base 3 "_law_odd_tile" 2 z0Q :=
 z1n (np:=[0]) (fb:=z2o) F hm hb sc__law_odd_tile (fun c cdv A outer s H E hr hnp=>by
  have hq:=z1y hr
  refine (@z05 _ _ _ _ _ _ ?_ ?_)
  ·exact (@z0t _ _ _ _ _ _ ([0]) (2) _ hnp sc__law_odd_tile.nd rfl (Or.inr rfl) (@z0k _ _ _ _ _ (1) _ _ _ _ _ k__law_tiles_of z2j (hr.mono (by decide)) rfl (@z00 _ _ _ _ _ _ (@z02 _ _ _ _ (pv 1)) (@z0j _ _) (by rfl)) rfl (by decide) (by rfl) (by rfl)) rfl (Or.inl rfl))
  refine (@z05 _ _ _ _ _ _ ?_ ?_)
  ·exact (@z5S _ _ ([5]) _ _ _ _ _ _ _ _ _ _ ([0]) (3) _ _ _ hnp rfl (@z5u _ _ _ rfl rfl) sc__law_odd_tile.nd rfl rfl (@z6g _ _ _ _ _ (@z2U _ _ _ _ _ [97,98,99,100,101,102,103,104,105,106,107,108,109,110,111,112,113,114,115,116,117,118,119,120,121,122] (by decide +kernel))) (fun l s0 H0 ex=>(@z4M _ _ _ _ ([0]) (5) _ hnp sc__law_odd_tile.nd rfl (Or.inl rfl) (Or.inr rfl) (by decide))) (fun l s0 H0 ex=>(@zdn _ _ _ _ (@z1z _ _ _ _ _ _ _ _ _ _ (@z59 _ hq) (@z6x _ true) (@z02 _ _ _ _ (pv 5)) (@z0e _ _ _ _ (pv 2)) rfl))) (fun l s0 H0 ex=>(@z02 _ _ _ _ (pv 5))) (zaH hnp rfl) (by rfl) (by intro _; rfl))
  refine (@z05 _ _ _ _ _ _ ?_ ?_)
  ·exact (@z0t _ _ _ _ _ _ ([0]) (4) _ hnp sc__law_odd_tile.nd rfl (Or.inl rfl) (@z1r _ _ _ _ _ (@z07 _ _ _ _ _ _ (@z3O _ _ _ _) (@z07 _ _ _ _ _ _ (@z06 _ _ _ _ _) (@z07 _ _ _ _ _ _ (@z4Y _ _ _ _ _) (@z07 _ _ _ _ _ _ (@z2U _ _ _ _ _ [] (by decide +kernel)) (@z07 _ _ _ _ _ _ (@z1x _ _ _ _ _ _ _ _ _ _ z2f z2g (@z0s _ _ _ _ _ _ _ _ _ z0n z0I (pv 2) (@z09 _ _ _ _ (@z06 _ _ _ _ _)) (fun _ _=>rfl)) (@z09 _ _ _ _ (@z06 _ _ _ _ _))) (@z07 _ _ _ _ _ _ (@zbH _ _ _ _ _ _ (@z09 _ _ _ _ (@z0s _ _ _ _ _ _ _ _ _ z0n z0I (pv 2) (@z09 _ _ _ _ (@z06 _ _ _ _ _)) (fun _ _=>rfl))) (by rfl) (by rfl)) (@z0W _ _) (by rfl)) (by rfl)) (by rfl)) (by rfl)) (by rfl)) (by rfl)) (by decide)) rfl (Or.inl rfl))
  refine (@z05 _ _ _ _ _ _ ?_ ?_)
  ·exact (@z0t _ _ _ _ _ _ ([0]) (4) _ hnp sc__law_odd_tile.nd rfl (Or.inl rfl) (@z1q _ _ _ _ _ _ _ _ _ _ z15 z1B (pv 4) (@z09 _ _ _ _ (@z1r _ _ _ _ _ (@z07 _ _ _ _ _ _ (@z1r _ _ _ _ _ (@z07 _ _ _ _ _ _ (@z0s _ _ _ _ _ _ _ _ _ z0n z0I (pv 2) (@z09 _ _ _ _ (@z06 _ _ _ _ _)) (fun _ _=>rfl)) (@z0W _ _) (by rfl)) (by decide)) (@z07 _ _ _ _ _ _ (@z3w _ _ _ _ _ _ (@z07 _ _ _ _ _ _ (@z0s _ _ _ _ _ _ _ _ _ z0n z0I (pv 2) (@z09 _ _ _ _ (@z06 _ _ _ _ _)) (fun _ _=>rfl)) (@z0W _ _) (by rfl)) (by decide)) (@z07 _ _ _ _ _ _ (@z8C _ _ _) (@z07 _ _ _ _ _ _ (@z0s _ _ _ _ _ _ _ _ _ z0n z0I (pv 3) (@z09 _ _ _ _ (@z06 _ _ _ _ _)) (fun _ _=>rfl)) (@z07 _ _ _ _ _ _ (@z0s _ _ _ _ _ _ _ _ _ z0n z0I (pv 3) (@z09 _ _ _ _ (@z4v _ _ _ _ _ (@z09 _ _ _ _ (@z06 _ _ _ _ _)))) (fun _ _=>rfl)) (@z07 _ _ _ _ _ _ (@z2U _ _ _ _ _ [49] (by decide +kernel)) (@z0W _ _) (by rfl)) (by rfl)) (by rfl)) (by rfl)) (by rfl)) (by rfl)) (by decide)))) rfl (Or.inl rfl))
  refine (@z0c _ _ _ _ ?_)
  refine (@z0G _ _ _ _ _ ?_)
  exact (@z0s _ _ _ _ _ _ _ _ _ z0n z0I (pv 4) (@z09 _ _ _ _ (@z0k _ _ _ _ _ (2) _ _ _ _ _ k__law_draw z0o (hr.mono (by decide)) rfl (@z2c _ _ _ _ _ _ (pv 0) (@z00 _ _ _ _ _ _ (@z06 _ _ _ _ _) (@z0j _ _) (by rfl)) (by rfl)) rfl (by decide) (by rfl) (by rfl))) (fun _ _=>rfl))) fun ss y h=>z0O h
def z1i (ce:Tx→Nat):DS:=(dSeq (dAsg (eLst (z0l (eIsC ce ys (fun z=>z == [78,111,70,108,111,111,114]) (bVar 0)) (z0l (eIsC ce ys (fun z=>z == [78,111,80,108,97,99,101]) (bVar 0)) aNil))) (gNm [] 1)) (dSeq (dAsg (eOpF pAdd 1 (bOf (eLst (z0l (eIsC ce ys (fun z=>z == [78,111,78,117,109,98,101,114]) (bVar 0)) (z0l (eIsC ce ys (fun z=>z == [78,111,82,111,119]) (bVar 0)) aNil))))) (gNm [] 1)) (dSeq (dAsg (eOpF pAdd 1 (bOf (eLst (z0l (eIsC ce ys (fun z=>z == [85,110,108,105,107,101]) (bVar 0)) (z0l (eIsC ce ys (fun z=>z == [78,111,84,105,108,101]) (bVar 0)) aNil))))) (gNm [] 1)) (dSeq (dAsg (eOpF pAdd 1 (bOf (eLst (z0l (eIsC ce ys (fun z=>z == [78,111,82,117,108,101]) (bVar 0)) (z0l (eIsC ce ys (fun z=>z == [78,111,84,101,120,116]) (bVar 0)) aNil))))) (gNm [] 1)) (dSeq (z0F 1 (eIsC ce ys (fun z=>z == [84,111,111,71,114,101,97,116]) (bVar 0))) (dSeq (dIf (dOr (dNot (dTr (eIsC ce ys (fun _=>true) (bVar 0)))) (dTr (eOp pNe (eC1 z4x (bVar 1)) (bOf (eD (.int 1)))))) (dRet (eD (.str [111,116,104,101,114]))) z1f) (dSeq (dAsg (z8n [.str [102,108,111,111,114],.str [112,108,97,99,101],.str [110,117,109,98,101,114],.str [114,111,119],.str [117,110,108,105,107,101],.str [116,105,108,101],.str [114,117,108,101],.str [116,101,120,116],.str [103,114,101,97,116]]) (gNm [] 2)) (dRet (eOpF pIx 2 (bOf (eC1 z37 (bVar 1))))))))))))
def z0m (ce:Tx→Nat):DF:=gOf [] 3 (z1i ce)
theorem z46 {ce:Tx→Nat}:z1K (z0m ce):=z0u
theorem sc__law_kind_of:FnScope ["e","marks","words"] ["e"] (z04 z2A):=⟨rfl,rfl,rfl,by decide +kernel,rfl,by decide +kernel,by decide +kernel⟩
theorem z4B {K:W0} (F:Fun K "_law_kind_of" "_law_kind_of" z2A f fd) (hm:mg "_law_kind_of" = some (.ref f)) (hb:Binds K fd ["e"] []) (T:Txt ce K mg):KFnH P w K mg base 1 "_law_kind_of" 1 (z0m ce) :=
 zeq (np:=[]) (fb:=(z1i ce)) F hm hb sc__law_kind_of (fun c cdv A outer s H E hr hnp=>by
  have hq:=zg2 hr
  refine (@z05 _ _ _ _ _ _ ?_ ?_)
  ·exact (@z0t _ _ _ _ _ _ ([]) (1) _ hnp sc__law_kind_of.nd rfl (Or.inl rfl) (@z1r _ _ _ _ _ (@z07 _ _ _ _ _ _ (@z3P _ _ _ _ _ _ _ _ _ _ _ _ T.i_a rfl T.z_isinstance rfl T.c_a (@z0e _ _ _ _ (pv 0)) (by decide) (by rfl) (by rfl)) (@z07 _ _ _ _ _ _ (@z3P _ _ _ _ _ _ _ _ _ _ _ _ T.i_b rfl T.z_isinstance rfl T.c_b (@z0e _ _ _ _ (pv 0)) (by decide) (by rfl) (by rfl)) (@z0W _ _) (by rfl)) (by rfl)) (by decide)) rfl (Or.inl rfl))
  refine (@z05 _ _ _ _ _ _ ?_ ?_)
  ·exact (@z0t _ _ _ _ _ _ ([]) (1) _ hnp sc__law_kind_of.nd rfl (Or.inl rfl) (@z1q _ _ _ _ _ _ _ _ _ _ z15 z1B (pv 1) (@z09 _ _ _ _ (@z1r _ _ _ _ _ (@z07 _ _ _ _ _ _ (@z3P _ _ _ _ _ _ _ _ _ _ _ _ T.i_c rfl T.z_isinstance rfl T.c_c (@z0e _ _ _ _ (pv 0)) (by decide) (by rfl) (by rfl)) (@z07 _ _ _ _ _ _ (@z3P _ _ _ _ _ _ _ _ _ _ _ _ T.i_d rfl T.z_isinstance rfl T.c_d (@z0e _ _ _ _ (pv 0)) (by decide) (by rfl) (by rfl)) (@z0W _ _) (by rfl)) (by rfl)) (by decide)))) rfl (Or.inl rfl))
  refine (@z05 _ _ _ _ _ _ ?_ ?_)
  ·exact (@z0t _ _ _ _ _ _ ([]) (1) _ hnp sc__law_kind_of.nd rfl (Or.inl rfl) (@z1q _ _ _ _ _ _ _ _ _ _ z15 z1B (pv 1) (@z09 _ _ _ _ (@z1r _ _ _ _ _ (@z07 _ _ _ _ _ _ (@z3P _ _ _ _ _ _ _ _ _ _ _ _ T.i_e rfl T.z_isinstance rfl T.c_e (@z0e _ _ _ _ (pv 0)) (by decide) (by rfl) (by rfl)) (@z07 _ _ _ _ _ _ (@z3P _ _ _ _ _ _ _ _ _ _ _ _ T.i_f rfl T.z_isinstance rfl T.c_f (@z0e _ _ _ _ (pv 0)) (by decide) (by rfl) (by rfl)) (@z0W _ _) (by rfl)) (by rfl)) (by decide)))) rfl (Or.inl rfl))
  refine (@z05 _ _ _ _ _ _ ?_ ?_)
  ·exact (@z0t _ _ _ _ _ _ ([]) (1) _ hnp sc__law_kind_of.nd rfl (Or.inl rfl) (@z1q _ _ _ _ _ _ _ _ _ _ z15 z1B (pv 1) (@z09 _ _ _ _ (@z1r _ _ _ _ _ (@z07 _ _ _ _ _ _ (@z3P _ _ _ _ _ _ _ _ _ _ _ _ T.i_g rfl T.z_isinstance rfl T.c_g (@z0e _ _ _ _ (pv 0)) (by decide) (by rfl) (by rfl)) (@z07 _ _ _ _ _ _ (@z3P _ _ _ _ _ _ _ _ _ _ _ _ T.i_h rfl T.z_isinstance rfl T.c_h (@z0e _ _ _ _ (pv 0)) (by decide) (by rfl) (by rfl)) (@z0W _ _) (by rfl)) (by rfl)) (by decide)))) rfl (Or.inl rfl))
  refine (@z05 _ _ _ _ _ _ ?_ ?_)
  ·exact (@z1l _ _ _ _ _ _ _ _ _ (pv 1) (@z3P _ _ _ _ _ _ _ _ _ _ _ _ T.i_i rfl T.z_isinstance rfl T.c_i (@z0e _ _ _ _ (pv 0)) (by decide) (by rfl) (by rfl)) (by rfl) (by rfl) (by rfl) (by rfl) (by rfl))
  refine (@z05 _ _ _ _ _ _ ?_ ?_)
  ·refine (@z2Y _ _ _ _ _ _ _ _ _ ?_ ?_ ?_)
   ·exact (@z4V _ _ _ _ (@z5D _ _ _ _ _ _ _ _ (@z2q _ _ _ _ _ (@z2p _ _ _ _ (@zeU _ _ _ _ _ _ _ _ _ _ _ _ T.i_ValueError rfl T.z_isinstance rfl T.z_ValueError z5y (@z0e _ _ _ _ (pv 0)) (by decide) (by decide) (by rfl) (by rfl)) (by intro _; rfl))) (@z4u _ _ _ _ _ (@z1z _ _ _ _ _ _ _ _ _ _ (z7a hq) zaE (@zbK _ _ _ _ _ _ _ _ (@z0e _ _ _ _ (pv 1)) (by rfl) (by rfl) (by rfl) (by rfl)) (@z09 _ _ _ _ (@z06 _ _ _ _ _)) (z1s _)))))
   ·refine (@z0c _ _ _ _ ?_)
    refine (@z0G _ _ _ _ _ ?_)
    exact (@z2U _ _ _ _ _ [111,116,104,101,114] (by decide +kernel))
   ·exact z1A
  refine (@z05 _ _ _ _ _ _ ?_ ?_)
  ·exact (@z0t _ _ _ _ _ _ ([]) (2) _ hnp sc__law_kind_of.nd rfl (Or.inl rfl) (@z6Y _ _ _ _ _ (by rfl) (by decide)) rfl (Or.inl rfl))
  refine (@z0c _ _ _ _ ?_)
  refine (@z0G _ _ _ _ _ ?_)
  exact (@z0s _ _ _ _ _ _ _ _ _ z0n z0I (pv 2) (@z09 _ _ _ _ (@zbI _ _ _ _ _ _ _ _ (@z0e _ _ _ _ (pv 1)) (by rfl) (by rfl) (by rfl) (by rfl))) (fun _ _=>rfl))) fun ss y h=>z0O h
def z2m (ce:Tx→Nat):DS:=(dTry ce ys 4 (dRet (z0P z0i [.val (eVar 0),.val (eVar 1),.val (eVar 2),.val (eVar 3)])) (dRet (z08 (z0m ce) [.val (eVar 4)])))
def z0E (ce:Tx→Nat):DF:=gOf [] 5 (z2m ce)
theorem z1v {ce:Tx→Nat}:z1K (z0E ce):=z0u
theorem sc__law_told:FnScope ["rule","tile","growings","other","e"] ["rule","tile","growings","other"] (z04 z3B):=⟨rfl,rfl,rfl,by decide +kernel,rfl,by decide +kernel,by decide +kernel⟩
theorem z7c {K:W0} (F:Fun K "_law_told" "_law_told" z3B f fd) (hm:mg "_law_told" = some (.ref f)) (hb:Binds K fd ["rule","tile","growings","other"] []) (T:Txt ce K mg) (k_first_far:KFnX P w K mg base 4 "first_far" 4 z0i) (h__law_kind_of:KFnH P w K mg base 1 "_law_kind_of" 1 (z0m ce)):KFn P w K mg base 5 "_law_told" 4 (z0E ce) :=
 z1n (np:=[]) (fb:=(z2m ce)) F hm hb sc__law_told (fun c cdv A outer s H E hr hnp=>by
  have hq:=z1y hr
  refine (@z0c _ _ _ _ ?_)
  refine zeR (ce:=ce) (ys:=ys) (i:=4) hnp rfl rfl sc__law_told.nd rfl rfl rfl T.c_j T.q_j (fun y hy=>T.m_j y hy) ?_ ?_
  ·intro c pn xe hnp hxo
   refine (@z0c _ _ _ _ ?_)
   refine (@z0G _ _ _ _ _ ?_)
   exact (@z27 _ _ _ _ _ (4) _ _ _ _ _ k_first_far z18 (hr.mono (by decide)) rfl hxo rfl (@z00 _ _ _ _ _ _ (@z02 _ _ _ _ (pv 0)) (@z00 _ _ _ _ _ _ (@z02 _ _ _ _ (pv 1)) (@z00 _ _ _ _ _ _ (@z02 _ _ _ _ (pv 2)) (@z00 _ _ _ _ _ _ (@z02 _ _ _ _ (pv 3)) (@z0j _ _) (by rfl)) (by rfl)) (by rfl)) (by rfl)) rfl (by decide) (by rfl) (by rfl))
  ·intro ea
   refine (@z0c _ _ _ _ ?_)
   refine (@z0G _ _ _ _ _ ?_)
   exact (@zbM _ _ _ _ _ (1) _ _ _ _ _ h__law_kind_of z46 ((hr.h.mono (by decide)).mark _) rfl (@z00 _ _ _ _ _ _ (@z02 _ _ _ _ (pv 4)) (@z0j _ _) (by rfl)) rfl (by decide) (by rfl) (by rfl))) fun ss y h=>z0O h
def z1g (ce:Tx→Nat):DS:=(dSeq (dAsg (z08 z0Q [.io 0,.val (eVar 1)]) (gNm [0] 3)) (dSeq (dAsg (eOp pIx (eLst (z0l (eD (.int 61)) (z0l (eC1 pNeg (bOf (eD (.int 1)))) (z0l (eD (.bl true)) (z0l (eD .non) (z0l (eD (.str [49])) (z0l (eOp pAdd (eD (.int 62)) (bOf (z08 z0b [.io 0,.val (eOp pPow (eD (.int 10)) (bOf (eD (.int 9))))]))) aNil))))))) (bOf (z08 z0b [.io 0,.val (eD (.int 6))]))) (gNm [0] 4)) (dSeq (dIf (dOr (dTr (eOp pNe (z08 (z0E ce) [.val (eVar 1),.val (eVar 3),.val (eVar 4),.val (eVar 3)]) (bOf (eD (.str [116,105,108,101]))))) (dTr (eOp pNe (z08 (z0E ce) [.val (eVar 1),.val (eVar 2),.val (eVar 4),.val (eVar 3)]) (bOf (eD (.str [110,117,109,98,101,114])))))) (dRet (eD (.bl false))) z1f) (dRet (eAnd (eOp pEq (z08 (z0E ce) [.val (eVar 1),.val (eVar 2),.val (eD (.int 3)),.val (eVar 3)]) (bOf (eD (.str [116,105,108,101])))) (eOp pEq (z08 (z0E ce) [.val (eVar 1),.val (eVar 3),.val (eD (.int 3)),.val (eVar 2)]) (bOf (eD (.str [116,105,108,101])))))))))
def z0v (ce:Tx→Nat):DF:=gOf [0] 5 (z1g ce)
theorem z2K {ce:Tx→Nat}:z1K (z0v ce):=z0u
theorem sc__law_refused_right:FnScope ["pen","rule","tile","bad","often"] ["pen","rule","tile"] (z04 z1c):=⟨rfl,rfl,rfl,by decide +kernel,rfl,by decide +kernel,by decide +kernel⟩
theorem z38 {K:W0} (F:Fun K "_law_refused_right" "_law_refused_right" z1c f fd) (hm:mg "_law_refused_right" = some (.ref f)) (hb:Binds K fd ["pen","rule","tile"] []) (T:Txt ce K mg) (k__law_draw:KFn P w K mg base 2 "_law_draw" 2 z0b) (k__law_odd_tile:KFn P w K mg base 3 "_law_odd_tile" 2 z0Q) (k__law_told:KFn P w K mg base 5 "_law_told" 4 (z0E ce)):KFn P w K mg base 6 "_law_refused_right" 3 (z0v ce) :=
 z1n (np:=[0]) (fb:=(z1g ce)) F hm hb sc__law_refused_right (fun c cdv A outer s H E hr hnp=>by
  have hq:=z1y hr
  refine (@z05 _ _ _ _ _ _ ?_ ?_)
  ·exact (@z0t _ _ _ _ _ _ ([0]) (3) _ hnp sc__law_refused_right.nd rfl (Or.inl rfl) (@z0k _ _ _ _ _ (3) _ _ _ _ _ k__law_odd_tile z3F (hr.mono (by decide)) rfl (@z2c _ _ _ _ _ _ (pv 0) (@z00 _ _ _ _ _ _ (@z02 _ _ _ _ (pv 1)) (@z0j _ _) (by rfl)) (by rfl)) rfl (by decide) (by rfl) (by rfl)) rfl (Or.inl rfl))
  refine (@z05 _ _ _ _ _ _ ?_ ?_)
  ·exact (@z0t _ _ _ _ _ _ ([0]) (4) _ hnp sc__law_refused_right.nd rfl (Or.inl rfl) (@z6X _ _ _ _ _ _ _ _ _ z0n z0I (@z1r _ _ _ _ _ (@z07 _ _ _ _ _ _ (@z06 _ _ _ _ _) (@z07 _ _ _ _ _ _ (@z4v _ _ _ _ _ (@z09 _ _ _ _ (@z06 _ _ _ _ _))) (@z07 _ _ _ _ _ _ (@z4Y _ _ _ _ _) (@z07 _ _ _ _ _ _ (@z3O _ _ _ _) (@z07 _ _ _ _ _ _ (@z2U _ _ _ _ _ [49] (by decide +kernel)) (@z07 _ _ _ _ _ _ (@z1x _ _ _ _ _ _ _ _ _ _ z15 z1B (@z06 _ _ _ _ _) (@z09 _ _ _ _ (@z0k _ _ _ _ _ (2) _ _ _ _ _ k__law_draw z0o (hr.mono (by decide)) rfl (@z2c _ _ _ _ _ _ (pv 0) (@z00 _ _ _ _ _ _ (@z1x _ _ _ _ _ _ _ _ _ _ zd2 zd4 (@z06 _ _ _ _ _) (@z09 _ _ _ _ (@z06 _ _ _ _ _))) (@z0j _ _) (by rfl)) (by rfl)) rfl (by decide) (by rfl) (by rfl)))) (@z0W _ _) (by rfl)) (by rfl)) (by rfl)) (by rfl)) (by rfl)) (by rfl)) (by decide)) (@z09 _ _ _ _ (@z0k _ _ _ _ _ (2) _ _ _ _ _ k__law_draw z0o (hr.mono (by decide)) rfl (@z2c _ _ _ _ _ _ (pv 0) (@z00 _ _ _ _ _ _ (@z06 _ _ _ _ _) (@z0j _ _) (by rfl)) (by rfl)) rfl (by decide) (by rfl) (by rfl))) (fun _ _=>rfl)) rfl (Or.inl rfl))
  refine (@z05 _ _ _ _ _ _ ?_ ?_)
  ·refine (@z2Y _ _ _ _ _ _ _ _ _ ?_ ?_ ?_)
   ·exact (@z4V _ _ _ _ (@z5D _ _ _ _ _ _ _ _ (@z1z _ _ _ _ _ _ _ _ _ _ (z7a hq) zaE (@z0k _ _ _ _ _ (5) _ _ _ _ _ k__law_told z1v (hr.mono (by decide)) rfl (@z00 _ _ _ _ _ _ (@z02 _ _ _ _ (pv 1)) (@z00 _ _ _ _ _ _ (@z02 _ _ _ _ (pv 3)) (@z00 _ _ _ _ _ _ (@z02 _ _ _ _ (pv 4)) (@z00 _ _ _ _ _ _ (@z02 _ _ _ _ (pv 3)) (@z0j _ _) (by rfl)) (by rfl)) (by rfl)) (by rfl)) rfl (by decide) (by rfl) (by rfl)) (@z09 _ _ _ _ (@z2U _ _ _ _ _ [116,105,108,101] (by decide +kernel))) (z1s _)) (@z4u _ _ _ _ _ (@z1z _ _ _ _ _ _ _ _ _ _ (z7a hq) zaE (@z0k _ _ _ _ _ (5) _ _ _ _ _ k__law_told z1v (hr.mono (by decide)) rfl (@z00 _ _ _ _ _ _ (@z02 _ _ _ _ (pv 1)) (@z00 _ _ _ _ _ _ (@z02 _ _ _ _ (pv 2)) (@z00 _ _ _ _ _ _ (@z02 _ _ _ _ (pv 4)) (@z00 _ _ _ _ _ _ (@z02 _ _ _ _ (pv 3)) (@z0j _ _) (by rfl)) (by rfl)) (by rfl)) (by rfl)) rfl (by decide) (by rfl) (by rfl)) (@z09 _ _ _ _ (@z2U _ _ _ _ _ [110,117,109,98,101,114] (by decide +kernel))) (z1s _)))))
   ·refine (@z0c _ _ _ _ ?_)
    refine (@z0G _ _ _ _ _ ?_)
    exact (@z4Y _ _ _ _ _)
   ·exact z1A
  refine (@z0c _ _ _ _ ?_)
  refine (@z0G _ _ _ _ _ ?_)
  exact (@z70 _ _ _ _ _ _ _ _ (@z8D _ _ _ _ _ _ _ _ _ _ (z5c hq) z88 (@z0k _ _ _ _ _ (5) _ _ _ _ _ k__law_told z1v (hr.mono (by decide)) rfl (@z00 _ _ _ _ _ _ (@z02 _ _ _ _ (pv 1)) (@z00 _ _ _ _ _ _ (@z02 _ _ _ _ (pv 2)) (@z00 _ _ _ _ _ _ (@z06 _ _ _ _ _) (@z00 _ _ _ _ _ _ (@z02 _ _ _ _ (pv 3)) (@z0j _ _) (by rfl)) (by rfl)) (by rfl)) (by rfl)) rfl (by decide) (by rfl) (by rfl)) (@z09 _ _ _ _ (@z2U _ _ _ _ _ [116,105,108,101] (by decide +kernel))) (z1s _)) (@z8B _ _ _ _ _ _ (@z8D _ _ _ _ _ _ _ _ _ _ (z5c hq) z88 (@z0k _ _ _ _ _ (5) _ _ _ _ _ k__law_told z1v (hr.mono (by decide)) rfl (@z00 _ _ _ _ _ _ (@z02 _ _ _ _ (pv 1)) (@z00 _ _ _ _ _ _ (@z02 _ _ _ _ (pv 3)) (@z00 _ _ _ _ _ _ (@z06 _ _ _ _ _) (@z00 _ _ _ _ _ _ (@z02 _ _ _ _ (pv 2)) (@z0j _ _) (by rfl)) (by rfl)) (by rfl)) (by rfl)) rfl (by decide) (by rfl) (by rfl)) (@z09 _ _ _ _ (@z2U _ _ _ _ _ [116,105,108,101] (by decide +kernel))) (z1s _))))) fun ss y h=>z0O h
def zeC (ce:Tx→Nat):DS:=(dSeq (dFor (iSq (eOp pAdd (eLst (z0l (z08 z0V [.val (eVar 0),.val (eD (.int 0))]) aNil)) (bOf (eSlN 0 (z3r (eD (.int 1))) (z3r (eD (.int 4))))))) (gNm [] 1) (dSeq (dAsg (z08 z12 [.val (eVar 1)]) (gNm [] 2)) (dSeq (dAsg (z08 z0M [.io 2,.val (eD (.int 6))]) (gNm [] 3)) (dSeq (dAsg (z08 z0x [.val (eVar 3)]) (gNm [] 4)) (dSeq (dAsg (eOpF pIx 4 (bOf (z08 z0b [.io 2,.val (eC1 pLen (bVar 4))]))) (gNm [] 5)) (dSeq (dFor (iSq (eLst (z0l (eOpF pIx 4 (bOf (z08 z0b [.io 2,.val (eC1 pLen (bVar 4))]))) (z0l (eOpF pIx 4 (bOf (eC1 pNeg (bOf (eD (.int 1)))))) (z0l (eVar 5) aNil))))) (gNm [] 6) (dIf (dOr (dNot (dTr (z08 z0A [.val (eVar 3),.val (eVar 5),.val (eVar 6)]))) (dNot (dTr (z08 z0K [.val (eVar 3),.val (eVar 5),.val (z08 z0b [.io 2,.val (eD (.int 61))]),.val (eVar 6)])))) (dRet (eD (.bl false))) z1f)) (dIf (dOr (dNot (dTr (z08 (z0v ce) [.io 2,.val (eVar 3),.val (eVar 5)]))) (dNot (dTr (z08 z0A [.val (eVar 3),.val (eOpF pIx 4 (bOf (eD (.int 0)))),.val (eVar 5)])))) (dRet (eD (.bl false))) z1f))))))) (dRet (eD (.bl true))))
def z9J (ce:Tx→Nat):DF:=gOf [] 7 (zeC ce)
theorem zfT {ce:Tx→Nat}:z1K (z9J ce):=z0u
theorem sc_law:FnScope ["script","cell","pen","rule","tiles","tile","other"] ["script"] (z04 z6l):=⟨rfl,rfl,rfl,by decide +kernel,rfl,by decide +kernel,by decide +kernel⟩
theorem zfC {K:W0} (F:Fun K "law" "law" z6l f fd) (T:Txt ce K mg) (k__law_cell_at:KFn P w K mg base 1 "_law_cell_at" 2 z0V) (k__law_pen_of:KFn P w K mg base 1 "_law_pen_of" 1 z12) (k__law_draw:KFn P w K mg base 2 "_law_draw" 2 z0b) (k__law_rule_by:KFn P w K mg base 3 "_law_rule_by" 2 z0M) (k__law_tiles_of:KFn P w K mg base 1 "_law_tiles_of" 1 z0x) (k__law_far_right:KFn P w K mg base 7 "_law_far_right" 4 z0K) (k__law_near_right:KFn P w K mg base 5 "_law_near_right" 3 z0A) (k__law_refused_right:KFn P w K mg base 6 "_law_refused_right" 3 (z0v ce)) {Gt:DF} (hGt:∀ ss y,Gt ss=some y→z9J ce ss=some y):FnOk P w K mg base CX0 8 f fd ["script"] (spD 1 Gt) :=
 zg5 (np:=[]) (fb:=(zeC ce)) F sc_law (fun c cdv A outer s H E hr hnp=>by
  have hq:=z1y hr
  refine (@z05 _ _ _ _ _ _ ?_ ?_)
  ·refine (@z24 _ _ _ _ _ _ _ _ _ PassesOwn.never rfl ?_ ?_ ?_ (by intro _; rfl))
   ·exact (@z6g _ _ _ _ _ (@z1x _ _ _ _ _ _ _ _ _ _ z15 z1B (@z1r _ _ _ _ _ (@z07 _ _ _ _ _ _ (@z0k _ _ _ _ _ (1) _ _ _ _ _ k__law_cell_at z47 (hr.mono (by decide)) rfl (@z00 _ _ _ _ _ _ (@z02 _ _ _ _ (pv 0)) (@z00 _ _ _ _ _ _ (@z06 _ _ _ _ _) (@z0j _ _) (by rfl)) (by rfl)) rfl (by decide) (by rfl) (by rfl)) (@z0W _ _) (by rfl)) (by decide)) (@z09 _ _ _ _ (@za0 _ _ _ _ _ _ _ _ _ _ (pv 0) (@z4a _ _ _ _ (@z06 _ _ _ _ _)) (@z4a _ _ _ _ (@z06 _ _ _ _ _))))))
   ·exact (@z0y _ _ _ ([]) (1) _ hnp sc_law.nd rfl (Or.inl rfl) (Or.inl rfl))
   ·refine (@z05 _ _ _ _ _ _ ?_ ?_)
    ·exact (@z0t _ _ _ _ _ _ ([]) (2) _ hnp sc_law.nd rfl (Or.inl rfl) (@z0k _ _ _ _ _ (1) _ _ _ _ _ k__law_pen_of z4n (hr.mono (by decide)) rfl (@z00 _ _ _ _ _ _ (@z02 _ _ _ _ (pv 1)) (@z0j _ _) (by rfl)) rfl (by decide) (by rfl) (by rfl)) rfl (Or.inl rfl))
    refine (@z05 _ _ _ _ _ _ ?_ ?_)
    ·exact (@z0t _ _ _ _ _ _ ([]) (3) _ hnp sc_law.nd rfl (Or.inl rfl) (@z0k _ _ _ _ _ (3) _ _ _ _ _ k__law_rule_by z45 (hr.mono (by decide)) rfl (@z2c _ _ _ _ _ _ (pv 2) (@z00 _ _ _ _ _ _ (@z06 _ _ _ _ _) (@z0j _ _) (by rfl)) (by rfl)) rfl (by decide) (by rfl) (by rfl)) rfl (Or.inl rfl))
    refine (@z05 _ _ _ _ _ _ ?_ ?_)
    ·exact (@z0t _ _ _ _ _ _ ([]) (4) _ hnp sc_law.nd rfl (Or.inl rfl) (@z0k _ _ _ _ _ (1) _ _ _ _ _ k__law_tiles_of z2j (hr.mono (by decide)) rfl (@z00 _ _ _ _ _ _ (@z02 _ _ _ _ (pv 3)) (@z0j _ _) (by rfl)) rfl (by decide) (by rfl) (by rfl)) rfl (Or.inl rfl))
    refine (@z05 _ _ _ _ _ _ ?_ ?_)
    ·exact (@z0t _ _ _ _ _ _ ([]) (5) _ hnp sc_law.nd rfl (Or.inl rfl) (@z0s _ _ _ _ _ _ _ _ _ z0n z0I (pv 4) (@z09 _ _ _ _ (@z0k _ _ _ _ _ (2) _ _ _ _ _ k__law_draw z0o (hr.mono (by decide)) rfl (@z2c _ _ _ _ _ _ (pv 2) (@z00 _ _ _ _ _ _ (@z2Z _ _ _ _ _ _ rfl T.z_len (@z0e _ _ _ _ (pv 4)) (by rfl)) (@z0j _ _) (by rfl)) (by rfl)) rfl (by decide) (by rfl) (by rfl))) (fun _ _=>rfl)) rfl (Or.inl rfl))
    refine (@z05 _ _ _ _ _ _ ?_ ?_)
    ·refine (@z24 _ _ _ _ _ _ _ _ _ PassesOwn.never rfl ?_ ?_ ?_ (by intro _; rfl))
     ·exact (@z6g _ _ _ _ _ (@z1r _ _ _ _ _ (@z07 _ _ _ _ _ _ (@z0s _ _ _ _ _ _ _ _ _ z0n z0I (pv 4) (@z09 _ _ _ _ (@z0k _ _ _ _ _ (2) _ _ _ _ _ k__law_draw z0o (hr.mono (by decide)) rfl (@z2c _ _ _ _ _ _ (pv 2) (@z00 _ _ _ _ _ _ (@z2Z _ _ _ _ _ _ rfl T.z_len (@z0e _ _ _ _ (pv 4)) (by rfl)) (@z0j _ _) (by rfl)) (by rfl)) rfl (by decide) (by rfl) (by rfl))) (fun _ _=>rfl)) (@z07 _ _ _ _ _ _ (@z0s _ _ _ _ _ _ _ _ _ z0n z0I (pv 4) (@z09 _ _ _ _ (@z4v _ _ _ _ _ (@z09 _ _ _ _ (@z06 _ _ _ _ _)))) (fun _ _=>rfl)) (@z07 _ _ _ _ _ _ (@z02 _ _ _ _ (pv 5)) (@z0W _ _) (by rfl)) (by rfl)) (by rfl)) (by decide)))
     ·exact (@z0y _ _ _ ([]) (6) _ hnp sc_law.nd rfl (Or.inl rfl) (Or.inl rfl))
     ·refine (@z0c _ _ _ _ ?_)
      refine (@z2Y _ _ _ _ _ _ _ _ _ ?_ ?_ ?_)
      ·exact (@z4V _ _ _ _ (@z5D _ _ _ _ _ _ _ _ (@z2q _ _ _ _ _ (@z2p _ _ _ _ (@z0k _ _ _ _ _ (5) _ _ _ _ _ k__law_near_right z1V (hr.mono (by decide)) rfl (@z00 _ _ _ _ _ _ (@z02 _ _ _ _ (pv 3)) (@z00 _ _ _ _ _ _ (@z02 _ _ _ _ (pv 5)) (@z00 _ _ _ _ _ _ (@z02 _ _ _ _ (pv 6)) (@z0j _ _) (by rfl)) (by rfl)) (by rfl)) rfl (by decide) (by rfl) (by rfl)) (by intro _; rfl))) (@z4u _ _ _ _ _ (@z2q _ _ _ _ _ (@z2p _ _ _ _ (@z0k _ _ _ _ _ (7) _ _ _ _ _ k__law_far_right z3t (hr.mono (by decide)) rfl (@z00 _ _ _ _ _ _ (@z02 _ _ _ _ (pv 3)) (@z00 _ _ _ _ _ _ (@z02 _ _ _ _ (pv 5)) (@z00 _ _ _ _ _ _ (@z0k _ _ _ _ _ (2) _ _ _ _ _ k__law_draw z0o (hr.mono (by decide)) rfl (@z2c _ _ _ _ _ _ (pv 2) (@z00 _ _ _ _ _ _ (@z06 _ _ _ _ _) (@z0j _ _) (by rfl)) (by rfl)) rfl (by decide) (by rfl) (by rfl)) (@z00 _ _ _ _ _ _ (@z02 _ _ _ _ (pv 6)) (@z0j _ _) (by rfl)) (by rfl)) (by rfl)) (by rfl)) rfl (by decide) (by rfl) (by rfl)) (by intro _; rfl))))))
      ·refine (@z0c _ _ _ _ ?_)
       refine (@z0G _ _ _ _ _ ?_)
       exact (@z4Y _ _ _ _ _)
      ·exact z1A
    refine (@z0c _ _ _ _ ?_)
    refine (@z2Y _ _ _ _ _ _ _ _ _ ?_ ?_ ?_)
    ·exact (@z4V _ _ _ _ (@z5D _ _ _ _ _ _ _ _ (@z2q _ _ _ _ _ (@z2p _ _ _ _ (@z0k _ _ _ _ _ (6) _ _ _ _ _ k__law_refused_right z2K (hr.mono (by decide)) rfl (@z2c _ _ _ _ _ _ (pv 2) (@z00 _ _ _ _ _ _ (@z02 _ _ _ _ (pv 3)) (@z00 _ _ _ _ _ _ (@z02 _ _ _ _ (pv 5)) (@z0j _ _) (by rfl)) (by rfl)) (by rfl)) rfl (by decide) (by rfl) (by rfl)) (by intro _; rfl))) (@z4u _ _ _ _ _ (@z2q _ _ _ _ _ (@z2p _ _ _ _ (@z0k _ _ _ _ _ (5) _ _ _ _ _ k__law_near_right z1V (hr.mono (by decide)) rfl (@z00 _ _ _ _ _ _ (@z02 _ _ _ _ (pv 3)) (@z00 _ _ _ _ _ _ (@z0s _ _ _ _ _ _ _ _ _ z0n z0I (pv 4) (@z09 _ _ _ _ (@z06 _ _ _ _ _)) (fun _ _=>rfl)) (@z00 _ _ _ _ _ _ (@z02 _ _ _ _ (pv 5)) (@z0j _ _) (by rfl)) (by rfl)) (by rfl)) rfl (by decide) (by rfl) (by rfl)) (by intro _; rfl))))))
    ·refine (@z0c _ _ _ _ ?_)
     refine (@z0G _ _ _ _ _ ?_)
     exact (@z4Y _ _ _ _ _)
    ·exact z1A
  refine (@z0c _ _ _ _ ?_)
  refine (@z0G _ _ _ _ _ ?_)
  exact (@z4Y _ _ _ _ _)) fun ss y h=>z0O (hGt ss y h)
theorem all_mk {l:PySem.W.OpenLaw} {w:Wp} {K:W0} {h:Heap} {mg:Str→Option Value} {fa:Addr} {Gt:DF} (hGt:∀ ce,InjC ce→∀ ss y,Gt ss=some y→z9J ce ss=some y) (X:K.In h) (G:h.Ns Wn mg) (hfa:mg "law" = some (.ref fa))
  (d0:FnH K "_law_cell_at" z2B)
  (d1:FnH K "_law_pen_of" z2M)
  (d2:FnH K "_law_next" z3C)
  (d3:FnH K "_law_draw" z3D)
  (d4:FnH K "_law_rule_by" z2y)
  (d5:FnH K "_law_tiles_of" z2d)
  (d6:FnH K "refuse_no_tile" z1Z)
  (d7:FnH K "whole_from" z30)
  (d8:FnH K "whole_within" z2v)
  (d9:FnH K "refuse_growings" z1C)
  (d10:FnH K "grown_places" z2x)
  (d11:FnH K "first_far" z3A)
  (d12:FnH K "grown_size" z31)
  (d13:FnH K "refuse_place" z2w)
  (d14:FnH K "digits_far" z32)
  (d15:FnH K "line_far" z4d)
  (d16:FnH K "tile_far" z4c)
  (d17:FnH K "_law_whole" z33)
  (d18:FnH K "_law_pair_is" z2z)
  (d19:FnH K "_law_far_right" z20)
  (d20:FnH K "_law_grown" z34)
  (d21:FnH K "_law_floors" z2N)
  (d22:FnH K "_law_first" z35)
  (d23:FnH K "_law_near_right" z1D)
  (d24:FnH K "_law_odd_tile" z2e)
  (d25:FnH K "_law_kind_of" z2A)
  (d26:FnH K "_law_told" z3B)
  (d27:FnH K "_law_refused_right" z1c)
  (a28:nsIn K Wn "law" = some (some (.ref f28)))
  (l28:K.lookup f28=some ⟨oc28,od28,.func (Qr "law" "law" (z2Q z6l) (z19 z6l) (z04 z6l) .none kV28 dc28 pm28 an28 cd28 ct28),sl28⟩)
  (c28:codeIn K cd28 "law" = true)
  (k28:keepIn K (.ref f28)=true)
  (z_ValueError:nsIn K Wn "ValueError" = some none)
  (z_bool:nsIn K Wn "bool" = some none)
  (z_dict:nsIn K Wn "dict" = some none)
  (z_enumerate:nsIn K Wn "enumerate" = some none)
  (z_int:nsIn K Wn "int" = some none)
  (z_isinstance:nsIn K Wn "isinstance" = some none)
  (z_len:nsIn K Wn "len" = some none)
  (z_max:nsIn K Wn "max" = some none)
  (z_min:nsIn K Wn "min" = some none)
  (z_range:nsIn K Wn "range" = some none)
  (z_str:nsIn K Wn "str" = some none)
  (z_tuple:nsIn K Wn "tuple" = some none)
  (g_MOST_GROWINGS:nsIn K Wn "MOST_GROWINGS" = some (some (.int 60 t_MOST_GROWINGS)))
  (ac_j:nsIn K Wn "FloorError" = some (some (.ref C_j)))
  (ac_a:nsIn K Wn "NoFloor" = some (some (.ref C_a)))
  (ac_b:nsIn K Wn "NoPlace" = some (some (.ref C_b)))
  (ac_c:nsIn K Wn "NoNumber" = some (some (.ref C_c)))
  (ac_d:nsIn K Wn "NoRow" = some (some (.ref C_d)))
  (ac_e:nsIn K Wn "Unlike" = some (some (.ref C_e)))
  (ac_f:nsIn K Wn "NoTile" = some (some (.ref C_f)))
  (ac_g:nsIn K Wn "NoRule" = some (some (.ref C_g)))
  (ac_h:nsIn K Wn "NoText" = some (some (.ref C_h)))
  (ac_i:nsIn K Wn "TooGreat" = some (some (.ref C_i)))
  (ia_f:QS K (.ref C_f) "__init__" = some (some (.ref fi_f)))
  (li_f:K.lookup fi_f=some ⟨oci_f,odi_f,.func (Qr "__init__" "NoTile.__init__" (z2Q si_f) (z19 si_f) (z04 si_f) .none kVi_f dci_f pmi_f ani_f cdi_f cti_f),sli_f⟩)
  (cci_f:codeIn K cdi_f "NoTile.__init__" = true)
  (kfi_f:keepIn K (.ref fi_f)=true)
  (qi_f:excI K C_f fi_f=true)
  (fni_f:PySem.W.isFn K (.ref fi_f)=true)
  (kci_f:keepIn K (.ref C_f)=true)
  (sai_f:QS K (.ref C_f) "__setattr__" = some (some (.builtin "object.__setattr__")))
  (ovi_f:z8M K C_f=true)
  (hdi_f:PySem.W.hasDictIn K C_f=true)
  (tki_f:PySem.W.takerIn K C_f "tile" = some none)
  (qc_j:JM K C_j vErr "ValueError.__new__" = true)
  (qc_c:JM K C_c vErr "ValueError.__new__" = true)
  (qc_b:JM K C_b vErr "ValueError.__new__" = true)
  (spc:PySem.W.specialIn K (.builtin "object.__class__") "__get__" = some (some (.builtin "getset_descriptor.__get__")))
  (tkc:PySem.W.takesIn K (.builtin "object.__class__")=some true)
  (ga_b:QS K (.ref C_b) "__getattribute__" = some (some (.builtin "BaseException.__getattribute__")))
  (gt_b:QS K (.ref C_b) "__getattr__" = some none)
  (cl_b:QS K (.ref C_b) "__class__" = some (some (.builtin "object.__class__")))
  (mo_b:mroIn K C_b (.type "object")=some true)
  (mb_b:mroIn K C_b (.type "BaseException")=some true)
  (ci_b:PySem.W.isClsIn K C_b=true)
  (kv_b:WV K (.ref C_b) (.type "ValueError")=some true)
  (ki_b_a:WV K (.ref C_b) (.ref C_a)=some false)
  (ki_b_b:WV K (.ref C_b) (.ref C_b)=some true)
  (ki_b_c:WV K (.ref C_b) (.ref C_c)=some false)
  (ki_b_d:WV K (.ref C_b) (.ref C_d)=some false)
  (ki_b_e:WV K (.ref C_b) (.ref C_e)=some false)
  (ki_b_f:WV K (.ref C_b) (.ref C_f)=some false)
  (ki_b_g:WV K (.ref C_b) (.ref C_g)=some false)
  (ki_b_h:WV K (.ref C_b) (.ref C_h)=some false)
  (ki_b_i:WV K (.ref C_b) (.ref C_i)=some false)
  (mr_b_j:mroIn K C_b (.ref C_j)=some true)
  (ga_c:QS K (.ref C_c) "__getattribute__" = some (some (.builtin "BaseException.__getattribute__")))
  (gt_c:QS K (.ref C_c) "__getattr__" = some none)
  (cl_c:QS K (.ref C_c) "__class__" = some (some (.builtin "object.__class__")))
  (mo_c:mroIn K C_c (.type "object")=some true)
  (mb_c:mroIn K C_c (.type "BaseException")=some true)
  (ci_c:PySem.W.isClsIn K C_c=true)
  (kv_c:WV K (.ref C_c) (.type "ValueError")=some true)
  (ki_c_a:WV K (.ref C_c) (.ref C_a)=some false)
  (ki_c_b:WV K (.ref C_c) (.ref C_b)=some false)
  (ki_c_c:WV K (.ref C_c) (.ref C_c)=some true)
  (ki_c_d:WV K (.ref C_c) (.ref C_d)=some false)
  (ki_c_e:WV K (.ref C_c) (.ref C_e)=some false)
  (ki_c_f:WV K (.ref C_c) (.ref C_f)=some false)
  (ki_c_g:WV K (.ref C_c) (.ref C_g)=some false)
  (ki_c_h:WV K (.ref C_c) (.ref C_h)=some false)
  (ki_c_i:WV K (.ref C_c) (.ref C_i)=some false)
  (mr_c_j:mroIn K C_c (.ref C_j)=some true)
  (ga_f:QS K (.ref C_f) "__getattribute__" = some (some (.builtin "BaseException.__getattribute__")))
  (gt_f:QS K (.ref C_f) "__getattr__" = some none)
  (cl_f:QS K (.ref C_f) "__class__" = some (some (.builtin "object.__class__")))
  (mo_f:mroIn K C_f (.type "object")=some true)
  (mb_f:mroIn K C_f (.type "BaseException")=some true)
  (ci_f:PySem.W.isClsIn K C_f=true)
  (kv_f:WV K (.ref C_f) (.type "ValueError")=some true)
  (ki_f_a:WV K (.ref C_f) (.ref C_a)=some false)
  (ki_f_b:WV K (.ref C_f) (.ref C_b)=some false)
  (ki_f_c:WV K (.ref C_f) (.ref C_c)=some false)
  (ki_f_d:WV K (.ref C_f) (.ref C_d)=some false)
  (ki_f_e:WV K (.ref C_f) (.ref C_e)=some false)
  (ki_f_f:WV K (.ref C_f) (.ref C_f)=some true)
  (ki_f_g:WV K (.ref C_f) (.ref C_g)=some false)
  (ki_f_h:WV K (.ref C_f) (.ref C_h)=some false)
  (ki_f_i:WV K (.ref C_f) (.ref C_i)=some false)
  (mr_f_j:mroIn K C_f (.ref C_j)=some true)
  : ∃ fd:WD,(∀ (s:W2) (v:Value),BindsTo s fd ⟨[v],[]⟩ [("script",v)])∧∀ base:Heap,K.In base→base.Ns Wn mg→FnOk l.prog w K mg base CX0 8 fa fd ["script"] (spD 1 Gt):=by
 have e:=hfa.symm.trans (mg_of X G a28)
 cases e
 have E_b:ExcK K C_b:=⟨ga_b,gt_b,cl_b,spc,tkc,mo_b,mb_b⟩
 have E_c:ExcK K C_c:=⟨ga_c,gt_c,cl_c,spc,tkc,mo_c,mb_c⟩
 have E_f:ExcK K C_f:=⟨ga_f,gt_f,cl_f,spc,tkc,mo_f,mb_f⟩
 have T:Txt (ceOf [([70,108,111,111,114,69,114,114,111,114],C_j),([78,111,70,108,111,111,114],C_a),([78,111,80,108,97,99,101],C_b),([78,111,78,117,109,98,101,114],C_c),([78,111,82,111,119],C_d),([85,110,108,105,107,101],C_e),([78,111,84,105,108,101],C_f),([78,111,82,117,108,101],C_g),([78,111,84,101,120,116],C_h),([84,111,111,71,114,101,97,116],C_i)]) K mg:=⟨WK X G z_ValueError,WK X G z_bool,WK X G z_dict,WK X G z_enumerate,WK X G z_int,WK X G z_isinstance,WK X G z_len,WK X G z_max,WK X G z_min,WK X G z_range,WK X G z_str,WK X G z_tuple,zbA,zdh,zdg,z9M,⟨_,mg_of X G g_MOST_GROWINGS⟩,mg_of X G ac_j,mg_of X G ac_a,mg_of X G ac_b,mg_of X G ac_c,mg_of X G ac_d,mg_of X G ac_e,mg_of X G ac_f,mg_of X G ac_g,mg_of X G ac_h,mg_of X G ac_i,qc_j,qc_c,qc_b,⟨(fm3 E_b E_c E_f),(fm3 ci_b ci_c ci_f),(fm3 ki_b_a ki_c_a ki_f_a)⟩,⟨(fm3 E_b E_c E_f),(fm3 ci_b ci_c ci_f),(fm3 ki_b_b ki_c_b ki_f_b)⟩,⟨(fm3 E_b E_c E_f),(fm3 ci_b ci_c ci_f),(fm3 ki_b_c ki_c_c ki_f_c)⟩,⟨(fm3 E_b E_c E_f),(fm3 ci_b ci_c ci_f),(fm3 ki_b_d ki_c_d ki_f_d)⟩,⟨(fm3 E_b E_c E_f),(fm3 ci_b ci_c ci_f),(fm3 ki_b_e ki_c_e ki_f_e)⟩,⟨(fm3 E_b E_c E_f),(fm3 ci_b ci_c ci_f),(fm3 ki_b_f ki_c_f ki_f_f)⟩,⟨(fm3 E_b E_c E_f),(fm3 ci_b ci_c ci_f),(fm3 ki_b_g ki_c_g ki_f_g)⟩,⟨(fm3 E_b E_c E_f),(fm3 ci_b ci_c ci_f),(fm3 ki_b_h ki_c_h ki_f_h)⟩,⟨(fm3 E_b E_c E_f),(fm3 ci_b ci_c ci_f),(fm3 ki_b_i ki_c_i ki_f_i)⟩,⟨(fm3 E_b E_c E_f),(fm3 ci_b ci_c ci_f),(fm3 kv_b kv_c kv_f)⟩,(fm3 ⟨(by rw [show toS [78,111,80,108,97,99,101]=("NoPlace" : Str) from by decide +kernel]; exact mg_of X G ac_b),mr_b_j⟩ ⟨(by rw [show toS [78,111,78,117,109,98,101,114]=("NoNumber" : Str) from by decide +kernel]; exact mg_of X G ac_c),mr_c_j⟩ ⟨(by rw [show toS [78,111,84,105,108,101]=("NoTile" : Str) from by decide +kernel]; exact mg_of X G ac_f),mr_f_j⟩)⟩
 have ne_b_c:C_b≠C_c:=fun q=>by rw [q] at ki_b_c; cases ki_b_c.symm.trans ki_c_c
 have ne_b_f:C_b≠C_f:=fun q=>by rw [q] at ki_b_f; cases ki_b_f.symm.trans ki_f_f
 have ne_c_b:C_c≠C_b:=fun q=>by rw [q] at ki_c_b; cases ki_c_b.symm.trans ki_b_b
 have ne_c_f:C_c≠C_f:=fun q=>by rw [q] at ki_c_f; cases ki_c_f.symm.trans ki_f_f
 have ne_f_b:C_f≠C_b:=fun q=>by rw [q] at ki_f_b; cases ki_f_b.symm.trans ki_b_b
 have ne_f_c:C_f≠C_c:=fun q=>by rw [q] at ki_f_c; cases ki_f_c.symm.trans ki_c_c
 have hinj:InjC (ceOf [([70,108,111,111,114,69,114,114,111,114],C_j),([78,111,70,108,111,111,114],C_a),([78,111,80,108,97,99,101],C_b),([78,111,78,117,109,98,101,114],C_c),([78,111,82,111,119],C_d),([85,110,108,105,107,101],C_e),([78,111,84,105,108,101],C_f),([78,111,82,117,108,101],C_g),([78,111,84,101,120,116],C_h),([84,111,111,71,114,101,97,116],C_i)]):=by
  intro x hx y hy e
  simp only [ys,Wf,Jn,or_false] at hx hy
  rcases hx with rfl | rfl | rfl <;> rcases hy with rfl | rfl | rfl <;> first | rfl | exact absurd e ne_b_c | exact absurd e ne_b_f | exact absurd e ne_c_b | exact absurd e ne_c_f | exact absurd e ne_f_b | exact absurd e ne_f_c
 obtain ⟨f0,fd0,F0,m0⟩:=fnH X G d0
 obtain ⟨f1,fd1,F1,m1⟩:=fnH X G d1
 obtain ⟨f2,fd2,F2,m2⟩:=fnH X G d2
 obtain ⟨f3,fd3,F3,m3⟩:=fnH X G d3
 obtain ⟨f4,fd4,F4,m4⟩:=fnH X G d4
 obtain ⟨f5,fd5,F5,m5⟩:=fnH X G d5
 obtain ⟨f6,fd6,F6,m6⟩:=fnH X G d6
 obtain ⟨f7,fd7,F7,m7⟩:=fnH X G d7
 obtain ⟨f8,fd8,F8,m8⟩:=fnH X G d8
 obtain ⟨f9,fd9,F9,m9⟩:=fnH X G d9
 obtain ⟨f10,fd10,F10,m10⟩:=fnH X G d10
 obtain ⟨f11,fd11,F11,m11⟩:=fnH X G d11
 obtain ⟨f12,fd12,F12,m12⟩:=fnH X G d12
 obtain ⟨f13,fd13,F13,m13⟩:=fnH X G d13
 obtain ⟨f14,fd14,F14,m14⟩:=fnH X G d14
 obtain ⟨f15,fd15,F15,m15⟩:=fnH X G d15
 obtain ⟨f16,fd16,F16,m16⟩:=fnH X G d16
 obtain ⟨f17,fd17,F17,m17⟩:=fnH X G d17
 obtain ⟨f18,fd18,F18,m18⟩:=fnH X G d18
 obtain ⟨f19,fd19,F19,m19⟩:=fnH X G d19
 obtain ⟨f20,fd20,F20,m20⟩:=fnH X G d20
 obtain ⟨f21,fd21,F21,m21⟩:=fnH X G d21
 obtain ⟨f22,fd22,F22,m22⟩:=fnH X G d22
 obtain ⟨f23,fd23,F23,m23⟩:=fnH X G d23
 obtain ⟨f24,fd24,F24,m24⟩:=fnH X G d24
 obtain ⟨f25,fd25,F25,m25⟩:=fnH X G d25
 obtain ⟨f26,fd26,F26,m26⟩:=fnH X G d26
 obtain ⟨f27,fd27,F27,m27⟩:=fnH X G d27
 have F28:=zb0 (st:=z6l) l28 c28 k28
 have Fi_f:=zb0 (st:=si_f) li_f cci_f kfi_f
 have bi_f:Binds K _ ["self","tile"] []:=bd2 Fi_f fun _ _ _ _ _ _ _ _=>rfl
 refine ⟨Qr "law" "law" (z2Q z6l) (z19 z6l) (z04 z6l) .none kV28 dc28 pm28 an28 cd28 ct28,fun s v=>.of_eq rfl,fun base _ _=>?_⟩
 have n_f:IniK l.prog w K mg base C_f "tile":=⟨fi_f,_,["self","tile"],qi_f,fni_f,kci_f,⟨sai_f,ovi_f,hdi_f,tki_f⟩,bi_f,zcz Fi_f sci_f rfl (fun vs h=>by unfold L2.start; simp [h]) fun cdv A outer s H E hr=>zah (zdS (pv 0) (pv 1) rfl)⟩
 have k__law_cell_at:=z5i (P:=l.prog) (w:=w) (base:=base) F0 m0 (bd2 F0 fun _ _ _ _ _ _ _ _=>rfl) T
 have k__law_pen_of:=z5E (P:=l.prog) (w:=w) (base:=base) F1 m1 (bd1 F1 fun _ _ _ _ _ _ _=>rfl) T
 have k__law_next:=z7d (P:=l.prog) (w:=w) (base:=base) F2 m2 (bd1 F2 fun _ _ _ _ _ _ _=>rfl) T
 have k__law_draw:=z7e F3 m3 (bd2 F3 fun _ _ _ _ _ _ _ _=>rfl) T k__law_next
 have k__law_rule_by:=z5g F4 m4 (bd2 F4 fun _ _ _ _ _ _ _ _=>rfl) T k__law_draw
 have k__law_tiles_of:=z4C (P:=l.prog) (w:=w) (base:=base) F5 m5 (bd1 F5 fun _ _ _ _ _ _ _=>rfl) T
 have k_refuse_no_tile:=z4h F6 m6 (bd2 F6 fun _ _ _ _ _ _ _ _=>rfl) T n_f
 have k_whole_from:=z6r (P:=l.prog) (w:=w) (base:=base) F7 m7 (bd2 F7 fun _ _ _ _ _ _ _ _=>rfl) T
 have k_whole_within:=z5d F8 m8 (bd3 F8 fun _ _ _ _ _ _ _ _ _=>rfl) T k_whole_from
 have k_refuse_growings:=z3W F9 m9 (bd1 F9 fun _ _ _ _ _ _ _=>rfl) T k_whole_within
 have k_grown_places:=z5f (P:=l.prog) (w:=w) (base:=base) F10 m10 (bd4 F10 fun _ _ _ _ _ _ _ _ _ _=>rfl) T
 have k_first_far:=z7b F11 m11 (bd4 F11 fun _ _ _ _ _ _ _ _ _ _=>rfl) T k_refuse_no_tile k_refuse_growings k_grown_places
 have k_grown_size:=z6s (P:=l.prog) (w:=w) (base:=base) F12 m12 (bd3 F12 fun _ _ _ _ _ _ _ _ _=>rfl) T
 have k_refuse_place:=z5e F13 m13 (bd4 F13 fun _ _ _ _ _ _ _ _ _ _=>rfl) T k_whole_within k_grown_size
 have k_digits_far:=z6t F14 m14 (bd4 F14 fun _ _ _ _ _ _ _ _ _ _=>rfl) T k_refuse_growings k_refuse_place
 have k_line_far:=z87 F15 m15 (bd5 F15 fun _ _ _ _ _ _ _ _ _ _ _=>rfl) T k_refuse_no_tile k_digits_far
 have k_tile_far:=z86 F16 m16 (bd5 F16 fun _ _ _ _ _ _ _ _ _ _ _=>rfl) T k_line_far
 have k__law_whole:=z6u (P:=l.prog) (w:=w) (base:=base) F17 m17 (bd1 F17 fun _ _ _ _ _ _ _=>rfl) T
 have k__law_pair_is:=z5h F18 m18 (bd2 F18 fun _ _ _ _ _ _ _ _=>rfl) T k__law_whole
 have k__law_far_right:=z4i F19 m19 (bd4 F19 fun _ _ _ _ _ _ _ _ _ _=>rfl) T k_first_far k_tile_far k__law_pair_is
 have k__law_grown:=z6v (P:=l.prog) (w:=w) (base:=base) F20 m20 (bd2 F20 fun _ _ _ _ _ _ _ _=>rfl) T
 have k__law_floors:=z5F F21 m21 (bd3 F21 fun _ _ _ _ _ _ _ _ _=>rfl) T k__law_grown
 have k__law_first:=z6w (P:=l.prog) (w:=w) (base:=base) F22 m22 (bd2 F22 fun _ _ _ _ _ _ _ _=>rfl) T
 have k__law_near_right:=z3X F23 m23 (bd3 F23 fun _ _ _ _ _ _ _ _ _=>rfl) T k_first_far k__law_pair_is k__law_floors k__law_first
 have k__law_odd_tile:=z4D F24 m24 (bd2 F24 fun _ _ _ _ _ _ _ _=>rfl) T k__law_draw k__law_tiles_of
 have h__law_kind_of:=z4B (P:=l.prog) (w:=w) (base:=base) F25 m25 (bd1 F25 fun _ _ _ _ _ _ _=>rfl) T
 have k__law_told:=z7c F26 m26 (bd4 F26 fun _ _ _ _ _ _ _ _ _ _=>rfl) T k_first_far h__law_kind_of
 have k__law_refused_right:=z38 F27 m27 (bd3 F27 fun _ _ _ _ _ _ _ _ _=>rfl) T k__law_draw k__law_odd_tile k__law_told
 exact zfC F28 T k__law_cell_at k__law_pen_of k__law_draw k__law_rule_by k__law_tiles_of k__law_far_right k__law_near_right k__law_refused_right (hGt _ hinj)
open PySem (sizeLine)
theorem z5M (f:DE) (δ:Dl):iSq f δ=(f δ).bind fun r δ1=>match r.d with
 | .lst ds=>.ok ds δ1
 | .tup ds=>.ok ds δ1
 | .str x=>.ok (x.map fun n=>.str [n]) δ1
 | _=>.stuck:=id rfl
theorem z3e (f F:A→D) (p:A→Bool) (δ:Dl):∀ (as:List A) (acc:List D),acc.length + as.length≤W3 →
  (∀ a ∈ as,∃ δ1 δ2 x δ3,g (.pure (f a)) δ=some δ1∧t δ1 = .ok (p a) δ2∧clrD cs δ2=δ∧el δ2 = .ok x δ3∧clrD cs δ3=δ∧x.d=F a)→z2l cs g t el (as.map f) δ acc = .ok (acc ++ (as.filter p).map F) δ
 | [],acc,_,_=>by simp [z2l]
 | a :: r,acc,hl,hs=>by
  obtain ⟨δ1,δ2,x,δ3,e1,e2,e2',e3,e4,e5⟩:=hs a Wh
  have hl':acc.length < W3:=by simp at hl; omega
  rw [Wr]
  unfold z2l
  rw [e1]
  cases hp:p a with
  | true =>
   have ih:=z3e (cs:=cs) (g:=g) (t:=t) (el:=el) f F p δ r (acc ++ [x.d]) (by simp at hl ⊢; omega) (fun a ha=>hs a (We _ ha))
   rw [e5] at ih
   rw [hp] at e2
   simp only [e2,z0N,if_true,e3,if_pos hl',e4,e5,ih,JN,hp]
   simp
  | false =>
   have ih:=z3e (cs:=cs) (g:=g) (t:=t) (el:=el) f F p δ r acc (by simp at hl ⊢; omega) (fun a ha=>hs a (We _ ha))
   rw [hp] at e2
   simp only [e2,z0N,e2',ih,JN,hp]
   simp
def nx (s:Int):Int:=(((s + 7919) % 2147483647) * ((s + 7919) % 2147483647) + 48271 * ((s + 7919) % 2147483647) + 12345) % 2147483629
theorem zf0 (s:Int):z1k [.pure (.int s)]=some (.pure (.int (nx s)),[.pure (.int s)]):=by
 unfold z1k gOf z3K runD
 have h1:=Int.emod_nonneg (s + 7919) (b:=2147483647) (by decide)
 have h2:=Int.emod_lt_of_pos (s + 7919) (b:=2147483647) (by decide)
 have c1:cMul ((s + 7919) % 2147483647) ((s + 7919) % 2147483647)=true:=by unfold cMul; simp; omega
 have c2:cMul 48271 ((s + 7919) % 2147483647)=true:=by unfold cMul; simp
 simp [ioOk,z0f,dAsg,eOpF,eOpN,bVar,pAdd,pMod,pII,z1h,pMul,c1,c2,z0H,z0a]
 rfl
def Pen (d:D):Prop:=∃ l f s:Int,d = .lst [.int l,.int f,.int s]∧0≤l
theorem z8H (hp:Pen d) (m:Nat) (h0:0 < m) (h1:m < 1073741824):∃ (r:Nat) (d':D),z0b [.own d,.pure (.int m)]=some (.pure (.int r),[.own d',.pure (.int m)])∧r < m∧Pen d':=by
 obtain ⟨l,f,s,rfl,hl⟩:=hp
 have hm:(0:Int) < (m:Int):=by omega
 have hd:cDiv l m=true:=by unfold cDiv; simp; omega
 unfold z0b gOf z3L runD
 by_cases hf:f=1
 ·subst hf
  have e1:=Int.emod_nonneg l (b:=(m:Int)) (by omega)
  have e2:=Int.emod_lt_of_pos l hm
  refine ⟨(l % (m:Int)).toNat,.lst [.int (l / m),.int 1,.int s],?_,by omega,⟨_,_,_,rfl,Int.ediv_nonneg hl (by omega)⟩⟩
  simp [ioOk,z0f,dAsg,eOpF,eOpN,bVar,eVar,pIx,pEq,eqD,flat,z1Q,z5z,z8s,dTr,pMod,pDiv,pII,h0,hd,z7C,z1X,putL,z0H,z0a,ixN]
  omega
 ·have e1:=Int.emod_nonneg (nx (nx s + 7) / 64) (b:=(m:Int)) (by omega)
  have e2:=Int.emod_lt_of_pos (nx (nx s + 7) / 64) hm
  refine ⟨(nx (nx s + 7) / 64 % (m:Int)).toNat,.lst [.int l,.int f,.int (nx (nx s + 7))],?_,by omega,⟨_,_,_,rfl,hl⟩⟩
  simp [ioOk,z0f,dAsg,eOpF,eOpN,bVar,eVar,pIx,pEq,eqD,flat,z1Q,z5z,z8s,dTr,pMod,pDiv,pII,h0,hd,z7C,z1X,putL,z0H,z0a,ixN,hf,z08,ios,z0B,ndup,evX,mkA,zf0,pAdd,putA,cDiv]
  omega
theorem r_pen (c:Int):∃ d,z12 [.pure (.int c)]=some (.own d,[.pure (.int c)])∧Pen d:=by
 unfold z12 gOf z2S runD
 refine ⟨.lst [.int (if 0 - c > c then 0 - c else c),.int (if decide (1000000000000000000≤(if 0 - c > c then 0 - c else c)) then 1 else 0),.int ((if 0 - c > c then 0 - c else c) % 1000003)],?_,⟨_,_,_,rfl,by split <;> omega⟩⟩
 simp [ioOk,z0f,dAsg,eOpF,eOpN,bVar,eVar,pMax,pSub,pII,pInt,pGe,pCmp,pPow,cPow,pMod,z0H,z0a]
theorem z7Y (ns:List Int):∃ c:Int,z0V [.pure (.lst (ns.map .int)),.pure (.int 0)]=some (.pure (.int c),[.pure (.lst (ns.map .int)),.pure (.int 0)]):=by
 unfold z0V gOf z2I runD
 cases ns with
 | nil=>exact ⟨0,by simp [ioOk,z0f,eOpF,eOpN,bVar,pLt,pCmp,dTr,pLen,z0H,z0a]⟩
 | cons n r=>exact ⟨n,by
   have:(0:Int) < (r.length:Int) + 1:=by omega
   simp [ioOk,z0f,eOpF,eOpN,bVar,pLt,pCmp,dTr,pLen,z0H,z0a,pIx,z1Q,this]⟩
theorem z6m (hp:Pen d) (m:Nat) (i:Int) (hi:i=m) (h0:0 < m) (h1:m < 1073741824):∃ (r:Nat) (d':D),z0b [.own d,.pure (.int i)]=some (.pure (.int r),[.own d',.pure (.int i)])∧r < m∧Pen d':=by
 subst hi
 exact z8H hp m h0 h1
def lettersT:Tx:=[97,98,99,100,101,102,103,104,105,106,107,108,109,110,111,112,113,114,115,116,117,118,119,120,121,122]
def tsOf (s n:Nat):Tx:=(Wa n).map fun k=>97 + s + k
theorem z8e:∀ s,s < 26→∀ r,r < 26→s + 1 + r≤26→(lettersT.drop s).take (1 + r)=tsOf s (1 + r):=by decide
theorem z7k {s r:Nat} (h:s + 1 + r≤26):cutL lettersT (some (s:Int)) (some ((s:Int) + 1 + (r:Int)))=tsOf s (1 + r):=by
 rw [← z8e s (by omega) r (by omega) h]
 have h1:¬ (s:Int) < 0:=by omega
 have h2:¬ (s:Int) + 1 + (r:Int) < 0:=by omega
 have h3:((s:Int) + 1 + (r:Int)).toNat=s + 1 + r:=by omega
 have hl:lettersT.length=26:=rfl
 unfold cutL HT.sIx
 simp only [h1,h2,if_false,h3,hl]
 have e1:min ((s:Int).toNat) 26=s:=by omega
 have e2:min (s + 1 + r) 26 - min ((s:Int).toNat) 26=1 + r:=by omega
 rw [e1] at e2 ⊢
 rw [e2]
theorem zeL (s n:Nat):(tsOf s n).length=n:=by simp [tsOf]
theorem ts_up (s n:Nat):(tsOf s n).Pairwise (· < ·):=by
 unfold tsOf
 rw [List.pairwise_map]
 exact (List.pairwise_lt_range (n:=n)).imp fun h=>by omega
theorem zeK (h:s + n≤26) (ht:t ∈ tsOf s n):97≤t∧t≤122:=by
 simp [tsOf] at ht
 obtain ⟨k,hk,rfl⟩:=ht
 omega
def rb2 (pd:D) (m h w s:Nat) (ts:Tx) (al:Nat) (blocks:List D) (o9 o10 o11 o12 o13:Option S):Dl :=
 [some (.own pd),some (.pure (.int m)),some (.pure (.str lettersT)),some (.pure (.int h)),some (.pure (.int w)),some (.pure (.int s)),some (.pure (.str ts)),some (.pure (.int (1 + (al:Int)))),some (.own (.lst blocks)),o9,o10,o11,o12,o13,none]
abbrev z92:DE:=eOpF pIx 6 (bOf (eOp pDiv (z08 z0b [.io 0,.val (eC1 pLen (bVar 6))]) (bVar 7)))
theorem zdG (hts0:0 < ts.length) (hts:ts.length≤26) (hal:al < 3) (hw:w≤4) (hpd:Pen pd) (blocks:List D) (o9 o10 o11 o12 o13:Option S) :
  ∃ (x:Tx) (pd':D),z2l [14] (gNm [0] 14) dYes z92 (z0R 0 w) (rb2 pd m h w s ts al blocks o9 o10 o11 o12 o13) [] = .ok (x.map fun n=>.str [n]) (rb2 pd' m h w s ts al blocks o9 o10 o11 o12 o13)∧x.length=w∧(∀ n ∈ x,n ∈ ts)∧Pen pd':=by
 obtain ⟨xs,δ',e,⟨pd',hpd',rfl⟩,hn,hf⟩:=z7F (cs:=[14]) (g:=gNm [0] 14) (t:=dYes) (el:=z92) (fun δ=>∃ pd,Pen pd∧δ=rb2 pd m h w s ts al blocks o9 o10 o11 o12 o13)
  (fun _ x=>∃ n,n ∈ ts∧x = .str [n]) (z0R 0 w) _ [] ⟨pd,hpd,rfl⟩ (by rw [z2h]; simp; omega) (fun d hd δ ⟨pd,hpd,e⟩=>by
   subst e
   obtain ⟨i,hi,rfl⟩:=z7w hd
   obtain ⟨r,d',e,l,p⟩:=z8H hpd ts.length hts0 (by omega)
   have hd:pDiv (.int r) (.int (1 + (al:Int)))=some (.pure (.int ((r / (1 + al):Nat):Int))):=by
    have hc:cDiv (r:Int) (1 + (al:Int))=true:=by unfold cDiv; simp; omega
    show (if cDiv (r:Int) (1 + (al:Int)) then _ else _)=_
    rw [if_pos hc]
    simp
   have hlt:r / (1 + al) < ts.length:=Nat.lt_of_le_of_lt (Nat.div_le_self _ _) l
   refine ⟨_,_,.pure (.str [ts.getD (r / (1 + al)) 0]),(rb2 d' m h w s ts al blocks o9 o10 o11 o12 o13).set 14 (some (.pure (.int i))),rfl,rfl,?_,⟨d',p,rfl⟩,⟨_,?_,rfl⟩⟩
   ·have hx:=z7y ts (r / (1 + al)) hlt (by omega)
    simp only [rb2,z92,eOpF,eOpN,zd9,zga,List.set_cons_succ,List.set_cons_zero,List.getElem?_cons_succ,List.getElem?_cons_zero,z08,ios,ndup,List.all_cons,List.all_nil,z0B,Bool.and_true,if_true,evX,zgb,bVar,z0N,ev_p1,zgc,z9A ts (by omega),List.contains_nil,Bool.not_false,mkA,WF,e,putA,zg9,hd,hx]
   ·simp [hlt])
 obtain ⟨x,rfl,hx⟩:=z9Y (P:=fun n=>n ∈ ts) (zdF hn hf fun d x _ h=>h)
 exact ⟨x,pd',by simpa using e,by simpa using hn,hx,hpd'⟩
abbrev bRow:DS:=(dSeq (dAsg (z6H [14] (z1e (eVar 4)) (gNm [0] 14) dYes z92) (gNm [0] 12)) (z0F 10 (eC1 (z83 []) (bVar 12))))
theorem zeZ (hts0:0 < ts.length) (hts:ts.length≤26) (hal:al < 3) (hw:w≤4) (hh:h≤4) (hpd:Pen pd) (blocks:List D) (o9 o11 o12 o13:Option S) :
  ∃ (fl:List Tx) (pd':D) (o11' o12':Option S),forL (gNm [0] 11) bRow (z0R 0 h) (rb2 pd m h w s ts al blocks o9 (some (.own (.lst []))) o11 o12 o13) = .ok .next (rb2 pd' m h w s ts al blocks o9 (some (.own (.lst (fl.map .str)))) o11' o12' o13)∧fl.length=h∧(∀ r ∈ fl,r.length=w∧∀ n ∈ r,n ∈ ts)∧Pen pd':=by
 obtain ⟨δ',e3,pd',fl,o11',o12',hpd',hfl,hall,rfl⟩:=z1O (g:=gNm [0] 11) (b:=bRow) (fun k δ=>∃ (pd:D) (fl:List Tx) (o11 o12:Option S),Pen pd∧fl.length=k∧(∀ r ∈ fl,r.length=w∧∀ n ∈ r,n ∈ ts)∧δ=rb2 pd m h w s ts al blocks o9 (some (.own (.lst (fl.map .str)))) o11 o12 o13)
  (z0R 0 h) 0 _ ⟨pd,[],o11,o12,hpd,rfl,by simp,rfl⟩ (fun i d δ hd ⟨pd,fl,o11,o12,hpd,hfl,hall,e⟩=>by
   subst e
   obtain ⟨hi,rfl⟩:=z2t hd
   obtain ⟨x,pd',e,hx,hxt,hpd'⟩:=zdG (m:=m) (h:=h) (s:=s) hts0 hts hal hw hpd blocks o9 (some (.own (.lst (fl.map .str)))) (some (.pure (.int i))) o12 o13
   have hz:fl.length < W3:=by rw [z2h]; omega
   have ej:=zcB x (by omega)
   refine ⟨_,rb2 pd' m h w s ts al blocks o9 (some (.own (.lst ((fl ++ [x]).map .str)))) (some (.pure (.int i))) (some (.own (.lst (x.map fun n=>.str [n])))) o13,rfl,?_,⟨pd',fl ++ [x],_,_,hpd',by simp [hfl],?_,rfl⟩⟩
   ·unfold rb2 at e ⊢
    simp [bRow,dAsg,eVar,z4w w (by omega),z0B,clrD]
    rw [e]
    simp [z2D,z0F,z1X,bVar,ej,putL,hz]
   ·intro r hr
    rcases QH.mp hr with hr | hr
    ·exact hall r hr
    ·simp at hr; subst hr; exact ⟨hx,hxt⟩)
 exact ⟨fl,pd',o11',o12',e3,by simpa using hfl,hall,hpd'⟩
abbrev zeD:DS:=(dSeq (dAsg (eLst aNil) (gNm [0] 10)) (dSeq (dFor (z1e (eVar 3)) (gNm [0] 11) bRow) (z0F 8 (eTup (z0l (eVar 9) (z0l (eC1 z2J (bVar 10)) aNil))))))
theorem zbS (hts0:0 < ts.length) (hts:ts.length≤26) (hal:al < 3) (hw:w≤4) (hh:h≤4) (hpd:Pen pd) :
  ∃ (bs:List (Nat×List Tx)) (pd':D) (o9 o10 o11 o12:Option S),forL (gNm [0] 9) zeD (ts.map fun n=>.str [n]) (rb2 pd m h w s ts al [] none none none none none) = .ok .next (rb2 pd' m h w s ts al (bs.map blD) o9 o10 o11 o12 none)∧bs.map (·.1)=ts∧(∀ b ∈ bs,b.2.length=h∧∀ r ∈ b.2,r.length=w∧∀ n ∈ r,n ∈ ts)∧Pen pd':=by
 obtain ⟨δ',e3,pd',bs,o9,o10,o11,o12,hpd',hbs,hall,rfl⟩:=z1O (g:=gNm [0] 9) (b:=zeD) (fun k δ=>∃ (pd:D) (bs:List (Nat×List Tx)) (o9 o10 o11 o12:Option S),Pen pd∧bs.map (·.1)=ts.take k∧(∀ b ∈ bs,b.2.length=h∧∀ r ∈ b.2,r.length=w∧∀ n ∈ r,n ∈ ts)∧δ=rb2 pd m h w s ts al (bs.map blD) o9 o10 o11 o12 none)
  (ts.map fun n=>D.str [n]) 0 _ ⟨pd,[],none,none,none,none,hpd,rfl,by simp,rfl⟩ (fun i d δ hd ⟨pd,bs,o9,o10,o11,o12,hpd,hbs,hall,e⟩=>by
   subst e
   rw [WB,Wx] at hd
   obtain ⟨n,hn,rfl⟩:=hd
   have hi:i < ts.length:=(Wb.mp hn).1
   rw [Q0] at hbs
   have hbl:bs.length=i:=by have:=congrArg Jh hbs; simp at this; omega
   obtain ⟨fl,pd',o11',o12',e,hfl,hflt,hpd'⟩:=zeZ (m:=m) (h:=h) (s:=s) hts0 hts hal hw hh hpd (bs.map blD) (some (.pure (.str [n]))) o11 o12 none
   have hz:bs.length < W3:=by rw [z2h]; omega
   refine ⟨_,rb2 pd' m h w s ts al ((bs ++ [(n,fl)]).map blD) (some (.pure (.str [n]))) (some (.own (.lst (fl.map .str)))) o11' o12' none,rfl,?_,⟨pd',bs ++ [(n,fl)],_,_,_,_,hpd',?_,?_,rfl⟩⟩
   ·unfold rb2 at e ⊢
    simp [zeD,dAsg,eVar,z4w h (by omega)]
    rw [e]
    simp [z0F,z1X,eVar,bVar,z2J,putL,hz,blD]
   ·rw [Q0,Ju,hbs,JJ,hn]
    simp
   ·intro b hb
    rcases QH.mp hb with hb | hb
    ·exact hall b hb
    ·simp at hb; subst hb; exact ⟨hfl,hflt⟩)
 refine ⟨bs,pd',o9,o10,o11,o12,e3,?_,hall,hpd'⟩
 rw [hbs,List.take_of_length_le]
 simp
theorem zbD:∀ r:Nat,r < 10→∃ h w:Nat,pIx (.lst [.tup [.int 2,.int 2],.tup [.int 1,.int 2],.tup [.int 2,.int 1],.tup [.int 2,.int 2],.tup [.int 1,.int 3],.tup [.int 2,.int 3],.tup [.int 3,.int 1],.tup [.int 3,.int 2],.tup [.int 4,.int 4],.tup [.int 2,.int 2]]) (.int r)=some (.pure (.tup [.int h,.int w]))∧0 < h∧h≤4∧0 < w∧w≤4∧2 < h + w:=by
 intro r hr
 have:r=0∨r=1∨r=2∨r=3∨r=4∨r=5∨r=6∨r=7∨r=8∨r=9:=by omega
 rcases this with rfl | rfl | rfl | rfl | rfl | rfl | rfl | rfl | rfl | rfl
 ·exact ⟨2,2,rfl,by decide⟩
 ·exact ⟨1,2,rfl,by decide⟩
 ·exact ⟨2,1,rfl,by decide⟩
 ·exact ⟨2,2,rfl,by decide⟩
 ·exact ⟨1,3,rfl,by decide⟩
 ·exact ⟨2,3,rfl,by decide⟩
 ·exact ⟨3,1,rfl,by decide⟩
 ·exact ⟨3,2,rfl,by decide⟩
 ·exact ⟨4,4,rfl,by decide⟩
 ·exact ⟨2,2,rfl,by decide⟩
theorem sub_int (i j:Int):pSub (.int i) (.int j)=some (.pure (.int (i - j))):=rfl
theorem zdv (x:Tx) (h:x.length≤1000):pSl (some 1) none (.str x)=some (.pure (.str x.tail)):=by
 unfold pSl
 have hz:W3=16777216:=rfl
 simp only
 rw [if_pos (by omega)]
 have:cutL x (some 1) none=x.tail:=by
  unfold cutL HT.sIx
  simp
  cases x with
  | nil=>simp
  | cons a r=>simp
 rw [this]
theorem zdu (ds:List D):pSl (some 1) none (.tup ds)=some (.pure (.tup ds.tail)):=by
 have:cutL ds (some 1) none=ds.tail:=by
  unfold cutL HT.sIx
  simp
  cases ds with
  | nil=>simp
  | cons a r=>simp
 show some (S.pure (.tup (cutL ds (some 1) none)))=_
 rw [this]
theorem add_str (x y:Tx) (h:x.length + y.length≤1000):pAdd (.str x) (.str y)=some (.pure (.str (x ++ y))):=by
 have hz:W3=16777216:=rfl
 simp only [pAdd]
 rw [if_pos (by omega)]
theorem zeG (x y:List D) (h:x.length + y.length≤1000):pAdd (.tup x) (.tup y)=some (.pure (.tup (x ++ y))):=by
 have hz:W3=16777216:=rfl
 simp only [pAdd]
 rw [if_pos (by omega)]
def fixB:List (Nat×List Tx)→List (Nat×List Tx)
 | (n,r :: q) :: bs=>(n,(n :: r.tail) :: q) :: bs
 | bs=>bs
theorem zb3 (bs:List (Nat×List Tx)):(fixB bs).map (·.1)=bs.map (·.1):=by
 match bs with
 | []=>rfl
 | (n,[]) :: bs=>rfl
 | (n,r :: q) :: bs=>rfl
theorem zer (R:Rul h w bs):Rul h w (fixB bs):=by
 have hf:=zb3 bs
 have hl:(fixB bs).length=bs.length:=by have:=congrArg Jh hf; simpa using this
 refine ⟨R.h0,R.h1,R.w0,R.w1,R.hw,by rw [hl]; exact R.n0,by rw [hl]; exact R.n1,by rw [hf]; exact R.up,fun b hb=>?_,fun b hb=>?_⟩
 ·have:b.1 ∈ (fixB bs).map (·.1):=WC hb
  rw [hf] at this
  obtain ⟨b',hb',e⟩:=Qx.mp this
  rw [← e]; exact R.let' b' hb'
 ·rw [hf]
  match bs,R,hb with
  | [],R,hb=>have:=R.n0; simp at this
  | (n,[]) :: bs,R,hb=>exact R.blk b hb
  | (n,r :: q) :: bs,R,hb =>
   rcases Wf.mp hb with e | hb
   ·subst e
    have:=R.blk _ Wh
    refine ⟨this.1,fun x hx=>?_⟩
    rcases Wf.mp hx with e | hx
    ·subst e
     have h1:=this.2 r Wh
     refine ⟨by have:=R.w0; simp; omega,fun k hk=>?_⟩
     rcases Wf.mp hk with e | hk
     ·subst e; simp
     ·exact h1.2 k (List.mem_of_mem_tail hk)
    ·exact this.2 x (We _ hx)
   ·exact R.blk b (We _ hb)
theorem za9 (hp:Pen d) (m:Nat) (hm0:0 < m) (hm1:m≤26):∃ (h w:Nat) (bs:List (Nat×List Tx)) (d':D),
  z0M [.own d,.pure (.int m)]=some (.pure (ruD h w bs),[.own d',.pure (.int m)])∧Rul h w bs∧bs.length≤m∧Pen d':=by
 obtain ⟨r1,d1,e1,l1,p1⟩:=z6m hp 10 10 rfl (by decide) (by decide)
 obtain ⟨h,w,hx,h0,h1,w0,w1,hw⟩:=zbD r1 l1
 obtain ⟨s,d2,e2,l2,p2⟩:=z6m p1 (27 - m) (27 - (m:Int)) (by omega) (by omega) (by omega)
 obtain ⟨r3,d3,e3,l3,p3⟩:=z8H p2 m hm0 (by omega)
 obtain ⟨al,d4,e4,l4,p4⟩:=z6m p3 3 3 rfl (by decide) (by decide)
 have hc:=z7k (s:=s) (r:=r3) (by omega)
 have hlen:=zeL s (1 + r3)
 have hup:=ts_up s (1 + r3)
 have hlet:∀ t ∈ tsOf s (1 + r3),97≤t∧t≤122:=fun t ht=>zeK (by omega) ht
 generalize tsOf s (1 + r3)=ts at hc hlen hup hlet
 obtain ⟨bs,d5,o9,o10,o11,o12,e5,hfst,hall,p5⟩:=zbS (m:=m) (h:=h) (w:=w) (s:=s) (ts:=ts) (al:=al) (by omega) (by omega) l4 w1 h1 p4
 obtain ⟨r6,d6,e6,l6,p6⟩:=z6m p5 2 2 rfl (by decide) (by decide)
 have hbl:bs.length=1 + r3:=by have:=congrArg Jh hfst; simp at this; omega
 have R:Rul h w bs:=⟨h0,h1,w0,w1,hw,by omega,by omega,by rw [hfst]; exact hup,fun b hb=>hlet _ (by rw [← hfst]; exact WC hb),fun b hb=>by rw [hfst]; exact hall b hb⟩
 have hsl:pSl (some (s:Int)) (some ((s:Int) + 1 + (r3:Int))) (.str lettersT)=some (.pure (.str ts)):=by rw [← hc]; rfl
 have hsz:[some (S.own d4),some (.pure (.int m)),some (.pure (.str lettersT)),some (.pure (.int h)),some (.pure (.int w)),some (.pure (.int s)),some (.pure (.str ts)),some (.pure (.int (1 + (al:Int)))),some (.own (.lst [])),none,none,none,none,none,none]=rb2 d4 m h w s ts al [] none none none none none:=rfl
 have hlT:D.str [97,98,99,100,101,102,103,104,105,106,107,108,109,110,111,112,113,114,115,116,117,118,119,120,121,122] = .str lettersT:=rfl
 by_cases hr6:r6=0
 ·-- the first block is changed
  match bs,R,hbl,e5,hall with
  | [],R,hbl,e5,hall=>simp at hbl; omega
  | (n,[]) :: q,R,hbl,e5,hall=>have:=(R.blk _ Wh).1; simp at this; omega
  | (n,x :: fl) :: q,R,hbl,e5,hall =>
   have hxl:=(R.blk _ Wh).2 x Wh
   have hfl:=(R.blk _ Wh).1
   simp only at hxl hfl
   refine ⟨h,w,fixB ((n,x :: fl) :: q),d6,?_,zer R,?_,p6⟩
   ·have a1:pAdd (.str [n]) (.str x.tail)=some (.pure (.str (n :: x.tail))):=add_str [n] x.tail (by simp; omega)
    have a2:pAdd (.tup [.str (n :: x.tail)]) (.tup (fl.map .str))=some (.pure (.tup (.str (n :: x.tail) :: fl.map .str))):=zeG [.str (n :: x.tail)] (fl.map .str) (by simp at hfl ⊢; omega)
    have s1:=zdv x (by omega)
    have s2:pSl (some 1) none (flD (x :: fl))=some (.pure (.tup (fl.map .str))):=zdu ((x :: fl).map D.str)
    unfold z0M gOf z1P runD
    rw [hlT]
    generalize lettersT=LT at *
    generalize [D.tup [.int 2,.int 2],.tup [.int 1,.int 2],.tup [.int 2,.int 1],.tup [.int 2,.int 2],.tup [.int 1,.int 3],.tup [.int 2,.int 3],.tup [.int 3,.int 1],.tup [.int 3,.int 2],.tup [.int 4,.int 4],.tup [.int 2,.int 2]]=SZ at *
    simp [ioOk,z0f,dAsg,z08,ios,ndup,z0B,evX,mkA,e1,putA,hx,gTp,z0q,z1F,sub_int,bVar,e2,eSlN,z3r,eVar,eOpF,eOpN,pAdd,e3,hsl,e4,z5M]
    simp only [hsz]
    rw [e5]
    simp [rb2,dTr,z08,ios,ndup,z0B,evX,mkA,e6,putA,hr6,pEq,flat,eqD,eOpF,eOpN,bVar,pIx,z1Q,gTp,z0q,z1F,z7C,z1X,eVar,eSlN,z3r,s1,a1,s2,a2,ixN,putL,blD,z2J,z0H,z0a,fixB]
   ·have:=congrArg Jh (zb3 ((n,x :: fl) :: q))
    simp at this hbl ⊢
    omega
 ·refine ⟨h,w,bs,d6,?_,R,by omega,p6⟩
  unfold z0M gOf z1P runD
  rw [hlT]
  generalize lettersT=LT at *
  generalize [D.tup [.int 2,.int 2],.tup [.int 1,.int 2],.tup [.int 2,.int 1],.tup [.int 2,.int 2],.tup [.int 1,.int 3],.tup [.int 2,.int 3],.tup [.int 3,.int 1],.tup [.int 3,.int 2],.tup [.int 4,.int 4],.tup [.int 2,.int 2]]=SZ at *
  simp [ioOk,z0f,dAsg,z08,ios,ndup,z0B,evX,mkA,e1,putA,hx,gTp,z0q,z1F,sub_int,bVar,e2,eSlN,z3r,eVar,eOpF,eOpN,pAdd,e3,hsl,e4,z5M]
  simp only [hsz]
  rw [e5]
  simp [rb2,dTr,z08,ios,ndup,z0B,evX,mkA,e6,putA,hr6,pEq,flat,eqD,bVar,z2J,z0H,z0a,eVar]
theorem z7s (emb:A→D) (mk:B→J→Dl) (f:B→A→B) (P:B→Prop) (Q:A→Prop) (hf:∀ x a,P x→Q a→P (f x a)) (step:∀ x j a,P x→Q a→∃ δ1 j',g (.pure (emb a)) (mk x j)=some δ1∧b δ1 = .ok .next (mk (f x a) j')) :
  ∀ (as:List A) (x:B) (j:J),P x→(∀ a ∈ as,Q a)→∃ j',forL g b (as.map emb) (mk x j) = .ok .next (mk (as.foldl f x) j')∧P (as.foldl f x)
 | [],x,j,hp,_=>⟨j,rfl,hp⟩
 | a :: r,x,j,hp,hq=>by
  obtain ⟨δ1,j',e1,e2⟩:=step x j a hp (hq a Wh)
  obtain ⟨j'',e3,h3⟩:=z7s emb mk f P Q hf step r (f x a) j' (hf x a hp (hq a Wh)) fun b hb=>hq b (We _ hb)
  refine ⟨j'',?_,h3⟩
  rw [Wr]
  unfold forL
  rw [e1]
  simp only [e2,z0N,e3]
  rfl
theorem z55 (n:Nat):z0R 0 n=(Wa n).map fun k:Nat=>D.int (k:Int):=by simp [z0R]
theorem mul_int (i j:Int) (h0:0≤j) (h1:j≤1000):z1h (.int i) (.int j)=some (.pure (.int (i * j))):=by
 unfold z1h pMul pII
 have:cMul i j=true:=by unfold cMul; simp; omega
 simp only [this,if_true]
theorem zaJ (r h:Nat) (h0:0 < h) (h1:h≤1000):pMod (.int r) (.int h)=some (.pure (.int ((r % h:Nat):Int))):=by
 simp only [pMod,pII]
 rw [if_pos (by simp; omega)]
 simp
theorem zbf (r h:Nat) (h0:0 < h) (h1:h≤1000):pDiv (.int r) (.int h)=some (.pure (.int ((r / h:Nat):Int))):=by
 have hc:cDiv (r:Int) (h:Int)=true:=by unfold cDiv; simp; omega
 show (if cDiv (r:Int) (h:Int) then _ else _)=_
 rw [if_pos hc]
 simp
theorem le_int (i j:Int):pLe (.int i) (.int j)=some (.pure (.bl (decide (i≤j)))):=rfl
theorem gt_int (i j:Int):pGt (.int i) (.int j)=some (.pure (.bl (decide (j < i)))):=rfl
theorem add_int (i j:Int):pAdd (.int i) (.int j)=some (.pure (.int (i + j))):=rfl
theorem z0Y (np:List Nat) (n:Nat) (b:DS) (ss:List S):gOf np n b ss=if ioOk np 0 ss then (match b (z0f n ss) with
 | .ok fl δ=>(z0H fl).bind fun r=>(z0a 0 ss δ).map fun outs=>(r,outs)
 | _=>none) else none:=rfl
def dcD (bs:List (Nat×List Tx)):D:=.dct (bs.map fun b=>(Sum.inr [b.1],flD b.2))
theorem z8L:∀ bs:List (Nat×List Tx),z3x (bs.map blD)=some (bs.map fun b=>(Sum.inr [b.1],flD b.2))
 | []=>rfl
 | b :: r=>by
  have:=z8L r
  simp only [Wr]
  simp [z3x,keyD,this]
theorem z75:∀ (kps acc:List (DKey×D)),((acc ++ kps).map (·.1)).Nodup→z80 kps acc=acc ++ kps
 | [],acc,_=>by simp [z80]
 | p :: r,acc,h=>by
  have hn:(acc.any fun kv=>decide (kv.1=p.1))=false:=by
   rw [List.any_eq_false]
   intro kv hkv
   simp only [decide_eq_true_eq]
   intro e
   rw [Ju,List.nodup_append] at h
   exact h.2.2 kv.1 (WC hkv) p.1 (WC Wh) e
  have hp:putD acc p.1 p.2=acc ++ [p]:=by
   unfold putD
   rw [hn]
   simp
  show z80 r (putD acc p.1 p.2)=_
  rw [hp,z75 r (acc ++ [p]) (by simpa using h)]
  simp
theorem z8q (R:Rul h w bs):z2C (.tup (bs.map blD))=some (.own (dcD bs)):=by
 unfold z2C
 simp only [z8L,WE,Qn]
 have hz:W3=16777216:=rfl
 rw [if_pos (by have:=R.n1; omega),z75]
 ·rfl
 ·simp only [Qw,Jj]
  rw [List.nodup_iff_pairwise_ne,List.pairwise_map]
  have:=R.up
  rw [List.pairwise_map] at this
  exact this.imp fun {a b} hab=>by simp; omega
def blk (bs:List (Nat×List Tx)) (n:Nat):List Tx:=((bs.find? fun b=>decide (b.1=n)).map (·.2)).getD []
theorem z6M (h:n ∈ bs.map (·.1)):∃ b ∈ bs,b.1=n∧(bs.find? fun b=>decide (b.1=n))=some b∧blk bs n=b.2:=by
 cases e:bs.find? fun b=>decide (b.1=n) with
 | none =>
  obtain ⟨b,hb,rfl⟩:=Qx.mp h
  have:=List.find?_eq_none.mp e b hb
  simp at this
 | some b =>
  have h1:=List.mem_of_find?_eq_some e
  have h2:=List.find?_some e
  refine ⟨b,h1,by simpa using h2,rfl,?_⟩
  unfold blk
  rw [e]
  rfl
theorem zeJ (bs:List (Nat×List Tx)) (n:Nat):valD (bs.map fun b=>((Sum.inr [b.1]:DKey),flD b.2)) (.inr [n])=(bs.find? fun b=>decide (b.1=n)).map fun b=>flD b.2:=by
 unfold valD
 rw [List.find?_map]
 simp [Function.comp_def]
theorem zfV (h:n ∈ bs.map (·.1)):pIxX (dcD bs) (.str [n])=some (.pure (flD (blk bs n))):=by
 obtain ⟨b,hb,_,e,e2⟩:=z6M h
 show ((keyD (.str [n])).bind fun k=>(valD (bs.map fun b=>((Sum.inr [b.1]:DKey),flD b.2)) k).map S.pure)=_
 simp only [keyD,WE,zeJ,e,WF,e2]
def NX:D→Prop
 | .exc _=>False
 | _=>True
def isI:D→Bool
 | .int _=>true
 | _=>false
def wi (m:Int):D→Bool
 | .int i=>decide (0≤i) && decide (i≤m)
 | _=>false
theorem zdI (d:D) (hd:NX d):z1o [.pure d,.pure (.int 0)]=some (.pure (.bl (match d with | .int i=>decide (0≤i) | _=>false)),[.pure d,.pure (.int 0)]):=by
 rw [z1o,z0Y,z3h]
 cases d <;> first | exact hd.elim | simp [ioOk,z0f,eAnd,eNot,eIsi,isTy,bVar,eVar,eOpF,eOpN,le_int,z0H,z0a]
theorem z56 (d:D) (m:Int) (hd:NX d):z0w [.pure d,.pure (.int 0),.pure (.int m)]=some (.pure (.bl (wi m d)),[.pure d,.pure (.int 0),.pure (.int m)]):=by
 have e:=zdI d hd
 rw [z0w,z0Y,z2E]
 cases d with
 | int i =>
  simp only at e
  by_cases h:0≤i
  ·simp [h] at e
   simp [ioOk,z0f,eAnd,z08,ios,ndup,z0B,evX,mkA,e,putA,bVar,eVar,eOpF,eOpN,le_int,z0H,z0a,wi,h]
  ·simp [h] at e
   simp [ioOk,z0f,eAnd,z08,ios,ndup,z0B,evX,mkA,e,putA,bVar,eVar,eOpF,eOpN,le_int,z0H,z0a,wi,h]
 | exc n=>exact hd.elim
 | _ =>
  simp only at e
  simp [ioOk,z0f,eAnd,z08,ios,ndup,z0B,evX,mkA,e,putA,bVar,eVar,eOpF,eOpN,le_int,z0H,z0a,wi]
theorem z8X (h:Nat):∀ (as:List Nat) (x:Nat),as.foldl (fun x _=>x * h) x=x * h ^ as.length
 | [],x=>by simp
 | a :: r,x=>by rw [Q6,z8X h r,WM,Q1,Nat.mul_assoc,Q4 h]
theorem zab (h t:Nat) (h1:h≤1000) (t1:t≤1000):z0Z [.pure (.int 1),.pure (.int h),.pure (.int t)]=some (.pure (.int ((h ^ t:Nat):Int)),[.pure (.int 1),.pure (.int h),.pure (.int t)]):=by
 rw [z0Z,z0Y,z3i]
 obtain ⟨j',e,_⟩:=z7s (g:=gNm [] 3) (b:=dAsg (eOpF z1h 0 (bVar 1)) (gNm [] 0)) (fun k:Nat=>D.int (k:Int)) (fun (x:Nat) (j:Option S)=>[some (.pure (.int (x:Int))),some (.pure (.int h)),some (.pure (.int t)),j]) (fun x _=>x * h) (fun _=>True) (fun _=>True) (fun _ _ _ _=>trivial) (fun x j a _ _=>⟨_,some (.pure (.int a)),rfl,by
  have:=mul_int x h (by omega) (by omega)
  simp [dAsg,eOpF,eOpN,bVar,this]⟩) (Wa t) 1 none trivial (fun _ _=>trivial)
 rw [z8X,JH,Nat.one_mul,← z55] at e
 simp [ioOk,z0f,eVar,z4w t (by omega)]
 simp only [Int.natCast_one] at e
 rw [e]
 simp [eVar,z0H,z0a]
def nt (bs:List (Nat×List Tx)) (n i j:Nat):Nat:=((blk bs n).getD i []).getD j 0
theorem z9s (R:Rul h w bs) (hn:n ∈ bs.map (·.1)) (hi:i < h) (hj:j < w) :
  nt bs n i j ∈ bs.map (·.1)∧pIx (flD (blk bs n)) (.int i)=some (.pure (.str ((blk bs n).getD i [])))∧pIx (.str ((blk bs n).getD i [])) (.int j)=some (.pure (.str [nt bs n i j])):=by
 obtain ⟨b,hb,_,_,e2⟩:=z6M hn
 have hB:=R.blk b hb
 have h1:=R.h1
 have w1:=R.w1
 have hi':i < b.2.length:=by omega
 have hm:b.2.getD i [] ∈ b.2:=by
  rw [QO,Ww hi']
  exact QC hi'
 have hr:=hB.2 _ hm
 unfold nt
 rw [e2]
 refine ⟨hr.2 _ ?_,?_,?_⟩
 ·have hj':j < (b.2.getD i []).length:=by omega
  generalize b.2.getD i []=row at hj'
  rw [QO,Ww hj']
  exact QC hj'
 ·simp [pIx,z1R,hi']
 ·exact z7y _ j (by omega) (by omega)
theorem z54 (h w:Nat) (bs:List (Nat×List Tx)):pIx (ruD h w bs) (.int 0)=some (.pure (.int h))∧pIx (ruD h w bs) (.int 1)=some (.pure (.int w))∧pIx (ruD h w bs) (.int 2)=some (.pure (.tup (bs.map blD))):=by
 refine ⟨?_,?_,?_⟩
 ·simp [pIx,z1Q]
 ·simp [pIx,z5z]
 ·simp [pIx,z8s]
theorem z2a (emb:A→D) (mk:B→J→Dl) (f:B→A→B) (P:Nat→B→Prop) (Q:A→Prop) (N:Nat) (step:∀ k x j a,k < N→P k x→Q a→P (k + 1) (f x a)∧∃ δ1 j',g (.pure (emb a)) (mk x j)=some δ1∧b δ1 = .ok .next (mk (f x a) j')) :
  ∀ (as:List A) (k:Nat) (x:B) (j:J),k + as.length≤N→P k x→(∀ a ∈ as,Q a)→∃ j',forL g b (as.map emb) (mk x j) = .ok .next (mk (as.foldl f x) j')∧P (k + as.length) (as.foldl f x)
 | [],k,x,j,_,hp,_=>⟨j,rfl,hp⟩
 | a :: r,k,x,j,hN,hp,hq=>by
  simp only [WM] at hN
  obtain ⟨hp',δ1,j',e1,e2⟩:=step k x j a (by omega) hp (hq a Wh)
  obtain ⟨j'',e3,h3⟩:=z2a emb mk f P Q N step r (k + 1) (f x a) j' (by omega) hp' fun b hb=>hq b (We _ hb)
  refine ⟨j'',?_,by rw [WM,show k + (r.length + 1)=k + 1 + r.length by omega]; exact h3⟩
  rw [Wr]
  unfold forL
  rw [e1]
  simp only [e2,z0N,e3]
  rfl
abbrev Pr:=Nat×Nat
abbrev prD (p:Pr):D:=.tup [.int p.1,.int p.2]
abbrev t1D (n:Nat):D:=.str [n]
def z99 (GD:DF):Prop:=∀ (d:D) (m:Nat),Pen d→0 < m→m < 1073741824→∃ (r:Nat) (d':D),GD [.own d,.pure (.int m)]=some (.pure (.int r),[.own d',.pure (.int m)])∧r < m∧Pen d'
theorem z8o:z99 z0b:=fun d m hp h0 h1=>z8H hp m h0 h1
theorem ne_s1 (n:Nat):pNe (.str [n]) (.str [n])=some (.pure (.bl false)):=by simp [pNe,flat,eqD]
theorem z5X (R:Rul h w bs):z0x [.pure (ruD h w bs)]=some (.own (.lst ((bs.map (·.1)).map t1D)),[.pure (ruD h w bs)]):=by
 have x2:=(z54 h w bs).2.2
 have hn:=R.n1
 generalize ruD h w bs=ru at *
 have e:=z68 (cs:=[1,2]) (g:=(gTp 2 (z0q (gNm [] 1) (z0q (gNm [] 2) z1F)))) (t:=dYes) (el:=eVar 1) blD (fun b:Nat×List Tx=>t1D b.1) [some (.pure ru),none,none] bs [] (by rw [z2h]; simp; omega) (fun b hb=>⟨_,_,.pure (t1D b.1),[some (.pure ru),some (.pure (t1D b.1)),some (.pure (flD b.2))],rfl,rfl,rfl,rfl,rfl⟩)
 rw [z0x,z0Y,z2n]
 simp [ioOk,z0f,eOpF,eOpN,bVar,x2,z5M,z0B,clrD]
 rw [e]
 simp [z2D,z0H,z0a,Function.comp_def]
def lay1 (bs:List (Nat×List Tx)) (l:Nat) (row:Tx):Tx:=(row.map fun n=>(blk bs n).getD l []).flatten
def layR (h:Nat) (bs:List (Nat×List Tx)) (row:Tx):List Tx:=(Wa h).map fun l=>lay1 bs l row
def lay (h:Nat) (bs:List (Nat×List Tx)) (fl:List Tx):List Tx:=fl.flatMap (layR h bs)
structure Fl2 (bs:List (Nat×List Tx)) (R C:Nat) (fl:List Tx):Prop where
 rows:fl.length=R
 cols:∀ r ∈ fl,r.length=C
 tl:∀ r ∈ fl,∀ n ∈ r,n ∈ bs.map (·.1)
theorem za5 (R:Rul h w bs) (hn:n ∈ bs.map (·.1)) (hl:l < h):((blk bs n).getD l []).length=w∧(∀ k ∈ (blk bs n).getD l [],k ∈ bs.map (·.1))∧pIx (flD (blk bs n)) (.int l)=some (.pure (.str ((blk bs n).getD l []))):=by
 obtain ⟨b,hb,_,_,e2⟩:=z6M hn
 have hB:=R.blk b hb
 have hi':l < b.2.length:=by omega
 have hm:b.2.getD l [] ∈ b.2:=by
  rw [QO,Ww hi']
  exact QC hi'
 have hr:=hB.2 _ hm
 rw [e2]
 exact ⟨hr.1,hr.2,by simp [pIx,z1R,hi']⟩
theorem z8h (R:Rul h w bs) (hl:l < h):∀ row:Tx,(∀ n ∈ row,n ∈ bs.map (·.1))→(lay1 bs l row).length=row.length * w∧∀ k ∈ lay1 bs l row,k ∈ bs.map (·.1)
 | [],_=>by simp [lay1]
 | n :: r,h'=>by
  have ih:=z8h R hl r fun k hk=>h' k (We _ hk)
  have h1:=za5 R (h' n Wh) hl
  have e:lay1 bs l (n :: r)=(blk bs n).getD l [] ++ lay1 bs l r:=rfl
  rw [e]
  refine ⟨by rw [WY,h1.1,ih.1,WM,JQ,JR],fun k hk=>?_⟩
  rcases QH.mp hk with hk | hk
  ·exact h1.2.1 k hk
  ·exact ih.2 k hk
theorem zfK (R:Rul h w bs) (F:Fl2 bs A C fl):Fl2 bs (A * h) (C * w) (lay h bs fl):=by
 refine ⟨?_,fun r hr=>?_,fun r hr=>?_⟩
 ·rw [← F.rows]
  clear F
  induction fl with
  | nil=>simp [lay]
  | cons x q ih =>
   have e:lay h bs (x :: q)=layR h bs x ++ lay h bs q:=rfl
   rw [e,WY,ih,WM,JQ]
   simp [layR,JR]
 ·simp only [lay,List.mem_flatMap,layR,List.mem_map,List.mem_range] at hr
  obtain ⟨x,hx,l,hl,rfl⟩:=hr
  rw [(z8h R hl x (F.tl x hx)).1,F.cols x hx]
 ·simp only [lay,List.mem_flatMap,layR,List.mem_map,List.mem_range] at hr
  obtain ⟨x,hx,l,hl,rfl⟩:=hr
  exact (z8h R hl x (F.tl x hx)).2
def far (h w:Nat) (bs:List (Nat×List Tx)) (n:Nat):Nat→Nat→Nat→Nat
 | 0,_,_=>n
 | t + 1,r,c=>nt bs (far h w bs n t (r / h) (c / w)) (r % h) (c % w)
theorem z8l (R:Rul h w bs) (hn:n ∈ bs.map (·.1)):∀ t r c,far h w bs n t r c ∈ bs.map (·.1)
 | 0,_,_=>hn
 | t + 1,r,c=>(z9s R (z8l R hn t _ _) (JU _ R.h0) (JU _ R.w0)).1
def grid (f:Nat→Nat→Nat) (A C:Nat):List Tx:=(Wa A).map fun i=>(Wa C).map (f i)
theorem z73 (a:Nat):∀ b,Wa (a + b)=Wa a ++ (Wa b).map (a + ·)
 | 0=>by simp
 | b + 1=>by
  rw [← Nat.add_assoc,Je,z73 a b,Je]
  simp
theorem z4f (φ:Nat→Nat→α) (w0:0 < w):∀ C,(Wa C).flatMap (fun j=>(Wa w).map (φ j))=(Wa (C * w)).map fun b=>φ (b / w) (b % w)
 | 0=>by simp
 | C + 1=>by
  rw [Je,List.flatMap_append,z4f φ w0 C,JQ,z73,Ju]
  congr 1
  simp only [List.flatMap_cons,List.flatMap_nil,WG,Jj]
  refine J3 fun m hm=>?_
  have hm':m < w:=by simpa using hm
  simp only [Function.comp_def]
  rw [show (C * w + m) / w=C by rw [JR,Nat.add_mul_div_right _ _ w0,Nat.div_eq_of_lt hm',Q0],show (C * w + m) % w=m by rw [JR,Nat.add_mul_mod_self_right,Jo hm']]
theorem z71 (R:Rul h w bs) (hx:x ∈ bs.map (·.1)) (hl:l < h):(blk bs x).getD l []=(Wa w).map (nt bs x l):=by
 have h1:=(za5 R hx hl).1
 apply List.ext_getElem
 ·simpa using h1
 ·intro j h2 h3
  rw [List.getElem_map,List.getElem_range]
  unfold nt
  generalize (blk bs x).getD l []=row at *
  simp [h2]
theorem zco (R:Rul h w bs) (f:Nat→Nat→Nat) (A C:Nat) (hf:∀ i j,f i j ∈ bs.map (·.1)):lay h bs (grid f A C)=grid (fun a b=>nt bs (f (a / h) (b / w)) (a % h) (b % w)) (A * h) (C * w):=by
 have e1:∀ i l,l < h→lay1 bs l ((Wa C).map (f i))=(Wa (C * w)).map fun b=>nt bs (f i (b / w)) l (b % w):=fun i l hl=>by
  unfold lay1
  rw [Jj]
  have:(Wa C).map ((fun n=>(blk bs n).getD l []) ∘ f i)=(Wa C).map fun j=>(Wa w).map (nt bs (f i j) l):=J3 fun j _=>z71 R (hf i j) hl
  rw [this,← List.flatMap_def,z4f (fun j m=>nt bs (f i j) l m) R.w0 C]
 have e2:∀ i,layR h bs ((Wa C).map (f i))=(Wa h).map fun l=>(Wa (C * w)).map fun b=>nt bs (f i (b / w)) l (b % w):=fun i=>by
  unfold layR
  exact J3 fun l hl=>e1 i l (by simpa using hl)
 unfold lay grid
 rw [List.flatMap_map]
 have e3:(Wa A).flatMap (fun i=>layR h bs ((Wa C).map (f i)))=(Wa A).flatMap fun i=>(Wa h).map fun l=>(Wa (C * w)).map fun b=>nt bs (f i (b / w)) l (b % w):=by
  rw [List.flatMap_def,List.flatMap_def]
  congr 1
  exact J3 fun i _=>e2 i
 rw [e3,z4f (fun i l=>(Wa (C * w)).map fun b=>nt bs (f i (b / w)) l (b % w)) R.h0 A]
theorem zcw (A C:Nat) (hf:∀ i j,f i j ∈ bs.map (·.1)):Fl2 bs A C (grid f A C):=by
 refine ⟨by simp [grid],fun r hr=>?_,fun r hr x hx=>?_⟩
 ·simp [grid] at hr; obtain ⟨i,_,rfl⟩:=hr; simp
 ·simp only [grid,List.mem_map] at hr; obtain ⟨i,_,rfl⟩:=hr
  obtain ⟨j,_,rfl⟩:=Qx.mp hx
  exact hf i j
theorem zcJ (f:α→β) (xs:List α) (lo hi:Option Int):cutL (xs.map f) lo hi=(cutL xs lo hi).map f:=by
 unfold cutL
 simp [List.map_drop,List.map_take]
def cut (fl:List Tx) (r c h w:Int):List Tx:=(cutL fl (some r) (some (r + h))).map fun t=>cutL t (some c) (some (c + w))
theorem sl_tup (ds:List D) (lo hi:Option Int):pSl lo hi (.tup ds)=some (.pure (.tup (cutL ds lo hi))):=rfl
theorem sl_str (x:Tx) (h:x.length≤100000) (lo hi:Option Int):pSl lo hi (.str x)=some (.pure (.str (cutL x lo hi))):=by
 unfold pSl
 have:W3=16777216:=rfl
 simp only
 rw [if_pos (by omega)]
theorem z8V (f:Nat→Nat→Nat) (A C:Nat):(grid f A C).length=A∧∀ r ∈ grid f A C,r.length=C:=by
 refine ⟨by simp [grid],fun r hr=>?_⟩
 simp [grid] at hr; obtain ⟨i,_,rfl⟩:=hr; simp
theorem zeo (f:Nat→Nat→Nat) (hr:r < A) (hc:c < C) (hC:C≤1000):∃ d,pIx (flD (grid f A C)) (.int r)=some (.pure d)∧pIx d (.int c)=some (.pure (.str [f r c])):=by
 refine ⟨.str ((Wa C).map (f r)),?_,?_⟩
 ·simp [pIx,z1R,grid,hr]
 ·have hz:W3=16777216:=rfl
  simp [pIx,z1R,hc]
  omega
theorem z8U (f:Nat→Nat→Nat) (hA:0 < A) (hC:C≤1000):∃ d,pIx (flD (grid f A C)) (.int 0)=some (.pure d)∧pLen d=some (.pure (.int C)):=by
 refine ⟨.str ((Wa C).map (f 0)),?_,?_⟩
 ·have:=Ww (l:=Wa A) (i:=0) (by simpa using hA)
  simp [pIx,z1Q,grid,this]
 ·have hz:W3=16777216:=rfl
  simp [pLen]
  omega
theorem z0r (h:a δ = .ok .next δ1) (h2:b δ1=x):dSeq a b δ=x:=by
 rw [z8m,h]
 simpa using h2
theorem z3b (h1:it δ = .ok ds δ1) (h2:forL g b ds δ1 = .ok fl δ2):dFor it g b δ = .ok fl δ2:=by
 rw [zba,h1]
 exact h2
theorem z1N (np:List Nat) (n:Nat) (b:DS) (ss:List S):gOfX np n b ss=if ioOk np 0 ss then (match b (z0f n ss) with
 | .ok fl δ=>(z0H fl).bind fun r=>(z0a 0 ss δ).map fun outs=>.inl (r,outs)
 | .exc x δ=>if x.flds.isEmpty then (z0a 0 ss δ).map fun outs=>.inr (x.cls,outs) else none
 | .stuck=>none) else none:=rfl
theorem z2u (x:Xc) (δ:Dl) (f:α→Dl→Rs β):(Rs.exc x δ:Rs α).bind f = .exc x δ:=rfl
abbrev z4l:Tx:=[78,111,84,105,108,101]
abbrev z1t:Tx:=[78,111,78,117,109,98,101,114]
abbrev z3Z:Tx:=[78,111,80,108,97,99,101]
def tgd (bs:List (Nat×List Tx)):D→Bool
 | .str x=>bs.any fun b=>decide ([b.1]=x)
 | _=>false
theorem zg0 (bs:List (Nat×List Tx)) (x:Tx):pIn true (.str x) (dcD bs)=some (.pure (.bl (!tgd bs (.str x)))):=by
 show ((keyD (.str x)).map fun k=>S.pure (.bl (if true then !(valD (bs.map fun b=>((Sum.inr [b.1]:DKey),flD b.2)) k).isSome else (valD (bs.map fun b=>((Sum.inr [b.1]:DKey),flD b.2)) k).isSome)))=_
 have:(valD (bs.map fun b=>((Sum.inr [b.1]:DKey),flD b.2)) (.inr x)).isSome=tgd bs (.str x):=by
  unfold valD
  rw [List.find?_map]
  show ((Option.map _ (bs.find? _)).map _).isSome=bs.any _
  induction bs with
  | nil=>rfl
  | cons b r ih =>
   by_cases hb:[b.1]=x
   ·simp [WZ,hb,Function.comp_def]
   ·simp [WZ,hb,Function.comp_def] at ih ⊢
    exact ih
 simp only [keyD,WF,this,if_true]
theorem z57 (R:Rul h w bs) (d:D) (hd:NX d):z0h [.pure (ruD h w bs),.pure d]=some (if tgd bs d then .inl (.pure .non,[.pure (ruD h w bs),.pure d]) else .inr (z4l,[.pure (ruD h w bs),.pure d])):=by
 have x2:=(z54 h w bs).2.2
 have hdc:=z8q R
 rw [z0h,z1N,z21]
 cases d with
 | exc n=>exact hd.elim
 | str x =>
  have i:=zg0 bs x
  have ty:isTy "str" (.str x)=some true:=rfl
  generalize tgd bs (.str x)=z at *
  generalize D.tup (bs.map blD)=BD at *
  generalize dcD bs=dc at *
  generalize D.str x=dx at *
  generalize ruD h w bs=ru at *
  cases z <;> simp [ioOk,z0f,dTr,eIsi,ty,bVar,eVar,eOpF,eOpN,x2,hdc,i,z4r,z2u,z0H,z0a]
 | _ =>
  generalize ruD h w bs=ru at *
  simp [ioOk,z0f,dTr,eIsi,isTy,bVar,eVar,z4r,z2u,z0H,z0a,tgd]
theorem z6U (h:n ∈ bs.map (·.1)):tgd bs (.str [n])=true:=by
 obtain ⟨b,hb,rfl⟩:=Qx.mp h
 show (bs.any fun z=>decide ([z.1]=[b.1]))=true
 rw [List.any_eq_true]
 exact ⟨b,hb,by simp⟩
theorem zbV (GW:DF) (d d0 d6:D) (z:Bool) (e:GW [.pure d,.pure d0,.pure d6]=some (.pure (.bl z),[.pure d,.pure d0,.pure d6])):gOfX [] 1 (dIf (dNot (dTr (z08 GW [.val (eVar 0),.val (eD d0),.val (eD d6)]))) (z3y z1t) z1f) [.pure d]=some (if z then .inl (.pure .non,[.pure d]) else .inr (z1t,[.pure d])):=by
 rw [z1N]
 generalize z1t=nm at *
 cases z <;> simp [ioOk,z0f,dTr,z08,ios,ndup,z0B,evX,mkA,putA,eVar,e,z3y,z0H,z0a]
theorem z4O (d:D) (hd:NX d):z0g [.pure d]=some (if wi 60 d then .inl (.pure .non,[.pure d]) else .inr (z1t,[.pure d])):=by
 rw [z0g,z1H]
 exact zbV z0w d (.int 0) (.int 60) (wi 60 d) (z56 d 60 hd)
theorem zbU (GG GW:DF) (ru dt d d' dh dw p q m1 m2:D) (z1 z2:Bool) (x0:pIx ru (.int 0)=some (.pure dh)) (x1:pIx ru (.int 1)=some (.pure dw)) (g1:GG [.pure (.int 1),.pure dh,.pure dt]=some (.pure p,[.pure (.int 1),.pure dh,.pure dt])) (g2:GG [.pure (.int 1),.pure dw,.pure dt]=some (.pure q,[.pure (.int 1),.pure dw,.pure dt]))
  (s1:pSub p (.int 1)=some (.pure m1)) (s2:pSub q (.int 1)=some (.pure m2)) (e1:GW [.pure d,.pure (.int 0),.pure m1]=some (.pure (.bl z1),[.pure d,.pure (.int 0),.pure m1])) (e2:GW [.pure d',.pure (.int 0),.pure m2]=some (.pure (.bl z2),[.pure d',.pure (.int 0),.pure m2])) :
  gOfX [] 4 (dSeq (dIf (dNot (dTr (z08 GW [.val (eVar 2),.val (eD (.int 0)),.val (eOp pSub (z08 GG [.val (eD (.int 1)),.val (eOpF pIx 0 (bOf (eD (.int 0)))),.val (eVar 1)]) (bOf (eD (.int 1))))]))) (z3y [78,111,80,108,97,99,101]) z1f) (dIf (dNot (dTr (z08 GW [.val (eVar 3),.val (eD (.int 0)),.val (eOp pSub (z08 GG [.val (eD (.int 1)),.val (eOpF pIx 0 (bOf (eD (.int 1)))),.val (eVar 1)]) (bOf (eD (.int 1))))]))) (z3y [78,111,80,108,97,99,101]) z1f)) [.pure ru,.pure dt,.pure d,.pure d']=some (if z1 && z2 then .inl (.pure .non,[.pure ru,.pure dt,.pure d,.pure d']) else .inr (z3Z,[.pure ru,.pure dt,.pure d,.pure d'])):=by
 rw [z1N]
 cases z1
 ·simp [ioOk,z0f,dTr,z08,ios,ndup,z0B,evX,mkA,putA,eVar,bVar,eOpF,eOpN,x0,x1,g1,g2,s1,s2,e1,e2,z3y,z2u,z0H,z0a]
 ·cases z2 <;> simp [ioOk,z0f,dTr,z08,ios,ndup,z0B,evX,mkA,putA,eVar,bVar,eOpF,eOpN,x0,x1,g1,g2,s1,s2,e1,e2,z3y,z2u,z0H,z0a]
theorem zbP {h w t:Nat} {bs:List (Nat×List Tx)} (R:Rul h w bs) (ht:t≤60) (d d':D) (hd:NX d) (hd':NX d') :
  z0U [.pure (ruD h w bs),.pure (.int (t:Int)),.pure d,.pure d']=some (if wi (((h ^ t:Nat):Int) - 1) d && wi (((w ^ t:Nat):Int) - 1) d' then .inl (.pure .non,[.pure (ruD h w bs),.pure (.int (t:Int)),.pure d,.pure d']) else .inr (z3Z,[.pure (ruD h w bs),.pure (.int (t:Int)),.pure d,.pure d'])):=by
 have h1:=R.h1
 have w1:=R.w1
 obtain ⟨x0,x1,x2⟩:=z54 h w bs
 rw [z0U,z2F]
 exact zbU z0Z z0w (ruD h w bs) (.int (t:Int)) d d' _ _ _ _ _ _ _ _ x0 x1 (zab h t (by omega) (by omega)) (zab w t (by omega) (by omega)) (sub_int _ 1) (sub_int _ 1) (z56 d _ hd) (z56 d' _ hd')
def lo (h w:Nat):Nat→Nat→Nat→List Pr
 | 0,_,_=>[]
 | t + 1,r,c=>(r % h,c % w) :: lo h w t (r / h) (c / w)
theorem zaO (h w:Nat):∀ t r c,(lo h w t r c).length=t
 | 0,_,_=>rfl
 | t + 1,r,c=>by simp [lo,zaO h w t]
theorem zeh (h0:0 < h) (w0:0 < w):∀ t r c,∀ p ∈ lo h w t r c,p.1 < h∧p.2 < w
 | 0,_,_=>by simp [lo]
 | t + 1,r,c=>fun p hp=>by
  rcases Wf.mp hp with e | hp
  ·subst e; exact ⟨JU _ h0,JU _ w0⟩
  ·exact zeh h0 w0 t _ _ p hp
abbrev St3:=List Pr×Nat×Nat
def stp (h w:Nat) (x:St3) (_:Nat):St3:=(x.1 ++ [(x.2.1 % h,x.2.2 % w)],x.2.1 / h,x.2.2 / w)
theorem z8y (h w:Nat):∀ (as:List Nat) (x:St3),(as.foldl (stp h w) x).1=x.1 ++ lo h w as.length x.2.1 x.2.2
 | [],x=>by simp [lo]
 | a :: r,x=>by rw [Q6,z8y h w r]; simp [stp,lo]
def lnS (bs:List (Nat×List Tx)) (acc:List Nat) (p:Pr):List Nat:=acc ++ [nt bs (acc.getLastD 0) p.1 p.2]
def line (bs:List (Nat×List Tx)) (n:Nat) (ds:List Pr):List Nat:=ds.foldl (lnS bs) [n]
theorem z8i (acc:List Nat) (h:0 < acc.length):pIx (.lst (acc.map t1D)) (.int (-1))=some (.pure (.str [acc.getLastD 0])):=by
 have:atI (acc.map t1D) (-1)=some (.str [acc.getLastD 0]):=by
  unfold atI ixN
  rw [if_neg (by omega),if_pos (by simp; omega)]
  have e:(-1 + ((acc.map t1D).length:Int)).toNat=acc.length - 1:=by simp; omega
  simp only [WE,e,WB,List.getLastD_eq_getLast?,List.getLast?_eq_getElem?]
  cases hh:acc[acc.length - 1]? with
  | none=>rw [List.getElem?_eq_none_iff] at hh; omega
  | some v=>rfl
 simp [pIx,this]
theorem z6z {bs:List (Nat×List Tx)} {acc:List Nat} (h:0 < acc.length) (ha:∀ n ∈ acc,n ∈ bs.map (·.1)):acc.getLastD 0 ∈ bs.map (·.1):=by
 apply ha
 rw [List.getLastD_eq_getLast?]
 cases hh:acc.getLast? with
 | none=>simp at hh; subst hh; simp at h
 | some v=>exact List.mem_of_getLast? hh
abbrev LP (bs:List (Nat×List Tx)) (k:Nat) (acc:List Nat):Prop:=acc.length=k + 1∧∀ n ∈ acc,n ∈ bs.map (·.1)
theorem z90 (h w:Nat) (bs:List (Nat×List Tx)) (n:Nat):∀ t r c,(line bs n (lo h w t r c).reverse).getLastD 0=far h w bs n t r c
 | 0,r,c=>by simp [lo,line,far]
 | t + 1,r,c=>by
  have ih:=z90 h w bs n t (r / h) (c / w)
  unfold line at ih ⊢
  rw [lo,List.reverse_cons,List.foldl_append]
  have hl:∀ (X:List Nat) (p:Pr),(lnS bs X p).getLastD 0=nt bs (X.getLastD 0) p.1 p.2:=fun X p=>by unfold lnS; simp
  show (lnS bs _ _).getLastD 0=_
  rw [hl,ih]
  rfl
theorem z7j {h w:Nat} {bs:List (Nat×List Tx)} (R:Rul h w bs) {k:Nat} {acc:List Nat} {p:Pr} (hp:LP bs k acc) (hq:p.1 < h∧p.2 < w):LP bs (k + 1) (lnS bs acc p):=by
 refine ⟨by simp [lnS,hp.1],fun n hn=>?_⟩
 rcases QH.mp hn with hn | hn
 ·exact hp.2 n hn
 ·rw [List.mem_singleton] at hn; subst hn
  exact (z9s R (z6z (by omega) hp.2) hq.1 hq.2).1
theorem zaQ (R:Rul h w bs):∀ (ds:List Pr) (k:Nat) (acc:List Nat),LP bs k acc→(∀ p ∈ ds,p.1 < h∧p.2 < w)→LP bs (k + ds.length) (ds.foldl (lnS bs) acc)
 | [],k,acc,hp,_=>hp
 | p :: r,k,acc,hp,hq=>by
  have:=zaQ R r (k + 1) (lnS bs acc p) (z7j R hp (hq p Wh)) fun b hb=>hq b (We _ hb)
  rw [WM,show k + (r.length + 1)=k + 1 + r.length by omega]
  exact this
theorem zaP {h w:Nat} {bs:List (Nat×List Tx)} (R:Rul h w bs) {k:Nat} {acc:List Nat} {p:Pr} (hp:LP bs k acc) (hq:p.1 < h∧p.2 < w) :
  pIx (.lst (acc.map t1D)) (.int (-1))=some (.pure (.str [acc.getLastD 0]))∧pIxX (dcD bs) (.str [acc.getLastD 0])=some (.pure (flD (blk bs (acc.getLastD 0))))∧pIx (flD (blk bs (acc.getLastD 0))) (.int p.1)=some (.pure (.str ((blk bs (acc.getLastD 0)).getD p.1 [])))∧pIx (.str ((blk bs (acc.getLastD 0)).getD p.1 [])) (.int p.2)=some (.pure (.str [nt bs (acc.getLastD 0) p.1 p.2])):=by
 have hl:0 < acc.length:=by have:=hp.1; omega
 have hm:=z6z hl hp.2
 have hn:=z9s R hm hq.1 hq.2
 exact ⟨z8i acc hl,zfV hm,hn.2.1,hn.2.2⟩
theorem zbX (GG GP:DX) (bl:D) (h w t r c:Nat) (h0:0 < h) (h1:h≤4) (w0:0 < w) (w1:w≤4) (ht:t≤60) (gg:GG [.pure (.int t)]=some (.inl (.pure .non,[.pure (.int t)]))) (gp:GP [.pure (.tup [.int h,.int w,bl]),.pure (.int t),.pure (.int r),.pure (.int c)]=some (.inl (.pure .non,[.pure (.tup [.int h,.int w,bl]),.pure (.int t),.pure (.int r),.pure (.int c)]))) :
  gOfX [] 9 (dSeq (z3v (z0P GG [.val (eVar 1)])) (dSeq (z3v (z0P GP [.val (eVar 0),.val (eVar 1),.val (eVar 2),.val (eVar 3)])) (B8_))) [.pure (.tup [.int h,.int w,bl]),.pure (.int t),.pure (.int r),.pure (.int c)]=some (.inl (.own (.lst ((lo h w t r c).reverse.map prD)),[.pure (.tup [.int h,.int w,bl]),.pure (.int t),.pure (.int r),.pure (.int c)])):=by
 obtain ⟨j',e,_⟩:=z2a (g:=gNm [] 8) (b:=(B18_)) (fun k:Nat=>D.int (k:Int))
  (fun (x:St3) (j:Option S)=>[some (.pure (.tup [.int h,.int w,bl])),some (.pure (.int t)),some (.pure (.int (x.2.1:Int))),some (.pure (.int (x.2.2:Int))),some (.pure (.int h)),some (.pure (.int w)),some (.pure bl),some (.own (.lst (x.1.map prD))),j]) (stp h w) (fun k x=>x.1.length=k) (fun _=>True) 1000
  (fun k x j a hk hp _=>⟨by simp [stp,hp],_,some (.pure (.int a)),rfl,by
   have m1:=zaJ x.2.1 h h0 (by omega)
   have m2:=zaJ x.2.2 w w0 (by omega)
   have m3:=zbf x.2.1 h h0 (by omega)
   have m4:=zbf x.2.2 w w0 (by omega)
   have hz:x.1.length < W3:=by rw [z2h]; omega
   simp only [stp]
   simp [z0F,z1X,eOpF,eOpN,bVar,m1,m2,putL,hz,dAsg,m3,m4]⟩) (Wa t) 0 ([],r,c) none (by simp; omega) rfl (fun _ _=>trivial)
 have hx:=z8y h w (Wa t) ([],r,c)
 rw [JH,Qw] at hx
 rw [hx,← z55] at e
 generalize (lo h w t r c)=L at *
 rw [z1N]
 simp [ioOk,z0f,dAsg,z0P,ios,ndup,z0B,evX,mkA,gg,gp,putA,eVar,gTp,z0q,z1F,z4w t (by omega)]
 simp only [JT] at e
 rw [e]
 simp [bVar,z82,pRev,z0H,z0a,List.map_reverse]
theorem z9n (GR GD:DX) {h w t r c n:Nat} {bs:List (Nat×List Tx)} (ru:D) (R:Rul h w bs) (hn:n ∈ bs.map (·.1)) (ht:t≤60) (ds:List Pr) (hds:ds.length=t) (hdl:∀ p ∈ ds,p.1 < h∧p.2 < w) (x2:pIx ru (.int 2)=some (.pure (.tup (bs.map blD))))
  (gr:GR [.pure ru,.pure (.str [n])]=some (.inl (.pure .non,[.pure ru,.pure (.str [n])]))) (gd:GD [.pure ru,.pure (.int t),.pure (.int r),.pure (.int c)]=some (.inl (.own (.lst (ds.map prD)),[.pure ru,.pure (.int t),.pure (.int r),.pure (.int c)]))) :
  gOfX [] 9 (dSeq (z3v (z0P GR [.val (eVar 0),.val (eVar 1)])) (dSeq (dAsg (eC1 z2C (bOf (eOpF pIx 0 (bOf (eD (.int 2)))))) (gNm [] 5)) (dSeq (dAsg (eLst (z0l (eVar 1) aNil)) (gNm [] 6)) (dSeq (dFor (iSq (z0P GD [.val (eVar 0),.val (eVar 2),.val (eVar 3),.val (eVar 4)])) (gTp 2 (z0q (gNm [] 7) (z0q (gNm [] 8) z1F))) (z0F 6 (eOp pIx (eOp pIx (eOpF pIxX 5 (bOf (eOpF pIx 6 (bOf (eC1 pNeg (bOf (eD (.int 1)))))))) (bVar 7)) (bVar 8)))) (z5N [] 6))))) [.pure ru,.pure (.str [n]),.pure (.int t),.pure (.int r),.pure (.int c)]=some (.inl (.own (.lst ((line bs n ds).map t1D)),[.pure ru,.pure (.str [n]),.pure (.int t),.pure (.int r),.pure (.int c)])):=by
 have hd:=z8q R
 obtain ⟨j',e,_⟩:=z2a (g:=(gTp 2 (z0q (gNm [] 7) (z0q (gNm [] 8) z1F)))) (b:=(z0F 6 (eOp pIx (eOp pIx (eOpF pIxX 5 (bOf (eOpF pIx 6 (bOf (eC1 pNeg (bOf (eD (.int 1)))))))) (bVar 7)) (bVar 8)))) prD
  (fun (x:List Nat) (j:Option S×Option S)=>[some (.pure ru),some (.pure (.str [n])),some (.pure (.int t)),some (.pure (.int r)),some (.pure (.int c)),some (.own (dcD bs)),some (.own (.lst (x.map t1D))),j.1,j.2]) (lnS bs) (LP bs) (fun p=>p.1 < h∧p.2 < w) 1000
  (fun k x j p hk hp hq=>⟨z7j R hp hq,_,(some (.pure (.int p.1)),some (.pure (.int p.2))),rfl,by
   obtain ⟨y1,y2,y3,y4⟩:=zaP R hp hq
   have hz:x.length < W3:=by rw [z2h]; have:=hp.1; omega
   simp only [lnS]
   generalize nt bs (x.getLastD 0) p.1 p.2=nx at *
   generalize D.str ((blk bs (x.getLastD 0)).getD p.1 [])=dr at *
   generalize flD (blk bs (x.getLastD 0))=db at *
   generalize x.getLastD 0=xl at *
   generalize dcD bs=dd at *
   simp [z0F,z1X,eOpF,eOpN,bVar,pNeg,y1,y2,y3,y4,putL,hz]⟩) ds 0 [n] (none,none) (by omega) ⟨rfl,by simpa using hn⟩ hdl
 have hL:ds.foldl (lnS bs) [n]=line bs n ds:=rfl
 rw [hL] at e
 generalize line bs n ds=L at *
 generalize hdd:dcD bs=dd at *
 rw [z1N]
 simp [ioOk,z0f,dAsg,z0P,ios,ndup,z0B,evX,mkA,gr,gd,putA,eVar,eOpF,eOpN,bVar,x2,hd,z5M]
 simp only [Wr,JT] at e
 rw [e]
 simp [z5N,z0H,z0a]
theorem zdJ (GL:DX) (ru tl d r c L y:D) (g:GL [.pure ru,.pure tl,.pure d,.pure r,.pure c]=some (.inl (.own L,[.pure ru,.pure tl,.pure d,.pure r,.pure c]))) (i:pIx L (.int (-1))=some (.pure y)):gOfX [] 5 (dRet (eOp pIx (z0P GL [.val (eVar 0),.val (eVar 1),.val (eVar 2),.val (eVar 3),.val (eVar 4)]) (bOf (eC1 pNeg (bOf (eD (.int 1))))))) [.pure ru,.pure tl,.pure d,.pure r,.pure c]=some (.inl (.pure y,[.pure ru,.pure tl,.pure d,.pure r,.pure c])):=by
 have n1:pNeg (.int 1)=some (.pure (.int (-1))):=rfl
 rw [z1N]
 simp [ioOk,z0f,z0P,ios,ndup,z0B,evX,mkA,putA,eVar,bVar,g,n1,i,z0H,z0a]
theorem z6Q {m:Int} {r:Nat} (h:(r:Int)≤m):wi m (.int (r:Int))=true:=by simp [wi,h]
section
variable {h w t n:Nat} {bs:List (Nat×List Tx)}
theorem d_ok (R:Rul h w bs) (ht:t≤60) (hr:r < h ^ t) (hc:c < w ^ t):z1a [.pure (ruD h w bs),.pure (.int (t:Int)),.pure (.int (r:Int)),.pure (.int (c:Int))]=some (.inl (.own (.lst ((lo h w t r c).reverse.map prD)),[.pure (ruD h w bs),.pure (.int (t:Int)),.pure (.int (r:Int)),.pure (.int (c:Int))])):=by
 have e:=z4O (.int (t:Int)) trivial
 rw [z6Q (by omega)] at e
 have p:=zbP R ht (.int (r:Int)) (.int (c:Int)) trivial trivial
 rw [z6Q (by omega),z6Q (by omega)] at p
 rw [z1a,z3j]
 exact zbX z0g z0U _ h w t r c R.h0 R.h1 R.w0 R.w1 ht e p
theorem l_ok (R:Rul h w bs) (hn:n ∈ bs.map (·.1)) (ht:t≤60) (hr:r < h ^ t) (hc:c < w ^ t):z1M [.pure (ruD h w bs),.pure (.str [n]),.pure (.int (t:Int)),.pure (.int (r:Int)),.pure (.int (c:Int))]=some (.inl (.own (.lst ((line bs n (lo h w t r c).reverse).map t1D)),[.pure (ruD h w bs),.pure (.str [n]),.pure (.int (t:Int)),.pure (.int (r:Int)),.pure (.int (c:Int))])):=by
 have e:=z57 R (.str [n]) trivial
 rw [z6U hn] at e
 rw [z1M,z4t]
 exact z9n z0h z1a _ R hn ht (lo h w t r c).reverse (by simp [zaO]) (fun p hp=>zeh R.h0 R.w0 t r c p (List.mem_reverse.mp hp)) (z54 h w bs).2.2 e (d_ok R ht hr hc)
theorem t_ok (R:Rul h w bs) (hn:n ∈ bs.map (·.1)) (ht:t≤60) (hr:r < h ^ t) (hc:c < w ^ t):z1L [.pure (ruD h w bs),.pure (.str [n]),.pure (.int (t:Int)),.pure (.int (r:Int)),.pure (.int (c:Int))]=some (.inl (.pure (.str [far h w bs n t r c]),[.pure (ruD h w bs),.pure (.str [n]),.pure (.int (t:Int)),.pure (.int (r:Int)),.pure (.int (c:Int))])):=by
 have ll:(line bs n (lo h w t r c).reverse).length=t + 1:=by
  have hl:=zaQ R (lo h w t r c).reverse 0 [n] ⟨rfl,by simpa using hn⟩ (fun q hq=>zeh R.h0 R.w0 t _ _ q (List.mem_reverse.mp hq))
  have:=hl.1
  rw [Js,zaO,Q0] at this
  exact this
 have i:=z8i (line bs n (lo h w t r c).reverse) (by rw [ll]; omega)
 rw [z90] at i
 rw [z1L,z4s]
 exact zdJ z1M _ (.str [n]) _ _ _ _ _ (l_ok R hn ht hr hc) i
end
open PySem.SeqAt (ltP)
abbrev IP:=Int×Int
def cand (h w:Nat) (bs:List (Nat×List Tx)) (A B:Nat) (f:Nat→Option IP) (n:Nat):List IP :=
 (Wa h).flatMap fun i=>(Wa w).filterMap fun j=>(f (nt bs n i j)).map fun p=>((i:Int) * (A:Int) + p.1,(j:Int) * (B:Int) + p.2)
def z2P:List IP→Option IP
 | []=>none
 | p :: ps=>some (mnP (p :: ps))
def pl (h w:Nat) (bs:List (Nat×List Tx)) (o:Nat):Nat→Nat→Option IP
 | 0,n=>if n=o then some (0,0) else none
 | t + 1,n=>z2P (cand h w bs (h ^ t) (w ^ t) (pl h w bs o t) n)
theorem z62 (h:z2P L=some p):p ∈ L∧∀ q ∈ L,ltP q.1 q.2 p.1 p.2=false:=by
 cases L with
 | nil=>cases h
 | cons a r =>
  have e:mnP (a :: r)=p:=Wt h
  rw [← e]
  exact zaK (a :: r) (by simp)
theorem z63 (h:z2P L=none):L=[]:=by
 cases L with
 | nil=>rfl
 | cons a r=>cases h
theorem z5q (h0:0 < h) (w0:0 < w) (bs:List (Nat×List Tx)) (n:Nat):∀ t r c,r < h ^ (t + 1)→c < w ^ (t + 1)→far h w bs n (t + 1) r c=far h w bs (nt bs n (r / h ^ t) (c / w ^ t)) t (r % h ^ t) (c % w ^ t)
 | 0,r,c,hr,hc=>by
  rw [Nat.pow_one] at hr hc
  show nt bs n (r % h) (c % w)=nt bs n (r / h ^ 0) (c / w ^ 0)
  rw [Nat.pow_zero,Nat.pow_zero,Nat.div_one,Nat.div_one,Jo hr,Jo hc]
 | t + 1,r,c,hr,hc=>by
  have i1:r / h < h ^ (t + 1):=by rw [Jk h0,← Q1]; exact hr
  have i2:c / w < w ^ (t + 1):=by rw [Jk w0,← Q1]; exact hc
  have ih:=z5q h0 w0 bs n t (r / h) (c / w) i1 i2
  show nt bs (far h w bs n (t + 1) (r / h) (c / w)) (r % h) (c % w)=nt bs (far h w bs (nt bs n (r / h ^ (t + 1)) (c / w ^ (t + 1))) t (r % h ^ (t + 1) / h) (c % w ^ (t + 1) / w)) (r % h ^ (t + 1) % h) (c % w ^ (t + 1) % w)
  rw [ih,Nat.div_div_eq_div_mul,Nat.div_div_eq_div_mul]
  have e1:h ^ (t + 1)=h * h ^ t:=by rw [Q1,Q4]
  have e2:w ^ (t + 1)=w * w ^ t:=by rw [Q1,Q4]
  rw [e1,e2,Nat.mod_mul_right_div_self,Nat.mod_mul_right_div_self,Nat.mod_mod_of_dvd _ (Nat.dvd_mul_right h _),Nat.mod_mod_of_dvd _ (Nat.dvd_mul_right w _)]
def Fst (f:Nat→Nat→Nat) (A B o:Nat) (p:IP):Prop :=
 ∃ r c:Nat,p=((r:Int),(c:Int))∧r < A∧c < B∧f r c=o∧∀ r' c':Nat,r' < A→c' < B→f r' c'=o→ltP (r':Int) (c':Int) (r:Int) (c:Int)=false
theorem mem_cand:p ∈ cand h w bs A B f n ↔ ∃ i j q,i < h∧j < w∧f (nt bs n i j)=some q∧p=((i:Int) * (A:Int) + q.1,(j:Int) * (B:Int) + q.2):=by
 unfold cand
 rw [List.mem_flatMap]
 constructor
 ·rintro ⟨i,hi,hp⟩
  obtain ⟨j,hj,e⟩:=Q7.mp hp
  obtain ⟨q,e1,e2⟩:=Wx.mp e
  exact ⟨i,j,q,Qk.mp hi,Qk.mp hj,e1,e2.symm⟩
 ·rintro ⟨i,j,q,hi,hj,e1,e2⟩
  exact ⟨i,Qk.mpr hi,Q7.mpr ⟨j,Qk.mpr hj,by rw [e1,e2]; rfl⟩⟩
theorem zc1 (R:Rul h w bs):∀ t n,n ∈ bs.map (·.1)→(∀ p,pl h w bs o t n=some p→Fst (far h w bs n t) (h ^ t) (w ^ t) o p)∧(pl h w bs o t n=none→∀ r c,r < h ^ t→c < w ^ t→far h w bs n t r c≠o)
 | 0,n,hn=>by
  refine ⟨fun p e=>?_,fun e r c _ _ z=>?_⟩
  ·unfold pl at e
   by_cases hno:n=o
   ·rw [if_pos hno] at e
    cases e
    refine ⟨0,0,rfl,by simp,by simp,hno,fun r' c' hr hc _=>?_⟩
    rw [Nat.pow_zero] at hr hc
    obtain rfl:r'=0:=by omega
    obtain rfl:c'=0:=by omega
    rfl
   ·rw [if_neg hno] at e; cases e
  ·unfold pl at e
   have z:n=o:=z
   rw [if_pos z] at e
   cases e
 | t + 1,n,hn=>by
  have h0:=R.h0
  have w0:=R.w0
  have hpos:0 < h ^ t:=Jr h0
  have wpos:0 < w ^ t:=Jr w0
  -- each place where it is has a candidate that is not behind it
  have key:∀ r c:Nat,r < h ^ (t + 1)→c < w ^ (t + 1)→far h w bs n (t + 1) r c=o→∃ q ∈ cand h w bs (h ^ t) (w ^ t) (pl h w bs o t) n,ltP (r:Int) (c:Int) q.1 q.2=false:=fun r c hr hc e=>by
   rw [z5q h0 w0 bs n t r c hr hc] at e
   have i1:r / h ^ t < h:=by rw [Jk hpos,Q4,← Q1]; exact hr
   have j1:c / w ^ t < w:=by rw [Jk wpos,Q4,← Q1]; exact hc
   have r1:r % h ^ t < h ^ t:=JU _ hpos
   have c1:c % w ^ t < w ^ t:=JU _ wpos
   obtain ⟨k1,k2⟩:=zc1 (o:=o) R t _ (z9s R hn i1 j1).1
   cases hp:pl h w bs o t (nt bs n (r / h ^ t) (c / w ^ t)) with
   | none=>exact absurd e (k2 hp _ _ r1 c1)
   | some q =>
    obtain ⟨r0,c0,rfl,_,_,_,mn⟩:=k1 q hp
    have m:=mn _ _ r1 c1 e
    refine ⟨_,mem_cand.mpr ⟨_,_,_,i1,j1,hp,rfl⟩,?_⟩
    have er:(r:Int)=((r / h ^ t:Nat):Int) * ((h ^ t:Nat):Int) + ((r % h ^ t:Nat):Int):=by
     have:=Nat.div_add_mod' r (h ^ t)
     rw [← Qf,← Jf,this]
    have ec:(c:Int)=((c / w ^ t:Nat):Int) * ((w ^ t:Nat):Int) + ((c % w ^ t:Nat):Int):=by
     have:=Nat.div_add_mod' c (w ^ t)
     rw [← Qf,← Jf,this]
    rw [Qd,Ne,PySem.ltP_iff] at m ⊢
    rw [er,ec]
    simp only
    generalize ((r / h ^ t:Nat):Int) * ((h ^ t:Nat):Int)=x at *
    generalize ((c / w ^ t:Nat):Int) * ((w ^ t:Nat):Int)=y at *
    generalize ((r % h ^ t:Nat):Int)=x1 at *
    generalize ((c % w ^ t:Nat):Int)=y1 at *
    omega
  refine ⟨fun p e=>?_,fun e r c hr hc z=>?_⟩
  ·obtain ⟨hm,hl⟩:=z62 e
   obtain ⟨i,j,q,hi,hj,eq,rfl⟩:=mem_cand.mp hm
   obtain ⟨k1,_⟩:=zc1 (o:=o) R t _ (z9s R hn hi hj).1
   obtain ⟨r0,c0,rfl,hr0,hc0,e0,_⟩:=k1 q eq
   have hR:i * h ^ t + r0 < h ^ (t + 1):=by
    rw [Q1,Q4 (h ^ t) h]
    have:(i + 1) * h ^ t≤h * h ^ t:=Nat.mul_le_mul_right _ hi
    rw [Nat.add_mul,Nat.one_mul] at this
    omega
   have hC:j * w ^ t + c0 < w ^ (t + 1):=by
    rw [Q1,Q4 (w ^ t) w]
    have:(j + 1) * w ^ t≤w * w ^ t:=Nat.mul_le_mul_right _ hj
    rw [Nat.add_mul,Nat.one_mul] at this
    omega
   refine ⟨i * h ^ t + r0,j * w ^ t + c0,by rw [Jf,Qf,Jf,Qf],hR,hC,?_,fun r' c' hr' hc' e'=>?_⟩
   ·rw [z5q h0 w0 bs n t _ _ hR hC]
    have d1:(i * h ^ t + r0) / h ^ t=i:=by rw [Q4,Nat.mul_add_div hpos,Nat.div_eq_of_lt hr0,Nat.add_zero]
    have d2:(j * w ^ t + c0) / w ^ t=j:=by rw [Q4,Nat.mul_add_div wpos,Nat.div_eq_of_lt hc0,Nat.add_zero]
    have m1:(i * h ^ t + r0) % h ^ t=r0:=by rw [Q4,Nat.mul_add_mod,Jo hr0]
    have m2:(j * w ^ t + c0) % w ^ t=c0:=by rw [Q4,Nat.mul_add_mod,Jo hc0]
    rw [d1,d2,m1,m2]
    exact e0
   ·obtain ⟨q,hq,hb⟩:=key r' c' hr' hc' e'
    have hx:=hl q hq
    rw [Qd,Ne,PySem.ltP_iff] at hx hb ⊢
    rw [Jf,Qf,Jf,Qf]
    simp only at hx
    generalize (i:Int) * ((h ^ t:Nat):Int)=x at *
    generalize (j:Int) * ((w ^ t:Nat):Int)=y at *
    omega
  ·obtain ⟨q,hq,_⟩:=key r c hr hc z
   rw [z63 e] at hq
   cases hq
theorem zep (hp:Fst f A B o p) (hq:Fst f A B o q):p=q:=by
 obtain ⟨r,c,rfl,a1,a2,a3,a4⟩:=hp
 obtain ⟨r',c',rfl,b1,b2,b3,b4⟩:=hq
 have x:=a4 r' c' b1 b2 b3
 have y:=b4 r c a1 a2 a3
 rw [Qd,Ne,PySem.ltP_iff] at x y
 apply Prod.ext <;> simp only <;> omega
abbrev prI (p:IP):D:=.tup [.int p.1,.int p.2]
theorem zd6 (i j:Int) (h0:0≤i) (h1:i≤1000):z1h (.int i) (.int j)=some (.pure (.int (i * j))):=by
 unfold z1h pMul pII
 have:cMul i j=true:=by unfold cMul; simp; omega
 simp only [this,if_true]
theorem z4q (w:Nat) (g:Nat→D):z3u ((Wa w).map g)=(Wa w).map fun j:Nat=>D.tup [.int (j:Int),g j]:=by
 apply List.ext_getElem?
 intro i
 unfold z3u
 rw [List.getElem?_mapIdx,WB,WB]
 by_cases h:i < w
 ·rw [Jt h]; rfl
 ·rw [WS (by simp; omega)]; rfl
theorem zb2 (g:Nat→Option α):∀ (l:List Nat) (a:List α),l.foldl (fun a j=>a ++ (g j).toList) a=a ++ l.filterMap g
 | [],a=>by simp
 | j :: r,a=>by
  rw [Q6,zb2 g r]
  cases e:g j with
  | none=>simp [e]
  | some x=>simp [e]
theorem z7u (g:Nat→List α):∀ (l:List Nat) (a:List α),l.foldl (fun a j=>a ++ g j) a=a ++ l.flatMap g
 | [],a=>by simp
 | j :: r,a=>by rw [Q6,z7u g r]; simp
theorem zb9 (f:DE) (δ:Dl):z9y f δ=(f δ).bind fun r δ1=>match r.d with
 | .lst ds=>.ok (z3u ds) δ1
 | .tup ds=>.ok (z3u ds) δ1
 | _=>.stuck:=rfl
theorem zcD (f:DE) (δ:Dl):z8T f δ=(f δ).bind fun r δ1=>match r.d with
 | .str x=>.ok (z3u (x.map fun n=>.str [n])) δ1
 | _=>.stuck:=rfl
def Holds (bs:List (Nat×List Tx)) (f:Nat→Option IP) (ds:List (DKey×D)):Prop:=∀ n ∈ bs.map (·.1),valD ds (.inr [n])=(f n).map prI
abbrev gpSt (ru pd ta tb:D) (G:List (DKey×D)) (o5 o6:Option S) (L:List IP) (o8 o9 o10 o11 o12 o13:Option S):Dl:=[some (.pure ru),some (.pure pd),some (.pure ta),some (.pure tb),some (.own (.dct G)),o5,o6,some (.own (.lst (L.map prI))),o8,o9,o10,o11,o12,o13]
section
variable {h w:Nat} {bs:List (Nat×List Tx)} (R:Rul h w bs) {A C:Nat} {f:Nat→Option IP} {ds:List (DKey×D)} (hH:Holds bs f ds) (ru:D) {n:Nat} (hn:n ∈ bs.map (·.1)) (G:List (DKey×D)) (o5 o6:Option S)
include R hH hn
theorem gp_in (hi:i < h) (L0:List IP) (hL:L0.length≤100) (o9:Option S) (J:Option S×Option S×Option S×Option S) :
  ∃ J':Option S×Option S×Option S×Option S,forL (gTp 2 (z0q (gNm [] 10) (z0q (gNm [] 11) z1F))) (B1_) ((Wa w).map fun j:Nat=>D.tup [.int (j:Int),.str [nt bs n i j]]) (gpSt ru (.dct ds) (.int (A:Int)) (.int (C:Int)) G o5 o6 L0 (some (.pure (.int (i:Int)))) o9 J.1 J.2.1 J.2.2.1 J.2.2.2) = .ok .next (gpSt ru (.dct ds) (.int (A:Int)) (.int (C:Int)) G o5 o6 (L0 ++ (Wa w).filterMap fun j=>(f (nt bs n i j)).map fun p=>((i:Int) * (A:Int) + p.1,(j:Int) * (C:Int) + p.2)) (some (.pure (.int (i:Int)))) o9 J'.1 J'.2.1 J'.2.2.1 J'.2.2.2):=by
 have w1:=R.w1
 have h1:=R.h1
 obtain ⟨J',e,_⟩:=z2a (g:=(gTp 2 (z0q (gNm [] 10) (z0q (gNm [] 11) z1F)))) (b:=(B1_)) (fun j:Nat=>D.tup [.int (j:Int),.str [nt bs n i j]]) (fun (L:List IP) (J:Option S×Option S×Option S×Option S)=>gpSt ru (.dct ds) (.int (A:Int)) (.int (C:Int)) G o5 o6 L (some (.pure (.int (i:Int)))) o9 J.1 J.2.1 J.2.2.1 J.2.2.2)
  (fun L j=>L ++ ((f (nt bs n i j)).map fun p=>((i:Int) * (A:Int) + p.1,(j:Int) * (C:Int) + p.2)).toList) (fun k L=>L.length≤100 + k) (fun j=>j < w) 1000 (fun k L J j hk hp hj=>by
   have hm:=(z9s R hn hi hj).1
   have hv:=hH _ hm
   have hin:pIn false (.str [nt bs n i j]) (.dct ds)=some (.pure (.bl (valD ds (.inr [nt bs n i j])).isSome)):=rfl
   have hix:pIxX (.dct ds) (.str [nt bs n i j])=(valD ds (.inr [nt bs n i j])).map S.pure:=rfl
   rw [hv] at hin hix
   generalize nt bs n i j=m at *
   cases e:f m with
   | none =>
    rw [e] at hin
    refine ⟨by simp; omega,_,(some (.pure (.int (j:Int))),some (.pure (.str [m])),J.2.2.1,J.2.2.2),rfl,?_⟩
    have hin':pIn false (.str [m]) (.dct ds)=some (.pure (.bl false)):=hin
    simp only [Option.map_none,Option.toList_none,WG]
    generalize D.int (j:Int)=dj at *
    generalize D.int (i:Int)=di at *
    generalize L.map prI=LD at *
    generalize D.dct ds=dd at *
    generalize D.str [m]=dm at *
    simp [gpSt,dTr,eVar,bVar,hin']
   | some q =>
    rw [e] at hin hix
    have hin':pIn false (.str [m]) (.dct ds)=some (.pure (.bl true)):=hin
    have hix':pIxX (.dct ds) (.str [m])=some (.pure (prI q)):=hix
    have m1:=zd6 (i:Int) (A:Int) (by omega) (by omega)
    have m2:=zd6 (j:Int) (C:Int) (by omega) (by omega)
    have a1:=add_int ((i:Int) * (A:Int)) q.1
    have a2:=add_int ((j:Int) * (C:Int)) q.2
    have hz:L.length < W3:=by rw [z2h]; omega
    refine ⟨by simp; omega,_,(some (.pure (.int (j:Int))),some (.pure (.str [m])),some (.pure (.int q.1)),some (.pure (.int q.2))),rfl,?_⟩
    simp only [WF,Option.toList_some]
    generalize (i:Int) * (A:Int) + q.1=x1 at *
    generalize (j:Int) * (C:Int) + q.2=x2 at *
    generalize (i:Int) * (A:Int)=x3 at *
    generalize (j:Int) * (C:Int)=x4 at *
    generalize D.dct ds=dd at *
    generalize D.str [m]=dm at *
    simp [gpSt,dTr,eVar,bVar,hin',dAsg,eOpF,eOpN,hix',gTp,z0q,z1F,z0F,z1X,m1,m2,a1,a2,putL,hz]) (Wa w) 0 L0 J (by simp; omega) (by omega) (fun j hj=>Qk.mp hj)
 rw [zb2] at e
 exact ⟨J',e⟩
theorem zg3 (L6:D) (hb:∀ δ:Dl,True) (J:Option S×Option S×Option S×Option S×Option S×Option S) :
  ∃ J':Option S×Option S×Option S×Option S×Option S×Option S,forL (gTp 2 (z0q (gNm [] 8) (z0q (gNm [] 9) z1F))) (B19_) ((Wa h).map fun i:Nat=>D.tup [.int (i:Int),.str ((Wa w).map (nt bs n i))]) (gpSt ru (.dct ds) (.int (A:Int)) (.int (C:Int)) G o5 o6 [] J.1 J.2.1 J.2.2.1 J.2.2.2.1 J.2.2.2.2.1 J.2.2.2.2.2) = .ok .next (gpSt ru (.dct ds) (.int (A:Int)) (.int (C:Int)) G o5 o6 (cand h w bs A C f n) J'.1 J'.2.1 J'.2.2.1 J'.2.2.2.1 J'.2.2.2.2.1 J'.2.2.2.2.2):=by
 have w1:=R.w1
 have h1:=R.h1
 obtain ⟨J',e,_⟩:=z2a (g:=(gTp 2 (z0q (gNm [] 8) (z0q (gNm [] 9) z1F)))) (b:=(B19_)) (fun i:Nat=>D.tup [.int (i:Int),.str ((Wa w).map (nt bs n i))]) (fun (L:List IP) (J:Option S×Option S×Option S×Option S×Option S×Option S)=>gpSt ru (.dct ds) (.int (A:Int)) (.int (C:Int)) G o5 o6 L J.1 J.2.1 J.2.2.1 J.2.2.2.1 J.2.2.2.2.1 J.2.2.2.2.2)
  (fun L i=>L ++ (Wa w).filterMap fun j=>(f (nt bs n i j)).map fun p=>((i:Int) * (A:Int) + p.1,(j:Int) * (C:Int) + p.2)) (fun k L=>L.length≤k * w) (fun i=>i < h) 4 (fun k L J i hk hp hi=>by
   have hl:L.length≤100:=by
    have:k * w≤4 * 4:=Nat.mul_le_mul (by omega) w1
    omega
   obtain ⟨J',e⟩:=gp_in R (A:=A) (C:=C) hH ru hn G o5 o6 hi L hl (some (.pure (.str ((Wa w).map (nt bs n i))))) J.2.2
   refine ⟨?_,_,(some (.pure (.int (i:Int))),some (.pure (.str ((Wa w).map (nt bs n i)))),J'),rfl,?_⟩
   ·have:=List.length_filterMap_le (fun j=>(f (nt bs n i j)).map fun p=>((i:Int) * (A:Int) + p.1,(j:Int) * (C:Int) + p.2)) (Wa w)
    rw [WY,Nat.add_mul,Nat.one_mul]
    rw [JH] at this
    omega
   ·refine z3b (ds:=(Wa w).map fun j:Nat=>D.tup [.int (j:Int),.str [nt bs n i j]]) ?_ e
    simp [gpSt,zcD,eVar]
    exact z4q w (fun j=>D.str [nt bs n i j])) (Wa h) 0 [] J (by simp; omega) (by simp) (fun i hi=>Qk.mp hi)
 rw [z7u] at e
 exact ⟨J',e⟩
end
def dpl (bs:List (Nat×List Tx)) (g:Nat→Option IP):List (DKey×D):=bs.filterMap fun b=>(g b.1).map fun p=>((.inr [b.1]:DKey),prI p)
theorem zez (bs:List (Nat×List Tx)) (g:Nat→Option IP):(dpl bs g).length≤bs.length:=List.length_filterMap_le _ _
theorem zbd (g:Nat→Option IP):∀ (bs:List (Nat×List Tx)),(bs.map (·.1)).Pairwise (· < ·)→∀ n ∈ bs.map (·.1),valD (dpl bs g) (.inr [n])=(g n).map prI
 | [],_,n,hn=>by cases hn
 | b :: r,hu,n,hn=>by
  rw [Wr,List.pairwise_cons] at hu
  have no:∀ m,(∀ b' ∈ r,b'.1≠m)→valD (dpl r g) (.inr [m])=none:=fun m hm=>by
   unfold valD
   have:(dpl r g).find? (fun kv=>decide (kv.1 = .inr [m]))=none:=by
    rw [List.find?_eq_none]
    intro x hx z
    obtain ⟨b',hb',e⟩:=Q7.mp hx
    obtain ⟨p,_,rfl⟩:=Wx.mp e
    simp at z
    exact hm b' hb' z
   rw [this]; rfl
  by_cases hb:b.1=n
  ·have hr:=no n fun b' hb' z=>by
    have:=hu.1 b'.1 (WC hb')
    omega
   have hd:dpl (b :: r) g=((g b.1).map fun p=>((.inr [b.1]:DKey),prI p)).toList ++ dpl r g:=by
    unfold dpl
    cases e:(g b.1).map fun p=>((.inr [b.1]:DKey),prI p) with
    | none=>simp [e]
    | some x=>simp [e]
   rw [hd,hb]
   cases e:g n with
   | none=>simpa using hr
   | some p=>simp [valD]
  ·have hm:n ∈ r.map (·.1):=by
    rcases Wf.mp hn with z | z
    ·exact absurd z.symm hb
    ·exact z
   have ih:=zbd g r hu.2 n hm
   have hd:dpl (b :: r) g=((g b.1).map fun p=>((.inr [b.1]:DKey),prI p)).toList ++ dpl r g:=by
    unfold dpl
    cases e:(g b.1).map fun p=>((.inr [b.1]:DKey),prI p) with
    | none=>simp [e]
    | some x=>simp [e]
   rw [hd,← ih]
   cases e:g b.1 with
   | none=>simp
   | some p=>simp [valD,WZ,hb]
theorem zdO (h:∀ x ∈ ds,x.1≠k):putD ds k v=ds ++ [(k,v)]:=by
 unfold putD
 rw [if_neg]
 intro z
 obtain ⟨x,hx,e⟩:=List.any_eq_true.mp z
 exact h x hx (by simpa using e)
theorem z8d:∀ (L:List IP) (p:IP),z2P L=some p→z9r (.lst (L.map prI))=some (.pure (prI p))
 | [],p,e=>by cases e
 | a :: r,p,e=>by
  have hp:∀ L:List IP,prsD (L.map prI)=some L:=fun L=>by
   induction L with
   | nil=>rfl
   | cons a r ih=>simp [prsD,prD2,ih]
  have e:mnP (a :: r)=p:=Wt e
  unfold z9r
  simp only [hp,e]
theorem zb1:∀ {bs:List (Nat×List Tx)},(bs.map (·.1)).Pairwise (· < ·)→∀ {a b:Nat×List Tx},a ∈ bs→b ∈ bs→a.1=b.1→a=b
 | [],_,_,_,ha,_,_=>by cases ha
 | x :: r,h,a,b,ha,hb,e=>by
  rw [Wr,List.pairwise_cons] at h
  rcases Wf.mp ha with ha | ha
  ·rcases Wf.mp hb with hb | hb
   ·rw [ha,hb]
   ·have:=h.1 b.1 (WC hb)
    rw [ha] at e
    omega
  ·rcases Wf.mp hb with hb | hb
   ·have:=h.1 a.1 (WC ha)
    rw [hb] at e
    omega
   ·exact zb1 h.2 ha hb e
theorem z5P:∀ {bs:List (Nat×List Tx)},(bs.map (·.1)).Pairwise (· < ·)→∀ {k:Nat} {b b':Nat×List Tx},bs[k]? = some b→b' ∈ bs.take k→b'.1=b.1→False
 | [],_,k,b,b',h,_,_=>by simp at h
 | x :: r,hu,0,b,b',h,h',_=>by simp at h'
 | x :: r,hu,k + 1,b,b',h,h',e=>by
  rw [Wr,List.pairwise_cons] at hu
  have h:r[k]? = some b:=by simpa using h
  rw [List.take_succ_cons] at h'
  rcases Wf.mp h' with z | z
  ·have:=hu.1 b.1 (WC (Wv h))
   rw [z] at e
   omega
  ·exact z5P hu.2 h z e
theorem zcN (R:Rul h w bs) (hb:b ∈ bs):b.2=(Wa h).map fun i=>(Wa w).map (nt bs b.1 i):=by
 have hn:b.1 ∈ bs.map (·.1):=WC hb
 obtain ⟨b',hb',e',_,k⟩:=z6M hn
 have hB:=R.blk b hb
 have hbb:b'=b:=zb1 R.up hb' hb e'
 subst hbb
 apply List.ext_getElem?
 intro i
 by_cases hi:i < h
 ·have:=z71 R hn hi
  rw [k] at this
  rw [WB,Jt hi,WF,← this,QO]
  have hl:i < b'.2.length:=by rw [hB.1]; exact hi
  rw [Ww hl]
  rfl
 ·rw [WS (by rw [hB.1]; omega),WS (by simp; omega)]
theorem zdK {h w:Nat} {bs:List (Nat×List Tx)} (R:Rul h w bs) {A C:Nat} {f:Nat→Option IP} {ds:List (DKey×D)} (hH:Holds bs f ds) (ru:D) (x2:pIx ru (.int 2)=some (.pure (.tup (bs.map blD)))) :
  gOf [] 14 (B11_) [.pure ru,.pure (.dct ds),.pure (.int (A:Int)),.pure (.int (C:Int))]=some (.own (.dct (dpl bs fun n=>z2P (cand h w bs A C f n))),[.pure ru,.pure (.dct ds),.pure (.int (A:Int)),.pure (.int (C:Int))]):=by
 have n1:=R.n1
 obtain ⟨δ',e,o5,o6,o7,o8,o9,o10,o11,o12,o13,rfl⟩:=z1O (g:=(gTp 2 (z0q (gNm [] 5) (z0q (gNm [] 6) z1F)))) (b:=(B5_)) (fun k δ=>∃ (o5 o6 o7 o8 o9 o10 o11 o12 o13:Option S),δ=[some (.pure ru),some (.pure (.dct ds)),some (.pure (.int (A:Int))),some (.pure (.int (C:Int))),some (.own (.dct (dpl (bs.take k) fun n=>z2P (cand h w bs A C f n)))),o5,o6,o7,o8,o9,o10,o11,o12,o13]) (bs.map blD) 0 [some (.pure ru),some (.pure (.dct ds)),some (.pure (.int (A:Int))),some (.pure (.int (C:Int))),some (.own (.dct [])),none,none,none,none,none,none,none,none,none] ⟨none,none,none,none,none,none,none,none,none,rfl⟩ (fun k d δ hd ⟨o5,o6,o7,o8,o9,o10,o11,o12,o13,e⟩=>by
  subst e
  rw [WB,Wx] at hd
  obtain ⟨b,hb,rfl⟩:=hd
  have hbm:=Wv hb
  have hn:b.1 ∈ bs.map (·.1):=WC hbm
  rw [Q0]
  obtain ⟨J',e⟩:=zg3 R (A:=A) (C:=C) hH ru hn (dpl (bs.take k) fun n=>z2P (cand h w bs A C f n)) (some (.pure (.str [b.1]))) (some (.pure (flD b.2))) .non (fun _=>trivial) (o8,o9,o10,o11,o12,o13)
  have hfl:z3u (b.2.map D.str)=(Wa h).map fun i:Nat=>D.tup [.int (i:Int),.str ((Wa w).map (nt bs b.1 i))]:=by
   rw [zcN R hbm,Jj]
   exact z4q h (fun i=>D.str ((Wa w).map (nt bs b.1 i)))
  have htk:dpl (bs.take (k + 1)) (fun n=>z2P (cand h w bs A C f n))=dpl (bs.take k) (fun n=>z2P (cand h w bs A C f n)) ++ ((z2P (cand h w bs A C f b.1)).map fun p=>((.inr [b.1]:DKey),prI p)).toList:=by
   unfold dpl
   rw [JJ,hb,List.filterMap_append]
   cases e:(z2P (cand h w bs A C f b.1)).map fun p=>((.inr [b.1]:DKey),prI p) with
   | none=>simp [e]
   | some x=>simp [e]
  have hnew:∀ x ∈ dpl (bs.take k) (fun n=>z2P (cand h w bs A C f n)),x.1≠(.inr [b.1]:DKey):=fun x hx z=>by
   obtain ⟨b',hb',e⟩:=Q7.mp hx
   obtain ⟨p,_,rfl⟩:=Wx.mp e
   have:b'.1=b.1:=by simpa using z
   exact z5P R.up hb hb' this
  have hlen:(dpl (bs.take k) fun n=>z2P (cand h w bs A C f n)).length < W3:=by
   have:=zez (bs.take k) fun n=>z2P (cand h w bs A C f n)
   rw [QZ] at this
   rw [z2h]
   omega
  rw [htk]
  generalize dpl (bs.take k) (fun n=>z2P (cand h w bs A C f n))=G at *
  have ll:pLen (.lst ((cand h w bs A C f b.1).map prI))=some (.pure (.int ((cand h w bs A C f b.1).length:Int))):=by
   show some (S.pure (.int (((cand h w bs A C f b.1).map prI).length:Int)))=_
   rw [Qn]
  have gt:=gt_int ((cand h w bs A C f b.1).length:Int) 0
  refine ⟨[some (.pure ru),some (.pure (.dct ds)),some (.pure (.int (A:Int))),some (.pure (.int (C:Int))),some (.own (.dct G)),some (.pure (.str [b.1])),some (.pure (flD b.2)),o7,o8,o9,o10,o11,o12,o13],[some (.pure ru),some (.pure (.dct ds)),some (.pure (.int (A:Int))),some (.pure (.int (C:Int))),some (.own (.dct (G ++ ((z2P (cand h w bs A C f b.1)).map fun p=>((.inr [b.1]:DKey),prI p)).toList))),some (.pure (.str [b.1])),some (.pure (flD b.2)),some (.own (.lst ((cand h w bs A C f b.1).map prI))),J'.1,J'.2.1,J'.2.2.1,J'.2.2.2.1,J'.2.2.2.2.1,J'.2.2.2.2.2],rfl,?_,_,_,_,_,_,_,_,_,_,rfl⟩
  refine z0r (δ1:=gpSt ru (.dct ds) (.int (A:Int)) (.int (C:Int)) G (some (.pure (.str [b.1]))) (some (.pure (flD b.2))) [] o8 o9 o10 o11 o12 o13) rfl ?_
  refine z0r (z3b (ds:=(Wa h).map fun i:Nat=>D.tup [.int (i:Int),.str ((Wa w).map (nt bs b.1 i))]) ?_ e) ?_
  ·rw [← hfl]
   simp [gpSt,zb9,eVar]
  ·clear e hfl
   cases hc:z2P (cand h w bs A C f b.1) with
   | none =>
    have hz:=z63 hc
    rw [hz]
    have ll':pLen (.lst [])=some (.pure (.int 0)):=rfl
    have gt':pGt (.int 0) (.int 0)=some (.pure (.bl false)):=rfl
    simp only [Option.map_none,Option.toList_none,WG]
    generalize D.dct ds=dd at *
    simp [gpSt,dTr,bVar,ll',gt']
   | some p =>
    have mn:=z8d _ p hc
    have hpos:(0:Int) < ((cand h w bs A C f b.1).length:Int):=by
     have:=(z62 hc).1
     have:=List.length_pos_of_mem this
     omega
    rw [decide_eq_true hpos] at gt
    have pn:=zdO (v:=prI p) hnew
    simp only [WF,Option.toList_some]
    rw [← pn]
    simp only [gpSt]
    generalize D.int ((cand h w bs A C f b.1).length:Int)=dl at *
    generalize (cand h w bs A C f b.1).map prI=LC at *
    generalize hpi:prI p=dp at *
    generalize D.dct ds=dd at *
    simp [gpSt,dTr,bVar,ll,gt,zcH,z7p,eVar,mn,keyD,hlen])
 rw [Q0,Qn,List.take_length] at e
 rw [z0Y]
 generalize (dpl bs fun n=>z2P (cand h w bs A C f n))=GG at *
 have K:(B11_) (z0f 14 [.pure ru,.pure (.dct ds),.pure (.int (A:Int)),.pure (.int (C:Int))]) = .ok (.ret (.own (.dct GG))) [some (.pure ru),some (.pure (.dct ds)),some (.pure (.int (A:Int))),some (.pure (.int (C:Int))),none,o5,o6,o7,o8,o9,o10,o11,o12,o13]:=by
  refine z0r (δ1:=[some (.pure ru),some (.pure (.dct ds)),some (.pure (.int (A:Int))),some (.pure (.int (C:Int))),some (.own (.dct [])),none,none,none,none,none,none,none,none,none]) rfl ?_
  refine z0r (z3b (ds:=bs.map blD) ?_ e) ?_
  ·clear e
   generalize hBD:bs.map blD=BD at *
   simp [eOpF,eOpN,bVar,x2,z5M]
  ·simp [z5N]
 rw [K]
 simp [ioOk,z0H,z0a]
theorem zbQ {h w:Nat} {bs:List (Nat×List Tx)} (R:Rul h w bs) {A C:Nat} {f:Nat→Option IP} {ds:List (DKey×D)} (hH:Holds bs f ds):z0C [.pure (ruD h w bs),.pure (.dct ds),.pure (.int (A:Int)),.pure (.int (C:Int))]=some (.own (.dct (dpl bs fun n=>z2P (cand h w bs A C f n))),[.pure (ruD h w bs),.pure (.dct ds),.pure (.int (A:Int)),.pure (.int (C:Int))]):=by
 rw [z0C,z2G]
 exact zdK R hH _ (z54 h w bs).2.2
def dsk (h w:Nat) (bs:List (Nat×List Tx)) (o:Nat):Nat→List (DKey×D)
 | 0=>[(.inr [o],.tup [.int 0,.int 0])]
 | k + 1=>dpl bs (pl h w bs o (k + 1))
theorem z7A (R:Rul h w bs):∀ k,Holds bs (pl h w bs o k) (dsk h w bs o k)
 | 0,n,hn=>by
  unfold pl
  by_cases e:n=o
  ·rw [if_pos e,e]; simp [dsk,valD]
  ·rw [if_neg e]
   have:¬ o=n:=fun z=>e z.symm
   simp [dsk,valD,WZ,this]
 | k + 1,n,hn=>zbd _ bs R.up n hn
abbrev B23_ (GG:DF):DS:=dSeq (dAsg (z08 GG [.val (eVar 0),.val (eVar 4),.val (eVar 5),.val (eVar 6)]) (gNm [] 4)) (B12_)
abbrev B0_ (GG:DF) (GN:DX) (GR:DX):DS:=dSeq (z3v (z0P GR [.val (eVar 0),.val (eVar 1)])) (dSeq (z3v (z0P GN [.val (eVar 2)])) (dSeq (z3v (z0P GR [.val (eVar 0),.val (eVar 3)])) (dSeq (dAsg (z7z (eVar 3) (eD (.tup [.int 0,.int 0]))) (gNm [] 4)) (dSeq (dAsg (eD (.int 1)) (gNm [] 5)) (dSeq (dAsg (eD (.int 1)) (gNm [] 6)) (dSeq (dFor (z1e (eVar 2)) (gNm [] 7) (B23_ GG)) (dRet (zbc 4 (eVar 1)))))))))
theorem zfe (GR GN:DX) (GG:DF) (ru tl d o:D) (x:Tx) (g:GR [.pure ru,.pure tl]=some (.inr (x,[.pure ru,.pure tl]))):gOfX [] 8 (B0_ GG GN GR) [.pure ru,.pure tl,.pure d,.pure o]=some (.inr (x,[.pure ru,.pure tl,.pure d,.pure o])):=by
 rw [z1N]
 simp [ioOk,z0f,z0P,ios,ndup,z0B,evX,mkA,putA,eVar,g,z2u,z0a]
theorem zfd (GR GN:DX) (GG:DF) (ru tl d o:D) (x:Tx) (g:GR [.pure ru,.pure tl]=some (.inl (.pure .non,[.pure ru,.pure tl]))) (g2:GN [.pure d]=some (.inr (x,[.pure d]))):gOfX [] 8 (B0_ GG GN GR) [.pure ru,.pure tl,.pure d,.pure o]=some (.inr (x,[.pure ru,.pure tl,.pure d,.pure o])):=by
 rw [z1N]
 simp [ioOk,z0f,z0P,ios,ndup,z0B,evX,mkA,putA,eVar,g,g2,z2u,z0a]
theorem zfc (GR GN:DX) (GG:DF) (ru tl d o:D) (x:Tx) (g:GR [.pure ru,.pure tl]=some (.inl (.pure .non,[.pure ru,.pure tl]))) (g2:GN [.pure d]=some (.inl (.pure .non,[.pure d]))) (g3:GR [.pure ru,.pure o]=some (.inr (x,[.pure ru,.pure o]))):gOfX [] 8 (B0_ GG GN GR) [.pure ru,.pure tl,.pure d,.pure o]=some (.inr (x,[.pure ru,.pure tl,.pure d,.pure o])):=by
 rw [z1N]
 simp [ioOk,z0f,z0P,ios,ndup,z0B,evX,mkA,putA,eVar,g,g2,g3,z2u,z0a]
abbrev ffSt (ru:D) (n t o:Nat) (ds:List (DKey×D)) (a b:Nat) (o7:Option S):Dl:=[some (.pure ru),some (.pure (.str [n])),some (.pure (.int (t:Int))),some (.pure (.str [o])),some (.own (.dct ds)),some (.pure (.int (a:Int))),some (.pure (.int (b:Int))),o7]
theorem zdM (GR GN:DX) (GG:DF) (ru:D) {h w n o t:Nat} (h1:h≤4) (w1:w≤4) (ht:t≤60) (DS:Nat→List (DKey×D)) (x0:pIx ru (.int 0)=some (.pure (.int (h:Int)))) (x1:pIx ru (.int 1)=some (.pure (.int (w:Int)))) (g:GR [.pure ru,.pure (.str [n])]=some (.inl (.pure .non,[.pure ru,.pure (.str [n])]))) (g2:GN [.pure (.int (t:Int))]=some (.inl (.pure .non,[.pure (.int (t:Int))]))) (g3:GR [.pure ru,.pure (.str [o])]=some (.inl (.pure .non,[.pure ru,.pure (.str [o])])))
  (d0:DS 0=[(.inr [o],.tup [.int 0,.int 0])]) (gg:∀ k,GG [.pure ru,.pure (.dct (DS k)),.pure (.int ((h ^ k:Nat):Int)),.pure (.int ((w ^ k:Nat):Int))]=some (.own (.dct (DS (k + 1))),[.pure ru,.pure (.dct (DS k)),.pure (.int ((h ^ k:Nat):Int)),.pure (.int ((w ^ k:Nat):Int))])) (y:D) (hy:(valD (DS t) (.inr [n])).getD .non=y) :
  gOfX [] 8 (B0_ GG GN GR) [.pure ru,.pure (.str [n]),.pure (.int (t:Int)),.pure (.str [o])]=some (.inl (.pure y,[.pure ru,.pure (.str [n]),.pure (.int (t:Int)),.pure (.str [o])])):=by
 obtain ⟨δ',e,o7,rfl⟩:=z1O (g:=gNm [] 7) (b:=(B23_ GG)) (fun k δ=>∃ o7,δ=ffSt ru n t o (DS k) (h ^ k) (w ^ k) o7) (z0R 0 t) 0 (ffSt ru n t o (DS 0) (h ^ 0) (w ^ 0) none) ⟨none,rfl⟩ (fun k d δ hd ⟨o7,e⟩=>by
  subst e
  obtain ⟨hk,rfl⟩:=z2t hd
  rw [Q0]
  have q:=gg k
  have m1:=mul_int ((h ^ k:Nat):Int) h (by omega) (by omega)
  have m2:=mul_int ((w ^ k:Nat):Int) w (by omega) (by omega)
  have s1:((h ^ k:Nat):Int) * (h:Int)=((h ^ (k + 1):Nat):Int):=by rw [Q1,Qf]
  have s2:((w ^ k:Nat):Int) * (w:Int)=((w ^ (k + 1):Nat):Int):=by rw [Q1,Qf]
  rw [s1] at m1
  rw [s2] at m2
  refine ⟨ffSt ru n t o (DS k) (h ^ k) (w ^ k) (some (.pure (.int (k:Int)))),ffSt ru n t o (DS (k + 1)) (h ^ (k + 1)) (w ^ (k + 1)) (some (.pure (.int (k:Int)))),rfl,?_,_,rfl⟩
  simp only [ffSt]
  generalize D.int ((h ^ k:Nat):Int)=a1 at *
  generalize D.int ((w ^ k:Nat):Int)=b1 at *
  generalize D.int ((h ^ (k + 1):Nat):Int)=a2 at *
  generalize D.int ((w ^ (k + 1):Nat):Int)=b2 at *
  generalize D.int (k:Int)=dk at *
  generalize D.int (t:Int)=dt at *
  generalize D.int (h:Int)=dh at *
  generalize D.int (w:Int)=dw at *
  generalize D.str [n]=dn at *
  generalize D.str [o]=do' at *
  generalize DS k=L1 at *
  generalize DS (k + 1)=L2 at *
  simp [ffSt,dAsg,z08,ios,ndup,z0B,evX,mkA,putA,eVar,bVar,q,eOpF,eOpN,x0,x1,m1,m2])
 rw [Q0,z4y] at e
 have K:(B0_ GG GN GR) (z0f 8 [.pure ru,.pure (.str [n]),.pure (.int (t:Int)),.pure (.str [o])]) = .ok (.ret (.pure y)) (ffSt ru n t o (DS t) (h ^ t) (w ^ t) o7):=by
  refine z0r (δ1:=[some (.pure ru),some (.pure (.str [n])),some (.pure (.int (t:Int))),some (.pure (.str [o])),none,none,none,none]) ?_ ?_
  ·simp [z0f,z0P,ios,ndup,z0B,evX,mkA,putA,eVar,g]
  refine z0r (δ1:=[some (.pure ru),some (.pure (.str [n])),some (.pure (.int (t:Int))),some (.pure (.str [o])),none,none,none,none]) ?_ ?_
  ·simp [z0P,ios,ndup,z0B,evX,mkA,putA,eVar,g2]
  refine z0r (δ1:=[some (.pure ru),some (.pure (.str [n])),some (.pure (.int (t:Int))),some (.pure (.str [o])),none,none,none,none]) ?_ ?_
  ·simp [z0P,ios,ndup,z0B,evX,mkA,putA,eVar,g3]
  refine z0r (δ1:=[some (.pure ru),some (.pure (.str [n])),some (.pure (.int (t:Int))),some (.pure (.str [o])),some (.own (.dct (DS 0))),none,none,none]) ?_ ?_
  ·rw [d0]
   simp [dAsg,z7z,eVar,keyD]
  refine z0r (δ1:=[some (.pure ru),some (.pure (.str [n])),some (.pure (.int (t:Int))),some (.pure (.str [o])),some (.own (.dct (DS 0))),some (.pure (.int 1)),none,none]) rfl ?_
  refine z0r (δ1:=ffSt ru n t o (DS 0) (h ^ 0) (w ^ 0) none) rfl ?_
  refine z0r (z3b (ds:=z0R 0 t) (δ1:=ffSt ru n t o (DS 0) (h ^ 0) (w ^ 0) none) ?_ e) ?_
  ·have hr:=z4w t (by omega) (ffSt ru n t o (DS 0) (h ^ 0) (w ^ 0) none)
   simp only [ffSt] at hr ⊢
   generalize D.int (t:Int)=dt at *
   simp [eVar]
   exact hr
  ·simp [ffSt,zbc,zcu,eVar,keyD,hy]
 rw [z1N,K]
 simp [ioOk,z0H,z0a]
section
variable {h w n o t:Nat} {bs:List (Nat×List Tx)}
theorem ff_1 (R:Rul h w bs) (tl d o:D) (hd:NX tl) (hz:tgd bs tl=false):z0i [.pure (ruD h w bs),.pure tl,.pure d,.pure o]=some (.inr (z4l,[.pure (ruD h w bs),.pure tl,.pure d,.pure o])):=by
 have e:=z57 R tl hd
 rw [hz] at e
 rw [z0i,z1I]
 exact zfe z0h z0g z0C _ tl d o z4l e
theorem ff_2 (R:Rul h w bs) (hn:n ∈ bs.map (·.1)) (d o:D) (hd:NX d) (hz:wi 60 d=false):z0i [.pure (ruD h w bs),.pure (.str [n]),.pure d,.pure o]=some (.inr (z1t,[.pure (ruD h w bs),.pure (.str [n]),.pure d,.pure o])):=by
 have e:=z57 R (.str [n]) trivial
 rw [z6U hn] at e
 have e2:=z4O d hd
 rw [hz] at e2
 rw [z0i,z1I]
 exact zfd z0h z0g z0C _ (.str [n]) d o z1t e e2
theorem ff_3 (R:Rul h w bs) (hn:n ∈ bs.map (·.1)) (ht:t≤60) (o:D) (hd:NX o) (hz:tgd bs o=false):z0i [.pure (ruD h w bs),.pure (.str [n]),.pure (.int (t:Int)),.pure o]=some (.inr (z4l,[.pure (ruD h w bs),.pure (.str [n]),.pure (.int (t:Int)),.pure o])):=by
 have e:=z57 R (.str [n]) trivial
 rw [z6U hn] at e
 have e2:=z4O (.int (t:Int)) trivial
 rw [z6Q (by omega)] at e2
 have e3:=z57 R o hd
 rw [hz] at e3
 rw [z0i,z1I]
 exact zfc z0h z0g z0C _ (.str [n]) _ o z4l e e2 e3
def pD:Option IP→D
 | none=>.non
 | some p=>prI p
theorem zg8 (R:Rul h w bs) (hn:n ∈ bs.map (·.1)) (ho:o ∈ bs.map (·.1)) (ht:t≤60):z0i [.pure (ruD h w bs),.pure (.str [n]),.pure (.int (t:Int)),.pure (.str [o])]=some (.inl (.pure (pD (pl h w bs o t n)),[.pure (ruD h w bs),.pure (.str [n]),.pure (.int (t:Int)),.pure (.str [o])])):=by
 have e:=z57 R (.str [n]) trivial
 rw [z6U hn] at e
 have e2:=z4O (.int (t:Int)) trivial
 rw [z6Q (by omega)] at e2
 have e3:=z57 R (.str [o]) trivial
 rw [z6U ho] at e3
 rw [z0i,z1I]
 refine zdM z0h z0g z0C _ R.h1 R.w1 ht (dsk h w bs o) (z54 h w bs).1 (z54 h w bs).2.1 e e2 e3 rfl (fun k=>zbQ R (z7A R k)) _ ?_
 rw [z7A R t n hn]
 cases pl h w bs o t n <;> rfl
end
theorem eq_s1 (a b:Nat):pEq (.str [a]) (.str [b])=some (.pure (.bl (decide (a=b)))):=by
 by_cases h:a=b
 ·subst h; simp [pEq,flat,eqD]
 ·simp [pEq,flat,eqD,h]
theorem zcI (h:a δ = .ok (.ret r) δ1):dSeq a b δ = .ok (.ret r) δ1:=by
 rw [z8m,h]
 rfl
theorem z4p (I:Nat→Dl→Prop) (Z:Dl→Prop) (bad:Nat→Option D):∀ (m k:Nat) (δ:Dl),I k δ →
  (∀ i δ,k≤i→i < k + m→I i δ→∃ δ1,g (.pure (.int (i:Int))) δ=some δ1∧((∃ d δ2,bad i=some d∧b δ1 = .ok (.ret (.pure d)) δ2∧Z δ2)∨(bad i=none∧∃ δ2,b δ1 = .ok .next δ2∧I (i + 1) δ2))) →
  (∃ i d δ',k≤i∧i < k + m∧bad i=some d∧(∀ j,k≤j→j < i→bad j=none)∧forL g b ((List.range' k m).map fun i:Nat=>D.int (i:Int)) δ = .ok (.ret (.pure d)) δ'∧Z δ') ∨
  ((∀ j,k≤j→j < k + m→bad j=none)∧∃ δ',forL g b ((List.range' k m).map fun i:Nat=>D.int (i:Int)) δ = .ok .next δ'∧I (k + m) δ')
 | 0,k,δ,hI,_=>.inr ⟨fun j a b=>by omega,δ,rfl,hI⟩
 | m + 1,k,δ,hI,step=>by
  obtain ⟨δ1,e1,hs⟩:=step k δ (Wc _) (by omega) hI
  rw [List.range'_succ,Wr]
  rcases hs with ⟨d,δ2,hb,e2,z⟩ | ⟨hb,δ2,e2,hI2⟩
  ·refine .inl ⟨k,d,δ2,Wc _,by omega,hb,fun j a b=>by omega,?_,z⟩
   unfold forL
   rw [e1]
   simp only [e2,z0N]
  ·have hf:∀ x,forL g b (D.int (k:Int) :: x) δ=forL g b x δ2:=fun x=>by
    conv=>lhs; unfold forL
    rw [e1]
    simp only [e2,z0N]
   rw [hf]
   rcases z4p I Z bad m (k + 1) δ2 hI2 (fun i δ a b=>step i δ (by omega) (by omega)) with ⟨i,d,δ',a1,a2,a3,a4,a5,a6⟩ | ⟨a1,δ',a2,a3⟩
   ·refine .inl ⟨i,d,δ',by omega,by omega,a3,fun j q1 q2=>?_,a5,a6⟩
    by_cases hj:j=k
    ·rw [hj]; exact hb
    ·exact a4 j (by omega) q2
   ·refine .inr ⟨fun j q1 q2=>?_,δ',a2,by rw [show k + (m + 1)=k + 1 + m by omega]; exact a3⟩
    by_cases hj:j=k
    ·rw [hj]; exact hb
    ·exact a1 j (by omega) (by omega)
theorem z7W (n:Nat):z0R 0 n=(List.range' 0 n).map fun i:Nat=>D.int (i:Int):=by rw [z55,List.range_eq_range']
abbrev fiSt (FL:D) (o:Nat) (o2 o3:Option S):Dl:=[some (.pure FL),some (.pure (.str [o])),o2,o3]
theorem zdL (FL d0:D) (f:Nat→Nat→Nat) (A B o:Nat) (hA:A≤1000) (hB:B≤1000) (ln:pLen FL=some (.pure (.int (A:Int)))) (r0:pIx FL (.int 0)=some (.pure d0)) (l0:pLen d0=some (.pure (.int (B:Int))))
  (ix:∀ r c:Nat,r < A→c < B→∃ d,pIx FL (.int (r:Int))=some (.pure d)∧pIx d (.int (c:Int))=some (.pure (.str [f r c]))) :
  ∃ x:Option IP,gOf [] 4 (B7_) [.pure FL,.pure (.str [o])]=some (.pure (pD x),[.pure FL,.pure (.str [o])])∧(∀ p,x=some p→Fst f A B o p)∧(x=none→∀ r c,r < A→c < B→f r c≠o):=by
 -- a row
 have row:∀ (r:Nat) (o3:Option S),r < A→(∃ c o3',c < B∧f r c=o∧(∀ c',c' < c→f r c'≠o)∧forL (gNm [] 3) (dIf (dTr (eOp pEq (eOp pIx (eOpF pIx 0 (bVar 2)) (bVar 3)) (bVar 1))) (dRet (eTup (z0l (eVar 2) (z0l (eVar 3) aNil)))) z1f) (z0R 0 B) (fiSt FL o (some (.pure (.int (r:Int)))) o3) = .ok (.ret (.pure (prI ((r:Int),(c:Int))))) (fiSt FL o (some (.pure (.int (r:Int)))) o3'))∨((∀ c,c < B→f r c≠o)∧∃ o3',forL (gNm [] 3) (dIf (dTr (eOp pEq (eOp pIx (eOpF pIx 0 (bVar 2)) (bVar 3)) (bVar 1))) (dRet (eTup (z0l (eVar 2) (z0l (eVar 3) aNil)))) z1f) (z0R 0 B) (fiSt FL o (some (.pure (.int (r:Int)))) o3) = .ok .next (fiSt FL o (some (.pure (.int (r:Int)))) o3')):=fun r o3 hr=>by
  rw [z7W]
  rcases z4p (g:=gNm [] 3) (b:=(dIf (dTr (eOp pEq (eOp pIx (eOpF pIx 0 (bVar 2)) (bVar 3)) (bVar 1))) (dRet (eTup (z0l (eVar 2) (z0l (eVar 3) aNil)))) z1f)) (fun _ δ=>∃ o3,δ=fiSt FL o (some (.pure (.int (r:Int)))) o3) (fun δ=>∃ o3,δ=fiSt FL o (some (.pure (.int (r:Int)))) o3) (fun c=>if f r c=o then some (prI ((r:Int),(c:Int))) else none) B 0 (fiSt FL o (some (.pure (.int (r:Int)))) o3) ⟨o3,rfl⟩ (fun c δ _ hc ⟨o3,e⟩=>by
   subst e
   obtain ⟨d,y1,y2⟩:=ix r c hr (by omega)
   have y3:=eq_s1 (f r c) o
   refine ⟨fiSt FL o (some (.pure (.int (r:Int)))) (some (.pure (.int (c:Int)))),rfl,?_⟩
   by_cases hz:f r c=o
   ·rw [decide_eq_true hz] at y3
    refine .inl ⟨prI ((r:Int),(c:Int)),fiSt FL o (some (.pure (.int (r:Int)))) (some (.pure (.int (c:Int)))),by rw [if_pos hz],?_,_,rfl⟩
    simp only [prI,fiSt]
    generalize D.str [f r c]=x at *
    generalize D.str [o]=xo at *
    generalize D.int (r:Int)=dr at *
    generalize D.int (c:Int)=dc at *
    simp [fiSt,dTr,eVar,bVar,eOpF,eOpN,y1,y2,y3]
   ·rw [decide_eq_false hz] at y3
    refine .inr ⟨by rw [if_neg hz],fiSt FL o (some (.pure (.int (r:Int)))) (some (.pure (.int (c:Int)))),?_,_,rfl⟩
    simp only [fiSt]
    generalize D.str [f r c]=x at *
    generalize D.str [o]=xo at *
    generalize D.int (r:Int)=dr at *
    generalize D.int (c:Int)=dc at *
    simp [fiSt,dTr,eVar,bVar,eOpF,eOpN,y1,y2,y3]) with ⟨c,d,δ',_,c2,c3,c4,c5,o3',rfl⟩ | ⟨c1,δ',c2,o3',rfl⟩
  ·have hz:f r c=o:=by
    by_cases hz:f r c=o
    ·exact hz
    ·rw [if_neg hz] at c3; cases c3
   rw [if_pos hz] at c3
   cases c3
   refine .inl ⟨c,o3',by omega,hz,fun c' hc' z=>?_,c5⟩
   have:=c4 c' (Qb _) hc'
   rw [if_pos z] at this
   cases this
  ·refine .inr ⟨fun c hc z=>?_,o3',c2⟩
   have:=c1 c (Qb _) (by omega)
   rw [if_pos z] at this
   cases this
 have rB:∀ (r:Nat) (o3:Option S),(z1e (eC1 pLen (bOf (eOpF pIx 0 (bOf (eD (.int 0)))))):DI) (fiSt FL o (some (.pure (.int (r:Int)))) o3) = .ok (z0R 0 B) (fiSt FL o (some (.pure (.int (r:Int)))) o3):=fun r o3=>by
  have hr:=z4w B (by omega) (fiSt FL o (some (.pure (.int (r:Int)))) o3)
  generalize D.int (B:Int)=dB at *
  generalize D.int (r:Int)=dr at *
  simp [fiSt,eOpF,eOpN,bVar,r0,l0] at hr ⊢
  exact hr
 have all:=z4p (g:=gNm [] 2) (b:=(B16_)) (fun _ δ=>∃ o2 o3,δ=fiSt FL o o2 o3) (fun δ=>∃ o2 o3,δ=fiSt FL o o2 o3)
 have rA:(z1e (eC1 pLen (bVar 0)):DI) (fiSt FL o none none) = .ok (z0R 0 A) (fiSt FL o none none):=by
  have hr:=z4w A (by omega) (fiSt FL o none none)
  generalize D.int (A:Int)=dA at *
  simp [fiSt,bVar,ln] at hr ⊢
  exact hr
 -- the rows' first ones
 have pick:∀ r,∃ z:Option D,(r < A→((∃ c,c < B∧f r c=o∧(∀ c',c' < c→f r c'≠o)∧z=some (prI ((r:Int),(c:Int))))∨(z=none∧∀ c,c < B→f r c≠o))):=fun r=>by
  by_cases hr:r < A
  ·rcases row r none hr with ⟨c,_,c1,c2,c3,_⟩ | ⟨c1,_⟩
   ·exact ⟨some (prI ((r:Int),(c:Int))),fun _=>.inl ⟨c,c1,c2,c3,rfl⟩⟩
   ·exact ⟨none,fun _=>.inr ⟨rfl,c1⟩⟩
  ·exact ⟨none,fun z=>absurd z hr⟩
 obtain ⟨bad,hbad⟩:∃ bad:Nat→Option D,∀ r,r < A→((∃ c,c < B∧f r c=o∧(∀ c',c' < c→f r c'≠o)∧bad r=some (prI ((r:Int),(c:Int))))∨(bad r=none∧∀ c,c < B→f r c≠o)):=⟨fun r=>Classical.choose (pick r),fun r hr=>Classical.choose_spec (pick r) hr⟩
 have uniq:∀ {r c c':Nat},f r c=o→(∀ x,x < c→f r x≠o)→f r c'=o→(∀ x,x < c'→f r x≠o)→c=c':=fun {r c c'} a1 a2 b1 b2=>by
  rcases Nat.lt_trichotomy c c' with z | z | z
  ·exact absurd a1 (b2 c z)
  ·exact z
  ·exact absurd b1 (a2 c' z)
 rcases all bad A 0 (fiSt FL o none none) ⟨none,none,rfl⟩ (fun r δ _ hr ⟨o2,o3,e⟩=>by
  subst e
  have hr:r < A:=by omega
  refine ⟨fiSt FL o (some (.pure (.int (r:Int)))) o3,rfl,?_⟩
  rcases row r o3 hr with ⟨c,o3',c1,c2,c3,e⟩ | ⟨c1,o3',e⟩
  ·rcases hbad r hr with ⟨c',d1,d2,d3,d4⟩ | ⟨_,d⟩
   ·have:=uniq c2 c3 d2 d3
    subst this
    exact .inl ⟨_,_,d4,z3b (rB r o3) e,_,_,rfl⟩
   ·exact absurd c2 (d c c1)
  ·rcases hbad r hr with ⟨c',d1,d2,d3,d4⟩ | ⟨d,_⟩
   ·exact absurd d2 (c1 c' d1)
   ·exact .inr ⟨d,_,z3b (rB r o3) e,_,_,rfl⟩) with ⟨r,d,δ',_,r2,r3,r4,r5,o2,o3,rfl⟩ | ⟨r1,δ',r2,o2,o3,rfl⟩
 ·have hr:r < A:=by omega
  rcases hbad r hr with ⟨c,d1,d2,d3,d4⟩ | ⟨dn,_⟩
  ·rw [r3] at d4
   cases d4
   refine ⟨some ((r:Int),(c:Int)),?_,fun p e=>?_,(fun e=>by cases e)⟩
   ·have K:(B7_) (z0f 4 [.pure FL,.pure (.str [o])]) = .ok (.ret (.pure (prI ((r:Int),(c:Int))))) (fiSt FL o o2 o3):=by
     rw [← z7W] at r5
     exact zcI (z3b (δ1:=fiSt FL o none none) rA r5)
    rw [z0Y,K]
    simp [ioOk,z0H,z0a,pD]
   ·cases e
    refine ⟨r,c,rfl,hr,d1,d2,fun r' c' hr' hc' e'=>?_⟩
    rw [Qd,Ne,PySem.ltP_iff]
    rintro (z | ⟨z1,z2⟩)
    ·have hb:=r4 r' (Qb _) (by omega)
     rcases hbad r' hr' with ⟨_,_,_,_,q⟩ | ⟨_,q⟩
     ·rw [hb] at q; cases q
     ·exact q c' hc' e'
    ·have:r'=r:=by omega
     subst this
     exact d3 c' (by omega) e'
  ·rw [r3] at dn; cases dn
 ·refine ⟨none,?_,(fun p e=>by cases e),fun _ r c hr hc e=>?_⟩
  ·have K:(B7_) (z0f 4 [.pure FL,.pure (.str [o])]) = .ok (.ret (.pure .non)) (fiSt FL o o2 o3):=by
    rw [← z7W] at r2
    refine z0r (z3b (δ1:=fiSt FL o none none) rA r2) ?_
    rfl
   rw [z0Y,K]
   simp [ioOk,z0H,z0a,pD]
  ·have hb:=r1 r (Qb _) (by omega)
   rcases hbad r hr with ⟨_,_,_,_,q⟩ | ⟨_,q⟩
   ·rw [hb] at q; cases q
   ·exact q c hc e
theorem zcO (x y:Tx) (h:x.length + y.length≤100000):pAdd (.str x) (.str y)=some (.pure (.str (x ++ y))):=by
 have hz:W3=16777216:=rfl
 simp only [pAdd]
 rw [if_pos (by omega)]
theorem z8Y (bs:List (Nat×List Tx)) (l:Nat):∀ (row:Tx) (s:Tx),row.foldl (fun s n=>s ++ (blk bs n).getD l []) s=s ++ lay1 bs l row
 | [],s=>by simp [lay1]
 | n :: r,s=>by rw [Q6,z8Y bs l r]; simp [lay1]
theorem z7Z (R:Rul h w bs) (ru:D) (x0:pIx ru (.int 0)=some (.pure (.int h))) (x2:pIx ru (.int 2)=some (.pure (.tup (bs.map blD)))) (F:Fl2 bs A C fl) (hA:A≤1000) (hC:C≤1000) :
  gOf [] 8 (B13_) [.pure ru,.pure (flD fl)]=some (.pure (flD (lay h bs fl)),[.pure ru,.pure (flD fl)]):=by
 have h1:=R.h1
 have w1:=R.w1
 have hdc:=z8q R
 -- one new row,sign by sign
 have signs:∀ (acc:List Tx) (row:Tx) (l:Nat) (o7:Option S),row ∈ fl→l < h→∃ o7',forL (gNm [] 7) (B21_) (row.map fun n=>.str [n]) [some (.pure ru),some (.pure (flD fl)),some (.own (dcD bs)),some (.own (.lst (acc.map .str))),some (.pure (.str row)),some (.pure (.int l)),some (.pure (.str [])),o7]
   = .ok .next [some (.pure ru),some (.pure (flD fl)),some (.own (dcD bs)),some (.own (.lst (acc.map .str))),some (.pure (.str row)),some (.pure (.int l)),some (.pure (.str (lay1 bs l row))),o7']:=fun acc row l o7 hrow hl=>by
  obtain ⟨j',e,_⟩:=z2a (g:=gNm [] 7) (b:=(B21_)) (fun n:Nat=>D.str [n]) (fun (s:Tx) (j:Option S)=>[some (.pure ru),some (.pure (flD fl)),some (.own (dcD bs)),some (.own (.lst (acc.map .str))),some (.pure (.str row)),some (.pure (.int l)),some (.pure (.str s)),j]) (fun s n=>s ++ (blk bs n).getD l []) (fun k s=>s.length≤k * 4) (fun n=>n ∈ bs.map (·.1)) 1000 (fun k s j n hk hp hq=>by
   have y1:=zfV hq
   obtain ⟨z1,_,y2⟩:=za5 R hq hl
   have ha:=zcO s ((blk bs n).getD l []) (by omega)
   refine ⟨by rw [WY,z1,JQ]; omega,_,some (.pure (.str [n])),rfl,?_⟩
   generalize s ++ (blk bs n).getD l []=ns at *
   generalize D.str ((blk bs n).getD l [])=dr at *
   generalize flD (blk bs n)=db at *
   generalize flD fl=df at *
   generalize dcD bs=dd at *
   generalize acc.map D.str=ad at *
   simp [dAsg,eOpF,eOpN,bVar,y1,y2,ha]) row 0 [] o7 (by rw [Q0,F.cols row hrow]; exact hC) (by simp) (F.tl row hrow)
  rw [z8Y,Qw] at e
  exact ⟨j',e⟩
 have inner:∀ (acc:List Tx) (row:Tx) (o5 o6 o7:Option S),row ∈ fl→acc.length≤100000→∃ o5' o6' o7',forL (gNm [] 5) (B6_) (z0R 0 h) [some (.pure ru),some (.pure (flD fl)),some (.own (dcD bs)),some (.own (.lst (acc.map .str))),some (.pure (.str row)),o5,o6,o7]
   = .ok .next [some (.pure ru),some (.pure (flD fl)),some (.own (dcD bs)),some (.own (.lst ((acc ++ layR h bs row).map .str))),some (.pure (.str row)),o5',o6',o7']:=fun acc row o5 o6 o7 hrow hacc=>by
  obtain ⟨δ',e,o5',o6',o7',rfl⟩:=z1O (g:=gNm [] 5) (b:=(B6_)) (fun k δ=>∃ o5 o6 o7,δ=[some (.pure ru),some (.pure (flD fl)),some (.own (dcD bs)),some (.own (.lst ((acc ++ layR k bs row).map .str))),some (.pure (.str row)),o5,o6,o7]) (z0R 0 h) 0 [some (.pure ru),some (.pure (flD fl)),some (.own (dcD bs)),some (.own (.lst (acc.map .str))),some (.pure (.str row)),o5,o6,o7] ⟨o5,o6,o7,by simp [layR]⟩ (fun i d δ hd ⟨o5,o6,o7,e⟩=>by
   subst e
   obtain ⟨hi,rfl⟩:=z2t hd
   rw [Q0]
   obtain ⟨o7',hs⟩:=signs (acc ++ layR i bs row) row i o7 hrow hi
   have hz:((acc ++ layR i bs row).map D.str).length < W3:=by
    rw [z2h]
    simp [layR]
    omega
   have hE:(acc ++ layR (i + 1) bs row).map D.str=(acc ++ layR i bs row).map D.str ++ [.str (lay1 bs i row)]:=by
    simp [layR,Je]
   refine ⟨_,[some (.pure ru),some (.pure (flD fl)),some (.own (dcD bs)),some (.own (.lst ((acc ++ layR (i + 1) bs row).map .str))),some (.pure (.str row)),some (.pure (.int i)),some (.pure (.str (lay1 bs i row))),o7'],rfl,?_,_,_,_,rfl⟩
   rw [hE]
   generalize lay1 bs i row=nr at *
   generalize (acc ++ layR i bs row).map D.str=AD at *
   generalize flD fl=df at *
   generalize dcD bs=dd at *
   simp [dAsg,z5M,eVar]
   rw [hs]
   simp [z0F,z1X,eVar,putL,hz])
  rw [Q0,z4y] at e
  exact ⟨o5',o6',o7',e⟩
 have outer:∃ o4 o5 o6 o7,forL (gNm [] 4) (B22_) (fl.map .str) [some (.pure ru),some (.pure (flD fl)),some (.own (dcD bs)),some (.own (.lst [])),none,none,none,none]
   = .ok .next [some (.pure ru),some (.pure (flD fl)),some (.own (dcD bs)),some (.own (.lst ((lay h bs fl).map .str))),o4,o5,o6,o7]:=by
  obtain ⟨δ',e,o4,o5,o6,o7,rfl⟩:=z1O (g:=gNm [] 4) (b:=(B22_)) (fun k δ=>∃ o4 o5 o6 o7,δ=[some (.pure ru),some (.pure (flD fl)),some (.own (dcD bs)),some (.own (.lst ((lay h bs (fl.take k)).map .str))),o4,o5,o6,o7]) (fl.map D.str) 0 [some (.pure ru),some (.pure (flD fl)),some (.own (dcD bs)),some (.own (.lst [])),none,none,none,none] ⟨none,none,none,none,by simp [lay]⟩ (fun i d δ hd ⟨o4,o5,o6,o7,e⟩=>by
   subst e
   rw [WB,Wx] at hd
   obtain ⟨row,hrow,rfl⟩:=hd
   rw [Q0]
   have hi:i < fl.length:=(Wb.mp hrow).1
   have hlen:(lay h bs (fl.take i)).length≤100000:=by
    have F':Fl2 bs (fl.take i).length C (fl.take i):=⟨rfl,fun r hr=>F.cols r (List.mem_of_mem_take hr),fun r hr=>F.tl r (List.mem_of_mem_take hr)⟩
    have:=(zfK R F').rows
    rw [this]
    have h2:(fl.take i).length≤1000:=by have:=F.rows; rw [QZ]; omega
    have:(fl.take i).length * h≤1000 * 4:=Nat.mul_le_mul h2 h1
    omega
   obtain ⟨o5',o6',o7',e⟩:=inner (lay h bs (fl.take i)) row o5 o6 o7 (Wv hrow) hlen
   have hE:lay h bs (fl.take (i + 1))=lay h bs (fl.take i) ++ layR h bs row:=by
    rw [JJ,hrow]
    simp [lay]
   refine ⟨_,[some (.pure ru),some (.pure (flD fl)),some (.own (dcD bs)),some (.own (.lst ((lay h bs (fl.take (i + 1))).map .str))),some (.pure (.str row)),o5',o6',o7'],rfl,?_,_,_,_,_,rfl⟩
   rw [hE]
   generalize (lay h bs (fl.take i) ++ layR h bs row).map D.str=AD at *
   generalize (lay h bs (fl.take i)).map D.str=AE at *
   generalize flD fl=df at *
   generalize dcD bs=dd at *
   simp only [zba,zb8,eOpF,eOpN,zd9,ev_eD,bVar,zg9,zgc,x0,List.set_cons_succ,List.set_cons_zero,List.getElem?_cons_succ,List.getElem?_cons_zero,z0N,z4w h (by omega:h≤1000000)]
   exact e)
  refine ⟨o4,o5,o6,o7,?_⟩
  rw [e]
  simp
 obtain ⟨o4,o5,o6,o7,e⟩:=outer
 rw [z0Y]
 clear signs inner
 generalize hAD:(lay h bs fl).map D.str=AD at *
 generalize dcD bs=dd at *
 generalize D.tup (bs.map blD)=bl at *
 simp [ioOk,z0f,dAsg,eOpF,eOpN,bVar,x2,hdc,z5M,eVar]
 rw [e]
 simp [bVar,z2J,z0H,z0a]
 exact hAD.symm
theorem z7X (R:Rul h w bs) (F:Fl2 bs A C fl) (hA:A≤1000) (hC:C≤1000):z1b [.pure (ruD h w bs),.pure (flD fl)]=some (.pure (flD (lay h bs fl)),[.pure (ruD h w bs),.pure (flD fl)]):=by
 rw [z1b,z3l]
 exact z7Z R _ (z54 h w bs).1 (z54 h w bs).2.2 F hA hC
theorem lt_int (i j:Int):pLt (.int i) (.int j)=some (.pure (.bl (decide (i < j)))):=rfl
theorem zaR (ds:List D):pLen (.lst ds)=some (.pure (.int ds.length)):=rfl
theorem z9a (h1:t δ = .ok true δ1) (h2:b δ1 = .ok .next δ2):z23 t b (n + 1) δ=z23 t b n δ2:=by
 simp only [z23,h1,z0N,if_true,h2]
theorem z6R (h1:t δ = .ok false δ1):z23 t b (n + 1) δ = .ok .next δ1:=by
 simp [z23,h1]
theorem z8Q (ds:List D) (d:D):pIx (.lst (ds ++ [d])) (.int (-1))=some (.pure d):=by
 have:atI (ds ++ [d]) (-1)=some d:=by
  unfold atI ixN
  rw [if_neg (by omega),if_pos (by simp; omega)]
  have e:(-1 + ((ds ++ [d]).length:Int)).toNat=ds.length:=by simp; omega
  simp only [WE,e]
  simp
 simp [pIx,this]
def FLD (F:Nat→List Tx) (m:Nat):List D:=(Wa (m + 1)).map fun k=>flD (F k)
theorem zcP (F:Nat→List Tx) (m:Nat):FLD F (m + 1)=FLD F m ++ [flD (F (m + 1))]:=by
 unfold FLD
 rw [Je]
 simp
theorem z98 (F:Nat→List Tx) (m:Nat):pIx (.lst (FLD F m)) (.int (-1))=some (.pure (flD (F m))):=by
 unfold FLD
 rw [Je,Ju]
 exact z8Q _ _
theorem z8v (F:Nat→List Tx) (m:Nat):(FLD F m).length=m + 1:=by simp [FLD]
theorem zbW (GG:DF) (ru:D) (n h w:Nat) (h1:h≤4) (w1:w≤4) (F:Nat→List Tx) (A B:Nat→Nat) (hA:∀ k,A (k + 1)=A k * h) (hB:∀ k,B (k + 1)=B k * w) (hA0:A 0=1) (hB0:B 0=1) (hAp:∀ k,0 < A k) (hBp:∀ k,0 < B k) (hF0:flD (F 0) = .tup [.str [n]]) (x0:pIx ru (.int 0)=some (.pure (.int h))) (x1:pIx ru (.int 1)=some (.pure (.int w)))
  (ln:∀ k,pLen (flD (F k))=some (.pure (.int (A k)))) (rw0:∀ k,B k≤1000→∃ d,pIx (flD (F k)) (.int 0)=some (.pure d)∧pLen d=some (.pure (.int (B k))))
  (gg:∀ k,A k≤1000→B k≤1000→GG [.pure ru,.pure (flD (F k))]=some (.pure (flD (F (k + 1))),[.pure ru,.pure (flD (F k))])) :
  ∃ m,m≤7∧(∀ k,k≤m→A k * B k≤300)∧gOf [] 4 (dSeq (dAsg (eLst (z0l (eTup (z0l (eVar 1) aNil)) aNil)) (gNm [] 3)) (dSeq (z23 (dAnd (dTr (eOp pLe (eOp z1h (eOp z1h (eOp z1h (eC1 pLen (bOf (eOpF pIx 3 (bOf (eC1 pNeg (bOf (eD (.int 1)))))))) (bOf (eOpF pIx 0 (bOf (eD (.int 0)))))) (bOf (eC1 pLen (bOf (eOp pIx (eOpF pIx 3 (bOf (eC1 pNeg (bOf (eD (.int 1)))))) (bOf (eD (.int 0)))))))) (bOf (eOpF pIx 0 (bOf (eD (.int 1)))))) (bVar 2))) (dTr (eOp pLt (eC1 pLen (bVar 3)) (bOf (eD (.int 8)))))) (z0F 3 (z08 GG [.val (eVar 0),.val (eOpF pIx 3 (bOf (eC1 pNeg (bOf (eD (.int 1))))))])) 1000000) (z5N [] 3))) [.pure ru,.pure (.str [n]),.pure (.int 300)]=some (.own (.lst (FLD F m)),[.pure ru,.pure (.str [n]),.pure (.int 300)]):=by
 have loop:∀ (j M m:Nat),j=7 - m→m≤7→j < M→(∀ k,k≤m→A k * B k≤300)→∃ m',m'≤7∧(∀ k,k≤m'→A k * B k≤300)∧z23 (dAnd (dTr (eOp pLe (eOp z1h (eOp z1h (eOp z1h (eC1 pLen (bOf (eOpF pIx 3 (bOf (eC1 pNeg (bOf (eD (.int 1)))))))) (bOf (eOpF pIx 0 (bOf (eD (.int 0)))))) (bOf (eC1 pLen (bOf (eOp pIx (eOpF pIx 3 (bOf (eC1 pNeg (bOf (eD (.int 1)))))) (bOf (eD (.int 0)))))))) (bOf (eOpF pIx 0 (bOf (eD (.int 1)))))) (bVar 2))) (dTr (eOp pLt (eC1 pLen (bVar 3)) (bOf (eD (.int 8)))))) (z0F 3 (z08 GG [.val (eVar 0),.val (eOpF pIx 3 (bOf (eC1 pNeg (bOf (eD (.int 1))))))])) M [some (.pure ru),some (.pure (.str [n])),some (.pure (.int 300)),some (.own (.lst (FLD F m)))] = .ok .next [some (.pure ru),some (.pure (.str [n])),some (.pure (.int 300)),some (.own (.lst (FLD F m')))]:=by
  intro j
  induction j with
  | zero =>
   intro M m hj hm hM hk
   have hm7:m=7:=by omega
   subst hm7
   obtain ⟨M,rfl⟩:∃ M',M=M' + 1:=⟨M - 1,by omega⟩
   have b7:=hk 7 (Wc _)
   have bA:A 7≤300:=WI (Nat.le_mul_of_pos_right _ (hBp 7)) b7
   have bB:B 7≤300:=WI (Nat.le_mul_of_pos_left _ (hAp 7)) b7
   obtain ⟨d,y1,y2⟩:=rw0 7 (by omega)
   have y0:=z98 F 7
   have y3:=ln 7
   have m1:=mul_int (A 7) h (by omega) (by omega)
   have m2:=mul_int ((A 7:Int) * h) (B 7) (by omega) (by omega)
   have m3:=mul_int ((A 7:Int) * h * B 7) w (by omega) (by omega)
   have hl:¬ ((FLD F 7).length:Int) < 8:=by rw [z8v]; omega
   refine ⟨7,hm,hk,z6R ?_⟩
   generalize FLD F 7=L at *
   generalize flD (F 7)=df at *
   by_cases c:(A 7:Int) * h * B 7 * w≤300
   ·simp [dTr,eOpF,eOpN,bVar,pNeg,y0,y3,x0,x1,m1,y1,y2,m2,m3,le_int,c,zaR,lt_int,hl]
   ·simp [dTr,eOpF,eOpN,bVar,pNeg,y0,y3,x0,x1,m1,y1,y2,m2,m3,le_int,c]
  | succ j ih =>
   intro M m hj hm hM hk
   obtain ⟨M,rfl⟩:∃ M',M=M' + 1:=⟨M - 1,by omega⟩
   have b7:=hk m (Wc _)
   have bA:A m≤300:=WI (Nat.le_mul_of_pos_right _ (hBp m)) b7
   have bB:B m≤300:=WI (Nat.le_mul_of_pos_left _ (hAp m)) b7
   obtain ⟨d,y1,y2⟩:=rw0 m (by omega)
   have y0:=z98 F m
   have y3:=ln m
   have m1:=mul_int (A m) h (by omega) (by omega)
   have m2:=mul_int ((A m:Int) * h) (B m) (by omega) (by omega)
   have m3:=mul_int ((A m:Int) * h * B m) w (by omega) (by omega)
   have hl:((FLD F m).length:Int) < 8:=by rw [z8v]; omega
   by_cases c:(A m:Int) * h * B m * w≤300
   ·have hz:(FLD F m).length < W3:=by rw [z8v,z2h]; omega
    have g:=gg m (by omega) (by omega)
    have hT:(dAnd (dTr (eOp pLe (eOp z1h (eOp z1h (eOp z1h (eC1 pLen (bOf (eOpF pIx 3 (bOf (eC1 pNeg (bOf (eD (.int 1)))))))) (bOf (eOpF pIx 0 (bOf (eD (.int 0)))))) (bOf (eC1 pLen (bOf (eOp pIx (eOpF pIx 3 (bOf (eC1 pNeg (bOf (eD (.int 1)))))) (bOf (eD (.int 0)))))))) (bOf (eOpF pIx 0 (bOf (eD (.int 1)))))) (bVar 2))) (dTr (eOp pLt (eC1 pLen (bVar 3)) (bOf (eD (.int 8)))))) [some (.pure ru),some (.pure (.str [n])),some (.pure (.int 300)),some (.own (.lst (FLD F m)))] = .ok true [some (.pure ru),some (.pure (.str [n])),some (.pure (.int 300)),some (.own (.lst (FLD F m)))]:=by
     generalize FLD F m=L at *
     generalize flD (F m)=df at *
     simp [dTr,eOpF,eOpN,bVar,pNeg,y0,y3,x0,x1,m1,y1,y2,m2,m3,le_int,c,zaR,lt_int,hl]
    have hB':(z0F 3 (z08 GG [.val (eVar 0),.val (eOpF pIx 3 (bOf (eC1 pNeg (bOf (eD (.int 1))))))])) [some (.pure ru),some (.pure (.str [n])),some (.pure (.int 300)),some (.own (.lst (FLD F m)))] = .ok .next [some (.pure ru),some (.pure (.str [n])),some (.pure (.int 300)),some (.own (.lst (FLD F (m + 1))))]:=by
     rw [zcP]
     generalize FLD F m=L at *
     generalize flD (F (m + 1))=dg at *
     generalize flD (F m)=df at *
     simp [z0F,z1X,z08,ios,ndup,z0B,evX,eVar,eOpF,eOpN,bVar,pNeg,y0,mkA,g,putA,putL,hz]
    have hk':∀ k,k≤m + 1→A k * B k≤300:=fun k hk2=>by
     by_cases hkm:k≤m
     ·exact hk k hkm
     ·have:k=m + 1:=by omega
      subst this
      rw [hA,hB]
      have e:(A m * h * (B m * w):Nat)=A m * h * B m * w:=by rw [Nat.mul_assoc (A m * h)]
      rw [e]
      have e2:((A m * h * B m * w:Nat):Int)=(A m:Int) * h * B m * w:=by simp
      omega
    obtain ⟨m',h1',h2',h3'⟩:=ih M (m + 1) (by omega) (by omega) (by omega) hk'
    exact ⟨m',h1',h2',by rw [z9a hT hB']; exact h3'⟩
   ·refine ⟨m,hm,hk,z6R ?_⟩
    generalize FLD F m=L at *
    generalize flD (F m)=df at *
    simp [dTr,eOpF,eOpN,bVar,pNeg,y0,y3,x0,x1,m1,y1,y2,m2,m3,le_int,c]
 have k0:∀ k,k≤0→A k * B k≤300:=fun k hk=>by
  have:k=0:=by omega
  subst this
  rw [hA0,hB0]
  decide
 obtain ⟨m,a1,a2,a3⟩:=loop 7 1000000 0 (by omega) (by omega) (by omega) k0
 refine ⟨m,a1,a2,?_⟩
 have h0:FLD F 0=[.tup [.str [n]]]:=by rw [← hF0]; rfl
 rw [h0] at a3
 clear loop a2
 rw [z0Y]
 generalize 1000000=MM at *
 generalize FLD F m=L at *
 simp only [z8m,dAsg,zex,zcF,zew,zey,z0N,z0f]
 simp [ioOk,eVar]
 rw [a3]
 simp [z5N,z0H,z0a]
abbrev farF (h w:Nat) (bs:List (Nat×List Tx)) (n k:Nat):List Tx:=grid (far h w bs n k) (h ^ k) (w ^ k)
theorem zbR (R:Rul h w bs) (hn:n ∈ bs.map (·.1)):∃ m,m≤7∧(∀ k,k≤m→h ^ k * w ^ k≤300)∧z13 [.pure (ruD h w bs),.pure (.str [n]),.pure (.int 300)]=some (.own (.lst (FLD (farF h w bs n) m)),[.pure (ruD h w bs),.pure (.str [n]),.pure (.int 300)]):=by
 rw [z13,z2T]
 refine zbW z1b (ruD h w bs) n h w R.h1 R.w1 (farF h w bs n) (fun k=>h ^ k) (fun k=>w ^ k) (fun k=>Q1 h k) (fun k=>Q1 w k) rfl rfl (fun k=>Jr R.h0) (fun k=>Jr R.w0) rfl (z54 h w bs).1 (z54 h w bs).2.1 (fun k=>by rw [z7x,(z8V _ _ _).1]) (fun k hk=>z8U _ (Jr R.h0) hk) (fun k hA hB=>?_)
 have e:=z7X R (zcw (h ^ k) (w ^ k) (z8l R hn k)) hA hB
 rw [zco R _ _ _ (z8l R hn k)] at e
 have e2:farF h w bs n (k + 1)=grid (fun a b=>nt bs (far h w bs n k (a / h) (b / w)) (a % h) (b % w)) (h ^ k * h) (w ^ k * w):=by
  show grid _ (h ^ (k + 1)) (w ^ (k + 1))=_
  rw [Q1,Q1]
  rfl
 rw [e2]
 exact e
theorem za8 (i:Int):z10 [.pure (.int i)]=some (.pure (.bl true),[.pure (.int i)]):=by
 rw [z10,z0Y,z3k]
 simp [ioOk,z0f,eAnd,eNot,eIsi,isTy,bVar,z0H,z0a]
theorem zgd (p:IP):pEq (prI p) (prI p)=some (.pure (.bl true)):=by simp [pEq,flat,z5L,eqD,eqDs]
theorem zfa (GW:DF) (a b:Int) (g1:GW [.pure (.int a)]=some (.pure (.bl true),[.pure (.int a)])) (g2:GW [.pure (.int b)]=some (.pure (.bl true),[.pure (.int b)])) (e:pEq (prI (a,b)) (prI (a,b))=some (.pure (.bl true))):gOf [] 2 (dSeq (dIf (dOr (dNot (dTr (eIsi "tuple" (bVar 0)))) (dOr (dTr (eOp pNe (eC1 pLen (bVar 0)) (bOf (eD (.int 2))))) (dOr (dNot (dTr (z08 GW [.val (eOpF pIx 0 (bOf (eD (.int 0))))]))) (dNot (dTr (z08 GW [.val (eOpF pIx 0 (bOf (eD (.int 1))))])))))) (dRet (eD (.bl false))) z1f) (dRet (eOpF pEq 0 (bVar 1)))) [.pure (prI (a,b)),.pure (prI (a,b))]=some (.pure (.bl true),[.pure (prI (a,b)),.pure (prI (a,b))]):=by
 have i0:pIx (prI (a,b)) (.int 0)=some (.pure (.int a)):=by simp [pIx,z1Q]
 have i1:pIx (prI (a,b)) (.int 1)=some (.pure (.int b)):=by simp [pIx,z5z]
 have l:pLen (prI (a,b))=some (.pure (.int 2)):=rfl
 have n2:pNe (.int 2) (.int 2)=some (.pure (.bl false)):=rfl
 have ty:isTy "tuple" (prI (a,b))=some true:=rfl
 rw [z0Y]
 generalize prI (a,b)=pr at *
 simp [ioOk,z0f,dTr,eIsi,ty,bVar,l,n2,z08,ios,ndup,z0B,evX,mkA,putA,eVar,eOpF,eOpN,i0,i1,g1,g2,e,z0H,z0a]
theorem zcU (p:IP):z0D [.pure (prI p),.pure (prI p)]=some (.pure (.bl true),[.pure (prI p),.pure (prI p)]):=by
 rw [z0D,z2H]
 exact zfa z10 p.1 p.2 (za8 p.1) (za8 p.2) (zgd p)
theorem isN0:pIsN false .non .non=some (.pure (.bl true)):=rfl
theorem isN1:pIsN true .non .non=some (.pure (.bl false)):=rfl
theorem isP0 (p:IP):pIsN false (prI p) .non=some (.pure (.bl false)):=rfl
theorem isP1 (p:IP):pIsN true (prI p) .non=some (.pure (.bl true)):=rfl
abbrev B3_ (GP:DF):DS:=dIf (dOr (dAnd (dTr (eOp (pIsN false) (eVar 5) (bOf (eD .non)))) (dTr (eOp (pIsN true) (eVar 6) (bOf (eD .non))))) (dAnd (dTr (eOp (pIsN true) (eVar 5) (bOf (eD .non)))) (dNot (dTr (z08 GP [.val (eVar 6),.val (eVar 5)]))))) (dRet (eD (.bl false))) z1f
abbrev B20_ (G1:DF) (GP:DF) (GX:DX):DS:=dSeq (dAsg (z08 G1 [.val (eVar 4),.val (eVar 2)]) (gNm [] 5)) (dSeq (dAsg (z26 GX [.val (eVar 0),.val (eVar 1),.val (eVar 3),.val (eVar 2)]) (gNm [] 6)) (B3_ GP))
abbrev B9_ (G1:DF) (GF:DF) (GP:DF) (GX:DX):DS:=dSeq (dFor (z9y (z08 GF [.val (eVar 0),.val (eVar 1),.val (eD (.int 300))])) (gTp 2 (z0q (gNm [] 3) (z0q (gNm [] 4) z1F))) (B20_ G1 GP GX)) (dRet (eD (.bl true)))
theorem zfb (GF G1 GP:DF) (GX:DX) (ru:D) (n o m:Nat) (hm:m≤7) (F:Nat→List Tx) (x:Nat→Option IP) (gf:GF [.pure ru,.pure (.str [n]),.pure (.int 300)]=some (.own (.lst (FLD F m)),[.pure ru,.pure (.str [n]),.pure (.int 300)]))
  (g1:∀ k,k≤m→G1 [.pure (flD (F k)),.pure (.str [o])]=some (.pure (pD (x k)),[.pure (flD (F k)),.pure (.str [o])])) (gx:∀ k,k≤m→GX [.pure ru,.pure (.str [n]),.pure (.int (k:Int)),.pure (.str [o])]=some (.inl (.pure (pD (x k)),[.pure ru,.pure (.str [n]),.pure (.int (k:Int)),.pure (.str [o])])))
  (gp:∀ p:IP,GP [.pure (prI p),.pure (prI p)]=some (.pure (.bl true),[.pure (prI p),.pure (prI p)])):gOf [] 7 (B9_ G1 GF GP GX) [.pure ru,.pure (.str [n]),.pure (.str [o])]=some (.pure (.bl true),[.pure ru,.pure (.str [n]),.pure (.str [o])]):=by
 have hds:z3u (FLD F m)=(Wa (m + 1)).map fun k:Nat=>D.tup [.int (k:Int),flD (F k)]:=z4q (m + 1) fun k=>flD (F k)
 obtain ⟨δ',e,o3,o4,o5,o6,rfl⟩:=z1O (g:=(gTp 2 (z0q (gNm [] 3) (z0q (gNm [] 4) z1F)))) (b:=(B20_ G1 GP GX)) (fun _ δ=>∃ (o3 o4 o5 o6:Option S),δ=[some (.pure ru),some (.pure (.str [n])),some (.pure (.str [o])),o3,o4,o5,o6]) ((Wa (m + 1)).map fun k:Nat=>D.tup [.int (k:Int),flD (F k)]) 0 [some (.pure ru),some (.pure (.str [n])),some (.pure (.str [o])),none,none,none,none] ⟨_,_,_,_,rfl⟩ (fun i d δ hd ⟨o3,o4,o5,o6,e⟩=>by
  subst e
  obtain ⟨k,hk,rfl⟩:=Qx.mp (Wv hd)
  have hk:k≤m:=by have:=Qk.mp hk; omega
  have a1:=g1 k hk
  have a2:=gx k hk
  refine ⟨_,[some (.pure ru),some (.pure (.str [n])),some (.pure (.str [o])),some (.pure (.int (k:Int))),some (.pure (flD (F k))),some (.pure (pD (x k))),some (.pure (pD (x k)))],rfl,?_,_,_,_,_,rfl⟩
  generalize D.int (k:Int)=dk at *
  generalize flD (F k)=FL at *
  generalize D.str [o]=do' at *
  generalize D.str [n]=dn at *
  refine z0r (δ1:=[some (.pure ru),some (.pure dn),some (.pure do'),some (.pure dk),some (.pure FL),some (.pure (pD (x k))),o6]) ?_ ?_
  ·generalize pD (x k)=px at *
   simp [dAsg,z08,ios,ndup,z0B,evX,mkA,putA,eVar,a1]
  refine z0r (δ1:=[some (.pure ru),some (.pure dn),some (.pure do'),some (.pure dk),some (.pure FL),some (.pure (pD (x k))),some (.pure (pD (x k)))]) ?_ ?_
  ·generalize pD (x k)=px at *
   simp [dAsg,z26,ios,ndup,z0B,evX,mkA,putA,eVar,a2]
  ·clear a1 a2
   cases x k with
   | none =>
    show (B3_ GP) [some (.pure ru),some (.pure dn),some (.pure do'),some (.pure dk),some (.pure FL),some (.pure .non),some (.pure .non)] = .ok .next [some (.pure ru),some (.pure dn),some (.pure do'),some (.pure dk),some (.pure FL),some (.pure .non),some (.pure .non)]
    simp [dTr,eVar,isN0,isN1]
   | some p =>
    have b1:=isP0 p
    have b2:=isP1 p
    have b3:=gp p
    show (B3_ GP) [some (.pure ru),some (.pure dn),some (.pure do'),some (.pure dk),some (.pure FL),some (.pure (prI p)),some (.pure (prI p))] = .ok .next [some (.pure ru),some (.pure dn),some (.pure do'),some (.pure dk),some (.pure FL),some (.pure (prI p)),some (.pure (prI p))]
    generalize prI p=pp at *
    simp [dTr,eVar,b1,b2,b3,z08,ios,ndup,z0B,evX,mkA,putA])
 rw [z0Y]
 have K:(B9_ G1 GF GP GX) (z0f 7 [.pure ru,.pure (.str [n]),.pure (.str [o])]) = .ok (.ret (.pure (.bl true))) [some (.pure ru),some (.pure (.str [n])),some (.pure (.str [o])),o3,o4,o5,o6]:=by
  refine z0r (z3b (ds:=(Wa (m + 1)).map fun k:Nat=>D.tup [.int (k:Int),flD (F k)]) (δ1:=[some (.pure ru),some (.pure (.str [n])),some (.pure (.str [o])),none,none,none,none]) ?_ e) rfl
  rw [← hds]
  generalize FLD F m=LL at *
  simp [z0f,zb9,z08,ios,ndup,z0B,evX,mkA,putA,eVar,gf]
 rw [K]
 simp [ioOk,z0H,z0a]
theorem zf1 (R:Rul h w bs) (hn:n ∈ bs.map (·.1)) (ho:o ∈ bs.map (·.1)):z0A [.pure (ruD h w bs),.pure (.str [n]),.pure (.str [o])]=some (.pure (.bl true),[.pure (ruD h w bs),.pure (.str [n]),.pure (.str [o])]):=by
 obtain ⟨m,m7,hm,e⟩:=zbR R hn
 rw [z0A,z1J]
 refine zfb z13 z1p z0D z0i (ruD h w bs) n o m m7 _ (fun k=>pl h w bs o k n) e (fun k hk=>?_) (fun k hk=>zg8 R hn ho (by omega)) zcU
 have hb:=hm k hk
 have hA0:0 < h ^ k:=Jr R.h0
 have hB0:0 < w ^ k:=Jr R.w0
 have bA:h ^ k≤300:=WI (Nat.le_mul_of_pos_right _ hB0) hb
 have bB:w ^ k≤300:=WI (Nat.le_mul_of_pos_left _ hA0) hb
 obtain ⟨d0,r0,l0⟩:=z8U (far h w bs n k) hA0 (show w ^ k≤1000 by omega)
 have ln:pLen (flD (farF h w bs n k))=some (.pure (.int ((h ^ k:Nat):Int))):=by rw [z7x,(z8V _ _ _).1]
 obtain ⟨x,e1,x1,x2⟩:=zdL (flD (farF h w bs n k)) d0 (far h w bs n k) (h ^ k) (w ^ k) o (by omega) (by omega) ln r0 l0 (fun r c hr hc=>zeo _ hr hc (by omega))
 have hx:x=pl h w bs o k n:=by
  obtain ⟨p1,p2⟩:=zc1 (o:=o) R k n hn
  cases hp:pl h w bs o k n with
  | none =>
   cases hx:x with
   | none=>rfl
   | some p =>
    obtain ⟨r,c,_,a1,a2,a3,_⟩:=x1 p hx
    exact absurd a3 (p2 hp r c a1 a2)
  | some q =>
   cases hx:x with
   | none =>
    obtain ⟨r,c,_,a1,a2,a3,_⟩:=p1 q hp
    exact absurd a3 (x2 hx r c a1 a2)
   | some p=>rw [zep (x1 p hx) (p1 q hp)]
 rw [← hx,z1p,z3m]
 exact e1
theorem q_far (GX GT:DX) (GP:DF) (ru:D) (n o t:Nat) (x:Option IP) (gx:GX [.pure ru,.pure (.str [n]),.pure (.int (t:Int)),.pure (.str [o])]=some (.inl (.pure (pD x),[.pure ru,.pure (.str [n]),.pure (.int (t:Int)),.pure (.str [o])])))
  (gt:∀ p,x=some p→GT [.pure ru,.pure (.str [n]),.pure (.int (t:Int)),.pure (.int p.1),.pure (.int p.2)]=some (.inl (.pure (.str [o]),[.pure ru,.pure (.str [n]),.pure (.int (t:Int)),.pure (.int p.1),.pure (.int p.2)])))
  (gp:∀ p:IP,GP [.pure (prI p),.pure (prI p)]=some (.pure (.bl true),[.pure (prI p),.pure (prI p)])):gOf [] 5 (dSeq (dAsg (z26 GX [.val (eVar 0),.val (eVar 1),.val (eVar 2),.val (eVar 3)]) (gNm [] 4)) (dSeq (dIf (dTr (eOp (pIsN false) (eVar 4) (bOf (eD .non)))) (dRet (eOp (pIsN false) (z26 GX [.val (eVar 0),.val (eVar 1),.val (eVar 2),.val (eVar 3)]) (bOf (eD .non)))) z1f) (dSeq (dIf (dOr (dNot (dTr (z08 GP [.val (eVar 4),.val (eVar 4)]))) (dTr (eOp pNe (z26 GT [.val (eVar 0),.val (eVar 1),.val (eVar 2),.val (eOpF pIx 4 (bOf (eD (.int 0)))),.val (eOpF pIx 4 (bOf (eD (.int 1))))]) (bVar 3)))) (dRet (eD (.bl false))) z1f) (dRet (eOp pEq (z26 GX [.val (eVar 0),.val (eVar 1),.val (eVar 2),.val (eVar 3)]) (bVar 4)))))) [.pure ru,.pure (.str [n]),.pure (.int (t:Int)),.pure (.str [o])]=some (.pure (.bl true),[.pure ru,.pure (.str [n]),.pure (.int (t:Int)),.pure (.str [o])]):=by
 rw [z0Y]
 cases x with
 | none =>
  have gx:GX [.pure ru,.pure (.str [n]),.pure (.int (t:Int)),.pure (.str [o])]=some (.inl (.pure .non,[.pure ru,.pure (.str [n]),.pure (.int (t:Int)),.pure (.str [o])])):=gx
  have b0:=isN0
  generalize D.int (t:Int)=dt at *
  generalize D.str [n]=dn at *
  generalize D.str [o]=do' at *
  simp [ioOk,z0f,dAsg,dTr,z26,ios,ndup,z0B,evX,mkA,putA,eVar,bVar,gx,b0,z0H,z0a]
 | some p =>
  have gx:GX [.pure ru,.pure (.str [n]),.pure (.int (t:Int)),.pure (.str [o])]=some (.inl (.pure (prI p),[.pure ru,.pure (.str [n]),.pure (.int (t:Int)),.pure (.str [o])])):=gx
  have b0:=isP0 p
  have g1:=gt p rfl
  have g2:=gp p
  have i0:pIx (prI p) (.int 0)=some (.pure (.int p.1)):=by simp [pIx,z1Q]
  have i1:pIx (prI p) (.int 1)=some (.pure (.int p.2)):=by simp [pIx,z5z]
  have n1:=ne_s1 o
  have e1:=zgd p
  clear gt
  generalize prI p=pp at *
  generalize D.int p.1=p1 at *
  generalize D.int p.2=p2 at *
  generalize D.int (t:Int)=dt at *
  generalize D.str [n]=dn at *
  generalize D.str [o]=do' at *
  simp [ioOk,z0f,dAsg,dTr,z26,z08,ios,ndup,z0B,evX,mkA,putA,eVar,bVar,eOpF,eOpN,gx,b0,g1,g2,i0,i1,n1,e1,z0H,z0a]
theorem r_far {h w n o t:Nat} {bs:List (Nat×List Tx)} (R:Rul h w bs) (hn:n ∈ bs.map (·.1)) (ho:o ∈ bs.map (·.1)) (ht:t≤60):z0K [.pure (ruD h w bs),.pure (.str [n]),.pure (.int (t:Int)),.pure (.str [o])]=some (.pure (.bl true),[.pure (ruD h w bs),.pure (.str [n]),.pure (.int (t:Int)),.pure (.str [o])]):=by
 rw [z0K,z22]
 refine q_far z0i z1L z0D (ruD h w bs) n o t _ (zg8 R hn ho ht) (fun p e=>?_) zcU
 obtain ⟨r,c,rfl,a1,a2,a3,_⟩:=(zc1 (o:=o) R t n hn).1 p e
 have:=t_ok R hn ht a1 a2
 rw [a3] at this
 exact this
theorem zd8 (L:List D) (r:Nat) (h:r < L.length):∃ e ∈ L,pIx (.lst L) (.int r)=some (.pure e):=⟨L[r],QC h,by simp [pIx,z1R,h]⟩
theorem zbw (xs ys:List D) (h:xs.length + ys.length≤100000):pAdd (.lst xs) (.lst ys)=some (.own (.lst (xs ++ ys))):=by
 have hz:W3=16777216:=rfl
 show (if xs.length + ys.length≤W3 then some (S.own (.lst (xs ++ ys))) else none)=_
 rw [if_pos (by omega)]
theorem z8a:pNeg (.int 1)=some (.pure (.int (-1))):=rfl
theorem pw9:pPow (.int 10) (.int 9)=some (.pure (.int 1000000000)):=rfl
theorem z9Q:∀ (xs l:List Nat),xs.Nodup→(∀ x ∈ xs,x ∈ l)→xs.length≤l.length
 | [],l,_,_=>Qb _
 | x :: xs,l,hn,hs=>by
  have hx:=hs x (by simp)
  have hn':=QJ.mp hn
  have:=z9Q xs (l.erase x) hn'.2 (fun y hy=>(List.mem_erase_of_ne (fun e:y=x=>hn'.1 (e ▸ hy))).mpr (hs y (by simp [hy])))
  rw [List.length_erase_of_mem hx] at this
  have:0 < l.length:=List.length_pos_of_mem hx
  simp
  omega
theorem zfZ (ts:List Nat) (n:Nat):pIn true (.str [n]) (.lst (ts.map t1D))=some (.pure (.bl (!ts.contains n))):=by
 have e:z3q (ts.map t1D)=some (ts.map fun n=>[n]):=by
  induction ts with
  | nil=>rfl
  | cons a r ih=>simp [z3q] at ih ⊢; exact ih
 have c:(ts.map fun n=>[n]).contains [n]=ts.contains n:=by
  induction ts with
  | nil=>rfl
  | cons a r ih=>simp at ih ⊢
 unfold pIn
 simp only [e]
 rw [← c]
 rfl
theorem z9m (GT GD:DF) (hd:z99 GD) (R:Rul h w bs) (h6:bs.length≤25) (ru:D) (gt:GT [.pure ru]=some (.own (.lst ((bs.map (·.1)).map t1D)),[.pure ru])) (hpd:Pen pd) :
  ∃ (d pd':D),NX d∧tgd bs d=false∧Pen pd'∧gOf [0] 6 (dSeq (dAsg (z08 GT [.val (eVar 1)]) (gNm [0] 2)) (dSeq (B14_) (dSeq (dAsg (eLst (z0l (eD .non) (z0l (eD (.int 0)) (z0l (eD (.bl true)) (z0l (eD (.str [])) (z0l (eOp z1h (eOpF pIx 2 (bOf (eD (.int 0)))) (bOf (eD (.int 2)))) (z0l (eC1 z5Z (bOf (eOpF pIx 2 (bOf (eD (.int 0)))))) aNil))))))) (gNm [0] 4)) (dSeq (B10_) (dRet (eOpF pIx 4 (bOf (z08 GD [.io 0,.val (eD (.int 12))])))))))) [.own pd,.pure ru]=some (.pure d,[.own pd',.pure ru]):=by
 have hlet:∀ n ∈ bs.map (·.1),97≤n∧n≤122:=fun n hn=>by
  obtain ⟨b,hb,rfl⟩:=Qx.mp hn
  exact R.let' b hb
 have hno:∀ x:Tx,(∀ n ∈ bs.map (·.1),[n]≠x)→tgd bs (.str x)=false:=fun x hx=>by
  show (bs.any fun b=>decide ([b.1]=x))=false
  rw [List.any_eq_false]
  intro b hb
  simpa using hx b.1 (WC hb)
 have n0:=R.n0
 have hln:(bs.map (·.1)).length≤25:=by simpa using h6
 obtain ⟨n,rest,hts⟩:∃ n rest,bs.map (·.1)=n :: rest:=by
  cases e:bs.map (·.1) with
  | nil=>have:=congrArg Jh e; simp at this; subst this; simp at n0
  | cons n rest=>exact ⟨n,rest,rfl⟩
 have hn:=hlet n (by rw [hts]; simp)
 -- the letters that are none of them
 have hsome:([97,98,99,100,101,102,103,104,105,106,107,108,109,110,111,112,113,114,115,116,117,118,119,120,121,122]:List Nat).filter (fun m=>!(bs.map (·.1)).contains m)≠[]:=fun e=>by
  have hall:∀ m ∈ ([97,98,99,100,101,102,103,104,105,106,107,108,109,110,111,112,113,114,115,116,117,118,119,120,121,122]:List Nat),m ∈ bs.map (·.1):=fun m hm=>by
   have:=List.filter_eq_nil_iff.mp e m hm
   simpa using this
  have:=z9Q [97,98,99,100,101,102,103,104,105,106,107,108,109,110,111,112,113,114,115,116,117,118,119,120,121,122] (bs.map (·.1)) (by decide) hall
  have e26:([97,98,99,100,101,102,103,104,105,106,107,108,109,110,111,112,113,114,115,116,117,118,119,120,121,122]:List Nat).length=26:=rfl
  omega
 obtain ⟨d3,pd3,e3,l3,p3⟩:=hd pd 12 hpd (by omega) (by omega)
 have e3':GD [.own pd,.pure (.int 12)]=some (.pure (.int (d3:Int)),[.own pd3,.pure (.int 12)]):=e3
 have hin:=zfZ (bs.map (·.1))
 have ec:=z3e (cs:=[5]) (g:=gNm [0] 5) (t:=(dTr (eOp (pIn true) (eVar 5) (bVar 2)))) (el:=eVar 5) (fun m:Nat=>D.str [m]) t1D (fun m=>!(bs.map (·.1)).contains m) [some (.own pd),some (.pure ru),some (.own (.lst ((bs.map (·.1)).map t1D))),none,none,none] [97,98,99,100,101,102,103,104,105,106,107,108,109,110,111,112,113,114,115,116,117,118,119,120,121,122] [] (by rw [z2h]; simp) (fun m hm=>by
  have i:=hin m
  refine ⟨_,[some (.own pd),some (.pure ru),some (.own (.lst ((bs.map (·.1)).map t1D))),none,none,some (.pure (.str [m]))],.pure (t1D m),[some (.own pd),some (.pure ru),some (.own (.lst ((bs.map (·.1)).map t1D))),none,none,some (.pure (.str [m]))],rfl,?_,rfl,rfl,rfl,rfl⟩
  generalize (!(bs.map (·.1)).contains m)=z at *
  generalize D.lst ((bs.map (·.1)).map t1D)=LT at *
  generalize D.str [m]=dm at *
  simp [dTr,eVar,bVar,i])
 have hmem:∀ m ∈ ([97,98,99,100,101,102,103,104,105,106,107,108,109,110,111,112,113,114,115,116,117,118,119,120,121,122]:List Nat).filter (fun m=>!(bs.map (·.1)).contains m),tgd bs (.str [m])=false:=fun m hm=>by
  have:=(List.mem_filter.mp hm).2
  refine hno [m] fun k hk e=>?_
  cases e
  rw [List.contains_iff_mem.mpr hk] at this
  cases this
 rw [Qw] at ec
 generalize ([97,98,99,100,101,102,103,104,105,106,107,108,109,110,111,112,113,114,115,116,117,118,119,120,121,122]:List Nat).filter (fun m=>!(bs.map (·.1)).contains m)=S' at *
 obtain ⟨m0,r0,q0⟩:∃ m0 r0,S'=m0 :: r0:=by
  cases S' with
  | nil=>exact absurd rfl hsome
  | cons a b=>exact ⟨a,b,rfl⟩
 obtain ⟨s1,m1,q1⟩:∃ s1 m1,S'=s1 ++ [m1]:=⟨S'.dropLast,S'.getLast hsome,(List.dropLast_concat_getLast hsome).symm⟩
 have t0:=hmem m0 (by rw [q0]; simp)
 have t1:=hmem m1 (by rw [q1]; simp)
 have i0:pIx (.lst (S'.map t1D)) (.int 0)=some (.pure (.str [m0])):=by rw [q0]; simp [pIx,z1Q]
 have i1:pIx (.lst (S'.map t1D)) (.int (-1))=some (.pure (.str [m1])):=by
  rw [q1,Ju]
  exact z8Q (s1.map t1D) (t1D m1)
 have it:pIx (.lst ((bs.map (·.1)).map t1D)) (.int 0)=some (.pure (.str [n])):=by rw [hts]; simp [pIx,z1Q]
 have mu:z1h (.str [n]) (.int 2)=some (.pure (.str [n,n])):=rfl
 have up:z5Z (.str [n])=some (.pure (.str [n - 32])):=if_pos hn
 obtain ⟨d,hm,ix⟩:=zd8 ([.non,.int 0,.bl true,.str [],.str [n,n],.str [n - 32]] ++ [.lst [.str [n]],.tup [.str [n]],.dct [],.str [m0],.str [m1],.str [49]]) d3 (by simpa using l3)
 have ad:=zbw [.non,.int 0,.bl true,.str [],.str [n,n],.str [n - 32]] [.lst [.str [n]],.tup [.str [n]],.dct [],.str [m0],.str [m1],.str [49]] (by simp)
 have hz:NX d∧tgd bs d=false:=by
  simp only [List.mem_append,Wf,Jn,or_false] at hm
  rcases hm with (rfl | rfl | rfl | rfl | rfl | rfl) | (rfl | rfl | rfl | rfl | rfl | rfl)
  ·exact ⟨trivial,rfl⟩
  ·exact ⟨trivial,rfl⟩
  ·exact ⟨trivial,rfl⟩
  ·exact ⟨trivial,hno _ fun k hk e=>by cases e⟩
  ·exact ⟨trivial,hno _ fun k hk e=>by cases e⟩
  ·exact ⟨trivial,hno _ fun k hk e=>by have:=hlet k hk; injection e; omega⟩
  ·exact ⟨trivial,rfl⟩
  ·exact ⟨trivial,rfl⟩
  ·exact ⟨trivial,rfl⟩
  ·exact ⟨trivial,t0⟩
  ·exact ⟨trivial,t1⟩
  ·exact ⟨trivial,hno _ fun k hk e=>by have:=hlet k hk; injection e; omega⟩
 refine ⟨d,pd3,hz.1,hz.2,p3,?_⟩
 rw [z0Y]; unfold B14_ B10_
 clear hz hm t0 t1 hmem hno hlet hsome
 generalize ([.non,.int 0,.bl true,.str [],.str [n,n],.str [n - 32]]:List D) ++ [.lst [.str [n]],.tup [.str [n]],.dct [],.str [m0],.str [m1],.str [49]]=LL at *
 generalize D.str [n,n]=x1 at *
 generalize D.str [n - 32]=x2 at *
 generalize D.str [m0]=x3 at *
 generalize D.str [m1]=x4 at *
 generalize hx5:D.str [n]=x5 at *
 generalize D.lst ((bs.map (·.1)).map t1D)=LT at *
 generalize hS:S'.map t1D=SS at *
 generalize ([97,98,99,100,101,102,103,104,105,106,107,108,109,110,111,112,113,114,115,116,117,118,119,120,121,122]:List Nat)=LE at *
 simp [ioOk,z0f,dAsg,z08,ios,ndup,z0B,evX,mkA,putA,eVar,bVar,gt,z5M,clrD]
 rw [ec]
 simp [z2D,dAsg,z93,z08,ios,ndup,z0B,evX,mkA,putA,eVar,bVar,eOpF,eOpN,it,mu,up,i0,i1,z8a,ad,e3',ix,z0H,z0a]
theorem z9l (R:Rul h w bs) (h6:bs.length≤25) (hpd:Pen pd):∃ (d pd':D),NX d∧tgd bs d=false∧Pen pd'∧z0Q [.own pd,.pure (ruD h w bs)]=some (.pure d,[.own pd',.pure (ruD h w bs)]):=by
 rw [z0Q,z2o]
 exact z9m z0x z0b z8o R h6 _ (z5X R) hpd
theorem z8k (ce:Tx→Nat) (hi:InjC ce) (x:Tx) (hx:x ∈ ys):(ys.find? fun z=>ce z == ce x)=some x:=by
 cases e:ys.find? fun z=>ce z == ce x with
 | none =>
  have:=List.find?_eq_none.mp e x hx
  simp at this
 | some z =>
  have h1:=List.mem_of_find?_eq_some e
  have h2:=List.find?_some e
  rw [hi z h1 x hx (by simpa using h2)]
theorem isC_b (ce:Tx→Nat) (hi:InjC ce) (tab:Tx→Bool) (o1 o2:Option S):eIsC ce ys tab (bVar 0) [some (.pure (.exc (ce z3Z))),o1,o2] = .ok (.pure (.bl (tab z3Z))) [some (.pure (.exc (ce z3Z))),o1,o2]:=by
 have f:=z8k ce hi z3Z (by simp [ys])
 generalize ys=YS at *
 simp [eIsC,bVar,f]
theorem zfO (ce:Tx→Nat) (hi:InjC ce):z0m ce [.pure (.exc (ce z3Z))]=some (.pure (.str [112,108,97,99,101]),[.pure (.exc (ce z3Z))]):=by
 have p1:pAdd (.lst [.bl false,.bl true]) (.lst [.bl false,.bl false])=some (.own (.lst [.bl false,.bl true,.bl false,.bl false])):=rfl
 have p2:pAdd (.lst [.bl false,.bl true,.bl false,.bl false]) (.lst [.bl false,.bl false])=some (.own (.lst [.bl false,.bl true,.bl false,.bl false,.bl false,.bl false])):=rfl
 have p3:pAdd (.lst [.bl false,.bl true,.bl false,.bl false,.bl false,.bl false]) (.lst [.bl false,.bl false])=some (.own (.lst [.bl false,.bl true,.bl false,.bl false,.bl false,.bl false,.bl false,.bl false])):=rfl
 have p4:z4x (.lst [.bl false,.bl true,.bl false,.bl false,.bl false,.bl false,.bl false,.bl false,.bl false])=some (.pure (.int 1)):=rfl
 have p5:z37 (.lst [.bl false,.bl true,.bl false,.bl false,.bl false,.bl false,.bl false,.bl false,.bl false])=some (.pure (.int 1)):=rfl
 have p6:pNe (.int 1) (.int 1)=some (.pure (.bl false)):=rfl
 have p7:pIx (.lst [.str [102,108,111,111,114],.str [112,108,97,99,101],.str [110,117,109,98,101,114],.str [114,111,119],.str [117,110,108,105,107,101],.str [116,105,108,101],.str [114,117,108,101],.str [116,101,120,116],.str [103,114,101,97,116]]) (.int 1)=some (.pure (.str [112,108,97,99,101])):=rfl
 have hz:W3=16777216:=rfl
 rw [z0m,z0Y,z1i]
 simp [ioOk,z0f,dAsg,isC_b ce hi,eOpF,eOpN,bVar,dTr,p1,p2,p3,z0F,z1X,putL,hz,p4,p5,p6,z8n,p7,z0H,z0a]
theorem isC_c (ce:Tx→Nat) (hi:InjC ce) (tab:Tx→Bool) (o1 o2:Option S):eIsC ce ys tab (bVar 0) [some (.pure (.exc (ce z1t))),o1,o2] = .ok (.pure (.bl (tab z1t))) [some (.pure (.exc (ce z1t))),o1,o2]:=by
 have f:=z8k ce hi z1t (by simp [ys])
 generalize ys=YS at *
 simp [eIsC,bVar,f]
theorem zfN (ce:Tx→Nat) (hi:InjC ce):z0m ce [.pure (.exc (ce z1t))]=some (.pure (.str [110,117,109,98,101,114]),[.pure (.exc (ce z1t))]):=by
 have p1:pAdd (.lst [.bl false,.bl false]) (.lst [.bl true,.bl false])=some (.own (.lst [.bl false,.bl false,.bl true,.bl false])):=rfl
 have p2:pAdd (.lst [.bl false,.bl false,.bl true,.bl false]) (.lst [.bl false,.bl false])=some (.own (.lst [.bl false,.bl false,.bl true,.bl false,.bl false,.bl false])):=rfl
 have p3:pAdd (.lst [.bl false,.bl false,.bl true,.bl false,.bl false,.bl false]) (.lst [.bl false,.bl false])=some (.own (.lst [.bl false,.bl false,.bl true,.bl false,.bl false,.bl false,.bl false,.bl false])):=rfl
 have p4:z4x (.lst [.bl false,.bl false,.bl true,.bl false,.bl false,.bl false,.bl false,.bl false,.bl false])=some (.pure (.int 1)):=rfl
 have p5:z37 (.lst [.bl false,.bl false,.bl true,.bl false,.bl false,.bl false,.bl false,.bl false,.bl false])=some (.pure (.int 2)):=rfl
 have p6:pNe (.int 1) (.int 1)=some (.pure (.bl false)):=rfl
 have p7:pIx (.lst [.str [102,108,111,111,114],.str [112,108,97,99,101],.str [110,117,109,98,101,114],.str [114,111,119],.str [117,110,108,105,107,101],.str [116,105,108,101],.str [114,117,108,101],.str [116,101,120,116],.str [103,114,101,97,116]]) (.int 2)=some (.pure (.str [110,117,109,98,101,114])):=rfl
 have hz:W3=16777216:=rfl
 rw [z0m,z0Y,z1i]
 simp [ioOk,z0f,dAsg,isC_c ce hi,eOpF,eOpN,bVar,dTr,p1,p2,p3,z0F,z1X,putL,hz,p4,p5,p6,z8n,p7,z0H,z0a]
theorem isC_f (ce:Tx→Nat) (hi:InjC ce) (tab:Tx→Bool) (o1 o2:Option S):eIsC ce ys tab (bVar 0) [some (.pure (.exc (ce z4l))),o1,o2] = .ok (.pure (.bl (tab z4l))) [some (.pure (.exc (ce z4l))),o1,o2]:=by
 have f:=z8k ce hi z4l (by simp [ys])
 generalize ys=YS at *
 simp [eIsC,bVar,f]
theorem zfM (ce:Tx→Nat) (hi:InjC ce):z0m ce [.pure (.exc (ce z4l))]=some (.pure (.str [116,105,108,101]),[.pure (.exc (ce z4l))]):=by
 have p1:pAdd (.lst [.bl false,.bl false]) (.lst [.bl false,.bl false])=some (.own (.lst [.bl false,.bl false,.bl false,.bl false])):=rfl
 have p2:pAdd (.lst [.bl false,.bl false,.bl false,.bl false]) (.lst [.bl false,.bl true])=some (.own (.lst [.bl false,.bl false,.bl false,.bl false,.bl false,.bl true])):=rfl
 have p3:pAdd (.lst [.bl false,.bl false,.bl false,.bl false,.bl false,.bl true]) (.lst [.bl false,.bl false])=some (.own (.lst [.bl false,.bl false,.bl false,.bl false,.bl false,.bl true,.bl false,.bl false])):=rfl
 have p4:z4x (.lst [.bl false,.bl false,.bl false,.bl false,.bl false,.bl true,.bl false,.bl false,.bl false])=some (.pure (.int 1)):=rfl
 have p5:z37 (.lst [.bl false,.bl false,.bl false,.bl false,.bl false,.bl true,.bl false,.bl false,.bl false])=some (.pure (.int 5)):=rfl
 have p6:pNe (.int 1) (.int 1)=some (.pure (.bl false)):=rfl
 have p7:pIx (.lst [.str [102,108,111,111,114],.str [112,108,97,99,101],.str [110,117,109,98,101,114],.str [114,111,119],.str [117,110,108,105,107,101],.str [116,105,108,101],.str [114,117,108,101],.str [116,101,120,116],.str [103,114,101,97,116]]) (.int 5)=some (.pure (.str [116,105,108,101])):=rfl
 have hz:W3=16777216:=rfl
 rw [z0m,z0Y,z1i]
 simp [ioOk,z0f,dAsg,isC_f ce hi,eOpF,eOpN,bVar,dTr,p1,p2,p3,z0F,z1X,putL,hz,p4,p5,p6,z8n,p7,z0H,z0a]
def z9L (x:Tx):Tx:=if x=z3Z then [112,108,97,99,101] else if x=z1t then [110,117,109,98,101,114] else [116,105,108,101]
theorem z6A (ce:Tx→Nat) (hi:InjC ce) (x:Tx) (hx:x ∈ ys):z0m ce [.pure (.exc (ce x))]=some (.pure (.str (z9L x)),[.pure (.exc (ce x))]):=by
 simp only [ys,Wf,Jn,or_false] at hx
 rcases hx with rfl | rfl | rfl
 ·exact zfO ce hi
 ·exact zfN ce hi
 ·exact zfM ce hi
theorem zae (ce:Tx→Nat) (GX:DX) (GK:DF) (gk:∀ x ∈ ys,GK [.pure (.exc (ce x))]=some (.pure (.str (z9L x)),[.pure (.exc (ce x))])) (ru tl d o:D) (x:Tx) (hx:x ∈ ys) (g:GX [.pure ru,.pure tl,.pure d,.pure o]=some (.inr (x,[.pure ru,.pure tl,.pure d,.pure o]))) :
  gOf [] 5 (dTry ce ys 4 (dRet (z0P GX [.val (eVar 0),.val (eVar 1),.val (eVar 2),.val (eVar 3)])) (dRet (z08 GK [.val (eVar 4)]))) [.pure ru,.pure tl,.pure d,.pure o]=some (.pure (.str (z9L x)),[.pure ru,.pure tl,.pure d,.pure o]):=by
 rw [z0Y]
 have k:=gk x hx
 generalize ys=YS at *
 simp [ioOk,z0f,dTry,zed,z0P,z08,ios,ndup,z0B,evX,mkA,putA,eVar,bVar,unset,g,hx,z2u,k,z0H,z0a]
section
variable (ce:Tx→Nat) (hi:InjC ce) {h w n t:Nat} {bs:List (Nat×List Tx)}
include hi
theorem td_1 (R:Rul h w bs) (tl d o:D) (hd:NX tl) (hz:tgd bs tl=false):z0E ce [.pure (ruD h w bs),.pure tl,.pure d,.pure o]=some (.pure (.str [116,105,108,101]),[.pure (ruD h w bs),.pure tl,.pure d,.pure o]):=by
 rw [z0E,z2m]
 exact zae ce z0i (z0m ce) (z6A ce hi) _ tl d o z4l (by simp [ys]) (ff_1 R tl d o hd hz)
theorem td_2 (R:Rul h w bs) (hn:n ∈ bs.map (·.1)) (d o:D) (hd:NX d) (hz:wi 60 d=false):z0E ce [.pure (ruD h w bs),.pure (.str [n]),.pure d,.pure o]=some (.pure (.str [110,117,109,98,101,114]),[.pure (ruD h w bs),.pure (.str [n]),.pure d,.pure o]):=by
 rw [z0E,z2m]
 exact zae ce z0i (z0m ce) (z6A ce hi) _ (.str [n]) d o z1t (by simp [ys]) (ff_2 R hn d o hd hz)
theorem td_3 (R:Rul h w bs) (hn:n ∈ bs.map (·.1)) (ht:t≤60) (o:D) (hd:NX o) (hz:tgd bs o=false):z0E ce [.pure (ruD h w bs),.pure (.str [n]),.pure (.int (t:Int)),.pure o]=some (.pure (.str [116,105,108,101]),[.pure (ruD h w bs),.pure (.str [n]),.pure (.int (t:Int)),.pure o]):=by
 rw [z0E,z2m]
 exact zae ce z0i (z0m ce) (z6A ce hi) _ (.str [n]) _ o z4l (by simp [ys]) (ff_3 R hn ht o hd hz)
end
abbrev B4_ (GD:DF) (GO:DF) (GT:DF):DS:=dSeq (dAsg (z08 GO [.io 0,.val (eVar 1)]) (gNm [0] 3)) (dSeq (dAsg (eOp pIx (eLst (z0l (eD (.int 61)) (z0l (eC1 pNeg (bOf (eD (.int 1)))) (z0l (eD (.bl true)) (z0l (eD .non) (z0l (eD (.str [49])) (z0l (eOp pAdd (eD (.int 62)) (bOf (z08 GD [.io 0,.val (eOp pPow (eD (.int 10)) (bOf (eD (.int 9))))]))) aNil))))))) (bOf (z08 GD [.io 0,.val (eD (.int 6))]))) (gNm [0] 4)) (dSeq (dIf (dOr (dTr (eOp pNe (z08 GT [.val (eVar 1),.val (eVar 3),.val (eVar 4),.val (eVar 3)]) (bOf (eD (.str [116,105,108,101]))))) (dTr (eOp pNe (z08 GT [.val (eVar 1),.val (eVar 2),.val (eVar 4),.val (eVar 3)]) (bOf (eD (.str [110,117,109,98,101,114])))))) (dRet (eD (.bl false))) z1f) (dRet (eAnd (eOp pEq (z08 GT [.val (eVar 1),.val (eVar 2),.val (eD (.int 3)),.val (eVar 3)]) (bOf (eD (.str [116,105,108,101])))) (eOp pEq (z08 GT [.val (eVar 1),.val (eVar 3),.val (eD (.int 3)),.val (eVar 2)]) (bOf (eD (.str [116,105,108,101]))))))))
theorem zaf (GO GD GT:DF) (hd:z99 GD) (ru tl:D) (bs:List (Nat×List Tx)) (go:∀ pd,Pen pd→∃ (d pd':D),NX d∧tgd bs d=false∧Pen pd'∧GO [.own pd,.pure ru]=some (.pure d,[.own pd',.pure ru]))
  (g1:∀ x d o:D,NX x→tgd bs x=false→GT [.pure ru,.pure x,.pure d,.pure o]=some (.pure (.str [116,105,108,101]),[.pure ru,.pure x,.pure d,.pure o])) (g2:∀ d o:D,NX d→wi 60 d=false→GT [.pure ru,.pure tl,.pure d,.pure o]=some (.pure (.str [110,117,109,98,101,114]),[.pure ru,.pure tl,.pure d,.pure o]))
  (g3:∀ o:D,NX o→tgd bs o=false→GT [.pure ru,.pure tl,.pure (.int 3),.pure o]=some (.pure (.str [116,105,108,101]),[.pure ru,.pure tl,.pure (.int 3),.pure o])) (hpd:Pen pd) :
  ∃ pd',Pen pd'∧gOf [0] 5 (B4_ GD GO GT) [.own pd,.pure ru,.pure tl]=some (.pure (.bl true),[.own pd',.pure ru,.pure tl]):=by
 obtain ⟨bad,pd1,b1,b2,q1,e1⟩:=go pd hpd
 obtain ⟨s,pd2,e2,l2,q2⟩:=hd pd1 1000000000 q1 (by omega) (by omega)
 have e2':GD [.own pd1,.pure (.int 1000000000)]=some (.pure (.int (s:Int)),[.own pd2,.pure (.int 1000000000)]):=e2
 obtain ⟨u,pd3,e3,l3,q3⟩:=hd pd2 6 q2 (by omega) (by omega)
 have e3':GD [.own pd2,.pure (.int 6)]=some (.pure (.int (u:Int)),[.own pd3,.pure (.int 6)]):=e3
 obtain ⟨d,hm,ix⟩:=zd8 [.int 61,.int (-1),.bl true,.non,.str [49],.int (62 + (s:Int))] u (by simpa using l3)
 have hz:NX d∧wi 60 d=false:=by
  simp only [Wf,Jn,or_false] at hm
  rcases hm with rfl | rfl | rfl | rfl | rfl | rfl <;> refine ⟨trivial,?_⟩ <;> first
   | rfl
   | (simp [wi]; omega)
 have a1:=add_int 62 (s:Int)
 have p9:=pw9
 have t1:=g1 bad d bad b1 b2
 have t2:=g2 d bad hz.1 hz.2
 have t3:=g3 bad b1 b2
 have t4:=g1 bad (.int 3) tl b1 b2
 have k1:pNe (.str [116,105,108,101]) (.str [116,105,108,101])=some (.pure (.bl false)):=rfl
 have k2:pNe (.str [110,117,109,98,101,114]) (.str [110,117,109,98,101,114])=some (.pure (.bl false)):=rfl
 have k3:pEq (.str [116,105,108,101]) (.str [116,105,108,101])=some (.pure (.bl true)):=rfl
 refine ⟨pd3,q3,?_⟩
 have K:(B4_ GD GO GT) (z0f 5 [.own pd,.pure ru,.pure tl]) = .ok (.ret (.pure (.bl true))) [some (.own pd3),some (.pure ru),some (.pure tl),some (.pure bad),some (.pure d)]:=by
  clear hz hm g1 g2 g3 go
  refine z0r (δ1:=[some (.own pd1),some (.pure ru),some (.pure tl),some (.pure bad),none]) ?_ ?_
  ·simp [z0f,dAsg,z08,ios,ndup,z0B,evX,mkA,putA,eVar,e1]
  refine z0r (δ1:=[some (.own pd3),some (.pure ru),some (.pure tl),some (.pure bad),some (.pure d)]) ?_ ?_
  ·clear t1 t2 t3 t4
   generalize D.int (62 + (s:Int))=x1 at *
   generalize D.int 1000000000=x2 at *
   generalize D.int (s:Int)=x3 at *
   generalize D.int (u:Int)=x4 at *
   simp [dAsg,z08,ios,ndup,z0B,evX,mkA,putA,eVar,bVar,z8a,p9,e2',a1,e3',ix]
  refine z0r (δ1:=[some (.own pd3),some (.pure ru),some (.pure tl),some (.pure bad),some (.pure d)]) ?_ ?_
  ·generalize D.str [116,105,108,101]=x1 at *
   generalize D.str [110,117,109,98,101,114]=x2 at *
   simp [dTr,z08,ios,ndup,z0B,evX,mkA,putA,eVar,bVar,t1,t2,k1,k2]
  ·generalize D.str [116,105,108,101]=x1 at *
   simp [eAnd,z08,ios,ndup,z0B,evX,mkA,putA,eVar,bVar,t3,t4,k3]
 rw [z0Y,K]
 simp [ioOk,z0H,z0a]
theorem zaa (ce:Tx→Nat) (hi:InjC ce) (R:Rul h w bs) (h6:bs.length≤25) (hn:n ∈ bs.map (·.1)) (hpd:Pen pd):∃ pd',Pen pd'∧z0v ce [.own pd,.pure (ruD h w bs),.pure (.str [n])]=some (.pure (.bl true),[.own pd',.pure (ruD h w bs),.pure (.str [n])]):=by
 rw [z0v,z1g]
 exact zaf z0Q z0b (z0E ce) z8o _ (.str [n]) bs (fun pd hp=>z9l R h6 hp) (fun x d o a b=>td_1 ce hi R x d o a b) (fun d o a b=>td_2 ce hi R hn d o a b) (fun o a b=>td_3 ce hi R hn (t:=3) (by decide) o a b) hpd
theorem zeS (ds:List D) (lo hi:Option Int):pSl lo hi (.lst ds)=some (.own (.lst (cutL ds lo hi))):=rfl
theorem cutl (xs:List α) (lo hi:Option Int):(cutL xs lo hi).length≤xs.length:=by
 unfold cutL
 simp
 omega
abbrev B15_ (GD:DF) (GF:DF) (GN:DF):DS:=dIf (dOr (dNot (dTr (z08 GN [.val (eVar 3),.val (eVar 5),.val (eVar 6)]))) (dNot (dTr (z08 GF [.val (eVar 3),.val (eVar 5),.val (z08 GD [.io 2,.val (eD (.int 61))]),.val (eVar 6)])))) (dRet (eD (.bl false))) z1f
abbrev B2_ (GB:DF) (GD:DF) (GF:DF) (GN:DF) (GP:DF) (GT:DF) (GX:DF):DS:=dSeq (dAsg (z08 GP [.val (eVar 1)]) (gNm [] 2)) (dSeq (dAsg (z08 GB [.io 2,.val (eD (.int 6))]) (gNm [] 3)) (dSeq (dAsg (z08 GT [.val (eVar 3)]) (gNm [] 4)) (dSeq (dAsg (eOpF pIx 4 (bOf (z08 GD [.io 2,.val (eC1 pLen (bVar 4))]))) (gNm [] 5)) (dSeq (dFor (iSq (eLst (z0l (eOpF pIx 4 (bOf (z08 GD [.io 2,.val (eC1 pLen (bVar 4))]))) (z0l (eOpF pIx 4 (bOf (eC1 pNeg (bOf (eD (.int 1)))))) (z0l (eVar 5) aNil))))) (gNm [] 6) (B15_ GD GF GN)) (dIf (dOr (dNot (dTr (z08 GX [.io 2,.val (eVar 3),.val (eVar 5)]))) (dNot (dTr (z08 GN [.val (eVar 3),.val (eOpF pIx 4 (bOf (eD (.int 0)))),.val (eVar 5)])))) (dRet (eD (.bl false))) z1f)))))
abbrev B17_ (GB:DF) (GC:DF) (GD:DF) (GF:DF) (GN:DF) (GP:DF) (GT:DF) (GX:DF):DS:=dSeq (dFor (iSq (eOp pAdd (eLst (z0l (z08 GC [.val (eVar 0),.val (eD (.int 0))]) aNil)) (bOf (eSlN 0 (z3r (eD (.int 1))) (z3r (eD (.int 4))))))) (gNm [] 1) (B2_ GB GD GF GN GP GT GX)) (dRet (eD (.bl true)))
theorem q_law (GC GP GB GT GD GN GF GX:DF) (hd:z99 GD) (gp:∀ c:Int,∃ d,GP [.pure (.int c)]=some (.own d,[.pure (.int c)])∧Pen d)
  (gb:∀ d,Pen d→∃ (h w:Nat) (bs:List (Nat×List Tx)) (d':D),GB [.own d,.pure (.int 6)]=some (.pure (ruD h w bs),[.own d',.pure (.int 6)])∧Rul h w bs∧bs.length≤6∧Pen d')
  (gt:∀ h w bs,Rul h w bs→GT [.pure (ruD h w bs)]=some (.own (.lst ((bs.map (·.1)).map t1D)),[.pure (ruD h w bs)]))
  (gn:∀ (h w n o:Nat) bs,Rul h w bs→n ∈ bs.map (·.1)→o ∈ bs.map (·.1)→GN [.pure (ruD h w bs),.pure (.str [n]),.pure (.str [o])]=some (.pure (.bl true),[.pure (ruD h w bs),.pure (.str [n]),.pure (.str [o])]))
  (gf:∀ (h w n o t:Nat) bs,Rul h w bs→n ∈ bs.map (·.1)→o ∈ bs.map (·.1)→t≤60→GF [.pure (ruD h w bs),.pure (.str [n]),.pure (.int (t:Int)),.pure (.str [o])]=some (.pure (.bl true),[.pure (ruD h w bs),.pure (.str [n]),.pure (.int (t:Int)),.pure (.str [o])]))
  (gx:∀ (h w n:Nat) bs d,Rul h w bs→bs.length≤25→n ∈ bs.map (·.1)→Pen d→∃ pd',Pen pd'∧GX [.own d,.pure (ruD h w bs),.pure (.str [n])]=some (.pure (.bl true),[.own pd',.pure (ruD h w bs),.pure (.str [n])]))
  (ns:List Int) (hn:ns.length≤63) (gc:∃ c:Int,GC [.pure (.lst (ns.map .int)),.pure (.int 0)]=some (.pure (.int c),[.pure (.lst (ns.map .int)),.pure (.int 0)])) :
  gOf [] 7 (B17_ GB GC GD GF GN GP GT GX) [.pure (.lst (ns.map .int))]=some (.pure (.bl true),[.pure (.lst (ns.map .int))]):=by
 obtain ⟨c0,e0⟩:=gc
 have hcut:cutL (ns.map D.int) (some 1) (some 4)=(cutL ns (some 1) (some 4)).map .int:=zcJ _ _ _ _
 have hsl:=zeS (ns.map D.int) (some 1) (some 4)
 rw [hcut] at hsl
 have hle:=cutl ns (some 1) (some 4)
 have ha:=zbw [.int c0] ((cutL ns (some 1) (some 4)).map .int) (by simp; omega)
 generalize hscr:D.lst (ns.map .int)=scr at *
 have hcells:∀ d ∈ [D.int c0] ++ (cutL ns (some 1) (some 4)).map .int,∃ c:Int,d = .int c:=fun d hm=>by
  rcases QH.mp hm with hm | hm
  ·simp at hm; exact ⟨_,hm⟩
  ·obtain ⟨c,_,rfl⟩:=Qx.mp hm
   exact ⟨_,rfl⟩
 generalize [D.int c0] ++ (cutL ns (some 1) (some 4)).map .int=CS at *
 obtain ⟨δ',e,o1,o2,o3,o4,o5,o6,rfl⟩:=z1O (g:=gNm [] 1) (b:=(B2_ GB GD GF GN GP GT GX)) (fun _ δ=>∃ (o1 o2 o3 o4 o5 o6:Option S),δ=[some (.pure scr),o1,o2,o3,o4,o5,o6]) CS 0 [some (.pure scr),none,none,none,none,none,none] ⟨_,_,_,_,_,_,rfl⟩ (fun i d δ hdd ⟨o1,o2,o3,o4,o5,o6,e⟩=>by
  subst e
  obtain ⟨c,rfl⟩:=hcells d (Wv hdd)
  obtain ⟨pd1,e1,p1⟩:=gp c
  obtain ⟨h,w,bs,pd2,e2,R,h6,p2⟩:=gb pd1 p1
  have n0:=R.n0
  have e3:=gt h w bs R
  have lt:pLen (.lst ((bs.map (·.1)).map t1D))=some (.pure (.int (bs.length:Int))):=by
   show some (S.pure (.int (((bs.map (·.1)).map t1D).length:Int)))=_
   simp
  have at':∀ k:Nat,k < bs.length→∃ m,m ∈ bs.map (·.1)∧pIx (.lst ((bs.map (·.1)).map t1D)) (.int (k:Int))=some (.pure (.str [m])):=fun k hk=>by
   obtain ⟨n,hkn⟩:∃ n,(bs.map (·.1))[k]? = some n:=⟨(bs.map (·.1))[k]'(by simpa using hk),Ww _⟩
   refine ⟨n,Wv hkn,?_⟩
   have hk2:((bs.map (·.1)).map t1D)[k]? = some (t1D n):=by rw [WB,hkn]; rfl
   generalize (bs.map (·.1)).map t1D=LL at hk2
   simp [pIx,z1R,hk2]
  obtain ⟨k,pd3,e4,l4,p3⟩:=hd pd2 bs.length p2 n0 (by omega)
  obtain ⟨n,hnm,ixn⟩:=at' k l4
  obtain ⟨k2,pd4,e5,l5,p4⟩:=hd pd3 bs.length p3 n0 (by omega)
  obtain ⟨m1,hm1,ix1⟩:=at' k2 l5
  obtain ⟨m0,hm0,ix0⟩:=at' 0 n0
  have ixl:=z8i (bs.map (·.1)) (by simpa using n0)
  have hml:(bs.map (·.1)).getLastD 0 ∈ bs.map (·.1):=z6z (by simpa using n0) (fun n h=>h)
  generalize (bs.map (·.1)).getLastD 0=m2 at *
  have ix0:pIx (.lst ((bs.map (·.1)).map t1D)) (.int 0)=some (.pure (.str [m0])):=ix0
  have hothers:∀ x ∈ [D.str [m1],.str [m2],.str [n]],∃ m,x = .str [m]∧m ∈ bs.map (·.1):=fun x hx=>by
   simp only [Wf,Jn,or_false] at hx
   rcases hx with rfl | rfl | rfl
   ·exact ⟨m1,rfl,hm1⟩
   ·exact ⟨m2,rfl,hml⟩
   ·exact ⟨n,rfl,hnm⟩
  have tn:=fun o ho=>gn h w n o bs R hnm ho
  have tf:=fun o t ho ht=>gf h w n o t bs R hnm ho ht
  have tx:=fun d hp=>gx h w n bs d R (by omega) hnm hp
  have t0:=gn h w m0 n bs R hm0 hnm
  generalize D.lst ((bs.map (·.1)).map t1D)=LT at *
  generalize D.int (bs.length:Int)=bl at *
  generalize ruD h w bs=ru at *
  -- the three
  obtain ⟨δ',e6,pd5,o6',p5,rfl⟩:=z1O (g:=gNm [] 6) (b:=(B15_ GD GF GN)) (fun _ δ=>∃ (pd:D) (o6:Option S),Pen pd∧δ=[some (.pure scr),some (.pure (.int c)),some (.own pd),some (.pure ru),some (.own LT),some (.pure (.str [n])),o6]) [D.str [m1],.str [m2],.str [n]] 0 [some (.pure scr),some (.pure (.int c)),some (.own pd4),some (.pure ru),some (.own LT),some (.pure (.str [n])),o6] ⟨pd4,o6,p4,rfl⟩ (fun j d δ hdd ⟨pd,o6,hp,e⟩=>by
   subst e
   obtain ⟨m,rfl,hm⟩:=hothers d (Wv hdd)
   obtain ⟨t,pd',et,lt',p'⟩:=hd pd 61 hp (by omega) (by omega)
   have et':GD [.own pd,.pure (.int 61)]=some (.pure (.int (t:Int)),[.own pd',.pure (.int 61)]):=et
   have u1:=tn m hm
   have u2:=tf m t hm (by omega)
   refine ⟨_,[some (.pure scr),some (.pure (.int c)),some (.own pd'),some (.pure ru),some (.own LT),some (.pure (.str [n])),some (.pure (.str [m]))],rfl,?_,pd',_,p',rfl⟩
   generalize D.int (t:Int)=dt at *
   generalize D.str [m]=dm at *
   generalize D.str [n]=dn at *
   simp [dTr,z08,ios,ndup,z0B,evX,mkA,putA,eVar,u1,u2,et'])
  obtain ⟨pd6,p6,e7⟩:=tx pd5 p5
  refine ⟨_,[some (.pure scr),some (.pure (.int c)),some (.own pd6),some (.pure ru),some (.own LT),some (.pure (.str [n])),o6'],rfl,?_,_,_,_,_,_,_,rfl⟩
  clear tn tf tx
  refine z0r (δ1:=[some (.pure scr),some (.pure (.int c)),some (.own pd1),o3,o4,o5,o6]) ?_ ?_
  ·simp [dAsg,z08,ios,ndup,z0B,evX,mkA,putA,eVar,e1]
  refine z0r (δ1:=[some (.pure scr),some (.pure (.int c)),some (.own pd2),some (.pure ru),o4,o5,o6]) ?_ ?_
  ·simp [dAsg,z08,ios,ndup,z0B,evX,mkA,putA,eVar,e2]
  refine z0r (δ1:=[some (.pure scr),some (.pure (.int c)),some (.own pd2),some (.pure ru),some (.own LT),o5,o6]) ?_ ?_
  ·simp [dAsg,z08,ios,ndup,z0B,evX,mkA,putA,eVar,e3]
  refine z0r (δ1:=[some (.pure scr),some (.pure (.int c)),some (.own pd3),some (.pure ru),some (.own LT),some (.pure (.str [n])),o6]) ?_ ?_
  ·simp [dAsg,z08,ios,ndup,z0B,evX,mkA,putA,eVar,bVar,eOpF,eOpN,lt,e4,ixn]
  refine z0r (z3b (ds:=[D.str [m1],.str [m2],.str [n]]) ?_ e6) ?_
  ·simp [z5M,z08,ios,ndup,z0B,evX,mkA,putA,eVar,bVar,eOpF,eOpN,lt,e5,ix1,z8a,ixl]
  ·clear e6
   generalize D.str [n]=dn at *
   generalize D.str [m0]=dm at *
   simp [dTr,z08,ios,ndup,z0B,evX,mkA,putA,eVar,bVar,eOpF,eOpN,e7,ix0,t0])
 have K:(B17_ GB GC GD GF GN GP GT GX) (z0f 7 [.pure scr]) = .ok (.ret (.pure (.bl true))) [some (.pure scr),o1,o2,o3,o4,o5,o6]:=by
  refine z0r (δ1:=[some (.pure scr),o1,o2,o3,o4,o5,o6]) ?_ ?_
  ·have hs:(iSq (eOp pAdd (eLst (z0l (z08 GC [.val (eVar 0),.val (eD (.int 0))]) aNil)) (bOf (eSlN 0 (z3r (eD (.int 1))) (z3r (eD (.int 4))))))) (z0f 7 [.pure scr]) = .ok CS [some (.pure scr),none,none,none,none,none,none]:=by
    simp [z0f,z5M,z08,ios,ndup,z0B,evX,mkA,putA,eVar,bVar,e0,eSlN,z3r,hsl,ha]
   exact z3b hs e
  ·simp
 rw [z0Y,K]
 simp [ioOk,z0H,z0a]
set_option maxHeartbeats 4000000 in
theorem zdH (ce:Tx→Nat) (hi:InjC ce) (ns:List Int) (hn:ns.length≤63):z9J ce [.pure (.lst (ns.map .int))]=some (.pure (.bl true),[.pure (.lst (ns.map .int))]):=by
 rw [z9J,zeC]
 exact q_law z0V z12 z0M z0x z0b z0A z0K (z0v ce) z8o r_pen (fun d hp=>za9 hp 6 (by decide) (by decide)) (fun h w bs R=>z5X R)
  (fun h w n o bs R a b=>zf1 R a b) (fun h w n o t bs R a b c=>r_far R a b c) (fun h w n bs d R h6 a hp=>zaa ce hi R h6 a hp) ns hn (z7Y ns)
def Gt:DF:=fun ss=>match ss with
 | [.pure (.lst ds)]=>match z5J ds with
  | some ns=>if ns.length≤63 then some (.pure (.bl true),ss) else none
  | none=>none
 | _=>none
theorem r_law (ns:List Int) (h:ns.length≤63):∃ outs,Gt [.pure (.lst (ns.map .int))]=some (.pure (.bl true),outs):=by
 unfold Gt
 simp only [DV.ints_map,h,if_true]
 exact ⟨_,rfl⟩
theorem zaX:∀ {ds:List D} {ns:List Int},z5J ds=some ns→ds=ns.map .int
 | [],ns,h=>by simp [z5J] at h; subst h; rfl
 | d :: r,ns,h=>by
  cases d with
  | int i =>
   simp only [z5J] at h
   cases e:z5J r with
   | none=>rw [e] at h; cases h
   | some m =>
    rw [e] at h
    cases h
    rw [zaX e]
    rfl
  | _=>simp [z5J] at h
theorem law_all:∀ ce,InjC ce→∀ ss y,Gt ss=some y→z9J ce ss=some y:=by
 intro ce hj ss y h
 unfold Gt at h
 split at h
 ·rename_i ds
  cases hi:z5J ds with
  | none=>rw [hi] at h; cases h
  | some ns =>
   rw [hi] at h
   by_cases hn:ns.length≤63
   ·simp only [hn,if_true] at h
    cases h
    have e:=zaX hi
    subst e
    exact zdH ce hj ns hn
   ·simp only [hn,if_false] at h
    cases h
 ·cases h
end K14
open PySem PySem.W PyProof.Rows
def PySem.W.Fast.tw17309314084073705896:Nat:=0
def PySem.W.Fast.tw12085787317552289727:Nat:=0
def PySem.W.Fast.tw14261861397876461828:Nat:=0
def PySem.W.Fast.tw10738767938149174436:Nat:=0
def PySem.W.Fast.tw5613057409359857434:Nat:=0
def PySem.W.Fast.tw2215681209479781375:Nat:=0
def PySem.W.Fast.tw17867546780736898144:Nat:=0
def PySem.W.Fast.tw2192607656179753261:Nat:=0
def PySem.W.Fast.tw11421641270341963879:Nat:=0
def PySem.W.Fast.tw8039479397784419906:Nat:=0
def PySem.W.Fast.tw9009419687171484083:Nat:=0
def PySem.W.Fast.tw14261585317807342634:Nat:=0
set_option maxRecDepth 100000 in
set_option maxHeartbeats 0 in
theorem PySem.Challenge.cw_tilegrow_k14_first_places_holds : PySem.Challenge.rw_tilegrow_k14_first_places.Holds := by
 w_on; o_law; k_head; (case hw=>w_witness2)
 k_fill
 refine DV.walkD (l:=PySem.Challenge.rw_tilegrow_k14_first_places) (k:=8) (G:=K14.Gt) rfl rfl ⟨rfl,by decide,by decide⟩ (fun w h Y=>PySem.W.kIn_of Y) ?L K14.r_law ?F
 case L=>intro p; exact Eq.refl true
 case F =>
  intro w mg fa h KX G hmg
  refine' K14.all_mk K14.law_all KX G hmg ?d0 ?d1 ?d2 ?d3 ?d4 ?d5 ?d6 ?d7 ?d8 ?d9 ?d10 ?d11 ?d12 ?d13 ?d14 ?d15 ?d16 ?d17 ?d18 ?d19 ?d20 ?d21 ?d22 ?d23 ?d24 ?d25 ?d26 ?d27 ?a28 ?l28 ?c28 ?k28 ?z_ValueError ?z_bool ?z_dict ?z_enumerate ?z_int ?z_isinstance ?z_len ?z_max ?z_min ?z_range ?z_str ?z_tuple ?g_MOST_GROWINGS ?ac_j ?ac_a ?ac_b ?ac_c ?ac_d ?ac_e ?ac_f ?ac_g ?ac_h ?ac_i ?ia_f ?li_f ?cci_f ?kfi_f ?qi_f ?fni_f ?kci_f ?sai_f ?ovi_f ?hdi_f ?tki_f ?qc_j ?qc_c ?qc_b ?spc ?tkc ?ga_b ?gt_b ?cl_b ?mo_b ?mb_b ?ci_b ?kv_b ?ki_b_a ?ki_b_b ?ki_b_c ?ki_b_d ?ki_b_e ?ki_b_f ?ki_b_g ?ki_b_h ?ki_b_i ?mr_b_j ?ga_c ?gt_c ?cl_c ?mo_c ?mb_c ?ci_c ?kv_c ?ki_c_a ?ki_c_b ?ki_c_c ?ki_c_d ?ki_c_e ?ki_c_f ?ki_c_g ?ki_c_h ?ki_c_i ?mr_c_j ?ga_f ?gt_f ?cl_f ?mo_f ?mb_f ?ci_f ?kv_f ?ki_f_a ?ki_f_b ?ki_f_c ?ki_f_d ?ki_f_e ?ki_f_f ?ki_f_g ?ki_f_h ?ki_f_i ?mr_f_j
  (case d0=>exact ⟨_,_,_,_,_,_,_,_,_,_,by k_is,by k_is,by k_is,by k_is⟩); (case d1=>exact ⟨_,_,_,_,_,_,_,_,_,_,by k_is,by k_is,by k_is,by k_is⟩); (case d2=>exact ⟨_,_,_,_,_,_,_,_,_,_,by k_is,by k_is,by k_is,by k_is⟩); (case d3=>exact ⟨_,_,_,_,_,_,_,_,_,_,by k_is,by k_is,by k_is,by k_is⟩); (case d4=>exact ⟨_,_,_,_,_,_,_,_,_,_,by k_is,by k_is,by k_is,by k_is⟩); (case d5=>exact ⟨_,_,_,_,_,_,_,_,_,_,by k_is,by k_is,by k_is,by k_is⟩); (case d6=>exact ⟨_,_,_,_,_,_,_,_,_,_,by k_is,by k_is,by k_is,by k_is⟩); (case d7=>exact ⟨_,_,_,_,_,_,_,_,_,_,by k_is,by k_is,by k_is,by k_is⟩)
  (case d8=>exact ⟨_,_,_,_,_,_,_,_,_,_,by k_is,by k_is,by k_is,by k_is⟩); (case d9=>exact ⟨_,_,_,_,_,_,_,_,_,_,by k_is,by k_is,by k_is,by k_is⟩); (case d10=>exact ⟨_,_,_,_,_,_,_,_,_,_,by k_is,by k_is,by k_is,by k_is⟩); (case d11=>exact ⟨_,_,_,_,_,_,_,_,_,_,by k_is,by k_is,by k_is,by k_is⟩); (case d12=>exact ⟨_,_,_,_,_,_,_,_,_,_,by k_is,by k_is,by k_is,by k_is⟩); (case d13=>exact ⟨_,_,_,_,_,_,_,_,_,_,by k_is,by k_is,by k_is,by k_is⟩); (case d14=>exact ⟨_,_,_,_,_,_,_,_,_,_,by k_is,by k_is,by k_is,by k_is⟩); (case d15=>exact ⟨_,_,_,_,_,_,_,_,_,_,by k_is,by k_is,by k_is,by k_is⟩)
  (case d16=>exact ⟨_,_,_,_,_,_,_,_,_,_,by k_is,by k_is,by k_is,by k_is⟩); (case d17=>exact ⟨_,_,_,_,_,_,_,_,_,_,by k_is,by k_is,by k_is,by k_is⟩); (case d18=>exact ⟨_,_,_,_,_,_,_,_,_,_,by k_is,by k_is,by k_is,by k_is⟩); (case d19=>exact ⟨_,_,_,_,_,_,_,_,_,_,by k_is,by k_is,by k_is,by k_is⟩); (case d20=>exact ⟨_,_,_,_,_,_,_,_,_,_,by k_is,by k_is,by k_is,by k_is⟩); (case d21=>exact ⟨_,_,_,_,_,_,_,_,_,_,by k_is,by k_is,by k_is,by k_is⟩); (case d22=>exact ⟨_,_,_,_,_,_,_,_,_,_,by k_is,by k_is,by k_is,by k_is⟩); (case d23=>exact ⟨_,_,_,_,_,_,_,_,_,_,by k_is,by k_is,by k_is,by k_is⟩)
  (case d24=>exact ⟨_,_,_,_,_,_,_,_,_,_,by k_is,by k_is,by k_is,by k_is⟩); (case d25=>exact ⟨_,_,_,_,_,_,_,_,_,_,by k_is,by k_is,by k_is,by k_is⟩); (case d26=>exact ⟨_,_,_,_,_,_,_,_,_,_,by k_is,by k_is,by k_is,by k_is⟩); (case d27=>exact ⟨_,_,_,_,_,_,_,_,_,_,by k_is,by k_is,by k_is,by k_is⟩); (case a28=>k_is); (case l28=>k_is); (case c28=>k_is); (case k28=>k_is)
  (case z_ValueError=>k_is); (case z_bool=>k_is); (case z_dict=>k_is); (case z_enumerate=>k_is); (case z_int=>k_is); (case z_isinstance=>k_is); (case z_len=>k_is); (case z_max=>k_is)
  (case z_min=>k_is); (case z_range=>k_is); (case z_str=>k_is); (case z_tuple=>k_is); (case g_MOST_GROWINGS=>k_is); (case ac_j=>k_is); (case ac_a=>k_is); (case ac_b=>k_is)
  (case ac_c=>k_is); (case ac_d=>k_is); (case ac_e=>k_is); (case ac_f=>k_is); (case ac_g=>k_is); (case ac_h=>k_is); (case ac_i=>k_is); (case ia_f=>k_is)
  (case li_f=>k_is); (case cci_f=>k_is); (case kfi_f=>k_is); (case qi_f=>kernel_rfl); (case fni_f=>k_is); (case kci_f=>k_is); (case sai_f=>k_is); (case ovi_f=>kernel_rfl)
  (case hdi_f=>k_is); (case tki_f=>k_is); (case qc_j=>kernel_rfl); (case qc_c=>kernel_rfl); (case qc_b=>kernel_rfl); (case spc=>k_is); (case tkc=>k_is); (case ga_b=>k_is)
  (case gt_b=>k_is); (case cl_b=>k_is); (case mo_b=>k_is); (case mb_b=>k_is); (case ci_b=>k_is); (case kv_b=>kit_is); (case ki_b_a=>kit_is); (case ki_b_b=>kit_is)
  (case ki_b_c=>kit_is); (case ki_b_d=>kit_is); (case ki_b_e=>kit_is); (case ki_b_f=>kit_is); (case ki_b_g=>kit_is); (case ki_b_h=>kit_is); (case ki_b_i=>kit_is); (case mr_b_j=>k_is)
  (case ga_c=>k_is); (case gt_c=>k_is); (case cl_c=>k_is); (case mo_c=>k_is); (case mb_c=>k_is); (case ci_c=>k_is); (case kv_c=>kit_is); (case ki_c_a=>kit_is)
  (case ki_c_b=>kit_is); (case ki_c_c=>kit_is); (case ki_c_d=>kit_is); (case ki_c_e=>kit_is); (case ki_c_f=>kit_is); (case ki_c_g=>kit_is); (case ki_c_h=>kit_is); (case ki_c_i=>kit_is)
  (case mr_c_j=>k_is); (case ga_f=>k_is); (case gt_f=>k_is); (case cl_f=>k_is); (case mo_f=>k_is); (case mb_f=>k_is); (case ci_f=>k_is); (case kv_f=>kit_is)
  (case ki_f_a=>kit_is); (case ki_f_b=>kit_is); (case ki_f_c=>kit_is); (case ki_f_d=>kit_is); (case ki_f_e=>kit_is); (case ki_f_f=>kit_is); (case ki_f_g=>kit_is); (case ki_f_h=>kit_is)
  (case ki_f_i=>kit_is); (case mr_f_j=>k_is)
