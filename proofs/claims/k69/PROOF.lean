import PyProof.Rows.All
import Wide.All
import OpenK.AllK
import Wide.FinOn
import Lean
import PyProof.EqAt
import PyProof.EqKinds
import PyProof.TupleCall
import PyProof.NeKinds
import PyProof.StrWalks
import PyProof.ListStr
import PyProof.StrOps2
import PyProof.StrLawsIn
import KE.KDictOf
import PyProof.AttrMissHeap
import PyProof.Draws
import PyProof.EnumMake
import PyProof.Rows.EnumRows
import PyProof.LongRange
import PyProof.NoPylong
import PyProof.SeqI3
import PyProof.Rows.SeqCalls
import PyProof.StrLawsChain
import PyProof.StrCalls2
import KE.KIntText
import PyProof.Rows.CallKwBuiltin
import OpenK.KOwn
import OpenK.KRaise
import PyProof.ExcBaseAll.ValueError
import PyProof.Rows.CatchOwn
import KE.KIsAll
import PyProof.ExcArgsOwn
import PyProof.ExcAttrAll.ValueError
import PyProof.Rows.SeqMore2
import PyProof.ListMulAny
import PyProof.ListMulRoad
import PyProof.ZipIter
import PyProof.Rows.FactsT2
import PyProof.ExcInit
import PyProof.InstStoreFacts
import PyProof.StrCalls
import PyProof.FactsAll.dict_1
import PyProof.FactsAll.subtypes_3
import PyProof.FactsAll.subtypes_4
import PyProof.Dict
import PyProof.MinMaxWalk
import PyProof.WalkInts
import PyProof.WalksMore
import PyProof.FactsAll.tuple_2
import KE.KSortTup
import PyProof.Rows.SortWalk
import PySem.Challenge.RW_tilegrow_k69_signs_taken_and_turned
open PySem.W renaming Frag→W0,mg_none_of→WG,kia_one→WL,keepIn→WX,kitOne→Qc,fnOf→Qg,cellsFrom_some→QL,findIn→QP
open PySem renaming Shared→W1,wpAny_bind→W2,starEach→W5,sizeLine→W6,wpAny→Wa,wpAny_pure→Wb,Spec→Wd,Program→Wi,mainGlobals→Wm,Around→Wn,World→Wp,mem_of_lookup→Ws,compareOp→Ww,FuncData→Wx,wpAny_mono→WE,backTo→WK,assignEach→WT,bootBuiltins→WW,binaryOp→Q1,behindInMarks→Q6,wpAny_holding→Q7,cLine→Q8,cellsFrom→Q9,wpAny_truthy_bool→Qh,wpAny_loadPart'→Qk,attributeBase→Ql,foldedSetIterable→Qo,wpAny_newObj_type→Qp,sizeLine_eq→Qu,wpAny_field→Qv,codeAny→Qw,sysModules→QC,swapsWith→QD,rawInt→QE,wpAny_Call_Name_kw→QF,keywordEach→QN,call_meets→QS,sliceBounds→QU,wpAny_passesOwn→QV,wpAny_typeOf→QW,tupleKind_room_in1→QX,pushCells→QY,noteFrame→QZ,getattributeRaised→J1,typeIs_int→J9,wpAny_loadPart_at→Jb
open List renaming getElem?_eq_some_iff→W3,getElem?_set_ne→W4,replicate→W9,size_toArray→We,mem_cons→Wh,mem_cons_of_mem→Wj,getElem?_eq_getElem→Wk,getElem?_set_self→Wl,mem_cons_self→Wo,map_cons→Wq,mem_of_getElem?→Wv,length_map→Wy,getElem?_map→Wz,getElem?_set→WA,mem_append_right→WB,mem_map_of_mem→WC,append_nil→WH,getElem?_cons_zero→WJ,replicate_succ→WM,getElem?_eq_none→WO,getElem?_cons_succ→WR,range→WS,lookup_cons→WU,find?_cons→WY,nil_append→WZ,map_map→Q3,all_eq_true→Q4,set_cons_succ→Q5,length_append→Qd,any_cons→Qi,mem_append→Qj,getD_eq_getElem?_getD→Qn,flatten_cons→Qq,take_add_one→Qr,getElem?_append_left→Qs,length_cons→Qz,nodup_cons→QG,length_set→QI,foldl_cons→QJ,set_cons_zero→QK,length→QM,take_of_length_le→QO,mem_append_left→QR,getElem_mem→QT,pairwise_cons→J0,contains_cons→J3,mem_map→J4,toArray→J5,all_cons→Jc,getElem_inj→Jd,length_take→Je,filter_cons→Jf,of_mem_zip→Jh
open PySem.Heap renaming get?_push_of_some→W7,lt_size→Wf,get?_push_size→Wr,get?_update_other→WF,get?_update_self→QQ
open Option.some renaming injEq→W8,inj→Wu
open Nat renaming le_refl→Wc,lt_of_lt_of_le→Wt,ne_of_lt→WN,zero_add→WQ,lt_irrefl→WV,le_trans→Q0,zero_le→Qf,le_of_lt→Jg
open Bool renaming and_eq_true→Wg,false_ne_true→Q2,not_eq_true'→Ja
open Option renaming bind_some→WD,map_some→WI,map_eq_some_iff→Qb,isSome_iff_exists→Qx
open PyProof.Rows renaming seqObj→WP,slot_tuple_getitem→Qe,envOfC→QH
open PySem.Builtin.Str renaming strSliceIndices→Qa
open Array renaming getElem?_eq_some_iff→Qm
open PySem.Builtin.Slice renaming slicePlaces→Qt
open PySem.Builtin.Tuple renaming tupleExact→Qy
open PySem.F renaming plainAttrs_list→QA,slot_list_index→QB
set_option Elab.async false
set_option linter.all false
set_option maxRecDepth 100000
namespace L2
open PySem PySem.Spec PyProof.Rows
abbrev Key:=Sum Int Str
def z80:Key→Value→Bool
 | .inl k,v=>Value.isInt k v
 | .inr x,v=>Value.isStrOf x v
def keyH (w:Wp):Key→Int
 | .inl k=>hashInt k
 | .inr x=>hashStr w x
theorem z11:∀ {k:Key} {v:Value},z80 k v=true→(∃ i t,k=Sum.inl i∧v=Value.int i t)∨(∃ x t,k=Sum.inr x∧v=Value.str x t)
 | .inl i,v,h=>by
  obtain ⟨t,e⟩:=Value.isInt_shape (k:=i) (v:=v) h
  exact .inl ⟨i,t,rfl,e⟩
 | .inr x,v,h=>by
  obtain ⟨t,e⟩:=Value.isStrOf_shape (x:=x) (v:=v) h
  exact .inr ⟨x,t,rfl,e⟩
theorem z9d (i:Int) (t:Tok):z80 (.inl i) (.int i t)=true:=by simp [z80,Value.isInt]
theorem z9c (x:Str) (t:Tok):z80 (.inr x) (.str x t)=true:=by simp [z80,Value.isStrOf]
theorem zdA (a b:Int):decide ((Sum.inl a:Key)=Sum.inl b)=(a == b):=by
 by_cases e:a=b
 ·subst e; simp
 ·have h:¬ (Sum.inl a:Key)=Sum.inl b:=fun q=>e (Sum.inl.inj q)
  rw [decide_eq_false h]
  exact (beq_eq_false_iff_ne.mpr e).symm
theorem zdx (a b:Str):decide ((Sum.inr a:Key)=Sum.inr b)=decide (a=b):=by
 by_cases e:a=b
 ·subst e; simp
 ·have h:¬ (Sum.inr a:Key)=Sum.inr b:=fun q=>e (Sum.inr.inj q)
  rw [decide_eq_false h,decide_eq_false e]
theorem zdz (a:Int) (b:Str):decide ((Sum.inl a:Key)=Sum.inr b)=false:=decide_eq_false (fun q=>nomatch q)
theorem zdy (a:Str) (b:Int):decide ((Sum.inr a:Key)=Sum.inl b)=false:=decide_eq_false (fun q=>nomatch q)
def z1x (prog:Wi) (w:Wp):PySem.KeyKind prog w Key where
 is:=z80
 hash:=keyH w
 inj:=fun v a b ha hb=>by
  rcases z11 ha with ⟨i,t,rfl,rfl⟩ | ⟨x,t,rfl,rfl⟩
  ·rcases z11 hb with ⟨j,u,rfl,e⟩ | ⟨y,u,rfl,e⟩
   ·injection e with e1 _; rw [e1]
   ·exact nomatch e
  ·rcases z11 hb with ⟨j,u,rfl,e⟩ | ⟨y,u,rfl,e⟩
   ·exact nomatch e
   ·injection e with e1 _; rw [e1]
 byValue:=fun k v h=>by
  rcases z11 h with ⟨i,t,rfl,rfl⟩ | ⟨x,t,rfl,rfl⟩ <;> rfl
 pyHash:=fun hv h=>by
  rcases z11 hv with ⟨i,t,rfl,rfl⟩ | ⟨x,t,rfl,rfl⟩
  ·exact wpAny_pyHash_int h
  ·exact wpAny_pyHash_str h
 eqBool:=fun hu hv h=>by
  rcases z11 hu with ⟨i,t,rfl,rfl⟩ | ⟨x,t,rfl,rfl⟩
  ·rcases z11 hv with ⟨j,u,rfl,rfl⟩ | ⟨y,u,rfl,rfl⟩
   ·rw [zdA] at h; exact wpAny_eqBool_int h
   ·rw [zdz] at h; exact SeqAt.EqAt.int_str i t y u _ _ _ _ h
  ·rcases z11 hv with ⟨j,u,rfl,rfl⟩ | ⟨y,u,rfl,rfl⟩
   ·rw [zdy] at h; exact SeqAt.EqAt.str_int x t j u _ _ _ _ h
   ·rw [zdx] at h; exact wpAny_eqBool_str h
 «strs»:=fun k x t v h=>by
  rcases z11 h with ⟨i,u,rfl,e⟩ | ⟨y,u,rfl,e⟩
  ·exact nomatch e
  ·injection e with e1 _
   subst e1
   cases v <;> rfl
theorem z72 (prog:Wi) (w:Wp) (i:Int) (t:Tok):(z1x prog w).is (.inl i) (.int i t)=true:=z9d i t
theorem z71 (prog:Wi) (w:Wp) (x:Str) (t:Tok):(z1x prog w).is (.inr x) (.str x t)=true:=z9c x t
inductive V where
 | non | bl (b:Bool) | int (i:Int) | str (x:Str) | byt (b:Array UInt8) | flt (b:UInt64) | ref (a:Addr) | ty (n:String)
 deriving DecidableEq
def RelV:V→Value→Prop
 | .non,u=>u=Value.none
 | .bl b,u=>u=Value.bool b
 | .int i,u=>∃ t,u=Value.int i t
 | .str x,u=>∃ t,u=Value.str x t
 | .byt b,u=>∃ t,u=Value.bytes b t
 | .flt b,u=>∃ t,u=Value.float b t
 | .ref a,u=>u=Value.ref a
 | .ty n,u=>u=Value.type n
abbrev Vals:List V→List Value→Prop:=Paired RelV
theorem Vals.length (r:Vals xs us):xs.length=us.length:=Paired.length r
theorem Vals.get:∀ {xs:List V} {us:List Value} {i:Nat} {x:V},Vals xs us→xs[i]? = some x→∃ u,us[i]? = some u∧RelV x u
 | _,_,_,_,.nil,e=>by simp at e
 | _,_,0,_,.cons r _,e=>by simp at e; subst e; exact ⟨_,rfl,r⟩
 | _,_,i + 1,x,.cons _ t,e=>by
  obtain ⟨u,h1,h2⟩:=Vals.get (i:=i) (x:=x) t (by simpa using e)
  exact ⟨u,by simpa using h1,h2⟩
theorem Vals.set (r:RelV x u):∀ {xs:List V} {us:List Value} (i:Nat),Vals xs us→Vals (xs.set i x) (us.set i u)
 | _,_,_,.nil=>.nil
 | _,_,0,.cons _ t=>.cons r t
 | _,_,i + 1,.cons q t=>.cons q (Vals.set r i t)
theorem Vals.append:∀ {xs ys:List V} {us ws:List Value},Vals xs us→Vals ys ws→Vals (xs ++ ys) (us ++ ws)
 | _,_,_,_,.nil,s=>s
 | _,_,_,_,.cons r t,s=>.cons r (Vals.append t s)
theorem Vals.take:∀ {xs:List V} {us:List Value} (n:Nat),Vals xs us→Vals (xs.take n) (us.take n)
 | _,_,0,_=>.nil
 | _,_,_ + 1,.nil=>.nil
 | _,_,n + 1,.cons r t=>.cons r (Vals.take n t)
theorem Vals.drop:∀ {xs:List V} {us:List Value} (n:Nat),Vals xs us→Vals (xs.drop n) (us.drop n)
 | _,_,0,r=>r
 | _,_,_ + 1,.nil=>.nil
 | _,_,n + 1,.cons _ t=>Vals.drop n t
def RelO:Option V→Option Value→Prop
 | some v,some u=>RelV v u
 | none,none=>True
 | _,_=>False
def KV {κ:Type}:List (κ×V)→List (κ×Value)→Prop:=Paired fun (p:κ×V) (q:κ×Value)=>p.1=q.1∧RelV p.2 q.2
def kV:Key→V
 | .inl i=>.int i
 | .inr x=>.str x
inductive HO where
  | lst (xs:List V)
  | tup (xs:List V)
  | dK (kvs:List (Key×V)) | dT (kvs:List (List Key×V))
  | set (S:Int→Bool) (n:Nat)
  | ins (C dx:Addr) (fs:List (Str×V))
  | own (x:Addr)
  | xd (fs:List (Str×V))
  | met (f x:Addr)
  | rng (lo hi:Int)
  | frz (o:Obj) (u:HO)
  | tbl (ps:Array Value)
  | ext (φ:Heap→Prop)
abbrev Hp:=Addr→Option HO
def upd (H:Hp) (a:Addr) (o:HO):Hp:=fun b=>if b=a then some o else H b
theorem z0B:upd H a o a=some o:=by unfold upd; rw [if_pos rfl]
theorem z0n (h:b≠a):upd H a o b=H b:=by unfold upd; rw [if_neg h]
theorem zbp:upd (upd H a o) a u=upd H a u:=by
 funext b; unfold upd; split <;> rfl
theorem ne_of {H:Hp} {a b:Addr} {o u:HO} (h:H a=some o) (h':H b=some u) (d:o≠u):a≠b:=by
 intro e; subst e; rw [h] at h'; exact d (Wu h')
theorem z0I {H:Hp} {a b:Addr} {o:HO} (h:H a=some o) (h':H b=none):a≠b:=by
 intro e; subst e; rw [h] at h'; cases h'
def IsTupN (h:Heap) (a:Addr) (its:Array Value):Prop:=∃ n,h.get? a=some { cls:=.type "tuple",dict:=none,data:=.seq its n,slots:=#[] }
theorem IsTupN.tup (x:IsTupN h a its):IsTup h a its:=let ⟨n,e⟩:=x; ⟨_,e,rfl,n,rfl⟩
theorem IsTupN.new (h:Heap) (its:Array Value):IsTupN (h.push { cls:=.type "tuple",data:=.seq its }) h.objs.size its:=⟨_,Wr _ rfl⟩
theorem IsTupN.lt (x:IsTupN h a its):a < h.objs.size:=let ⟨_,e⟩:=x; Wf e
section
variable (P:Wi) (w:Wp)
def ObjOk (H:Hp) (h:Heap) (a:Addr):HO→Prop
 | .lst xs=>xs.length≤W6∧∃ (its:List Value) (n:Nat),Vals xs its∧h.get? a=some { cls:=.type "list",data:=.seq its.toArray n }
 | .tup xs=>xs.length≤W6∧∃ its:List Value,Vals xs its∧IsTupN h a its.toArray
 | .dK kvs=>kvs.length≤W6∧(a == QC)=false∧∃ vs,KV kvs vs∧h.DictOf (z1x P w) a vs
 | .dT kvs=>kvs.length≤W6∧(a == QC)=false∧∃ xs:List (List Key×Addr×Value),
   Paired (fun (p:List Key×V) (q:List Key×Addr×Value)=>p.1=q.1∧H q.2.1=some (.tup (p.1.map kV))∧RelV p.2 q.2.2) kvs xs ∧
   ∃ o es ep,h.get? a=some o∧o.ExactDict∧o.data = .dict es ep∧es.toList=xs.map (entryOfKey (tupleKind (z1x P w)))∧(xs.map (·.1)).Nodup
 | .set S n=>h.SetOf (intKind P w) a S n
 | .ins C dx fs=>H dx=some (.own a)∧fs.length≤1000∧dx≠a∧h.get? a=some (PySem.W.instObj C dx) ∧
   ∃ mA,h.Ns1 dx mA∧(∀ f,RelO (fs.lookup f) (mA f))∧PySem.Within mA (fs.map (·.1))
 | .own _=>∃ o,h.get? a=some o
 | .xd fs=>∃ mA,h.Ns1 a mA∧∀ f,RelO (fs.lookup f) (mA f)
 | .rng lo hi=>∃ t u v,h.get? a=some { cls:=.type "range",data:=.fields #[.int lo t,.int hi u,.int 1 v] }
 | .frz o u=>h.get? a=some o∧ObjOk H h a u
 | .tbl ps=>h.get? a=some { cls:=.none,data:=.fields ps }
 | .met f x=>h.get? a=some (PySem.W.methodObj (.ref f) (.ref x))
 | .ext φ=>φ h∧(∃ o,h.get? a=some o)∧∀ h1 h2:Heap,φ h1→(∀ o,h1.get? a=some o→h2.get? a=some o)→φ h2
def HOk (H:Hp) (h:Heap):Prop:=∀ a o,H a=some o→ObjOk P w H h a o
end
section
variable {P:Wi} {w:Wp} {H H':Hp} {h h':Heap} {a:Addr} {o:HO}
theorem ObjOk.lt (x:ObjOk P w H h a o):a < h.objs.size:=by
 cases o with
 | lst xs=>obtain ⟨_,_,_,_,e⟩:=x; exact Wf e
 | tup xs=>obtain ⟨_,_,_,p⟩:=x; exact p.lt
 | dK kvs=>obtain ⟨_,_,_,_,o,_,_,e,_⟩:=x; exact Wf e
 | dT kvs=>obtain ⟨_,_,_,_,o,_,_,e,_⟩:=x; exact Wf e
 | set S n=>obtain ⟨o,_,_,_,e,_⟩:=x; exact Wf e
 | ins C dx fs=>obtain ⟨_,_,_,e,_⟩:=x; exact Wf e
 | own y=>obtain ⟨_,e⟩:=x; exact Wf e
 | xd fs=>obtain ⟨_,⟨_,_,_,e,_⟩,_⟩:=x; exact Wf e
 | rng lo hi=>obtain ⟨_,_,_,e⟩:=x; exact Wf e
 | frz ob u=>obtain ⟨e,_⟩:=x; exact Wf e
 | tbl ps=>exact Wf (show h.get? a=some _ from x)
 | met f y=>exact Wf (show h.get? a=some _ from x)
 | ext φ=>obtain ⟨_,⟨_,e⟩,_⟩:=x; exact Wf e
theorem Paired.mapP:∀ {l₁:List α} {l₂:List β},Paired F l₁ l₂→(∀ a b,F a b→G a b)→Paired G l₁ l₂
 | _,_,.nil,_=>.nil
 | _,_,.cons r t,f=>.cons (f _ _ r) (Paired.mapP t f)
theorem ObjOk.stay (x:ObjOk P w H h a o) (k:∀ b u,(b=a∨H b=some (.own a))→h.get? b=some u→h'.get? b=some u)
  (ho:∀ b,H b=some (.own a)→H' b=some (.own a)) (ht:∀ b xs,H b=some (.tup xs)→H' b=some (.tup xs)):ObjOk P w H' h' a o:=by
 induction o with
 | lst xs=>obtain ⟨z,its,n,r,e⟩:=x; exact ⟨z,its,n,r,k _ _ (.inl rfl) e⟩
 | tup xs=>obtain ⟨z,its,r,n,e⟩:=x; exact ⟨z,its,r,n,k _ _ (.inl rfl) e⟩
 | dK kvs=>obtain ⟨z,y,vs,r,ob,es,ep,e,c⟩:=x; exact ⟨z,y,vs,r,ob,es,ep,k _ _ (.inl rfl) e,c⟩
 | dT kvs =>
  obtain ⟨z,y,xs,r,ob,es,ep,e,c⟩:=x
  exact ⟨z,y,xs,Paired.mapP r fun p q z=>⟨z.1,ht _ _ z.2.1,z.2.2⟩,ob,es,ep,k _ _ (.inl rfl) e,c⟩
 | set S n=>obtain ⟨ob,es,ep,t,e,c⟩:=x; exact ⟨ob,es,ep,t,k _ _ (.inl rfl) e,c⟩
 | ins C dx fs =>
  obtain ⟨d,z,ne,e,mA,⟨od,es,ep,e2,c⟩,r⟩:=x
  exact ⟨ho _ d,z,ne,k _ _ (.inl rfl) e,mA,⟨od,es,ep,k _ _ (.inr d) e2,c⟩,r⟩
 | own y=>obtain ⟨ob,e⟩:=x; exact ⟨ob,k _ _ (.inl rfl) e⟩
 | xd fs=>obtain ⟨mA,⟨od,es,ep,e,c⟩,r⟩:=x; exact ⟨mA,⟨od,es,ep,k _ _ (.inl rfl) e,c⟩,r⟩
 | rng lo hi=>obtain ⟨t,u,v,e⟩:=x; exact ⟨t,u,v,k _ _ (.inl rfl) e⟩
 | frz ob u ih=>obtain ⟨e,q⟩:=x; exact ⟨k _ _ (.inl rfl) e,ih q⟩
 | tbl ps =>
  have e:h.get? a=some { cls:=.none,data:=.fields ps }:=x
  show h'.get? a=some { cls:=.none,data:=.fields ps }
  exact k a _ (.inl rfl) e
 | met f y =>
  have e:h.get? a=some (PySem.W.methodObj (.ref f) (.ref y)):=x
  show h'.get? a=some (PySem.W.methodObj (.ref f) (.ref y))
  exact k a _ (.inl rfl) e
 | ext φ=>obtain ⟨p,⟨o,e⟩,st⟩:=x; exact ⟨st _ _ p fun o q=>k _ _ (.inl rfl) q,⟨o,k _ _ (.inl rfl) e⟩,st⟩
theorem HOk.lt (x:HOk P w H h) (e:H a=some o):a < h.objs.size:=(x a o e).lt
theorem HOk.fresh (x:HOk P w H h) (e:h.objs.size≤a):H a=none:=by
 cases q:H a with
 | none=>rfl
 | some u=>exact absurd (Wt (x.lt q) e) (WV _)
theorem HOk.kept (x:HOk P w H h) (k:∀ b u,h.get? b=some u→h'.get? b=some u):HOk P w H h':=fun a o e =>
 (x a o e).stay (fun b u _ q=>k b u q) (fun _ q=>q) fun _ _ q=>q
theorem HOk.laid (x:HOk P w H h) (k:∀ b u,h.get? b=some u→h'.get? b=some u) (hp:h.objs.size≤a) (new:ObjOk P w (upd H a o) h' a o):HOk P w (upd H a o) h':=fun b u e=>by
 have hn:=x.fresh hp
 by_cases hb:b=a
 ·subst hb; rw [z0B] at e; cases e; exact new
 ·rw [z0n hb] at e
  exact (x b u e).stay (fun c v _ q=>k c v q) (fun c q=>by rw [z0n (z0I q hn)]; exact q) fun c xs q=>by rw [z0n (z0I q hn)]; exact q
end
def Rd (H:Hp) (a:Addr) (u:HO):Prop:=H a=some u∨∃ o,H a=some (.frz o u)
theorem Rd.of (h:H a=some u):Rd H a u:=.inl h
theorem Rd.ok (r:Rd H a u) (x:HOk P w H h):ObjOk P w H h a u:=by
 rcases r with r | ⟨o,r⟩
 ·exact x a u r
 ·obtain ⟨_,q⟩:=x a _ r
  exact q
def Mut:Option HO→Prop
 | some (.lst _)=>True
 | some (.dK _)=>True
 | some (.dT _)=>True
 | some (.set _ _)=>True
 | some (.ins _ _ _)=>True
 | some (.ext _)=>True
 | _=>False
section
variable {P:Wi} {w:Wp} {H:Hp} {h h':Heap} {x e:Addr} {o':HO}
theorem HOk.write (ok:HOk P w H h) (mu:Mut (H x)) (he:e=x∨H e=some (.own x)) (k:∀ b u,b≠e→h.get? b=some u→h'.get? b=some u) (heo:∃ u,h'.get? e=some u)
  (new:ObjOk P w (upd H x o') h' x o'):HOk P w (upd H x o') h':=fun b u q=>by
 have nown:∀ c y,H c=some (.own y)→c≠x:=fun c y r z=>by subst z; rw [r] at mu; exact mu
 have ntup:∀ c xs,H c=some (.tup xs)→c≠x:=fun c xs r z=>by subst z; rw [r] at mu; exact mu
 by_cases hb:b=x
 ·subst hb; rw [z0B] at q; cases q; exact new
 ·rw [z0n hb] at q
  by_cases hbe:b=e
  ·have q':H b=some (.own x):=by
    rcases he with z | z
    ·exact absurd (hbe.trans z) hb
    ·rw [hbe]; exact z
   rw [q] at q'; cases q'
   obtain ⟨v,hv⟩:=heo
   exact ⟨v,by rw [hbe]; exact hv⟩
  ·refine (ok b u q).stay (fun c v hc r=>k c v ?_ r) (fun c r=>by rw [z0n (nown c b r)]; exact r) fun c xs r=>by rw [z0n (ntup c xs r)]; exact r
   rcases hc with rfl | hc
   ·exact hbe
   ·rintro rfl
    rcases he with z | z
    ·exact nown c b hc z
    ·rw [hc] at z; cases z; exact hb rfl
end
structure Un (fs ex:List Addr) (H H':Hp) (h h':Heap):Prop where
 keep:∀ b o,h.get? b=some o→H b=none→b ∉ fs→b ∉ ex→h'.get? b=some o
 slot:∀ b o,h.get? b=some o→H b=none→b ∈ fs→b ∉ ex→∃ sl,h'.get? b=some { o with slots:=sl }
 free:∀ b o,h.get? b=some o→H b=none→b ∉ ex→H' b=none
 there:∀ b o,h.get? b=some o→b ∉ ex→∃ o',h'.get? b=some o'
 tups:∀ b xs,H b=some (.tup xs)→H' b=some (.tup xs)
 frzs:∀ b o u,H b=some (.frz o u)→H' b=some (.frz o u)
 tbls:∀ b ps,H b=some (.tbl ps)→∃ more,H' b=some (.tbl (ps ++ more))
section
variable {fs fs' ex ex':List Addr} {H H1 H2:Hp} {h h1 h2 h':Heap} {a x e:Addr} {o:HO}
theorem Un.any (u:Un fs ex H H1 h h1) (q:h.get? b=some ob) (n:H b=none) (hx:b ∉ ex):∃ sl,h1.get? b=some { ob with slots:=sl }:=by
 by_cases hb:b ∈ fs
 ·exact u.slot b ob q n hb hx
 ·exact ⟨ob.slots,u.keep b ob q n hb hx⟩
theorem Un.trans (a:Un fs ex H H1 h h1) (b:Un fs ex H1 H2 h1 h2):Un fs ex H H2 h h2 where
 keep:=fun c ob q n hc hx=>b.keep c ob (a.keep c ob q n hc hx) (a.free c ob q n hx) hc hx
 slot:=fun c ob q n hc hx=>by
  obtain ⟨sl,e1⟩:=a.slot c ob q n hc hx
  obtain ⟨sl',e2⟩:=b.slot c _ e1 (a.free c ob q n hx) hc hx
  exact ⟨sl',e2⟩
 free:=fun c ob q n hx=>by
  obtain ⟨o',e1⟩:=a.there c ob q hx
  exact b.free c o' e1 (a.free c ob q n hx) hx
 there:=fun c ob q hx=>by
  obtain ⟨o',e1⟩:=a.there c ob q hx
  exact b.there c o' e1 hx
 tups:=fun c xs q=>b.tups c xs (a.tups c xs q)
 frzs:=fun c ob xs q=>b.frzs c ob xs (a.frzs c ob xs q)
 tbls:=fun c ps q=>by
  obtain ⟨m1,e1⟩:=a.tbls c ps q
  obtain ⟨m2,e2⟩:=b.tbls c _ e1
  exact ⟨m1 ++ m2,by rw [e2,Array.append_assoc]⟩
theorem Un.kept (k:∀ b u,h.get? b=some u→h'.get? b=some u):Un fs ex H H h h' :=
 ⟨fun b ob q _ _ _=>k b ob q,fun b ob q _ _ _=>⟨ob.slots,k b ob q⟩,fun _ _ _ n _=>n,fun b ob q _=>⟨ob,k b ob q⟩,fun _ _ q=>q,fun _ _ _ q=>q,fun _ ps q=>⟨#[],by rw [q]; simp⟩⟩
theorem Un.refl:Un fs ex H H h h:=Un.kept fun _ _ q=>q
theorem Un.laid (k:∀ b u,h.get? b=some u→h'.get? b=some u) (hp:h.objs.size≤a) (hn:H a=none):Un fs ex H (upd H a o) h h' where
 keep:=fun b u q _ _ _=>k b u q
 slot:=fun b u q _ _ _=>⟨u.slots,k b u q⟩
 free:=fun b u q n _=>by rw [z0n (WN (Wt (Wf q) hp))]; exact n
 there:=fun b u q _=>⟨u,k b u q⟩
 tups:=fun b xs q=>by rw [z0n (z0I q hn)]; exact q
 frzs:=fun b u xs q=>by rw [z0n (z0I q hn)]; exact q
 tbls:=fun b ps q=>⟨#[],by rw [z0n (z0I q hn),q]; simp⟩
theorem Un.write (mu:Mut (H x)) (he:e=x∨H e=some (.own x)) (k:∀ b u,b≠e→h.get? b=some u→h'.get? b=some u) (heo:∃ u,h'.get? e=some u):Un fs ex H (upd H x o) h h':=by
 have hx:∀ b,H b=none→b≠x:=fun b n z=>by subst z; rw [n] at mu; exact mu
 have hb:∀ b,H b=none→b≠e:=fun b n z=>by
  subst z
  rcases he with r | r
  ·exact hx b n r
  ·rw [n] at r; cases r
 have hm:∀ b u,H b=some u→¬ Mut (some u)→b≠x:=fun b u q nm z=>by subst z; rw [q] at mu; exact nm mu
 refine ⟨fun b u q n _ _=>k b u (hb b n) q,fun b u q n _ _=>⟨u.slots,k b u (hb b n) q⟩,fun b u q n _=>by rw [z0n (hx b n)]; exact n,fun b u q _=>?_,
  fun b xs q=>by rw [z0n (hm b _ q fun z=>z)]; exact q,fun b u xs q=>by rw [z0n (hm b _ q fun z=>z)]; exact q,fun b ps q=>⟨#[],by rw [z0n (hm b _ q fun z=>z),q]; simp⟩⟩
 by_cases hbe:b=e
 ·subst hbe; exact heo
 ·exact ⟨u,k b u hbe q⟩
theorem Un.mono (u:Un fs ex H H1 h h1) (hs:∀ b ∈ fs,b ∈ fs') (hx:∀ b ∈ ex,b ∈ ex'):Un fs' ex' H H1 h h1 :=
 ⟨fun b ob q n hb he=>u.keep b ob q n (fun z=>hb (hs b z)) fun z=>he (hx b z),fun _ _ q n _ he=>u.any q n fun z=>he (hx _ z),fun b ob q n he=>u.free b ob q n fun z=>he (hx b z),fun b ob q he=>u.there b ob q fun z=>he (hx b z),u.tups,u.frzs,u.tbls⟩
end
def trk (h:Heap) (H:Hp):List Addr:=(WS h.objs.size).filter fun a=>(H a).isSome
def hidT (h:Heap) (H:Hp):Heap:=PySem.W.hideAll h (trk h H)
theorem z9k (h:Heap) (H:Hp):(hidT h H).objs.size=h.objs.size:=PySem.W.hideAll_size _ _
theorem zaw (e:h.get? b=some o) (n:H b=none):(hidT h H).get? b=some o :=
 PySem.W.hideAll_get _ e fun hm=>by
  have q:(H b).isSome=true:=(List.mem_filter.mp hm).2
  rw [n] at q; simp at q
theorem zc2 (e:(hidT h H).get? b=some o):h.get? b=some o∧H b=none:=by
 have e':h.get? b=some o:=PySem.W.of_hideAll (trk h H) e
 refine ⟨e',?_⟩
 cases q:H b with
 | none=>rfl
 | some x =>
  have hm:b ∈ trk h H:=List.mem_filter.mpr ⟨List.mem_range.mpr (Wf e'),by simp [q]⟩
  have z:(hidT h H).get? b=none:=PySem.W.hideAll_none (trk h H) hm
  rw [z] at e; cases e
def zct (g h:Heap) (L:Addr):List (Addr×Obj):=(WS h.objs.size).filterMap fun a=>if a=L∨(g.get? a).isSome=true then none else (h.get? a).map fun o=>(a,o)
def rest (g h:Heap) (L d:Addr):List (Addr×Obj):=(zct g h L).filter fun p=>decide (p.1≠d)
structure Mod (K:W0) (mg:Str→Option Value) (base:Heap):Prop where
 kin:K.In base
 glob:base.Ns Wm mg
 blt:∃ mb,base.Ns builtinsNs mb∧∀ x:Str,x≠"__name__"→mb x=WW x
 nolimit:base.NoLimit
structure Cx where
 prog:Wi
 w:Wp
 K:W0
 mg:Str→Option Value
 base:Heap
 A:Wn
 N:List Str
 s₀:W1
 H₀:Hp
 env:Env
 outer:List Env
 stack:List Env
 ex:List Addr
 fn:Str→Bool
 calm:Bool
 pn:List (Addr×Obj)
 xe:Value→W1→Prop
def frs (l:List Env):List Addr:=l.filterMap (·.frame)
abbrev Cx.fs (X:Cx):List Addr:=frs X.outer
def Vis (sc:Scope) (x:Str):Prop:=sc.names.lookup x=some .local∨sc.names.lookup x=some .cell∨sc.names.lookup x=some .free
def Loc (sc:Scope) (x:Str):Prop:=sc.names.lookup x=some .local∨sc.names.lookup x=some .cell
def Look (env:Env) (h:Heap) (m:Str→Option Value) (x:Str) (u:Value):Prop :=
 (env.kindOf x=some .local∧m x=some u)∨((env.kindOf x=some .cell∨env.kindOf x=some .free)∧∃ c,env.cells.lookup x=some c∧h.IsCell c (some u))
structure Cx.Ok (X:Cx):Prop where
 mod:Mod X.K X.mg X.base
 kind:X.env.scope.kind = .function
 glob:X.env.globals=Wm
 blt:X.env.builtins=builtinsNs
 above:X.s₀.heap.objs.size≤X.env.locals
 inj:∀ x y c,X.env.cells.lookup x=some c→X.env.cells.lookup y=some c→x=y
 has:∀ x,(X.env.kindOf x=some .cell∨X.env.kindOf x=some .free)→∃ c,X.env.cells.lookup x=some c
 cab:∀ x c,X.fn x=true→X.env.cells.lookup x=some c→X.s₀.heap.objs.size≤c
 hd:X.calm=true→X.A.handled=none
 frames:X.A.frames=some X.stack
 stk:X.stack=X.outer∨(X.stack=X.env :: X.outer∧X.env.frame=some X.env.locals)
 exf:∀ b ∈ X.ex,b≠X.env.locals∧∀ x c,X.env.cells.lookup x=some c→c≠b
 bs:∀ b o,X.base.get? b=some o→X.s₀.heap.get? b=some o∧X.H₀ b=none
 bsz:X.base.objs.size≤X.s₀.heap.objs.size
 noex:∀ b o,X.base.get? b=some o→b ∉ X.ex
 exfs:∀ b ∈ X.ex,b ∉ X.fs
 funs:X.s₀.heap.FunFrames X.base X.outer
 frf:∀ b ∈ X.fs,X.H₀ b=none
structure Inv (X:Cx) (pins:List (Addr×Obj)) (σ:List (Option V)) (H:Hp) (s:W1):Prop where
 ok:X.Ok
 os:s.os=X.s₀.os
 bare:AllBare s.gens
 base:Un X.fs X.ex X.H₀ H X.s₀.heap s.heap
 loc:∃ m,s.heap.Ns X.env.locals m∧∀ (i:Nat) (x:Str) (v:V),X.N[i]? = some x→σ[i]? = some (some v)→Vis X.env.scope x→∃ u,RelV v u∧Look X.env s.heap m x u
 cell:∀ x c,X.env.cells.lookup x=some c→∃ v,s.heap.IsCell c v
 free:H X.env.locals=none
 freeC:∀ x c,X.env.cells.lookup x=some c→H c=none
 pin:∀ p ∈ X.pn ++ pins,s.heap.get? p.1=some p.2∧H p.1=none∧p.1≠X.env.locals∧p.1 ∉ X.fs∧∀ v,p.2.data≠.cell v
 hok:HOk X.prog X.w H s.heap
 len:σ.length=X.N.length
section
variable {X:Cx} {pins:List (Addr×Obj)} {σ:List (Option V)} {H H':Hp} {s:W1} {h':Heap}
theorem Cx.Ok.nofr (ok:X.Ok) (e:X.base.get? b=some o):b ∉ X.fs:=fun hb=>by
 have:=(ok.funs.mem hb).1
 rw [e] at this; cases this
theorem Inv.bs (I:Inv X pins σ H s):∀ b o,X.base.get? b=some o→s.heap.get? b=some o∧H b=none:=fun b o e =>
 ⟨I.base.keep b o (I.ok.bs b o e).1 (I.ok.bs b o e).2 (I.ok.nofr e) (I.ok.noex b o e),I.base.free b o (I.ok.bs b o e).1 (I.ok.bs b o e).2 (I.ok.noex b o e)⟩
theorem Inv.bk (I:Inv X pins σ H s):∀ b o,X.base.get? b=some o→s.heap.get? b=some o:=fun b o e=>(I.bs b o e).1
theorem Inv.mod (I:Inv X pins σ H s):Mod X.K X.mg X.base:=I.ok.mod
theorem Inv.kIn (I:Inv X pins σ H s):X.K.In s.heap:=I.ok.mod.kin.keeps I.bk
theorem Inv.nolimit (I:Inv X pins σ H s):s.heap.NoLimit:=I.ok.mod.nolimit.keeps I.bk
theorem Inv.fr (I:Inv X pins σ H s):∃ m,Fr X.base X.env.locals s.heap m :=
 let ⟨m,hn,_⟩:=I.loc
 ⟨m,hn,I.bk,Q0 I.ok.bsz I.ok.above⟩
theorem Inv.lt (I:Inv X pins σ H s):X.env.locals < s.heap.objs.size:=let ⟨_,hn,_⟩:=I.loc; hn.lt
theorem Inv.sz (I:Inv X pins σ H s):X.s₀.heap.objs.size≤s.heap.objs.size:=Q0 I.ok.above (Jg I.lt)
theorem Inv.nofs (I:Inv X pins σ H s) (h:s.heap.objs.size≤a):a ∉ X.fs:=fun hb=>by
 obtain ⟨_,o,ho,_⟩:=I.ok.funs.mem hb
 exact absurd (Wt (Wf ho) (Q0 I.sz h)) (WV _)
theorem Inv.cne (I:Inv X pins σ H s):∀ x c,X.env.cells.lookup x=some c→c≠X.env.locals:=fun x c e z=>by
 obtain ⟨v,o,ho,hd⟩:=I.cell x c e
 obtain ⟨m,⟨o',es,ep,ho',hd',_⟩,_⟩:=I.loc
 rw [z,ho'] at ho; cases ho; rw [hd'] at hd; cases hd
theorem Inv.funs (I:Inv X pins σ H s):s.heap.FunFrames X.base X.outer:=by
 have all:∀ (l:List Env),(∀ b ∈ frs l,b ∈ X.fs)→X.s₀.heap.FunFrames X.base l→s.heap.FunFrames X.base l:=by
  intro l
  induction l with
  | nil=>intro _ _; trivial
  | cons env r ih =>
   intro hs hl
   obtain ⟨hk,⟨L,o,hf,hn,ho,hd⟩,hr⟩:=hl
   have hL:L ∈ X.fs:=hs L (by unfold frs; rw [List.filterMap_cons,hf]; exact Wo)
   obtain ⟨sl,e⟩:=I.base.slot L o ho (I.ok.frf L hL) hL fun z=>I.ok.exfs L z hL
   exact ⟨hk,⟨L,_,hf,hn,e,hd⟩,ih (fun b hb=>hs b (by unfold frs; rw [List.filterMap_cons,hf]; exact Wj _ hb)) hr⟩
 exact all X.outer (fun _ hb=>hb) I.ok.funs
theorem Inv.stack (I:Inv X pins σ H s):s.heap.FunFrames X.base X.stack:=by
 rcases I.ok.stk with e | ⟨e,hf⟩
 ·rw [e]; exact I.funs
 ·rw [e]
  obtain ⟨m,hn,_⟩:=I.loc
  refine .cons (by rw [I.ok.kind]; decide) hf hn ?_ I.funs
  exact Heap.get?_none_of_le (Q0 I.ok.bsz I.ok.above)
theorem Inv.stkSub (I:Inv X pins σ H s):∀ b ∈ frs X.stack,b ∈ X.env.locals :: X.fs:=fun b hb=>by
 rcases I.ok.stk with e | ⟨e,hf⟩
 ·rw [e] at hb; exact Wj _ hb
 ·rw [e] at hb
  unfold frs at hb
  rw [List.filterMap_cons,hf] at hb
  exact hb
theorem Inv.stkFree (I:Inv X pins σ H s):∀ b ∈ frs X.stack,H b=none:=fun b hb=>by
 rcases Wh.mp (I.stkSub b hb) with e | hb
 ·rw [e]; exact I.free
 ·obtain ⟨_,o,ho,_⟩:=I.ok.funs.mem hb
  exact I.base.free b o ho (I.ok.frf b hb) fun z=>I.ok.exfs b z hb
theorem Inv.step {g':Array GenState} {t':Nat} {d':Drawn} {ch:List Addr} (I:Inv X pins σ H s)
  (hch:∀ b ∈ ch,(b ∈ X.ex∨X.s₀.heap.objs.size≤b)∧b≠X.env.locals∧(∀ x c,X.env.cells.lookup x=some c→c≠b)∧∀ p ∈ X.pn ++ pins,p.1≠b)
  (keep:∀ b o,b≠X.env.locals→b ∉ X.fs→b ∉ ch→s.heap.get? b=some o→H b=none→h'.get? b=some o)
  (slot:∀ b o,b≠X.env.locals→b ∈ X.fs→b ∉ ch→s.heap.get? b=some o→H b=none→∃ sl,h'.get? b=some { o with slots:=sl }) (free:∀ b o,b ∉ ch→s.heap.get? b=some o→H b=none→H' b=none)
  (there:∀ b o,b ∉ ch→s.heap.get? b=some o→∃ o',h'.get? b=some o')
  (tups:∀ b xs,H b=some (.tup xs)→H' b=some (.tup xs)) (frzs:∀ b o u,H b=some (.frz o u)→H' b=some (.frz o u)) (tbls:∀ b ps,H b=some (.tbl ps)→∃ more,H' b=some (.tbl (ps ++ more)))
  (ns:∀ m,s.heap.Ns X.env.locals m→h'.Ns X.env.locals m) (hok:HOk X.prog X.w H' h') (hg:AllBare g') :
  Inv X pins σ H' { s with heap:=h',gens:=g',drawn:=d',toks:=t' }:=by
 have neL:∀ b o,X.s₀.heap.get? b=some o→b≠X.env.locals:=fun b o e=>WN (Wt (Wf e) I.ok.above)
 have neC:∀ b o,X.s₀.heap.get? b=some o→b ∉ X.ex→b ∉ ch:=fun b o e hx hb=>by
  rcases (hch b hb).1 with z | z
  ·exact hx z
  ·exact absurd (Wt (Wf e) z) (WV _)
 have cellK:∀ x c,X.env.cells.lookup x=some c→∀ v,s.heap.IsCell c v→h'.IsCell c v:=fun x c e v ⟨o,ho,hd⟩=>by
  have nch:c ∉ ch:=fun z=>(hch c z).2.2.1 x c e rfl
  by_cases hc:c ∈ X.fs
  ·obtain ⟨sl,q⟩:=slot c o (I.cne x c e) hc nch ho (I.freeC x c e)
   exact ⟨_,q,hd⟩
  ·exact ⟨o,keep c o (I.cne x c e) hc nch ho (I.freeC x c e),hd⟩
 refine ⟨I.ok,I.os,hg,⟨fun b o e n hb hx=>?_,fun b o e n hb hx=>?_,fun b o e n hx=>?_,fun b o e hx=>?_,fun b xs e=>tups b xs (I.base.tups b xs e),fun b o xs e=>frzs b o xs (I.base.frzs b o xs e),fun b ps e=>?_⟩,?_,fun x c e=>?_,?_,fun x c e=>?_,fun p hp=>?_,hok,I.len⟩
 ·exact keep b o (neL b o e) hb (neC b o e hx) (I.base.keep b o e n hb hx) (I.base.free b o e n hx)
 ·obtain ⟨sl,e1⟩:=I.base.slot b o e n hb hx
  obtain ⟨sl',e2⟩:=slot b _ (neL b o e) hb (neC b o e hx) e1 (I.base.free b o e n hx)
  exact ⟨sl',e2⟩
 ·obtain ⟨o',e1⟩:=I.base.there b o e hx
  exact free b o' (neC b o e hx) e1 (I.base.free b o e n hx)
 ·obtain ⟨o',e1⟩:=I.base.there b o e hx
  exact there b o' (neC b o e hx) e1
 ·obtain ⟨m1,e1⟩:=I.base.tbls b ps e
  obtain ⟨m2,e2⟩:=tbls b _ e1
  exact ⟨m1 ++ m2,by rw [e2,Array.append_assoc]⟩
 ·obtain ⟨m,hn,hl⟩:=I.loc
  refine ⟨m,ns m hn,fun i x v e1 e2 e3=>?_⟩
  obtain ⟨u,r,l⟩:=hl i x v e1 e2 e3
  refine ⟨u,r,?_⟩
  rcases l with l | ⟨k,c,e,z⟩
  ·exact .inl l
  ·exact .inr ⟨k,c,e,cellK x c e _ z⟩
 ·obtain ⟨v,z⟩:=I.cell x c e
  exact ⟨v,cellK x c e v z⟩
 ·obtain ⟨m,⟨o,_,_,ho,_⟩,_⟩:=I.loc
  exact free _ o (fun z=>(hch _ z).2.1 rfl) ho I.free
 ·obtain ⟨v,o,ho,hd⟩:=I.cell x c e
  exact free c o (fun z=>(hch c z).2.2.1 x c e rfl) ho (I.freeC x c e)
 ·obtain ⟨e,n,ne,nf,d⟩:=I.pin p hp
  have nch:p.1 ∉ ch:=fun z=>(hch p.1 z).2.2.2 p hp rfl
  exact ⟨keep p.1 p.2 ne nf nch e n,free p.1 p.2 nch e n,ne,nf,d⟩
theorem Inv.un {t':Nat} (I:Inv X pins σ H s) (u:Un X.fs [] H H' s.heap h') (hok:HOk X.prog X.w H' h'):Inv X pins σ H' { s with heap:=h',toks:=t' }:=by
 obtain ⟨m,⟨o,es,ep,ho,r⟩,_⟩:=id I.loc
 obtain ⟨sl,hL⟩:=u.any ho I.free (by simp)
 exact I.step (g':=s.gens) (d':=s.drawn) (ch:=[]) (fun _ z=>nomatch z) (fun b o _ hb _ e n=>u.keep b o e n hb (by simp)) (fun b o _ hb _ e n=>u.slot b o e n hb (by simp)) (fun b o _ e n=>u.free b o e n (by simp)) (fun b o _ e=>u.there b o e (by simp)) u.tups u.frzs u.tbls (fun m' hm=>by
  obtain ⟨o',es',ep',ho',r'⟩:=hm
  rw [ho] at ho'; cases ho'
  exact ⟨_,es',ep',hL,r'⟩) hok I.bare
theorem Inv.call {g':Array GenState} {t':Nat} {d':Drawn} {ch:List Addr} (I:Inv X pins σ H s) (u:Un (frs X.stack) ch H H' s.heap h') (hok:HOk X.prog X.w H' h') (hg:AllBare g')
  (hch:∀ b ∈ ch,(b ∈ X.ex∨X.s₀.heap.objs.size≤b)∧b≠X.env.locals∧(∀ x c,X.env.cells.lookup x=some c→c≠b)∧∀ p ∈ X.pn ++ pins,p.1≠b) :
  Inv X pins σ H' { s with heap:=h',gens:=g',drawn:=d',toks:=t' }:=by
 obtain ⟨m,⟨o,es,ep,ho,r⟩,_⟩:=id I.loc
 obtain ⟨sl,hL⟩:=u.any ho I.free fun z=>(hch _ z).2.1 rfl
 exact I.step (ch:=ch) hch (fun b o hL hb hc e n=>u.keep b o e n (fun z=>(Wh.mp (I.stkSub b z)).elim hL hb) hc) (fun b o _ _ hc e n=>u.any e n hc) (fun b o hc e n=>u.free b o e n hc) (fun b o hc e=>u.there b o e hc) u.tups u.frzs u.tbls (fun m' hm=>by
  obtain ⟨o',es',ep',ho',r'⟩:=hm
  rw [ho] at ho'; cases ho'
  exact ⟨_,es',ep',hL,r'⟩) hok hg
theorem Inv.turned {t':Nat} {it:Addr} (I:Inv X pins σ H s) (k:∀ b o,b≠it→s.heap.get? b=some o→h'.get? b=some o) (hn:H it=none) (hL:it≠X.env.locals)
  (h1:it ∈ X.ex∨X.s₀.heap.objs.size≤it) (h2:∀ x c,X.env.cells.lookup x=some c→c≠it) (h3:∀ p ∈ X.pn ++ pins,p.1≠it):Inv X pins σ H { s with heap:=h',toks:=t' }:=by
 have nit:∀ b u,H b=some u→b≠it:=fun b u e z=>by rw [z,hn] at e; cases e
 refine I.step (g':=s.gens) (d':=s.drawn) (ch:=[it]) (fun b hb=>?_) (fun b o _ _ hc e _=>k b o (fun z=>hc (by simp [z])) e) (fun b o _ _ hc e _=>⟨o.slots,k b o (fun z=>hc (by simp [z])) e⟩) (fun _ _ _ _ n=>n)
  (fun b o hc e=>⟨o,k b o (fun z=>hc (by simp [z])) e⟩) (fun _ _ e=>e) (fun _ _ _ e=>e) (fun b ps e=>⟨#[],by rw [e]; simp⟩) (fun m hm=>?_) (fun b u e=>?_) I.bare
 ·have e:b=it:=by simpa using hb
  subst e
  exact ⟨h1,hL,h2,h3⟩
 ·obtain ⟨o,es,ep,ho,r⟩:=hm
  exact ⟨o,es,ep,k _ o (Ne.symm hL) ho,r⟩
 ·refine (I.hok b u e).stay (fun c v hc q=>k c v ?_ q) (fun _ q=>q) fun _ _ q=>q
  rcases hc with z | z
  ·rw [z]; exact nit b u e
  ·exact nit c _ z
theorem Inv.tok (I:Inv X pins σ H s) (t:Nat):Inv X pins σ H { s with toks:=t }:=I.un (h':=s.heap) (t':=t) Un.refl I.hok
theorem Inv.kept (I:Inv X pins σ H s) (k:∀ b u,s.heap.get? b=some u→h'.get? b=some u):Inv X pins σ H { s with heap:=h',toks:=t' }:=I.un (Un.kept k) (I.hok.kept k)
theorem Inv.laid (I:Inv X pins σ H s) (k:∀ b u,s.heap.get? b=some u→h'.get? b=some u) (hp:s.heap.objs.size≤a) (new:ObjOk X.prog X.w (upd H a o) h' a o) :
  Inv X pins σ (upd H a o) { s with heap:=h',toks:=t' }:=I.un (Un.laid k hp (I.hok.fresh hp)) (I.hok.laid k hp new)
theorem Inv.write (I:Inv X pins σ H s) (mu:Mut (H x)) (he:e=x∨H e=some (.own x)) (k:∀ b u,b≠e→s.heap.get? b=some u→h'.get? b=some u) (heo:∃ u,h'.get? e=some u)
  (new:ObjOk X.prog X.w (upd H x o) h' x o):Inv X pins σ (upd H x o) { s with heap:=h',toks:=t' }:=I.un (Un.write mu he k heo) (I.hok.write mu he k heo new)
theorem Inv.weak (I:Inv X pins σ H s) (hl:σ'.length=σ.length) (w:∀ (i:Nat) v,σ'[i]? = some (some v)→σ[i]? = some (some v)):Inv X pins σ' H s :=
 ⟨I.ok,I.os,I.bare,I.base,let ⟨m,hn,hl'⟩:=I.loc; ⟨m,hn,fun i x v e1 e2 e3=>hl' i x v e1 (w i v e2) e3⟩,I.cell,I.free,I.freeC,I.pin,I.hok,hl.trans I.len⟩
theorem Inv.pins_of (I:Inv X pins σ H s) (h:∀ p ∈ pins',s.heap.get? p.1=some p.2∧H p.1=none∧p.1≠X.env.locals∧p.1 ∉ X.fs∧∀ v,p.2.data≠.cell v):Inv X pins' σ H s :=
 ⟨I.ok,I.os,I.bare,I.base,I.loc,I.cell,I.free,I.freeC,fun p hp=>(Qj.mp hp).elim (fun z=>I.pin p (QR _ z)) (h p),I.hok,I.len⟩
theorem z5G {N:List Str} (hN:N.Nodup) {i j:Nat} {x:Str} (a:N[i]? = some x) (b:N[j]? = some x):i=j:=by
 obtain ⟨h1,e1⟩:=W3.mp a
 obtain ⟨h2,e2⟩:=W3.mp b
 exact (Jd hN).mp (e1.trans e2.symm)
theorem z3a {M:Model} {A:Wn} {E:Value→W1→Prop} {i:Nat} {x:Str} {v:V} {u:Value} {Q:Unit→W1→Prop} (I:Inv X pins σ H s) (hN:X.N.Nodup) (hi:X.N[i]? = some x) (hx:Loc X.env.scope x) (r:RelV v u)
  (h:∀ s',Inv X pins (σ.set i (some v)) H s'→(∃ a,Heap.SameBut a s.heap s'.heap∧(a=X.env.locals∨X.env.cells.lookup x=some a))→Q () s') (hf:X.fn x=true∨X.env.scope.names.lookup x=some .local:=by first | exact .inl rfl | exact .inr rfl | assumption):Wa M A (storeName X.env x u) Q E s:=by
 obtain ⟨m,hn,hl⟩:=id I.loc
 have hcls:(X.env.scope.kind == .class || (X.env.scope.kind == .module && X.env.locals != X.env.globals))=false:=by rw [I.ok.kind]; rfl
 have hiσ:i < σ.length:=by rw [I.len]; exact (W3.mp hi).1
 have cne:=I.cne
 have tracked:∀ {a:Addr} {h':Heap},(∃ o,s.heap.get? a=some o∧H a=none)→Heap.SameBut a s.heap h'→HOk X.prog X.w H h':=fun {a h'} ha hs b ob e=>by
  obtain ⟨_,_,hfree⟩:=ha
  refine (I.hok b ob e).stay (fun c w' hc q=>(hs.2 c ?_).trans q) (fun _ q=>q) fun _ _ q=>q
  rintro rfl
  rcases hc with rfl | hc
  ·rw [hfree] at e; cases e
  ·rw [hfree] at hc; cases hc
 rcases hx with hk | hk
 ·refine wpAny_storeName_local hk hn (fun h' hn' hs=>?_) hcls
  obtain ⟨oL,_,_,hoL,_⟩:=id hn
  refine h _ ⟨I.ok,I.os,I.bare,⟨fun b o e n hb hx=>?_,fun b o e n hb hx=>?_,I.base.free,fun b o e hx=>?_,I.base.tups,I.base.frzs,I.base.tbls⟩,⟨_,hn',fun j y v' e1 e2 e3=>?_⟩,fun y c e=>?_,I.free,I.freeC,fun p hp=>?_,tracked ⟨oL,hoL,I.free⟩ hs,by simpa using I.len⟩ ⟨_,hs,.inl rfl⟩
  ·exact (hs.2 b (WN (Wt (Wf e) I.ok.above))).trans (I.base.keep b o e n hb hx)
  ·obtain ⟨sl,e1⟩:=I.base.slot b o e n hb hx
   exact ⟨sl,(hs.2 b (WN (Wt (Wf e) I.ok.above))).trans e1⟩
  ·obtain ⟨o',e1⟩:=I.base.there b o e hx
   exact ⟨o',(hs.2 b (WN (Wt (Wf e) I.ok.above))).trans e1⟩
  ·by_cases hj:j=i
   ·subst hj
    rw [hi] at e1; cases e1
    rw [Wl hiσ] at e2
    cases e2
    exact ⟨u,r,.inl ⟨hk,by simp⟩⟩
   ·rw [W4 (Ne.symm hj)] at e2
    obtain ⟨u',r',q⟩:=hl j y v' e1 e2 e3
    refine ⟨u',r',?_⟩
    rcases q with ⟨k,e⟩ | ⟨k,c,e,z⟩
    ·refine .inl ⟨k,?_⟩
     have:y≠x:=fun e=>hj (z5G hN e1 (e ▸ hi))
     simp [this,e]
    ·exact .inr ⟨k,c,e,z.sameBut hs (cne y c e)⟩
  ·obtain ⟨w',z⟩:=I.cell y c e
   exact ⟨w',z.sameBut hs (cne y c e)⟩
  ·obtain ⟨e,n,ne,nf,d⟩:=I.pin p hp
   exact ⟨(hs.2 p.1 ne).trans e,n,ne,nf,d⟩
 ·have hfn:X.fn x=true:=by
   rcases hf with z | z
   ·exact z
   ·rw [z] at hk; cases hk
  obtain ⟨c,hc⟩:=I.ok.has x (.inl hk)
  obtain ⟨w',z⟩:=I.cell x c hc
  refine wpAny_storeName_cell I.ok.kind hk hc z (fun h' hc' hs=>?_)
  obtain ⟨oc,hoc,hocd⟩:=id z
  refine h { s with heap:=h' } ⟨I.ok,I.os,I.bare,⟨fun b o e n hb hx=>?_,fun b o e n hb hx=>?_,I.base.free,fun b o e hx=>?_,I.base.tups,I.base.frzs,I.base.tbls⟩,⟨m,hn.sameBut hs (Ne.symm (cne x c hc)),fun j y v' e1 e2 e3=>?_⟩,fun y c' e=>?_,I.free,I.freeC,fun p hp=>?_,tracked ⟨oc,hoc,I.freeC x c hc⟩ hs,by simpa using I.len⟩ ⟨c,hs,.inr hc⟩
  ·exact (hs.2 b (WN (Wt (Wf e) (I.ok.cab x c hfn hc)))).trans (I.base.keep b o e n hb hx)
  ·obtain ⟨sl,e1⟩:=I.base.slot b o e n hb hx
   exact ⟨sl,(hs.2 b (WN (Wt (Wf e) (I.ok.cab x c hfn hc)))).trans e1⟩
  ·obtain ⟨o',e1⟩:=I.base.there b o e hx
   exact ⟨o',(hs.2 b (WN (Wt (Wf e) (I.ok.cab x c hfn hc)))).trans e1⟩
  ·by_cases hj:j=i
   ·subst hj
    rw [hi] at e1; cases e1
    rw [Wl hiσ] at e2
    cases e2
    exact ⟨u,r,.inr ⟨.inl hk,c,hc,hc'⟩⟩
   ·rw [W4 (Ne.symm hj)] at e2
    obtain ⟨u',r',q⟩:=hl j y v' e1 e2 e3
    refine ⟨u',r',?_⟩
    rcases q with q | ⟨k,c',e,z'⟩
    ·exact .inl q
    ·refine .inr ⟨k,c',e,z'.sameBut hs ?_⟩
     rintro rfl
     exact hj (z5G hN e1 (I.ok.inj _ _ _ e hc ▸ hi))
  ·by_cases hcc:c'=c
   ·subst hcc; exact ⟨_,hc'⟩
   ·obtain ⟨w2,z2⟩:=I.cell y c' e
    exact ⟨w2,z2.sameBut hs hcc⟩
  ·obtain ⟨e,n,ne,nf,d⟩:=I.pin p hp
   refine ⟨(hs.2 p.1 ?_).trans e,n,ne,nf,d⟩
   intro q
   rw [q,hoc] at e
   have q':oc=p.2:=Wu e
   exact d w' (by rw [← q']; exact hocd)
theorem z7h (I:Inv X pins σ H s) (hN:X.N.Nodup) (hi:X.N[i]? = some x) (hx:Loc X.env.scope x) (r:RelV v u)
  (h:∀ s',Inv X pins (σ.set i (some v)) H s'→Q () s') (hf:X.fn x=true∨X.env.scope.names.lookup x=some .local:=by first | exact .inl rfl | exact .inr rfl | assumption):Wa M A (storeName X.env x u) Q E s :=
 z3a I hN hi hx r (fun s' I' _=>h s' I') hf
theorem Inv.call' (I:Inv X pins σ H s) (ho:s'.os=s.os) (u:Un (frs X.stack) ch H H' s.heap s'.heap) (hok:HOk X.prog X.w H' s'.heap) (hg:AllBare s'.gens)
  (hch:∀ b ∈ ch,(b ∈ X.ex∨X.s₀.heap.objs.size≤b)∧b≠X.env.locals∧(∀ x c,X.env.cells.lookup x=some c→c≠b)∧∀ p ∈ X.pn ++ pins,p.1≠b):Inv X pins σ H' s':=by
 obtain ⟨h',g',d',t',o'⟩:=s'
 have e:o'=s.os:=ho
 subst e
 exact I.call (g':=g') (t':=t') (d':=d') u hok hg hch
end
abbrev XK:=Value→Option Addr→Hp→Prop
abbrev St:=List (Option V)
abbrev VK:=V→Hp→Prop
abbrev TE:=St→Hp→VK→Prop
abbrev TT:=St→Hp→(Bool→Hp→Prop)→Prop
abbrev TA:=St→Hp→(List V→Hp→Prop)→Prop
structure Ends where
 nx:St→Hp→Prop
 rt:VK
 bk:St→Hp→Prop:=fun _ _=>False
 ct:St→Hp→Prop:=fun _ _=>False
abbrev TS:=Ends→St→Hp→Prop
def EP (X:Cx) (pins:List (Addr×Obj)) (σ:St) (Q:VK) (u:Value) (s':W1):Prop:=∃ v H',Inv X pins σ H' s'∧RelV v u∧Q v H'
def TP (X:Cx) (pins:List (Addr×Obj)) (σ:St) (Q:Bool→Hp→Prop) (b:Bool) (s':W1):Prop:=∃ H',Inv X pins σ H' s'∧Q b H'
def AP (X:Cx) (pins:List (Addr×Obj)) (σ:St) (Q:List V→Hp→Prop) (us:List Value) (s':W1):Prop:=∃ vs H',Inv X pins σ H' s'∧Vals vs us∧Q vs H'
def SP (X:Cx) (pins:List (Addr×Obj)) (D:Ends) (f:Flow) (s':W1):Prop :=
 match f with
 | .next=>∃ σ' H',Inv X pins σ' H' s'∧D.nx σ' H'
 | .brk=>∃ σ' H',Inv X pins σ' H' s'∧D.bk σ' H'
 | .cont=>∃ σ' H',Inv X pins σ' H' s'∧D.ct σ' H'
 | .ret u=>∃ v σ' H',Inv X pins σ' H' s'∧RelV v u∧D.rt v H'
def PE (X:Cx) (e:Expr) (t:TE):Prop :=
 ∀ (pins:List (Addr×Obj)) (s:W1) (σ:St) (H:Hp) (Q:VK),Inv X pins σ H s→t σ H Q→Wa (model X.prog X.w) X.A (eval e X.env) (EP X pins σ Q) X.xe s
def PT (X:Cx) (e:Expr) (t:TT):Prop :=
 ∀ (pins:List (Addr×Obj)) (s:W1) (σ:St) (H:Hp) (Q:Bool→Hp→Prop),Inv X pins σ H s→t σ H Q→Wa (model X.prog X.w) X.A (isTrue e X.env (eval e X.env)) (TP X pins σ Q) X.xe s
def PW (X:Cx) (e:Expr) (t:TT):Prop :=
 ∀ (whole:Sem Value) (pins:List (Addr×Obj)) (s:W1) (σ:St) (H:Hp) (Q:Bool→Hp→Prop),Inv X pins σ H s→t σ H Q→Wa (model X.prog X.w) X.A (isTrue e X.env whole) (TP X pins σ Q) X.xe s
theorem PW.pt (h:PW X e t):PT X e t:=h _
def PA (X:Cx) (es:List Expr) (t:TA):Prop :=
 ∀ (pos:Pos) (pins:List (Addr×Obj)) (s:W1) (σ:St) (H:Hp) (Q:List V→Hp→Prop),Inv X pins σ H s→t σ H Q→Wa (model X.prog X.w) X.A (spliced (WK pos (W5 es X.env))) (AP X pins σ Q) X.xe s
def PS (X:Cx) (st:Stmt) (t:TS):Prop :=
 ∀ (pins:List (Addr×Obj)) (s:W1) (σ:St) (H:Hp) (D:Ends),Inv X pins σ H s→t D σ H→Wa (model X.prog X.w) X.A (exec st X.env) (SP X pins D) X.xe s
def PSs (X:Cx) (st:List Stmt) (t:TS):Prop :=
 ∀ (pins:List (Addr×Obj)) (s:W1) (σ:St) (H:Hp) (D:Ends),Inv X pins σ H s→t D σ H→Wa (model X.prog X.w) X.A (execs st X.env) (SP X pins D) X.xe s
theorem thn (h:Wa M A t Q E s) (hQ:∀ a s,Q a s→Q' a s):Wa M A t Q' E s:=WE h hQ fun _ _ x=>x
section
variable {X:Cx}
theorem bin {a b:Expr} {ta tb:TE} (ha:PE X a ta) (hb:PE X b tb) {pins:List (Addr×Obj)} {s:W1} {σ:St} {H:Hp} {R:V→V→Hp→Prop} (I:Inv X pins σ H s) (h:ta σ H fun x H1=>tb σ H1 fun y H2=>R x y H2)
  {α:Type} {Q:α→W1→Prop} {f:Value→Value→Sem α}
  (hf:∀ v u s2 x y H2,Inv X pins σ H2 s2→RelV x v→RelV y u→R x y H2→Wa (model X.prog X.w) X.A (f v u) Q X.xe s2) :
  Wa (model X.prog X.w) X.A (eval a X.env) (fun v s₁=>Wa (model X.prog X.w) X.A (eval b X.env) (fun u s₂=>Wa (model X.prog X.w) X.A (f v u) Q X.xe s₂) X.xe s₁) X.xe s:=by
 refine thn (ha pins s σ H _ I h) fun v s1 ⟨x,H1,I1,r1,q1⟩=>?_
 refine thn (hb pins s1 σ H1 _ I1 q1) fun u s2 ⟨y,H2,I2,r2,q2⟩=>?_
 exact hf v u s2 x y H2 I2 r1 r2 q2
def tVar (i:Nat):TE:=fun σ H Q=>∃ v,σ[i]? = some (some v)∧Q v H
def tC (v:V):TE:=fun _ H Q=>Q v H
theorem zd7 (hN:X.N[i]? = some x) (hv:Vis X.env.scope x) (hd:(x == ("__debug__" : Str))=false:=by decide) (hcd:(x == ("__classdict__" : Str))=false:=by decide):PE X (.Name x pos) (tVar i):=by
 intro pins s σ H Q I h
 obtain ⟨v,e,h⟩:=h
 obtain ⟨m,hn,hl⟩:=I.loc
 obtain ⟨u,r,l⟩:=hl i x v hN e hv
 have fin:EP X pins σ Q u s:=⟨v,H,I,r,h⟩
 rcases l with ⟨hk,hm⟩ | ⟨hk,c,hc,hcell⟩
 ·exact wpAny_Name (wpAny_loadName_local I.ok.kind hk hn hm fin) hd
 ·rcases hk with hk | hk
  ·exact wpAny_Name (wpAny_loadName_cell I.ok.kind hk hc hcell fin) hd
  ·exact wpAny_Name (wpAny_loadName_free I.ok.kind hk hc hcell fin hcd) hd
theorem zdf {i j pos}:PE X (.Constant (.int i) j pos) (tC (.int i)):=fun _ _ _ H _ I h=>wpAny_Constant_int ⟨.int i,H,I.tok _,⟨_,rfl⟩,h⟩
theorem zbY {b j pos}:PE X (.Constant (.bool b) j pos) (tC (.bl b)):=fun _ _ _ H _ I h=>Constant_bool ⟨.bl b,H,I,rfl,h⟩
theorem zdc {j pos}:PE X (.Constant .none j pos) (tC .non):=fun _ _ _ H _ I h=>Constant_none ⟨.non,H,I,rfl,h⟩
theorem zaZ {x j pos}:PE X (.Constant (.str x) j pos) (tC (.str x)):=fun _ _ _ H _ I h=>Calls.Constant_str ⟨.str x,H,I.tok _,⟨_,rfl⟩,h⟩
def Gl (X:Cx) (x:Str):Prop:=X.env.kindOf x=some .globalImplicit
theorem z3M (I:Inv X pins σ H s) (hg:Gl X x) (hm:X.mg x=some u) (h:Q u s)
  (hd:(x == ("__debug__" : Str))=false:=by decide):Wa (model X.prog X.w) X.A (eval (.Name x pos) X.env) Q E s :=
 Calls.Name_function_global I.ok.kind hg (Calls.loadGlobal_global (by rw [I.ok.glob]; exact I.mod.glob.keeps I.bk) hm h) hd
theorem z7t (I:Inv X pins σ H s) (hg:Gl X x) (hm:X.mg x=none) (hv:WW x=some u) (h:Q u s)
  (hn:x≠"__name__":=by decide) (hd:(x == ("__debug__" : Str))=false:=by decide):Wa (model X.prog X.w) X.A (eval (.Name x pos) X.env) Q E s:=by
 obtain ⟨mb,h1,h2⟩:=I.mod.blt
 exact Calls.Name_function_global I.ok.kind hg (Calls.loadGlobal_builtin (by rw [I.ok.glob]; exact I.mod.glob.keeps I.bk) hm (by rw [I.ok.blt]; exact h1.keeps I.bk) ((h2 x hn).trans hv) h) hd
theorem z8U (hg:Gl X x) (hm:X.mg x=none) (hv:WW x=some u) (r:RelV v u) (hn:x≠"__name__":=by decide) (hd:(x == ("__debug__" : Str))=false:=by decide):PE X (.Name x pos) (tC v) :=
 fun _ _ _ H _ I h=>z7t I hg hm hv ⟨v,H,I,r,h⟩ hn hd
variable {a b:Expr} {ta tb:TE} {pos:Pos}
def PC (X:Cx) (op:CmpOp) (a b:Expr) (t:TE):Prop :=
 ∀ (pins:List (Addr×Obj)) (s:W1) (σ:St) (H:Hp) (Q:VK),Inv X pins σ H s→t σ H Q →
  Wa (model X.prog X.w) X.A (eval a X.env) (fun v s₁=>Wa (model X.prog X.w) X.A (eval b X.env) (fun u s₂=>Wa (model X.prog X.w) X.A (Ww op v u) (EP X pins σ Q) X.xe s₂) X.xe s₁) X.xe s
theorem zan (b:Expr) (h:op≠.In) (h2:op≠.NotIn):Q6 op b=false:=by
 have e1:(op == CmpOp.In)=false:=by cases op <;> first | rfl | exact absurd rfl h
 have e2:(op == CmpOp.NotIn)=false:=by cases op <;> first | rfl | exact absurd rfl h2
 cases b <;> simp [Q6,e1,e2]
def tB (t:TE):TT:=fun σ H Q=>t σ H fun x H1=>∃ c,x = .bl c∧Q c H1
theorem pt_cmp (h:PC X op a b t) (h1:Q6 op b=false:=by first | exact zan _ (by decide) (by decide) | rfl):PT X (.Compare a [op] [b] pos) (tB t):=by
 intro pins s σ H Q I hw
 refine wpAny_isTrue_Compare1 (thn (h pins s σ H _ I hw) fun v s1 h1=>thn h1 fun u s2 h2=>thn h2 fun c s3 ⟨x,H1,I1,r1,q1⟩=>?_) h1
 obtain ⟨d,rfl,q⟩:=q1
 cases r1
 exact Qh ⟨H1,I1,q⟩
theorem zd1 (h:PE X e t) (he:∀ whole,isTrue e X.env whole=(do let v ← whole; standAt e.pos; holding [v] (truthy v)):=by intro _; rfl):PT X e (tB t):=by
 intro pins s σ H Q I hw
 refine isTrue_plain (thn (h pins s σ H _ I hw) fun v s1 ⟨x,H1,I1,r1,q1⟩=>?_) (he _)
 obtain ⟨d,rfl,q⟩:=q1
 cases r1
 exact Qh ⟨H1,I1,q⟩
variable {tA tB':TT} {rest:List Expr}
def tAnd (t u:TT):TT:=fun σ H Q=>t σ H fun c H1=>if c=true then u σ H1 Q else Q false H1
def tOr (t u:TT):TT:=fun σ H Q=>t σ H fun c H1=>if c=true then Q true H1 else u σ H1 Q
def tNot (t:TT):TT:=fun σ H Q=>t σ H fun c H1=>Q (!c) H1
theorem zbO (ha:PT X a tA):PW X (.BoolOp .And [a] pos) tA:=by
 intro wh pins s σ H Q I h
 refine isTrue_and (thn (ha pins s σ H Q I h) fun c s1 e=>?_)
 cases c with
 | true=>exact isTrue_and_nil e
 | false=>exact e
theorem zcZ (ha:PT X a tA):PW X (.BoolOp .Or [a] pos) tA:=by
 intro wh pins s σ H Q I h
 refine isTrue_or (thn (ha pins s σ H Q I h) fun c s1 e=>?_)
 cases c with
 | false=>exact isTrue_or_nil e
 | true=>exact e
theorem zd0 (ha:PT X a tA) (hb:PW X (.BoolOp .And (b :: rest) pos) tB'):PW X (.BoolOp .And (a :: b :: rest) pos) (tAnd tA tB'):=by
 intro wh pins s σ H Q I h
 refine isTrue_and (thn (ha pins s σ H _ I h) fun c s1 ⟨H1,I1,q1⟩=>?_)
 cases c with
 | true=>exact hb wh pins s1 σ H1 Q I1 q1
 | false=>exact ⟨H1,I1,q1⟩
theorem pw_or (ha:PT X a tA) (hb:PW X (.BoolOp .Or (b :: rest) pos) tB'):PW X (.BoolOp .Or (a :: b :: rest) pos) (tOr tA tB'):=by
 intro wh pins s σ H Q I h
 refine isTrue_or (thn (ha pins s σ H _ I h) fun c s1 ⟨H1,I1,q1⟩=>?_)
 cases c with
 | true=>exact ⟨H1,I1,q1⟩
 | false=>exact hb wh pins s1 σ H1 Q I1 q1
theorem zd2 (ha:PT X a tA):PT X (.UnaryOp .Not a pos) (tNot tA):=by
 intro pins s σ H Q I h
 exact isTrue_not (ha pins s σ H (fun c H1=>Q (!c) H1) I h)
def tAndV (ta tb:TE):TE:=fun σ H Q=>ta σ H fun x H1=>∃ c,x = .bl c∧if c=true then tb σ H1 Q else Q (.bl false) H1
def tNotV (ta:TE):TE:=fun σ H Q=>ta σ H fun x H1=>∃ c,x = .bl c∧Q (.bl (!c)) H1
theorem zda {op} (h:PE X a t):PE X (.BoolOp op [a] pos) t:=fun pins s σ H Q I hw=>BoolOp_one (h pins s σ H Q I hw)
theorem zdh (ha:PE X a ta) (hb:PE X (.BoolOp .And (b :: rest) pos) tb):PE X (.BoolOp .And (a :: b :: rest) pos) (tAndV ta tb):=by
 intro pins s σ H Q I h
 refine BoolOp_and (thn (ha pins s σ H _ I h) fun v s1 ⟨x,H1,I1,r1,q1⟩=>?_)
 obtain ⟨c,rfl,q1⟩:=q1
 cases r1
 refine Qh ?_
 cases c with
 | true=>exact hb pins s1 σ H1 Q I1 q1
 | false=>exact ⟨.bl false,H1,I1,rfl,q1⟩
theorem zdb (ha:PE X a ta):PE X (.UnaryOp .Not a pos) (tNotV ta):=by
 intro pins s σ H Q I h
 refine UnaryOp_ (thn (ha pins s σ H _ I h) fun v s1 ⟨x,H1,I1,r1,q1⟩=>?_)
 obtain ⟨c,rfl,q1⟩:=q1
 cases r1
 exact not_of (Qh ⟨.bl (!c),H1,I1,rfl,q1⟩)
end
def SqL (K:W0) (H:Hp) (a:Addr) (xs:List V):Prop :=
 Rd H a (.lst xs) ∨
  ∃ (o:Obj) (its:Array Value) (n:Nat),K.lookup a=some o∧o.cls = .type "list"∧o.dict=none∧o.data = .seq its n∧its.size≤W6∧Vals xs its.toList
def SqT (K:W0) (H:Hp) (a:Addr) (xs:List V):Prop :=
 Rd H a (.tup xs) ∨
  ∃ (o:Obj) (its:Array Value) (n:Nat),K.lookup a=some o∧o.cls = .type "tuple"∧o.data = .seq its n∧its.size≤W6∧Vals xs its.toList
def absV:Value→Option V
 | .none=>some .non
 | .bool b=>some (.bl b)
 | .int i _=>some (.int i)
 | .str x _=>some (.str x)
 | .bytes b _=>some (.byt b)
 | .float b _=>some (.flt b)
 | .ref a=>some (.ref a)
 | .type n=>some (.ty n)
 | _=>none
theorem RelV.abs (r:RelV x u):absV u=some x:=by
 cases x with
 | non=>cases r; rfl
 | bl _=>cases r; rfl
 | int _=>obtain ⟨t,rfl⟩:=r; rfl
 | str _=>obtain ⟨t,rfl⟩:=r; rfl
 | byt _=>obtain ⟨t,rfl⟩:=r; rfl
 | flt _=>obtain ⟨t,rfl⟩:=r; rfl
 | ref _=>cases r; rfl
 | ty _=>cases r; rfl
theorem RelV.inj (r:RelV x u) (q:RelV y u):x=y:=Wu (r.abs.symm.trans q.abs)
theorem Vals.inj:∀ {xs ys:List V} {us:List Value},Vals xs us→Vals ys us→xs=ys
 | _,_,_,.nil,.nil=>rfl
 | _,_,_,.cons r t,.cons r' t'=>by rw [r.inj r',Vals.inj t t']
section
variable {X:Cx} {pins:List (Addr×Obj)} {σ:St} {H:Hp} {s:W1} {a:Addr} {xs ys:List V}
theorem SqL.of {K:W0} (h:H a=some (.lst xs)):SqL K H a xs:=.inl (.inl h)
theorem SqT.of {K:W0} (h:H a=some (.tup xs)):SqT K H a xs:=.inl (.inl h)
theorem Inv.list (I:Inv X pins σ H s) (h:SqL X.K H a xs):∃ its:List Value,Vals xs its∧PlainL s.heap a its.toArray∧xs.length≤W6:=by
 rcases h with h | ⟨o,its,n,hk,hc,hd,hs,hz,r⟩
 ·obtain ⟨z,its,n,r,e⟩:=h.ok I.hok
  exact ⟨its,r,⟨_,n,e,rfl,rfl,rfl⟩,z⟩
 ·refine ⟨its.toList,r,⟨o,n,I.kIn a o hk,hc,hd,by simpa using hs⟩,?_⟩
  have e:=r.length
  simp only [Array.length_toList] at e
  omega
theorem Inv.tuple (I:Inv X pins σ H s) (h:SqT X.K H a xs):∃ its:List Value,Vals xs its∧IsTup s.heap a its.toArray∧xs.length≤W6:=by
 rcases h with h | ⟨o,its,n,hk,hc,hs,hz,r⟩
 ·obtain ⟨z,its,r,p⟩:=h.ok I.hok
  exact ⟨its,r,p.tup,z⟩
 ·refine ⟨its.toList,r,⟨o,I.kIn a o hk,hc,n,by simpa using hs⟩,?_⟩
  have e:=r.length
  simp only [Array.length_toList] at e
  omega
theorem Inv.list_inj (I:Inv X pins σ H s) (h:SqL X.K H a xs) (h':SqL X.K H a ys):xs=ys:=by
 obtain ⟨its,r,⟨o,n,e,_,_,d⟩,_⟩:=I.list h
 obtain ⟨its',r',⟨o',n',e',_,_,d'⟩,_⟩:=I.list h'
 rw [e] at e'; cases e'
 rw [d] at d'
 injection d' with d1 _
 have:its=its':=by simpa using congrArg Array.toList d1
 subst this
 exact r.inj r'
theorem Inv.tuple_inj (I:Inv X pins σ H s) (h:SqT X.K H a xs) (h':SqT X.K H a ys):xs=ys:=by
 obtain ⟨its,r,⟨o,e,_,n,d⟩,_⟩:=I.tuple h
 obtain ⟨its',r',⟨o',e',_,n',d'⟩,_⟩:=I.tuple h'
 rw [e] at e'; cases e'
 rw [d] at d'
 injection d' with d1 _
 have:its=its':=by simpa using congrArg Array.toList d1
 subst this
 exact r.inj r'
end
abbrev Cx.wish (X:Cx) (E:Value→W1→Prop):Cx:={ X with xe:=E }
abbrev Cx.nox (X:Cx):Cx:=X.wish fun _ _=>False
theorem Cx.Ok.wish {X:Cx} (ok:X.Ok) (E:Value→W1→Prop):(X.wish E).Ok :=
 ⟨ok.mod,ok.kind,ok.glob,ok.blt,ok.above,ok.inj,ok.has,ok.cab,ok.hd,ok.frames,ok.stk,ok.exf,ok.bs,ok.bsz,ok.noex,ok.exfs,ok.funs,ok.frf⟩
theorem Cx.Ok.unwish {X:Cx} {E:Value→W1→Prop} (ok:(X.wish E).Ok):X.Ok :=
 ⟨ok.mod,ok.kind,ok.glob,ok.blt,ok.above,ok.inj,ok.has,ok.cab,ok.hd,ok.frames,ok.stk,ok.exf,ok.bs,ok.bsz,ok.noex,ok.exfs,ok.funs,ok.frf⟩
section
variable {X:Cx} {pins:List (Addr×Obj)} {σ:St} {H:Hp} {s:W1} {E:Value→W1→Prop}
theorem Inv.wish (I:Inv X pins σ H s) (E:Value→W1→Prop):Inv (X.wish E) pins σ H s:=⟨I.ok.wish E,I.os,I.bare,I.base,I.loc,I.cell,I.free,I.freeC,I.pin,I.hok,I.len⟩
theorem Inv.unwish (I:Inv (X.wish E) pins σ H s):Inv X pins σ H s:=⟨I.ok.unwish,I.os,I.bare,I.base,I.loc,I.cell,I.free,I.freeC,I.pin,I.hok,I.len⟩
theorem SP.unwish (h:SP (X.wish E) pins D f s'):SP X pins D f s':=by
 cases f with
 | next=>obtain ⟨σ',H',I,q⟩:=h; exact ⟨σ',H',I.unwish,q⟩
 | brk=>obtain ⟨σ',H',I,q⟩:=h; exact ⟨σ',H',I.unwish,q⟩
 | cont=>obtain ⟨σ',H',I,q⟩:=h; exact ⟨σ',H',I.unwish,q⟩
 | ret u=>obtain ⟨v,σ',H',I,r,q⟩:=h; exact ⟨v,σ',H',I.unwish,r,q⟩
theorem PE.nox (h:PE X.nox e t):PE X e t:=fun pins s σ H Q I hw =>
 WE (h pins s σ H Q (I.wish _) hw) (fun _ _ ⟨v,H',I',r,q⟩=>⟨v,H',I'.unwish,r,q⟩) fun _ _ z=>False.elim z
theorem PT.nox (h:PT X.nox e t):PT X e t:=fun pins s σ H Q I hw =>
 WE (h pins s σ H Q (I.wish _) hw) (fun _ _ ⟨H',I',q⟩=>⟨H',I'.unwish,q⟩) fun _ _ z=>False.elim z
theorem PSs.nox {st:List Stmt} {t:TS} (h:PSs X.nox st t):PSs X st t:=fun pins s σ H D I hw =>
 WE (h pins s σ H D (I.wish _) hw) (fun _ _ q=>q.unwish) fun _ _ z=>False.elim z
end
section
variable {X:Cx} {st:Stmt} {rest:List Stmt} {t u:TS} {e:Expr} {te:TE} {pos:Pos}
def tNext:TS:=fun D σ H=>D.nx σ H
def tSeq (t u:TS):TS:=fun D σ H=>t { D with nx:=u D } σ H
theorem zbS:PSs X [] tNext:=fun _ _ σ H _ I h=>wpAny_execs_nil ⟨σ,H,I,h⟩
theorem zac (h1:PS X st t) (h2:PSs X rest u):PSs X (st :: rest) (tSeq t u):=by
 intro pins s σ H D I h
 refine wpAny_execs_cons (thn (h1 pins s σ H { D with nx:=u D } I h) fun f s1 q=>?_)
 cases f with
 | next =>
  obtain ⟨σ',H',I',q⟩:=q
  exact h2 pins s1 σ' H' D I' q
 | ret v=>exact q
 | brk=>exact q
 | cont=>exact q
theorem zbR (h1:PS X st t):PSs X [st] t:=by
 intro pins s σ H D I h
 refine wpAny_execs_cons (thn (h1 pins s σ H D I h) fun f s1 q=>?_)
 cases f with
 | next=>exact wpAny_execs_nil q
 | ret v=>exact q
 | brk=>exact q
 | cont=>exact q
theorem Inv.quiet (I:Inv X pins σ H s):interactive X.env=false:=by simp [interactive,I.ok.kind]
def zbt (te:TE):TS:=fun D σ H=>te σ H fun _ H1=>D.nx σ H1
theorem z8L (he:PE X e te) (hs:QD e none pos.line X.env=pure false:=by rfl):PS X (.Expr e pos) (zbt te):=by
 intro pins s σ H D I h
 exact wpAny_Expr_any (thn (he pins s σ H _ I h) fun v s1 ⟨x,H1,I1,r1,q1⟩=>⟨σ,H1,I1,q1⟩) I.quiet hs
def tRet (te:TE):TS:=fun D σ H=>te σ H D.rt
theorem zd4 (he:PE X e te):PS X (.Return (some e) pos) (tRet te):=by
 intro pins s σ H D I h
 exact wpAny_Return_some (thn (he pins s σ H _ I h) fun v s1 ⟨x,H1,I1,r1,q1⟩=>⟨x,σ,H1,I1,r1,q1⟩)
def tIfS (c:TT) (t u:TS):TS:=fun D σ H=>c σ H fun b H1=>if b=true then t D σ H1 else u D σ H1
theorem ps_if (hc:PT X c tc) (ha:PSs X a t) (hb:PSs X b u):PS X (.If c a b pos) (tIfS tc t u):=by
 intro pins s σ H D I h
 refine wpAny_If (thn (hc pins s σ H _ I h) fun d s1 ⟨H1,I1,q1⟩=>?_)
 cases d with
 | true=>exact ha pins s1 σ H1 D I1 q1
 | false=>exact hb pins s1 σ H1 D I1 q1
end
abbrev TG:=V→St→Hp→(St→Hp→Prop)→Prop
abbrev TGs:=List V→St→Hp→(St→Hp→Prop)→Prop
def PG (X:Cx) (target:Expr) (t:TG):Prop :=
 ∀ (pins:List (Addr×Obj)) (s:W1) (σ:St) (H:Hp) (v:V) (u:Value) (Q:St→Hp→Prop),Inv X pins σ H s→RelV v u→t v σ H Q →
  Wa (model X.prog X.w) X.A (assign target X.env u) (fun _ s'=>∃ σ' H',Inv X pins σ' H' s'∧Q σ' H') X.xe s
def PGs (X:Cx) (ts:List Expr) (t:TGs):Prop :=
 ∀ (pins:List (Addr×Obj)) (s:W1) (σ:St) (H:Hp) (vs:List V) (us:List Value) (Q:St→Hp→Prop),Inv X pins σ H s→Vals vs us→t vs σ H Q →
  Wa (model X.prog X.w) X.A (assignInOrder ((WT ts X.env).map (·.2)) us) (fun _ s'=>∃ σ' H',Inv X pins σ' H' s'∧Q σ' H') X.xe s
abbrev TSet:=V→V→V→Hp→(Hp→Prop)→Prop
def PSet (X:Cx) (t:TSet):Prop :=
 ∀ (pins:List (Addr×Obj)) (s:W1) (σ:St) (H:Hp) (o i v:V) (ov iv u:Value) (Q:Hp→Prop),Inv X pins σ H s→RelV o ov→RelV i iv→RelV v u→t o i v H Q →
  Wa (model X.prog X.w) X.A (setItem ov iv u) (fun _ s'=>∃ H',Inv X pins σ H' s'∧Q H') X.xe s
section
variable {X:Cx} {pos:Pos}
def zay (i:Nat):TG:=fun v σ H Q=>Q (σ.set i (some v)) H
theorem z8P (hN:X.N.Nodup) (hi:X.N[i]? = some x) (hx:Loc X.env.scope x) (hf:X.fn x=true∨X.env.scope.names.lookup x=some .local:=by first | exact .inl rfl | exact .inr rfl | assumption):PG X (.Name x pos) (zay i):=by
 intro pins s σ H v u Q I r h
 exact wpAny_assign_Name (z7h I hN hi hx r (fun s' I'=>⟨_,H,I',h⟩) hf)
def gNil:TGs:=fun vs σ H Q=>vs=[]∧Q σ H
def gCons (t:TG) (u:TGs):TGs:=fun vs σ H Q=>∃ v r,vs=v :: r∧t v σ H fun σ' H'=>u r σ' H' Q
theorem z8O:PGs X [] gNil:=by
 intro pins s σ H vs us Q I r h
 obtain ⟨e,h⟩:=h
 subst e
 cases r
 exact assignInOrder_nil ⟨σ,H,I,h⟩
theorem z7o (h1:PG X e t) (h2:PGs X es u)
  (hs:(WT (e :: es) X.env).map (·.2)=assign e X.env :: (WT es X.env).map (·.2):=by rfl):PGs X (e :: es) (gCons t u):=by
 intro pins s σ H vs us Q I r h
 obtain ⟨v,vr,e1,h⟩:=h
 subst e1
 cases r with
 | cons r rr =>
  rw [hs]
  refine assignInOrder_cons (thn (h1 pins s σ H _ _ _ I r h) fun _ s1 ⟨σ1,H1,I1,q1⟩=>?_)
  exact h2 pins s1 σ1 H1 _ _ Q I1 rr q1
def gTup (K:W0) (n:Nat) (t:TGs):TG:=fun v σ H Q=>∃ a xs,v = .ref a∧SqT K H a xs∧xs.length=n∧t xs σ H Q
theorem zaY (hc:X.calm=true) (h:PGs X es t)
  (hn:(WT es X.env).length=n:=by rfl) (hst:(WT es X.env).findIdx? (·.1)=none:=by rfl):PG X (.Tuple es k pos) (gTup X.K n t):=by
 intro pins s σ H v u Q I r hw
 obtain ⟨a,xs,e1,hq,hl,hw⟩:=hw
 subst e1
 cases r
 obtain ⟨its,rv,ht,hz⟩:=I.tuple hq
 refine assign_Tuple_tuple (I.ok.hd hc) ht (by simp [hn,← hl,rv.length]) hst fun h' hx=>?_
 have I1:Inv X pins σ H { s with heap:=h' }:=I.kept (t':=s.toks) fun b o e=>hx b o (WN (Wf e)) e
 exact h pins _ σ H xs _ Q I1 (by simpa using rv) hw
def gSub (to ti:TE) (t:TSet):TG:=fun v σ H Q=>to σ H fun o H1=>ti σ H1 fun i H2=>t o i v H2 fun H3=>Q σ H3
theorem zd6 (ho:PE X o to) (hi:PE X i ti) (hs:PSet X t)
  (ha:∀ v,assign (.Subscript o i pos) X.env v=(do
   let ov ← holding [v] (eval o X.env)
   let iv ← holding [v,ov] (eval i X.env)
   standAt pos
   holding [v,ov,iv] (setItem ov iv v)
   release [v,ov,iv] []):=by intro _; rfl):PG X (.Subscript o i pos) (gSub to ti t):=by
 intro pins s σ H v u Q I r h
 rw [ha]
 refine W2 (Q7 (thn (ho pins s σ H _ I h) fun ov s1 ⟨x,H1,I1,r1,q1⟩=>?_))
 refine W2 (Q7 (thn (hi pins s1 σ H1 _ I1 q1) fun iv s2 ⟨y,H2,I2,r2,q2⟩=>?_))
 refine W2 (wpAny_standAt (W2 (Q7 (thn (hs pins s2 σ H2 x y v ov iv u _ I2 r1 r2 r q2) fun _ s3 ⟨H3,I3,q3⟩=>?_))))
 exact wpAny_release ⟨σ,H3,I3,q3⟩
def tAsg (te:TE) (g:TG):TS:=fun D σ H=>te σ H fun x H1=>g x σ H1 D.nx
theorem zaX (he:PE X e te) (hg:PG X tg g) (hs:swapsWithSole [tg] e pos.line X.env=pure false:=by rfl) (hw:swappedStores [tg] e X.env=pure none:=by rfl)
  (h1:(WT [tg] X.env).map (·.2)=[assign tg X.env]:=by rfl):PS X (.Assign [tg] e pos) (tAsg te g):=by
 intro pins s σ H D I h
 refine wpAny_Assign_stores (thn (he pins s σ H _ I h) fun v s1 ⟨x,H1,I1,r1,q1⟩=>?_) hs hw
 rw [h1]
 exact thn (hg pins s1 σ H1 x v _ I1 r1 q1) fun _ s2 q=>q
theorem zd3 (hN:X.N.Nodup) (hi:X.N[i]? = some x) (hx:Loc X.env.scope x) (he:PE X e te) (hs:QD e (some (.Name x pos')) pos.line X.env=pure false:=by rfl) (hf:X.fn x=true∨X.env.scope.names.lookup x=some .local:=by first | exact .inl rfl | exact .inr rfl | assumption) :
  PS X (.Assign [.Name x pos'] e pos) (tAsg te (zay i)):=by
 intro pins s σ H D I h
 refine wpAny_Assign_Name (thn (he pins s σ H _ I h) fun v s1 ⟨y,H1,I1,r1,q1⟩=>?_) hs
 exact z7h I1 hN hi hx r1 (fun s2 I2=>⟨_,H1,I2,q1⟩) hf
end
section
variable {X:Cx} {pos:Pos}
end
structure It where
 go:Nat→Hp→Prop
 yld:Nat→Hp→V→Hp→Prop
 stop:Nat→Hp→Prop
def FpOk (X:Cx) (pins:List (Addr×Obj)) (H:Hp) (b:Addr):Prop :=
 H b=none∧b≠X.env.locals∧b ∉ X.fs∧(b ∈ X.ex∨X.s₀.heap.objs.size≤b)∧(∀ x c,X.env.cells.lookup x=some c→c≠b)∧∀ p ∈ X.pn ++ pins,p.1≠b
theorem Inv.fpOk (I:Inv X pins σ H s) (hb:s.heap.objs.size≤b) (hn:H' b=none):FpOk X pins H' b:=by
 refine ⟨hn,Nat.ne_of_gt (Wt I.lt hb),I.nofs hb,.inr (Q0 I.sz hb),fun x c e z=>?_,fun p hp z=>?_⟩
 ·obtain ⟨v,q⟩:=I.cell x c e
  exact absurd (Wt q.lt (by rw [z]; exact hb)) (WV _)
 ·exact absurd (Wt (Wf (I.pin p hp).1) (by rw [z]; exact hb)) (WV _)
structure Turn (P:Wi) (w:Wp) (K:W0) (tg:Expr) (J:It) (fp:List Addr) (it:Addr) (tn:Nat→Heap→Prop):Prop where
 mem:it ∈ fp
 obj:∀ i h,tn i h→∀ b ∈ fp,∃ o,h.get? b=some o∧∀ v,o.data≠.cell v
 keep:∀ i h h',tn i h→(∀ b ∈ fp,∀ o,h.get? b=some o→h'.get? b=some o)→tn i h'
 item:∀ (X:Cx),X.prog=P→X.w=w→X.K=K→X.calm=true→∀ (i:Nat) (pins:List (Addr×Obj)) (s:W1) (σ:St) (H:Hp) (E:Value→W1→Prop),Inv X pins σ H s→(∀ b ∈ fp,FpOk X pins H b)→tn i s.heap→J.go i H →
  Wa (model P w) X.A (pyNext (.ref it)) (fun r s1=>∃ u,r=some u ∧
   Wa (model P w) X.A (letOwnedTupleGo tg (.ref it) u) (fun _ s2=>∃ x H',Inv X pins σ H' s2∧RelV x u∧J.yld i H x H'∧tn (i + 1) s2.heap∧∀ b ∈ fp,H' b=none) E s1) E s
 done:∀ (X:Cx),X.prog=P→X.w=w→X.K=K→X.calm=true→∀ (i:Nat) (pins:List (Addr×Obj)) (s:W1) (σ:St) (H:Hp) (E:Value→W1→Prop),Inv X pins σ H s→(∀ b ∈ fp,FpOk X pins H b)→tn i s.heap→J.stop i H →
  Wa (model P w) X.A (pyNext (.ref it)) (fun r s1=>r=none∧Inv X pins σ H s1) E s
 self:∀ (A:Wn) (i:Nat) (s:W1) (Q:Value→W1→Prop) (E:Value→W1→Prop),tn i s.heap→Q (.ref it) s→Wa (model P w) A (pyIter (.ref it)) Q E s
abbrev TI:=St→Hp→(It→Hp→Prop)→Prop
def PIE (X:Cx) (pins:List (Addr×Obj)) (σ:St) (tg:Expr) (R:It→Hp→Prop) (itv:Value) (s2:W1):Prop :=
 ∃ (it:Addr) (fp:List Addr) (tn:Nat→Heap→Prop) (J:It) (H':Hp),itv = .ref it∧Inv X pins σ H' s2∧Turn X.prog X.w X.K tg J fp it tn∧tn 0 s2.heap∧(∀ b ∈ fp,FpOk X pins H' b)∧R J H'
def PI (X:Cx) (tg iter:Expr) (wi:TI):Prop :=
 ∀ (pins:List (Addr×Obj)) (s:W1) (σ:St) (H:Hp) (R:It→Hp→Prop),Inv X pins σ H s→wi σ H R →
  Wa (model X.prog X.w) X.A (eval iter X.env) (fun v s1=>Wa (model X.prog X.w) X.A (pyIter v) (PIE X pins σ tg R) X.xe s1) X.xe s
theorem zax (ho:s.heap.get? it=some o) (hc:o.cls = .type n) (hd:o.data = .fields vs)
  (hn:["enumerate","zip","dict_itemiterator","dict_reverseitemiterator","odict_iterator","itertools.zip_longest","itertools.pairwise"].contains n=false) (hQ:Q () s):Wa M A (letOwnedTupleGo tg (.ref it) u) Q E s:=by
 unfold letOwnedTupleGo
 cases tg <;> first
  | exact Wb hQ
  | (cases u <;> first
    | exact Wb hQ
    | (refine W2 (wpAny_load ho ?_); rw [hc,hd]; show Wa M A (if (["enumerate","zip","dict_itemiterator","dict_reverseitemiterator","odict_iterator","itertools.zip_longest","itertools.pairwise"].contains n && vs[0]? == some (QE _))=true then _ else _) Q E s; rw [if_neg (by intro h; rw [hn,Bool.false_and] at h; cases h)]; exact Wb hQ))
def Itl (K:W0) (a:Addr):It :=
 ⟨fun i H=>∃ xs x,SqL K H a xs∧xs[i]? = some x,fun i H x H'=>H'=H∧∀ xs,SqL K H a xs→xs[i]? = some x,fun i H=>∃ xs,SqL K H a xs∧xs.length≤i⟩
def Itt (K:W0) (a:Addr):It :=
 ⟨fun i H=>∃ xs x,SqT K H a xs∧xs[i]? = some x,fun i H x H'=>H'=H∧∀ xs,SqT K H a xs→xs[i]? = some x,fun i H=>∃ xs,SqT K H a xs∧xs.length≤i⟩
def Itr (lo:Int) (n:Nat):It:=⟨fun i _=>i < n,fun i H x H'=>H'=H∧x = .int (lo + i),fun i _=>n≤i⟩
theorem z8i {P:Wi} {w:Wp} {K:W0} {tg:Expr} (a it:Addr):Turn P w K tg (Itl K a) [it] it (fun i h=>h.IsListIter it a i) where
 mem:=by simp
 obj:=fun i h st b hb=>by
  have e:b=it:=by simpa using hb
  subst e
  obtain ⟨o,e,c,d⟩:=st
  exact ⟨o,e,fun v z=>by rw [d] at z; cases z⟩
 keep:=fun i h h' st k=>st.at fun o e=>k it (by simp) o e
 item:=by
  intro X hP hw hK hc i pins s σ H E I hf st hg
  subst hP hw hK
  obtain ⟨xs,x,hq,hx⟩:=hg
  obtain ⟨its,rv,p,hz⟩:=I.list hq
  obtain ⟨u,hu,ru⟩:=rv.get hx
  obtain ⟨f0,f1,f2,f3,f4,f5⟩:=hf it (by simp)
  refine wpAny_pyNext_list_item st p.isList (x:=u) (by simpa using hu) fun h' st' sb=>?_
  have I1:Inv X pins σ H { s with heap:=h' }:=I.turned (t':=s.toks) (fun b o hb e=>(sb.2 b hb).trans e) f0 f1 f3 f4 f5
  obtain ⟨o,e,c,d⟩:=id st'
  exact ⟨u,rfl,zax (s:={ s with heap:=h' }) e c d (by decide) ⟨x,H,I1,ru,⟨rfl,fun ys hy=>by rw [I.list_inj hy hq]; exact hx⟩,st',fun b hb=>(hf b hb).1⟩⟩
 done:=by
  intro X hP hw hK hc i pins s σ H E I hf st hg
  subst hP hw hK
  obtain ⟨xs,hq,hx⟩:=hg
  obtain ⟨its,rv,p,hz⟩:=I.list hq
  obtain ⟨f0,f1,f2,f3,f4,f5⟩:=hf it (by simp)
  have hl:=rv.length
  exact wpAny_pyNext_list_end (I.ok.hd hc) st p.isList (by simp; omega) fun h' eb=>⟨rfl,I.turned (t':=s.toks) (fun b o hb e=>eb b o hb e) f0 f1 f3 f4 f5⟩
 self:=fun _ _ _ _ _ st h=>wpAny_pyIter_listiter st h
theorem z7K {P:Wi} {w:Wp} {K:W0} {tg:Expr} (a it:Addr):Turn P w K tg (Itt K a) [it] it (fun i h=>h.IsTupleIter it a i) where
 mem:=by simp
 obj:=fun i h st b hb=>by
  have e:b=it:=by simpa using hb
  subst e
  obtain ⟨o,e,c,d⟩:=st
  exact ⟨o,e,fun v z=>by rw [d] at z; cases z⟩
 keep:=fun i h h' st k=>st.at fun o e=>k it (by simp) o e
 item:=by
  intro X hP hw hK hc i pins s σ H E I hf st hg
  subst hP hw hK
  obtain ⟨xs,x,hq,hx⟩:=hg
  obtain ⟨its,rv,p,hz⟩:=I.tuple hq
  obtain ⟨u,hu,ru⟩:=rv.get hx
  obtain ⟨f0,f1,f2,f3,f4,f5⟩:=hf it (by simp)
  refine wpAny_pyNext_tuple_item st (show s.heap.IsTuple a its.toArray from p) (x:=u) (by simpa using hu) fun h' st' sb=>?_
  have I1:Inv X pins σ H { s with heap:=h' }:=I.turned (t':=s.toks) (fun b o hb e=>(sb.2 b hb).trans e) f0 f1 f3 f4 f5
  obtain ⟨o,e,c,d⟩:=id st'
  exact ⟨u,rfl,zax (s:={ s with heap:=h' }) e c d (by decide) ⟨x,H,I1,ru,⟨rfl,fun ys hy=>by rw [I.tuple_inj hy hq]; exact hx⟩,st',fun b hb=>(hf b hb).1⟩⟩
 done:=by
  intro X hP hw hK hc i pins s σ H E I hf st hg
  subst hP hw hK
  obtain ⟨xs,hq,hx⟩:=hg
  obtain ⟨its,rv,p,hz⟩:=I.tuple hq
  obtain ⟨f0,f1,f2,f3,f4,f5⟩:=hf it (by simp)
  have hl:=rv.length
  exact wpAny_pyNext_tuple_end (I.ok.hd hc) st (show s.heap.IsTuple a its.toArray from p) (by simp; omega) fun h' eb=>⟨rfl,I.turned (t':=s.toks) (fun b o hb e=>eb b o hb e) f0 f1 f3 f4 f5⟩
 self:=fun _ _ _ _ _ st h=>wpAny_pyIter_tupleiter st h
theorem z7L {P:Wi} {w:Wp} {K:W0} {tg:Expr} (it:Addr) (lo:Int) (n:Nat):Turn P w K tg (Itr lo n) [it] it (fun i h=>IsRangeIter h it (lo + (i:Nat) * 1) ((n:Int) - (i:Nat)) 1) where
 mem:=by simp
 obj:=fun i h st b hb=>by
  have e:b=it:=by simpa using hb
  subst e
  exact ⟨_,st,fun v z=>by
   have z':Data.fields _=Data.cell v:=z
   cases z'⟩
 keep:=fun i h h' st k=>k it (by simp) _ st
 item:=by
  intro X hP hw hK hc i pins s σ H E I hf st hg
  subst hP hw hK
  obtain ⟨f0,f1,f2,f3,f4,f5⟩:=hf it (by simp)
  have W:=Walks.range (prog:=X.prog) (w:=X.w) (I.ok.hd hc) it lo 1 n
  refine W.item i s _ _ hg st fun v h' tk hv st' kk=>?_
  obtain ⟨t,rfl⟩:=hv
  have I1:Inv X pins σ H { s with heap:=h',toks:=tk }:=I.turned (fun b o hb e=>kk b o (by simpa using hb) e) f0 f1 f3 f4 f5
  refine ⟨_,rfl,zax (s:={ s with heap:=h',toks:=tk }) (n:="range_iterator") st' rfl rfl (by decide) ⟨.int (lo + i),H,I1,⟨t,?_⟩,⟨rfl,rfl⟩,st',fun b hb=>(hf b hb).1⟩⟩
  rw [Int.mul_one]
 done:=by
  intro X hP hw hK hc i pins s σ H E I hf st hg
  subst hP hw hK
  obtain ⟨f0,f1,f2,f3,f4,f5⟩:=hf it (by simp)
  exact wpAny_pyNext_range_end (I.ok.hd hc) st (by have:n≤i:=hg; omega) fun h' eb=>⟨rfl,I.turned (t':=s.toks) (fun b o hb e=>eb b o hb e) f0 f1 f3 f4 f5⟩
 self:=fun _ _ _ _ _ st h=>wpAny_pyIter_rangeiter st h
section
variable {X:Cx} {tg:Expr}
theorem za8 {pins:List (Addr×Obj)} {σ:St} {H:Hp} {s:W1} {R:It→Hp→Prop} {E:Value→W1→Prop} {lo hi:Int} {t u v:Tok} {tk:Nat} (I:Inv X pins σ H s) (h1 : -(2 ^ 62)≤lo) (h2:lo < 2 ^ 62) (h3 : -(2 ^ 62)≤hi) (h4:hi < 2 ^ 62)
  (q:R (Itr lo (hi - lo).toNat) H):Wa (model X.prog X.w) X.A (pyIter (.ref s.heap.objs.size)) (PIE X pins σ tg R) E { s with heap:=s.heap.push { cls:=.type "range",data:=.fields #[.int lo t,.int hi u,.int 1 v] },toks:=tk }:=by
 refine wpAny_pyIter_range (IsRange.new ..) (small_one h1 h2 h3 h4) ?_
 have I1:Inv X pins σ H { s with heap:=s.heap.push { cls:=.type "range",data:=.fields #[.int lo t,.int hi u,.int 1 v] },toks:=tk }:=I.kept fun b o e=>W7 _ e
 refine ⟨(s.heap.push { cls:=.type "range",data:=.fields #[.int lo t,.int hi u,.int 1 v] }).objs.size,[(s.heap.push { cls:=.type "range",data:=.fields #[.int lo t,.int hi u,.int 1 v] }).objs.size],_,_,H,rfl,
  I1.kept (t':=tk) fun b o e=>W7 _ e,z7L _ lo (hi - lo).toNat,?_,fun b hb=>?_,q⟩
 ·have e1:lo + ((0:Nat):Int) * 1=lo:=by simp
  have e2:(((hi - lo).toNat:Nat):Int) - ((0:Nat):Int)=Builtin.Range.rangeSize lo hi 1:=by rw [rangeSize_one]; split <;> omega
  show IsRangeIter _ _ (lo + ((0:Nat):Int) * 1) ((((hi - lo).toNat:Nat):Int) - ((0:Nat):Int)) 1
  rw [e1,e2]
  exact Wr _ rfl
 ·have e:b=(s.heap.push { cls:=.type "range",data:=.fields #[.int lo t,.int hi u,.int 1 v] }).objs.size:=by simpa using hb
  subst e
  exact I1.fpOk (Wc _) (I1.hok.fresh (Wc _))
def iRng1 (ta:TA):TI:=fun σ H R=>ta σ H fun vs H1=>∃ j:Int,vs=[.int j]∧-(2 ^ 62)≤j∧j < 2 ^ 62∧R (Itr 0 j.toNat) H1
theorem z8N {a:Expr} {ta:TA} {p pos:Pos} (hg:Gl X "range") (hm:X.mg "range" = none) (ha:PA X [a] ta) (hs:W5 [a] X.env=[(false,eval a X.env)]:=by rfl):PI X tg (.Call (.Name "range" p) [a] [] pos) (iRng1 ta):=by
 intro pins s σ H R I h
 refine Call_ (z7t I hg hm boot_range (PyProof.Rows.callWith_type1 (thn (ha pos pins s σ H _ I h) fun us s1 ⟨vs,H1,I1,r1,q1⟩=>?_) hs rfl))
 obtain ⟨j,e,q1,q2,q⟩:=q1
 subst e
 cases r1 with
 | cons r rr =>
  cases rr
  obtain ⟨t,rfl⟩:=r
  exact call_range_1 (za8 I1 (by omega) (by omega) q1 q2 (by simpa using q))
def tFor (wi:TI) (g:TG) (tb:TS):TS:=fun D σ H=>wi σ H fun J H1=>∃ W:Nat→Nat→St→Hp→Prop,(∃ m,W 0 m σ H1)∧∀ i m σ H,W i m σ H →
 (J.stop i H∧D.nx σ H)∨(J.go i H∧∃ N:St→Hp→Prop,(∀ σ' H',N σ' H'→∃ m',m' < m∧W (i + 1) m' σ' H')∧∀ x H',J.yld i H x H'→g x σ H' fun σ2 H2=>tb { D with nx:=N,ct:=N,bk:=D.nx } σ2 H2)
def z6d (fp:List Addr) (h:Heap):List (Addr×Obj):=fp.filterMap fun b=>(h.get? b).map fun o=>(b,o)
theorem z2V (hb:b ∈ fp) (e:h.get? b=some o):(b,o) ∈ z6d fp h:=List.mem_filterMap.mpr ⟨b,hb,by rw [e]; rfl⟩
theorem z93 (hp:p ∈ z6d fp h):p.1 ∈ fp∧h.get? p.1=some p.2:=by
 obtain ⟨b,hb,e⟩:=List.mem_filterMap.mp hp
 cases q:h.get? b with
 | none=>rw [q] at e; cases e
 | some o =>
  rw [q] at e
  have e':(b,o)=p:=Wu e
  subst e'
  exact ⟨hb,q⟩
theorem Inv.pinned (I:Inv X pins σ H s) (hf:∀ b ∈ fp,FpOk X pins H b) (ho:∀ b ∈ fp,∃ o,s.heap.get? b=some o∧∀ v,o.data≠.cell v):Inv X (pins ++ z6d fp s.heap) σ H s :=
 I.pins_of fun p hp=>(Qj.mp hp).elim (fun z=>I.pin p (WB _ z)) fun z=>by
  obtain ⟨hb,e⟩:=z93 z
  obtain ⟨f0,f1,f2,_⟩:=hf p.1 hb
  obtain ⟨o,e',d⟩:=ho p.1 hb
  rw [e] at e'; cases e'
  exact ⟨e,f0,f1,f2,d⟩
theorem Inv.unpinned (I:Inv X (pins ++ pl) σ H s):Inv X pins σ H s:=I.pins_of fun p hp=>I.pin p (WB _ (QR _ hp))
theorem zd5 (hp:PassesOwn (model X.prog X.w) X.A X.env X.xe) (hc:X.calm=true) (hi:PI X tg iter wi) (hg:PG X tg g) (hb:PSs X body tb)
  (hs:∀ x,Qo iter X.env x=pure x:=by intro _; rfl):PS X (.For tg iter body [] pos) (tFor wi g tb):=by
 intro pins s σ H D I h
 refine wpAny_For (thn (hi pins s σ H _ I h) fun v s1 h1=>thn h1 fun itv s2 h2=>?_) hs
 obtain ⟨it,fp,tn,J,H2,e,I2,T,st2,f2,W,⟨m0,w0⟩,turn⟩:=h2
 subst e
 -- what stays true of the iterator's objects through the loop
 have stat:∀ {H':Hp},(∀ b ∈ fp,H' b=none)→∀ b ∈ fp,FpOk X pins H' b:=fun hn b hb=>⟨hn b hb,(f2 b hb).2⟩
 refine codeAny_forLoop_any (fun n s'=>∃ i σ' H',Inv X pins σ' H' s'∧tn i s'.heap∧(∀ b ∈ fp,H' b=none)∧W i n σ' H') ?_ m0 ⟨0,σ,H2,I2,st2,fun b hb=>(f2 b hb).1,w0⟩
 rintro n s3 ⟨i,σ3,H3,I3,st3,fr3,w3⟩
 rcases turn i n σ3 H3 w3 with ⟨stop,qn⟩ | ⟨go,N,hN,step⟩
 ·refine QV hp (thn (T.done X rfl rfl rfl hc i pins s3 σ3 H3 X.xe I3 (stat fr3) st3 stop) fun r s4 ⟨hr,I4⟩=>?_)
  subst hr
  exact wpAny_execs_nil ⟨σ3,H3,I4,qn⟩
 ·refine QV hp (thn (T.item X rfl rfl rfl hc i pins s3 σ3 H3 X.xe I3 (stat fr3) st3 go) fun r s4 ⟨u,hr,h4⟩=>?_)
  subst hr
  refine QV hp (thn h4 fun _ s5 ⟨x,H5,I5,r5,y5,st5,fr5⟩=>?_)
  have I5':=I5.pinned (stat fr5) (T.obj _ _ st5)
  refine QV hp (thn (hg _ s5 σ3 H5 x u _ I5' r5 (step x H5 y5)) fun _ s6 ⟨σ6,H6,I6,q6⟩=>?_)
  refine QV hp (thn (hb _ s6 σ6 H6 _ I6 q6) fun f s7 q7=>?_)
  have again:∀ {σ7:St} {H7:Hp},Inv X (pins ++ z6d fp s5.heap) σ7 H7 s7→N σ7 H7→∃ m,m < n∧∃ i σ' H',Inv X pins σ' H' s7∧tn i s7.heap∧(∀ b ∈ fp,H' b=none)∧W i m σ' H':=fun {σ7 H7} I7 n7=>by
   obtain ⟨m',hm,w7⟩:=hN σ7 H7 n7
   refine ⟨m',hm,i + 1,σ7,H7,I7.unpinned,T.keep _ _ _ st5 fun b hb o e=>(I7.pin (b,o) (WB _ (WB _ (z2V hb e)))).1,fun b hb=>?_,w7⟩
   obtain ⟨o,e,d⟩:=T.obj _ _ st5 b hb
   exact (I7.pin (b,o) (WB _ (WB _ (z2V hb e)))).2.1
  cases f with
  | next=>obtain ⟨σ7,H7,I7,n7⟩:=q7; exact again I7 n7
  | cont=>obtain ⟨σ7,H7,I7,n7⟩:=q7; exact again I7 n7
  | brk=>obtain ⟨σ7,H7,I7,q7⟩:=q7; exact ⟨σ7,H7,I7.unpinned,q7⟩
  | ret v=>obtain ⟨x7,σ7,H7,I7,r7,q7⟩:=q7; exact ⟨x7,σ7,H7,I7.unpinned,r7,q7⟩
end
abbrev R2:=V→V→Hp→VK→Prop
def OpR (X:Cx) (f:Value→Value→Sem Value) (r:R2):Prop :=
 ∀ (pins:List (Addr×Obj)) (s:W1) (σ:St) (H:Hp) (x y:V) (v u:Value) (Q:VK),Inv X pins σ H s→RelV x v→RelV y u→r x y H Q →
  Wa (model X.prog X.w) X.A (f v u) (EP X pins σ Q) X.xe s
def UnR (X:Cx) (f:Value→Sem Value) (r:V→Hp→VK→Prop):Prop :=
 ∀ (pins:List (Addr×Obj)) (s:W1) (σ:St) (H:Hp) (x:V) (v:Value) (Q:VK),Inv X pins σ H s→RelV x v→r x H Q →
  Wa (model X.prog X.w) X.A (f v) (EP X pins σ Q) X.xe s
def CallR (X:Cx) (f:Value) (r:List V→Hp→VK→Prop):Prop :=
 ∀ (pins:List (Addr×Obj)) (s:W1) (σ:St) (H:Hp) (xs:List V) (us:List Value) (Q:VK),Inv X pins σ H s→Vals xs us→r xs H Q →
  Wa (model X.prog X.w) X.A (call f us) (EP X pins σ Q) X.xe s
def tOp (r:R2) (ta tb:TE):TE:=fun σ H Q=>ta σ H fun x H1=>tb σ H1 fun y H2=>r x y H2 Q
def tUn (r:V→Hp→VK→Prop) (ta:TE):TE:=fun σ H Q=>ta σ H fun x H1=>r x H1 Q
def rI (C:Int→Int→Prop) (g:Int→Int→V):R2:=fun x y H Q=>∃ i j,x = .int i∧y = .int j∧C i j∧Q (g i j) H
def rI0 (g:Int→Int→V):R2:=fun x y H Q=>∃ i j,x = .int i∧y = .int j∧Q (g i j) H
def rU (g:Int→V):V→Hp→VK→Prop:=fun x H Q=>∃ i,x = .int i∧Q (g i) H
section
variable {X:Cx} {a b c:Expr} {ta tb tc:TE} {pos:Pos}
theorem binT (ha:PE X a ta) (hb:PE X b tb) {pins:List (Addr×Obj)} {s:W1} {σ:St} {H:Hp} {R:V→V→Hp→Prop} (I:Inv X pins σ H s)
  (h:ta σ H fun x H1=>tb σ H1 fun y H2=>R x y H2) {Q:Value→W1→Prop} {f:Value→Value→Sem Value}
  (hf:∀ v u s2 x y H2,Inv X pins σ H2 s2→RelV x v→RelV y u→R x y H2→Wa (model X.prog X.w) X.A (f v u) Q X.xe s2) :
  Wa (model X.prog X.w) X.A (eval a X.env) (fun v s₁=>Wa (model X.prog X.w) X.A (eval b X.env) (fun u s₂=>Wa (model X.prog X.w) X.A (f v u) Q X.xe s₂) X.xe s₁) X.xe s:=by
 refine thn (ha pins s σ H _ I h) fun v s1 ⟨x,H1,I1,r1,q1⟩=>?_
 refine thn (hb pins s1 σ H1 _ I1 q1) fun u s2 ⟨y,H2,I2,r2,q2⟩=>?_
 exact hf v u s2 x y H2 I2 r1 r2 q2
theorem zd9 {op:Operator} {r:R2} (ho:OpR X (Q1 op) r) (ha:PE X a ta) (hb:PE X b tb):PE X (.BinOp a op b pos) (tOp r ta tb):=by
 intro pins s σ H Q I h
 exact wpAny_BinOp (binT ha hb I h fun v u s2 x y H2 I2 rx ry q=>ho pins s2 σ H2 x y v u Q I2 rx ry q)
theorem pe_un (ho:UnR X (unaryOp op) r) (ha:PE X a ta):PE X (.UnaryOp op a pos) (tUn r ta):=by
 intro pins s σ H Q I h
 exact UnaryOp_ (thn (ha pins s σ H _ I h) fun v s1 ⟨x,H1,I1,r1,q1⟩=>ho pins s1 σ H1 x v Q I1 r1 q1)
theorem opI {f:Value→Value→Sem Value} {C:Int→Int→Prop} {g:Int→Int→Int}
  (rule:∀ (i j:Int) (t u:Tok) (s:W1) (Q:Value→W1→Prop) (E:Value→W1→Prop),C i j→Q (.int (g i j) s.toks) { s with toks:=s.toks + 1 }→Wa (model X.prog X.w) X.A (f (.int i t) (.int j u)) Q E s) :
  OpR X f (rI C fun i j=>.int (g i j)):=by
 intro pins s σ H x y v u Q I rx ry h
 obtain ⟨i,j,rfl,rfl,hc,q⟩:=h
 obtain ⟨t,rfl⟩:=rx
 obtain ⟨t',rfl⟩:=ry
 exact rule i j t t' s _ _ hc ⟨.int (g i j),H,I.tok _,⟨_,rfl⟩,q⟩
theorem opI0 {f:Value→Value→Sem Value} {g:Int→Int→Int}
  (rule:∀ (i j:Int) (t u:Tok) (s:W1) (Q:Value→W1→Prop) (E:Value→W1→Prop),Q (.int (g i j) s.toks) { s with toks:=s.toks + 1 }→Wa (model X.prog X.w) X.A (f (.int i t) (.int j u)) Q E s) :
  OpR X f (rI0 fun i j=>.int (g i j)):=by
 intro pins s σ H x y v u Q I rx ry h
 obtain ⟨i,j,rfl,rfl,q⟩:=h
 obtain ⟨t,rfl⟩:=rx
 obtain ⟨t',rfl⟩:=ry
 exact rule i j t t' s _ _ ⟨.int (g i j),H,I.tok _,⟨_,rfl⟩,q⟩
theorem opB0 {f:Value→Value→Sem Value} {g:Int→Int→Bool}
  (rule:∀ (i j:Int) (t u:Tok) (s:W1) (Q:Value→W1→Prop) (E:Value→W1→Prop),Q (.bool (g i j)) s→Wa (model X.prog X.w) X.A (f (.int i t) (.int j u)) Q E s) :
  OpR X f (rI0 fun i j=>.bl (g i j)):=by
 intro pins s σ H x y v u Q I rx ry h
 obtain ⟨i,j,rfl,rfl,q⟩:=h
 obtain ⟨t,rfl⟩:=rx
 obtain ⟨t',rfl⟩:=ry
 exact rule i j t t' s _ _ ⟨.bl (g i j),H,I,rfl,q⟩
def CDiv (i j:Int):Prop:=0 < j∧j < 1073741824
def CPow (i j:Int):Prop:=0≤j∧j≤1000000∧i.natAbs < 2 ^ 64
def CMul (i j:Int):Prop:=(-(2 ^ 64) < i∧i < 2 ^ 64)∨(-(2 ^ 64) < j∧j < 2 ^ 64)
theorem CMul.ok (h:CMul i j):IntMulOk i j:=by
 rcases h with ⟨h1,h2⟩ | ⟨h1,h2⟩
 ·exact .of_left (intBits_le_64 h1 h2)
 ·exact .of_right (intBits_le_64 h1 h2)
theorem op_add:OpR X (Q1 .Add) (rI0 fun i j=>.int (i + j)):=opI0 fun _ _ _ _ _ _ _ q=>add_int q
theorem z8Y:OpR X (Q1 .Sub) (rI0 fun i j=>.int (i - j)):=opI0 fun _ _ _ _ _ _ _ q=>sub_int q
theorem op_mul:OpR X (Q1 .Mult) (rI CMul fun i j=>.int (i * j)):=opI fun _ _ _ _ _ _ _ hc q=>mul_int q hc.ok
theorem z92:OpR X (Q1 .FloorDiv) (rI CDiv fun i j=>.int (i / j)):=opI fun i j _ _ _ _ _ hc q=>by
 have h1:(0:Int) < j:=hc.1
 have h2:j < 1073741824:=hc.2
 exact floordiv_int (by omega) (by rw [Int.fdiv_eq_ediv_of_nonneg i (by omega)]; exact q) (.inl (PyProof.noPylong_small (by omega)))
theorem z4w:OpR X (Q1 .Mod) (rI (fun _ j=>0 < j) fun i j=>.int (i % j)):=opI fun i j _ _ _ _ _ hc q=>by
 have h1:(0:Int) < j:=hc
 exact mod_int' (by omega) (by rw [Int.fmod_eq_emod_of_nonneg i (by omega)]; exact q)
theorem zb1:OpR X (Q1 .Pow) (rI CPow fun i j=>.int (i ^ j.toNat)):=opI fun _ _ _ _ _ _ _ hc q=>pow_int_small hc.1 hc.2.1 hc.2.2 q
theorem unI {f:Value→Sem Value} {g:Int→Int}
  (rule:∀ (i:Int) (t:Tok) (s:W1) (Q:Value→W1→Prop) (E:Value→W1→Prop),Q (.int (g i) s.toks) { s with toks:=s.toks + 1 }→Wa (model X.prog X.w) X.A (f (.int i t)) Q E s) :
  UnR X f (rU fun i=>.int (g i)):=by
 intro pins s σ H x v Q I rx h
 obtain ⟨i,rfl,q⟩:=h
 obtain ⟨t,rfl⟩:=rx
 exact rule i t s _ _ ⟨.int (g i),H,I.tok _,⟨_,rfl⟩,q⟩
theorem zcv:UnR X (unaryOp .USub) (rU fun i=>.int (-i)):=unI fun _ _ _ _ _ q=>neg_int q
end
section
variable {X:Cx} {a b c:Expr} {ta tb tc:TE} {pos:Pos}
theorem zbd (I:Inv X pins σ H s) (q:Q (.bl k) H) (e:k=k'):EP X pins σ Q (.bool k') s:=by
 subst e
 exact ⟨.bl k,H,I,rfl,q⟩
theorem op_lt:OpR X (Ww .Lt) (rI0 fun i j=>.bl (decide (i < j))):=opB0 fun _ _ _ _ _ _ _ q=>lt_int q
theorem op_le:OpR X (Ww .LtE) (rI0 fun i j=>.bl (decide (i≤j))):=opB0 fun _ _ _ _ _ _ _ q=>le_int q
theorem op_gt:OpR X (Ww .Gt) (rI0 fun i j=>.bl (decide (j < i))):=opB0 fun _ _ _ _ _ _ _ q=>gt_int q
theorem op_ge:OpR X (Ww .GtE) (rI0 fun i j=>.bl (decide (j≤i))):=opB0 fun _ _ _ _ _ _ _ q=>ge_int q
theorem z91:OpR X (Ww .Lt) (fun x y H Q=>∃ i j,x = .str i∧y = .str j∧Q (.bl (decide (i.cps.toList < j.cps.toList))) H):=by
 intro pins s σ H x y v u Q I rx ry h
 obtain ⟨i,j,rfl,rfl,q⟩:=h
 obtain ⟨t,rfl⟩:=rx
 obtain ⟨t',rfl⟩:=ry
 exact lt_str (zbd I q rfl)
theorem z6e:OpR X (Ww .NotIn) (fun x y H Q=>∃ i j,x = .str i∧y = .str j∧Q (.bl (!(!(Builtin.Str.occurrences j i 0 j.length 1).isEmpty))) H):=by
 intro pins s σ H x y v u Q I rx ry h
 obtain ⟨i,j,rfl,rfl,q⟩:=h
 obtain ⟨t,rfl⟩:=rx
 obtain ⟨t',rfl⟩:=ry
 exact notIn_str (zbd I q rfl)
theorem OpR.or (h:OpR X f r) (h':OpR X f r'):OpR X f (fun x y H Q=>r x y H Q∨r' x y H Q):=by
 intro pins s σ H x y v u Q I rx ry q
 rcases q with q | q
 ·exact h pins s σ H x y v u Q I rx ry q
 ·exact h' pins s σ H x y v u Q I rx ry q
theorem z1G (b:Expr) (h:op≠.In:=by decide) (h2:op≠.NotIn:=by decide):Q6 op b=false:=by
 have e1:(op == CmpOp.In)=false:=by cases op <;> first | rfl | exact absurd rfl h
 have e2:(op == CmpOp.NotIn)=false:=by cases op <;> first | rfl | exact absurd rfl h2
 cases b <;> simp [Q6,e1,e2]
theorem z8Q {op:CmpOp} {r:R2} (ho:OpR X (Ww op) r) (ha:PE X a ta) (hb:PE X b tb) (hm:Q6 op b=false):PE X (.Compare a [op] [b] pos) (tOp r ta tb):=by
 intro pins s σ H Q I h
 exact wpAny_Compare1 (binT ha hb I h fun v u s2 x y H2 I2 rx ry q=>ho pins s2 σ H2 x y v u Q I2 rx ry q) hm
def tTest (t:TE):TT:=fun σ H Q=>t σ H fun x H'=>∃ k,x = .bl k∧Q k H'
theorem z8I (ho:OpR X (Ww op) r) (ha:PE X a ta) (hb:PE X b tb) (hm:Q6 op b=false):PT X (.Compare a [op] [b] pos) (tTest (tOp r ta tb)):=by
 intro pins s σ H Q I h
 refine wpAny_isTrue_Compare1 (thn (ha pins s σ H _ I h) fun v s1 ⟨x,H1,I1,r1,q1⟩=>thn (hb pins s1 σ H1 _ I1 q1) fun u s2 ⟨y,H2,I2,r2,q2⟩ =>
  thn (ho pins s2 σ H2 x y v u _ I2 r1 r2 q2) fun c s3 ⟨z,H3,I3,r3,k,e,q3⟩=>?_) hm
 subst e
 cases r3
 exact Qh ⟨H3,I3,q3⟩
theorem z5f:(W6:Nat) < 2 ^ 63:=by rw [Qu]; decide
theorem op_add_str:OpR X (Q1 .Add) (fun x y H Q=>∃ i j,x = .str i∧y = .str j∧i.length + j.length≤W6∧Q (.str (i ++ j)) H):=by
 intro pins s σ H x y v u Q I rx ry h
 obtain ⟨i,j,rfl,rfl,hz,q⟩:=h
 obtain ⟨t,rfl⟩:=rx
 obtain ⟨t',rfl⟩:=ry
 exact add_str (fun t' tk=>⟨.str (i ++ j),H,I.tok _,⟨_,rfl⟩,q⟩) hz
theorem z3B (r:Vals [x] us):∃ u,us=[u]∧RelV x u:=by
 cases r with
 | cons r1 r2=>cases r2; exact ⟨_,rfl,r1⟩
theorem zbo (r:Vals [x,y] us):∃ u w',us=[u,w']∧RelV x u∧RelV y w':=by
 cases r with
 | cons r1 r2 =>
  cases r2 with
  | cons r3 r4=>cases r4; exact ⟨_,_,rfl,r1,r3⟩
theorem z9J (hc:X.calm=true):CallR X (.builtin "max") (fun xs H Q=>∃ i j,xs=[.int i,.int j]∧Q (.int (if j > i then j else i)) H):=by
 intro pins s σ H xs us Q I r h
 obtain ⟨i,j,rfl,q⟩:=h
 obtain ⟨u,w',rfl,⟨t,rfl⟩,⟨t',rfl⟩⟩:=zbo r
 refine max_two_ints (I.ok.hd hc) fun h' tk k=>⟨_,H,I.kept k,?_,q⟩
 by_cases hj:j > i
 ·rw [if_pos hj,if_pos hj]; exact ⟨_,rfl⟩
 ·rw [if_neg hj,if_neg hj]; exact ⟨_,rfl⟩
theorem z9L:CallR X (.type "int") (fun xs H Q=>(∃ i,xs=[.int i]∧Q (.int i) H)∨∃ k,xs=[.bl k]∧Q (.int (if k then 1 else 0)) H):=by
 intro pins s σ H xs us Q I r h
 rcases h with ⟨i,rfl,q⟩ | ⟨k,rfl,q⟩
 ·obtain ⟨u,rfl,t,rfl⟩:=z3B r
  exact call_int_int ⟨.int i,H,I,⟨_,rfl⟩,q⟩
 ·obtain ⟨u,rfl,r1⟩:=z3B r
  cases r1
  exact call_int_bool ⟨.int (if k then 1 else 0),H,I.tok _,⟨_,rfl⟩,q⟩
end
structure ObjM (h:Heap) (x dx C:Addr) (mA:Str→Option Value):Prop where
 obj:h.get? x=some (PySem.W.instObj C dx)
 ns:h.Ns1 dx mA
 ne:dx≠x
theorem z99 {h:Heap} {dx:Addr} {mA:Str→Option Value} (n:h.Ns1 dx mA):∃ od,h.get? dx=some od∧∀ name,PySem.W.lookIn name od=some (mA name):=by
 obtain ⟨o,es,ep,ho,hd,hk,_,hm⟩:=n
 refine ⟨o,ho,fun name=>?_⟩
 have e:=hm name
 unfold nsFind findBy at e
 rw [← Array.find?_toList] at e
 unfold PySem.W.lookIn
 rw [hd]
 dsimp only
 split
 ·rename_i y q
  rw [q] at e
  exact congrArg some e
 ·rename_i q
  rw [q] at e
  have a:es.toList.any (·.refKey)=false:=by
   rw [List.any_eq_false]
   intro y hy
   obtain ⟨z,t,hkey⟩:=hk y (Array.mem_toList_iff.mp hy)
   simp [DictEntry.refKey,hkey]
  have a':¬ es.toList.any (·.refKey)=true:=by rw [a]; exact Q2
  rw [if_neg a']
  exact congrArg some e
theorem ObjM.look (I:ObjM h x dx C mA):∃ od,PySem.W.InstAt h x (PySem.W.instObj C dx) C (some od)∧∀ name,PySem.W.lookIn name od=some (mA name) :=
 let ⟨od,ho,hl⟩:=z99 I.ns
 ⟨od,⟨I.obj,rfl,rfl,ho⟩,hl⟩
section
variable {prog:Wi} {w:Wp} {A:Wn} {E:Value→W1→Prop} {s:W1} {K:W0} {x dx C f:Addr} {mA:Str→Option Value} {name:Str} {v:Value}
end
theorem RelO.some_of (r:RelO (some v) o):∃ u,o=some u∧RelV v u:=by
 cases o with
 | none=>exact (show False from r).elim
 | some u=>exact ⟨u,rfl,r⟩
section
variable {P:Wi} {w:Wp} {H H':Hp} {h h':Heap} {a C dx:Addr} {fs fs':List (Str×V)}
theorem zcd (hok:HOk P w H h) (e:H a=some (.ins C dx fs)):∃ mA,ObjM h a dx C mA∧(∀ f,RelO (fs.lookup f) (mA f))∧PySem.Within mA (fs.map (·.1))∧fs.length≤1000∧H dx=some (.own a):=by
 obtain ⟨d,z,ne,ob,mA,n,r,q⟩:=(show ObjOk P w H h a (.ins C dx fs) from hok a _ e)
 exact ⟨mA,⟨ob,n,ne⟩,r,q,z,d⟩
end
structure Cls (K:W0) (C:Addr):Prop where
 pg:PySem.W.plainGet K C Str.empty=true
 hd:PySem.W.hasDictIn K C=true
 po:PySem.W.plainOver K C=true
 sa:QP K (.ref C) "__setattr__" = some (some (.builtin "object.__setattr__"))
theorem Cls.get {K:W0} {C:Addr} (c:Cls K C) (f:Str):PySem.W.plainGet K C f=true:=c.pg
structure Con (K:W0) (C:Addr) (f:Str) (v:V) (u:Value):Prop where
 at_:QP K (.ref C) f=some (some u)
 rel:RelV v u
 get:PySem.W.specialIn K u "__get__" = some none
 cp:PySem.W.copiedNames.contains f=false
structure Meth (K:W0) (C:Addr) (m:Str) (f:Addr):Prop where
 at_:QP K (.ref C) m=some (some (.ref f))
 fn:PySem.W.isFn K (.ref f)=true
 kp:WX K (.ref f)=true
section
variable {X:Cx} {pins:List (Addr×Obj)} {σ:St} {H:Hp} {s:W1} {a C dx:Addr} {fs:List (Str×V)} {f:Str} {v:V} {A:Wn} {E:Value→W1→Prop}
end
section
variable {X:Cx} {o e value:Expr} {f:Str} {pos pos' tpos:Pos} {ta tv:TE}
end
section
variable {X:Cx} {pins:List (Addr×Obj)} {σ:St} {H:Hp} {s:W1} {A:Wn} {E:Value→W1→Prop} {Q:Value→W1→Prop} {c:Value} {b:Bool}
inductive TyOf (K:W0) (H:Hp):V→Value→Prop where
 | non:TyOf K H .non (.type "NoneType")
 | bl (x:Bool):TyOf K H (.bl x) (.type "bool")
 | int (i:Int):TyOf K H (.int i) (.type "int")
 | str (x:Str):TyOf K H (.str x) (.type "str")
 | flt (x:UInt64):TyOf K H (.flt x) (.type "float")
 | lst {a:Addr} {xs:List V} (e:H a=some (.lst xs)):TyOf K H (.ref a) (.type "list")
 | frz {a:Addr} {o:Obj} {xs:List V} (e:H a=some (.frz o (.lst xs))):TyOf K H (.ref a) (.type "list")
 | tup {a:Addr} {xs:List V} (e:H a=some (.tup xs)):TyOf K H (.ref a) (.type "tuple")
 | dK {a:Addr} {kvs:List (Key×V)} (e:H a=some (.dK kvs)):TyOf K H (.ref a) (.type "dict")
 | dT {a:Addr} {kvs:List (List Key×V)} (e:H a=some (.dT kvs)):TyOf K H (.ref a) (.type "dict")
 | ins {a C dx:Addr} {fs:List (Str×V)} (e:H a=some (.ins C dx fs)) (cl:Cls K C) (ha:QP K (.ref C) "__class__" = some (some (.builtin "object.__class__")))
   (hn:PySem.W.specialIn K (.builtin "object.__class__") "__get__" = some (some (.builtin "getset_descriptor.__get__"))) (htk:PySem.W.takesIn K (.builtin "object.__class__")=some true)
   (hm:PySem.W.mroIn K C (.type "object")=some true):TyOf K H (.ref a) (.ref C)
theorem z1D (I:Inv X pins σ H s) (rx:RelV x u) (ty:TyOf X.K H x t) (e:Qc X.K t c=some b) (h:∀ tk,Q (.bool b) { s with toks:=tk }) :
  Wa (model X.prog X.w) A (call (.builtin "isinstance") [u,c]) Q E s:=by
 cases ty with
 | non=>cases (show u=Value.none from rx); exact WL PySem.W.kitx_none I.kIn True.intro e (fun z=>nomatch z) h
 | bl y=>cases (show u=Value.bool y from rx); exact WL PySem.W.kitx_bool I.kIn True.intro e (fun z=>nomatch z) h
 | int i=>obtain ⟨t,q⟩:=(show ∃ t,u=Value.int i t from rx); cases q; exact WL PySem.W.kitx_int I.kIn True.intro e (fun z=>nomatch z) h
 | str y=>obtain ⟨t,q⟩:=(show ∃ t,u=Value.str y t from rx); cases q; exact WL PySem.W.kitx_str I.kIn True.intro e (fun z=>nomatch z) h
 | flt y=>obtain ⟨t,q⟩:=(show ∃ t,u=Value.float y t from rx); cases q; exact WL PySem.W.kitx_float I.kIn True.intro e (fun z=>nomatch z) h
 | @lst a xs ea =>
  cases (show u=Value.ref a from rx)
  obtain ⟨_,_,n,_,h1⟩:=(show ObjOk X.prog X.w H s.heap a (.lst xs) from I.hok a _ ea)
  exact WL PySem.W.kitx_list I.kIn ⟨_,h1,rfl⟩ e (fun z=>nomatch z) h
 | @frz a ob xs ea =>
  cases (show u=Value.ref a from rx)
  obtain ⟨_,_,_,n,_,h1⟩:=(show ObjOk X.prog X.w H s.heap a (.frz ob (.lst xs)) from I.hok a _ ea)
  exact WL PySem.W.kitx_list I.kIn ⟨_,h1,rfl⟩ e (fun z=>nomatch z) h
 | @tup a xs ea =>
  cases (show u=Value.ref a from rx)
  obtain ⟨_,_,_,p⟩:=(show ObjOk X.prog X.w H s.heap a (.tup xs) from I.hok a _ ea)
  obtain ⟨o,h1,h2,_⟩:=p.tup
  exact WL PySem.W.kitx_tuple I.kIn ⟨o,h1,h2⟩ e (fun z=>nomatch z) h
 | @dK a kvs ea =>
  cases (show u=Value.ref a from rx)
  obtain ⟨_,_,vs,_,p⟩:=(show ObjOk X.prog X.w H s.heap a (.dK kvs) from I.hok a _ ea)
  obtain ⟨o,es,ep,h1,h2,_⟩:=p
  exact WL PySem.W.kitx_dict I.kIn ⟨o,h1,h2.1⟩ e (fun z=>nomatch z) h
 | @dT a kvs ea =>
  cases (show u=Value.ref a from rx)
  obtain ⟨_,_,xs,_,o,es,ep,h1,h2,_⟩:=(show ObjOk X.prog X.w H s.heap a (.dT kvs) from I.hok a _ ea)
  exact WL PySem.W.kitx_dict I.kIn ⟨o,h1,h2.1⟩ e (fun z=>nomatch z) h
 | @ins a C dx fs ea cl ha hn htk hm =>
  cases (show u=Value.ref a from rx)
  obtain ⟨mA,O,_⟩:=zcd I.hok ea
  obtain ⟨od,J,_⟩:=O.look
  exact WL (PySem.W.kitx_own (cl.get _) cl.hd ha hn htk hm) I.kIn J e (fun z=>nomatch z) h
end
structure Room (k:Nat) (A:Wn):Prop where
 hd:A.handled=none
 dp:A.depth + 3 * k + 5 < recursionLimit
 un:A.units + 16 * k + 200 < Q8
theorem Room.mono (r:Room k A) (h:j≤k):Room j A:=⟨r.hd,by have:=r.dp; omega,by have:=r.un; omega⟩
theorem Room.deeper (r:Room (k + 1) A) (env:Env):Room k (A.deeper env) :=
 ⟨r.hd,by have:=r.dp; show A.depth + 1 + 3 * k + 5 < _; omega,by have:=r.un; show A.units + 3 + 16 * k + 200 < _; omega⟩
theorem Room.in1 (r:Room (k + 1) A):Room k A.in1 :=
 ⟨r.hd,by have:=r.dp; show A.depth + 3 * k + 5 < _; omega,by have:=r.un; show A.units + 1 + 16 * k + 200 < _; omega⟩
theorem Room.depth (r:Room k A):A.depth < recursionLimit:=by have:=r.dp; omega
theorem Room.units (r:Room k A):A.units + 64 < Q8:=by have:=r.un; omega
def tNil:TA:=fun _ H Q=>Q [] H
def zbu (ta:TE) (tr:TA):TA:=fun σ H Q=>ta σ H fun x H1=>tr σ H1 fun xs H2=>Q (x :: xs) H2
section
variable {X:Cx} {e:Expr} {es:List Expr} {te:TE} {t:TA} {pos:Pos}
theorem z1S:PA X [] tNil:=fun _ _ _ _ H Q I h=>Calls.spliced_nil ⟨[],H,I,.nil,h⟩
theorem z0X (ha:PE X e te) (hr:PA X es t) (hs:W5 (e :: es) X.env=(false,eval e X.env) :: W5 es X.env:=by rfl):PA X (e :: es) (zbu te t):=by
 intro pos pins s σ H Q I h
 rw [hs]
 show Wa _ _ (spliced ((false,eval e X.env) :: WK pos (W5 es X.env))) _ _ s
 refine Calls.spliced_cons (thn (ha pins s σ H _ I h) fun u s1 ⟨x,H1,I1,r1,q1⟩=>?_)
 exact thn (hr pos pins s1 σ H1 _ I1 q1) fun us s2 ⟨xs,H2,I2,r2,q2⟩=>⟨x :: xs,H2,I2,.cons r1 r2,q2⟩
def tTup (t:TA):TE:=fun σ H Q=>t σ H fun xs H1=>xs.length≤W6∧∀ p,H1 p=none→Q (.ref p) (upd H1 p (.tup xs))
def tLst (t:TA):TE:=fun σ H Q=>t σ H fun xs H1=>xs.length≤W6∧∀ p,H1 p=none→Q (.ref p) (upd H1 p (.lst xs))
theorem zd8 {x1} (h:PA X es t):PE X (.Tuple es x1 pos) (tTup t):=by
 intro pins s σ H Q I hq
 refine wpAny_Tuple_spliced (thn (h pos pins s σ H _ I hq) fun us s1 ⟨xs,H1,I1,r,z,q⟩=>⟨by rw [← r.length]; exact z,?_⟩)
 have hf:H1 s1.heap.objs.size=none:=I1.hok.fresh (Wc _)
 refine ⟨.ref s1.heap.objs.size,upd H1 s1.heap.objs.size (.tup xs),I1.laid (t':=s1.toks) (fun b u e=>W7 _ e) (Wc _) ?_,rfl,q _ hf⟩
 exact ⟨z,us,r,⟨_,Wr _ rfl⟩⟩
theorem zdd (h:PA X es t):PE X (.List es pos) (tLst t):=by
 intro pins s σ H Q I hq
 refine wpAny_List_spliced (thn (h pos pins s σ H _ I hq) fun us s1 ⟨xs,H1,I1,r,z,q⟩=>⟨by rw [← r.length]; exact z,?_⟩)
 have hf:H1 s1.heap.objs.size=none:=I1.hok.fresh (Wc _)
 refine ⟨.ref s1.heap.objs.size,upd H1 s1.heap.objs.size (.lst xs),I1.laid (t':=s1.toks) (fun b u e=>W7 _ e) (Wc _) ?_,rfl,q _ hf⟩
 exact ⟨z,us,0,r,Wr _ rfl⟩
end
abbrev Sp:=List V→Hp→VK→XK→Prop
abbrev CXT:=List Env→Hp→W1→XK→Value→W1→Prop
structure Env0 (P:Wi) (w:Wp) (K:W0) (mg:Str→Option Value) (base:Heap) (A:Wn) (outer:List Env) (s:W1) (H:Hp):Prop where
 frames:A.frames=some outer
 mod:Mod K mg base
 bs:∀ b o,base.get? b=some o→s.heap.get? b=some o∧H b=none
 bsz:base.objs.size≤s.heap.objs.size
 funs:s.heap.FunFrames base outer
 frf:∀ b ∈ frs outer,H b=none
 hok:HOk P w H s.heap
 bare:AllBare s.gens
def CE (outer:List Env) (P:Wi) (w:Wp) (H:Hp) (s:W1) (Q:VK) (u:Value) (s':W1):Prop :=
 ∃ v H',s'.os=s.os∧AllBare s'.gens∧Un (frs outer) [] H H' s.heap s'.heap∧HOk P w H' s'.heap∧RelV v u∧Q v H'
def CR (CX:CXT) (outer:List Env) (P:Wi) (w:Wp) (H:Hp) (s:W1) (Q:VK) (E:XK) (r:Result) (s':W1):Prop :=
 match r with
 | .ok (.ret u)=>CE outer P w H s Q u s'
 | .ok _=>False
 | .error e=>CX outer H s E e s'
structure FnOk (P:Wi) (w:Wp) (K:W0) (mg:Str→Option Value) (base:Heap) (CX:CXT) (k:Nat) (f:Addr) (fd:Wx) (ps:List Str) (sp:Sp):Prop where
 len:∀ vs H Q E,sp vs H Q E→vs.length=ps.length
 run:∀ (A:Wn) (outer:List Env) (s:W1) (H:Hp) (args:Args) (us:List Value) (vs:List V) (Q:VK) (E:XK),Room k A→Env0 P w K mg base A outer s H→BindsTo s fd args (ps.zip us)→Vals vs us→sp vs H Q E →
  Qw (model P w) A (.call (.ref f) args) (CR CX outer P w H s Q E) s
theorem FnOk.mono {P:Wi} {w:Wp} {K:W0} {mg:Str→Option Value} {base:Heap} {CX:CXT} {j k:Nat} {f:Addr} {fd:Wx} {ps:List Str} {sp:Sp} (F:FnOk P w K mg base CX j f fd ps sp) (h:j≤k) :
  FnOk P w K mg base CX k f fd ps sp:=⟨F.len,fun A outer s H args us vs Q E hr=>F.run A outer s H args us vs Q E (hr.mono h)⟩
theorem FnOk.imp {P:Wi} {w:Wp} {K:W0} {mg:Str→Option Value} {base:Heap} {CX:CXT} {k:Nat} {f:Addr} {fd:Wx} {ps:List Str} {sp sp':Sp} (F:FnOk P w K mg base CX k f fd ps sp)
  (h:∀ vs H Q E,sp' vs H Q E→sp vs H Q E):FnOk P w K mg base CX k f fd ps sp' :=
 ⟨fun vs H Q E q=>F.len vs H Q E (h _ _ _ _ q),fun A outer s H args us vs Q E hr he hb hv hs=>F.run A outer s H args us vs Q E hr he hb hv (h _ _ _ _ hs)⟩
theorem Env0.in1 {P:Wi} {w:Wp} {K:W0} {mg:Str→Option Value} {base:Heap} {A:Wn} {outer:List Env} {s:W1} {H:Hp} (e:Env0 P w K mg base A outer s H) :
  Env0 P w K mg base A.in1 outer s H:=⟨e.frames,e.mod,e.bs,e.bsz,e.funs,e.frf,e.hok,e.bare⟩
section
variable {X:Cx} {pins:List (Addr×Obj)} {σ:St} {H:Hp} {s s':W1}
theorem Inv.env0 (I:Inv X pins σ H s):Env0 X.prog X.w X.K X.mg X.base X.A X.stack s H :=
 ⟨I.ok.frames,I.ok.mod,I.bs,Q0 I.ok.bsz I.sz,I.stack,I.stkFree,I.hok,I.bare⟩
theorem Inv.after (I:Inv X pins σ H s) (h:CE X.stack X.prog X.w H s Q u s'):EP X pins σ Q u s':=by
 obtain ⟨v,H',os,bare,un,hok,r,q⟩:=h
 obtain ⟨hh,g,d,t,os'⟩:=s'
 obtain rfl:os'=s.os:=os
 exact ⟨v,H',I.call (h':=hh) (g':=g) (d':=d) (t':=t) (ch:=[]) un hok bare (fun b z=>absurd z (by simp)),r,q⟩
end
def z9U (sp:Sp) (dvs:List V) (E:XK) (t:TA):TE:=fun σ H Q=>t σ H fun vs H1=>sp (vs ++ dvs) H1 Q E
def Binds (K:W0) (fd:Wx) (ps:List Str) (ds:List Value):Prop :=
 ∀ (s:W1) (us:List Value),K.In s.heap→(us ++ ds).length=ps.length→BindsTo s fd ⟨us,[]⟩ (ps.zip (us ++ ds))
theorem Binds.all {K:W0} {fd:Wx} {ps:List Str} (h:∀ us:List Value,us.length=ps.length→bindArgs fd ⟨us,[]⟩=pure (ps.zip us)):Binds K fd ps []:=fun s us _ hl=>by
 rw [WH] at hl ⊢
 exact .of_eq (h us hl)
def z9Q (CX:CXT) (X:Cx) (E:XK):Prop:=∀ (pins:List (Addr×Obj)) (σ:St) (H:Hp) (s:W1) (e:Value) (s':W1),Inv X pins σ H s→CX X.stack H s E e s'→X.xe e s'
section
variable {X:Cx} {CX:CXT} {k:Nat} {f C:Addr} {fd:Wx} {ps:List Str} {sp:Sp} {dvs:List V} {ds:List Value} {E:XK} {x m:Str} {p pos apos:Pos} {e o:Expr} {es:List Expr} {ta:TE} {t:TA}
theorem zcK (F:FnOk X.prog X.w X.K X.mg X.base CX k f fd ps sp) (hr:Room k X.A) (hb:Binds X.K fd ps ds) (hd:Vals dvs ds) (hx:z9Q CX X E)
  (I:Inv X pins σ H s) (r:Vals vs us) (h:sp (vs ++ dvs) H Q E):Wa (model X.prog X.w) X.A (call (.ref f) us) (EP X pins σ Q) X.xe s:=by
 have r2:Vals (vs ++ dvs) (us ++ ds):=r.append hd
 have hl:(us ++ ds).length=ps.length:=by rw [← r2.length]; exact F.len _ _ _ _ h
 refine wpAny_call (codeAny_mono (F.run X.A X.stack s H ⟨us,[]⟩ (us ++ ds) (vs ++ dvs) Q E hr I.env0 (hb s us I.kIn hl) r2 h) fun r s' hq=>?_)
 cases r with
 | error e=>exact hx pins σ H s e s' I hq
 | ok fl =>
  cases fl with
  | ret u=>exact I.after hq
  | next=>exact False.elim hq
  | brk=>exact False.elim hq
  | cont=>exact False.elim hq
theorem z8S (F:FnOk X.prog X.w X.K X.mg X.base CX k f fd ps sp) (hr:Room k X.A) (hg:Gl X x) (hm:X.mg x=some (.ref f)) (hk:WX X.K (.ref f)=true) (hb:Binds X.K fd ps ds) (hd:Vals dvs ds) (hx:z9Q CX X E)
  (ha:PA X (e :: es) t) (hdb:(x == ("__debug__" : Str))=false:=by decide) (he:W5 (e :: es) X.env=(false,eval e X.env) :: W5 es X.env:=by rfl) (hpl:(WK pos (W5 es X.env)).any (·.1)=false:=by rfl) :
  PE X (.Call (.Name x p) (e :: es) [] pos) (z9U sp dvs E t):=by
 intro pins s σ H Q I h
 refine QF (z3M I hg hm ?_ hdb)
 refine PySem.W.callWith_K (h₀:=X.base) I.ok.mod.kin hk (thn (ha pos pins s σ H _ I h) fun us s1 ⟨vs,H1,I1,r,q⟩=>⟨I1.kIn,?_⟩) he hpl
 exact zcK F hr hb hd hx I1 r q
structure Mk (K:W0) (C f:Addr):Prop where
 makes:PySem.W.makesIn K C=true
 init:QP K (.ref C) "__init__" = some (some (.ref f))
 fn:PySem.W.isFn K (.ref f)=true
 kp:WX K (.ref C)=true
end
section
variable {X:Cx} {CX:CXT} {k:Nat} {f C:Addr} {fd:Wx} {ps ks:List Str} {sp:Sp} {E:XK} {x m:Str} {p pos apos kpos:Pos} {e o:Expr} {es:List Expr} {kws:List Keyword} {te ta:TE} {t tk:TA} {nm:Option Str}
structure KBinds (K:W0) (fd:Wx) (ps ks:List Str) (g:List Value→List Value→List Value) (gV:List V→List V→List V):Prop where
 to:∀ (s:W1) (us ws:List Value),K.In s.heap→(g us ws).length=ps.length→BindsTo s fd ⟨us,ks.zip ws⟩ (ps.zip (g us ws))
 rel:∀ {vs:List V} {us:List Value} {zs:List V} {ws:List Value},Vals vs us→Vals zs ws→Vals (gV vs zs) (g us ws)
variable {g:List Value→List Value→List Value} {gV:List V→List V→List V}
end
structure FnScope (N P:List Str) (sc:Scope):Prop where
 kind:sc.kind = .function
 co:sc.isCoroutine=false
 gen:sc.isGenerator=false
 nd:N.Nodup
 pre:N.take P.length=P
 par:∀ x ∈ P,sc.names.lookup x=some .local∨sc.names.lookup x=some .cell
 nofree:∀ y ∈ sc.names,y.2≠.free
theorem z6J {kindOf:Str→Option NameKind} {x:Str}:∀ {binds:List (Str×Value)} {m:Str→Option Value},(∀ v,(x,v) ∉ binds)→bindL kindOf binds m x=m x
 | [],_,_=>rfl
 | (n,v) :: r,m,h=>by
  unfold bindL
  rw [z6J fun w hw=>h w (Wj _ hw)]
  split
  ·have:x≠n:=by rintro rfl; exact h v Wo
   simp [this]
  ·rfl
theorem z6L {kindOf:Str→Option NameKind} {x:Str}:∀ {binds:List (Str×Value)} {m:Str→Option Value},(∀ v,(x,v) ∉ binds)→bindC kindOf binds m x=m x
 | [],_,_=>rfl
 | (n,v) :: r,m,h=>by
  unfold bindC
  rw [z6L fun w hw=>h w (Wj _ hw)]
  split
  ·rfl
  ·have:x≠n:=by rintro rfl; exact h v Wo
   simp [this]
theorem z6K {kindOf:Str→Option NameKind} {x:Str} {v:Value}:∀ {P:List Str} {vs:List Value} {i:Nat} {m:Str→Option Value},P.Nodup→P[i]? = some x→vs[i]? = some v→kindOf x=some .local →
  bindL kindOf (P.zip vs) m x=some v
 | [],_,_,_,_,h,_,_=>by simp at h
 | _ :: _,[],_,_,_,_,h,_=>by simp at h
 | p :: P,w :: vs,0,m,nd,h1,h2,hk=>by
  simp at h1 h2; subst h1; subst h2
  show bindL kindOf ((p,w) :: P.zip vs) m p=_
  unfold bindL
  rw [z6J fun v hv=>(QG.mp nd).1 (Jh hv).1,if_pos hk]
  simp
 | p :: P,w :: vs,i + 1,m,nd,h1,h2,hk=>by
  show bindL kindOf ((p,w) :: P.zip vs) m x=_
  unfold bindL
  exact z6K (i:=i) (QG.mp nd).2 (by simpa using h1) (by simpa using h2) hk
theorem z6M {kindOf:Str→Option NameKind} {x:Str} {v:Value}:∀ {P:List Str} {vs:List Value} {i:Nat} {m:Str→Option Value},P.Nodup→P[i]? = some x→vs[i]? = some v→kindOf x≠some .local →
  bindC kindOf (P.zip vs) m x=some v
 | [],_,_,_,_,h,_,_=>by simp at h
 | _ :: _,[],_,_,_,_,h,_=>by simp at h
 | p :: P,w :: vs,0,m,nd,h1,h2,hk=>by
  simp at h1 h2; subst h1; subst h2
  show bindC kindOf ((p,w) :: P.zip vs) m p=_
  unfold bindC
  rw [z6L fun v hv=>(QG.mp nd).1 (Jh hv).1,if_neg hk]
  simp
 | p :: P,w :: vs,i + 1,m,nd,h1,h2,hk=>by
  show bindC kindOf ((p,w) :: P.zip vs) m x=_
  unfold bindC
  exact z6M (i:=i) (QG.mp nd).2 (by simpa using h1) (by simpa using h2) hk
def z2A (N:List Str) (vs:List V):St:=vs.map some ++ W9 (N.length - vs.length) none
def cxOf (CX:CXT) (P:Wi) (w:Wp) (K:W0) (mg:Str→Option Value) (base:Heap) (N:List Str) (qual:Str) (scope:Scope) (f:Addr) (cd:Value) (A:Wn) (outer:List Env) (s:W1) (H:Hp) (E:XK):Cx where
 prog:=P
 w:=w
 K:=K
 mg:=mg
 base:=base
 A:=A.deeper (QH qual scope s.heap.objs.size f cd)
 N:=N
 s₀:=s
 H₀:=H
 env:=QH qual scope s.heap.objs.size f cd
 outer:=outer
 stack:=QH qual scope s.heap.objs.size f cd :: outer
 ex:=[]
 calm:=true
 fn:=fun _=>true
 pn:=[]
 xe:=fun e s'=>Wa (model P w) (A.deeper (QH qual scope s.heap.objs.size f cd)) (leaving (QH qual scope s.heap.objs.size f cd) e) (fun _ s''=>CX outer H s E e s'') (fun e' s''=>CX outer H s E e' s'') s'
theorem z7G {sc:Scope} {n:Nat} {x:Str} (h:sc.names.lookup x=some .cell):∃ c,(Q9 n sc.names []).lookup x=some c:=by
 have q:=QL sc.names n [] (.inl h)
 exact Qx.mp q
theorem z6u {CX:CXT} {P:Wi} {w:Wp} {K:W0} {mg:Str→Option Value} {base:Heap} {N ps:List Str} {qual:Str} {scope:Scope} {f:Addr} {cd:Value} {A:Wn} {outer:List Env} {s s1:W1} {H:Hp} {E:XK} {us:List Value} {vs:List V}
  (S:FnScope N ps scope) (hd:A.handled=none) (e0:Env0 P w K mg base A outer s H) (hl:vs.length=ps.length) (r:Vals vs us)
  (x:InCallC s s.heap.objs.size (bindL (QH qual scope s.heap.objs.size f cd).kindOf (ps.zip us) fun _=>none) (Q9 (s.heap.objs.size + 1) scope.names []) (bindC (QH qual scope s.heap.objs.size f cd).kindOf (ps.zip us) fun _=>none) s1) :
  Inv (cxOf CX P w K mg base N qual scope f cd A outer s H E) [] (z2A N vs) H s1:=by
 have hpl:ps.length≤N.length:=by have:=congrArg QM S.pre; rw [Je] at this; omega
 obtain ⟨h1,tk,rfl,hk⟩:=x.done
 have noA:∀ b:Addr,b ∉ (cxOf CX P w K mg base N qual scope f cd A outer s H E).ex:=fun b z=>absurd (show b ∈ ([]:List Addr) from z) (by simp)
 refine ⟨⟨e0.mod,S.kind,rfl,rfl,Wc _,fun y z c h1 h2=>?_,fun y hy=>?_,fun y c _ h=>?_,fun _=>hd,Around.frames_deeper e0.frames,.inr ⟨rfl,rfl⟩,fun b z=>absurd z (noA b),e0.bs,e0.bsz,fun b _ _=>noA b,fun b z=>absurd z (noA b),e0.funs,e0.frf⟩,
  rfl,e0.bare,Un.kept hk,⟨_,x.toInCall.ns,fun i y v h1 h2 h3=>?_⟩,fun y c h=>⟨_,x.cell y c h⟩,e0.hok.fresh (Wc _),fun y c h=>?_,fun p hp=>absurd (show p ∈ ([]:List (Addr×Obj)) from hp) (by simp),e0.hok.kept hk,?_⟩
 ·exact name_of_addr x.apart (Ws h1) (Ws h2)
 ·have hy:scope.names.lookup y=some .cell∨scope.names.lookup y=some .free:=hy
  rcases hy with hy | hy
  ·exact z7G hy
  ·exact absurd rfl (S.nofree _ (Ws hy))
 ·exact Jg (x.above y c (Ws h))
 ·have hi:i < vs.length:=by
   unfold z2A at h2
   by_cases hi:i < vs.length
   ·exact hi
   ·rw [List.getElem?_append_right (by simpa using hi)] at h2
    rw [List.getElem?_replicate] at h2
    split at h2 <;> cases h2
  have ha:vs[i]? = some v:=by
   unfold z2A at h2
   rw [Qs (by simpa using hi),Wz] at h2
   cases e:vs[i]? with
   | none=>rw [e] at h2; cases h2
   | some a=>rw [e] at h2; cases h2; rfl
  obtain ⟨u,hu,rv⟩:=r.get ha
  have hp:ps[i]? = some y:=by
   rw [← S.pre,List.getElem?_take_of_lt (by omega)]; exact h1
  have ndP:ps.Nodup:=by rw [← S.pre]; exact S.nd.sublist (List.take_sublist _ _)
  refine ⟨u,rv,?_⟩
  rcases S.par y (Wv hp) with k | k
  ·exact .inl ⟨k,z6K ndP hp hu k⟩
  ·obtain ⟨c,e⟩:=z7G (n:=s.heap.objs.size + 1) k
   refine .inr ⟨.inl k,c,e,?_⟩
   have q:=x.cell y c e
   rw [z6M ndP hp hu (by show scope.names.lookup y≠_; rw [k]; decide)] at q
   exact q
 ·exact e0.hok.fresh (Jg (x.above y c (Ws h)))
 ·unfold z2A
  show _=N.length
  rw [Qd,Wy,List.length_replicate]
  omega
theorem zdL {CX:CXT} {P:Wi} {w:Wp} {K:W0} {mg:Str→Option Value} {base:Heap} {k:Nat} {f:Addr} {name qual:Str} {params:Arguments} {body:List Stmt} {scope:Scope} {dV kV doc pm cdv ct oc:Value} {an od:Option Addr}
  {osl:Array (Option Value)} {N ps:List Str} {sp:Sp} (lk:K.lookup f=some ⟨oc,od,.func (Qg name qual params body scope dV kV doc pm an cdv ct),osl⟩) (hcd:PySem.W.codeIn K cdv qual=true) (S:FnScope N ps scope)
  (len:∀ vs H Q E,sp vs H Q E→vs.length=ps.length)
  (hbody:∀ (A:Wn) (outer:List Env) (s:W1) (H:Hp) (vs:List V) (Q:VK) (E:XK),Room k (A.deeper (QH qual scope s.heap.objs.size f cdv))→sp vs H Q E →
   ∃ t,PSs (cxOf CX P w K mg base N qual scope f cdv A outer s H E) body t∧t { nx:=fun _ H'=>Q .non H',rt:=Q } (z2A N vs) H) :
  FnOk P w K mg base CX (k + 1) f (Qg name qual params body scope dV kV doc pm an cdv ct) ps sp:=by
 refine ⟨len,fun A outer s H args us vs Q E hr e0 hb r hsp=>?_⟩
 have hl:=len _ _ _ _ hsp
 have KX:K.In s.heap:=e0.mod.kin.keeps fun b o e=>(e0.bs b o e).1
 have lim:s.heap.NoLimit:=e0.mod.nolimit.keeps fun b o e=>(e0.bs b o e).1
 have hkind:∀ y ∈ ps.zip us,scope.names.lookup y.1=some .local∨(scope.names.lookup y.1=some .cell∧((Q9 (s.heap.objs.size + 1) scope.names []).lookup y.1).isSome=true):=fun ⟨n,v⟩ hy=>by
  rcases S.par n (Jh hy).1 with q | q
  ·exact .inl q
  ·exact .inr ⟨q,QL _ _ _ (.inl q)⟩
 refine codeAny_call_function hr.depth (KX _ _ lk) rfl S.co S.gen rfl (PySem.W.codeRec_of KX hcd) (hb _ _ _ _ ?_)
 refine wpAny_newFunctionEnv_cells S.kind hkind fun env he s1 x=>?_
 subst he
 refine ⟨lim.keeps x.toInCall.keep,codeAny_func ?_⟩
 obtain ⟨t,ht,hq⟩:=hbody A outer s H vs Q E (hr.deeper _) hsp
 have I:Inv (cxOf CX P w K mg base N qual scope f cdv A outer s H E) [] (z2A N vs) H s1:=z6u S hr.hd e0 hl r x
 refine WE (ht [] s1 (z2A N vs) H _ I hq) (fun fl s' hs=>?_) fun e s' hs=>hs
 have fin:∀ {σ':St} {H':Hp} {v:V} {u:Value},Inv (cxOf CX P w K mg base N qual scope f cdv A outer s H E) [] σ' H' s'→RelV v u→Q v H'→CE outer P w H s Q u s' :=
  fun {σ' H' v u} J rv q=>⟨v,H',J.os,J.bare,J.base,J.hok,rv,q⟩
 cases fl with
 | ret u =>
  obtain ⟨v,σ',H',J,rv,q⟩:=hs
  exact fin J rv q
 | next =>
  obtain ⟨σ',H',J,q⟩:=hs
  exact fin (v:=V.non) (u:=Value.none) J rfl q
 | brk =>
  obtain ⟨_,_,_,q⟩:=hs
  exact False.elim q
 | cont =>
  obtain ⟨_,_,_,q⟩:=hs
  exact False.elim q
section
variable {X:Cx} {x:Str} {p pos:Pos} {e:Expr} {es:List Expr} {t:TA} {id T:String} {r:List V→Hp→VK→Prop}
def tCB (r:List V→Hp→VK→Prop) (t:TA):TE:=fun σ H Q=>t σ H fun vs H1=>r vs H1 Q
theorem z3i (hc:CallR X (.builtin id) r) (hg:Gl X x) (hm:X.mg x=none) (hv:WW x=some (.builtin id)) (ha:PA X (e :: es) t) (hn:x≠"__name__":=by decide) (hdb:(x == ("__debug__" : Str))=false:=by decide)
  (he:W5 (e :: es) X.env=(false,eval e X.env) :: W5 es X.env:=by rfl) (hpl:(WK pos (W5 es X.env)).any (·.1)=false:=by rfl):PE X (.Call (.Name x p) (e :: es) [] pos) (tCB r t):=by
 intro pins s σ H Q I h
 refine QF (z7t I hg hm hv ?_ hn hdb)
 exact PyProof.Rows.callWith_builtin1 (thn (ha pos pins s σ H _ I h) fun us s1 ⟨vs,H1,I1,r1,q1⟩=>hc pins s1 σ H1 vs us Q I1 r1 q1) he hpl
theorem z8R (hc:CallR X (.type T) r) (hg:Gl X x) (hm:X.mg x=none) (hv:WW x=some (.type T)) (ha:PA X (e :: es) t) (hn:x≠"__name__":=by decide) (hdb:(x == ("__debug__" : Str))=false:=by decide)
  (he:W5 (e :: es) X.env=(false,eval e X.env) :: W5 es X.env:=by rfl) (hpl:(WK pos (W5 es X.env)).any (·.1)=false:=by rfl):PE X (.Call (.Name x p) (e :: es) [] pos) (tCB r t):=by
 intro pins s σ H Q I h
 refine QF (z7t I hg hm hv ?_ hn hdb)
 exact PyProof.Rows.callWith_type1 (thn (ha pos pins s σ H _ I h) fun us s1 ⟨vs,H1,I1,r1,q1⟩=>hc pins s1 σ H1 vs us Q I1 r1 q1) he hpl
end
end L2
namespace HT
open PySem PyProof.Rows
section
open PySem.SeqAt
open PySem.AutoSeq1 (wpAny_loadPart')
open PySem.MeetsSeq PySem.MeetsSeq2 PySem.MeetsSeq3
end
section
variable {prog:Wi} {w:Wp} {A:Wn} {E:Value→W1→Prop} {s:W1}
theorem cat_tup (ht:IsTup s.heap t vs.toArray) (hb:IsTup s.heap b ws.toArray) (hv:vs≠[])
  (h1:ws=[]→Q (.ref t) s) (h2:ws≠[]→Q (.ref s.heap.objs.size) { s with heap:=s.heap.push { cls:=.type "tuple",data:=.seq (vs ++ ws).toArray } })
  (hsz:vs.length + ws.length≤W6):Wa (model prog w) A (Q1 .Add (.ref t) (.ref b)) Q E s:=by
 obtain ⟨⟨cls,dd,data,sl⟩,ho,hc,n,hd⟩:=id ht
 obtain ⟨⟨cls2,dd2,data2,sl2⟩,ho2,hc2,n2,hd2⟩:=id hb
 simp only at hc hd hc2 hd2
 subst hc hd hc2 hd2
 have e:vs.toArray ++ ws.toArray=(vs ++ ws).toArray:=by simp
 by_cases hw:ws=[]
 ·exact concat_meets ⟨_,ho,rfl⟩ ⟨_,ho2,rfl⟩ noFill_tuple_add seq_tuple_add PySem.F.slot_tuple_add PySem.F.entry_tuple_add (PySem.F.args_tuple_add_2 _ _)
   (tuple_addW1 t b vs.toArray ws.toArray n n2 dd dd2 sl sl2 (by simpa using hv) (by simp [hw])) ⟨ho,ho2,h1 hw⟩
 ·refine concat_meets ⟨_,ho,rfl⟩ ⟨_,ho2,rfl⟩ noFill_tuple_add seq_tuple_add PySem.F.slot_tuple_add PySem.F.entry_tuple_add (PySem.F.args_tuple_add_2 _ _)
   (tuple_addW2 t b vs.toArray ws.toArray n n2 dd dd2 sl sl2 (by simpa using hv) (by simpa using hw) (by rw [We,We]; exact hsz)) ⟨ho,ho2,?_⟩
  rw [e]
  exact h2 hw
def sIx (n d:Nat):Option Int→Nat
 | none=>d
 | some v=>if v < 0 then (v + (n:Int)).toNat else min v.toNat n
theorem sIx_le (n d:Nat) (hd:d≤n) (o:Option Int):sIx n d o≤n:=by
 cases o with
 | none=>exact hd
 | some v =>
  show (if v < 0 then (v + (n:Int)).toNat else min v.toNat n)≤n
  by_cases hv:v < 0
  ·rw [if_pos hv]; omega
  ·rw [if_neg hv]; exact Nat.min_le_right _ _
theorem z9F (v:Int) (n d:Nat):(if v < 0 then max (v + (n:Int)) 0 else min v (n:Int))=((sIx n d (some v):Nat):Int):=by
 show (if v < 0 then max (v + (n:Int)) 0 else min v (n:Int))=(((if v < 0 then (v + (n:Int)).toNat else min v.toNat n):Nat):Int)
 by_cases hv:v < 0
 ·simp only [if_pos hv]; omega
 ·simp only [if_neg hv]; omega
theorem z8f (lo hi:Option Int) (n:Nat):Builtin.Slice.sliceAdjust lo hi 1 (n:Int)=(((sIx n 0 lo:Nat):Int),((sIx n n hi:Nat):Int)):=by
 have h1:¬ ((1:Int) < 0):=by omega
 unfold Builtin.Slice.sliceAdjust
 simp only [h1,if_false]
 refine Prod.ext ?_ ?_
 ·cases lo with
  | none=>rfl
  | some v=>exact z9F v n 0
 ·cases hi with
  | none=>rfl
  | some v=>exact z9F v n n
theorem z7T (i j:Nat):Qt (i:Int) (j:Int) 1=j - i:=by
 unfold Qt
 have h1:(1:Int) > 0:=by omega
 simp only [h1,if_true,Int.ediv_one]
 split <;> omega
theorem z5a (p:IsPart v o) (h:Q o s):Wa (model prog w) A (Builtin.Slice.slicePartIndex v) Q E s:=by
 cases p with
 | none=>exact slicePart_none h
 | int i t=>exact slicePart_int h
theorem sliceApplied_gen {sl:Addr} {vl vu:Value} {lo hi:Option Int} {n:Nat} {Q:Int×Int×Nat→W1→Prop} (hs:s.heap.IsSliceOf sl vl vu .none) (pl:IsPart vl lo) (pu:IsPart vu hi)
  (h:Q (((sIx n 0 lo:Nat):Int),1,sIx n n hi - sIx n 0 lo) s):Wa (model prog w) A (Builtin.Slice.sliceApplied (.ref sl) (pure (n:Int))) Q E s:=by
 obtain ⟨os,hos,hcs,hds⟩:=id hs
 unfold Builtin.Slice.sliceApplied Builtin.Slice.sliceFields
 refine W2 (W2 (Qv hos hds (x:=vl) rfl (W2 (Qv hos hds (x:=vu) rfl (W2 (Qv hos hds (x:=.none) rfl (Wb ?_)))))))
 refine W2 (slicePart_none ?_)
 show Wa _ _ (if ((1:Int) == 0)=true then _ else _) _ _ s
 rw [if_neg (by decide)]
 refine W2 (z5a pl (W2 (z5a pu (W2 (Wb ?_)))))
 show Wa _ _ (match Builtin.Slice.sliceAdjust lo hi 1 (n:Int) with | (lo,hi)=>pure (lo,(1:Int),Qt lo hi 1)) _ _ s
 rw [z8f lo hi n]
 show Wa _ _ (pure (((sIx n 0 lo:Nat):Int),(1:Int),Qt ((sIx n 0 lo:Nat):Int) ((sIx n n hi:Nat):Int) 1)) _ _ s
 rw [z7T]
 exact Wb h
theorem zad (xs:Array Value) (i k:Nat):((WS k).filterMap fun (m:Nat)=>xs[((i:Int) + (m:Int) * 1).toNat]?).toArray=((xs.toList.drop i).take k).toArray:=by
 have e:(fun (m:Nat)=>xs[((i:Int) + (m:Int) * 1).toNat]?)=fun m=>xs[i + m]?:=by
  funext m
  have:((i:Int) + (m:Int) * 1).toNat=i + m:=by omega
  rw [this]
 rw [e]
 have:=pick_run xs i k
 rw [List.filterMap_map] at this
 have e2:((fun x=>xs[x]?) ∘ fun x=>i + x)=fun m=>xs[i + m]?:=rfl
 rw [e2] at this
 rw [this]
theorem getItem_tuple_cut {t sl:Addr} {items:Array Value} {vl vu:Value} {lo hi:Option Int} {Q:Value→W1→Prop} (ht:IsTup s.heap t items) (hs:s.heap.IsSliceOf sl vl vu .none) (pl:IsPart vl lo) (pu:IsPart vu hi)
  (hw:¬ (sIx items.size 0 lo=0∧sIx items.size items.size hi=items.size))
  (h:Q (.ref s.heap.objs.size) { s with heap:=s.heap.push { cls:=.type "tuple",data:=.seq ((items.toList.drop (sIx items.size 0 lo)).take (sIx items.size items.size hi - sIx items.size 0 lo)).toArray } })
  (hsz:items.size≤W6):Wa (model prog w) A (getItem (.ref t) (.ref sl)) Q E s:=by
 have htake:sizeOk (.seq ((items.toList.drop (sIx items.size 0 lo)).take (sIx items.size items.size hi - sIx items.size 0 lo)).toArray):=by
  show ((items.toList.drop (sIx items.size 0 lo)).take (sIx items.size items.size hi - sIx items.size 0 lo)).toArray.size≤W6
  rw [We,Je,List.length_drop,Array.length_toList]
  omega
 have hj:sIx items.size items.size hi≤items.size:=sIx_le _ _ (Wc _) hi
 obtain ⟨os,hos,hcs,hds⟩:=id hs
 have hTs:s.TypeIs (.ref sl) "slice":=⟨os,hos,hcs⟩
 unfold getItem
 try with_reducible refine Q7 ?_
 first | refine W2 (Wb ?_) | skip
 refine W2 (wpAny_sequenceKey ht.typeIs (by decide) ?_)
 refine W2 (wpAny_callSpecial?_slot (name:=Str.ofString "__getitem__") ht.typeIs Qe
  (wpAny_call_entry Qe ht.typeIs entry_tuple_getitem ?_ (args_tuple_getitem _ _)))
 show Wa _ _ (Builtin.Tuple.tupleItemsOf (.ref t) >>= _) _ _ s
 refine W2 (tupleItemsOf_ ht ?_)
 refine W2 (QW hTs ?_)
 rw [if_pos (by decide)]
 refine W2 (sliceApplied_gen hs pl pu ?_)
 have hno:¬ ((((sIx items.size 0 lo:Nat):Int) == 0 && (1:Int) == 1 && (sIx items.size items.size hi - sIx items.size 0 lo) == items.size)=true):=by
  intro q
  rw [Wg,Wg] at q
  have q1:((sIx items.size 0 lo:Nat):Int)=0:=eq_of_beq q.1.1
  have q2:sIx items.size items.size hi - sIx items.size 0 lo=items.size:=eq_of_beq q.2
  exact hw ⟨by omega,by omega⟩
 show Wa _ _ (if (((sIx items.size 0 lo:Nat):Int) == 0 && (1:Int) == 1 && (sIx items.size items.size hi - sIx items.size 0 lo) == items.size)=true then _ else _) _ _ s
 rw [if_neg hno,zad]
 first
  | exact W2 (m:=Qy _) (Qp (Wb ⟨_,rfl,Wb h⟩) htake)
  | exact W2 (m:=Qy _) (Qp (W2 (Wb (Wb ⟨_,rfl,Wb h⟩))) htake)
  | exact W2 (W2 (m:=Qy _) (Qp (Wb (Wb ⟨_,rfl,Wb h⟩)) htake))
  | exact W2 (W2 (m:=Qy _) (Qp (Wb ⟨_,rfl,Wb h⟩) htake))
end
end HT
namespace L2
open PySem PySem.Spec PyProof.Rows
abbrev TO:=St→Hp→(Option Int→Hp→Prop)→Prop
def PO (X:Cx) (e:Option Expr) (t:TO):Prop :=
 ∀ (pins:List (Addr×Obj)) (s:W1) (σ:St) (H:Hp) (Q:Option Int→Hp→Prop),Inv X pins σ H s→t σ H Q →
  Wa (model X.prog X.w) X.A (evalPart e X.env) (fun u s'=>∃ o H',Inv X pins σ H' s'∧IsPart u o∧Q o H') X.xe s
def zbs:TO:=fun _ H Q=>Q none H
def tPart (t:TE):TO:=fun σ H Q=>t σ H fun x H1=>∃ i,x = .int i∧Q (some i) H1
section
variable {X:Cx} {e:Expr} {te:TE} {lo hi:Option Expr} {tl th:TO} {pos p2:Pos}
theorem zbV:PO X none zbs:=by
 intro pins s σ H Q I h
 rw [evalPart_none]
 exact Wb ⟨none,H,I,.none,h⟩
theorem zbU (h:PE X e te):PO X (some e) (tPart te):=by
 intro pins s σ H Q I hw
 rw [evalPart_some]
 refine thn (h pins s σ H _ I hw) fun u s1 ⟨x,H1,I1,r1,q1⟩=>?_
 obtain ⟨i,rfl,q⟩:=q1
 obtain ⟨t,rfl⟩:=r1
 exact ⟨some i,H1,I1,.int i t,q⟩
def SlR (X:Cx) (r:V→Option Int→Option Int→Hp→VK→Prop):Prop :=
 ∀ (pins:List (Addr×Obj)) (s:W1) (σ:St) (H:Hp) (x:V) (v vl vu:Value) (lo hi:Option Int) (sl:Addr) (Q:VK),Inv X pins σ H s→RelV x v→s.heap.IsSliceOf sl vl vu .none→IsPart vl lo→IsPart vu hi→r x lo hi H Q →
  ∃ T id,typeLookup (.type T) "__getitem__" = pure (some (.builtin id))∧s.TypeIs v T∧Wa (model X.prog X.w) X.A (getItem v (.ref sl)) (EP X pins σ Q) X.xe s
theorem SlR.or (h:SlR X r) (h':SlR X r'):SlR X (fun x lo hi H Q=>r x lo hi H Q∨r' x lo hi H Q):=by
 intro pins s σ H x v vl vu lo hi sl Q I rx hs pl pu q
 rcases q with q | q
 ·exact h pins s σ H x v vl vu lo hi sl Q I rx hs pl pu q
 ·exact h' pins s σ H x v vl vu lo hi sl Q I rx hs pl pu q
def tSl (r:V→Option Int→Option Int→Hp→VK→Prop) (te:TE) (tl th:TO):TE:=fun σ H Q=>te σ H fun x H1=>tl σ H1 fun l H2=>th σ H2 fun u H3=>r x l u H3 Q
theorem z7p (hr:SlR X r) (he:PE X e te) (hl:PO X lo tl) (hu:PO X hi th):PE X (.Subscript e (.Slice lo hi none p2) pos) (tSl r te tl th):=by
 intro pins s σ H Q I h
 refine Subscript_ (thn (he pins s σ H _ I h) fun v s1 ⟨x,H1,I1,r1,q1⟩=>?_)
 refine wpAny_Slice (thn (hl pins s1 σ H1 _ I1 q1) fun vl s2 ⟨l,H2,I2,pl,q2⟩=>thn (hu pins s2 σ H2 _ I2 q2) fun vu s3 ⟨u,H3,I3,pu,q3⟩=>?_)
 rw [evalPart_none]
 refine Wb ?_
 have I4:Inv X pins σ H3 { s3 with heap:=s3.heap.push { cls:=.type "slice",data:=.fields #[vl,vu,.none] } }:=I3.kept (t':=s3.toks) fun b ob q=>W7 _ q
 obtain ⟨T,id,hT,ht,hg⟩:=hr pins { s3 with heap:=s3.heap.push { cls:=.type "slice",data:=.fields #[vl,vu,.none] } } σ H3 x v vl vu l u s3.heap.objs.size Q I4 r1 (Heap.IsSliceOf.new ..) pl pu q3
 show Wa (model X.prog X.w) X.A (subscriptTail e (.Slice lo hi none p2) v (.ref s3.heap.objs.size)) (EP X pins σ Q) X.xe { s3 with heap:=s3.heap.push { cls:=.type "slice",data:=.fields #[vl,vu,.none] } }
 exact tail_any (ops:=[.ref s3.heap.objs.size,v]) ht hT hg (by with_unfolding_all rfl)
def cutV (xs:List V) (lo hi:Option Int):List V:=(xs.drop (HT.sIx xs.length 0 lo)).take (HT.sIx xs.length xs.length hi - HT.sIx xs.length 0 lo)
theorem z4Q (xs:List V) (lo hi:Option Int):(cutV xs lo hi).length≤xs.length:=by
 unfold cutV
 rw [Je,List.length_drop]
 omega
def rSlT (K:W0):V→Option Int→Option Int→Hp→VK→Prop:=fun x lo hi H Q=>∃ a xs,x = .ref a∧SqT K H a xs ∧
 ¬ (HT.sIx xs.length 0 lo=0∧HT.sIx xs.length xs.length hi=xs.length)∧∀ p,H p=none→Q (.ref p) (upd H p (.tup (cutV xs lo hi)))
theorem sl_tup:SlR X (rSlT X.K):=by
 intro pins s σ H x v vl vu lo hi sl Q I rx hs pl pu h
 obtain ⟨a,xs,rfl,hx,hw,q⟩:=h
 cases rx
 obtain ⟨its,r,ht,hz⟩:=I.tuple hx
 have hlen:its.toArray.size=xs.length:=by rw [We]; exact r.length.symm
 refine ⟨"tuple",_,PyProof.Rows.slot_tuple_getitem.lookup,ht.typeIs,?_⟩
 refine HT.getItem_tuple_cut ht hs pl pu (by rw [hlen]; exact hw) ?_ (by rw [hlen]; exact hz)
 rw [hlen]
 refine ⟨.ref s.heap.objs.size,_,I.laid (t':=s.toks) (o:=.tup (cutV xs lo hi)) (fun b ob q=>W7 _ q) (Wc _) ?_,rfl,q _ (I.hok.fresh (Wc _))⟩
 exact ⟨Q0 (z4Q xs lo hi) hz,_,(r.drop (HT.sIx xs.length 0 lo)).take (HT.sIx xs.length xs.length hi - HT.sIx xs.length 0 lo),IsTupN.new _ _⟩
def zcW (K:W0):R2:=fun x y H Q=>∃ a b xs ys,x = .ref a∧y = .ref b∧SqT K H a xs∧SqT K H b ys∧xs≠[]∧xs.length + ys.length≤W6 ∧
 (ys=[]→Q (.ref a) H)∧(ys≠[]→∀ p,H p=none→Q (.ref p) (upd H p (.tup (xs ++ ys))))
theorem Vals.nil_iff (r:Vals xs us):us=[] ↔ xs=[]:=by
 cases r with
 | nil=>simp
 | cons _ _=>simp
theorem op_catT:OpR X (Q1 .Add) (zcW X.K):=by
 intro pins s σ H x y v u Q I rx ry h
 obtain ⟨a,b,xs,ys,rfl,rfl,ha,hb,hx,hz,q1,q2⟩:=h
 cases rx
 cases ry
 obtain ⟨its,r1,p1,_⟩:=I.tuple ha
 obtain ⟨its2,r2,p2,_⟩:=I.tuple hb
 refine HT.cat_tup p1 p2 (fun z=>hx (r1.nil_iff.mp z)) (fun z=>⟨.ref a,H,I,rfl,q1 (r2.nil_iff.mp z)⟩) (fun z=>?_) (by rw [← r1.length,← r2.length]; exact hz)
 refine ⟨.ref s.heap.objs.size,_,I.laid (t':=s.toks) (o:=.tup (xs ++ ys)) (fun b ob q=>W7 _ q) (Wc _) ?_,rfl,q2 (fun w=>z (r2.nil_iff.mpr w)) _ (I.hok.fresh (Wc _))⟩
 exact ⟨by rw [Qd]; exact hz,_,r1.append r2,IsTupN.new _ _⟩
end
def ixN (n:Nat) (i:Int):Option Nat:=if 0≤i then (if i < n then some i.toNat else none) else if -(n:Int)≤i then some (i + n).toNat else none
def atI {α:Type} (xs:List α) (i:Int):Option α:=(ixN xs.length i).bind fun j=>xs[j]?
theorem z9e (h:ixN n i=some j):seqIndex? i n=some j∧j < n∧-(n:Int)≤i∧i < n:=by
 unfold ixN at h
 by_cases h0:0≤i
 ·rw [if_pos h0] at h
  by_cases h1:i < n
  ·rw [if_pos h1] at h
   have e:i.toNat=j:=Wu h
   exact ⟨by rw [seqIndex_of h0 h1,e],by omega,by omega,h1⟩
  ·rw [if_neg h1] at h; cases h
 ·rw [if_neg h0] at h
  by_cases h1 : -(n:Int)≤i
  ·rw [if_pos h1] at h
   have e:(i + n).toNat=j:=Wu h
   exact ⟨by rw [seqIndex_neg (by omega) h1,e],by omega,h1,by omega⟩
  ·rw [if_neg h1] at h; cases h
theorem z7a (h:atI xs i=some v):∃ j,seqIndex? i xs.length=some j∧xs[j]? = some v∧j < xs.length∧-(xs.length:Int)≤i∧i < xs.length:=by
 unfold atI at h
 cases e:ixN xs.length i with
 | none=>rw [e] at h; cases h
 | some j =>
  rw [e] at h
  obtain ⟨h1,h2,h3,h4⟩:=z9e e
  exact ⟨j,h1,h,h2,h3,h4⟩
def z7d (b:Expr):Prop:=∀ o i,subscripted b false o i=operate [o,i] (getItem o i)
def IxR (X:Cx) (r:R2):Prop :=
 ∀ (value slice:Expr) (pins:List (Addr×Obj)) (s:W1) (σ:St) (H:Hp) (x y:V) (v u:Value) (Q:VK),Inv X pins σ H s→RelV x v→RelV y u→r x y H Q →
  subscripted slice false v u=operate [v,u] (getItem v u)→Wa (model X.prog X.w) X.A (subscriptTail value slice v u) (EP X pins σ Q) X.xe s
def MtR (X:Cx) (id:String) (r:V→List V→Hp→VK→Prop):Prop :=
 ∀ (pins:List (Addr×Obj)) (s:W1) (σ:St) (H:Hp) (x:V) (xs:List V) (v:Value) (us:List Value) (Q:VK),Inv X pins σ H s→RelV x v→Vals xs us→r x xs H Q →
  Wa (model X.prog X.w) X.A (call (.builtin id) (v :: us)) (EP X pins σ Q) X.xe s
section
variable {X:Cx} {a b:Expr} {ta tb:TE} {pos:Pos}
theorem IxR.or (h:IxR X r) (h':IxR X r'):IxR X (fun x y H Q=>r x y H Q∨r' x y H Q):=by
 intro value slice pins s σ H x y v u Q I rx ry q hs
 rcases q with q | q
 ·exact h value slice pins s σ H x y v u Q I rx ry q hs
 ·exact h' value slice pins s σ H x y v u Q I rx ry q hs
theorem MtR.or {id:String} {r r':V→List V→Hp→VK→Prop} (h:MtR X id r) (h':MtR X id r'):MtR X id (fun x xs H Q=>r x xs H Q∨r' x xs H Q):=by
 intro pins s σ H x xs v us Q I rx rs q
 rcases q with q | q
 ·exact h pins s σ H x xs v us Q I rx rs q
 ·exact h' pins s σ H x xs v us Q I rx rs q
theorem zde (hr:IxR X r) (ha:PE X a ta) (hb:PE X b tb) (hs:z7d b):PE X (.Subscript a b pos) (tOp r ta tb):=by
 intro pins s σ H Q I h
 exact Subscript_ (binT ha hb I h fun v u s2 x y H2 I2 rx ry q=>hr a b pins s2 σ H2 x y v u Q I2 rx ry q (hs _ _))
def rIxL (K:W0):R2:=fun x y H Q=>∃ p xs i v,x = .ref p∧y = .int i∧SqL K H p xs∧atI xs i=some v∧Q v H
def rIxT (K:W0):R2:=fun x y H Q=>∃ p xs i v,x = .ref p∧y = .int i∧SqT K H p xs∧atI xs i=some v∧Q v H
def rIxS:R2:=fun x y H Q=>∃ z i c,x = .str z∧y = .int i∧z.length≤W6∧atI z.cps.toList i=some c∧Q (.str ⟨#[c]⟩) H
theorem ix_list:IxR X (rIxL X.K):=by
 intro value slice pins s σ H x y v u Q I rx ry h hs
 obtain ⟨p,xs,i,z,rfl,rfl,hq,he,q⟩:=h
 cases rx
 obtain ⟨t,rfl⟩:=ry
 obtain ⟨its,r,pl,hz⟩:=I.list hq
 obtain ⟨j,h1,h2,h3,h4,h5⟩:=z7a he
 obtain ⟨w,ew,rw'⟩:=r.get h2
 have hl:=r.length
 have hn:=z5f
 have fin:EP X pins σ Q w s:=⟨z,H,I,rw',q⟩
 by_cases h0:0≤i
 ·have hj:i.toNat=j:=by
   rw [seqIndex_of h0 h5] at h1
   exact Wu h1
  exact item_listR pl.isList h0 (by omega) (by rw [hj]; simpa using ew) fin hs
 ·have hj:(i + (its.toArray.size:Int)).toNat=j:=by
   rw [seqIndex_neg (by omega) h4] at h1
   rw [We,← hl]
   exact Wu h1
  exact subscriptTail_builtinR (x:=w) pl.isList.typeIs slot_list_getitem.lookup
   (wpAny_getItem_list_neg (Q:=fun r s'=>r=w∧EP X pins σ Q r s') pl.isList (by omega) (by rw [We] <;> omega) (by omega) (by rw [hj]; simpa using ew) ⟨rfl,fin⟩) hs
theorem ix_tup:IxR X (rIxT X.K):=by
 intro value slice pins s σ H x y v u Q I rx ry h hs
 obtain ⟨p,xs,i,z,rfl,rfl,hq,he,q⟩:=h
 cases rx
 obtain ⟨t,rfl⟩:=ry
 obtain ⟨its,r,pl,hz⟩:=I.tuple hq
 obtain ⟨j,h1,h2,h3,h4,h5⟩:=z7a he
 obtain ⟨w,ew,rw'⟩:=r.get h2
 have hl:=r.length
 have hn:=z5f
 have fin:EP X pins σ Q w s:=⟨z,H,I,rw',q⟩
 exact subscriptTail_builtinR (x:=w) pl.typeIs slot_tuple_getitem.lookup
  (getItem_tuple (j:=j) (Q:=fun r s'=>r=w∧EP X pins σ Q r s') pl (by omega) (by omega) (by rw [We,← hl]; exact h1) (by simpa using ew) ⟨rfl,fin⟩) hs
theorem zdC:IxR X rIxS:=by
 intro value slice pins s σ H x y v u Q I rx ry h hs
 obtain ⟨z,i,c,rfl,rfl,hz,he,q⟩:=h
 obtain ⟨t,rfl⟩:=rx
 obtain ⟨t',rfl⟩:=ry
 obtain ⟨j,h1,h2,h3,h4,h5⟩:=z7a he
 have hl:z.cps.toList.length=z.length:=by simp [Str.length]
 rw [hl] at h1 h4 h5
 have hn:=z5f
 exact tail_any (typeIs_str s z t) slot_str_getitem.lookup (getItem_str (c:=c) (by
  have e1:decide (i < -(2 ^ 63:Int))=false:=decide_eq_false (by omega)
  have e2:decide (i ≥ 2 ^ 63)=false:=decide_eq_false (by omega)
  rw [e1,e2,Bool.or_false]) (by rw [h1]; simpa using h2) ⟨.str ⟨#[c]⟩,H,I.tok _,⟨_,rfl⟩,q⟩) hs
def rIx (K:W0):R2:=fun x y H Q=>rIxL K x y H Q∨rIxT K x y H Q∨rIxS x y H Q
theorem z0j:IxR X (rIx X.K):=ix_list.or (ix_tup.or zdC)
theorem z7Y (its:List Value) (n j:Nat) (u:Value):Obj.mapSeq (·.setIfInBounds j u) { cls:=.type "list",data:=.seq its.toArray n } = { cls:=.type "list",data:=.seq (its.set j u).toArray n }:=by
 simp [Obj.mapSeq]
theorem Inv.lst (I:Inv X pins σ H s) (h:H p=some (.lst xs)) :
  ∃ (its:List Value) (n:Nat),Vals xs its∧s.heap.get? p=some { cls:=.type "list",data:=.seq its.toArray n }∧xs.length≤W6:=by
 obtain ⟨z,its,n,r,e⟩:=I.hok p _ h
 exact ⟨its,n,r,e,z⟩
theorem Inv.lstUpd {pins:List (Addr×Obj)} {σ:St} {H:Hp} {s:W1} {p:Addr} {xs ys:List V} {its its':List Value} {n n':Nat} {f:Obj→Obj} (I:Inv X pins σ H s) (h:H p=some (.lst xs))
  (ho:s.heap.get? p=some { cls:=.type "list",data:=.seq its.toArray n }) (hf:f { cls:=.type "list",data:=.seq its.toArray n } = { cls:=.type "list",data:=.seq its'.toArray n' }) (r:Vals ys its') (hz:ys.length≤W6) (t:Nat) :
  Inv X pins σ (upd H p (.lst ys)) { s with heap:=s.heap.update p f,toks:=t }:=by
 have e:(s.heap.update p f).get? p=some { cls:=.type "list",data:=.seq its'.toArray n' }:=by
  rw [QQ f ho (by rw [hf] <;> rfl),hf]
 refine I.write (x:=p) (e:=p) (by rw [h]; trivial) (.inl rfl) (fun b u hb q=>(WF _ _ (Ne.symm hb)).trans q) ⟨_,e⟩ ?_
 exact ⟨hz,its',n',r,e⟩
def rSetL:V→V→V→Hp→(Hp→Prop)→Prop:=fun o i v H Q=>∃ p xs k j,o = .ref p∧i = .int k∧H p=some (.lst xs)∧ixN xs.length k=some j∧Q (upd H p (.lst (xs.set j v)))
theorem z9Z:PSet X rSetL:=by
 intro pins s σ H o i v ov iv u Q I ro ri rv h
 obtain ⟨p,xs,k,j,rfl,rfl,hp,hj,q⟩:=h
 cases ro
 obtain ⟨t,rfl⟩:=ri
 obtain ⟨its,n,r,ho,hz⟩:=I.lst hp
 obtain ⟨h1,h2,h3,h4⟩:=z9e hj
 have hl:=r.length
 have hn:=z5f
 have I':Inv X pins σ (upd H p (.lst (xs.set j v))) { s with heap:=s.heap.update p (Obj.mapSeq (·.setIfInBounds j u)) } :=
  I.lstUpd hp ho (z7Y its n j u) (r.set rv j) (by rw [QI]; exact hz) s.toks
 by_cases h0:0≤k
 ·have hk:k.toNat=j:=by
   rw [seqIndex_of h0 h4] at h1
   exact Wu h1
  exact PySem.W.ki_setAt ho h0 (by omega) (by rw [We,← hl]; exact h4) (by rw [hk]; exact ⟨_,I',q⟩)
 ·have hk:(k + (its.toArray.size:Int)).toNat=j:=by
   rw [seqIndex_neg (by omega) h3] at h1
   rw [We,← hl]
   exact Wu h1
  exact PySem.W.ki_setBack ho (by omega) (by rw [We,← hl]; exact h3) (by omega) (by rw [hk]; exact ⟨_,I',q⟩)
theorem z61 (lo hi:Option Int) (n:Nat):(QU lo hi none n).1=((HT.sIx n 0 lo:Nat):Int)∧(QU lo hi none n).2.1=((HT.sIx n n hi:Nat):Int)∧(QU lo hi none n).2.2=1:=by
 refine ⟨?_,?_,rfl⟩
 ·cases lo with
  | none=>simp [QU,HT.sIx]
  | some i =>
   simp only [QU,HT.sIx,Option.getD_none,show (1:Int) > 0 by decide,if_true]
   by_cases h:i < 0
   ·simp only [h,if_true] <;> omega
   ·simp only [h,if_false] <;> omega
 ·cases hi with
  | none=>simp [QU,HT.sIx]
  | some i =>
   simp only [QU,HT.sIx,Option.getD_none,show (1:Int) > 0 by decide,if_true]
   by_cases h:i < 0
   ·simp only [h,if_true] <;> omega
   ·simp only [h,if_false] <;> omega
theorem z5r (its:List Value) (lo hi:Option Int):slicePick its.toArray lo hi none=((its.drop (HT.sIx its.length 0 lo)).take (HT.sIx its.length its.length hi - HT.sIx its.length 0 lo)).toArray:=by
 obtain ⟨h1,h2,h3⟩:=z61 lo hi its.toArray.size
 unfold slicePick
 rw [h1,h2,h3]
 simp only [sliceRange_one,pick_run,We] <;> rfl
def rSlL (K:W0):V→Option Int→Option Int→Hp→VK→Prop:=fun x lo hi H Q=>∃ a xs,x = .ref a∧SqL K H a xs∧∀ p,H p=none→Q (.ref p) (upd H p (.lst (cutV xs lo hi)))
theorem zbD:SlR X (rSlL X.K):=by
 intro pins s σ H x v vl vu lo hi sl Q I rx hs pl pu h
 obtain ⟨a,xs,rfl,hx,q⟩:=h
 cases rx
 obtain ⟨its,r,ht,hz⟩:=I.list hx
 have hlen:=r.length
 refine ⟨"list",_,slot_list_getitem.lookup,ht.isList.typeIs,?_⟩
 refine wpAny_getItem_list_slice ht.isList hs pl pu .none (by simp) ?_ (by rw [We] <;> omega)
 rw [z5r,← hlen]
 refine ⟨.ref s.heap.objs.size,_,I.laid (t':=s.toks) (o:=.lst (cutV xs lo hi)) (fun b ob q=>W7 _ q) (Wc _) ?_,rfl,q _ (I.hok.fresh (Wc _))⟩
 exact ⟨Q0 (z4Q xs lo hi) hz,_,0,(r.drop (HT.sIx xs.length 0 lo)).take (HT.sIx xs.length xs.length hi - HT.sIx xs.length 0 lo),Wr _ rfl⟩
def z5N:V→Bool
 | .non=>true
 | .bl _=>true
 | .int _=>true
 | .str _=>true
 | _=>false
def eqV:V→V→Bool
 | .non,.non=>true
 | .bl a,.bl b=>a == b
 | .bl a,.int b=>(if a then 1 else 0) == b
 | .int a,.bl b=>a == (if b then 1 else 0)
 | .int a,.int b=>a == b
 | .str a,.str b=>a == b
 | _,_=>false
theorem zdR (ry:RelV y u) (rx:RelV x v) (fy:z5N y=true) (fx:z5N x=true):SeqAt.EqAt A s u v (eqV y x):=by
 cases y with
 | non =>
  cases ry
  cases x with
  | non=>cases rx; exact SeqAt.EqAt.same _
  | bl b=>cases rx; exact SeqAt.EqAt.none_bool b
  | int b=>obtain ⟨t,rfl⟩:=rx; exact SeqAt.EqAt.none_int b t
  | str b=>obtain ⟨t,rfl⟩:=rx; exact SeqAt.EqAt.none_str b t
  | _=>exact absurd (show false=true from fx) Q2
 | bl a =>
  cases ry
  cases x with
  | non=>cases rx; exact SeqAt.EqAt.bool_none a
  | bl b=>cases rx; exact SeqAt.EqAt.bool_bool a b
  | int b=>obtain ⟨t,rfl⟩:=rx; exact SeqAt.EqAt.bool_int a b t
  | str b=>obtain ⟨t,rfl⟩:=rx; exact SeqAt.EqAt.bool_str a b t
  | _=>exact absurd (show false=true from fx) Q2
 | int a =>
  obtain ⟨t',rfl⟩:=ry
  cases x with
  | non=>cases rx; exact SeqAt.EqAt.int_none a t'
  | bl b=>cases rx; exact SeqAt.EqAt.int_bool a t' b
  | int b=>obtain ⟨t,rfl⟩:=rx; exact SeqAt.EqAt.int_int a t' b t
  | str b=>obtain ⟨t,rfl⟩:=rx; exact SeqAt.EqAt.int_str a t' b t
  | _=>exact absurd (show false=true from fx) Q2
 | str a =>
  obtain ⟨t',rfl⟩:=ry
  cases x with
  | non=>cases rx; exact SeqAt.EqAt.str_none a t'
  | bl b=>cases rx; exact SeqAt.EqAt.str_bool a t' b
  | int b=>obtain ⟨t,rfl⟩:=rx; exact SeqAt.EqAt.str_int a t' b t
  | str b=>obtain ⟨t,rfl⟩:=rx; exact SeqAt.EqAt.str_str a t' b t
  | _=>exact absurd (show false=true from fx) Q2
 | _=>exact absurd (show false=true from fy) Q2
def eqU (x:V) (u:Value):Bool:=match u with
 | .none=>eqV .non x
 | .bool b=>eqV (.bl b) x
 | .int i _=>eqV (.int i) x
 | .str z _=>eqV (.str z) x
 | _=>false
theorem zbg (r:RelV y u) (f:z5N y=true):eqU x u=eqV y x:=by
 cases y with
 | non=>cases r; rfl
 | bl b=>cases r; rfl
 | int i=>obtain ⟨t,rfl⟩:=r; rfl
 | str z=>obtain ⟨t,rfl⟩:=r; rfl
 | _=>exact absurd (show false=true from f) Q2
theorem z7b:∀ {xs:List V} {us:List Value},Vals xs us→xs.all z5N=true→us.any (eqU x)=xs.any fun y=>eqV y x
 | _,_,.nil,_=>rfl
 | y :: xs,u :: us,.cons r t,f=>by
  rw [Jc,Wg] at f
  rw [Qi,Qi,zbg r f.1,z7b t f.2]
theorem z5H (rx:RelV x v) (fx:z5N x=true):∀ {xs:List V} {us:List Value},Vals xs us→xs.all z5N=true→∀ u ∈ us,SeqAt.EqAt A s u v (eqU x u)
 | _,_,.nil,_=>fun u hu=>by cases hu
 | y :: xs,u :: us,.cons r t,f=>fun u' hu=>by
  rw [Jc,Wg] at f
  rcases Wh.mp hu with rfl | hu
  ·rw [zbg r f.1]; exact zdR r rx f.1 fx
  ·exact z5H rx fx t f.2 u' hu
def inV (x:V) (xs:List V):Bool:=xs.any fun y=>eqV y x
def rIn (K:W0) (neg:Bool):R2:=fun x y H Q=>∃ p xs,y = .ref p∧(SqL K H p xs∨SqT K H p xs)∧z5N x=true∧xs.all z5N=true∧Q (.bl (if neg then !inV x xs else inV x xs)) H
theorem op_notIn_seq:OpR X (Ww .NotIn) (rIn X.K true):=by
 intro pins s σ H x y v u Q I rx ry h
 obtain ⟨p,xs,rfl,hq,fx,fs,q⟩:=h
 cases ry
 rcases hq with hq | hq
 ·obtain ⟨its,r,pl,hz⟩:=I.list hq
  refine SeqAt.notIn_listAt (eqU x) pl.isList (fun w hw=>z5H rx fx r fs w (by simpa using hw)) ⟨.bl _,H,I,rfl,?_⟩
  rw [show its.toArray.any (eqU x)=its.any (eqU x) by simp,z7b r fs]
  exact q
 ·obtain ⟨its,r,pl,hz⟩:=I.tuple hq
  refine SeqAt.notIn_tupleAt (eqU x) pl (fun w hw=>z5H rx fx r fs w (by simpa using hw)) ⟨.bl _,H,I,rfl,?_⟩
  rw [show its.toArray.any (eqU x)=its.any (eqU x) by simp,z7b r fs]
  exact q
theorem call_len_seq:CallR X (.builtin "len") (fun xs H Q=>∃ p ys,xs=[.ref p]∧(SqL X.K H p ys∨SqT X.K H p ys)∧Q (.int ys.length) H):=by
 intro pins s σ H xs us Q I r h
 obtain ⟨p,ys,rfl,hq,q⟩:=h
 obtain ⟨u,rfl,rx⟩:=z3B r
 cases rx
 have hn:=z5f
 rcases hq with hq | hq
 ·obtain ⟨its,r',pl,hz⟩:=I.list hq
  have hlen:=r'.length
  exact Calls.call_len_list pl.isList (by simp only [We] <;> omega) ⟨.int ys.length,H,I.tok _,⟨s.toks + 1,by rw [We,hlen]⟩,q⟩
 ·obtain ⟨its,r',pl,hz⟩:=I.tuple hq
  have hlen:=r'.length
  exact len_tuple pl (by simp only [We] <;> omega) ⟨.int ys.length,H,I.tok _,⟨s.toks + 1,by rw [We,hlen]⟩,q⟩
theorem z6H:CallR X (.builtin "len") (fun xs H Q=>∃ z,xs=[.str z]∧z.length≤W6∧Q (.int z.length) H):=by
 intro pins s σ H xs us Q I r h
 obtain ⟨z,rfl,hz,q⟩:=h
 obtain ⟨u,rfl,t,rfl⟩:=z3B r
 have hn:=z5f
 exact len_str (by omega) ⟨.int z.length,H,I.tok _,⟨_,rfl⟩,q⟩
theorem CallR.or (h:CallR X f r) (h':CallR X f r'):CallR X f (fun xs H Q=>r xs H Q∨r' xs H Q):=by
 intro pins s σ H xs us Q I rs q
 rcases q with q | q
 ·exact h pins s σ H xs us Q I rs q
 ·exact h' pins s σ H xs us Q I rs q
theorem z5R:CallR X (.type "tuple") (fun xs H Q=>∃ p ys,xs=[.ref p]∧((SqL X.K H p ys∧∀ l,H l=none→Q (.ref l) (upd H l (.tup ys)))∨(SqT X.K H p ys∧Q (.ref p) H))):=by
 intro pins s σ H xs us Q I r h
 obtain ⟨p,ys,rfl,h⟩:=h
 obtain ⟨u,rfl,rx⟩:=z3B r
 cases rx
 rcases h with ⟨hq,q⟩ | ⟨hq,q⟩
 ·obtain ⟨its,r',pl,hz⟩:=I.list hq
  have hlen:=r'.length
  refine call_tuple_list pl.isList (fun h' kp=>?_) (by simp only [We] <;> omega)
  have I1:Inv X pins σ H { s with heap:=h' }:=I.kept (t':=s.toks) kp
  have I2:Inv X pins σ (upd H h'.objs.size (.tup ys)) { s with heap:=h'.push { cls:=.type "tuple",data:=.seq its.toArray } } :=
   I1.laid (t':=s.toks) (fun b o e=>W7 _ e) (Wc _) (show ObjOk X.prog X.w _ _ _ (.tup ys) from ⟨hz,its,r',IsTupN.new _ _⟩)
  exact ⟨.ref h'.objs.size,_,I2,rfl,q _ (I1.hok.fresh (Wc _))⟩
 ·obtain ⟨its,r',pl,hz⟩:=I.tuple hq
  exact call_tuple_same pl ⟨.ref p,H,I,rfl,q⟩
def tyV (K:W0) (T:String) (x:V) (H:Hp):Prop:=match x with
 | .str _=>T = "str"
 | .int _=>T = "int"
 | .ref p=>(T = "list"∧∃ xs,SqL K H p xs)∨(T = "tuple"∧∃ o,K.lookup p=some o∧o.cls = .type "tuple"∧o.dict=none) ∨
   (T = "dict"∧((∃ kvs,H p=some (.dK kvs))∨∃ kvs,H p=some (.dT kvs)))∨(T = "set"∧∃ S n,H p=some (.set S n))
 | _=>False
theorem zcw (I:Inv X pins σ H s) (r:RelV x v) (ty:tyV X.K T x H) :
  s.TypeIs v T∧∀ a,v = .ref a→∃ ob,s.heap.get? a=some ob∧ob.dict=none:=by
 cases x with
 | str z =>
  obtain ⟨t,rfl⟩:=r
  cases (show T = "str" from ty)
  exact ⟨typeIs_str s z t,fun _ e=>nomatch e⟩
 | int i =>
  obtain ⟨t,rfl⟩:=r
  cases (show T = "int" from ty)
  exact ⟨J9 s i t,fun _ e=>nomatch e⟩
 | ref p =>
  cases r
  rcases ty with ⟨rfl,xs,hq⟩ | ⟨rfl,o,hk,hc,hd⟩ | ⟨rfl,hk⟩ | ⟨rfl,S,n,hk⟩
  ·obtain ⟨its,_,pl,_⟩:=I.list hq
   refine ⟨pl.isList.typeIs,fun a e=>?_⟩
   cases e
   obtain ⟨o,n,e,c,hd,_⟩:=pl
   exact ⟨o,e,hd⟩
  ·refine ⟨⟨o,I.kIn p o hk,hc⟩,fun a e=>?_⟩
   cases e
   exact ⟨o,I.kIn _ o hk,hd⟩
  ·have z:∃ o,s.heap.get? p=some o∧o.ExactDict:=by
    rcases hk with ⟨kvs,hk⟩ | ⟨kvs,hk⟩
    ·obtain ⟨_,_,_,_,o,_,_,e,ex,_⟩:=I.hok p _ hk
     exact ⟨o,e,ex⟩
    ·obtain ⟨_,_,_,_,o,_,_,e,ex,_⟩:=I.hok p _ hk
     exact ⟨o,e,ex⟩
   obtain ⟨o,e,ex⟩:=z
   refine ⟨⟨o,e,ex.1⟩,fun a e2=>?_⟩
   cases e2
   exact ⟨o,e,ex.2.1⟩
  ·obtain ⟨o,_,_,_,e,ex,_⟩:=I.hok p _ hk
   refine ⟨⟨o,e,ex.1⟩,fun a e2=>?_⟩
   cases e2
   exact ⟨o,e,ex.2.1⟩
 | _=>exact False.elim ty
def tBM (K:W0) (T:String) (r:V→List V→Hp→VK→Prop) (to:TE) (t:TA):TE:=fun σ H Q=>to σ H fun x H1=>tyV K T x H1∧t σ H1 fun xs H2=>r x xs H2 Q
variable {o e:Expr} {es:List Expr} {to:TE} {t:TA} {name:Str} {apos cpos:Pos} {T id:String} {r:V→List V→Hp→VK→Prop}
theorem z8T (pa:PlainAttrs T) (slot:Slot T name id) (hty:typeOf (.builtin id)=pure (.type "method_descriptor")) (hm:MtR X id r) (ho:PE X o to) (ha:PA X (e :: es) t)
  (hbase:Ql o name X.env (eval o X.env)=eval o X.env:=by rfl)
  (hfew:((WK cpos (W5 (e :: es) X.env)).all (fun x=>!x.1) && (backToKw cpos (QN [] X.env)).all (fun x=>x.1.isSome)
   && decide ((e :: es).length + ([]:List Keyword).length + (if ([]:List Keyword).isEmpty then 0 else 1) < 30))=true:=by rfl)
  (hline:(apos.endLine == cpos.line)=true:=by rfl) (hs:W5 (e :: es) X.env=(false,eval e X.env) :: W5 es X.env:=by rfl) (hplain:(WK cpos (W5 es X.env)).any (·.1)=false:=by rfl) :
  PE X (.Call (.Attribute o name apos) (e :: es) [] cpos) (tBM X.K T r to t):=by
 intro pins s σ H Q I h
 refine wpAny_Call_method_late hbase hfew hline rfl (thn (ho pins s σ H _ I h) fun v s1 ⟨x,H1,I1,r1,ty,q1⟩=>?_)
 obtain ⟨h1,h2⟩:=zcw I1 r1 ty
 refine ⟨T,id,pa,slot,hty,h1,h2,?_⟩
 have hA:=ha cpos pins s1 σ H1 _ I1 q1
 rw [hs] at hA ⊢
 refine Calls.callWith_builtin (by show (false || (WK cpos (W5 es X.env)).any (·.1))=false; rw [hplain] <;> rfl) (Calls.evalArgs_plain ?_)
 exact thn hA fun us s2 ⟨vs,H2,I2,r2,q2⟩=>hm pins s2 σ H2 x vs v us Q I2 r1 r2 q2
end
def MtM (X:Cx) (id:String) (r:V→List V→Hp→VK→Prop):Prop :=
 ∀ (pins:List (Addr×Obj)) (s:W1) (σ:St) (H:Hp) (x:V) (xs:List V) (v:Value) (us:List Value) (Q:VK),Inv X pins σ H s→RelV x v→Vals xs us→r x xs H Q →
  Wa (model X.prog X.w) X.A (call (.builtin id) (v :: us)) (EP X pins σ Q) X.xe s
theorem Vals.one:∀ {x:V} {us:List Value},Vals [x] us→∃ u,us=[u]∧RelV x u
 | _,_,.cons r .nil=>⟨_,rfl,r⟩
theorem Vals.two:∀ {x y:V} {us:List Value},Vals [x,y] us→∃ u v,us=[u,v]∧RelV x u∧RelV y v
 | _,_,_,.cons r (.cons q .nil)=>⟨_,_,rfl,r,q⟩
theorem Vals.zero:∀ {us:List Value},Vals [] us→us=[]
 | _,.nil=>rfl
theorem Vals.reverse (h:Vals xs us):Vals xs.reverse us.reverse:=by
 induction h with
 | nil=>exact .nil
 | cons r t ih=>rw [List.reverse_cons,List.reverse_cons]; exact Vals.append ih (.cons r .nil)
theorem Vals.rep (h:Vals xs us):∀ k:Nat,Vals (W9 k xs).flatten (W9 k us).flatten
 | 0=>.nil
 | k + 1=>by
  rw [WM,WM,Qq,Qq]
  exact Vals.append h (Vals.rep h k)
theorem z6x (its:List Value):∀ (k:Nat) (acc:List Value),
  List.foldl (fun x1 x2=>x1 ++ x2) acc.toArray (W9 k its.toArray)=(acc ++ (W9 k its).flatten).toArray
 | 0,acc=>by simp
 | k + 1,acc=>by
  have e:acc.toArray ++ its.toArray=(acc ++ its).toArray:=by simp
  have e2:(acc ++ its) ++ (W9 k its).flatten=acc ++ (W9 (k + 1) its).flatten:=by
   rw [WM,Qq,List.append_assoc]
  rw [← e2,← z6x its k (acc ++ its),← e,WM,QJ]
section
variable {X:Cx} {pins:List (Addr×Obj)} {σ:St} {H:Hp} {s:W1} {l b:Addr} {xs ys zs:List V}
theorem Inv.lset {its its':List Value} {n:Nat} {f:Array Value→Array Value} {t':Nat} (I:Inv X pins σ H s) (hH:H l=some (.lst xs))
  (e:s.heap.get? l=some { cls:=.type "list",data:=.seq its.toArray n }) (hf:f its.toArray=its'.toArray) (hv:Vals ys its') (hz:ys.length≤W6) :
  Inv X pins σ (upd H l (.lst ys)) { s with heap:=s.heap.update l (Obj.mapSeq f),toks:=t' }:=by
 have q:=PySem.IsL.update e f
 rw [hf] at q
 refine I.write (x:=l) (e:=l) (by rw [hH]; exact trivial) (.inl rfl) (fun b' u hb hu=>(WF s.heap (Obj.mapSeq f) (Ne.symm hb)).trans hu) ⟨_,q⟩ ?_
 exact ⟨hz,its',_,hv,q⟩
theorem Inv.lnew (I:Inv X pins σ H s) (hv:Vals ys its) (hz:ys.length≤W6) :
  Inv X pins σ (upd H s.heap.objs.size (.lst ys)) { s with heap:=s.heap.push { cls:=.type "list",data:=.seq its.toArray },toks:=t' } :=
 I.laid (fun _ _ q=>W7 _ q) (Wc _) ⟨hz,its,0,hv,Wr _ rfl⟩
theorem Inv.fresh (I:Inv X pins σ H s):H s.heap.objs.size=none:=I.hok.fresh (Wc _)
theorem Inv.lstM (I:Inv X pins σ H s) (hH:H l=some (.lst xs)):xs.length≤W6∧∃ (its:List Value) (n:Nat),Vals xs its∧xs.length=its.length∧s.heap.get? l=some { cls:=.type "list",data:=.seq its.toArray n }:=by
 obtain ⟨z,its,n,r,e⟩:=I.hok l _ hH
 exact ⟨z,its,n,r,r.length,e⟩
end
section
variable {X:Cx}
def z8F:V→List V→Hp→VK→Prop:=fun x vs H Q=>∃ l xs y,x = .ref l∧vs=[y]∧H l=some (.lst xs)∧xs.length < W6∧Q .non (upd H l (.lst (xs ++ [y])))
theorem z6l:MtM X "list.append" z8F:=by
 intro pins s σ H x vs v us Q I rx rv h
 obtain ⟨l,xs,y,rfl,rfl,hH,hz,q⟩:=h
 cases rx
 obtain ⟨u,rfl,ru⟩:=rv.one
 obtain ⟨z,its,n,r,hl,e⟩:=I.lstM hH
 refine QS F.slot_list_append ⟨_,e,rfl⟩ F.entry_list_append (F.args_list_append_2 _ _) (PySem.list_append l its.toArray n u (by rw [We]; omega)) ⟨e,?_⟩
 refine ⟨.non,_,I.lset (its':=its ++ [u]) hH e (by simp) (r.append (.cons ru .nil)) ?_,rfl,q⟩
 rw [Qd,List.length_singleton]
 omega
theorem z73 (xs:List α) (k:Nat):(W9 k xs).flatten.length=k * xs.length:=by
 induction k with
 | zero=>simp
 | succ k ih=>rw [WM,Qq,Qd,ih,Nat.succ_mul,Nat.add_comm]
end
section
variable {prog:Wi} {w:Wp} {A:Wn} {E:Value→W1→Prop} {s:W1}
set_option maxRecDepth 100000 in
end
section
variable {X:Cx}
end
section
variable {κ:Type} [DecidableEq κ]
def valV (kvs:List (κ×V)) (k:κ):Option V:=(kvs.find? fun kv=>decide (kv.1=k)).map (·.2)
def putK (kvs:List (κ×V)) (k:κ) (v:V):List (κ×V) :=
 if (kvs.any fun kv=>decide (kv.1=k))=true then kvs.map (fun kv=>if kv.1=k then (kv.1,v) else kv) else kvs ++ [(k,v)]
def zdU (kvs:List (κ×V)) (k:κ):List (κ×V):=kvs.filter fun kv=>decide (kv.1≠k)
theorem z4b {p:κ×V} {r:List (κ×V)} {k:κ} (e:p.1=k):valV (p :: r) k=some p.2:=by simp [valV,WY,e]
theorem z4c {p:κ×V} {r:List (κ×V)} {k:κ} (e:¬ p.1=k):valV (p :: r) k=valV r k:=by simp [valV,WY,e]
theorem z7f (k:κ):∀ kvs:List (κ×V),(kvs.any fun kv=>decide (kv.1=k))=(valV kvs k).isSome
 | []=>rfl
 | p :: r=>by
  rw [Qi]
  by_cases e:p.1=k
  ·simp only [z4b e,decide_eq_true e,Bool.true_or,Option.isSome_some]
  ·rw [z4c e,decide_eq_false e,Bool.false_or]; exact z7f k r
theorem z2t (kvs:List (κ×V)) (k:κ) (v:V):(putK kvs k v).length≤kvs.length + 1:=by
 unfold putK
 split
 ·rw [Wy]; omega
 ·rw [Qd,Qz,List.length_nil]; omega
theorem RelO.isSome_eq (r:RelO o u):o.isSome=u.isSome:=by
 cases o with
 | none=>cases u with
  | none=>rfl
  | some _=>exact (show False from r).elim
 | some _=>cases u with
  | none=>exact (show False from r).elim
  | some _=>rfl
theorem RelO.getD (r:RelO o u) (rd:RelV d d'):RelV (o.getD d) (u.getD d'):=by
 cases o with
 | none=>cases u with
  | none=>exact rd
  | some _=>exact (show False from r).elim
 | some _=>cases u with
  | none=>exact (show False from r).elim
  | some _=>exact r
theorem KV.val {kvs:List (κ×V)} {vs:List (κ×Value)} (r:KV kvs vs) (k:κ):RelO (valV kvs k) (valueAt vs k):=by
 unfold KV at r
 induction r with
 | nil=>exact True.intro
 | @cons p q ps qs h t ih =>
  obtain ⟨h1,h2⟩:=h
  by_cases e:p.1=k
  ·have e':q.1=k:=h1.symm.trans e
   have b:valueAt (q :: qs) k=some q.2:=by simp [valueAt,WY,e']
   rw [z4b e,b]; exact h2
  ·have e':¬ q.1=k:=fun z=>e (h1.trans z)
   have b:valueAt (q :: qs) k=valueAt qs k:=by simp [valueAt,WY,e']
   rw [z4c e,b]; exact ih
theorem KV.any (r:KV kvs vs) (k:κ):(kvs.any fun kv=>decide (kv.1=k))=vs.any fun kv=>decide (kv.1=k):=by
 unfold KV at r
 induction r with
 | nil=>rfl
 | cons h t ih=>rw [Qi,Qi,ih,h.1]
theorem KV.repl (r:KV kvs vs) (k:κ) (ry:RelV y u) :
  KV (kvs.map fun kv=>if kv.1=k then (kv.1,y) else kv) (vs.map fun kv=>if kv.1=k then (kv.1,u) else kv):=by
 unfold KV at r ⊢
 induction r with
 | nil=>exact .nil
 | @cons p q ps qs h t ih =>
  rw [Wq,Wq]
  refine .cons ?_ ih
  obtain ⟨h1,h2⟩:=h
  by_cases e:p.1=k
  ·rw [if_pos e,if_pos (h1.symm.trans e)]; exact ⟨h1,ry⟩
  ·rw [if_neg e,if_neg (fun z=>e (h1.trans z))]; exact ⟨h1,h2⟩
theorem KV.put (r:KV kvs vs) (k:κ) (ry:RelV y u):KV (putK kvs k y) (stored vs k u):=by
 unfold putK stored
 rw [r.any k]
 by_cases e:(vs.any fun kv=>decide (kv.1=k))=true
 ·rw [if_pos e,if_pos e]; exact r.repl k ry
 ·rw [if_neg e,if_neg e]; exact Paired.snoc r ⟨rfl,ry⟩
theorem KV.drop (r:KV kvs vs) (k:κ):KV (zdU kvs k) (without vs k):=by
 unfold KV at r ⊢
 unfold zdU without
 induction r with
 | nil=>exact .nil
 | @cons p q ps qs h t ih =>
  obtain ⟨h1,h2⟩:=h
  rw [Jf,Jf]
  by_cases e:p.1=k
  ·have a:¬ decide (p.1≠k)=true:=by simp [e]
   have b:¬ decide (q.1≠k)=true:=by simp [h1.symm.trans e]
   rw [if_neg a,if_neg b]; exact ih
  ·have e':¬ q.1=k:=fun z=>e (h1.trans z)
   have a:decide (p.1≠k)=true:=by simp [e]
   have b:decide (q.1≠k)=true:=by simp [e']
   rw [if_pos a,if_pos b]; exact .cons ⟨h1,h2⟩ ih
theorem KV.keys {kvs:List (κ×V)} {vs:List (κ×Value)} (r:KV kvs vs):kvs.map (·.1)=vs.map (·.1):=by
 unfold KV at r
 induction r with
 | nil=>rfl
 | cons h t ih=>rw [Wq,Wq,ih,h.1]
theorem KV.length (r:KV kvs vs):kvs.length=vs.length:=Paired.length r
end
theorem z81 (r:RelV (kV k) u):(z1x P w).is k u=true:=by
 cases k with
 | inl i=>obtain ⟨t,e⟩:=(show ∃ t,u=Value.int i t from r); subst e; exact z72 P w i t
 | inr x=>obtain ⟨t,e⟩:=(show ∃ t,u=Value.str x t from r); subst e; exact z71 P w x t
theorem z6r:∀ {ks:List Key} {us:List Value},Vals (ks.map kV) us→ItemsAre (z1x P w) ks us
 | [],_,r=>by rw [List.map_nil] at r; cases r; exact .nil
 | k :: ks,_,r=>by
  rw [Wq] at r
  cases r with
  | cons h t=>exact .cons (z81 h) (z6r t)
abbrev KT (H:Hp):List (List Key×V)→List (List Key×Addr×Value)→Prop:=Paired fun p q=>p.1=q.1∧H q.2.1=some (.tup (p.1.map kV))∧RelV p.2 q.2.2
theorem KT.val {H:Hp} {kvs:List (List Key×V)} {xs:List (List Key×Addr×Value)} (r:KT H kvs xs) (k:List Key):RelO (valV kvs k) ((atKey xs k).map (·.2)):=by
 induction r with
 | nil=>exact True.intro
 | @cons p q ps qs h t ih =>
  obtain ⟨h1,_,h2⟩:=h
  by_cases e:p.1=k
  ·have e':q.1=k:=h1.symm.trans e
   have b:atKey (q :: qs) k=some q.2:=by simp [atKey,WY,e']
   rw [z4b e,b]; exact h2
  ·have e':¬ q.1=k:=fun z=>e (h1.trans z)
   have b:atKey (q :: qs) k=atKey qs k:=by simp [atKey,WY,e']
   rw [z4c e,b]; exact ih
theorem KT.repl (r:KT H kvs xs) (k:List Key) (ry:RelV y u) :
  KT H (kvs.map fun kv=>if kv.1=k then (kv.1,y) else kv) (xs.map (putAt k u)):=by
 induction r with
 | nil=>exact .nil
 | @cons p q ps qs h t ih =>
  rw [Wq,Wq]
  refine .cons ?_ ih
  obtain ⟨h1,h2,h3⟩:=h
  unfold putAt
  by_cases e:p.1=k
  ·rw [if_pos e,if_pos (h1.symm.trans e)]; exact ⟨h1,h2,ry⟩
  ·rw [if_neg e,if_neg (fun z=>e (h1.trans z))]; exact ⟨h1,h2,h3⟩
theorem KT.put (r:KT H kvs xs) (k:List Key) (hb:H b=some (.tup (k.map kV))) (ry:RelV y u) :
  KT H (putK kvs k y) (storedH xs k b u):=by
 have e:(kvs.any fun kv=>decide (kv.1=k))=(atKey xs k).isSome:=by
  rw [z7f,(r.val k).isSome_eq,Option.isSome_map]
 unfold putK storedH
 rw [e]
 by_cases q:(atKey xs k).isSome=true
 ·rw [if_pos q,if_pos q]; exact r.repl k ry
 ·rw [if_neg q,if_neg q]; exact Paired.snoc r ⟨rfl,hb,ry⟩
theorem KT.keeps (r:KT H kvs xs) (ht:∀ b ys,H b=some (.tup ys)→H' b=some (.tup ys)):KT H' kvs xs :=
 Paired.mapP r fun _ _ z=>⟨z.1,ht _ _ z.2.1,z.2.2⟩
section
variable {P:Wi} {w:Wp} {H:Hp} {h:Heap} {a:Addr}
theorem zcN (ok:HOk P w H h) (e:Rd H a u):ObjOk P w H h a u:=e.ok ok
theorem z9v (ok:HOk P w H h) (e:Rd H a (.dK kvs)):kvs.length≤W6∧(a == QC)=false∧∃ vs,KV kvs vs∧h.DictOf (z1x P w) a vs :=
 show ObjOk P w H h a (.dK kvs) from zcN ok e
theorem zco (ok:HOk P w H h) (e:H a=some (.dK kvs)):kvs.length≤W6∧(a == QC)=false∧∃ vs,KV kvs vs∧h.DictOf (z1x P w) a vs:=z9v ok (.inl e)
theorem z6q (ok:HOk P w H h) (e:H a=some (.tup (ks.map kV))):(tupleKind (z1x P w)).is h ks a:=by
 obtain ⟨_,its,r,p⟩:=(show ObjOk P w H h a (.tup (ks.map kV)) from ok a _ e)
 obtain ⟨o,h1,h2,n,h3⟩:=p.tup
 exact ⟨o,its.toArray,n,h1,h2,h3,by simpa using z6r r⟩
theorem zaF (ok:HOk P w H h) (e:Rd H a (.dT kvs)):kvs.length≤W6∧(a == QC)=false ∧
  ∃ xs,KT H kvs xs∧h.DictOfH (tupleKind (z1x P w)) a xs:=by
 obtain ⟨z,y,xs,r,o,es,ep,h1,h2,h3,h4,h5⟩:=(show ObjOk P w H h a (.dT kvs) from zcN ok e)
 refine ⟨z,y,xs,r,o,es,ep,h1,h2,h3,h4,fun x hx=>?_,h5⟩
 have all:∀ {l:List (List Key×V)} {m:List (List Key×Addr×Value)},KT H l m→∀ x ∈ m,(tupleKind (z1x P w)).is h x.1 x.2.1:=by
  intro l m q
  induction q with
  | nil=>intro x hx; exact nomatch hx
  | @cons p q ps qs hq t ih =>
   intro x hx
   rcases Wh.mp hx with e | hx
   ·subst e
    exact z6q ok (by rw [← hq.1]; exact hq.2.1)
   ·exact ih x hx
 exact all r x hx
theorem dt_of (ok:HOk P w H h) (e:H a=some (.dT kvs)):kvs.length≤W6∧(a == QC)=false ∧
  ∃ xs,KT H kvs xs∧h.DictOfH (tupleKind (z1x P w)) a xs:=zaF ok (.inl e)
end
def DGet (H:Hp) (a:Addr) (y:V) (r:Option V):Prop :=
 (∃ kvs k,Rd H a (.dK kvs)∧y=kV k∧r=valV kvs k)∨∃ kvs k b,Rd H a (.dT kvs)∧y = .ref b∧H b=some (.tup (k.map kV))∧r=valV kvs k
def DPut (H:Hp) (a:Addr) (y v:V) (H':Hp):Prop :=
 (∃ kvs k,H a=some (.dK kvs)∧y=kV k∧kvs.length < W6∧H'=upd H a (.dK (putK kvs k v))) ∨
 ∃ kvs k b,H a=some (.dT kvs)∧y = .ref b∧H b=some (.tup (k.map kV))∧kvs.length < W6∧H'=upd H a (.dT (putK kvs k v))
theorem DGet.k {H:Hp} {a:Addr} {kvs:List (Key×V)} {k:Key} (e:H a=some (.dK kvs)):DGet H a (kV k) (valV kvs k):=.inl ⟨kvs,k,.inl e,rfl,rfl⟩
theorem DGet.t {H:Hp} {a b:Addr} {kvs:List (List Key×V)} {k:List Key} (e:H a=some (.dT kvs)) (eb:H b=some (.tup (k.map kV))):DGet H a (.ref b) (valV kvs k):=.inr ⟨kvs,k,b,.inl e,rfl,eb,rfl⟩
theorem DPut.k {H:Hp} {a:Addr} {kvs:List (Key×V)} {k:Key} {v:V} (e:H a=some (.dK kvs)) (hl:kvs.length < W6):DPut H a (kV k) v (upd H a (.dK (putK kvs k v))):=.inl ⟨kvs,k,e,rfl,hl,rfl⟩
theorem DPut.t {H:Hp} {a b:Addr} {kvs:List (List Key×V)} {k:List Key} {v:V} (e:H a=some (.dT kvs)) (eb:H b=some (.tup (k.map kV))) (hl:kvs.length < W6) :
  DPut H a (.ref b) v (upd H a (.dT (putK kvs k v))):=.inr ⟨kvs,k,b,e,rfl,eb,hl,rfl⟩
section
variable {X:Cx} {pins:List (Addr×Obj)} {σ:St} {H:Hp} {s:W1} {a:Addr} {y v:V} {u r:Value} {o:Option V} {A:Wn} {E:Value→W1→Prop}
theorem Inv.big (I:Inv X pins σ H s):QC < s.heap.objs.size:=by
 have h:Wm < s.heap.objs.size:=(I.mod.glob.keeps I.bk).lt
 exact Nat.lt_trans (by decide) h
theorem z9B (hu:A.units + 1 < Q8) (I:Inv X pins σ H s) (g:DGet H a y (some v)) (ry:RelV y u) (h:∀ w' s',Inv X pins σ H s'→RelV v w'→Q w' s') :
  Wa (model X.prog X.w) A (getItem (.ref a) u) Q E s:=by
 rcases g with ⟨kvs,k,e,ey,l⟩ | ⟨kvs,k,b,e,ey,eb,l⟩
 ·subst ey
  obtain ⟨z,hd,vs,rel,dd⟩:=z9v I.hok e
  obtain ⟨w',hw,rw'⟩:=RelO.some_of (v:=v) (o:=valueAt vs k) (by rw [l]; exact rel.val k)
  exact wpAny_getItem_of (z81 ry) dd.mapOf hw (h w' _ (I.tok _) rw')
 ·subst ey
  cases (show u=Value.ref b from ry)
  obtain ⟨z,hd,xs,rel,dd⟩:=zaF I.hok e
  obtain ⟨w',hw,rw'⟩:=RelO.some_of (v:=v) (o:=(atKey xs k).map (·.2)) (by rw [l]; exact rel.val k)
  obtain ⟨p,hp,hp2⟩:=Option.map_eq_some_iff.mp hw
  refine wpAny_getItem_heap (QX hu) (z6q I.hok eb) dd hp ?_
  rw [hp2]
  exact h w' _ (I.tok _) rw'
theorem d_in (hu:A.units + 1 < Q8) (I:Inv X pins σ H s) (g:DGet H a y o) (ry:RelV y u) (h:∀ s',Inv X pins σ H s'→Q (.bool o.isSome) s') :
  Wa (model X.prog X.w) A (Ww .In u (.ref a)) Q E s:=by
 rcases g with ⟨kvs,k,e,ey,l⟩ | ⟨kvs,k,b,e,ey,eb,l⟩
 ·subst ey
  obtain ⟨z,hd,vs,rel,dd⟩:=z9v I.hok e
  refine wpAny_in_of (z81 ry) hd dd.mapOf ?_
  rw [← (rel.val k).isSome_eq,← l]
  exact h _ (I.tok _)
 ·subst ey
  cases (show u=Value.ref b from ry)
  obtain ⟨z,hd,xs,rel,dd⟩:=zaF I.hok e
  refine wpAny_in_heap (QX hu) (z6q I.hok eb) hd dd ?_
  have q:=(rel.val k).isSome_eq
  rw [Option.isSome_map] at q
  rw [← q,← l]
  exact h _ (I.tok _)
theorem zcp (hu:A.units + 1 < Q8) (I:Inv X pins σ H s) (g:DGet H a y o) (ry:RelV y u) (h:∀ s',Inv X pins σ H s'→Q (.bool (!o.isSome)) s') :
  Wa (model X.prog X.w) A (Ww .NotIn u (.ref a)) Q E s:=by
 rcases g with ⟨kvs,k,e,ey,l⟩ | ⟨kvs,k,b,e,ey,eb,l⟩
 ·subst ey
  obtain ⟨z,hd,vs,rel,dd⟩:=z9v I.hok e
  refine wpAny_notIn_of (z81 ry) hd dd.mapOf ?_
  rw [← (rel.val k).isSome_eq,← l]
  exact h _ (I.tok _)
 ·subst ey
  cases (show u=Value.ref b from ry)
  obtain ⟨z,hd,xs,rel,dd⟩:=zaF I.hok e
  refine wpAny_notIn_heap (QX hu) (z6q I.hok eb) hd dd ?_
  have q:=(rel.val k).isSome_eq
  rw [Option.isSome_map] at q
  rw [← q,← l]
  exact h _ (I.tok _)
theorem z77 (I:Inv X pins σ H s) (mu:Mut (H a)) (hs:Heap.SameBut a s.heap h') (he:∃ q,h'.get? a=some q) (new:ObjOk X.prog X.w (upd H a ob) h' a ob) :
  Inv X pins σ (upd H a ob) { s with heap:=h',toks:=t' } :=
 I.write (x:=a) (e:=a) mu (.inl rfl) (fun b q hb z=>(hs.2 b hb).trans z) he new
theorem zbh (z:kvs.length≤W6) (hd:(a == QC)=false) (rel:KV kvs vs) (dd:h'.DictOf (z1x P w) a vs) :
  ObjOk P w H' h' a (.dK kvs):=⟨z,hd,vs,rel,dd⟩
theorem z9A (hu:A.units + 1 < Q8) (I:Inv X pins σ H s) (g:DPut H a y v H') (ry:RelV y u) (rv:RelV v r) (h:∀ s',Inv X pins σ H' s'→Q () s') :
  Wa (model X.prog X.w) A (setItem (.ref a) u r) Q E s:=by
 rcases g with ⟨kvs,k,e,ey,l,eH⟩ | ⟨kvs,k,b,e,ey,eb,l,eH⟩
 ·subst ey eH
  obtain ⟨z,hd,vs,rel,dd⟩:=zco I.hok e
  have hz:vs.length≤W6:=by rw [← rel.length]; exact z
  have hl:(putK kvs k v).length≤W6:=by have:=z2t kvs k v; omega
  refine wpAny_setItem_pairs (hsz:=hz) (z81 ry) dd fun h' dd' hs=>h _ ?_
  have he:∃ q,h'.get? a=some q:=let ⟨q,_,_,hq,_⟩:=dd'; ⟨q,hq⟩
  exact z77 I (by rw [e]; exact True.intro) hs he (zbh hl hd (rel.put k rv) dd')
 ·subst ey eH
  cases (show u=Value.ref b from ry)
  obtain ⟨z,hd,xs,rel,dd⟩:=dt_of I.hok e
  have hz:xs.length≤W6:=by rw [← Paired.length rel]; exact z
  have hl:(putK kvs k v).length≤W6:=by have:=z2t kvs k v; omega
  refine wpAny_setItem_heap (hsz:=hz) (QX hu) (z6q I.hok eb) dd fun h' dd' hs=>h _ ?_
  obtain ⟨q,es,ep,hq,h2,h3,h4,_,h5⟩:=dd'
  refine z77 I (by rw [e]; exact True.intro) hs ⟨q,hq⟩ ⟨hl,hd,_,(rel.put k eb rv).keeps fun c ys ec=>?_,q,es,ep,hq,h2,h3,h4,h5⟩
  rw [z0n (ne_of ec e (fun z=>nomatch z))]
  exact ec
end
section
variable {X:Cx} {pins:List (Addr×Obj)} {σ:St} {H:Hp} {s:W1} {a:Addr} {kvs:List (Key×V)} {k:Key} {u:Value} {A:Wn} {E:Value→W1→Prop}
theorem d_len (I:Inv X pins σ H s) (e:Rd H a (.dK kvs)) (h:∀ t s',Inv X pins σ H s'→Q (.int kvs.length t) s'):Wa (model X.prog X.w) A (call (.builtin "len") [.ref a]) Q E s:=by
 obtain ⟨z,hd,vs,rel,dd⟩:=z9v I.hok e
 refine call_len_dict hd dd (by rw [← rel.length]; rw [Qu] at z; omega) ?_
 rw [← rel.length]
 exact h _ _ (I.tok _)
end
def sDPut (td ty tv:TE):TS:=fun D σ H=>tv σ H fun v H1=>td σ H1 fun x H2=>ty σ H2 fun y H3=>∃ a H4,x = .ref a∧DPut H3 a y v H4∧D.nx σ H4
section
variable {X:Cx} {o i e value:Expr} {pos pos' tpos:Pos} {td ty tv:TE}
theorem zbT (hu:X.A.units + 1 < Q8) (ho:PE X o td) (hi:PE X i ty) (hv:PE X value tv) (hs:QD value (some (.Subscript o i pos')) pos.line X.env=pure false) :
  PS X (.Assign [.Subscript o i pos'] value pos) (sDPut td ty tv):=by
 intro pins s σ H D I h
 refine wpAny_Assign_Subscript (thn (hv pins s σ H _ I h) fun r s1 ⟨v,H1,I1,rv,q1⟩=>thn (ho pins s1 σ H1 _ I1 q1) fun u s2 ⟨x,H2,I2,rx,q2⟩=>thn (hi pins s2 σ H2 _ I2 q2) fun iv s3 ⟨y,H3,I3,ry,a,H4,ex,g,q3⟩=>?_) hs
 subst ex
 obtain rfl:u=Value.ref a:=rx
 exact z9A hu I3 g ry rv fun s4 I4=>⟨σ,H4,I4,q3⟩
end
theorem z7D (h:Heap) (hb:QC < h.objs.size):ObjOk P w H (h.push { cls:=.type "dict",data:=.dict #[] }) h.objs.size (.dK []) :=
 ⟨Qf _,beq_eq_false_iff_ne.mpr (Ne.symm (WN hb)),[],.nil,Heap.DictOf.new h⟩
def zcx:TE:=fun _ H Q=>∀ p,H p=none→Q (.ref p) (upd H p (.dK []))
section
variable {X:Cx} {pos:Pos}
theorem zae:PE X (.Dict [] [] pos) zcx:=fun pins s σ H Q I h =>
 wpAny_Dict_empty ⟨.ref s.heap.objs.size,_,I.laid (a:=s.heap.objs.size) (o:=.dK []) (t':=s.toks) (fun _ _ q=>W7 _ q) (Wc _) (z7D s.heap I.big),rfl,h _ (I.hok.fresh (Wc _))⟩
end
structure M1 (X:Cx) (o:Expr) (m:Str) (apos:Pos) (e:Expr) (cpos:Pos):Prop where
 base:Ql o m X.env (eval o X.env)=eval o X.env
 few:((WK cpos (W5 [e] X.env)).all (fun x=>!x.1) && (backToKw cpos (QN [] X.env)).all (fun x=>x.1.isSome)
  && decide (([e]:List Expr).length + ([]:List Keyword).length + (if ([]:List Keyword).isEmpty then 0 else 1) < 30))=true
 line:(apos.endLine == cpos.line)=true
 trees:WK cpos (W5 [e] X.env)=[(false,eval e X.env)]
structure M2 (X:Cx) (o:Expr) (m:Str) (apos:Pos) (e f:Expr) (cpos:Pos):Prop where
 base:Ql o m X.env (eval o X.env)=eval o X.env
 few:((WK cpos (W5 [e,f] X.env)).all (fun x=>!x.1) && (backToKw cpos (QN [] X.env)).all (fun x=>x.1.isSome)
  && decide (([e,f]:List Expr).length + ([]:List Keyword).length + (if ([]:List Keyword).isEmpty then 0 else 1) < 30))=true
 line:(apos.endLine == cpos.line)=true
 trees:WK cpos (W5 [e,f] X.env)=[(false,eval e X.env),(false,eval f X.env)]
section
variable {X:Cx} {pins:List (Addr×Obj)} {σ:St} {H:Hp} {s:W1} {a:Addr} {y d:V} {u r:Value} {o:Option V} {A:Wn} {E:Value→W1→Prop}
end
section
variable {X:Cx} {o e f:Expr} {apos cpos:Pos} {td ty tx:TE}
end
section
variable {X:Cx} {pins:List (Addr×Obj)} {σ:St} {H:Hp} {s:W1} {a:Addr} {kvs:List (Key×V)} {A:Wn} {E:Value→W1→Prop}
end
section
variable {X:Cx} {pins:List (Addr×Obj)} {σ:St} {H:Hp} {s:W1} {a:Addr} {y:V} {u:Value} {A:Wn} {E:Value→W1→Prop}
end
end L2
namespace Att
open PySem PySem.W PySem.Calls PyProof.Rows
theorem z4K:∀ (ns:List Int) (vs:List Value),WellAll P h vs (ns.map WData.int)→IntsAre vs ns:=by
 intro ns
 induction ns with
 | nil =>
  intro vs w
  rw [List.map_nil] at w
  cases w
  exact .nil
 | cons n ns ih =>
  intro vs w
  rw [Wq] at w
  cases w with
  | cons a b =>
   cases a
   exact .cons _ _ (ih _ b)
theorem z8t {l:OpenLaw} {n:Nat} (hn:l.most=some n) {P:Params} {h:Heap} {args:List WData} {vals:List Value}
  (hpre:l.row.toRowW.claim.pre args=true) (hwl:WellAll P h vals args) :
  ∃ a vs ns,vals=[Value.ref a]∧args=[WData.list (ns.map WData.int)]∧h.get? a=some { cls:=.type "list",data:=.seq vs.toArray }∧IntsAre vs ns∧ns.length≤n:=by
 have hsh:WShape.hasAll [] args [.list .int]=true:=(pre_splitW hpre).1
 have hc:l.pre.holds [] { args:=args } = true:=(pre_splitW hpre).2
 obtain ⟨d,r,rfl,h1,h2⟩:=hasAllW_cons hsh
 obtain rfl:=hasAllW_nil h2
 obtain ⟨xs,rfl,h3⟩:=hasW_list h1
 obtain ⟨ns,rfl⟩:=items_int h3
 have hlen:ns.length≤n:=by
  unfold OpenLaw.pre at hc
  have h4:(WTm.not (.lt (.lit (.int (n:Int))) (.len (.arg 0)))).holds [] { args:=[.list (ns.map .int)] } = true:=by
   have h4:=(holds_andW hc).1
   rw [hn] at h4
   exact h4
  have h5:=condW_of h4 (w_not (w_lt w_lit (w_len_list (w_arg rfl))))
  rw [Wy] at h5
  refine Nat.le_of_not_lt fun q=>?_
  have q':(n:Int) < ((ns.length:Nat):Int):=by omega
  first
   | (rw [decide_eq_true q'] at h5; exact absurd h5 (by decide))
   | (simp at h5; omega)
 cases hwl with
 | cons w1 w2 =>
  cases w2
  cases w1 with
  | list ho hall=>exact ⟨_,_,ns,rfl,rfl,ho,z4K ns _ hall,hlen⟩
theorem z8M (l:OpenLaw) (args:List WData):l.row.toRowW.claim.post args (.bool true) args=true :=
 postW_of (r:=l.row.toRowW) (X:=(true == true))
  (show WShape.has [] (.bool true) .bool=true by first | rfl | decide | simp [WShape.has,WShape.arms,WShape.armsAll])
  (show (WTm.eq .res (.lit (.bool true))).value [] { args:=args,res:=some (.bool true),after:=args } = some (.bool (true == true)) from w_eq_bool (w_res rfl) w_lit) rfl
theorem attach_call {l:OpenLaw} {n:Nat} {q:Wi} {loose:List Str} {XP:(Str→Option Value)→Heap→Prop} {YP:Wp→Heap→Prop} {d:DefRec}
  (hn:l.most=some n) (hdf:d.params.defaults=[])
  (call:∀ (w:Wp) (s₀ s₁:W1) (mg mb:Str→Option Value) (fa:Addr) (o:Obj) (pm cd doc:Value) (a:Addr) (vs:List Value) (ns:List Int),
   Ground q loose [] XP w s₀ mg mb s₁.heap→YP w s₁.heap →
   s₁.heap.get? fa=some o→o.data = .func (docDef d.name d.params d.body d.scope pm cd doc)→s₁.heap.CodeRec cd d.name→mg d.name=some (.ref fa) →
   s₁.heap.get? a=some { cls:=.type "list",data:=.seq vs.toArray }→IntsAre vs ns→ns.length≤n→s₁.gens = #[] →
   Qw (model l.prog w) callerA (.call (.ref fa) ⟨[.ref a],[]⟩) (fun r s'=>r = .ok (.ret (.bool true))∧OldK s₁.heap s'.heap∧s'.os=s₁.os∧AllBare s'.gens) s₁) :
  WalkO q loose XP YP l.row.toRowW d [] (fun f vs=>PySem.call f vs):=by
 intro w s₀ s₁ mg mb G Y fa o pm cd doc dV kV ho hd hcd hD hmg hg args vals as hpre hlay hrd hwl hlo
 obtain rfl:dV = .none:=Dflts.none hD hdf
 obtain rfl:kV = .none:=Dflts.noKw hD
 obtain ⟨a,vs,ns,rfl,rfl,hobj,hints,hlen⟩:=z8t hn hpre hwl
 refine enter_call (codeAny_mono (call w s₀ s₁ mg mb fa o pm cd doc a vs ns G Y ho (fd_plain hd) hcd hmg hobj hints hlen hg) fun r s' hq=>?_)
 obtain ⟨rfl,h2,h3,h4⟩:=hq
 exact ⟨.inl ⟨.bool true,.bool true,[],rfl,fun _=>rfl,.bool true,z8M l _,fun _=>⟨List.Pairwise.nil,fun _ hm=>(nomatch hm)⟩⟩,h2,h3,h4⟩
section
variable {prog:Wi} {w:Wp} {A:Wn} {E:Value→W1→Prop} {s:W1} {K:Frag}
end
end Att
namespace L2
open PySem PySem.Spec PyProof.Rows
theorem vals_ints:∀ {vs:List Value} {ns:List Int},IntsAre vs ns→Vals (ns.map V.int) vs
 | _,_,.nil=>.nil
 | _,_,.cons n t h=>.cons ⟨t,rfl⟩ (vals_ints h)
def Only (H:Hp):Prop:=∀ b,H b=none∨∃ o xs,H b=some (.frz o (.lst xs))
theorem zas {P:Wi} {w:Wp} {K:W0} {mg mb:Str→Option Value} {CX:CXT} {k:Nat} {fa a:Addr} {fd:Wx} {x:Str} {sp:Sp} {s₁:W1} {vs:List Value} {ns:List Int}
  (KX:K.In s₁.heap) (hns:s₁.heap.Ns Wm mg) (hb:s₁.heap.Ns builtinsNs mb) (hbb:∀ x:Str,x≠"__name__"→mb x=WW x) (hlim:s₁.heap.NoLimit) (hg:s₁.gens = #[])
  (ha:s₁.heap.get? a=some { cls:=.type "list",data:=.seq vs.toArray }) (hi:IntsAre vs ns) (hl:ns.length≤W6) (hr:Room k callerA)
  (F:∀ base:Heap,K.In base→base.Ns Wm mg→FnOk P w K mg base CX k fa fd [x] sp) (hbind:∀ (s:W1) (u:Value),BindsTo s fd ⟨[u],[]⟩ [(x,u)])
  (hsp:∀ H:Hp,Only H→SqL K H a (ns.map V.int)→sp [.ref a] H (fun v _=>v = .bl true) fun _ _ _=>False)
  (hCX:∀ H e s',CX [] H s₁ (fun _ _ _=>False) e s'→False) :
  Qw (model P w) callerA (.call (.ref fa) ⟨[.ref a],[]⟩) (fun r s'=>r = .ok (.ret (.bool true))∧OldK s₁.heap s'.heap∧s'.os=s₁.os∧AllBare s'.gens) s₁:=by
 have rv:=vals_ints hi
 have lenV:=hi.length
 -- from an abstract heap in which nothing but the script may be tracked
 have core:∀ H:Hp,Only H→SqL K H a (ns.map V.int)→HOk P w H s₁.heap→(∀ b,H b≠none→b=a)→(H a≠none→K.lookup a=none) →
   Qw (model P w) callerA (.call (.ref fa) ⟨[.ref a],[]⟩) (fun r s'=>r = .ok (.ret (.bool true))∧OldK s₁.heap s'.heap∧s'.os=s₁.os∧AllBare s'.gens) s₁:=by
  intro H hO hS hok hA hK
  have base_of:∀ {b:Addr} {o:Obj},s₁.heap.get? b=some o→H b=none→(hidT s₁.heap H).get? b=some o:=fun e n=>zaw e n
  have noA:∀ {b:Addr} {o:Obj} {es:Array DictEntry} {ep:Nat},s₁.heap.get? b=some o→o.data = .dict es ep→H b=none:=fun {b o es ep} e d=>by
   cases q:H b with
   | none=>rfl
   | some u =>
    have e':b=a:=hA b (by rw [q]; simp)
    subst e'
    rw [ha] at e; cases e
    have d':Data.seq vs.toArray _=Data.dict es ep:=d
    cases d'
  have nsK:∀ {b:Addr} {m:Str→Option Value},s₁.heap.Ns b m→(hidT s₁.heap H).Ns b m:=fun {b m} ⟨o,es,ep,e,d,r⟩=>⟨o,es,ep,base_of e (noA e d),d,r⟩
  have hKb:K.In (hidT s₁.heap H):=fun b o e=>base_of (KX b o e) (by
   cases q:H b with
   | none=>rfl
   | some u =>
    have e':b=a:=hA b (by rw [q]; simp)
    subst e'
    rw [hK (by rw [q]; simp)] at e; cases e)
  have hM:Mod K mg (hidT s₁.heap H):=⟨hKb,nsK hns,⟨mb,nsK hb,hbb⟩,let ⟨mc,h1,h2⟩:=hlim; ⟨mc,nsK h1,h2⟩⟩
  have e0:Env0 P w K mg (hidT s₁.heap H) callerA [] s₁ H:=⟨rfl,hM,fun b o e=>zc2 e,Nat.le_of_eq (z9k _ _),trivial,fun b hb=>absurd (show b ∈ ([]:List Addr) from hb) (by simp),hok,.of_eq hg⟩
  refine codeAny_mono ((F _ hKb (nsK hns)).run callerA [] s₁ H ⟨[.ref a],[]⟩ [.ref a] [.ref a] _ _ hr e0 (hbind s₁ (.ref a)) (.cons rfl .nil) (hsp H hO hS)) fun r s' h=>?_
  cases r with
  | error e=>exact (hCX H e s' h).elim
  | ok fl =>
   cases fl with
   | next=>exact False.elim h
   | brk=>exact False.elim h
   | cont=>exact False.elim h
   | ret u =>
    obtain ⟨v,H',os,bare,un,hok',r',q⟩:=h
    have q':v = .bl true:=q
    subst q'
    obtain rfl:u=Value.bool true:=r'
    refine ⟨rfl,OldK.of_keep fun b o e=>?_,os,bare⟩
    cases q:H b with
    | none=>exact un.keep b o e q (by intro z; exact absurd (show b ∈ ([]:List Addr) from z) (by simp)) (by simp)
    | some u =>
     rcases hO b with z | ⟨ob,xs,z⟩
     ·rw [q] at z; cases z
     ·have z2:=un.frzs b ob _ z
      obtain ⟨e1,_⟩:=hok b _ z
      obtain ⟨e2,_⟩:=hok' b _ z2
      rw [e] at e1; cases e1
      exact e2
 cases hk:K.lookup a with
 | some o =>
  -- the script is one of the module's own objects
  have e:=KX a o hk
  rw [ha] at e
  cases e
  refine core (fun _=>none) (fun _=>.inl rfl) (.inr ⟨_,vs.toArray,_,hk,rfl,rfl,rfl,by rw [We,lenV]; exact hl,by simpa using rv⟩) (fun b u z=>by have z':(none:Option HO)=some u:=z; cases z') (fun b z=>absurd rfl z) fun z=>absurd rfl z
 | none =>
  refine core (fun b=>if b=a then some (.frz { cls:=.type "list",data:=.seq vs.toArray } (.lst (ns.map V.int))) else none) (fun b=>?_) (.inl (.inr ⟨{ cls:=.type "list",data:=.seq vs.toArray },if_pos rfl⟩)) (fun b u z=>?_) (fun b z=>?_) fun _=>hk
  ·by_cases hb:b=a
   ·exact .inr ⟨_,_,if_pos hb⟩
   ·exact .inl (if_neg hb)
  ·by_cases hb:b=a
   ·have z':=(if_pos hb).symm.trans z
    cases z'
    subst hb
    exact ⟨ha,by rw [Wy]; exact hl,vs,_,rv,ha⟩
   ·have z':=(if_neg hb).symm.trans z
    cases z'
  ·by_cases hb:b=a
   ·exact hb
   ·exact absurd (if_neg hb) z
abbrev KOf {K:W0} {h:Heap} (_:K.In h):W0:=K
theorem walk_of {l:PySem.W.OpenLaw} {n k:Nat} {q:Wi} {loose:List Str} {XP:(Str→Option Value)→Heap→Prop} {YP:Wp→Heap→Prop} {d:DefRec} {K:Params→W0} {CX:Wp→CXT} {sp:Wp→Sp} {x:Str}
  (hn:l.most=some n) (hn2:n≤W6) (hdf:d.params.defaults=[]) (hr:Room k callerA)
  (hY:∀ (w:Wp) (h:Heap),YP w h→(K w.params).In h)
  (F:∀ (w:Wp) (mg:Str→Option Value) (fa:Addr) (h:Heap),(K w.params).In h→h.Ns Wm mg→mg d.name=some (.ref fa) →
   ∃ fd:Wx,(∀ (s:W1) (u:Value),BindsTo s fd ⟨[u],[]⟩ [(x,u)]) ∧
    ∀ base:Heap,(K w.params).In base→base.Ns Wm mg→FnOk l.prog w (K w.params) mg base (CX w) k fa fd [x] (sp w))
  (hsp:∀ (w:Wp) (H:Hp) (a:Addr) (ns:List Int),ns.length≤n→Only H→SqL (K w.params) H a (ns.map V.int)→sp w [.ref a] H (fun v _=>v = .bl true) fun _ _ _=>False)
  (hCX:∀ (w:Wp) (H:Hp) (s:W1) (e:Value) (s':W1),CX w [] H s (fun _ _ _=>False) e s'→False) :
  PySem.W.WalkO q loose XP YP l.row.toRowW d [] (fun f vs=>PySem.call f vs):=by
 refine Att.attach_call hn hdf fun w s₀ s₁ mg mb fa o pm cd doc a vs ns G Y ho hd hcd hmg hobj hints hlen hg=>?_
 have KX:=hY w _ Y
 obtain ⟨fd,hb,hF⟩:=F w mg fa _ KX G.T.g hmg
 exact zas KX G.T.g G.T.b G.T.builtins G.T.nolimit hg hobj hints (Q0 hlen hn2) hr hF hb (fun H hO hS=>hsp w H a ns hlen hO hS) fun H e s'=>hCX w H s₁ e s'
def z2M (s:Stmt):Arguments:=match s with
 | .FunctionDef _ a _ _ _ _ _ _ _ _=>a
 | _=>{ posonlyargs:=[],args:=[],vararg:=none,kwonlyargs:=[],kw_defaults:=[],kwarg:=none,defaults:=[] }
def z1h (s:Stmt):List Stmt:=match s with
 | .FunctionDef _ _ b _ _ _ _ _ _ _=>b
 | _=>[]
def z07 (s:Stmt):Scope:=match s with
 | .FunctionDef _ _ _ _ _ _ sc _ _ _=>sc
 | _=>{ kind:=.function,names:=[],isGenerator:=false,isCoroutine:=false }
abbrev CX0:CXT:=fun _ _ _ _ _ _=>False
abbrev E0:XK:=fun _ _ _=>False
theorem zdi:z9Q CX0 X E0:=fun _ _ _ _ _ _ _ h=>h.elim
structure Fun (K:W0) (x qual:Str) (st:Stmt) (f:Addr) (fd:Wx):Prop where
 ex:∃ (oc:Value) (od:Option Addr) (kV doc pm:Value) (an:Option Addr) (cdv ct:Value) (osl:Array (Option Value)),
  fd=Qg x qual (z2M st) (z1h st) (z07 st) .none kV doc pm an cdv ct∧K.lookup f=some ⟨oc,od,.func fd,osl⟩∧PySem.W.codeIn K cdv qual=true
 kp:WX K (.ref f)=true
section
variable {P:Wi} {w:Wp} {K:W0} {mg:Str→Option Value} {base:Heap}
theorem Fun.ok {x qual:Str} {st:Stmt} {f:Addr} {fd:Wx} {N ps:List Str} {k:Nat} {sp:Sp} (F:Fun K x qual st f fd) (S:FnScope N ps (z07 st)) (len:∀ vs H Q E,sp vs H Q E→vs.length=ps.length)
  (hbody:∀ (cdv:Value) (A:Wn) (outer:List Env) (s:W1) (H:Hp) (vs:List V) (Q:VK) (E:XK),Room k (A.deeper (QH qual (z07 st) s.heap.objs.size f cdv))→sp vs H Q E →
   ∃ t,PSs (cxOf CX0 P w K mg base N qual (z07 st) f cdv A outer s H E).nox (z1h st) t∧t { nx:=fun _ H'=>Q .non H',rt:=Q } (z2A N vs) H):FnOk P w K mg base CX0 (k + 1) f fd ps sp:=by
 obtain ⟨oc,od,kV,doc,pm,an,cdv,ct,osl,rfl,lk,hcd⟩:=F.ex
 refine zdL lk hcd S len fun A outer s H vs Q E hr hsp=>?_
 obtain ⟨t,h,q⟩:=hbody cdv A outer s H vs Q E hr hsp
 exact ⟨t,h.nox,q⟩
theorem Fun.binds {x qual:Str} {st:Stmt} {f:Addr} {fd:Wx} {ps:List Str} (F:Fun K x qual st f fd)
  (h:∀ (kV doc pm:Value) (an:Option Addr) (cdv ct:Value) (us:List Value),us.length=ps.length→bindArgs (Qg x qual (z2M st) (z1h st) (z07 st) .none kV doc pm an cdv ct) ⟨us,[]⟩=pure (ps.zip us)):Binds K fd ps []:=by
 obtain ⟨oc,od,kV,doc,pm,an,cdv,ct,osl,rfl,lk,hcd⟩:=F.ex
 exact .all (h kV doc pm an cdv ct)
theorem zbc {x qual:Str} {st:Stmt} {f:Addr} {oc:Value} {od an:Option Addr} {osl:Array (Option Value)} {kV doc pm cdv ct:Value} (l:K.lookup f=some ⟨oc,od,.func (Qg x qual (z2M st) (z1h st) (z07 st) .none kV doc pm an cdv ct),osl⟩)
  (c:PySem.W.codeIn K cdv qual=true) (k:WX K (.ref f)=true):Fun K x qual st f (Qg x qual (z2M st) (z1h st) (z07 st) .none kV doc pm an cdv ct):=⟨⟨oc,od,kV,doc,pm,an,cdv,ct,osl,rfl,l,c⟩,k⟩
end
theorem z8p (h:n≤1000):n < W6:=Nat.lt_of_le_of_lt h (by decide)
section
variable {X:Cx}
theorem pv (i:Nat) (hN:X.N[i]? = some x:=by rfl) (hv:Vis X.env.scope x:=by first | exact Or.inl rfl | exact Or.inr (Or.inl rfl) | exact Or.inr (Or.inr rfl)) (hd:(x == ("__debug__" : Str))=false:=by decide)
  (hcd:(x == ("__classdict__" : Str))=false:=by decide):PE X (.Name x pos) (tVar i):=zd7 hN hv hd hcd
theorem z9K:CallR X (.builtin "len") (fun xs H Q=>∃ a kvs,xs=[V.ref a]∧H a=some (.dK kvs)∧Q (.int kvs.length) H):=by
 intro pins s σ H xs us Q I r h
 obtain ⟨a,kvs,rfl,ha,q⟩:=h
 obtain ⟨u,rfl,ru⟩:=z3B r
 cases ru
 exact d_len I (.inl ha) fun t s' I'=>⟨.int kvs.length,H,I',⟨t,rfl⟩,q⟩
end
def Same (H H':Hp):Prop:=∀ b o,H b=some o→H' b=some o
theorem Same.refl (H:Hp):Same H H:=fun _ _ h=>h
theorem Same.trans (a:Same H H1) (b:Same H1 H2):Same H H2:=fun c o h=>b c o (a c o h)
theorem Same.free (e:Same H H') (h:H' l=Option.none):H l=Option.none:=by
 cases q:H l with
 | none=>rfl
 | some o =>
  rw [e l o q] at h
  cases h
theorem Same.seq {K:W0} {H H':Hp} {a:Addr} {xs:List V} (e:Same H H') (h:SqL K H a xs):SqL K H' a xs:=by
 rcases h with (h | ⟨o,h⟩) | h
 ·exact .inl (.inl (e _ _ h))
 ·exact .inl (.inr ⟨o,e _ _ h⟩)
 ·exact .inr h
section
variable {κ:Type} [DecidableEq κ]
end
def z1E (cells:List (Str×Addr)):List (Str×NameKind)→List (Str×Addr)→List (Str×Addr)
 | [],acc=>acc
 | (n,k) :: r,acc=>z1E cells r (if k == .free then (match cells.lookup n with | some a=>(n,a) :: acc | none=>acc) else acc)
theorem z36 (f:Str×NameKind→List (Str×Addr)→Sem (ForInStep (List (Str×Addr))))
  (hf:∀ name kind cs,f (name,kind) cs=if kind == .free then (do let a ← cellOf env name; pure (.yield ((name,a) :: cs))) else pure (.yield cs)) :
  ∀ (names:List (Str×NameKind)) (acc:List (Str×Addr)),(∀ x ∈ names,x.2=NameKind.free→∃ c,env.cells.lookup x.1=some c)→(forIn names acc f:Sem (List (Str×Addr)))=pure (z1E env.cells names acc)
 | [],acc,_=>by rw [List.forIn_nil]; rfl
 | (n,k) :: r,acc,h=>by
  rw [List.forIn_cons,hf]
  unfold z1E
  by_cases hk:(k == NameKind.free)=true
  ·obtain ⟨c,hc⟩:=h (n,k) Wo (by simpa using hk)
   have hc':env.cells.lookup n=some c:=hc
   have e:cellOf env n=pure c:=by unfold cellOf; rw [hc']
   rw [if_pos hk,if_pos hk,e,hc']
   exact z36 f hf r _ fun x hx=>h x (Wj _ hx)
  ·rw [if_neg hk,if_neg hk]
   exact z36 f hf r _ fun x hx=>h x (Wj _ hx)
theorem z5l (h:∀ x ∈ scope.names,x.2=NameKind.free→∃ c,env.cells.lookup x.1=some c):closureFor scope env=pure (z1E env.cells scope.names []):=by
 unfold closureFor
 dsimp only
 rw [z36 (env:=env) _ (fun name kind cs=>by cases hkc:kind == NameKind.free <;> simp [hkc]) scope.names [] h]
 rfl
theorem z5k:∀ (names:List (Str×NameKind)) (acc:List (Str×Addr)),(n,c) ∈ z1E cells names acc→(n,c) ∈ acc∨((n,NameKind.free) ∈ names∧cells.lookup n=some c)
 | [],acc,h=>.inl h
 | (y,k) :: r,acc,h=>by
  unfold z1E at h
  rcases z5k r _ h with q | ⟨q,e⟩
  ·by_cases hk:(k == NameKind.free)=true
   ·rw [if_pos hk] at q
    have hk':k=NameKind.free:=by simpa using hk
    cases e:cells.lookup y with
    | none=>rw [e] at q; exact .inl q
    | some a =>
     rw [e] at q
     rcases Wh.mp q with z | z
     ·cases z
      exact .inr ⟨by rw [hk']; exact Wo,e⟩
     ·exact .inl z
   ·rw [if_neg hk] at q; exact .inl q
  ·exact .inr ⟨Wj _ q,e⟩
theorem z4T:∀ (names:List (Str×NameKind)) (acc:List (Str×Addr)),(acc.lookup n).isSome=true∨((n,NameKind.free) ∈ names∧(cells.lookup n).isSome=true)→((z1E cells names acc).lookup n).isSome=true
 | [],acc,h=>h.elim id fun z=>absurd z.1 (by simp)
 | (y,k) :: r,acc,h=>by
  unfold z1E
  apply z4T r
  by_cases hk:(k == NameKind.free)=true
  ·rw [if_pos hk]
   cases e:cells.lookup y with
   | none =>
    rcases h with h | ⟨h1,h2⟩
    ·exact .inl h
    ·rcases Wh.mp h1 with z | z
     ·cases z
      rw [e] at h2; cases h2
     ·exact .inr ⟨z,h2⟩
   | some a =>
    by_cases hn:(n == y)=true
    ·refine .inl ?_
     show (List.lookup n ((y,a) :: acc)).isSome=true
     rw [WU,hn]
     rfl
    ·rcases h with h | ⟨h1,h2⟩
     ·refine .inl ?_
      show (List.lookup n ((y,a) :: acc)).isSome=true
      have hn':(n == y)=false:=by simpa using hn
      rw [WU,hn']
      exact h
     ·rcases Wh.mp h1 with z | z
      ·cases z
       exact absurd (by simp) hn
      ·exact .inr ⟨z,h2⟩
  ·rw [if_neg hk]
   rcases h with h | ⟨h1,h2⟩
   ·exact .inl h
   ·rcases Wh.mp h1 with z | z
    ·cases z
     exact absurd rfl hk
    ·exact .inr ⟨z,h2⟩
theorem z9G:∀ (names:List (Str×NameKind)) (h:Heap) (acc:List (Str×Addr)),(n,c) ∈ Q9 h.objs.size names acc →
  (n,c) ∈ acc∨((n,NameKind.cell) ∈ names∧h.objs.size≤c∧(QY h names).IsCell c none)
 | [],_,_,h=>.inl h
 | (y,k) :: r,h,acc,hm=>by
  unfold Q9 at hm
  unfold QY
  by_cases hk:(k == NameKind.cell)=true
  ·rw [if_pos hk] at hm
   rw [if_pos hk]
   have hk':k=NameKind.cell:=by simpa using hk
   have sz:(h.push { cls:=.type "cell",data:=.cell none }).objs.size=h.objs.size + 1:=Heap.size_push ..
   rw [← sz] at hm
   rcases z9G r _ _ hm with q | ⟨q1,q2,q3⟩
   ·rcases Wh.mp q with z | z
    ·cases z
     refine .inr ⟨by rw [hk']; exact Wo,Wc _,?_⟩
     exact Heap.IsCell.keeps ⟨_,Wr _ rfl,rfl⟩ (pushCells_keeps r _)
    ·exact .inl z
   ·exact .inr ⟨Wj _ q1,by rw [sz] at q2; omega,q3⟩
  ·rw [if_neg hk] at hm
   rw [if_neg hk]
   rcases z9G r _ _ hm with q | ⟨q1,q2,q3⟩
   ·exact .inl q
   ·exact .inr ⟨Wj _ q1,q2,q3⟩
theorem z9H:∀ (names:List (Str×NameKind)) (k:Nat) (acc:List (Str×Addr)),(∀ n n' c,(n,c) ∈ acc→(n',c) ∈ acc→n=n')→(∀ n c,(n,c) ∈ acc→c < k) →
  ∀ n n' c,(n,c) ∈ Q9 k names acc→(n',c) ∈ Q9 k names acc→n=n'
 | [],_,_,h,_=>h
 | (y,kd) :: r,k,acc,h,hb=>by
  unfold Q9
  by_cases hk:(kd == NameKind.cell)=true
  ·rw [if_pos hk]
   refine z9H r (k + 1) _ (fun n n' c h1 h2=>?_) fun n c hm=>?_
   ·rcases Wh.mp h1 with e | h1 <;> rcases Wh.mp h2 with e' | h2
    ·cases e; cases e'; rfl
    ·cases e; exact absurd (hb _ _ h2) (WV _)
    ·cases e'; exact absurd (hb _ _ h1) (WV _)
    ·exact h n n' c h1 h2
   ·rcases Wh.mp hm with e | hm
    ·cases e; exact Nat.lt_succ_self _
    ·exact Nat.lt_succ_of_lt (hb _ _ hm)
  ·rw [if_neg hk]
   exact z9H r k acc h hb
theorem z0P {env:Env} {x:Str}:∀ {names:List (Str×NameKind)} {k:NameKind},
  (names.map fun (y:Str×NameKind)=>if (y.2 == NameKind.free && env.scope.kind == .function && env.kindOf y.1 == some .cell) then (y.1,NameKind.cell) else (y.1,y.2)).lookup x=some k →
  names.lookup x=some k∨(k=NameKind.cell∧names.lookup x=some .free)
 | [],_,h=>by simp at h
 | (n,kd) :: r,k,h=>by
  rw [Wq] at h
  have ih:=@z0P env x r k
  cases hx:x == n with
  | true =>
   by_cases hc:(kd == NameKind.free && env.scope.kind == .function && env.kindOf n == some .cell)=true
   ·rw [if_pos hc,WU,hx] at h
    cases h
    simp only [Wg] at hc
    have:kd=NameKind.free:=by simpa using hc.1.1
    exact .inr ⟨rfl,by rw [WU,hx,this]⟩
   ·rw [if_neg hc,WU,hx] at h
    cases h
    exact .inl (by rw [WU,hx])
  | false =>
   have h':(r.map fun (y:Str×NameKind)=>if (y.2 == NameKind.free && env.scope.kind == .function && env.kindOf y.1 == some .cell) then (y.1,NameKind.cell) else (y.1,y.2)).lookup x=some k:=by
    by_cases hc:(kd == NameKind.free && env.scope.kind == .function && env.kindOf n == some .cell)=true
    ·rw [if_pos hc,WU,hx] at h; exact h
    ·rw [if_neg hc,WU,hx] at h; exact h
   rw [WU,hx]
   exact ih h'
def z1r (X:Cx) (scope:Scope) (s₀:W1) (H₀:Hp) (ex:List Addr):Cx :=
 { X with
  env:={ scope:=relabel scope X.env,locals:=s₀.heap.objs.size,globals:=X.env.globals,cells:=Q9 (s₀.heap.objs.size + 1) scope.names (z1E X.env.cells scope.names []),qual:=X.env.qual,func:=none,code:=X.env.code,frame:=X.env.frame,builtins:=X.env.builtins }
  s₀:=s₀
  H₀:=H₀
  outer:=X.stack
  ex:=ex
  fn:=fun x=>scope.names.lookup x == some .cell
  pn:=[]
  xe:=fun _ _=>False }
structure CScope (X:Cx) (scope:Scope) (cs:List Nat):Prop where
 kind:scope.kind = .function
 names:∀ x ∈ scope.names,x.2 = .local→scope.names.lookup x.1=some .local
 free:∀ x ∈ scope.names,x.2 = .free→X.env.kindOf x.1=some .cell∨X.env.kindOf x.1=some .free
 nd:(scope.names.map (·.1)).Nodup
 own:∀ (i:Nat) x,X.N[i]? = some x→scope.names.lookup x=some .local∨scope.names.lookup x=some .cell→i ∈ cs
def clr (cs:List Nat) (σ:St):St:=cs.foldl (fun σ i=>σ.set i none) σ
theorem z5Q (cs:List Nat):∀ σ:St,(clr cs σ).length=σ.length:=by
 induction cs with
 | nil=>intro σ; rfl
 | cons i r ih =>
  intro σ
  show (clr r (σ.set i none)).length=_
  rw [ih]; simp
theorem z2P:∀ (cs:List Nat) (σ:St) (i:Nat) (v:V),(clr cs σ)[i]? = some (some v)→σ[i]? = some (some v)∧i ∉ cs:=by
 intro cs
 induction cs with
 | nil=>intro σ i v h; exact ⟨h,by simp⟩
 | cons j r ih =>
  intro σ i v h
  have h':(clr r (σ.set j none))[i]? = some (some v):=h
  obtain ⟨h1,h2⟩:=ih _ i v h'
  by_cases e:j=i
  ·subst e
   rw [WA] at h1
   simp at h1
  ·rw [W4 e] at h1
   exact ⟨h1,by simp only [Wh,not_or]; exact ⟨Ne.symm e,h2⟩⟩
theorem z4F:∀ {l:List (Str×α)},(l.map (·.1)).Nodup→(x,k) ∈ l→(x,k') ∈ l→k=k'
 | (y,j) :: r,nd,h1,h2=>by
  rw [Wq,List.nodup_cons] at nd
  rcases Wh.mp h1 with e | g1 <;> rcases Wh.mp h2 with e' | g2
  ·cases e; cases e'; rfl
  ·cases e; exact absurd (WC (f:=(·.1)) g2) nd.1
  ·cases e'; exact absurd (WC (f:=(·.1)) g1) nd.1
  ·exact z4F nd.2 g1 g2
section
variable {X:Cx} {pins:List (Addr×Obj)} {σ:St} {H:Hp} {s:W1} {scope:Scope} {cs:List Nat} {fp:List Addr}
theorem z89 (I:Inv X pins σ H s) (S:CScope X scope cs) (hf:∀ b ∈ fp,FpOk X pins H b) (hlt:∀ b ∈ fp,b < s.heap.objs.size) :
  Inv (z1r X scope s H fp) [] (clr cs σ) H { s with heap:=QY (s.heap.push { cls:=.type "dict",data:=.dict #[] }) scope.names }:=by
 have sz:(s.heap.push { cls:=.type "dict",data:=.dict #[] }).objs.size=s.heap.objs.size + 1:=Heap.size_push ..
 have kp:∀ b o,s.heap.get? b=some o→(QY (s.heap.push { cls:=.type "dict",data:=.dict #[] }) scope.names).get? b=some o:=fun b o e=>pushCells_keeps _ _ b o (W7 _ e)
 have clo:∀ n c,(n,c) ∈ z1E X.env.cells scope.names []→(n,NameKind.free) ∈ scope.names∧X.env.cells.lookup n=some c:=fun n c h=>(z5k _ _ h).elim (fun z=>absurd z (by simp)) id
 have cltm:∀ n c,(n,c) ∈ z1E X.env.cells scope.names []→c < s.heap.objs.size:=fun n c h=>by
  obtain ⟨v,q⟩:=I.cell n c (clo n c h).2
  exact q.lt
 have cel:∀ n c,(n,c) ∈ Q9 (s.heap.objs.size + 1) scope.names (z1E X.env.cells scope.names []) →
   ((n,NameKind.free) ∈ scope.names∧X.env.cells.lookup n=some c)∨((n,NameKind.cell) ∈ scope.names∧s.heap.objs.size + 1≤c∧(QY (s.heap.push { cls:=.type "dict",data:=.dict #[] }) scope.names).IsCell c none):=fun n c h=>by
  rw [← sz] at h
  rcases z9G _ _ _ h with q | q
  ·exact .inl (clo n c q)
  ·rw [sz] at q; exact .inr q
 have cinj:=z9H scope.names (s.heap.objs.size + 1) (z1E X.env.cells scope.names []) (fun n n' c h1 h2=>I.ok.inj n n' c (clo n c h1).2 (clo n' c h2).2) (fun n c h=>Nat.lt_succ_of_lt (cltm n c h))
 have hasC:∀ x ∈ scope.names,x.2 = .free→∃ c,X.env.cells.lookup x.1=some c:=fun x hx hk=>I.ok.has x.1 (S.free x hx hk)
 have fpn:∀ b ∈ fp,b ∉ frs X.stack:=fun b hb z=>by
  obtain ⟨_,f1,f2,_⟩:=hf b hb
  rcases Wh.mp (I.stkSub b z) with e | e
  ·exact f1 e
  ·exact f2 e
 have kindC:∀ x,(z1r X scope s H fp).env.kindOf x=some .cell∨(z1r X scope s H fp).env.kindOf x=some .free→scope.names.lookup x=some .cell∨scope.names.lookup x=some .free:=fun x h=>by
  rcases h with h | h
  ·have h':(relabel scope X.env).names.lookup x=some .cell:=h
   rcases z0P (env:=X.env) (names:=scope.names) h' with q | ⟨_,q⟩
   ·exact .inl q
   ·exact .inr q
  ·have h':(relabel scope X.env).names.lookup x=some .free:=h
   rcases z0P (env:=X.env) (names:=scope.names) h' with q | ⟨q,_⟩
   ·exact .inr q
   ·cases q
 have hasIt:∀ x,scope.names.lookup x=some .cell∨scope.names.lookup x=some .free→∃ c,(Q9 (s.heap.objs.size + 1) scope.names (z1E X.env.cells scope.names [])).lookup x=some c:=fun x h=>by
  refine Qx.mp (QL scope.names _ _ ?_)
  rcases h with h | h
  ·exact .inl h
  ·refine .inr (z4T _ _ (.inr ⟨Ws h,?_⟩))
   obtain ⟨c,hc⟩:=hasC _ (Ws h) rfl
   exact Option.isSome_iff_exists.mpr ⟨c,hc⟩
 have ns0:(QY (s.heap.push { cls:=.type "dict",data:=.dict #[] }) scope.names).Ns s.heap.objs.size fun _=>none:=(Heap.Ns.new s.heap (.type "dict")).keeps (pushCells_keeps _ _)
 refine ⟨⟨I.ok.mod,S.kind,I.ok.glob,I.ok.blt,Wc _,fun y z c h1 h2=>cinj y z c (Ws h1) (Ws h2),fun x hx=>hasIt x (kindC x hx),fun x c hfn h=>?_,I.ok.hd,I.ok.frames,.inl rfl,
  fun b hb=>⟨WN (hlt b hb),fun x c h e=>?_⟩,I.bs,Q0 I.ok.bsz I.sz,fun b o e hb=>?_,fpn,I.stack,I.stkFree⟩,
  rfl,I.bare,Un.kept kp,⟨fun _=>none,ns0,fun i x v h1 h2 h3=>?_⟩,fun x c h=>?_,I.hok.fresh (Wc _),fun x c h=>?_,fun p hp=>absurd (show p ∈ ([]:List (Addr×Obj)) from hp) (by simp),I.hok.kept kp,(z5Q cs σ).trans I.len⟩
 ·rcases cel x c (Ws h) with q | q
  ·have hfn':scope.names.lookup x=some .cell:=by
    have:(scope.names.lookup x == some .cell)=true:=hfn
    exact eq_of_beq this
   have:=z4F S.nd q.1 (Ws hfn')
   cases this
  ·exact Nat.le_of_succ_le q.2.1
 ·subst e
  rcases cel x c (Ws h) with q | q
  ·exact (hf c hb).2.2.2.2.1 x c q.2 rfl
  ·exact absurd (Wt (hlt c hb) (Nat.le_of_succ_le q.2.1)) (WV _)
 ·obtain ⟨_,_,_,f3,_⟩:=hf b hb
  rcases f3 with z | z
  ·exact I.ok.noex b o e z
  ·exact absurd (Wt (Wf (I.ok.bs b o e).1) z) (WV _)
 ·obtain ⟨h2',hni⟩:=z2P cs σ i v h2
  have hni':¬ (scope.names.lookup x=some .local∨scope.names.lookup x=some .cell):=fun z=>hni (S.own i x h1 z)
  have hfree:scope.names.lookup x=some .free:=by
   rcases h3 with h3 | h3 | h3
   ·rcases z0P (env:=X.env) (names:=scope.names) h3 with q | ⟨q,_⟩
    ·exact absurd (.inl q) hni'
    ·cases q
   ·rcases z0P (env:=X.env) (names:=scope.names) h3 with q | ⟨_,q⟩
    ·exact absurd (.inr q) hni'
    ·exact q
   ·rcases z0P (env:=X.env) (names:=scope.names) h3 with q | ⟨q,_⟩
    ·exact q
    ·cases q
  have hk:=S.free _ (Ws hfree) rfl
  obtain ⟨m,hn,hl⟩:=I.loc
  have hvis:Vis X.env.scope x:=by
   rcases hk with hk | hk
   ·exact .inr (.inl hk)
   ·exact .inr (.inr hk)
  obtain ⟨u,r,l⟩:=hl i x v h1 h2' hvis
  refine ⟨u,r,?_⟩
  rcases l with ⟨k,_⟩ | ⟨_,c,hc,hcell⟩
  ·have k':X.env.kindOf x=some .local:=k
   rcases hk with hk | hk
   ·rw [show X.env.kindOf x=some .cell from hk] at k'; cases k'
   ·rw [show X.env.kindOf x=some .free from hk] at k'; cases k'
  ·obtain ⟨c',hc'⟩:=hasIt x (.inr hfree)
   have e:c'=c:=by
    rcases cel x c' (Ws hc') with q | q
    ·have q2:=q.2
     rw [hc] at q2; exact (Wu q2).symm
    ·have:=z4F S.nd q.1 (Ws hfree)
     cases this
   subst e
   refine .inr ⟨?_,c',hc',hcell.keeps kp⟩
   rcases h3 with h3 | h3 | h3
   ·rcases z0P (env:=X.env) (names:=scope.names) h3 with q | ⟨q,_⟩
    ·rw [hfree] at q; cases q
    ·cases q
   ·exact .inl h3
   ·exact .inr h3
 ·rcases cel x c (Ws h) with q | q
  ·obtain ⟨v,z⟩:=I.cell x c q.2
   exact ⟨v,z.keeps kp⟩
  ·exact ⟨none,q.2.2⟩
 ·rcases cel x c (Ws h) with q | q
  ·exact I.freeC x c q.2
  ·exact I.hok.fresh (Nat.le_of_succ_le q.2.1)
end
abbrev NoX:Value→W1→Prop:=fun _ _=>False
def zbj (ifs:List Expr) (env:Env):Sem Bool:=forIn ifs true fun c r=>if r=true then do let ok ← isTrue c env (eval c env); pure (ForInStep.yield ok) else pure (ForInStep.yield r)
theorem z6E (I:Nat→W1→Prop)
  (turn:∀ n s,I n s→Wa (model prog w) A (pyNext it) (fun r s₁=>match r with
   | none=>R (.ok .next) s₁
   | some v=>Wa (model prog w) A (letOwnedTupleGo target it v) (fun _ s₁'=>Wa (model prog w) A (assign target env v) (fun _ s₂ =>
     Wa (model prog w) A (zbj ifs env) (fun ok s₃ =>
      if ok=true then Wa (model prog w) A (eval elt env) (fun x s₄ =>
       Wa (model prog w) A (call (.builtin "list.append") [acc,x]) (fun _ s₅=>∃ m,m < n∧I m s₅) NoX s₄) NoX s₃
      else ∃ m,m < n∧I m s₃) NoX s₂) NoX s₁') NoX s₁) NoX s)
  (n:Nat) (h:I n s) :
  Qw (model prog w) A (.compLoop (.ListComp elt [⟨target,iter,ifs,0⟩] scope pos) 0 it acc env) R s:=by
 refine codeAny_loop rfl I (fun n s hI=>?_) n h
 show Wa _ A ((compTurn (.ListComp elt [⟨target,iter,ifs,0⟩] scope pos) 0 it acc env).onRaise (fun x=>do QZ x env; theTreesLotGoes x)) _ _ s
 refine wpAny_noted ?_
 rw [compTurn_list]
 refine W2 (wpAny_standAt (W2 (WE (turn n s hI) (fun r s₁ h₁=>?_) fun _ _ h'=>h'.elim)))
 cases r with
 | none=>exact Wb h₁
 | some v =>
  refine W2 (WE h₁ (fun _ s₁' h₁'=>?_) fun _ _ h'=>h'.elim)
  refine W2 (WE h₁' (fun _ s₂ h₂=>W2 (WE h₂ (fun ok s₃ h₃=>?_) fun _ _ h'=>h'.elim)) fun _ _ h'=>h'.elim)
  cases ok with
  | false=>exact Wb ⟨rfl,h₃⟩
  | true =>
   exact W2 (W2 (WE h₃ (fun x s₄ h₄=>W2 (WE h₄ (fun _ s₅ h₅=>Wb (Wb ⟨rfl,h₅⟩)) fun _ _ h'=>h'.elim)) fun _ _ h'=>h'.elim))
theorem z7X
  (h:Q { scope,locals:=s.heap.objs.size,globals,cells:=Q9 (s.heap.objs.size + 1) scope.names cl,qual,func:=none,code:=env.code,frame:=env.frame,builtins:=env.builtins }
   { s with heap:=QY (s.heap.push { cls:=.type "dict",data:=.dict #[] }) scope.names }):Wa M A (newFunctionEnv scope globals cl [] qual none .none (some env)) Q E s:=by
 simp only [newFunctionEnv,Option.isSome_some,if_true]
 refine W2 (wpAny_alloc ?_)
 refine W2 (wpAny_layCells _ (fun name kind cells=>by cases hkc:kind == NameKind.cell <;> simp [hkc]) _ _ _ _ ?_)
 rw [show ({ s with heap:=s.heap.push { cls:=.type "dict",data:=.dict #[] } }:W1).heap.objs.size=s.heap.objs.size + 1 from Heap.size_push ..]
 exact W2 (Wb (Wb h))
def PTs (X:Cx) (ifs:List Expr) (t:TT):Prop :=
 ∀ (pins:List (Addr×Obj)) (s:W1) (σ:St) (H:Hp) (Q:Bool→Hp→Prop),Inv X pins σ H s→t σ H Q→Wa (model X.prog X.w) X.A (zbj ifs X.env) (TP X pins σ Q) X.xe s
def tYes:TT:=fun _ H Q=>Q true H
theorem zbQ:PTs X [] tYes:=fun pins s σ H Q I h=>wpAny_tests_nil ⟨H,I,h⟩
theorem zbP (h:PT X c t):PTs X [c] t:=fun pins s σ H Q I q=>wpAny_tests_one (h pins s σ H Q I q)
def Le (σ σ':St):Prop:=σ'.length=σ.length∧∀ (i:Nat) (v:V),σ[i]? = some (some v)→σ'[i]? = some (some v)
def zbk (cs:List Nat) (g:TG) (tt:TT) (te:TE) (σ:St) (Q:VK) (J:It) (H1:Hp):Prop :=
 ∀ l,H1 l=none→∃ W:Nat→Nat→Hp→Prop,(∃ m,W 0 m (upd H1 l (.lst [])))∧∀ i m H2,W i m H2 →
  (J.stop i H2∧Q (.ref l) H2) ∨
  (J.go i H2∧∀ x H3,J.yld i H2 x H3→g x (clr cs σ) H3 fun σ4 H4=>Le (clr cs σ) σ4∧tt σ4 H4 fun b H5 =>
   if b=true then te σ4 H5 fun v H6=>∃ ys m',H6 l=some (.lst ys)∧ys.length < W6∧m' < m∧W (i + 1) m' (upd H6 l (.lst (ys ++ [v]))) else ∃ m',m' < m∧W (i + 1) m' H5)
def zbv (cs:List Nat) (wi:TI) (g:TG) (tt:TT) (te:TE):TE:=fun σ H Q=>wi σ H fun J H1=>zbk cs g tt te σ Q J H1
section
variable {X:Cx} {pins:List (Addr×Obj)} {σ:St} {H:Hp} {s:W1} {scope:Scope} {cs:List Nat} {elt tg iter:Expr} {ifs:List Expr} {pos:Pos} {g:TG} {tt:TT} {te:TE}
theorem z5j {it:Addr} {fp:List Addr} {tn:Nat→Heap→Prop} {J:It} {Q:VK} {E:Value→W1→Prop} {RR:Value→Addr→Result→W1→Prop} (hc:X.calm=true) (I:Inv X pins σ H s) (S:CScope X scope cs)
  (T:Turn X.prog X.w X.K tg J fp it tn) (st:tn 0 s.heap) (hf:∀ b ∈ fp,FpOk X pins H b)
  (hg:∀ s₀ H₀ ex,PG (z1r X scope s₀ H₀ ex) tg g) (ht:∀ s₀ H₀ ex,PTs (z1r X scope s₀ H₀ ex) ifs tt) (he:∀ s₀ H₀ ex,PE (z1r X scope s₀ H₀ ex) elt te) (q:zbk cs g tt te σ Q J H)
  (hRR:∀ l C s' H',Inv X pins σ H' s'→FpOk X pins H' C→(∃ m,s'.heap.Ns C m)→Q (.ref l) H'→RR (.ref l) C (.ok .next) s') :
  Wa (model X.prog X.w) X.A (newList []) (fun acc s₃=>Wa (model X.prog X.w) X.A (newFunctionEnv scope X.env.globals (z1E X.env.cells scope.names []) [] X.env.qual none .none (some X.env)) (fun cenv s₄ =>
   Qw (model X.prog X.w) X.A (.compStart (.ListComp elt [⟨tg,iter,ifs,0⟩] scope pos) 0 (.ref it) acc { cenv with scope:=relabel scope X.env }) (RR acc cenv.locals) s₄) E s₃) E s:=by
 refine Qp ?_
 have hfr:H s.heap.objs.size=none:=I.hok.fresh (Wc _)
 obtain ⟨W,⟨m0,w0⟩,turn⟩:=q s.heap.objs.size hfr
 generalize hl:s.heap.objs.size=l at *
 have I3:Inv X pins σ (upd H l (.lst [])) { s with heap:=s.heap.push { cls:=.type "list",dict:=none,data:=.seq ([]:List Value).toArray } } :=
  I.laid (t':=s.toks) (fun b u e=>W7 _ e) (Nat.le_of_eq hl) ⟨Qf _,[],0,.nil,by rw [← hl]; exact Wr _ rfl⟩
 have kp3:∀ b o,s.heap.get? b=some o→(s.heap.push { cls:=.type "list",dict:=none,data:=.seq ([]:List Value).toArray }).get? b=some o:=fun b o e=>W7 _ e
 have hfl:∀ b ∈ fp,b≠l:=fun b hb e=>by
  obtain ⟨o,ho,_⟩:=T.obj 0 _ st b hb
  exact absurd (Wf ho) (by rw [e,hl]; exact WV _)
 have hf3:∀ b ∈ fp,FpOk X pins (upd H l (.lst [])) b:=fun b hb=>⟨by rw [z0n (hfl b hb)]; exact (hf b hb).1,(hf b hb).2⟩
 have st3:tn 0 (s.heap.push { cls:=.type "list",dict:=none,data:=.seq ([]:List Value).toArray }):=T.keep 0 _ _ st fun b _ o e=>kp3 b o e
 generalize hs3:({ s with heap:=s.heap.push { cls:=.type "list",dict:=none,data:=.seq ([]:List Value).toArray } }:W1)=s3 at I3
 have st3':tn 0 s3.heap:=by rw [← hs3]; exact st3
 have hlt3:∀ b ∈ fp,b < s3.heap.objs.size:=fun b hb=>by
  obtain ⟨o,ho,_⟩:=T.obj 0 _ st3' b hb
  exact Wf ho
 refine z7X ?_
 have I4:=z89 I3 S hf3 hlt3
 generalize hX:z1r X scope s3 (upd H l (.lst [])) fp=X' at I4
 generalize hs4:({ s3 with heap:=QY (s3.heap.push { cls:=.type "dict",data:=.dict #[] }) scope.names }:W1)=s4 at I4 ⊢
 have hg':=hg s3 (upd H l (.lst [])) fp
 have ht':=ht s3 (upd H l (.lst [])) fp
 have he':=he s3 (upd H l (.lst [])) fp
 rw [hX] at hg' ht' he'
 have st4:tn 0 s4.heap:=T.keep 0 _ _ st3' fun b _ o e=>by rw [← hs4]; exact pushCells_keeps _ _ b o (W7 _ e)
 have hP:X'.prog=X.prog:=by rw [← hX]; rfl
 have hw:X'.w=X.w:=by rw [← hX]; rfl
 have hA:X'.A=X.A:=by rw [← hX]; rfl
 have hK:X'.K=X.K:=by rw [← hX]; rfl
 have hc':X'.calm=true:=by rw [← hX]; exact hc
 have hxe:X'.xe=NoX:=by rw [← hX]; rfl
 have hloc:X'.env.locals=s3.heap.objs.size:=by rw [← hX]; rfl
 have henv:({ scope:=relabel scope X.env,locals:=s3.heap.objs.size,globals:=X.env.globals,cells:=Q9 (s3.heap.objs.size + 1) scope.names (z1E X.env.cells scope.names []),qual:=X.env.qual,func:=none,code:=X.env.code,frame:=X.env.frame,builtins:=X.env.builtins }:Env)=X'.env:=by rw [← hX]; rfl
 have fpx:∀ {H':Hp},(∀ b ∈ fp,H' b=none)→∀ b ∈ fp,FpOk X' [] H' b:=fun {H'} hn b hb=>by
  have ex:X'.ex=fp:=by rw [← hX]; rfl
  have pn:X'.pn=[]:=by rw [← hX]; rfl
  refine ⟨hn b hb,(I4.ok.exf b (by rw [ex]; exact hb)).1,I4.ok.exfs b (by rw [ex]; exact hb),.inl (by rw [ex]; exact hb),(I4.ok.exf b (by rw [ex]; exact hb)).2,fun p hp=>?_⟩
  rw [pn] at hp
  simp at hp
 show Qw (model X.prog X.w) X.A (.compStart (.ListComp elt [⟨tg,iter,ifs,0⟩] scope pos) 0 (.ref it) (.ref l) ({ scope:=relabel scope X.env,locals:=s3.heap.objs.size,globals:=X.env.globals,cells:=Q9 (s3.heap.objs.size + 1) scope.names (z1E X.env.cells scope.names []),qual:=X.env.qual,func:=none,code:=X.env.code,frame:=X.env.frame,builtins:=X.env.builtins }:Env)) (RR (.ref l) s3.heap.objs.size) s4
 rw [henv]
 have loop:Qw (model X.prog X.w) X.A (.compLoop (.ListComp elt [⟨tg,iter,ifs,0⟩] scope pos) 0 (.ref it) (.ref l) X'.env) (RR (.ref l) s3.heap.objs.size) s4:=by
  refine z6E (fun n s'=>∃ i H',Inv X' [] (clr cs σ) H' s'∧tn i s'.heap∧(∀ b ∈ fp,H' b=none)∧W i n H') ?_ m0 ⟨0,_,I4,st4,fun b hb=>(hf3 b hb).1,w0⟩
  rintro n s5 ⟨i,H5,I5,st5,fr5,w5⟩
  rcases turn i n H5 w5 with ⟨stop,qn⟩ | ⟨go,step⟩
  ·have:=T.done X' hP hw hK hc' i [] s5 (clr cs σ) H5 NoX I5 (fpx fr5) st5 stop
   rw [hA] at this
   refine thn this fun r s6 ⟨hr,I6⟩=>?_
   subst hr
   have b6:=I6.base
   have e1:X'.fs=frs X.stack:=by rw [← hX]; rfl
   have e2:X'.ex=fp:=by rw [← hX]; rfl
   have e3:X'.H₀=upd H l (.lst []):=by rw [← hX]; rfl
   have e4:X'.s₀=s3:=by rw [← hX]; rfl
   rw [e1,e2,e3,e4] at b6
   have o6:s6.os=s3.os:=by rw [← e4]; exact I6.os
   have hok6:HOk X.prog X.w H5 s6.heap:=by rw [← hP,← hw]; exact I6.hok
   have J6:Inv X pins σ H5 s6:=I3.call' o6 b6 hok6 I6.bare fun b hb=>by
    obtain ⟨_,f1,_,f3,f4,f5⟩:=hf3 b hb
    exact ⟨f3,f1,f4,f5⟩
   obtain ⟨m6,n6,_⟩:=I6.loc
   rw [hloc] at n6
   refine hRR l s3.heap.objs.size s6 H5 J6 (I3.fpOk (Wc _) ?_) ⟨m6,n6⟩ qn
   rw [← hloc]
   exact I6.free
  ·have:=T.item X' hP hw hK hc' i [] s5 (clr cs σ) H5 NoX I5 (fpx fr5) st5 go
   rw [hA] at this
   refine thn this fun r s6 ⟨u,hr,h6⟩=>?_
   subst hr
   refine thn h6 fun _ s7 ⟨x,H7,I7,r7,y7,st7,fr7⟩=>?_
   have I7':=I7.pinned (fpx fr7) (T.obj _ _ st7)
   have a8:=hg' _ s7 (clr cs σ) H7 x u _ I7' r7 (step x H7 y7)
   rw [hP,hw,hA,hxe] at a8
   refine thn a8 fun _ s8 ⟨σ8,H8,I8,le8,q8⟩=>?_
   have a9:=ht' _ s8 σ8 H8 _ I8 q8
   rw [hP,hw,hA,hxe] at a9
   refine thn a9 fun ok s9 ⟨H9,I9,q9⟩=>?_
   have back:∀ {H':Hp} {s':W1},Inv X' ([] ++ z6d fp s7.heap) σ8 H' s'→Inv X' [] (clr cs σ) H' s'∧tn (i + 1) s'.heap∧∀ b ∈ fp,H' b=none:=fun {H' s'} J=>by
    refine ⟨J.unpinned.weak (le8.1.symm) le8.2,T.keep _ _ _ st7 fun b hb o e=>(J.pin (b,o) (WB _ (WB _ (z2V hb e)))).1,fun b hb=>?_⟩
    obtain ⟨o,e,d⟩:=T.obj _ _ st7 b hb
    exact (J.pin (b,o) (WB _ (WB _ (z2V hb e)))).2.1
   cases ok with
   | false =>
    rw [if_neg Q2] at q9 ⊢
    obtain ⟨m',hm,w9⟩:=q9
    obtain ⟨b1,b2,b3⟩:=back I9
    exact ⟨m',hm,i + 1,H9,b1,b2,b3,w9⟩
   | true =>
    rw [if_pos rfl] at q9 ⊢
    have a10:=he' _ s9 σ8 H9 _ I9 q9
    rw [hP,hw,hA,hxe] at a10
    refine thn a10 fun x10 s10 ⟨v,H10,I10,r10,ys,m',hy,hz,hm,w10⟩=>?_
    have a11:=z6l (X:=X') _ s10 σ8 H10 (.ref l) [v] (.ref l) [x10] (fun _ H'=>W (i + 1) m' H') I10 rfl (.cons r10 .nil) ⟨l,ys,v,rfl,rfl,hy,hz,w10⟩
    rw [hP,hw,hA,hxe] at a11
    refine thn a11 fun _ s11 ⟨_,H11,I11,_,w11⟩=>?_
    obtain ⟨b1,b2,b3⟩:=back I11
    exact ⟨m',hm,i + 1,H11,b1,b2,b3,w11⟩
 exact codeAny_compStart_list loop (T.self X.A 0 s4 _ _ st4 loop)
theorem zbX (hc:X.calm=true) (S:CScope X scope cs) (hi:PI X tg iter wi) (hg:∀ s₀ H₀ ex,PG (z1r X scope s₀ H₀ ex) tg g) (ht:∀ s₀ H₀ ex,PTs (z1r X scope s₀ H₀ ex) ifs tt) (he:∀ s₀ H₀ ex,PE (z1r X scope s₀ H₀ ex) elt te)
  (hs:∀ x,Qo iter X.env x=pure x:=by intro _; rfl):PE X (.ListComp elt [⟨tg,iter,ifs,0⟩] scope pos) (zbv cs wi g tt te):=by
 intro pins s σ H Q I h
 have hasC:∀ x ∈ scope.names,x.2 = .free→∃ c,X.env.cells.lookup x.1=some c:=fun x hx hk=>I.ok.has x.1 (S.free x hx hk)
 rw [eval_ListComp]
 refine wpAny_comprehension_free (use:=none) rfl hs (z5l hasC) S.kind S.names (thn (hi pins s σ H _ I h) fun xv s1 h1=>thn h1 fun itv s2 h2=>?_)
 obtain ⟨it,fp,tn,J,H2,e,I2,T,st2,f2,q2⟩:=h2
 subst e
 refine z5j (RR:=fun acc C=>compPost (model X.prog X.w) X.A X.xe none (EP X pins σ Q) acc C) hc I2 S T st2 f2 hg ht he q2 ?_
 intro l C s' H' I' fC ⟨m,n⟩ q
 exact ⟨m,n,fun h' hs'=>⟨.ref l,H',I'.turned (t':=s'.toks) (fun b o hb e=>(hs'.2 b hb).trans e) fC.1 fC.2.1 fC.2.2.2.1 fC.2.2.2.2.1 fC.2.2.2.2.2,rfl,q⟩⟩
theorem z7S (hc:X.calm=true) (S:CScope X scope cs) (hN:X.N.Nodup) (hi':X.N[i]? = some y) (hy:X.env.scope.names.lookup y=some .local)
  (hi:PI X tg iter wi) (hg:∀ s₀ H₀ ex,PG (z1r X scope s₀ H₀ ex) tg g) (ht:∀ s₀ H₀ ex,PTs (z1r X scope s₀ H₀ ex) ifs tt) (he:∀ s₀ H₀ ex,PE (z1r X scope s₀ H₀ ex) elt te)
  (hsw:QD (.ListComp elt [⟨tg,iter,ifs,0⟩] scope pos) (some (.Name y py)) spos.line X.env=pure true:=by rfl)
  (hs:∀ x,Qo iter X.env x=pure x:=by intro _; rfl):PS X (.Assign [.Name y py] (.ListComp elt [⟨tg,iter,ifs,0⟩] scope pos) spos) (tAsg (zbv cs wi g tt te) (zay i)):=by
 intro pins s σ H D I h
 have hasC:∀ x ∈ scope.names,x.2 = .free→∃ c,X.env.cells.lookup x.1=some c:=fun x hx hk=>I.ok.has x.1 (S.free x hx hk)
 rw [exec_Assign_Name_used _ _ _ _ hsw]
 refine W2 (wpAny_standAt (W2 ?_))
 show Wa _ X.A (do let _ ← comprehension (.ListComp elt [⟨tg,iter,ifs,0⟩] scope pos) scope X.env _ (newList []) false (eval iter X.env) (some (assign (.Name y py) X.env))) _ _ s
 refine W2 (WE (wpAny_comprehension_free (use:=some (assign (.Name y py) X.env)) (Q:=fun _ s'=>SP X pins D .next s') rfl hs (z5l hasC) S.kind S.names
  (thn (hi pins s σ H _ I h) fun xv s1 h1=>thn h1 fun itv s2 h2=>?_)) (fun _ s' hq=>Wb (Wb hq)) fun _ _ e=>e)
 obtain ⟨it,fp,tn,J,H2,e,I2,T,st2,f2,q2⟩:=h2
 subst e
 refine z5j (RR:=fun acc C=>compPost (model X.prog X.w) X.A X.xe (some (assign (.Name y py) X.env)) (fun _ s'=>SP X pins D .next s') acc C) hc I2 S T st2 f2 hg ht he q2 ?_
 intro l C s' H' I' fC ⟨m,n⟩ q
 show Wa _ X.A (assign (.Name y py) X.env (.ref l)) _ _ _
 refine wpAny_assign_Name (z3a I' hN hi' (.inl hy) (v:=.ref l) rfl (fun s'' I'' ⟨a,hsb,ha⟩=>?_) (.inr hy))
 have hne:C≠a:=by
  rcases ha with rfl | ha
  ·exact fC.2.1
  ·exact fun e=>fC.2.2.2.2.1 y a ha e.symm
 refine ⟨m,n.sameBut hsb hne,fun h' hs'=>⟨_,H',I''.turned (t':=s''.toks) (fun b o hb e=>(hs'.2 b hb).trans e) fC.1 fC.2.1 fC.2.2.2.1 fC.2.2.2.2.1 fC.2.2.2.2.2,q⟩⟩
end
end L2
set_option maxHeartbeats 4000000
namespace DV
open PySem PySem.Spec PyProof.Rows L2
abbrev Tx:=List Nat
def toS (x:Tx):Str:=⟨x.toArray⟩
theorem z3D (x:Tx):(toS x).cps.toList=x:=by simp [toS]
theorem z1V (x:Tx):(toS x).length=x.length:=by simp [toS,Str.length]
theorem z5o (h:toS x=toS y):x=y:=by
 have:=congrArg (fun z:Str=>z.cps.toList) h
 simpa [toS] using this
theorem zaP (z:Str):z=toS z.cps.toList:=by simp [toS]
abbrev DKey:=Sum Int Tx
def kOf:DKey→Key
 | .inl i=>.inl i
 | .inr x=>.inr (toS x)
inductive D where
 | non | bl (b:Bool) | int (i:Int) | str (x:Tx) | tup (xs:List D) | lst (xs:List D) | dct (kvs:List (DKey×D)) | exc (n:Nat) (fl:D) | xd (fs:List (Tx×D))
def excAt (C:Addr) (v:V) (a:Addr):Heap→Prop:=fun h=>∃ o,h.get? a=some o∧o.cls = .ref C∧(∀ x,v = .ref x→o.dict=some x)∧∃ vs,o.data = .fields vs
def xdAt (fs:List (Str×V)) (x:Addr):Heap→Prop:=fun h=>∃ mA,h.Ns1 x mA∧∀ f,RelO (fs.lookup f) (mA f)
inductive S where
 | pure (d:D)
 | own (d:D)
def S.d:S→D
 | .pure d=>d
 | .own d=>d
abbrev Dl:=List (Option S)
abbrev St:=L2.St
inductive Rep (H:Hp) (O:Addr→Prop):V→D→Prop
 | non:Rep H O .non .non
 | bl (b:Bool):Rep H O (.bl b) (.bl b)
 | int (i:Int):Rep H O (.int i) (.int i)
 | str (x:Tx):Rep H O (.str (toS x)) (.str x)
 | tup {a:Addr} {vs:List V} {ds:List D}:¬ O a→H a=some (.tup vs)→vs.length=ds.length→(∀ (i:Nat) v d,vs[i]? = some v→ds[i]? = some d→Rep H O v d)→Rep H O (.ref a) (.tup ds)
 | lst {a:Addr} {vs:List V} {ds:List D}:¬ O a→Rd H a (.lst vs)→vs.length=ds.length→(∀ (i:Nat) v d,vs[i]? = some v→ds[i]? = some d→Rep H O v d)→Rep H O (.ref a) (.lst ds)
 | dct {a:Addr} {ws:List (Key×V)} {ds:List (DKey×D)}:¬ O a→H a=some (.dK ws)→ws.map (·.1)=ds.map (fun p=>kOf p.1)→(∀ (i:Nat) p q,ws[i]? = some p→ds[i]? = some q→Rep H O p.2 q.2)→Rep H O (.ref a) (.dct ds)
 | exc {a:Addr} {n:Nat} {v:V} {fl:D}:¬ O a→H a=some (.ext (excAt n v a))→Rep H O v fl→Rep H O (.ref a) (.exc n fl)
 | xd {x:Addr} {fs:List (Str×V)} {ds:List (Tx×D)}:¬ O x→H x=some (.ext (xdAt fs x))→fs.map (·.1)=ds.map (fun p=>toS p.1)→(∀ (i:Nat) p q,fs[i]? = some p→ds[i]? = some q→Rep H O p.2 q.2)→Rep H O (.ref x) (.xd ds)
abbrev Reps (H:Hp) (O:Addr→Prop) (vs:List V) (ds:List D):Prop:=vs.length=ds.length∧∀ (i:Nat) v d,vs[i]? = some v→ds[i]? = some d→Rep H O v d
def OwnAt (H:Hp) (O:Addr→Prop) (a:Addr):D→Prop
 | .lst ds=>∃ vs,H a=some (.lst vs)∧Reps H O vs ds
 | .dct ds=>∃ ws:List (Key×V),H a=some (.dK ws)∧ws.map (·.1)=ds.map (fun p=>kOf p.1)∧∀ (i:Nat) p q,ws[i]? = some p→ds[i]? = some q→Rep H O p.2 q.2
 | _=>False
section
variable {H H':Hp} {O O':Addr→Prop} {v:V} {d:D} {vs:List V} {ds:List D} {a:Addr}
theorem Rd.keep (h:Rd H a u) (k:∀ o,H a=some o→H' a=some o):Rd H' a u:=by
 rcases h with h | ⟨o,h⟩
 ·exact .inl (k _ h)
 ·exact .inr ⟨o,k _ h⟩
theorem Rd.some (h:Rd H a u):∃ o,H a=some o:=by
 rcases h with h | ⟨o,h⟩
 ·exact ⟨_,h⟩
 ·exact ⟨_,h⟩
theorem Rep.keep (h:Rep H O v d) (k:∀ a o,H a=some o→¬ O a→H' a=some o):Rep H' O v d:=by
 induction h with
 | non=>exact .non
 | bl b=>exact .bl b
 | int i=>exact .int i
 | str x=>exact .str x
 | tup h1 h2 h3 _ ih=>exact .tup h1 (k _ _ h2 h1) h3 ih
 | lst h1 h2 h3 _ ih=>exact .lst h1 (Rd.keep h2 fun o e=>k _ o e h1) h3 ih
 | dct h1 h2 h3 _ ih=>exact .dct h1 (k _ _ h2 h1) h3 ih
 | exc h1 h2 _ ih=>exact .exc h1 (k _ _ h2 h1) ih
 | xd h1 h2 h3 _ ih=>exact .xd h1 (k _ _ h2 h1) h3 ih
theorem Rep.anti (h:Rep H O v d) (k:∀ a,O' a→O a∨H a=none):Rep H O' v d:=by
 have no:∀ {a:Addr} {u:HO},¬ O a→Rd H a u→¬ O' a:=fun {a u} h1 h2 z=>by
  rcases k a z with q | q
  ·exact h1 q
  ·obtain ⟨o,e⟩:=Rd.some h2
   rw [q] at e; cases e
 induction h with
 | non=>exact .non
 | bl b=>exact .bl b
 | int i=>exact .int i
 | str x=>exact .str x
 | tup h1 h2 h3 _ ih=>exact .tup (no h1 (.inl h2)) h2 h3 ih
 | lst h1 h2 h3 _ ih=>exact .lst (no h1 h2) h2 h3 ih
 | dct h1 h2 h3 _ ih=>exact .dct (no h1 (.inl h2)) h2 h3 ih
 | exc h1 h2 _ ih=>exact .exc (no h1 (.inl h2)) h2 ih
 | xd h1 h2 h3 _ ih=>exact .xd (no h1 (.inl h2)) h2 h3 ih
theorem Reps.keep (h:Reps H O vs ds) (k:∀ a o,H a=some o→¬ O a→H' a=some o):Reps H' O vs ds:=⟨h.1,fun i v d e1 e2=>(h.2 i v d e1 e2).keep k⟩
theorem Reps.anti (h:Reps H O vs ds) (k:∀ a,O' a→O a∨H a=none):Reps H O' vs ds:=⟨h.1,fun i v d e1 e2=>(h.2 i v d e1 e2).anti k⟩
theorem Reps.nil:Reps H O [] []:=⟨rfl,fun i v d e _=>by simp at e⟩
theorem Reps.cons (h:Rep H O v d) (r:Reps H O vs ds):Reps H O (v :: vs) (d :: ds):=by
 refine ⟨by simp [r.1],fun i v' d' e1 e2=>?_⟩
 cases i with
 | zero=>simp at e1 e2; subst e1; subst e2; exact h
 | succ i=>exact r.2 i v' d' (by simpa using e1) (by simpa using e2)
theorem Reps.head (r:Reps H O (v :: vs) (d :: ds)):Rep H O v d:=r.2 0 v d rfl rfl
theorem Reps.tail (r:Reps H O (v :: vs) (d :: ds)):Reps H O vs ds:=⟨by simpa using r.1,fun i v' d' e1 e2=>r.2 (i + 1) v' d' (by simpa using e1) (by simpa using e2)⟩
theorem Reps.append (h:Reps H O vs ds) (h':Reps H O vs' ds'):Reps H O (vs ++ vs') (ds ++ ds'):=by
 induction vs generalizing ds with
 | nil =>
  cases ds with
  | nil=>exact h'
  | cons d r=>have:=h.1; simp at this
 | cons v r ih =>
  cases ds with
  | nil=>have:=h.1; simp at this
  | cons d q=>exact .cons h.head (ih h.tail)
theorem Reps.get {i:Nat} (h:Reps H O vs ds) (e:ds[i]? = some d):∃ v,vs[i]? = some v∧Rep H O v d:=by
 have hi:i < ds.length:=(W3.mp e).1
 have hv:i < vs.length:=by rw [h.1]; exact hi
 exact ⟨vs[i],by simp [hv],h.2 i _ d (by simp [hv]) e⟩
theorem Reps.take (n:Nat) (h:Reps H O vs ds):Reps H O (vs.take n) (ds.take n):=by
 refine ⟨by simp [h.1],fun i v d e1 e2=>?_⟩
 by_cases hi:i < n
 ·rw [List.getElem?_take_of_lt hi] at e1 e2
  exact h.2 i v d e1 e2
 ·rw [List.getElem?_take_eq_none (by omega)] at e1; cases e1
theorem Reps.drop (n:Nat) (h:Reps H O vs ds):Reps H O (vs.drop n) (ds.drop n):=by
 refine ⟨by simp [h.1],fun i v d e1 e2=>?_⟩
 rw [List.getElem?_drop] at e1 e2
 exact h.2 (n + i) v d e1 e2
theorem Reps.set (h:Reps H O vs ds) (r:Rep H O v d) (j:Nat):Reps H O (vs.set j v) (ds.set j d):=by
 refine ⟨by simp [h.1],fun i v' d' e1 e2=>?_⟩
 by_cases hi:j=i
 ·subst hi
  rw [WA] at e1 e2
  simp at e1 e2
  obtain ⟨_,rfl⟩:=e1
  obtain ⟨_,rfl⟩:=e2
  exact r
 ·rw [W4 hi] at e1 e2
  exact h.2 i v' d' e1 e2
theorem Reps.reverse (h:Reps H O vs ds):Reps H O vs.reverse ds.reverse:=by
 refine ⟨by simp [h.1],fun i v d e1 e2=>?_⟩
 have hl:=h.1
 have h1:i < vs.length:=by have:=(W3.mp e1).1; simpa using this
 rw [List.getElem?_reverse (by omega)] at e1
 rw [List.getElem?_reverse (by omega)] at e2
 exact h.2 (vs.length - 1 - i) v d e1 (by rw [hl]; exact e2)
theorem OwnAt.keep (h:OwnAt H O a d) (hk:∀ b o,H b=some o→¬ O b→H' b=some o) (ha:∀ o,H a=some o→H' a=some o):OwnAt H' O a d:=by
 cases d <;> first
  | exact h.elim
  | (obtain ⟨vs,e,r⟩:=h; exact ⟨vs,ha _ e,Reps.keep r hk⟩)
  | (obtain ⟨ws,e,r,q⟩:=h; exact ⟨ws,ha _ e,r,fun i p p' e1 e2=>(q i p p' e1 e2).keep hk⟩)
theorem OwnAt.anti (h:OwnAt H O a d) (k:∀ a,O' a→O a∨H a=none):OwnAt H O' a d:=by
 cases d <;> first
  | exact h.elim
  | (obtain ⟨vs,e,r⟩:=h; exact ⟨vs,e,Reps.anti r k⟩)
  | (obtain ⟨ws,e,r,q⟩:=h; exact ⟨ws,e,r,fun i p p' e1 e2=>(q i p p' e1 e2).anti k⟩)
theorem OwnAt.some (h:OwnAt H O a d):∃ o,H a=some o:=by
 cases d <;> first
  | exact h.elim
  | (obtain ⟨vs,e,r⟩:=h; exact ⟨_,e⟩)
theorem OwnAt.rep (h:OwnAt H O a d) (ho:¬ O a):Rep H O (.ref a) d:=by
 cases d with
 | lst ds=>obtain ⟨vs,e,r⟩:=h; exact .lst ho (.inl e) r.1 r.2
 | dct ds=>obtain ⟨ws,e,r,q⟩:=h; exact .dct ho e r q
 | _=>exact h.elim
end
structure Xc where
 cls:Tx
 flds:D
structure Fc where
 H₀:Hp
 B:Addr→Prop
 pin:List (Nat×Addr)
 xc:Xc→Dl→Prop:=fun _ _=>False
def Fc.plus (c:Fc) (p:Addr):Fc:={ c with B:=fun a=>c.B a∨a=p }
def Fc.I (c:Fc) (a:Addr):Prop:=∃ i,(i,a) ∈ c.pin
def Own (σ:St) (δ:Dl) (a:Addr):Prop:=∃ (i:Nat) (d:D),δ[i]? = some (some (.own d))∧σ[i]? = some (some (.ref a))
def Av (c:Fc) (σ:St) (δ:Dl) (a:Addr):Prop:=c.B a∨Own σ δ a
structure Ok (c:Fc) (σ:St) (δ:Dl) (H:Hp):Prop where
 keep:∀ a o,c.H₀ a=some o→¬ c.I a→H a=some o
 bd:∀ a,c.B a→∃ o,H a=some o
 ith:∀ a,c.I a→∃ o,H a=some o
 len:δ.length=σ.length
 slot:∀ (i:Nat) d,δ[i]? = some (some (.pure d))→∃ v,σ[i]? = some (some v)∧Rep H (Av c σ δ) v d
 own:∀ (i:Nat) d,δ[i]? = some (some (.own d))→∃ a,σ[i]? = some (some (.ref a))∧OwnAt H (Av c σ δ) a d∧(c.I a∨c.H₀ a=none)∧¬ c.B a
 inj:∀ (i j:Nat) a d d',δ[i]? = some (some (.own d))→δ[j]? = some (some (.own d'))→σ[i]? = some (some (.ref a))→σ[j]? = some (some (.ref a))→i=j
 pinned:∀ p ∈ c.pin,σ[p.1]? = some (some (.ref p.2))
structure Aft (c:Fc) (σ:St) (δ:Dl) (H:Hp) (σ':St) (δ':Dl) (H':Hp):Prop where
 ok:Ok c σ' δ' H'
 keep:∀ a o,H a=some o→¬ Own σ δ a→H' a=some o
 own:∀ a,Own σ' δ' a→Own σ δ a∨H a=none
 there:∀ a o,H a=some o→∃ o',H' a=some o'
section
variable {c:Fc} {σ σ' σ'':St} {δ δ' δ'':Dl} {H H' H'':Hp} {v:V} {d:D} {a p:Addr}
theorem Ok.bthere (k:Ok c σ δ H) (h:c.B a):∃ o,H a=some o:=k.bd a h
theorem Ok.othere (k:Ok c σ δ H) (h:Own σ δ a):∃ o,H a=some o:=by
 obtain ⟨i,d,e1,e2⟩:=h
 obtain ⟨b,e3,q,_⟩:=k.own i d e1
 rw [e2] at e3; cases e3
 exact q.some
theorem Ok.avthere (k:Ok c σ δ H) (h:Av c σ δ a):∃ o,H a=some o:=h.elim k.bthere k.othere
theorem Ok.nav (k:Ok c σ δ H) (h:H a=none):¬ Av c σ δ a:=fun z=>by
 obtain ⟨o,e⟩:=k.avthere z
 rw [h] at e; cases e
theorem Aft.refl (k:Ok c σ δ H):Aft c σ δ H σ δ H:=⟨k,fun _ _ e _=>e,fun _ h=>.inl h,fun _ o e=>⟨o,e⟩⟩
theorem Aft.trans (x:Aft c σ δ H σ' δ' H') (y:Aft c σ' δ' H' σ'' δ'' H''):Aft c σ δ H σ'' δ'' H'':=by
 refine ⟨y.ok,fun a o e n=>?_,fun a h=>?_,fun a o e=>?_⟩
 ·refine y.keep a o (x.keep a o e n) fun z=>?_
  rcases x.own a z with q | q
  ·exact n q
  ·rw [q] at e; cases e
 ·rcases y.own a h with q | q
  ·exact x.own a q
  ·right
   cases e:H a with
   | none=>rfl
   | some o =>
    obtain ⟨o',e'⟩:=x.there a o e
    rw [q] at e'; cases e'
 ·obtain ⟨o',e'⟩:=x.there a o e
  exact y.there a o' e'
theorem Aft.av (x:Aft c σ δ H σ' δ' H'):∀ a,Av c σ' δ' a→Av c σ δ a∨H a=none:=fun a h=>by
 rcases h with h | h
 ·exact .inl (.inl h)
 ·rcases x.own a h with q | q
  ·exact .inl (.inr q)
  ·exact .inr q
theorem Rep.aft (h:Rep H (Av c σ δ) v d) (x:Aft c σ δ H σ' δ' H'):Rep H' (Av c σ' δ') v d:=by
 have h1:Rep H (fun a=>Av c σ δ a∨Av c σ' δ' a) v d:=Rep.anti h fun a z=>z.elim .inl (x.av a)
 exact (h1.keep fun a o e n=>x.keep a o e fun z=>n (.inl (.inr z))).anti fun a z=>.inl (.inr z)
theorem Reps.aft (h:Reps H (Av c σ δ) vs ds) (x:Aft c σ δ H σ' δ' H'):Reps H' (Av c σ' δ') vs ds:=⟨h.1,fun i v d e1 e2=>Rep.aft (h.2 i v d e1 e2) x⟩
def RepS (c:Fc) (σ:St) (δ:Dl) (Hs H:Hp) (v:V):S→Prop
 | .pure d=>Rep H (Av c σ δ) v d
 | .own d=>∃ a,v = .ref a∧OwnAt H (Av (c.plus a) σ δ) a d∧¬ c.B a∧c.H₀ a=none∧Ok (c.plus a) σ δ H∧Hs a=none
theorem z2g (k:Ok (c.plus a) σ δ H):¬ Own σ δ a:=fun ⟨i,d,e1,e2⟩=>by
 obtain ⟨b,e3,_,_,n⟩:=k.own i d e1
 rw [e2] at e3; cases e3
 exact n (.inr rfl)
theorem RepS.rep (h:RepS c σ δ Hs H v r):Rep H (Av c σ δ) v r.d:=by
 cases r with
 | pure d=>exact h
 | own d =>
  obtain ⟨a,rfl,o,n,f,k,_⟩:=h
  refine (o.anti fun b z=>.inl ?_).rep fun z=>z.elim n (z2g k)
  exact z.elim (fun z=>.inl (.inl z)) .inr
theorem RepS.back (h:RepS c σ δ Hs H v r) (x:Aft c σ₀ δ₀ H' σ' δ' Hs):RepS c σ δ H' H v r:=by
 cases r with
 | pure d=>exact h
 | own d =>
  obtain ⟨a,e,o,n,f,k,hs⟩:=h
  refine ⟨a,e,o,n,f,k,?_⟩
  cases q:H' a with
  | none=>rfl
  | some o =>
   obtain ⟨o',e'⟩:=x.there a o q
   rw [hs] at e'; cases e'
theorem RepS.home (h:RepS c σ δ Hs H v r):RepS c σ δ c.H₀ H v r:=by
 cases r with
 | pure d=>exact h
 | own d =>
  obtain ⟨a,e,o,n,f,k,hs⟩:=h
  exact ⟨a,e,o,n,f,k,f⟩
theorem Ok.alloc (k:Ok c σ δ H) (hp:H p=none) (o:HO):Ok c σ δ (upd H p o):=by
 have up:∀ a w,H a=some w→upd H p o a=some w:=fun a w e=>by
  rw [z0n (z0I e hp)]; exact e
 refine ⟨fun a w e n=>up a w (k.keep a w e n),fun a z=>(k.bd a z).elim fun w e=>⟨w,up a w e⟩,fun a z=>(k.ith a z).elim fun w e=>⟨w,up a w e⟩,k.len,fun i d e=>?_,fun i d e=>?_,k.inj,k.pinned⟩
 ·obtain ⟨v,e1,r⟩:=k.slot i d e
  exact ⟨v,e1,r.keep fun a w q _=>up a w q⟩
 ·obtain ⟨a,e1,r,q⟩:=k.own i d e
  exact ⟨a,e1,r.keep (fun b w q _=>up b w q) fun w q=>up a w q,q⟩
theorem Aft.alloc (k:Ok c σ δ H) (hp:H p=none) (o:HO):Aft c σ δ H σ δ (upd H p o):=by
 have up:∀ a w,H a=some w→upd H p o a=some w:=fun a w e=>by
  rw [z0n (z0I e hp)]; exact e
 exact ⟨k.alloc hp o,fun a w e _=>up a w e,fun a h=>.inl h,fun a w e=>⟨w,up a w e⟩⟩
theorem Ok.fresh₀ (k:Ok c σ δ H) (hp:H p=none):c.H₀ p=none:=by
 cases e:c.H₀ p with
 | none=>rfl
 | some o =>
  by_cases q:c.I p
  ·obtain ⟨w,e'⟩:=k.ith p q
   rw [hp] at e'; cases e'
  ·have:=k.keep p o e q
   rw [hp] at this; cases this
theorem Ok.plus (k:Ok c σ δ H) (hp:H p=none) (o:HO):Ok (c.plus p) σ δ (upd H p o):=by
 have k':=k.alloc hp o
 have sub:∀ b,Av (c.plus p) σ δ b→Av c σ δ b∨b=p:=fun b z=>by
  rcases z with (z | z) | z
  ·exact .inl (.inl z)
  ·exact .inr z
  ·exact .inl (.inr z)
 have sub2:∀ b,Av (c.plus p) σ δ b→Av c σ δ b∨H b=none:=fun b z=>(sub b z).elim .inl fun e=>.inr (by rw [e]; exact hp)
 have up:∀ a w,H a=some w→upd H p o a=some w:=fun a w e=>by
  rw [z0n (z0I e hp)]; exact e
 refine ⟨k'.keep,fun a z=>?_,k'.ith,k.len,fun i d e=>?_,fun i d e=>?_,k.inj,k.pinned⟩
 ·rcases z with z | z
  ·exact k'.bd a z
  ·exact ⟨o,by rw [z]; exact z0B⟩
 ·obtain ⟨v,e1,r⟩:=k.slot i d e
  exact ⟨v,e1,(r.anti sub2).keep fun a w q _=>up a w q⟩
 ·obtain ⟨a,e1,r,q,nb⟩:=k.own i d e
  refine ⟨a,e1,(r.anti sub2).keep (fun b w q _=>up b w q) (fun w q=>up a w q),q,fun z=>?_⟩
  rcases z with z | z
  ·exact nb z
  ·obtain ⟨w,ew⟩:=r.some
   rw [z,hp] at ew; cases ew
theorem RepS.newL (k:Ok c σ δ H) (r:Reps H (Av c σ δ) vs ds) (hp:H p=none):RepS c σ δ H (upd H p (.lst vs)) (.ref p) (.own (.lst ds)):=by
 have up:∀ a w,H a=some w→upd H p (.lst vs) a=some w:=fun a w e=>by
  rw [z0n (z0I e hp)]; exact e
 refine ⟨p,rfl,⟨vs,z0B,?_⟩,fun z=>k.nav hp (.inl z),k.fresh₀ hp,k.plus hp _,hp⟩
 have r1:Reps H (Av (c.plus p) σ δ) vs ds:=Reps.anti r fun b z=>by
  rcases z with (z | z) | z
  ·exact .inl (.inl z)
  ·exact .inr (by rw [z]; exact hp)
  ·exact .inl (.inr z)
 exact Reps.keep r1 fun b w e _=>up b w e
theorem RepS.newT (k:Ok c σ δ H) (r:Reps H (Av c σ δ) vs ds) (hp:H p=none):RepS c σ δ H (upd H p (.tup vs)) (.ref p) (.pure (.tup ds)):=by
 have up:∀ a w,H a=some w→upd H p (.tup vs) a=some w:=fun a w e=>by
  rw [z0n (z0I e hp)]; exact e
 have r1:=Reps.keep r (H':=upd H p (.tup vs)) fun b w e _=>up b w e
 exact .tup (k.nav hp) z0B r1.1 r1.2
end
inductive Rs (α:Type) where
 | ok (a:α) (δ:Dl)
 | exc (x:Xc) (δ:Dl)
 | stuck
def Rs.bind {α β:Type} (r:Rs α) (f:α→Dl→Rs β):Rs β:=match r with
 | .ok a δ=>f a δ
 | .exc x δ=>.exc x δ
 | .stuck=>.stuck
abbrev DE:=Dl→Rs S
def XC (c:Fc) (x:Xc) (δ:Dl):Prop:=c.xc x δ
def post {α:Type} (c:Fc) (r:Rs α) (k:α→Dl→Prop):Prop:=match r with
 | .ok a δ=>k a δ
 | .exc x δ=>XC c x δ
 | .stuck=>False
theorem z04:post c (r.bind f) k ↔ post c r fun a δ=>post c (f a δ) k:=by
 cases r <;> exact Iff.rfl
theorem z01 (h:post c r k) (m:∀ a δ,k a δ→k' a δ):post c r k':=by
 cases r with
 | ok a δ=>exact m a δ h
 | exc x δ=>exact h
 | stuck=>exact h
def tD (c:Fc) (f:DE):TE:=fun σ H Q=>∃ δ,Ok c σ δ H∧post c (f δ) fun r δ'=>∀ v H',Aft c σ δ H σ δ' H'→RepS c σ δ' H H' v r→Q v H'
abbrev SE (X:Cx) (c:Fc) (e:Expr) (f:DE):Prop:=PE X e (tD c f)
def RepB (c:Fc) (σ:St) (δ:Dl) (H:Hp) (v:V) (d:D):Prop:=Rep H (Av c σ δ) v d∨∃ a,v = .ref a∧OwnAt H (Av c σ δ) a d
abbrev BE:=Dl→Rs D
def tB (c:Fc) (f:BE):TE:=fun σ H Q=>∃ δ,Ok c σ δ H∧post c (f δ) fun d δ'=>∀ v H',Aft c σ δ H σ δ' H'→RepB c σ δ' H' v d→Q v H'
abbrev SB (X:Cx) (c:Fc) (e:Expr) (f:BE):Prop:=PE X e (tB c f)
theorem PE.weak (h:PE X e t) (w:∀ σ H Q,t' σ H Q→t σ H Q):PE X e t':=fun pins s σ H Q I q=>h pins s σ H Q I (w σ H Q q)
def bOf (f:DE):BE:=fun δ=>(f δ).bind fun r δ'=>.ok r.d δ'
theorem RepS.b (h:RepS c σ δ Hs H v r):RepB c σ δ H v r.d:=.inl h.rep
theorem z0c {X:Cx} {c:Fc} {e:Expr} {f:DE} (h:SE X c e f):SB X c e (bOf f):=PE.weak h fun σ H Q ⟨δ,k,p⟩=>⟨δ,k,by
 unfold bOf at p
 rw [z04] at p
 exact z01 p fun r δ' q v H' a s=>q v H' a s.b⟩
def bVar (i:Nat):BE:=fun δ=>match δ[i]? with
 | some (some r)=>.ok r.d δ
 | _=>.stuck
def eVar (i:Nat):DE:=fun δ=>match δ[i]? with
 | some (some (.pure d))=>.ok (.pure d) δ
 | some (some (.own d))=>.ok (.pure d) (δ.set i (some (.pure d)))
 | _=>.stuck
def eD (d:D):DE:=fun δ=>.ok (.pure d) δ
section
variable {X:Cx} {c:Fc}
theorem z0g {i:Nat} {e:Expr} (h:PE X e (tVar i)):SB X c e (bVar i):=PE.weak h fun σ H Q ⟨δ,k,p⟩=>by
 unfold bVar at p
 cases e:δ[i]? with
 | none=>rw [e] at p; exact p.elim
 | some o =>
  cases o with
  | none=>rw [e] at p; exact p.elim
  | some r =>
   rw [e] at p
   cases r with
   | pure d =>
    obtain ⟨v,e1,r⟩:=k.slot i d e
    exact ⟨v,e1,p v H (.refl k) (.inl r)⟩
   | own d =>
    obtain ⟨a,e1,r,_⟩:=k.own i d e
    exact ⟨.ref a,e1,p _ H (.refl k) (.inr ⟨a,rfl,r⟩)⟩
theorem Own.sub (h:Own σ (δ.set i (some (.pure d))) a):Own σ δ a:=by
 obtain ⟨j,d',e1,e2⟩:=h
 by_cases hj:i=j
 ·subst hj
  rw [WA] at e1
  simp at e1
 ·rw [W4 hj] at e1
  exact ⟨j,d',e1,e2⟩
theorem Ok.give (k:Ok c σ δ H) (e:δ[i]? = some (some (.own d))) :
  ∃ a,σ[i]? = some (some (.ref a))∧Aft c σ δ H σ (δ.set i (some (.pure d))) H∧Rep H (Av c σ (δ.set i (some (.pure d)))) (.ref a) d:=by
 obtain ⟨a,e1,r,q,nb⟩:=k.own i d e
 have hi:i < δ.length:=(W3.mp e).1
 have sub:∀ b,Av c σ (δ.set i (some (.pure d))) b→Av c σ δ b:=fun b z=>z.elim .inl fun z=>.inr z.sub
 have na:¬ Av c σ (δ.set i (some (.pure d))) a:=by
  rintro (z | ⟨j,d',f1,f2⟩)
  ·exact nb z
  ·by_cases hj:i=j
   ·subst hj
    rw [WA] at f1
    simp at f1
   ·rw [W4 hj] at f1
    exact hj (k.inj i j a d d' e f1 e1 f2)
 have rep:Rep H (Av c σ (δ.set i (some (.pure d)))) (.ref a) d:=(r.anti fun b z=>.inl (sub b z)).rep na
 refine ⟨a,e1,⟨⟨k.keep,k.bd,k.ith,by rw [QI]; exact k.len,fun j d' f=>?_,fun j d' f=>?_,fun j l b d1 d2 f1 f2=>?_,k.pinned⟩,fun _ _ w _=>w,fun b z=>.inl z.sub,fun _ o w=>⟨o,w⟩⟩,rep⟩
 ·by_cases hj:i=j
  ·subst hj
   rw [Wl hi] at f
   cases f
   exact ⟨.ref a,e1,rep⟩
  ·rw [W4 hj] at f
   obtain ⟨v,g1,g2⟩:=k.slot j d' f
   exact ⟨v,g1,g2.anti fun b z=>.inl (sub b z)⟩
 ·by_cases hj:i=j
  ·subst hj
   rw [Wl hi] at f
   cases f
  ·rw [W4 hj] at f
   obtain ⟨b,g1,g2,g3⟩:=k.own j d' f
   exact ⟨b,g1,g2.anti fun b z=>.inl (sub b z),g3⟩
 ·have h1:δ[j]? = some (some (.own d1)):=by
   by_cases hj:i=j
   ·subst hj; rw [Wl hi] at f1; cases f1
   ·rw [W4 hj] at f1; exact f1
  have h2:δ[l]? = some (some (.own d2)):=by
   by_cases hj:i=l
   ·subst hj; rw [Wl hi] at f2; cases f2
   ·rw [W4 hj] at f2; exact f2
  exact k.inj j l b d1 d2 h1 h2
theorem z09 {i:Nat} {e:Expr} (h:PE X e (tVar i)):SE X c e (eVar i):=PE.weak h fun σ H Q ⟨δ,k,p⟩=>by
 unfold eVar at p
 cases e:δ[i]? with
 | none=>rw [e] at p; exact p.elim
 | some o =>
  cases o with
  | none=>rw [e] at p; exact p.elim
  | some r =>
   rw [e] at p
   cases r with
   | pure d =>
    obtain ⟨v,e1,r⟩:=k.slot i d e
    exact ⟨v,e1,p v H (.refl k) r⟩
   | own d =>
    obtain ⟨a,e1,x,r⟩:=k.give e
    exact ⟨.ref a,e1,p _ H x r⟩
theorem z06 {i j pos}:SE X c (.Constant (.int i) j pos) (eD (.int i)):=PE.weak zdf fun σ H Q ⟨δ,k,p⟩=>p _ H (.refl k) (.int i)
theorem z5u {b j pos}:SE X c (.Constant (.bool b) j pos) (eD (.bl b)):=PE.weak zbY fun σ H Q ⟨δ,k,p⟩=>p _ H (.refl k) (.bl b)
theorem zaT {j pos}:SE X c (.Constant .none j pos) (eD .non):=PE.weak zdc fun σ H Q ⟨δ,k,p⟩=>p _ H (.refl k) .non
theorem z4o {x j pos} (y:Tx) (h:x=toS y:=by decide +kernel):SE X c (.Constant (.str x) j pos) (eD (.str y)):=by
 subst h
 exact PE.weak zaZ fun σ H Q ⟨δ,k,p⟩=>p _ H (.refl k) (.str y)
end
open PySem PySem.Spec PyProof.Rows L2 PySem.SeqAt
mutual
def eqD:D→D→Bool
 | .non,.non=>true
 | .bl a,.bl b=>a == b
 | .int a,.int b=>a == b
 | .bl a,.int b=>(if a then 1 else 0) == b
 | .int a,.bl b=>a == (if b then 1 else 0)
 | .str a,.str b=>a == b
 | .tup xs,.tup ys=>eqDs xs ys
 | .lst xs,.lst ys=>eqDs xs ys
 | _,_=>false
def eqDs:List D→List D→Bool
 | [],[]=>true
 | x :: xs,y :: ys=>eqD x y && eqDs xs ys
 | _,_=>false
end
mutual
def flat:Nat→D→Bool
 | _,.non=>true
 | _,.bl _=>true
 | _,.int _=>true
 | _,.str _=>true
 | 0,.tup _=>false
 | n + 1,.tup xs=>z2W n xs
 | 0,.lst _=>false
 | n + 1,.lst xs=>z2W n xs
 | _,.dct _=>false
 | _,.exc _ _=>false
 | _,.xd _=>false
def z2W:Nat→List D→Bool
 | _,[]=>true
 | n,x :: xs=>flat n x && z2W n xs
end
example:eqD (.tup [.int 1,.str [2]]) (.tup [.int 1,.str [2]])=true:=by decide +kernel
theorem z1O:∀ {xs:List D} {x:D},z2W n xs=true→x ∈ xs→flat n x=true
 | [],_,_,h=>by simp at h
 | y :: ys,x,h,hm=>by
  simp only [z2W,Wg] at h
  rcases Wh.mp hm with e | hm
  ·rw [e]; exact h.1
  ·exact z1O h.2 hm
theorem z4k:∀ {xs ys:List D} {f:Nat→Bool},xs.length=ys.length→(∀ (j:Nat) x y,xs[j]? = some x→ys[j]? = some y→f j=eqD x y)→(WS xs.length).all f=eqDs xs ys
 | [],[],f,_,_=>rfl
 | [],y :: ys,f,h,_=>by simp at h
 | x :: xs,[],f,h,_=>by simp at h
 | x :: xs,y :: ys,f,h,hf=>by
  simp only [eqDs]
  rw [Qz,List.range_succ_eq_map,Jc,hf 0 x y rfl rfl,List.all_map]
  rw [← z4k (f:=fun j=>f (j + 1)) (by simpa using h) (fun j a b e1 e2=>hf (j + 1) a b (by simpa using e1) (by simpa using e2))]
  rfl
theorem z4j:∀ {xs ys:List D},xs.length≠ys.length→eqDs xs ys=false
 | [],[],h=>absurd rfl h
 | [],y :: ys,_=>rfl
 | x :: xs,[],_=>rfl
 | x :: xs,y :: ys,h=>by
  simp only [eqDs]
  rw [z4j (xs:=xs) (ys:=ys) (by intro e; exact h (by simp [e]))]
  simp
mutual
theorem z4l:∀ {n:Nat} {d:D},flat n d=true→eqD d d=true
 | _,.non,_=>rfl
 | _,.bl b,_=>by simp [eqD]
 | _,.int i,_=>by simp [eqD]
 | _,.str x,_=>by simp [eqD]
 | 0,.tup xs,h=>by simp [flat] at h
 | n + 1,.tup xs,h=>by simp only [eqD]; exact z4P (n:=n) (by simpa [flat] using h)
 | 0,.lst xs,h=>by simp [flat] at h
 | n + 1,.lst xs,h=>by simp only [eqD]; exact z4P (n:=n) (by simpa [flat] using h)
 | _,.dct xs,h=>by simp [flat] at h
 | _,.exc n _,h=>by simp [flat] at h
 | _,.xd n,h=>by simp [flat] at h
theorem z4P:∀ {n:Nat} {ds:List D},z2W n ds=true→eqDs ds ds=true
 | _,[],_=>rfl
 | n,x :: xs,h=>by
  simp only [z2W,Wg] at h
  simp only [eqDs]
  rw [z4l h.1,z4P h.2]
  rfl
end
abbrev NoO:Addr→Prop:=fun _=>False
theorem Rep.un (h:Rep H O v d):Rep H NoO v d:=Rep.anti h fun _ z=>z.elim
theorem RepB.un (h:RepB c σ δ H v d):Rep H NoO v d:=by
 rcases h with h | ⟨a,rfl,o⟩
 ·exact Rep.un h
 ·exact (o.anti (O':=NoO) fun _ z=>z.elim).rep fun z=>z
section
variable {X:Cx} {pins:List (Addr×Obj)} {σ:St} {H:Hp} {s:W1}
theorem Inv.rdL (I:Inv X pins σ H s) (h:Rd H a (.lst vs)):∃ its:List Value,Vals vs its∧s.heap.IsList a its.toArray:=by
 obtain ⟨its,r,p,_⟩:=I.list (.inl h)
 exact ⟨its,r,p.isList⟩
theorem Inv.rdT (I:Inv X pins σ H s) (h:H a=some (.tup vs)):∃ its:List Value,Vals vs its∧s.heap.IsTuple a its.toArray:=by
 obtain ⟨its,r,p,_⟩:=I.tuple (.of h)
 exact ⟨its,r,p⟩
theorem z5p (x y:Tx):((toS x:Str) == toS y)=(x == y):=by
 rw [Bool.eq_iff_iff]
 simp only [beq_iff_eq]
 exact ⟨z5o,fun e=>by rw [e]⟩
theorem z9j (A:Wn):A.in1.units=A.units + 1:=rfl
theorem Rd.inj (h:Rd H a u) (k:Rd H a w) (hu:∀ o z,u≠.frz o z) (hw:∀ o z,w≠.frz o z):u=w:=by
 rcases h with h | ⟨o,h⟩ <;> rcases k with k | ⟨o',k⟩
 ·rw [h] at k; exact Wu k
 ·rw [h] at k; exact absurd (Wu k) (hu _ _)
 ·rw [h] at k; exact absurd (Wu k).symm (hw _ _)
 ·rw [h] at k
  have:=Wu k
  injection this
theorem Reps.inj {vs:List V}:∀ {ds es:List D},vs.length=ds.length→vs.length=es.length→(∀ (i:Nat) v d e,vs[i]? = some v→ds[i]? = some d→es[i]? = some e→d=e)→ds=es:=by
 intro ds es h1 h2 h
 apply List.ext_getElem?
 intro i
 by_cases hi:i < vs.length
 ·have a1:i < ds.length:=by omega
  have a2:i < es.length:=by omega
  rw [Wk a1,Wk a2]
  rw [h i vs[i] ds[i] es[i] (by simp [hi]) (by simp [a1]) (by simp [a2])]
 ·rw [WO (by omega),WO (by omega)]
theorem Rep.inj {O:Addr→Prop} {v:V} {d:D} (h:Rep H O v d):∀ {n:Nat} {e:D},flat n d=true→flat n e=true→Rep H O v e→d=e:=by
 induction h with
 | non=>intro n e _ _ k; cases k; rfl
 | bl b=>intro n e _ _ k; cases k; rfl
 | int i=>intro n e _ _ k; cases k; rfl
 | str x =>
  intro n e _ _ k
  generalize hz:V.str (toS x)=z at k
  cases k with
  | str y=>injection hz with hz; rw [z5o hz]
  | _=>cases hz
 | @tup a vs ds h1 h2 h3 h4 ih =>
  intro n e fd fe k
  cases n with
  | zero=>simp [flat] at fd
  | succ n =>
   simp only [flat] at fd
   cases k with
   | @tup _ ws es k1 k2 k3 k4 =>
    simp only [flat] at fe
    have e1:=Rd.inj (.inl h2) (.inl k2) (fun _ _ z=>by cases z) (fun _ _ z=>by cases z)
    injection e1 with e1
    subst e1
    rw [Reps.inj h3 k3 fun i v d e q1 q2 q3=>ih i v d q1 q2 (z1O fd (Wv q2)) (z1O fe (Wv q3)) (k4 i v e q1 q3)]
   | lst k1 k2=>exact absurd (Rd.inj (.inl h2) k2 (fun _ _ z=>by cases z) (fun _ _ z=>by cases z)) (fun z=>by cases z)
   | dct k1 k2=>exact absurd (Rd.inj (.inl h2) (.inl k2) (fun _ _ z=>by cases z) (fun _ _ z=>by cases z)) (fun z=>by cases z)
   | exc k1 k2=>simp [flat] at fe
   | xd k1 k2=>simp [flat] at fe
 | @lst a vs ds h1 h2 h3 h4 ih =>
  intro n e fd fe k
  cases n with
  | zero=>simp [flat] at fd
  | succ n =>
   simp only [flat] at fd
   cases k with
   | @lst _ ws es k1 k2 k3 k4 =>
    simp only [flat] at fe
    have e1:=Rd.inj h2 k2 (fun _ _ z=>by cases z) (fun _ _ z=>by cases z)
    injection e1 with e1
    subst e1
    rw [Reps.inj h3 k3 fun i v d e q1 q2 q3=>ih i v d q1 q2 (z1O fd (Wv q2)) (z1O fe (Wv q3)) (k4 i v e q1 q3)]
   | tup k1 k2=>exact absurd (Rd.inj h2 (.inl k2) (fun _ _ z=>by cases z) (fun _ _ z=>by cases z)) (fun z=>by cases z)
   | dct k1 k2=>exact absurd (Rd.inj h2 (.inl k2) (fun _ _ z=>by cases z) (fun _ _ z=>by cases z)) (fun z=>by cases z)
   | exc k1 k2=>simp [flat] at fe
   | xd k1 k2=>simp [flat] at fe
 | dct h1 h2 h3 h4 ih =>
  intro n e fd _ _
  cases n <;> simp [flat] at fd
 | exc h1 h2 =>
  intro n e fd _ _
  cases n <;> simp [flat] at fd
 | xd h1 h2 =>
  intro n e fd _ _
  cases n <;> simp [flat] at fd
def EqIt (H:Hp) (s:W1) (n:Nat):Prop:=∀ (A:Wn) (x y:V) (u w:Value) (d e:D),A.units + n + 1 < Q8→flat n d=true→flat n e=true→Rep H NoO x d→Rep H NoO y e→RelV x u→RelV y w→EqAt A s u w (eqD d e)
def z7e (H:Hp) (s:W1) (A:Wn) (n:Nat):Prop:=match n with
 | 0=>True
 | m + 1=>A.units + m + 2 < Q8∧EqIt H s m
def itE (ds es:List D) (j:Nat):Bool:=match ds[j]?,es[j]? with
 | some p,some q=>eqD p q
 | _,_=>false
theorem z7w (j:Nat) (p q:D) (e1:ds[j]? = some p) (e2:es[j]? = some q):itE ds es j=eqD p q:=by unfold itE; rw [e1,e2]
theorem z4g {n:Nat} {A:Wn} {vs ws:List V} {ds es:List D} {its jts:List Value} (hu:A.units + n + 2 < Q8) (ih:EqIt H s n) (r1:Vals vs its) (r2:Vals ws jts) (l1:vs.length=ds.length) (l2:ws.length=es.length)
  (g1:∀ (i:Nat) v d,vs[i]? = some v→ds[i]? = some d→Rep H NoO v d) (g2:∀ (i:Nat) v d,ws[i]? = some v→es[i]? = some d→Rep H NoO v d) (f1:z2W n ds=true) (f2:z2W n es=true) :
  ∀ j (h1:j < its.toArray.size) (h2:j < jts.toArray.size),EqAt A.in1 s its.toArray[j] jts.toArray[j] (itE ds es j):=by
 intro j h1 h2
 have e1:=r1.length
 have e2:=r2.length
 simp at h1 h2
 have hd:j < ds.length:=by omega
 have he:j < es.length:=by omega
 have hv:j < vs.length:=by omega
 have hw:j < ws.length:=by omega
 obtain ⟨u',hu',ru'⟩:=r1.get (i:=j) (x:=vs[j]) (by simp [hv])
 obtain ⟨w',hw',rw''⟩:=r2.get (i:=j) (x:=ws[j]) (by simp [hw])
 have eu:its.toArray[j]=u':=by simpa [h1] using hu'
 have ew:jts.toArray[j]=w':=by simpa [h2] using hw'
 rw [eu,ew,z7w j ds[j] es[j] (by simp [hd]) (by simp [he])]
 exact ih A.in1 vs[j] ws[j] u' w' ds[j] es[j] (by rw [z9j]; omega) (z1O f1 (QT hd)) (z1O f2 (QT he)) (g1 j _ _ (by simp [hv]) (by simp [hd])) (g2 j _ _ (by simp [hw]) (by simp [he])) ru' rw''
theorem z9P (h1:n=ds.length) (h2:m=es.length):((WS (min n m)).all (itE ds es) && n == m)=eqDs ds es:=by
 subst h1 h2
 by_cases hl:ds.length=es.length
 ·rw [← hl,Nat.min_self,z4k hl z7w]
  simp
 ·rw [z4j hl]
  simp [hl]
theorem rcT (I:Inv X pins σ H s) (n:Nat) (A:Wn) (hu0:A.units < Q8) (t1:s.heap.IsTuple a its.toArray) (t2:s.heap.IsTuple b jts.toArray) (r1:Vals vs its) (r2:Vals ws jts) (l1:vs.length=ds.length) (l2:ws.length=es.length)
  (g1:∀ (i:Nat) v d,vs[i]? = some v→ds[i]? = some d→Rep H NoO v d) (g2:∀ (i:Nat) v d,ws[i]? = some v→es[i]? = some d→Rep H NoO v d) (f1:flat n (.tup ds)=true) (f2:flat n (.tup es)=true) (ih:z7e H s A n) :
  RcAt A s (.ref a) (.ref b) (eqDs ds es):=by
 cases n with
 | zero=>simp [flat] at f1
 | succ n =>
  simp only [flat] at f1 f2
  obtain ⟨hu,ih⟩:=ih
  have q:=RcAt.tuples (A:=A) (s:=s) t1 t2 hu0 (z4g hu ih r1 r2 l1 l2 g1 g2 f1 f2)
  rw [z9P (by have:=r1.length; simp; omega) (by have:=r2.length; simp; omega)] at q
  exact q
theorem rnT (I:Inv X pins σ H s) (n:Nat) (A:Wn) (hu0:A.units < Q8) (t1:s.heap.IsTuple a its.toArray) (t2:s.heap.IsTuple b jts.toArray) (r1:Vals vs its) (r2:Vals ws jts) (l1:vs.length=ds.length) (l2:ws.length=es.length)
  (g1:∀ (i:Nat) v d,vs[i]? = some v→ds[i]? = some d→Rep H NoO v d) (g2:∀ (i:Nat) v d,ws[i]? = some v→es[i]? = some d→Rep H NoO v d) (f1:flat n (.tup ds)=true) (f2:flat n (.tup es)=true) (ih:z7e H s A n) :
  RcNeAt A s (.ref a) (.ref b) (!eqDs ds es):=by
 cases n with
 | zero=>simp [flat] at f1
 | succ n =>
  simp only [flat] at f1 f2
  obtain ⟨hu,ih⟩:=ih
  have q:=RcNeAt.tuples (A:=A) (s:=s) t1 t2 hu0 (z4g hu ih r1 r2 l1 l2 g1 g2 f1 f2)
  rw [z9P (by have:=r1.length; simp; omega) (by have:=r2.length; simp; omega)] at q
  exact q
theorem rcL (I:Inv X pins σ H s) (n:Nat) (A:Wn) (hu0:A.units < Q8) (t1:s.heap.IsList a its.toArray) (t2:s.heap.IsList b jts.toArray) (r1:Vals vs its) (r2:Vals ws jts) (l1:vs.length=ds.length) (l2:ws.length=es.length)
  (g1:∀ (i:Nat) v d,vs[i]? = some v→ds[i]? = some d→Rep H NoO v d) (g2:∀ (i:Nat) v d,ws[i]? = some v→es[i]? = some d→Rep H NoO v d) (f1:flat n (.lst ds)=true) (f2:flat n (.lst es)=true) (ih:z7e H s A n) :
  RcAt A s (.ref a) (.ref b) (eqDs ds es):=by
 cases n with
 | zero=>simp [flat] at f1
 | succ n =>
  simp only [flat] at f1 f2
  obtain ⟨hu,ih⟩:=ih
  have z1:its.toArray.size=ds.length:=by have:=r1.length; simp; omega
  have z2:jts.toArray.size=es.length:=by have:=r2.length; simp; omega
  by_cases hl:ds.length=es.length
  ·have q:=RcAt.lists (A:=A) (s:=s) t1 t2 (by rw [z1,z2]; exact hl) hu0 (z4g hu ih r1 r2 l1 l2 g1 g2 f1 f2)
   rw [z1,z4k hl z7w] at q
   exact q
  ·rw [z4j hl]
   exact RcAt.lists_lengths (A:=A) (s:=s) t1 t2 (by rw [z1,z2]; simpa using hl) hu0
theorem rnL (I:Inv X pins σ H s) (n:Nat) (A:Wn) (hu0:A.units < Q8) (t1:s.heap.IsList a its.toArray) (t2:s.heap.IsList b jts.toArray) (r1:Vals vs its) (r2:Vals ws jts) (l1:vs.length=ds.length) (l2:ws.length=es.length)
  (g1:∀ (i:Nat) v d,vs[i]? = some v→ds[i]? = some d→Rep H NoO v d) (g2:∀ (i:Nat) v d,ws[i]? = some v→es[i]? = some d→Rep H NoO v d) (f1:flat n (.lst ds)=true) (f2:flat n (.lst es)=true) (ih:z7e H s A n) :
  RcNeAt A s (.ref a) (.ref b) (!eqDs ds es):=by
 cases n with
 | zero=>simp [flat] at f1
 | succ n =>
  simp only [flat] at f1 f2
  obtain ⟨hu,ih⟩:=ih
  have z1:its.toArray.size=ds.length:=by have:=r1.length; simp; omega
  have z2:jts.toArray.size=es.length:=by have:=r2.length; simp; omega
  by_cases hl:ds.length=es.length
  ·have q:=RcNeAt.lists (A:=A) (s:=s) t1 t2 (by rw [z1,z2]; exact hl) hu0 (z4g hu ih r1 r2 l1 l2 g1 g2 f1 f2)
   rw [z1,z4k hl z7w] at q
   exact q
  ·rw [z4j hl]
   exact RcNeAt.lists_lengths (A:=A) (s:=s) t1 t2 (by rw [z1,z2]; simpa using hl) hu0
theorem rcD (I:Inv X pins σ H s) (n:Nat) (A:Wn) (x y:V) (u w:Value) (d e:D) (hu0:A.units < Q8) (fd:flat n d=true) (fe:flat n e=true) (ih:z7e H s A n) (rx:Rep H NoO x d) (ry:Rep H NoO y e) (ru:RelV x u) (rw':RelV y w):RcAt A s u w (eqD d e):=by
 cases rx with
 | non =>
  cases ru
  cases ry with
  | non =>
   cases rw'
   simp only [eqD]; exact RcAt.none_none
  | bl q =>
   cases rw'
   simp only [eqD]; exact RcAt.none_bool _
  | int q =>
   obtain ⟨t2,rfl⟩:=rw'
   simp only [eqD]; exact RcAt.none_int _ _
  | str q =>
   obtain ⟨t2,rfl⟩:=rw'
   simp only [eqD]; exact RcAt.none_str _ _
  | tup k1 k2 k3 k4 =>
   cases rw'; obtain ⟨its2,r2,t2⟩:=Inv.rdT I k2
   simp only [eqD]; exact RcAt.none_tuple t2 hu0
  | lst k1 k2 k3 k4 =>
   cases rw'; obtain ⟨its2,r2,t2⟩:=Inv.rdL I k2
   simp only [eqD]; exact RcAt.none_list t2 hu0
  | dct k1 k2 k3 k4=>(cases n <;> simp [flat] at fe)
  | exc k1 k2=>(cases n <;> simp [flat] at fe)
  | xd k1 k2=>(cases n <;> simp [flat] at fe)
 | bl p =>
  cases ru
  cases ry with
  | non =>
   cases rw'
   simp only [eqD]; exact RcAt.bool_none _
  | bl q =>
   cases rw'
   simp only [eqD]; exact RcAt.bool_bool _ _
  | int q =>
   obtain ⟨t2,rfl⟩:=rw'
   simp only [eqD]; exact RcAt.bool_int _ _ _
  | str q =>
   obtain ⟨t2,rfl⟩:=rw'
   simp only [eqD]; exact RcAt.bool_str _ _ _
  | tup k1 k2 k3 k4 =>
   cases rw'; obtain ⟨its2,r2,t2⟩:=Inv.rdT I k2
   simp only [eqD]; exact RcAt.bool_tuple _ t2 hu0
  | lst k1 k2 k3 k4 =>
   cases rw'; obtain ⟨its2,r2,t2⟩:=Inv.rdL I k2
   simp only [eqD]; exact RcAt.bool_list _ t2 hu0
  | dct k1 k2 k3 k4=>(cases n <;> simp [flat] at fe)
  | exc k1 k2=>(cases n <;> simp [flat] at fe)
  | xd k1 k2=>(cases n <;> simp [flat] at fe)
 | int p =>
  obtain ⟨t1,rfl⟩:=ru
  cases ry with
  | non =>
   cases rw'
   simp only [eqD]; exact RcAt.int_none _ _
  | bl q =>
   cases rw'
   simp only [eqD]; exact RcAt.int_bool _ _ _
  | int q =>
   obtain ⟨t2,rfl⟩:=rw'
   simp only [eqD]; exact RcAt.int_int _ _ _ _
  | str q =>
   obtain ⟨t2,rfl⟩:=rw'
   simp only [eqD]; exact RcAt.int_str _ _ _ _
  | tup k1 k2 k3 k4 =>
   cases rw'; obtain ⟨its2,r2,t2⟩:=Inv.rdT I k2
   simp only [eqD]; exact RcAt.int_tuple _ _ t2 hu0
  | lst k1 k2 k3 k4 =>
   cases rw'; obtain ⟨its2,r2,t2⟩:=Inv.rdL I k2
   simp only [eqD]; exact RcAt.int_list _ _ t2 hu0
  | dct k1 k2 k3 k4=>(cases n <;> simp [flat] at fe)
  | exc k1 k2=>(cases n <;> simp [flat] at fe)
  | xd k1 k2=>(cases n <;> simp [flat] at fe)
 | str p =>
  obtain ⟨t1,rfl⟩:=ru
  cases ry with
  | non =>
   cases rw'
   simp only [eqD]; exact RcAt.str_none _ _
  | bl q =>
   cases rw'
   simp only [eqD]; exact RcAt.str_bool _ _ _
  | int q =>
   obtain ⟨t2,rfl⟩:=rw'
   simp only [eqD]; exact RcAt.str_int _ _ _ _
  | str q =>
   obtain ⟨t2,rfl⟩:=rw'
   simp only [eqD]; rw [← z5p]; exact RcAt.str_str _ _ _ _
  | tup k1 k2 k3 k4 =>
   cases rw'; obtain ⟨its2,r2,t2⟩:=Inv.rdT I k2
   simp only [eqD]; exact RcAt.str_tuple _ _ t2 hu0
  | lst k1 k2 k3 k4 =>
   cases rw'; obtain ⟨its2,r2,t2⟩:=Inv.rdL I k2
   simp only [eqD]; exact RcAt.str_list _ _ t2 hu0
  | dct k1 k2 k3 k4=>(cases n <;> simp [flat] at fe)
  | exc k1 k2=>(cases n <;> simp [flat] at fe)
  | xd k1 k2=>(cases n <;> simp [flat] at fe)
 | tup h1 h2 h3 h4 =>
  cases ru; obtain ⟨its1,r1,t1⟩:=Inv.rdT I h2
  cases ry with
  | non =>
   cases rw'
   simp only [eqD]; exact RcAt.tuple_none t1 hu0
  | bl q =>
   cases rw'
   simp only [eqD]; exact RcAt.tuple_bool _ t1 hu0
  | int q =>
   obtain ⟨t2,rfl⟩:=rw'
   simp only [eqD]; exact RcAt.tuple_int _ _ t1 hu0
  | str q =>
   obtain ⟨t2,rfl⟩:=rw'
   simp only [eqD]; exact RcAt.tuple_str _ _ t1 hu0
  | tup k1 k2 k3 k4 =>
   cases rw'; obtain ⟨its2,r2,t2⟩:=Inv.rdT I k2
   simp only [eqD]; exact rcT I n A hu0 t1 t2 r1 r2 h3 k3 h4 k4 fd fe ih
  | lst k1 k2 k3 k4 =>
   cases rw'; obtain ⟨its2,r2,t2⟩:=Inv.rdL I k2
   simp only [eqD]; exact RcAt.tuple_list t1 t2 hu0
  | dct k1 k2 k3 k4=>(cases n <;> simp [flat] at fe)
  | exc k1 k2=>(cases n <;> simp [flat] at fe)
  | xd k1 k2=>(cases n <;> simp [flat] at fe)
 | lst h1 h2 h3 h4 =>
  cases ru; obtain ⟨its1,r1,t1⟩:=Inv.rdL I h2
  cases ry with
  | non =>
   cases rw'
   simp only [eqD]; exact RcAt.list_none t1 hu0
  | bl q =>
   cases rw'
   simp only [eqD]; exact RcAt.list_bool _ t1 hu0
  | int q =>
   obtain ⟨t2,rfl⟩:=rw'
   simp only [eqD]; exact RcAt.list_int _ _ t1 hu0
  | str q =>
   obtain ⟨t2,rfl⟩:=rw'
   simp only [eqD]; exact RcAt.list_str _ _ t1 hu0
  | tup k1 k2 k3 k4 =>
   cases rw'; obtain ⟨its2,r2,t2⟩:=Inv.rdT I k2
   simp only [eqD]; exact RcAt.list_tuple t1 t2 hu0
  | lst k1 k2 k3 k4 =>
   cases rw'; obtain ⟨its2,r2,t2⟩:=Inv.rdL I k2
   simp only [eqD]; exact rcL I n A hu0 t1 t2 r1 r2 h3 k3 h4 k4 fd fe ih
  | dct k1 k2 k3 k4=>(cases n <;> simp [flat] at fe)
  | exc k1 k2=>(cases n <;> simp [flat] at fe)
  | xd k1 k2=>(cases n <;> simp [flat] at fe)
 | dct h1 h2 h3 h4=>(cases n <;> simp [flat] at fd)
 | exc h1 h2=>(cases n <;> simp [flat] at fd)
 | xd h1 h2=>(cases n <;> simp [flat] at fd)
theorem rnD (I:Inv X pins σ H s) (n:Nat) (A:Wn) (x y:V) (u w:Value) (d e:D) (hu0:A.units < Q8) (fd:flat n d=true) (fe:flat n e=true) (ih:z7e H s A n) (rx:Rep H NoO x d) (ry:Rep H NoO y e) (ru:RelV x u) (rw':RelV y w):RcNeAt A s u w (!eqD d e):=by
 cases rx with
 | non =>
  cases ru
  cases ry with
  | non =>
   cases rw'
   simp only [eqD]; exact RcNeAt.none_none
  | bl q =>
   cases rw'
   simp only [eqD]; exact RcNeAt.none_bool _
  | int q =>
   obtain ⟨t2,rfl⟩:=rw'
   simp only [eqD]; exact RcNeAt.none_int _ _
  | str q =>
   obtain ⟨t2,rfl⟩:=rw'
   simp only [eqD]; exact RcNeAt.none_str _ _
  | tup k1 k2 k3 k4 =>
   cases rw'; obtain ⟨its2,r2,t2⟩:=Inv.rdT I k2
   simp only [eqD]; exact RcNeAt.none_tuple t2 hu0
  | lst k1 k2 k3 k4 =>
   cases rw'; obtain ⟨its2,r2,t2⟩:=Inv.rdL I k2
   simp only [eqD]; exact RcNeAt.none_list t2 hu0
  | dct k1 k2 k3 k4=>(cases n <;> simp [flat] at fe)
  | exc k1 k2=>(cases n <;> simp [flat] at fe)
  | xd k1 k2=>(cases n <;> simp [flat] at fe)
 | bl p =>
  cases ru
  cases ry with
  | non =>
   cases rw'
   simp only [eqD]; exact RcNeAt.bool_none _
  | bl q =>
   cases rw'
   simp only [eqD]; exact RcNeAt.bool_bool _ _
  | int q =>
   obtain ⟨t2,rfl⟩:=rw'
   simp only [eqD]; exact RcNeAt.bool_int _ _ _
  | str q =>
   obtain ⟨t2,rfl⟩:=rw'
   simp only [eqD]; exact RcNeAt.bool_str _ _ _
  | tup k1 k2 k3 k4 =>
   cases rw'; obtain ⟨its2,r2,t2⟩:=Inv.rdT I k2
   simp only [eqD]; exact RcNeAt.bool_tuple _ t2 hu0
  | lst k1 k2 k3 k4 =>
   cases rw'; obtain ⟨its2,r2,t2⟩:=Inv.rdL I k2
   simp only [eqD]; exact RcNeAt.bool_list _ t2 hu0
  | dct k1 k2 k3 k4=>(cases n <;> simp [flat] at fe)
  | exc k1 k2=>(cases n <;> simp [flat] at fe)
  | xd k1 k2=>(cases n <;> simp [flat] at fe)
 | int p =>
  obtain ⟨t1,rfl⟩:=ru
  cases ry with
  | non =>
   cases rw'
   simp only [eqD]; exact RcNeAt.int_none _ _
  | bl q =>
   cases rw'
   simp only [eqD]; exact RcNeAt.int_bool _ _ _
  | int q =>
   obtain ⟨t2,rfl⟩:=rw'
   simp only [eqD]; exact RcNeAt.int_int _ _ _ _
  | str q =>
   obtain ⟨t2,rfl⟩:=rw'
   simp only [eqD]; exact RcNeAt.int_str _ _ _ _
  | tup k1 k2 k3 k4 =>
   cases rw'; obtain ⟨its2,r2,t2⟩:=Inv.rdT I k2
   simp only [eqD]; exact RcNeAt.int_tuple _ _ t2 hu0
  | lst k1 k2 k3 k4 =>
   cases rw'; obtain ⟨its2,r2,t2⟩:=Inv.rdL I k2
   simp only [eqD]; exact RcNeAt.int_list _ _ t2 hu0
  | dct k1 k2 k3 k4=>(cases n <;> simp [flat] at fe)
  | exc k1 k2=>(cases n <;> simp [flat] at fe)
  | xd k1 k2=>(cases n <;> simp [flat] at fe)
 | str p =>
  obtain ⟨t1,rfl⟩:=ru
  cases ry with
  | non =>
   cases rw'
   simp only [eqD]; exact RcNeAt.str_none _ _
  | bl q =>
   cases rw'
   simp only [eqD]; exact RcNeAt.str_bool _ _ _
  | int q =>
   obtain ⟨t2,rfl⟩:=rw'
   simp only [eqD]; exact RcNeAt.str_int _ _ _ _
  | str q =>
   obtain ⟨t2,rfl⟩:=rw'
   simp only [eqD]; rw [← z5p]; exact RcNeAt.str_str _ _ _ _
  | tup k1 k2 k3 k4 =>
   cases rw'; obtain ⟨its2,r2,t2⟩:=Inv.rdT I k2
   simp only [eqD]; exact RcNeAt.str_tuple _ _ t2 hu0
  | lst k1 k2 k3 k4 =>
   cases rw'; obtain ⟨its2,r2,t2⟩:=Inv.rdL I k2
   simp only [eqD]; exact RcNeAt.str_list _ _ t2 hu0
  | dct k1 k2 k3 k4=>(cases n <;> simp [flat] at fe)
  | exc k1 k2=>(cases n <;> simp [flat] at fe)
  | xd k1 k2=>(cases n <;> simp [flat] at fe)
 | tup h1 h2 h3 h4 =>
  cases ru; obtain ⟨its1,r1,t1⟩:=Inv.rdT I h2
  cases ry with
  | non =>
   cases rw'
   simp only [eqD]; exact RcNeAt.tuple_none t1 hu0
  | bl q =>
   cases rw'
   simp only [eqD]; exact RcNeAt.tuple_bool _ t1 hu0
  | int q =>
   obtain ⟨t2,rfl⟩:=rw'
   simp only [eqD]; exact RcNeAt.tuple_int _ _ t1 hu0
  | str q =>
   obtain ⟨t2,rfl⟩:=rw'
   simp only [eqD]; exact RcNeAt.tuple_str _ _ t1 hu0
  | tup k1 k2 k3 k4 =>
   cases rw'; obtain ⟨its2,r2,t2⟩:=Inv.rdT I k2
   simp only [eqD]; exact rnT I n A hu0 t1 t2 r1 r2 h3 k3 h4 k4 fd fe ih
  | lst k1 k2 k3 k4 =>
   cases rw'; obtain ⟨its2,r2,t2⟩:=Inv.rdL I k2
   simp only [eqD]; exact RcNeAt.tuple_list t1 t2 hu0
  | dct k1 k2 k3 k4=>(cases n <;> simp [flat] at fe)
  | exc k1 k2=>(cases n <;> simp [flat] at fe)
  | xd k1 k2=>(cases n <;> simp [flat] at fe)
 | lst h1 h2 h3 h4 =>
  cases ru; obtain ⟨its1,r1,t1⟩:=Inv.rdL I h2
  cases ry with
  | non =>
   cases rw'
   simp only [eqD]; exact RcNeAt.list_none t1 hu0
  | bl q =>
   cases rw'
   simp only [eqD]; exact RcNeAt.list_bool _ t1 hu0
  | int q =>
   obtain ⟨t2,rfl⟩:=rw'
   simp only [eqD]; exact RcNeAt.list_int _ _ t1 hu0
  | str q =>
   obtain ⟨t2,rfl⟩:=rw'
   simp only [eqD]; exact RcNeAt.list_str _ _ t1 hu0
  | tup k1 k2 k3 k4 =>
   cases rw'; obtain ⟨its2,r2,t2⟩:=Inv.rdT I k2
   simp only [eqD]; exact RcNeAt.list_tuple t1 t2 hu0
  | lst k1 k2 k3 k4 =>
   cases rw'; obtain ⟨its2,r2,t2⟩:=Inv.rdL I k2
   simp only [eqD]; exact rnL I n A hu0 t1 t2 r1 r2 h3 k3 h4 k4 fd fe ih
  | dct k1 k2 k3 k4=>(cases n <;> simp [flat] at fe)
  | exc k1 k2=>(cases n <;> simp [flat] at fe)
  | xd k1 k2=>(cases n <;> simp [flat] at fe)
 | dct h1 h2 h3 h4=>(cases n <;> simp [flat] at fd)
 | exc h1 h2=>(cases n <;> simp [flat] at fd)
 | xd h1 h2=>(cases n <;> simp [flat] at fd)
theorem z9u (h:RcAt A s u w k) (hs:u=w→k=true) (hf:∀ b t,u≠Value.float b t):EqAt A s u w k:=fun prog w' E Q hq=>by
 unfold eqBool
 refine Q7 ?_
 refine wpAny_ite_split (fun hab=>?_) (fun _=>?_)
 ·have e:=eq_of_beq hab
  rw [hs e] at hq
  exact W2 (wpAny_rule (Wb hq))
 ·cases u with
  | float b t=>exact absurd rfl (hf b t)
  | _=>exact W2 (h prog w' E _ (Qh hq))
theorem z96 (r:Rep H NoO x d) (ru:RelV x u) (b:UInt64) (t:Tok):u≠Value.float b t:=by
 intro e
 subst e
 cases r <;> first | (cases ru; done) | (obtain ⟨t',e⟩:=ru; cases e)
theorem eqAtD (I:Inv X pins σ H s) (n:Nat):EqIt H s n:=by
 induction n with
 | zero =>
  intro A x y u w d e hu fd fe rx ry ru rw'
  refine z9u (rcD I 0 A x y u w d e (by omega) fd fe trivial rx ry ru rw') (fun h=>?_) (z96 rx ru)
  subst h
  have:=ru.inj rw'
  subst this
  rw [Rep.inj rx fd fe ry]
  exact z4l fe
 | succ n ih =>
  intro A x y u w d e hu fd fe rx ry ru rw'
  refine z9u (rcD I (n + 1) A x y u w d e (by omega) fd fe ⟨by omega,ih⟩ rx ry ru rw') (fun h=>?_) (z96 rx ru)
  subst h
  have:=ru.inj rw'
  subst this
  rw [Rep.inj rx fd fe ry]
  exact z4l fe
theorem zdQ (I:Inv X pins σ H s):∀ n:Nat,A.units + n + 1 < Q8→z7e H s A n
 | 0,_=>trivial
 | n + 1,h=>⟨by omega,eqAtD I n⟩
def rEqD:R2:=fun x y H Q=>∃ d e,Rep H NoO x d∧Rep H NoO y e∧flat 50 d=true∧flat 50 e=true∧Q (.bl (eqD d e)) H
def rNeD:R2:=fun x y H Q=>∃ d e,Rep H NoO x d∧Rep H NoO y e∧flat 50 d=true∧flat 50 e=true∧Q (.bl (!eqD d e)) H
theorem z3X (hu:X.A.units + 64 < Q8):OpR X (Ww .Eq) rEqD:=by
 intro pins s σ H x y v u Q I rx ry h
 obtain ⟨d,e,r1,r2,f1,f2,q⟩:=h
 exact rcD I 50 X.A x y v u d e (by omega) f1 f2 (zdQ I 50 (by omega)) r1 r2 rx ry X.prog X.w X.xe _ ⟨.bl _,H,I,rfl,q⟩
theorem z90 (hu:X.A.units + 64 < Q8):OpR X (Ww .NotEq) rNeD:=by
 intro pins s σ H x y v u Q I rx ry h
 obtain ⟨d,e,r1,r2,f1,f2,q⟩:=h
 exact rnD I 50 X.A x y v u d e (by omega) f1 f2 (zdQ I 50 (by omega)) r1 r2 rx ry X.prog X.w X.xe _ ⟨.bl _,H,I,rfl,q⟩
end
def cutL {α:Type} (xs:List α) (lo hi:Option Int):List α:=(xs.drop (HT.sIx xs.length 0 lo)).take (HT.sIx xs.length xs.length hi - HT.sIx xs.length 0 lo)
theorem zbi (xs:List V) (lo hi:Option Int):cutL xs lo hi=cutV xs lo hi:=rfl
theorem zaH (xs:List α) (lo hi:Option Int):(cutL xs lo hi).length≤xs.length:=by
 unfold cutL
 rw [Je,List.length_drop]
 omega
theorem Reps.cut (lo hi:Option Int) (h:Reps H O vs ds):Reps H O (cutL vs lo hi) (cutL ds lo hi):=by
 unfold cutL
 rw [h.1]
 exact Reps.take _ (Reps.drop _ h)
theorem z9C {α:Type} {xs:List α} {lo hi:Option Int} (h:HT.sIx xs.length 0 lo=0∧HT.sIx xs.length xs.length hi=xs.length):cutL xs lo hi=xs:=by
 unfold cutL
 rw [h.1,h.2]
 simp
section
variable {prog:Wi} {w:Wp} {A:Wn} {E:Value→W1→Prop} {s:W1}
theorem z34 {t sl:Addr} {items:Array Value} {vl vu:Value} {lo hi:Option Int} {Q:Value→W1→Prop} (ht:IsTup s.heap t items) (hs:s.heap.IsSliceOf sl vl vu .none) (pl:IsPart vl lo) (pu:IsPart vu hi)
  (hw:HT.sIx items.size 0 lo=0∧HT.sIx items.size items.size hi=items.size) (h:Q (.ref t) s):Wa (model prog w) A (getItem (.ref t) (.ref sl)) Q E s:=by
 obtain ⟨os,hos,hcs,hds⟩:=id hs
 have hTs:s.TypeIs (.ref sl) "slice":=⟨os,hos,hcs⟩
 unfold getItem
 try with_reducible refine Q7 ?_
 first | refine W2 (Wb ?_) | skip
 refine W2 (wpAny_sequenceKey ht.typeIs (by decide) ?_)
 refine W2 (wpAny_callSpecial?_slot (name:=Str.ofString "__getitem__") ht.typeIs Qe
  (wpAny_call_entry Qe ht.typeIs entry_tuple_getitem ?_ (args_tuple_getitem _ _)))
 show Wa _ _ (Builtin.Tuple.tupleItemsOf (.ref t) >>= _) _ _ s
 refine W2 (tupleItemsOf_ ht ?_)
 refine W2 (QW hTs ?_)
 rw [if_pos (by decide)]
 refine W2 (HT.sliceApplied_gen hs pl pu ?_)
 show Wa _ _ (if (((HT.sIx items.size 0 lo:Nat):Int) == 0 && (1:Int) == 1 && (HT.sIx items.size items.size hi - HT.sIx items.size 0 lo) == items.size)=true then _ else _) _ _ s
 rw [hw.1,hw.2]
 rw [if_pos (by simp)]
 refine W2 (m:=Builtin.Tuple.tupleIsExact (.ref t)) ?_
 unfold Builtin.Tuple.tupleIsExact
 refine W2 (QW ht.typeIs (Wb ?_))
 rw [if_pos (by decide)]
 exact W2 (wpAny_rule (W2 (Wb (Wb ⟨_,rfl,Wb h⟩))))
end
section
variable {X:Cx}
def zcR (K:W0):V→Option Int→Option Int→Hp→VK→Prop:=fun x lo hi H Q=>∃ a xs,x = .ref a∧SqT K H a xs ∧
 ((HT.sIx xs.length 0 lo=0∧HT.sIx xs.length xs.length hi=xs.length)→Q (.ref a) H)∧(¬ (HT.sIx xs.length 0 lo=0∧HT.sIx xs.length xs.length hi=xs.length)→∀ p,H p=none→Q (.ref p) (upd H p (.tup (cutV xs lo hi))))
theorem sl_tup2:SlR X (zcR X.K):=by
 intro pins s σ H x v vl vu lo hi sl Q I rx hs pl pu h
 obtain ⟨a,xs,rfl,hx,q1,q2⟩:=h
 by_cases hw:HT.sIx xs.length 0 lo=0∧HT.sIx xs.length xs.length hi=xs.length
 ·cases rx
  obtain ⟨its,r,ht,hz⟩:=I.tuple hx
  have hlen:its.toArray.size=xs.length:=by rw [We]; exact r.length.symm
  refine ⟨"tuple",_,PyProof.Rows.slot_tuple_getitem.lookup,ht.typeIs,?_⟩
  exact z34 ht hs pl pu (by rw [hlen]; exact hw) ⟨.ref a,H,I,rfl,q1 hw⟩
 ·exact sl_tup pins s σ H (.ref a) v vl vu lo hi sl Q I rx hs pl pu ⟨a,xs,rfl,hx,hw,q2 hw⟩
theorem z8A (a b:Nat):sliceRange (a:Int) (b:Int) 1=(WS (b - a)).map (fun k=>a + k):=by
 have h0:((1:Int) > 0)=True:=by simp
 unfold sliceRange
 simp only [h0,if_true]
 by_cases hlt:(a:Int) < (b:Int)
 ·rw [if_pos hlt]
  have e3:(((b:Int) - (a:Int) + 1 - 1) / 1).toNat=b - a:=by
   rw [Int.ediv_one]; omega
  rw [e3]
  refine List.map_congr_left fun k _=>?_
  omega
 ·rw [if_neg hlt]
  have:b - a=0:=by omega
  rw [this]
  rfl
theorem z56 (lo hi:Option Int) (n:Nat):Qa lo hi 1 n=(WS (HT.sIx n n hi - HT.sIx n 0 lo)).map (fun k=>HT.sIx n 0 lo + k):=by
 have c:∀ (i:Int) (d:Nat),max 0 (min (if i < 0 then i + (n:Int) else i) (n:Int))=((HT.sIx n d (some i):Nat):Int):=by
  intro i d
  show max 0 (min (if i < 0 then i + (n:Int) else i) (n:Int))=(((if i < 0 then (i + (n:Int)).toNat else min i.toNat n):Nat):Int)
  by_cases hi:i < 0
  ·simp only [if_pos hi]; omega
  ·simp only [if_neg hi]; omega
 have h0:((1:Int) > 0)=True:=by simp
 rw [← z8A]
 unfold Qa
 simp only [h0,if_true]
 cases lo with
 | none =>
  cases hi with
  | none=>rfl
  | some j=>show sliceRange 0 (max 0 (min (if j < 0 then j + (n:Int) else j) (n:Int))) 1=_; rw [c j n]; rfl
 | some i =>
  cases hi with
  | none=>show sliceRange (max 0 (min (if i < 0 then i + (n:Int) else i) (n:Int))) (n:Int) 1=_; rw [c i 0]; rfl
  | some j=>show sliceRange (max 0 (min (if i < 0 then i + (n:Int) else i) (n:Int))) (max 0 (min (if j < 0 then j + (n:Int) else j) (n:Int))) 1=_; rw [c i 0,c j n]
theorem zby (x:Tx) (lo hi:Option Int):(⟨((Qa lo hi 1 (toS x).length).filterMap ((toS x).cps[·]?)).toArray⟩:Str)=toS (cutL x lo hi):=by
 unfold toS
 congr 1
 rw [z56]
 have:=pick_run (x.toArray) (HT.sIx x.length 0 lo) (HT.sIx x.length x.length hi - HT.sIx x.length 0 lo)
 have hl:({ cps:=x.toArray }:Str).length=x.length:=by simp [Str.length]
 rw [hl]
 rw [this]
 rfl
def rSlS:V→Option Int→Option Int→Hp→VK→Prop:=fun x lo hi H Q=>∃ z:Tx,x = .str (toS z)∧z.length≤W6∧Q (.str (toS (cutL z lo hi))) H
theorem z8V (p:IsPart v o):∃ q:Option (Int×Tok),v=partValue q∧q.map (·.1)=o:=by
 cases p with
 | none=>exact ⟨none,rfl,rfl⟩
 | int i t=>exact ⟨some (i,t),rfl,rfl⟩
theorem sl_str:SlR X rSlS:=by
 intro pins s σ H x v vl vu lo hi sl Q I rx hs pl pu h
 obtain ⟨z,rfl,hz,q⟩:=h
 obtain ⟨t,rfl⟩:=rx
 obtain ⟨l,rfl,el⟩:=z8V pl
 obtain ⟨u,rfl,eu⟩:=z8V pu
 obtain ⟨o,ho,hc,hd⟩:=hs
 refine ⟨"str",_,F.slot_str_getitem.lookup,typeIs_str s _ t,?_⟩
 refine wpAny_getItem_str_slice (l:=l) (u:=u) (st:=none) ⟨o,ho,hc,hd⟩ rfl ?_
 unfold sliceMade
 have e:(slicePicked (toS z) l u none)=Qa lo hi 1 (toS z).length:=by
  unfold slicePicked
  rw [el,eu]
  rfl
 rw [e]
 by_cases hw:(((none:Option (Int×Tok)).map (·.1)).getD 1 == 1 && (Qa lo hi 1 (toS z).length).length == (toS z).length)=true
 ·rw [if_pos hw]
  refine ⟨.str (toS (cutL z lo hi)),H,I,⟨t,?_⟩,q⟩
  congr 1
  rw [Wg] at hw
  have hw2:=eq_of_beq hw.2
  rw [z56,Wy,List.length_range,z1V] at hw2
  have h1:=HT.sIx_le z.length 0 (Qf _) lo
  have h2:=HT.sIx_le z.length z.length (Wc _) hi
  unfold cutL
  congr 1
  by_cases h0:z.length=0
  ·have:z=[]:=List.eq_nil_of_length_eq_zero h0
   subst this
   simp
  ·have a1:HT.sIx z.length 0 lo=0:=by omega
   rw [a1] at hw2 ⊢
   rw [hw2]
   simp
 ·rw [if_neg hw]
  show Made.post (.str _) _ _
  rw [zby]
  exact ⟨by rw [z1V]; exact Q0 (zaH z lo hi) hz,.str (toS (cutL z lo hi)),H,I.tok _,⟨_,rfl⟩,q⟩
def RvR (X:Cx) (r:V→Hp→VK→Prop):Prop :=
 ∀ (pins:List (Addr×Obj)) (s:W1) (σ:St) (H:Hp) (x:V) (v:Value) (t:Tok) (sl:Addr) (Q:VK),Inv X pins σ H s→RelV x v→s.heap.IsSliceOf sl .none .none (.int (-1) t)→r x H Q →
  ∃ T id,typeLookup (.type T) "__getitem__" = pure (some (.builtin id))∧s.TypeIs v T∧Wa (model X.prog X.w) X.A (getItem v (.ref sl)) (EP X pins σ Q) X.xe s
theorem RvR.or (h:RvR X r) (h':RvR X r'):RvR X (fun x H Q=>r x H Q∨r' x H Q):=by
 intro pins s σ H x v t sl Q I rx hs q
 rcases q with q | q
 ·exact h pins s σ H x v t sl Q I rx hs q
 ·exact h' pins s σ H x v t sl Q I rx hs q
theorem op_catT0:OpR X (Q1 .Add) (fun x y H Q=>∃ a b ys,x = .ref a∧y = .ref b∧SqT X.K H a []∧SqT X.K H b ys∧Q (.ref b) H):=by
 intro pins s σ H x y v u Q I rx ry h
 obtain ⟨a,b,ys,rfl,rfl,ha,hb,q⟩:=h
 cases rx
 cases ry
 obtain ⟨its,r1,p1,_⟩:=I.tuple ha
 obtain ⟨its2,r2,p2,_⟩:=I.tuple hb
 cases r1
 obtain ⟨⟨cls,dd,data,sl⟩,ho,hc,n,hd⟩:=id p1
 obtain ⟨⟨cls2,dd2,data2,sl2⟩,ho2,hc2,n2,hd2⟩:=id p2
 simp only at hc hd hc2 hd2
 subst hc hd hc2 hd2
 exact concat_meets ⟨_,ho,rfl⟩ ⟨_,ho2,rfl⟩ noFill_tuple_add seq_tuple_add PySem.F.slot_tuple_add PySem.F.entry_tuple_add (PySem.F.args_tuple_add_2 _ _)
   (tuple_addW0 a b #[] its2.toArray n n2 dd dd2 sl sl2 rfl) ⟨ho,ho2,.ref b,H,I,rfl,q⟩
def zcX (K:W0):R2:=fun x y H Q=>∃ l b xs zs,x = .ref l∧y = .ref b∧SqL K H l xs∧SqL K H b zs∧xs.length + zs.length≤W6∧∀ p,H p=none→Q (.ref p) (upd H p (.lst (xs ++ zs)))
theorem zc1:OpR X (Q1 .Add) (zcX X.K):=by
 intro pins s σ H x y v u Q I rx ry h
 obtain ⟨l,b,xs,zs,rfl,rfl,hH,hB,hz,q⟩:=h
 cases rx
 cases ry
 obtain ⟨its,r,⟨⟨cls,dd,data,sl⟩,n,e,hc,hdd,hd⟩,z⟩:=I.list hH
 obtain ⟨its2,r2,⟨⟨cls2,dd2,data2,sl2⟩,n2,e2,hc2,hdd2,hd2⟩,z2⟩:=I.list hB
 simp only at hc hd hdd hc2 hd2 hdd2
 subst hc hd hdd hc2 hd2 hdd2
 have hl:=r.length
 have hl2:=r2.length
 refine concat_meets ⟨_,e,rfl⟩ ⟨_,e2,rfl⟩ noFill_list_add seq_list_add PySem.F.slot_list_add PySem.F.entry_list_add (PySem.F.args_list_add_2 _ _)
   (list_addW l b its.toArray its2.toArray n n2 none none sl sl2 (by rw [We,We]; omega)) ⟨e,e2,?_⟩
 have ea:its.toArray ++ its2.toArray=(its ++ its2).toArray:=by simp
 rw [ea]
 exact ⟨.ref _,_,I.lnew (t':=s.toks) (r.append r2) (by rw [Qd]; omega),rfl,q _ I.fresh⟩
theorem z2S:∀ {ys:List Str} {us:List Value},Vals (ys.map V.str) us→StrsAre us ys
 | [],us,r=>by cases r; exact .nil
 | y :: ys,us,r=>by
  cases r with
  | cons r1 r2 =>
   obtain ⟨t,rfl⟩:=r1
   exact .cons y t (z2S r2)
theorem z5X:∀ {ys:List Str} {us:List Value},StrsAre us ys→Vals (ys.map V.str) us
 | _,_,.nil=>.nil
 | _,_,.cons y t h=>.cons ⟨t,rfl⟩ (z5X h)
def zab (K:W0):V→List V→Hp→VK→Prop:=fun x vs H Q=>∃ (z:Str) (a:Addr) (ys:List Str),x = .str z∧vs=[.ref a]∧(SqL K H a (ys.map V.str)∨SqT K H a (ys.map V.str)) ∧
 (ys.map (·.length)).sum + ys.length * z.length≤16777216∧Q (.str (Txt.join z ys)) H
theorem zc6:MtR X "str.join" (zab X.K):=by
 intro pins s σ H x vs v us Q I rx rv h
 obtain ⟨z,a,ys,rfl,rfl,hq,hz,q⟩:=h
 obtain ⟨t,rfl⟩:=rx
 obtain ⟨u,rfl,ru⟩:=rv.one
 cases ru
 rcases hq with hq | hq
 ·obtain ⟨its,r,p,_⟩:=I.list hq
  exact join_list p.isList (by simpa using z2S r) hz fun t' k=>⟨.str _,H,I.tok _,⟨t',rfl⟩,q⟩
 ·obtain ⟨its,r,p,_⟩:=I.tuple hq
  exact join_tuple p (by simpa using z2S r) hz fun t' k=>⟨.str _,H,I.tok _,⟨t',rfl⟩,q⟩
theorem z6I:∀ {bs:List Bool} {us:List Value},Vals (bs.map V.bl) us→∀ (i:Nat) v,us[i]? = some v→∃ b,bs[i]? = some b∧v = .bool b
 | [],us,r,i,v,e=>by cases r; simp at e
 | b :: bs,us,r,i,v,e=>by
  cases r with
  | cons r1 r2 =>
   cases i with
   | zero =>
    simp at e
    subst e
    exact ⟨b,rfl,r1⟩
   | succ i=>exact z6I r2 i v (by simpa using e)
theorem z5b:∀ bs:List Bool,((WS bs.length).all fun i=>(bs[i]?).getD true)=bs.all id
 | []=>rfl
 | b :: bs=>by
  rw [Qz,List.range_succ_eq_map,Jc,List.all_map]
  have:=z5b bs
  simp only [WJ,Option.getD_some,Jc,id]
  rw [← this]
  rfl
theorem zaK (hc:X.calm=true):CallR X (.builtin "all") (fun xs H Q=>∃ (a:Addr) (bs:List Bool),xs=[.ref a]∧SqL X.K H a (bs.map V.bl)∧Q (.bl (bs.all (fun b=>b))) H):=by
 intro pins s σ H xs us Q I r h
 obtain ⟨a,bs,rfl,hq,q⟩:=h
 obtain ⟨u,rfl,ru⟩:=z3B r
 cases ru
 obtain ⟨its,r',p,_⟩:=I.list hq
 have hl:=p.isList
 have hlt:a < s.heap.objs.size:=by obtain ⟨_,e,_⟩:=hl; exact Wf e
 have hlen:=r'.length
 rw [Wy] at hlen
 refine call_all_walk (wpAny_pyIter_list hl ?_)
 refine ⟨s.heap.objs.size,[s.heap.objs.size,a],[s.heap.objs.size],its.toArray.size,_,_,fun i=>(bs[i]?).getD true,rfl,Walks.list (A:=X.A.in1) (I.ok.hd hc) _ a (WN hlt) its.toArray,
  ⟨⟨_,Wr _ rfl,rfl,rfl⟩,hl.push _⟩,fun i v s' Q' E' hP hQ=>?_,fun h' tk hk=>?_⟩
 ·obtain ⟨b,e,rfl⟩:=z6I r' i v (by simpa using hP)
  simp only [e,Option.getD_some] at hQ
  exact Qh hQ
 ·have e:((WS its.toArray.size).all fun i=>(bs[i]?).getD true)=bs.all id:=by
   rw [We,← hlen]; exact z5b bs
  rw [e]
  exact ⟨.bl _,H,I.kept fun b o e=>hk b o (fun hm=>by rw [List.mem_singleton.mp hm] at e; exact WV _ (Wf e)) (W7 _ e),rfl,q⟩
def insT (x:Tx):List Tx→List Tx
 | []=>[x]
 | y :: r=>if y < x then y :: insT x r else x :: y :: r
def z3G:List Tx→List Tx
 | []=>[]
 | x :: r=>insT x (z3G r)
theorem z4M (x:Tx):∀ l:List Tx,(insT x l).Perm (x :: l)
 | []=>.refl _
 | y :: r=>by
  unfold insT
  split
  ·exact ((z4M x r).cons y).trans (.swap x y r)
  ·exact .refl _
theorem z3F:∀ l:List Tx,(z3G l).Perm l
 | []=>.refl _
 | x :: r=>(z4M x _).trans ((z3F r).cons x)
abbrev leT (a b:Tx):Prop:=¬ b < a
theorem z6o (h1:leT a b) (h2:leT b c):leT a c:=List.not_lt.mpr (List.le_trans (List.not_lt.mp h1) (List.not_lt.mp h2))
theorem zar (h1:leT a b) (h2:leT b a):a=b:=List.le_antisymm (List.not_lt.mp h1) (List.not_lt.mp h2)
theorem z4L (x:Tx):∀ l:List Tx,l.Pairwise leT→(insT x l).Pairwise leT
 | [],_=>by simp [insT]
 | y :: r,h=>by
  unfold insT
  obtain ⟨h1,h2⟩:=List.pairwise_cons.mp h
  split
  ·rename_i hlt
   refine J0.mpr ⟨fun z hz=>?_,z4L x r h2⟩
   rcases Wh.mp ((z4M x r).mem_iff.mp hz) with e | hz
   ·subst e
    intro q
    exact absurd (List.lt_trans hlt q) (List.lt_irrefl _)
   ·exact h1 z hz
  ·rename_i hge
   refine J0.mpr ⟨fun z hz=>?_,h⟩
   rcases Wh.mp hz with e | hz
   ·subst e; exact hge
   ·exact z6o hge (h1 z hz)
theorem z3U:∀ l:List Tx,(z3G l).Pairwise leT
 | []=>.nil
 | x :: r=>z4L x _ (z3U r)
theorem z9Y (hp:l'.Perm l) (hs:l'.Pairwise leT):l'=z3G l :=
 List.Perm.eq_of_pairwise (fun _ _ _ _ h1 h2=>zar h1 h2) hs (z3U l) (hp.trans (z3F l).symm)
theorem z67:∀ (x:Str) (r:List Str),risingS x r=true→((x :: r).map fun z:Str=>z.cps.toList).Pairwise leT
 | x,[],_=>by simp
 | x,y :: r,h=>by
  have h':(!ltCps y.cps.toList x.cps.toList && risingS y r)=true:=h
  rw [Wg] at h'
  have ih:=z67 y r h'.2
  have hxy:leT x.cps.toList y.cps.toList:=by
   have:=h'.1
   rw [ltCps_eq] at this
   simpa using this
  rw [Wq]
  refine J0.mpr ⟨fun z hz=>?_,ih⟩
  rw [Wq] at hz ih
  rcases Wh.mp hz with e | hz
  ·subst e; exact hxy
  ·exact z6o hxy ((List.pairwise_cons.mp ih).1 z hz)
theorem z6G:CallR X (.builtin "sorted") (fun xs H Q=>∃ (a:Addr) (ts:List Tx),xs=[.ref a]∧SqL X.K H a (ts.map fun z=>V.str (toS z))∧ts.length < 64∧∀ p,H p=none→Q (.ref p) (upd H p (.lst ((z3G ts).map fun z=>V.str (toS z))))):=by
 intro pins s σ H xs us Q I r h
 obtain ⟨a,ts,rfl,hq,hz,q⟩:=h
 obtain ⟨u,rfl,ru⟩:=z3B r
 cases ru
 obtain ⟨its,r',p,_⟩:=I.list hq
 have r2:Vals ((ts.map toS).map V.str) its:=by rw [Q3]; exact r'
 have hlen:=r'.length
 rw [Wy] at hlen
 refine sorted_strs p.isList (z2S r2) (by omega) fun out ss hS hp hs=>?_
 have e:ss=(z3G ts).map toS:=by
  have hpw:(ss.map fun z:Str=>z.cps.toList).Pairwise leT:=by
   cases ss with
   | nil=>simp
   | cons x r=>exact z67 x r hs
  have hpp:(ss.map fun z:Str=>z.cps.toList).Perm ts:=by
   have:=hp.map fun z:Str=>z.cps.toList
   rw [Q3] at this
   have e2:ts.map ((fun z:Str=>z.cps.toList) ∘ toS)=ts:=by
    rw [show ((fun z:Str=>z.cps.toList) ∘ toS)=id from funext fun z=>z3D z,List.map_id]
   rw [e2] at this
   exact this
  rw [← z9Y hpp hpw,Q3]
  have:(toS ∘ fun z:Str=>z.cps.toList)=id:=funext fun z=>(zaP z).symm
  rw [this,List.map_id]
 obtain ⟨ep,he⟩:=sortedAll_at s.heap its out
 have hv:Vals ((z3G ts).map fun z=>V.str (toS z)) out.toList:=by
  have:=z5X hS
  rw [e,Q3] at this
  exact this
 have hl2:((z3G ts).map fun z=>V.str (toS z)).length≤W6:=by
  rw [Wy,(z3F ts).length_eq]
  exact Q0 (Jg hz) (by rw [Qu]; decide)
 refine ⟨.ref (s.heap.objs.size + 1),_,I.laid (a:=s.heap.objs.size + 1) (o:=.lst ((z3G ts).map fun z=>V.str (toS z))) (t':=s.toks) (fun b u e=>sortedAll_old e) (Nat.le_succ _) ?_,rfl,q _ (I.hok.fresh (Nat.le_succ _))⟩
 exact ⟨hl2,out.toList,ep,hv,by simpa [WP] using he⟩
end
def p2 (p:D→D→Option S) (x y:D) (δ:Dl):Rs S:=match p x y with
 | some s=>.ok s δ
 | none=>.stuck
def eOp (p:D→D→Option S) (fa:DE) (fb:BE):DE:=fun δ=>(fa δ).bind fun x δ1=>(fb δ1).bind fun y δ2=>p2 p x.d y δ2
def eOpN (p:D→D→Option S) (i:Nat) (fb:BE):DE:=fun δ=>(fb δ).bind fun y δ1=>(bVar i δ1).bind fun x δ2=>p2 p x y δ2
def Op2 (r:R2) (p:D→D→Option S):Prop:=∀ (c:Fc) (σ:St) (δ:Dl) (H:Hp) (x y:V) (d e:D) (s:S) (Q:VK),Ok c σ δ H→RepB c σ δ H x d→RepB c σ δ H y e→p d e=some s →
 (∀ v H',Aft c σ δ H σ δ H'→RepS c σ δ H H' v s→Q v H')→r x y H Q
theorem RepB.aft (h:Rep H (Av c σ δ) v d) (x:Aft c σ δ H σ δ' H'):RepB c σ δ' H' v d:=.inl (Rep.aft h x)
section
variable {X:Cx} {c:Fc} {a b:Expr} {fa:DE} {fb:BE} {r:R2} {p:D→D→Option S} {pos:Pos}
theorem z6U (hp:Op2 r p) (k:Ok c σ δ H) (rx:RepB c σ δ H x d) (ry:RepB c σ δ H y e)
  (h:post c (p2 p d e δ) fun s δ'=>∀ v H',Aft c σ δ H σ δ' H'→RepS c σ δ' H H' v s→Q v H'):r x y H Q:=by
 unfold p2 at h
 cases e1:p d e with
 | none=>rw [e1] at h; exact h.elim
 | some s=>rw [e1] at h; exact hp c σ δ H x y d e s Q k rx ry e1 h
theorem z5D (hp:Op2 r p) (h:tD c (eOp p fa fb) σ H Q):tOp r (tD c fa) (tB c fb) σ H Q:=by
 obtain ⟨δ,k,q⟩:=h
 refine ⟨δ,k,?_⟩
 unfold eOp at q
 rw [z04] at q
 refine z01 q fun x δ1 q1 v H1 a1 r1=>⟨δ1,a1.ok,?_⟩
 rw [z04] at q1
 refine z01 q1 fun y δ2 q2 u H2 a2 r2=>?_
 exact z6U hp a2.ok (.inl (Rep.aft r1.rep a2)) r2 (z01 q2 fun s δ3 q3 v' H3 a3 r3=>q3 v' H3 (a1.trans (a2.trans a3)) (RepS.back r3 (a1.trans a2)))
theorem zah (hp:Op2 r p) (h:tD c (eOpN p i fb) σ H Q) (hv:∀ δ,Ok c σ δ H→post c (fb δ) (fun _ _=>True)→∃ v,σ[i]? = some (some v)):tOp r (tVar i) (tB c fb) σ H Q:=by
 obtain ⟨δ,k,q⟩:=h
 unfold eOpN at q
 rw [z04] at q
 obtain ⟨v,ev⟩:=hv δ k (z01 q fun _ _ _=>trivial)
 refine ⟨v,ev,δ,k,z01 q fun y δ1 q1 u H1 a1 r1=>?_⟩
 rw [z04] at q1
 unfold bVar at q1
 cases e:δ1[i]? with
 | none=>rw [e] at q1; exact q1.elim
 | some o =>
  cases o with
  | none=>rw [e] at q1; exact q1.elim
  | some w =>
   rw [e] at q1
   have q1':post c (p2 p w.d y δ1) fun s δ'=>∀ v H',Aft c σ δ H σ δ' H'→RepS c σ δ' H H' v s→Q v H':=q1
   have rb:RepB c σ δ1 H1 v w.d:=by
    cases w with
    | pure d =>
     obtain ⟨v',e1,r⟩:=a1.ok.slot i d e
     rw [ev] at e1; cases e1
     exact .inl r
    | own d =>
     obtain ⟨a,e1,r,_⟩:=a1.ok.own i d e
     rw [ev] at e1; cases e1
     exact .inr ⟨a,rfl,r⟩
   exact z6U hp a1.ok rb r1 (z01 q1' fun s δ3 q3 v' H3 a3 r3=>q3 v' H3 (a1.trans a3) (RepS.back r3 a1))
theorem z2e {i:Nat} {σ:St} {δ:Dl} {H:Hp} (k:Ok c σ δ H) {w:S} (e:δ[i]? = some (some w)):∃ v,σ[i]? = some (some v):=by
 cases w with
 | pure d=>obtain ⟨v,e1,_⟩:=k.slot i d e; exact ⟨v,e1⟩
 | own d=>obtain ⟨a,e1,_⟩:=k.own i d e; exact ⟨_,e1⟩
end
def eOpF (p:D→D→Option S) (i:Nat) (fb:BE):DE:=fun δ=>match δ[i]? with
 | some (some _)=>eOpN p i fb δ
 | _=>.stuck
section
variable {X:Cx} {c:Fc} {a b:Expr} {fa:DE} {fb:BE} {r:R2} {p:D→D→Option S} {pos:Pos}
theorem z4f (hp:Op2 r p) {i:Nat} {σ:St} {H:Hp} {Q:VK} (h:tD c (eOpF p i fb) σ H Q):tOp r (tVar i) (tB c fb) σ H Q:=by
 obtain ⟨δ,k,q⟩:=h
 unfold eOpF at q
 cases e:δ[i]? with
 | none=>rw [e] at q; exact q.elim
 | some o =>
  cases o with
  | none=>rw [e] at q; exact q.elim
  | some w =>
   rw [e] at q
   obtain ⟨v,ev⟩:=z2e k e
   exact zah hp (i:=i) ⟨δ,k,q⟩ fun _ _ _=>⟨v,ev⟩
theorem z1B {op:Operator} (ho:OpR X (Q1 op) r) (hp:Op2 r p) (ha:SE X c a fa) (hb:SB X c b fb):SE X c (.BinOp a op b pos) (eOp p fa fb):=PE.weak (zd9 ho ha hb) fun _ _ _ h=>z5D hp h
theorem z2X {op:Operator} {i:Nat} (ho:OpR X (Q1 op) r) (hp:Op2 r p) (ha:PE X a (tVar i)) (hb:SB X c b fb):SE X c (.BinOp a op b pos) (eOpF p i fb):=PE.weak (zd9 ho ha hb) fun _ _ _ h=>z4f hp h
theorem zcH {op:CmpOp} (ho:OpR X (Ww op) r) (hp:Op2 r p) (ha:SE X c a fa) (hb:SB X c b fb) (hm:Q6 op b=false):SE X c (.Compare a [op] [b] pos) (eOp p fa fb):=PE.weak (z8Q ho ha hb hm) fun _ _ _ h=>z5D hp h
theorem z6Q {op:CmpOp} {i:Nat} (ho:OpR X (Ww op) r) (hp:Op2 r p) (ha:PE X a (tVar i)) (hb:SB X c b fb) (hm:Q6 op b=false):SE X c (.Compare a [op] [b] pos) (eOpF p i fb):=PE.weak (z8Q ho ha hb hm) fun _ _ _ h=>z4f hp h
theorem z7O (hr:IxR X r) (hp:Op2 r p) (ha:SE X c a fa) (hb:SB X c b fb) (hs:z7d b):SE X c (.Subscript a b pos) (eOp p fa fb):=PE.weak (zde hr ha hb hs) fun _ _ _ h=>z5D hp h
theorem z0i {i:Nat} (hr:IxR X r) (hp:Op2 r p) (ha:PE X a (tVar i)) (hb:SB X c b fb) (hs:z7d b):SE X c (.Subscript a b pos) (eOpF p i fb):=PE.weak (zde hr ha hb hs) fun _ _ _ h=>z4f hp h
end
abbrev DT:=Dl→Rs Bool
def tT (c:Fc) (f:DT):TT:=fun σ H Q=>∃ δ,Ok c σ δ H∧post c (f δ) fun b δ'=>∀ H',Aft c σ δ H σ δ' H'→Q b H'
abbrev ST (X:Cx) (c:Fc) (e:Expr) (f:DT):Prop:=PT X e (tT c f)
theorem PT.weak (h:PT X e t) (w:∀ σ H Q,t' σ H Q→t σ H Q):PT X e t':=fun pins s σ H Q I q=>h pins s σ H Q I (w σ H Q q)
def dTr (f:DE):DT:=fun δ=>(f δ).bind fun r δ'=>match r with
 | .pure (.bl b)=>.ok b δ'
 | _=>.stuck
section
variable {X:Cx} {c:Fc} {a b:Expr} {fa f:DE} {fb:BE} {r:R2} {p:D→D→Option S} {pos:Pos}
theorem z6N (h:tT c (dTr f) σ H Q):tD c f σ H fun x H'=>∃ k,x = .bl k∧Q k H':=by
 obtain ⟨δ,k,q⟩:=h
 refine ⟨δ,k,?_⟩
 unfold dTr at q
 rw [z04] at q
 refine z01 q fun r δ1 q1 v H1 a1 r1=>?_
 cases r with
 | own d=>exact q1.elim
 | pure d =>
  cases d <;> first | exact q1.elim | skip
  rename_i b
  cases r1
  exact ⟨b,rfl,q1 H1 a1⟩
theorem z3S {op:CmpOp} (ho:OpR X (Ww op) r) (hp:Op2 r p) (ha:SE X c a fa) (hb:SB X c b fb) (hm:Q6 op b=false):ST X c (.Compare a [op] [b] pos) (dTr (eOp p fa fb)) :=
 PT.weak (z8I ho ha hb hm) fun σ H Q h=>z5D hp (z6N h)
theorem z4n {op:CmpOp} {i:Nat} (ho:OpR X (Ww op) r) (hp:Op2 r p) (ha:PE X a (tVar i)) (hb:SB X c b fb) (hm:Q6 op b=false):ST X c (.Compare a [op] [b] pos) (dTr (eOpF p i fb)) :=
 PT.weak (z8I ho ha hb hm) fun σ H Q h=>z4f hp (z6N h)
theorem z3b {e:Expr} (h:SE X c e f) (he:∀ whole,isTrue e X.env whole=(do let v ← whole; standAt e.pos; holding [v] (truthy v)):=by intro _; rfl):ST X c e (dTr f) :=
 PT.weak (zd1 h he) fun σ H Q h=>z6N h
def dAnd (t u:DT):DT:=fun δ=>(t δ).bind fun b δ1=>if b then u δ1 else .ok false δ1
def dOr (t u:DT):DT:=fun δ=>(t δ).bind fun b δ1=>if b then .ok true δ1 else u δ1
def dNot (t:DT):DT:=fun δ=>(t δ).bind fun b δ1=>.ok (!b) δ1
abbrev SW (X:Cx) (c:Fc) (e:Expr) (f:DT):Prop:=PW X e (tT c f)
theorem PW.weak (h:PW X e t) (w:∀ σ H Q,t' σ H Q→t σ H Q):PW X e t':=fun wh pins s σ H Q I q=>h wh pins s σ H Q I (w σ H Q q)
variable {t u:DT} {rest:List Expr}
theorem zbw (ha:ST X c a t):SW X c (.BoolOp .And [a] pos) t:=zbO ha
theorem z5Z (ha:ST X c a t):SW X c (.BoolOp .Or [a] pos) t:=zcZ ha
theorem zcz (ha:ST X c a t) (hb:SW X c (.BoolOp .And (b :: rest) pos) u):SW X c (.BoolOp .And (a :: b :: rest) pos) (dAnd t u):=PW.weak (zd0 ha hb) fun σ H Q ⟨δ,k,q⟩=>by
 unfold dAnd at q
 rw [z04] at q
 refine ⟨δ,k,z01 q fun x δ1 q1 H1 a1=>?_⟩
 cases x with
 | true=>exact ⟨δ1,a1.ok,z01 q1 fun y δ2 q2 H2 a2=>q2 H2 (a1.trans a2)⟩
 | false=>exact q1 H1 a1
theorem z8l (ha:ST X c a t) (hb:SW X c (.BoolOp .Or (b :: rest) pos) u):SW X c (.BoolOp .Or (a :: b :: rest) pos) (dOr t u):=PW.weak (pw_or ha hb) fun σ H Q ⟨δ,k,q⟩=>by
 unfold dOr at q
 rw [z04] at q
 refine ⟨δ,k,z01 q fun x δ1 q1 H1 a1=>?_⟩
 cases x with
 | false=>exact ⟨δ1,a1.ok,z01 q1 fun y δ2 q2 H2 a2=>q2 H2 (a1.trans a2)⟩
 | true=>exact q1 H1 a1
theorem z7M (h:SW X c a t):ST X c a t:=PW.pt h
theorem z3c (ha:ST X c a t):ST X c (.UnaryOp .Not a pos) (dNot t):=PT.weak (zd2 ha) fun σ H Q ⟨δ,k,q⟩=>by
 unfold dNot at q
 rw [z04] at q
 exact ⟨δ,k,q⟩
def eAnd (f g:DE):DE:=fun δ=>(f δ).bind fun r δ1=>match r with
 | .pure (.bl true)=>g δ1
 | .pure (.bl false)=>.ok (.pure (.bl false)) δ1
 | _=>.stuck
def eNot (f:DE):DE:=fun δ=>(f δ).bind fun r δ1=>match r with
 | .pure (.bl b)=>.ok (.pure (.bl (!b))) δ1
 | _=>.stuck
def eIf (t:DT) (f g:DE):DE:=fun δ=>(t δ).bind fun b δ1=>if b then f δ1 else g δ1
variable {g:DE}
theorem zaS {op} (h:SE X c a f):SE X c (.BoolOp op [a] pos) f:=zda h
theorem z8s (ha:SE X c a f) (hb:SE X c (.BoolOp .And (b :: rest) pos) g):SE X c (.BoolOp .And (a :: b :: rest) pos) (eAnd f g):=PE.weak (zdh ha hb) fun σ H Q ⟨δ,k,q⟩=>by
 unfold eAnd at q
 rw [z04] at q
 refine ⟨δ,k,z01 q fun r δ1 q1 v H1 a1 r1=>?_⟩
 cases r with
 | own d=>exact q1.elim
 | pure d =>
  cases d <;> first | exact q1.elim | skip
  rename_i b
  cases r1
  refine ⟨b,rfl,?_⟩
  cases b with
  | true=>exact ⟨δ1,a1.ok,z01 q1 fun y δ2 q2 v H2 a2 r2=>q2 v H2 (a1.trans a2) (RepS.back r2 a1)⟩
  | false=>exact q1 _ H1 a1 (.bl false)
theorem zcC (ha:SE X c a f):SE X c (.UnaryOp .Not a pos) (eNot f):=PE.weak (zdb ha) fun σ H Q ⟨δ,k,q⟩=>by
 unfold eNot at q
 rw [z04] at q
 refine ⟨δ,k,z01 q fun r δ1 q1 v H1 a1 r1=>?_⟩
 cases r with
 | own d=>exact q1.elim
 | pure d =>
  cases d <;> first | exact q1.elim | skip
  rename_i b
  cases r1
  exact ⟨b,rfl,q1 _ H1 a1 (.bl _)⟩
end
section
variable {c:Fc} {σ:St} {δ:Dl} {H:Hp} {x:V}
theorem RepB.int (h:RepB c σ δ H x (.int i)):x = .int i:=by
 rcases h with h | ⟨_,_,h⟩
 ·cases h; rfl
 ·exact h.elim
theorem RepB.bl (h:RepB c σ δ H x (.bl b)):x = .bl b:=by
 rcases h with h | ⟨_,_,h⟩
 ·cases h; rfl
 ·exact h.elim
theorem RepB.non (h:RepB c σ δ H x .non):x = .non:=by
 rcases h with h | ⟨_,_,h⟩
 ·cases h; rfl
 ·exact h.elim
theorem RepB.str (h:RepB c σ δ H x (.str z)):x = .str (toS z):=by
 rcases h with h | ⟨_,_,h⟩
 ·cases h; rfl
 ·exact h.elim
theorem RepB.tup (h:RepB c σ δ H x (.tup ds)):∃ a vs,x = .ref a∧H a=some (.tup vs)∧Reps H (Av c σ δ) vs ds:=by
 rcases h with h | ⟨_,_,h⟩
 ·cases h with
  | tup h1 h2 h3 h4=>exact ⟨_,_,rfl,h2,h3,h4⟩
 ·exact h.elim
theorem RepB.lst (h:RepB c σ δ H x (.lst ds)):∃ a vs,x = .ref a∧Rd H a (.lst vs)∧Reps H (Av c σ δ) vs ds:=by
 rcases h with h | ⟨a,e,h⟩
 ·cases h with
  | lst h1 h2 h3 h4=>exact ⟨_,_,rfl,h2,h3,h4⟩
 ·obtain ⟨vs,h1,h2⟩:=h
  exact ⟨a,vs,e,.inl h1,h2⟩
theorem RepB.dct (h:RepB c σ δ H x (.dct ds)):∃ a ws,x = .ref a∧H a=some (.dK ws)∧ws.map (·.1)=ds.map (fun p=>kOf p.1)∧∀ (i:Nat) p q,ws[i]? = some p→ds[i]? = some q→Rep H (Av c σ δ) p.2 q.2:=by
 rcases h with h | ⟨a,e,h⟩
 ·cases h with
  | dct h1 h2 h3 h4=>exact ⟨_,_,rfl,h2,h3,h4⟩
 ·obtain ⟨ws,h1,h2,h3⟩:=h
  exact ⟨a,ws,e,h1,h2,h3⟩
end
theorem z55 (h:z.length≤W6):(toS z).length≤W6:=by rw [z1V]; exact h
theorem zbr (x y:Tx):toS x ++ toS y=toS (x ++ y):=by
 show Str.append (toS x) (toS y)=_
 simp [toS,Str.append]
def pAdd:D→D→Option S
 | .int i,.int j=>some (.pure (.int (i + j)))
 | .str x,.str y=>if x.length + y.length≤W6 then some (.pure (.str (x ++ y))) else none
 | .tup xs,.tup ys=>if xs.length + ys.length≤W6 then some (.pure (.tup (xs ++ ys))) else none
 | .lst xs,.lst ys=>if xs.length + ys.length≤W6 then some (.own (.lst (xs ++ ys))) else none
 | _,_=>none
def zcY (K:W0):R2:=fun x y H Q=>rI0 (fun i j=>V.int (i + j)) x y H Q∨(∃ i j,x = .str i∧y = .str j∧i.length + j.length≤W6∧Q (.str (i ++ j)) H) ∨
 (∃ a b ys,x = .ref a∧y = .ref b∧SqT K H a []∧SqT K H b ys∧Q (.ref b) H)∨zcW K x y H Q∨zcX K x y H Q
theorem z10:OpR X (Q1 .Add) (zcY X.K):=op_add.or (op_add_str.or (op_catT0.or (op_catT.or zc1)))
theorem z1q {K:W0}:Op2 (zcY K) pAdd:=by
 intro c σ δ H x y d e s Q k rx ry hp q
 cases d <;> cases e <;> first
  | (simp [pAdd] at hp; done)
  | skip
 ·rename_i i j
  simp only [pAdd,W8] at hp
  subst hp
  exact .inl ⟨i,j,rx.int,ry.int,q _ H (.refl k) (.int _)⟩
 ·rename_i u w
  simp only [pAdd] at hp
  split at hp
  ·rename_i hz
   simp only [W8] at hp
   subst hp
   refine .inr (.inl ⟨toS u,toS w,rx.str,ry.str,by rw [z1V,z1V]; exact hz,?_⟩)
   rw [zbr]
   exact q _ H (.refl k) (.str _)
  ·cases hp
 ·rename_i us ws
  simp only [pAdd] at hp
  split at hp
  ·rename_i hz
   simp only [W8] at hp
   subst hp
   obtain ⟨a,vs,ea,ha,ra⟩:=rx.tup
   obtain ⟨b,zs,eb,hb,rb⟩:=ry.tup
   cases vs with
   | nil =>
    have:us=[]:=by have:=ra.1; simpa using this.symm
    subst this
    refine .inr (.inr (.inl ⟨a,b,zs,ea,eb,.of ha,.of hb,?_⟩))
    rw [eb] at ry
    rcases ry with ry | ⟨_,_,ry⟩
    ·exact q _ H (.refl k) ry
    ·exact ry.elim
   | cons v0 vr =>
    refine .inr (.inr (.inr (.inl ⟨a,b,_,zs,ea,eb,.of ha,.of hb,by simp,by rw [ra.1,rb.1]; exact hz,fun e0=>?_,fun _ p hp=>?_⟩)))
    ·subst e0
     have:ws=[]:=by have:=rb.1; simpa using this.symm
     subst this
     rw [ea] at rx
     rcases rx with rx | ⟨_,_,rx⟩
     ·rw [WH] at q
      exact q _ H (.refl k) rx
     ·exact rx.elim
    ·exact q _ _ (.alloc k hp _) (RepS.newT k (ra.append rb) hp)
  ·cases hp
 ·rename_i us ws
  simp only [pAdd] at hp
  split at hp
  ·rename_i hz
   simp only [W8] at hp
   subst hp
   obtain ⟨a,vs,ea,ha,ra⟩:=rx.lst
   obtain ⟨b,zs,eb,hb,rb⟩:=ry.lst
   exact .inr (.inr (.inr (.inr ⟨a,b,vs,zs,ea,eb,.inl ha,.inl hb,by rw [ra.1,rb.1]; exact hz,fun p hp=>q _ _ (.alloc k hp _) (RepS.newL k (ra.append rb) hp)⟩)))
  ·cases hp
def pII (C:Int→Int→Bool) (g:Int→Int→D):D→D→Option S
 | .int i,.int j=>if C i j then some (.pure (g i j)) else none
 | _,_=>none
theorem zaj (hC:∀ i j,C' i j=true→C i j) (hg:∀ i j H O,Rep H O (g i j) (g' i j)):Op2 (rI C g) (pII C' g'):=by
 intro c σ δ H x y d e s Q k rx ry hp q
 cases d <;> cases e <;> first
  | (simp [pII] at hp; done)
  | skip
 rename_i i j
 simp only [pII] at hp
 split at hp
 ·rename_i hc
  simp only [W8] at hp
  subst hp
  exact ⟨i,j,rx.int,ry.int,hC i j hc,q _ H (.refl k) (hg i j H _)⟩
 ·cases hp
theorem zdq (hg:∀ i j H O,Rep H O (g i j) (g' i j)):Op2 (rI0 g) (pII (fun _ _=>true) g'):=by
 intro c σ δ H x y d e s Q k rx ry hp q
 cases d <;> cases e <;> first
  | (simp [pII] at hp; done)
  | skip
 rename_i i j
 simp only [pII,if_true,W8] at hp
 subst hp
 exact ⟨i,j,rx.int,ry.int,q _ H (.refl k) (hg i j H _)⟩
def pSub:=pII (fun _ _=>true) fun i j=>.int (i - j)
theorem z94:Op2 (rI0 fun i j=>V.int (i - j)) pSub:=zdq fun _ _ _ _=>.int _
def cMul (i j:Int):Bool:=(decide (-(2 ^ 64) < i) && decide (i < 2 ^ 64)) || (decide (-(2 ^ 64) < j) && decide (j < 2 ^ 64))
def pMul:=pII cMul fun i j=>.int (i * j)
theorem zdp:Op2 (rI CMul fun i j=>V.int (i * j)) pMul:=zaj (fun i j h=>by
 unfold cMul at h
 simp only [Bool.or_eq_true,Wg,decide_eq_true_eq] at h
 exact h) fun _ _ _ _=>.int _
def cDiv (_ j:Int):Bool:=decide (0 < j) && decide (j < 1073741824)
def pDiv:=pII cDiv fun i j=>.int (i / j)
theorem zb4:Op2 (rI CDiv fun i j=>V.int (i / j)) pDiv:=zaj (fun i j h=>by
 unfold cDiv at h
 simp only [Wg,decide_eq_true_eq] at h
 exact h) fun _ _ _ _=>.int _
def pMod:=pII (fun _ j=>decide (0 < j)) fun i j=>.int (i % j)
theorem z4E:Op2 (rI (fun _ j=>0 < j) fun i j=>V.int (i % j)) pMod:=zaj (fun i j h=>by simpa using h) fun _ _ _ _=>.int _
def cPow (i j:Int):Bool:=decide (0≤j) && decide (j≤1000000) && decide (i.natAbs < 2 ^ 64)
def pPow:=pII cPow fun i j=>.int (i ^ j.toNat)
theorem zb3:Op2 (rI CPow fun i j=>V.int (i ^ j.toNat)) pPow:=zaj (fun i j h=>by
 unfold cPow at h
 simp only [Wg,decide_eq_true_eq] at h
 exact ⟨h.1.1,h.1.2,h.2⟩) fun _ _ _ _=>.int _
def pEq (d e:D):Option S:=if flat 50 d && flat 50 e then some (.pure (.bl (eqD d e))) else none
def pNe (d e:D):Option S:=if flat 50 d && flat 50 e then some (.pure (.bl (!eqD d e))) else none
theorem z6i:Op2 rEqD pEq:=by
 intro c σ δ H x y d e s Q k rx ry hp q
 unfold pEq at hp
 split at hp
 ·rename_i hf
  rw [Wg] at hf
  simp only [W8] at hp
  subst hp
  exact ⟨d,e,rx.un,ry.un,hf.1,hf.2,q _ H (.refl k) (.bl _)⟩
 ·cases hp
theorem zc3:Op2 rNeD pNe:=by
 intro c σ δ H x y d e s Q k rx ry hp q
 unfold pNe at hp
 split at hp
 ·rename_i hf
  rw [Wg] at hf
  simp only [W8] at hp
  subst hp
  exact ⟨d,e,rx.un,ry.un,hf.1,hf.2,q _ H (.refl k) (.bl _)⟩
 ·cases hp
def pCmp (f:Int→Int→Bool) (g:Tx→Tx→Bool):D→D→Option S
 | .int i,.int j=>some (.pure (.bl (f i j)))
 | .str x,.str y=>some (.pure (.bl (g x y)))
 | _,_=>none
def rCmp (f:Int→Int→Bool) (g:List Nat→List Nat→Bool):R2:=fun x y H Q=>rI0 (fun i j=>V.bl (f i j)) x y H Q∨∃ i j,x = .str i∧y = .str j∧Q (.bl (g i.cps.toList j.cps.toList)) H
theorem z6j:Op2 (rCmp f g) (pCmp f g):=by
 intro c σ δ H x y d e s Q k rx ry hp q
 cases d <;> cases e <;> first
  | (simp [pCmp] at hp; done)
  | skip
 ·rename_i i j
  simp only [pCmp,W8] at hp
  subst hp
  exact .inl ⟨i,j,rx.int,ry.int,q _ H (.refl k) (.bl _)⟩
 ·rename_i i j
  simp only [pCmp,W8] at hp
  subst hp
  refine .inr ⟨toS i,toS j,rx.str,ry.str,?_⟩
  rw [z3D,z3D]
  exact q _ H (.refl k) (.bl _)
theorem z6W {X:Cx} {op:CmpOp} {g:List Nat→List Nat→Bool} (rule:∀ (i j:Str) (t u:Tok) (Q:Value→W1→Prop) (s:W1),Q (.bool (g i.cps.toList j.cps.toList)) s→Wa (model X.prog X.w) X.A (Ww op (.str i t) (.str j u)) Q X.xe s) :
  OpR X (Ww op) (fun x y H Q=>∃ i j,x = .str i∧y = .str j∧Q (.bl (g i.cps.toList j.cps.toList)) H):=by
 intro pins s σ H x y v u Q I rx ry h
 obtain ⟨i,j,rfl,rfl,q⟩:=h
 obtain ⟨t,rfl⟩:=rx
 obtain ⟨t',rfl⟩:=ry
 exact rule i j t t' _ s ⟨.bl _,H,I,rfl,q⟩
def pLt:=pCmp (fun i j=>decide (i < j)) fun x y=>decide (x < y)
theorem zdl:OpR X (Ww .Lt) (rCmp (fun i j=>decide (i < j)) fun x y=>decide (x < y)):=op_lt.or z91
theorem o2_lt:Op2 (rCmp (fun i j=>decide (i < j)) fun x y=>decide (x < y)) pLt:=z6j
def pIx:D→D→Option S
 | .lst ds,.int i=>(atI ds i).map .pure
 | .tup ds,.int i=>(atI ds i).map .pure
 | .str x,.int i=>if x.length≤W6 then (atI x i).map fun n=>.pure (.str [n]) else none
 | _,_=>none
theorem z7m (r:Reps H O vs ds) (h:atI ds i=some d):∃ v,atI vs i=some v∧Rep H O v d:=by
 unfold atI at h ⊢
 rw [r.1]
 cases e:ixN ds.length i with
 | none=>rw [e] at h; cases h
 | some j =>
  rw [e] at h
  exact r.get h
theorem z0E {K:W0}:Op2 (rIx K) pIx:=by
 intro c σ δ H x y d e s Q k rx ry hp q
 cases d <;> cases e <;> first
  | (simp [pIx] at hp; done)
  | skip
 ·rename_i z i
  simp only [pIx] at hp
  split at hp
  ·rename_i hz
   cases e1:atI z i with
   | none=>rw [e1] at hp; cases hp
   | some n =>
    rw [e1] at hp
    simp only [WI,W8] at hp
    subst hp
    refine .inr (.inr ⟨toS z,i,n,rx.str,ry.int,z55 hz,by rw [z3D]; exact e1,?_⟩)
    exact q (.str (toS [n])) H (.refl k) (.str [n])
  ·cases hp
 ·rename_i ds i
  simp only [pIx] at hp
  cases e1:atI ds i with
  | none=>rw [e1] at hp; cases hp
  | some n =>
   rw [e1] at hp
   simp only [WI,W8] at hp
   subst hp
   obtain ⟨a,vs,ea,ha,ra⟩:=rx.tup
   obtain ⟨v,e2,r2⟩:=z7m ra e1
   exact .inr (.inl ⟨a,vs,i,v,ea,ry.int,.of ha,e2,q v H (.refl k) r2⟩)
 ·rename_i ds i
  simp only [pIx] at hp
  cases e1:atI ds i with
  | none=>rw [e1] at hp; cases hp
  | some n =>
   rw [e1] at hp
   simp only [WI,W8] at hp
   subst hp
   obtain ⟨a,vs,ea,ha,ra⟩:=rx.lst
   obtain ⟨v,e2,r2⟩:=z7m ra e1
   exact .inl ⟨a,vs,i,v,ea,ry.int,.inl ha,e2,q v H (.refl k) r2⟩
def pLe:=pCmp (fun i j=>decide (i≤j)) fun x y=>!decide (y < x)
def pGt:=pCmp (fun i j=>decide (j < i)) fun x y=>decide (y < x)
def pGe:=pCmp (fun i j=>decide (j≤i)) fun x y=>!decide (x < y)
theorem zb2:OpR X (Ww .LtE) (rCmp (fun i j=>decide (i≤j)) fun x y=>!decide (y < x)):=op_le.or (z6W (g:=fun x y=>!decide (y < x)) fun _ _ _ _ _ _ h=>PySem.P.le_str h)
theorem zdm:OpR X (Ww .Gt) (rCmp (fun i j=>decide (j < i)) fun x y=>decide (y < x)):=op_gt.or (z6W (g:=fun x y=>decide (y < x)) fun _ _ _ _ _ _ h=>PySem.P.gt_str h)
theorem zdn:OpR X (Ww .GtE) (rCmp (fun i j=>decide (j≤i)) fun x y=>!decide (x < y)):=op_ge.or (z6W (g:=fun x y=>!decide (x < y)) fun _ _ _ _ _ _ h=>PySem.P.ge_str h)
abbrev DA:=Dl→Rs (List D)
def tAD (c:Fc) (f:DA):TA:=fun σ H Q=>∃ δ,Ok c σ δ H∧post c (f δ) fun ds δ'=>∀ vs H',Aft c σ δ H σ δ' H'→Reps H' (Av c σ δ') vs ds→Q vs H'
structure SA (X:Cx) (c:Fc) (es:List Expr) (f:DA):Prop where
 pa:PA X es (tAD c f)
 len:∀ δ ds δ',f δ = .ok ds δ'→ds.length=es.length
theorem PA.weak (h:PA X es t) (w:∀ σ H Q,t' σ H Q→t σ H Q):PA X es t':=fun pos pins s σ H Q I q=>h pos pins s σ H Q I (w σ H Q q)
def aNil:DA:=fun δ=>.ok [] δ
def z00 (f:DE) (g:DA):DA:=fun δ=>(f δ).bind fun x δ1=>(g δ1).bind fun xs δ2=>.ok (x.d :: xs) δ2
section
variable {X:Cx} {c:Fc} {e:Expr} {es:List Expr} {f:DE} {g:DA} {pos:Pos}
theorem z0G:SA X c [] aNil:=⟨PA.weak z1S fun σ H Q ⟨δ,k,q⟩=>q [] H (.refl k) .nil,fun δ ds δ' h=>by cases h; rfl⟩
theorem z8u (ha:SE X c e f) (hr:SA X c es g) (hs:W5 (e :: es) X.env=(false,eval e X.env) :: W5 es X.env:=by rfl):SA X c (e :: es) (z00 f g):=by
 refine ⟨PA.weak (z0X ha hr.pa hs) fun σ H Q ⟨δ,k,q⟩=>?_,fun δ ds δ' h=>?_⟩
 ·unfold z00 at q
  rw [z04] at q
  refine ⟨δ,k,z01 q fun x δ1 q1 v H1 a1 r1=>⟨δ1,a1.ok,?_⟩⟩
  rw [z04] at q1
  exact z01 q1 fun xs δ2 q2 vs H2 a2 r2=>q2 (v :: vs) H2 (a1.trans a2) (.cons (Rep.aft r1.rep a2) r2)
 ·unfold z00 at h
  cases h1:f δ with
  | ok x δ1 =>
   rw [h1] at h
   cases h2:g δ1 with
   | ok xs δ2 =>
    simp only [Rs.bind,h2] at h
    cases h
    simp [hr.len _ _ _ h2]
   | exc x δx=>simp only [Rs.bind,h2] at h; cases h
   | stuck=>simp only [Rs.bind,h2] at h; cases h
  | exc x δx=>rw [h1] at h; cases h
  | stuck=>rw [h1] at h; cases h
def eTup (f:DA):DE:=fun δ=>(f δ).bind fun ds δ'=>.ok (.pure (.tup ds)) δ'
def eLst (f:DA):DE:=fun δ=>(f δ).bind fun ds δ'=>.ok (.own (.lst ds)) δ'
theorem z58 (h:n≤1000):n≤W6:=Jg (z8p h)
theorem z6c (h:post c r k):post c r fun a δ=>r = .ok a δ∧k a δ:=by
 cases r with
 | ok a δ=>exact ⟨rfl,h⟩
 | exc x δx=>exact h
 | stuck=>exact h
theorem z1d {x1} (h:SA X c es g) (hz:es.length≤1000:=by decide):SE X c (.Tuple es x1 pos) (eTup g):=PE.weak (zd8 h.pa) fun σ H Q ⟨δ,k,q⟩=>by
 unfold eTup at q
 rw [z04] at q
 refine ⟨δ,k,z01 (z6c q) fun ds δ1 ⟨e1,q1⟩ vs H1 a1 r1=>?_⟩
 have hl:=h.len _ _ _ e1
 exact ⟨by rw [r1.1,hl]; exact z58 hz,fun p hp=>q1 _ _ (a1.trans (.alloc a1.ok hp _)) (RepS.back (RepS.newT a1.ok r1 hp) a1)⟩
theorem z1R (h:SA X c es g) (hz:es.length≤1000:=by decide):SE X c (.List es pos) (eLst g):=PE.weak (zdd h.pa) fun σ H Q ⟨δ,k,q⟩=>by
 unfold eLst at q
 rw [z04] at q
 refine ⟨δ,k,z01 (z6c q) fun ds δ1 ⟨e1,q1⟩ vs H1 a1 r1=>?_⟩
 have hl:=h.len _ _ _ e1
 exact ⟨by rw [r1.1,hl]; exact z58 hz,fun p hp=>q1 _ _ (a1.trans (.alloc a1.ok hp _)) (RepS.back (RepS.newL a1.ok r1 hp) a1)⟩
end
def p1 (p:D→Option S) (x:D) (δ:Dl):Rs S:=match p x with
 | some s=>.ok s δ
 | none=>.stuck
def eC1 (p:D→Option S) (fb:BE):DE:=fun δ=>(fb δ).bind fun x δ1=>p1 p x δ1
def Op1 (r:V→Hp→VK→Prop) (p:D→Option S):Prop:=∀ (c:Fc) (σ:St) (δ:Dl) (H:Hp) (x:V) (d:D) (s:S) (Q:VK),Ok c σ δ H→RepB c σ δ H x d→p d=some s →
 (∀ v H',Aft c σ δ H σ δ H'→RepS c σ δ H H' v s→Q v H')→r x H Q
section
variable {X:Cx} {c:Fc} {e:Expr} {fb:BE} {r:V→Hp→VK→Prop} {p:D→Option S} {x:Str} {id T:String} {pp pos:Pos}
theorem z6V (hp:Op1 r p) (k:Ok c σ δ H) (rx:RepB c σ δ H v d)
  (h:post c (p1 p d δ) fun s δ'=>∀ v H',Aft c σ δ H σ δ' H'→RepS c σ δ' H H' v s→Q v H'):r v H Q:=by
 unfold p1 at h
 cases e1:p d with
 | none=>rw [e1] at h; exact h.elim
 | some s=>rw [e1] at h; exact hp c σ δ H v d s Q k rx e1 h
theorem z3C (hp:Op1 r p) (h:tD c (eC1 p fb) σ H Q):tUn r (tB c fb) σ H Q:=by
 obtain ⟨δ,k,q⟩:=h
 unfold eC1 at q
 rw [z04] at q
 exact ⟨δ,k,z01 q fun y δ1 q1 v H1 a1 r1=>z6V hp a1.ok r1 (z01 q1 fun s δ2 q2 w H2 a2 r2=>q2 w H2 (a1.trans a2) (RepS.back r2 a1))⟩
theorem z4e (hc:CallR X (.builtin id) rl) (hl:∀ v H Q,r v H Q→rl [v] H Q) (hp:Op1 r p) (hg:Gl X x) (hm:X.mg x=none) (hv:WW x=some (.builtin id)) (he:SB X c e fb)
  (hn:x≠"__name__":=by decide) (hdb:(x == ("__debug__" : Str))=false:=by decide) (hs:W5 [e] X.env=(false,eval e X.env) :: W5 [] X.env:=by rfl) (hpl:(WK pos (W5 [] X.env)).any (·.1)=false:=by rfl) :
  SE X c (.Call (.Name x pp) [e] [] pos) (eC1 p fb):=PE.weak (z3i hc hg hm hv (z0X he z1S hs) hn hdb hs hpl) fun σ H Q h=>by
 obtain ⟨δ,k,q⟩:=z3C hp h
 exact ⟨δ,k,z01 q fun y δ1 q1 v H1 a1 r1=>hl _ _ _ (q1 v H1 a1 r1)⟩
theorem z4q (hc:CallR X (.type T) rl) (hl:∀ v H Q,r v H Q→rl [v] H Q) (hp:Op1 r p) (hg:Gl X x) (hm:X.mg x=none) (hv:WW x=some (.type T)) (he:SB X c e fb)
  (hn:x≠"__name__":=by decide) (hdb:(x == ("__debug__" : Str))=false:=by decide) (hs:W5 [e] X.env=(false,eval e X.env) :: W5 [] X.env:=by rfl) (hpl:(WK pos (W5 [] X.env)).any (·.1)=false:=by rfl) :
  SE X c (.Call (.Name x pp) [e] [] pos) (eC1 p fb):=PE.weak (z8R hc hg hm hv (z0X he z1S hs) hn hdb hs hpl) fun σ H Q h=>by
 obtain ⟨δ,k,q⟩:=z3C hp h
 exact ⟨δ,k,z01 q fun y δ1 q1 v H1 a1 r1=>hl _ _ _ (q1 v H1 a1 r1)⟩
def pLen:D→Option S
 | .lst ds=>some (.pure (.int ds.length))
 | .tup ds=>some (.pure (.int ds.length))
 | .str z=>if z.length≤W6 then some (.pure (.int z.length)) else none
 | .dct ds=>some (.pure (.int ds.length))
 | _=>none
def rLen (K:W0):V→Hp→VK→Prop:=fun v H Q=>((∃ p ys,v = .ref p∧(SqL K H p ys∨SqT K H p ys)∧Q (.int ys.length) H)∨∃ z,v = .str z∧z.length≤W6∧Q (.int z.length) H)∨∃ a kvs,v=V.ref a∧H a=some (.dK kvs)∧Q (.int kvs.length) H
theorem zds {K:W0}:Op1 (rLen K) pLen:=by
 intro c σ δ H x d s Q k rx hp q
 cases d with
 | lst ds =>
  simp only [pLen,W8] at hp
  subst hp
  obtain ⟨a,vs,ea,ha,ra⟩:=rx.lst
  exact .inl (.inl ⟨a,vs,ea,.inl (.inl ha),by rw [ra.1]; exact q _ H (.refl k) (.int _)⟩)
 | tup ds =>
  simp only [pLen,W8] at hp
  subst hp
  obtain ⟨a,vs,ea,ha,ra⟩:=rx.tup
  exact .inl (.inl ⟨a,vs,ea,.inr (.of ha),by rw [ra.1]; exact q _ H (.refl k) (.int _)⟩)
 | str z =>
  simp only [pLen] at hp
  split at hp
  ·rename_i hz
   simp only [W8] at hp
   subst hp
   exact .inl (.inr ⟨toS z,rx.str,z55 hz,by rw [z1V]; exact q _ H (.refl k) (.int _)⟩)
  ·cases hp
 | dct ds =>
  simp only [pLen,W8] at hp
  subst hp
  obtain ⟨a,ws,ea,ha,h1,h2⟩:=rx.dct
  have hl:ws.length=ds.length:=by have:=congrArg QM h1; simpa using this
  exact .inr ⟨a,ws,ea,ha,by rw [hl]; exact q _ H (.refl k) (.int _)⟩
 | _=>simp [pLen] at hp
theorem z4p (hg:Gl X "len") (hm:X.mg "len" = none) (he:SB X c e fb) (hs:W5 [e] X.env=(false,eval e X.env) :: W5 [] X.env:=by rfl):SE X c (.Call (.Name "len" pp) [e] [] pos) (eC1 pLen fb) :=
 z4e ((call_len_seq.or z6H).or z9K) (fun v H Q h=>by
  rcases h with (⟨p,ys,e,h⟩ | ⟨z,e,h⟩) | ⟨a,kvs,e,h⟩
  ·exact .inl (.inl ⟨p,ys,by rw [e],h⟩)
  ·exact .inl (.inr ⟨z,by rw [e],h⟩)
  ·exact .inr ⟨a,kvs,by rw [e],h⟩) (zds (K:=X.K)) hg hm PySem.boot_len he (by decide) (by decide) hs
def z0m:D→Option S
 | .lst ds=>some (.pure (.tup ds))
 | .tup ds=>some (.pure (.tup ds))
 | _=>none
def zcQ (K:W0):V→Hp→VK→Prop:=fun v H Q=>∃ p ys,v = .ref p∧((SqL K H p ys∧∀ l,H l=none→Q (.ref l) (upd H l (.tup ys)))∨(SqT K H p ys∧Q (.ref p) H))
theorem zak {K:W0}:Op1 (zcQ K) z0m:=by
 intro c σ δ H x d s Q k rx hp q
 cases d with
 | lst ds =>
  simp only [z0m,W8] at hp
  subst hp
  obtain ⟨a,vs,ea,ha,ra⟩:=rx.lst
  exact ⟨a,vs,ea,.inl ⟨.inl ha,fun l hl=>q _ _ (.alloc k hl _) (RepS.newT k ra hl)⟩⟩
 | tup ds =>
  simp only [z0m,W8] at hp
  subst hp
  obtain ⟨a,vs,ea,ha,ra⟩:=rx.tup
  refine ⟨a,vs,ea,.inr ⟨.of ha,?_⟩⟩
  rw [ea] at rx
  rcases rx with rx | ⟨_,_,rx⟩
  ·exact q _ H (.refl k) rx
  ·exact rx.elim
 | _=>simp [z0m] at hp
theorem z1o (hg:Gl X "tuple") (hm:X.mg "tuple" = none) (he:SB X c e fb) (hs:W5 [e] X.env=(false,eval e X.env) :: W5 [] X.env:=by rfl):SE X c (.Call (.Name "tuple" pp) [e] [] pos) (eC1 z0m fb) :=
 z4q z5R (fun v H Q ⟨p,ys,e,h⟩=>⟨p,ys,by rw [e],h⟩) (zak (K:=X.K)) hg hm PyProof.Rows.boot_tuple he (by decide) (by decide) hs
def pInt:D→Option S
 | .int i=>some (.pure (.int i))
 | .bl b=>some (.pure (.int (if b then 1 else 0)))
 | _=>none
theorem zbG (hg:Gl X "int") (hm:X.mg "int" = none) (he:SB X c e fb) (hs:W5 [e] X.env=(false,eval e X.env) :: W5 [] X.env:=by rfl):SE X c (.Call (.Name "int" pp) [e] [] pos) (eC1 pInt fb) :=
 z4q (r:=fun v H Q=>(∃ i,v = .int i∧Q (.int i) H)∨∃ k,v = .bl k∧Q (.int (if k then 1 else 0)) H) z9L (fun v H Q h=>by
  rcases h with ⟨i,e,q⟩ | ⟨k,e,q⟩
  ·exact .inl ⟨i,by rw [e],q⟩
  ·exact .inr ⟨k,by rw [e],q⟩) (fun c σ δ H x d s Q k rx hp q=>by
  cases d with
  | int i =>
   simp only [pInt,W8] at hp
   subst hp
   exact .inl ⟨i,rx.int,q _ H (.refl k) (.int _)⟩
  | bl b =>
   simp only [pInt,W8] at hp
   subst hp
   exact .inr ⟨b,rx.bl,q _ H (.refl k) (.int _)⟩
  | _=>simp [pInt] at hp) hg hm PyProof.Rows.boot_int he (by decide) (by decide) hs
def z3z:List D→Option (List Bool)
 | []=>some []
 | .bl b :: r=>(z3z r).map (b :: ·)
 | _ :: _=>none
def z2D:List D→Option (List Tx)
 | []=>some []
 | .str x :: r=>(z2D r).map (x :: ·)
 | _ :: _=>none
theorem z2T:∀ {ds:List D} {vs:List V} {bs:List Bool},z3z ds=some bs→Reps H O vs ds→vs=bs.map V.bl
 | [],vs,bs,h,r=>by
  simp only [z3z,W8] at h
  subst h
  have:=r.1
  simpa using this
 | d :: ds,[],bs,h,r=>by have:=r.1; simp at this
 | d :: ds,v :: vs,bs,h,r=>by
  cases d with
  | bl b =>
   simp only [z3z] at h
   cases e:z3z ds with
   | none=>rw [e] at h; cases h
   | some bs' =>
    rw [e] at h
    simp only [WI,W8] at h
    subst h
    have:=r.head
    cases this
    rw [z2T e r.tail]
    rfl
  | _=>simp [z3z] at h
theorem z1J:∀ {ds:List D} {vs:List V} {bs:List Tx},z2D ds=some bs→Reps H O vs ds→vs=bs.map fun z=>V.str (toS z)
 | [],vs,bs,h,r=>by
  simp only [z2D,W8] at h
  subst h
  have:=r.1
  simpa using this
 | d :: ds,[],bs,h,r=>by have:=r.1; simp at this
 | d :: ds,v :: vs,bs,h,r=>by
  cases d with
  | str b =>
   simp only [z2D] at h
   cases e:z2D ds with
   | none=>rw [e] at h; cases h
   | some bs' =>
    rw [e] at h
    simp only [WI,W8] at h
    subst h
    have:=r.head
    cases this
    rw [z1J e r.tail]
    rfl
  | _=>simp [z2D] at h
theorem z3f:∀ ts:List Tx,Reps H O (ts.map fun z=>V.str (toS z)) (ts.map D.str)
 | []=>.nil
 | t :: ts=>.cons (.str t) (z3f ts)
def pAll:D→Option S
 | .lst ds=>(z3z ds).map fun bs=>.pure (.bl (bs.all (fun b=>b)))
 | _=>none
def z3J:D→Option S
 | .lst ds=>match z2D ds with
  | some ts=>if ts.length < 64 then some (.own (.lst ((z3G ts).map D.str))) else none
  | none=>none
 | _=>none
theorem zaL:WW "all" = some (.builtin "all"):=by decide +kernel
theorem zcI (hc:X.calm=true) (hg:Gl X "all") (hm:X.mg "all" = none) (he:SB X c e fb) (hs:W5 [e] X.env=(false,eval e X.env) :: W5 [] X.env:=by rfl):SE X c (.Call (.Name "all" pp) [e] [] pos) (eC1 pAll fb) :=
 z4e (r:=fun v H Q=>∃ (a:Addr) (bs:List Bool),v = .ref a∧SqL X.K H a (bs.map V.bl)∧Q (.bl (bs.all (fun b=>b))) H) (zaK hc) (fun v H Q ⟨a,bs,e,h⟩=>⟨a,bs,by rw [e],h⟩) (fun c σ δ H x d s Q k rx hp q=>by
  cases d with
  | lst ds =>
   simp only [pAll] at hp
   cases e:z3z ds with
   | none=>rw [e] at hp; cases hp
   | some bs =>
    rw [e] at hp
    simp only [WI,W8] at hp
    subst hp
    obtain ⟨a,vs,ea,ha,ra⟩:=rx.lst
    have:=z2T e ra
    subst this
    exact ⟨a,bs,ea,.inl ha,q _ H (.refl k) (.bl _)⟩
  | _=>simp [pAll] at hp) hg hm zaL he (by decide) (by decide) hs
theorem z8r (hg:Gl X "sorted") (hm:X.mg "sorted" = none) (he:SB X c e fb) (hs:W5 [e] X.env=(false,eval e X.env) :: W5 [] X.env:=by rfl):SE X c (.Call (.Name "sorted" pp) [e] [] pos) (eC1 z3J fb) :=
 z4e (r:=fun v H Q=>∃ (a:Addr) (ts:List Tx),v = .ref a∧SqL X.K H a (ts.map fun z=>V.str (toS z))∧ts.length < 64∧∀ p,H p=none→Q (.ref p) (upd H p (.lst ((z3G ts).map fun z=>V.str (toS z))))) z6G (fun v H Q ⟨a,bs,e,h⟩=>⟨a,bs,by rw [e],h⟩) (fun c σ δ H x d s Q k rx hp q=>by
  cases d with
  | lst ds =>
   simp only [z3J] at hp
   cases e:z2D ds with
   | none=>rw [e] at hp; cases hp
   | some ts =>
    rw [e] at hp
    simp only at hp
    split at hp
    ·rename_i hz
     simp only [W8] at hp
     subst hp
     obtain ⟨a,vs,ea,ha,ra⟩:=rx.lst
     have:=z1J e ra
     subst this
     exact ⟨a,ts,ea,.inl ha,hz,fun p hp=>q _ _ (.alloc k hp _) (RepS.newL k (z3f _) hp)⟩
    ·cases hp
  | _=>simp [z3J] at hp) hg hm PyProof.Rows.boot_sorted he (by decide) (by decide) hs
def pMax:D→D→Option S
 | .int i,.int j=>some (.pure (.int (if j > i then j else i)))
 | _,_=>none
def eMax (f g:DE):DE:=fun δ=>(f δ).bind fun x δ1=>(g δ1).bind fun y δ2=>p2 pMax x.d y.d δ2
theorem zcE {a b:Expr} {f g:DE} (hc:X.calm=true) (hg:Gl X "max") (hm:X.mg "max" = none) (ha:SE X c a f) (hb:SE X c b g) (hs:W5 [a,b] X.env=(false,eval a X.env) :: W5 [b] X.env:=by rfl)
  (hs2:W5 [b] X.env=(false,eval b X.env) :: W5 [] X.env:=by rfl) (hpl:(WK pos (W5 [b] X.env)).any (·.1)=false:=by rfl):SE X c (.Call (.Name "max" pp) [a,b] [] pos) (eMax f g) :=
 PE.weak (z3i (z9J hc) hg hm PyProof.Rows.boot_max (z0X ha (z0X hb z1S hs2) hs) (by decide) (by decide) hs hpl) fun σ H Q ⟨δ,k,q⟩=>by
  unfold eMax at q
  rw [z04] at q
  refine ⟨δ,k,z01 q fun x δ1 q1 v H1 a1 r1=>⟨δ1,a1.ok,?_⟩⟩
  rw [z04] at q1
  refine z01 q1 fun y δ2 q2 u H2 a2 r2=>?_
  unfold p2 at q2
  have hx:RepB c σ δ2 H2 v x.d:=.inl (Rep.aft r1.rep a2)
  have hy:=r2.b
  generalize x.d=dx at q2 hx
  generalize y.d=dy at q2 hy
  cases dx <;> cases dy <;> first
   | exact q2.elim
   | skip
  rename_i i j
  exact ⟨i,j,by rw [hx.int,hy.int],q2 _ H2 (a1.trans a2) (.int _)⟩
def isTy (T:String):D→Option Bool
 | .non=>some (T == "NoneType")
 | .bl _=>some (T == "bool" || T == "int")
 | .int _=>some (T == "int")
 | .str _=>some (T == "str")
 | .tup _=>some (T == "tuple")
 | .lst _=>some (T == "list")
 | .dct _=>some (T == "dict")
 | .exc _ _=>none
 | .xd _=>none
structure TyK (K:W0) (T:String):Prop where
 non:Qc K (.type "NoneType") (.type T)=some (T == "NoneType")
 bl:Qc K (.type "bool") (.type T)=some (T == "bool" || T == "int")
 int:Qc K (.type "int") (.type T)=some (T == "int")
 str:Qc K (.type "str") (.type T)=some (T == "str")
 tup:Qc K (.type "tuple") (.type T)=some (T == "tuple")
 lst:Qc K (.type "list") (.type T)=some (T == "list")
 dct:Qc K (.type "dict") (.type T)=some (T == "dict")
def eIsi (T:String) (fb:BE):DE:=fun δ=>(fb δ).bind fun d δ'=>match isTy T d with
 | some b=>.ok (.pure (.bl b)) δ'
 | none=>.stuck
theorem zav (ty:TyK X.K T) (I:Inv X pins σ H s) (ru:RelV v u) (r:Rep H NoO v d) (e:isTy T d=some b) (q:Q (.bl b) H) :
  Wa (model X.prog X.w) X.A (call (.builtin "isinstance") [u,.type T]) (EP X pins σ Q) X.xe s:=by
 have fin:∀ tk,EP X pins σ Q (.bool b) { s with toks:=tk }:=fun tk=>⟨.bl b,H,I.tok tk,rfl,q⟩
 cases r with
 | non=>exact z1D I ru .non (ty.non.trans e) fin
 | bl x=>exact z1D I ru (.bl x) (ty.bl.trans e) fin
 | int x=>exact z1D I ru (.int x) (ty.int.trans e) fin
 | str x=>exact z1D I ru (.str _) (ty.str.trans e) fin
 | tup _ h2 _ _=>exact z1D I ru (.tup h2) (ty.tup.trans e) fin
 | lst _ h2 _ _ =>
  rcases h2 with h2 | ⟨o,h2⟩
  ·exact z1D I ru (.lst h2) (ty.lst.trans e) fin
  ·exact z1D I ru (.frz h2) (ty.lst.trans e) fin
 | dct _ h2 _ _=>exact z1D I ru (.dK h2) (ty.dct.trans e) fin
 | exc _ _=>cases e
 | xd _ _=>cases e
theorem zaJ (ty:TyK X.K T):CallR X (.builtin "isinstance") (fun xs H Q=>∃ v d b,xs=[v,.ty T]∧Rep H NoO v d∧isTy T d=some b∧Q (.bl b) H):=by
 intro pins s σ H xs us Q I r h
 obtain ⟨v,d,b,rfl,rp,e,q⟩:=h
 obtain ⟨u,w',rfl,r1,r2⟩:=zbo r
 cases r2
 exact zav ty I r1 rp e q
theorem z7k {y:Str} {py:Pos} (ty:TyK X.K T) (hg:Gl X "isinstance") (hm:X.mg "isinstance" = none) (hgy:Gl X y) (hmy:X.mg y=none) (hvy:WW y=some (.type T)) (he:SB X c e fb)
  (hny:y≠"__name__":=by decide) (hdy:(y == ("__debug__" : Str))=false:=by decide)
  (hs:W5 [e,.Name y py] X.env=(false,eval e X.env) :: W5 [.Name y py] X.env:=by rfl) (hpl:(WK pos (W5 [.Name y py] X.env)).any (·.1)=false:=by rfl) :
  SE X c (.Call (.Name "isinstance" pp) [e,.Name y py] [] pos) (eIsi T fb) :=
 PE.weak (z3i (zaJ ty) hg hm PyProof.Rows.boot_isinstance (z0X he (z0X (z8U (v:=.ty T) hgy hmy hvy rfl hny hdy) z1S) hs) (by decide) (by decide) hs hpl) fun σ H Q ⟨δ,k,q⟩=>by
  unfold eIsi at q
  rw [z04] at q
  refine ⟨δ,k,z01 q fun d δ1 q1 v H1 a1 r1=>?_⟩
  cases e1:isTy T d with
  | none=>rw [e1] at q1; exact q1.elim
  | some b =>
   rw [e1] at q1
   exact ⟨v,d,b,rfl,r1.un,e1,q1 _ H1 a1 (.bl _)⟩
end
abbrev DOp:=Dl→Rs (Option Int)
def tOD (c:Fc) (f:DOp):TO:=fun σ H Q=>∃ δ,Ok c σ δ H∧post c (f δ) fun o δ'=>∀ H',Aft c σ δ H σ δ' H'→Q o H'
abbrev SO (X:Cx) (c:Fc) (e:Option Expr) (f:DOp):Prop:=PO X e (tOD c f)
theorem PO.weak (h:PO X e t) (w:∀ σ H Q,t' σ H Q→t σ H Q):PO X e t':=fun pins s σ H Q I q=>h pins s σ H Q I (w σ H Q q)
def z7U:DOp:=fun δ=>.ok none δ
def z47 (f:DE):DOp:=fun δ=>(f δ).bind fun r δ'=>match r with
 | .pure (.int i)=>.ok (some i) δ'
 | _=>.stuck
section
variable {X:Cx} {c:Fc} {e:Expr} {f:DE} {fb:BE} {fl fh:DOp} {lo hi:Option Expr} {pos p2:Pos}
theorem z5q:SO X c none z7U:=PO.weak zbV fun σ H Q ⟨δ,k,q⟩=>q H (.refl k)
theorem z3I (h:SE X c e f):SO X c (some e) (z47 f):=PO.weak (zbU h) fun σ H Q ⟨δ,k,q⟩=>by
 unfold z47 at q
 rw [z04] at q
 refine ⟨δ,k,z01 q fun r δ1 q1 v H1 a1 r1=>?_⟩
 cases r with
 | own d=>exact q1.elim
 | pure d =>
  cases d <;> first | exact q1.elim | skip
  rename_i i
  cases r1
  exact ⟨i,rfl,q1 H1 a1⟩
def pSl (lo hi:Option Int):D→Option S
 | .str x=>if x.length≤W6 then some (.pure (.str (cutL x lo hi))) else none
 | .tup ds=>some (.pure (.tup (cutL ds lo hi)))
 | .lst ds=>some (.own (.lst (cutL ds lo hi)))
 | _=>none
def rSlD (K:W0):V→Option Int→Option Int→Hp→VK→Prop:=fun x lo hi H Q=>rSlS x lo hi H Q∨zcR K x lo hi H Q∨rSlL K x lo hi H Q
theorem sl_D:SlR X (rSlD X.K):=sl_str.or (sl_tup2.or zbD)
theorem zdr {K:W0} (lo hi:Option Int):Op1 (fun x H Q=>rSlD K x lo hi H Q) (pSl lo hi):=by
 intro c σ δ H x d s Q k rx hp q
 cases d with
 | str z =>
  simp only [pSl] at hp
  split at hp
  ·rename_i hz
   simp only [W8] at hp
   subst hp
   exact .inl ⟨z,rx.str,hz,q _ H (.refl k) (.str _)⟩
  ·cases hp
 | tup ds =>
  simp only [pSl,W8] at hp
  subst hp
  obtain ⟨a,vs,ea,ha,ra⟩:=rx.tup
  refine .inr (.inl ⟨a,vs,ea,.of ha,fun hw=>?_,fun _ p hp=>?_⟩)
  ·rw [ra.1] at hw
   rw [z9C hw] at q
   rw [ea] at rx
   rcases rx with rx | ⟨_,_,rx⟩
   ·exact q _ H (.refl k) rx
   ·exact rx.elim
  ·rw [← zbi]
   exact q _ _ (.alloc k hp _) (RepS.newT k (ra.cut lo hi) hp)
 | lst ds =>
  simp only [pSl,W8] at hp
  subst hp
  obtain ⟨a,vs,ea,ha,ra⟩:=rx.lst
  refine .inr (.inr ⟨a,vs,ea,.inl ha,fun p hp=>?_⟩)
  rw [← zbi]
  exact q _ _ (.alloc k hp _) (RepS.newL k (ra.cut lo hi) hp)
 | _=>simp [pSl] at hp
def eSl (f:DE) (fl fh:DOp):DE:=fun δ=>(f δ).bind fun x δ1=>(fl δ1).bind fun l δ2=>(fh δ2).bind fun h δ3=>p1 (pSl l h) x.d δ3
theorem se_sl (he:SE X c e f) (hl:SO X c lo fl) (hh:SO X c hi fh):SE X c (.Subscript e (.Slice lo hi none p2) pos) (eSl f fl fh):=PE.weak (z7p sl_D he hl hh) fun σ H Q ⟨δ,k,q⟩=>by
 unfold eSl at q
 rw [z04] at q
 refine ⟨δ,k,z01 q fun x δ1 q1 v H1 a1 r1=>⟨δ1,a1.ok,?_⟩⟩
 rw [z04] at q1
 refine z01 q1 fun l δ2 q2 H2 a2=>⟨δ2,a2.ok,?_⟩
 rw [z04] at q2
 refine z01 q2 fun h δ3 q3 H3 a3=>?_
 exact z6V (zdr l h) a3.ok (.inl (Rep.aft r1.rep (a2.trans a3))) (z01 q3 fun s δ4 q4 w H4 a4 r4=>q4 w H4 (a1.trans (a2.trans (a3.trans a4))) (RepS.back r4 (a1.trans (a2.trans a3))))
def eSlN (i:Nat) (fl fh:DOp):DE:=fun δ=>match δ[i]? with
 | some (some _)=>(fl δ).bind fun l δ2=>(fh δ2).bind fun h δ3=>(bVar i δ3).bind fun x δ4=>p1 (pSl l h) x δ4
 | _=>.stuck
theorem zbC {i:Nat} {σ:St} {δ:Dl} {H:Hp} {v:V} {w:S} (k:Ok c σ δ H) (e:δ[i]? = some (some w)) (ev:σ[i]? = some (some v)):RepB c σ δ H v w.d:=by
 cases w with
 | pure d =>
  obtain ⟨v',e1,r⟩:=k.slot i d e
  rw [ev] at e1; cases e1
  exact .inl r
 | own d =>
  obtain ⟨a,e1,r,_⟩:=k.own i d e
  rw [ev] at e1; cases e1
  exact .inr ⟨a,rfl,r⟩
theorem z9M (h:post c ((bVar i δ).bind g) kk):∃ w,δ[i]? = some (some w)∧post c (g w.d δ) kk:=by
 unfold bVar at h
 cases e:δ[i]? with
 | none=>rw [e] at h; exact h.elim
 | some o =>
  cases o with
  | none=>rw [e] at h; exact h.elim
  | some w=>rw [e] at h; exact ⟨w,rfl,h⟩
theorem z7j {i:Nat} (he:PE X e (tVar i)) (hl:SO X c lo fl) (hh:SO X c hi fh):SE X c (.Subscript e (.Slice lo hi none p2) pos) (eSlN i fl fh):=PE.weak (z7p sl_D he hl hh) fun σ H Q ⟨δ,k,q⟩=>by
 unfold eSlN at q
 cases e:δ[i]? with
 | none=>rw [e] at q; exact q.elim
 | some o =>
  cases o with
  | none=>rw [e] at q; exact q.elim
  | some w =>
   rw [e] at q
   obtain ⟨v,ev⟩:=z2e k e
   have q':post c ((fl δ).bind fun l δ2=>(fh δ2).bind fun h δ3=>(bVar i δ3).bind fun x δ4=>p1 (pSl l h) x δ4) fun r δ'=>∀ v H',Aft c σ δ H σ δ' H'→RepS c σ δ' H H' v r→Q v H':=q
   rw [z04] at q'
   refine ⟨v,ev,δ,k,z01 q' fun l δ2 q2 H2 a2=>⟨δ2,a2.ok,?_⟩⟩
   rw [z04] at q2
   refine z01 q2 fun h δ3 q3 H3 a3=>?_
   obtain ⟨w3,e3,q4⟩:=z9M q3
   exact z6V (zdr l h) a3.ok (zbC a3.ok e3 ev) (z01 q4 fun s δ4 q4 w H4 a4 r4=>q4 w H4 (a2.trans (a3.trans a4)) (RepS.back r4 (a2.trans a3)))
def z4I (z:Tx):List Tx→Tx
 | []=>[]
 | [x]=>x
 | x :: y :: r=>x ++ z ++ z4I z (y :: r)
theorem z7A (z:Tx):∀ (r:List Tx) (acc:Tx),((r.map toS).foldl (fun (acc:Array Nat) p=>acc ++ (toS z).cps ++ p.cps) acc.toArray)=(match r with | []=>acc | x :: r'=>acc ++ z ++ z4I z (x :: r')).toArray
 | [],acc=>rfl
 | x :: r,acc=>by
  rw [Wq,QJ]
  have e:acc.toArray ++ (toS z).cps ++ (toS x).cps=(acc ++ z ++ x).toArray:=by simp [toS]
  rw [e,z7A z r (acc ++ z ++ x)]
  cases r with
  | nil=>simp [z4I]
  | cons y r'=>simp [z4I]
theorem zc9 (z:Tx) (ts:List Tx):Txt.join (toS z) (ts.map toS)=toS (z4I z ts):=by
 show Builtin.Str.glued _ _=_
 unfold Builtin.Str.glued
 cases ts with
 | nil=>rfl
 | cons x r =>
  rw [Wq]
  show (⟨(List.foldl _ (toS x).cps (r.map toS))⟩:Str)=_
  have:=z7A z r x
  have e:(toS x).cps=x.toArray:=rfl
  rw [e,this]
  cases r with
  | nil=>rfl
  | cons y r'=>rfl
def z6m (ts:List Tx):Nat:=(ts.map (·.length)).sum
def z2h (z:Tx):D→Option S
 | .lst ds=>match z2D ds with
  | some ts=>if z6m ts + ts.length * z.length≤16777216 then some (.pure (.str (z4I z ts))) else none
  | none=>none
 | .tup ds=>match z2D ds with
  | some ts=>if z6m ts + ts.length * z.length≤16777216 then some (.pure (.str (z4I z ts))) else none
  | none=>none
 | _=>none
theorem zc5 {K:W0} (z:Tx):Op1 (fun x H Q=>zab K (.str (toS z)) [x] H Q) (z2h z):=by
 intro c σ δ H x d s Q k rx hp q
 have key:∀ (a:Addr) (vs:List V) (ds:List D),x = .ref a→(SqL K H a vs∨SqT K H a vs)→Reps H (Av c σ δ) vs ds→(match z2D ds with | some ts=>if z6m ts + ts.length * z.length≤16777216 then some (S.pure (.str (z4I z ts))) else none | none=>none)=some s→zab K (.str (toS z)) [x] H Q:=by
  intro a vs ds ea ha ra hp
  cases e:z2D ds with
  | none=>rw [e] at hp; cases hp
  | some ts =>
   rw [e] at hp
   simp only at hp
   split at hp
   ·rename_i hz
    simp only [W8] at hp
    subst hp
    have:=z1J e ra
    subst this
    refine ⟨toS z,a,ts.map toS,rfl,by rw [ea],?_,?_,?_⟩
    ·rw [Q3]; exact ha
    ·rw [Q3,Wy,z1V]
     have:((fun x:Str=>x.length) ∘ toS)=fun x:Tx=>x.length:=funext fun x=>z1V x
     rw [this]
     exact hz
    ·rw [zc9]
     exact q _ H (.refl k) (.str _)
   ·cases hp
 cases d with
 | lst ds =>
  obtain ⟨a,vs,ea,ha,ra⟩:=rx.lst
  exact key a vs ds ea (.inl (.inl ha)) ra hp
 | tup ds =>
  obtain ⟨a,vs,ea,ha,ra⟩:=rx.tup
  exact key a vs ds ea (.inr (.of ha)) ra hp
 | _=>simp [z2h] at hp
theorem z5t {x:Str} {j} {p0 apos cpos:Pos} (z:Tx) (he:SB X c e fb) (hx:x=toS z:=by decide +kernel)
  (hbase:Ql (.Constant (.str x) j p0) "join" X.env (eval (.Constant (.str x) j p0) X.env)=eval (.Constant (.str x) j p0) X.env:=by rfl)
  (hfew:((WK cpos (W5 [e] X.env)).all (fun x=>!x.1) && (backToKw cpos (QN [] X.env)).all (fun x=>x.1.isSome)
   && decide ([e].length + ([]:List Keyword).length + (if ([]:List Keyword).isEmpty then 0 else 1) < 30))=true:=by rfl)
  (hline:(apos.endLine == cpos.line)=true:=by rfl) (hs:W5 [e] X.env=(false,eval e X.env) :: W5 [] X.env:=by rfl) :
  SE X c (.Call (.Attribute (.Constant (.str x) j p0) "join" apos) [e] [] cpos) (eC1 (z2h z) fb):=by
 subst hx
 refine PE.weak (z8T PySem.F.plainAttrs_str PySem.F.slot_str_join PySem.F.type_str_join zc6 zaZ (z0X he z1S hs) hbase hfew hline hs rfl) fun σ H Q h=>?_
 obtain ⟨δ,k,q⟩:=z3C (r:=fun x H Q=>zab X.K (.str (toS z)) [x] H Q) (zc5 z) h
 refine ⟨?_,δ,k,q⟩
 show ("str" : String) = "str"
 rfl
end
inductive Fl where
 | next | ret (r:S) | brk | cont
abbrev DS:=Dl→Rs Fl
def fin (c:Fc) (D:Ends) (σ:St) (δ:Dl) (H:Hp):Fl→Prop
 | .next=>D.nx σ H
 | .ret r=>∀ v,RepS c σ δ c.H₀ H v r→D.rt v H
 | .brk=>D.bk σ H
 | .cont=>D.ct σ H
def z2B (c:Fc) (D:Ends) (σ:St) (δ:Dl) (H:Hp) (r:Rs Fl):Prop:=post c r fun fl δ'=>∀ σ' H',Aft c σ δ H σ' δ' H'→fin c D σ' δ' H' fl
def tDS (c:Fc) (f:DS):TS:=fun D σ H=>∃ δ,Ok c σ δ H∧z2B c D σ δ H (f δ)
abbrev SS (X:Cx) (c:Fc) (st:Stmt) (f:DS):Prop:=PS X st (tDS c f)
abbrev SSs (X:Cx) (c:Fc) (st:List Stmt) (f:DS):Prop:=PSs X st (tDS c f)
theorem PS.weak {X:Cx} {st:Stmt} {t t':TS} (h:PS X st t) (w:∀ D σ H,t' D σ H→t D σ H):PS X st t':=fun pins s σ H D I q=>h pins s σ H D I (w D σ H q)
theorem PSs.weak {X:Cx} {st:List Stmt} {t t':TS} (h:PSs X st t) (w:∀ D σ H,t' D σ H→t D σ H):PSs X st t':=fun pins s σ H D I q=>h pins s σ H D I (w D σ H q)
def z0O:DS:=fun δ=>.ok .next δ
def dSeq (f g:DS):DS:=fun δ=>(f δ).bind fun fl δ1=>match fl with
 | .next=>g δ1
 | .ret r=>.ok (.ret r) δ1
 | .brk=>.ok .brk δ1
 | .cont=>.ok .cont δ1
def z6C (f:DE):DS:=fun δ=>(f δ).bind fun _ δ1=>.ok .next δ1
def dRet (f:DE):DS:=fun δ=>(f δ).bind fun r δ1=>.ok (.ret r) δ1
def dIf (t:DT) (f g:DS):DS:=fun δ=>(t δ).bind fun b δ1=>if b then f δ1 else g δ1
def eRetN (np:List Nat) (i:Nat):DE:=fun δ=>match δ[i]? with
 | some (some (.own d))=>if np.contains i then .ok (.pure d) (δ.set i (some (.pure d))) else .ok (.own d) (δ.set i none)
 | some (some (.pure d))=>.ok (.pure d) δ
 | _=>.stuck
section
variable {X:Cx} {c:Fc} {st:Stmt} {sts:List Stmt} {e a:Expr} {f g:DS} {fe:DE} {t:DT} {pos pos':Pos}
theorem z1K:SSs X c [] z0O:=PSs.weak zbS fun D σ H ⟨δ,k,q⟩=>q σ H (.refl k)
theorem z0a (h1:SS X c st f) (h2:SSs X c sts g):SSs X c (st :: sts) (dSeq f g):=PSs.weak (zac h1 h2) fun D σ H ⟨δ,k,q⟩=>by
 unfold dSeq z2B at q
 rw [z04] at q
 refine ⟨δ,k,z01 q fun fl δ1 q1 σ1 H1 a1=>?_⟩
 cases fl with
 | next=>exact ⟨δ1,a1.ok,z01 q1 fun fl2 δ2 q2 σ2 H2 a2=>q2 σ2 H2 (a1.trans a2)⟩
 | ret r=>exact q1 σ1 H1 a1
 | brk=>exact q1 σ1 H1 a1
 | cont=>exact q1 σ1 H1 a1
theorem z0k (h1:SS X c st f):SSs X c [st] f:=PSs.weak (zbR h1) fun D σ H h=>h
theorem z0K (he:SE X c e fe):SS X c (.Return (some e) pos) (dRet fe):=PS.weak (zd4 he) fun D σ H ⟨δ,k,q⟩=>by
 unfold dRet z2B at q
 rw [z04] at q
 exact ⟨δ,k,z01 q fun r δ1 q1 v H1 a1 r1=>q1 σ H1 a1 v r1.home⟩
theorem z2Y {b1 b2:List Stmt} (ht:ST X c e t) (h1:SSs X c b1 f) (h2:SSs X c b2 g):SS X c (.If e b1 b2 pos) (dIf t f g):=PS.weak (ps_if ht h1 h2) fun D σ H ⟨δ,k,q⟩=>by
 unfold dIf z2B at q
 rw [z04] at q
 refine ⟨δ,k,z01 q fun b δ1 q1 H1 a1=>?_⟩
 cases b with
 | true=>exact ⟨δ1,a1.ok,z01 q1 fun fl δ2 q2 σ2 H2 a2=>q2 σ2 H2 (a1.trans a2)⟩
 | false=>exact ⟨δ1,a1.ok,z01 q1 fun fl δ2 q2 σ2 H2 a2=>q2 σ2 H2 (a1.trans a2)⟩
theorem Own.of_set (h:Own (σ.set i (some v)) (δ.set i (some r)) b):Own σ δ b∨(v = .ref b∧∃ d,r = .own d):=by
 obtain ⟨j,d,e1,e2⟩:=h
 by_cases hj:i=j
 ·subst hj
  right
  rw [WA] at e1 e2
  simp at e1 e2
  obtain ⟨_,h1⟩:=e1
  obtain ⟨_,h2⟩:=e2
  exact ⟨h2,d,h1⟩
 ·rw [W4 hj] at e1 e2
  exact .inl ⟨j,d,e1,e2⟩
theorem Ok.set (x:Aft c σ₀ δ₀ H₁ σ δ H) (hr:RepS c σ δ H₁ H v r) (hp:∀ p ∈ c.pin,p.1≠i):Aft c σ₀ δ₀ H₁ (σ.set i (some v)) (δ.set i (some r)) H:=by
 have k:=x.ok
 -- all slots avoid the new address,too
 have all:∃ c':Fc,c'.H₀=c.H₀∧c'.pin=c.pin∧Ok c' σ δ H∧(∀ b,Av c (σ.set i (some v)) (δ.set i (some r)) b→Av c' σ δ b):=by
  cases r with
  | pure d =>
   refine ⟨c,rfl,rfl,k,fun b z=>?_⟩
   rcases z with z | z
   ·exact .inl z
   ·rcases z.of_set with z | ⟨_,d',e⟩
    ·exact .inr z
    ·cases e
  | own d =>
   obtain ⟨a,ea,o,n,f,k2,_⟩:=hr
   refine ⟨c.plus a,rfl,rfl,k2,fun b z=>?_⟩
   rcases z with z | z
   ·exact .inl (.inl z)
   ·rcases z.of_set with z | ⟨e,_⟩
    ·exact .inr z
    ·rw [ea] at e; cases e
     exact .inl (.inr rfl)
 obtain ⟨c',eH,eP,k2,sub⟩:=all
 have eI:∀ a,c'.I a ↔ c.I a:=fun a=>by unfold Fc.I; rw [eP]
 have hrep:Rep H (Av c (σ.set i (some v)) (δ.set i (some r))) v r.d∨∃ d,r = .own d:=by
  cases r with
  | pure d =>
   left
   refine Rep.anti hr fun b z=>?_
   rcases z with z | z
   ·exact .inl (.inl z)
   ·rcases z.of_set with z | ⟨_,d',e⟩
    ·exact .inl (.inr z)
    ·cases e
  | own d=>exact .inr ⟨d,rfl⟩
 refine ⟨⟨k.keep,k.bd,k.ith,by rw [QI,QI]; exact k.len,fun j d e=>?_,fun j d e=>?_,fun j l a d d' e1 e2 e3 e4=>?_,fun p hm=>?_⟩,x.keep,fun b z=>?_,x.there⟩
 ·by_cases hj:i=j
  ·subst hj
   rw [WA] at e
   simp at e
   obtain ⟨hi,rfl⟩:=e
   have hi':i < σ.length:=by rw [← k.len]; exact hi
   rcases hrep with h | ⟨_,h⟩
   ·exact ⟨v,by rw [Wl hi'],h⟩
   ·cases h
  ·rw [W4 hj] at e
   obtain ⟨w,e1,q⟩:=k2.slot j d e
   exact ⟨w,by rw [W4 hj]; exact e1,q.anti fun b z=>.inl (sub b z)⟩
 ·by_cases hj:i=j
  ·subst hj
   rw [WA] at e
   simp at e
   obtain ⟨hi,rfl⟩:=e
   have hi':i < σ.length:=by rw [← k.len]; exact hi
   obtain ⟨a,ea,o,n,f,k3,_⟩:=hr
   refine ⟨a,by rw [Wl hi',ea],o.anti fun b z=>.inl ?_,.inr f,n⟩
   rcases z with z | z
   ·exact .inl (.inl z)
   ·rcases z.of_set with z | ⟨e,_⟩
    ·exact .inr z
    ·rw [ea] at e; cases e
     exact .inl (.inr rfl)
  ·rw [W4 hj] at e
   obtain ⟨a,e1,q,q2,q3⟩:=k.own j d e
   obtain ⟨a',e1',q',_,_⟩:=k2.own j d e
   rw [e1] at e1'; cases e1'
   exact ⟨a,by rw [W4 hj]; exact e1,q'.anti fun b z=>.inl (sub b z),q2,q3⟩
 ·by_cases hj:i=j
  ·subst hj
   by_cases hl:i=l
   ·exact hl
   ·rw [W4 hl] at e2 e4
    rw [WA] at e1 e3
    simp at e1 e3
    obtain ⟨_,rfl⟩:=e1
    obtain ⟨_,rfl⟩:=e3
    obtain ⟨a',ea,o,n,f,k3,_⟩:=hr
    cases ea
    exact absurd ⟨l,d',e2,e4⟩ (z2g k3)
  ·rw [W4 hj] at e1 e3
   by_cases hl:i=l
   ·subst hl
    rw [WA] at e2 e4
    simp at e2 e4
    obtain ⟨_,rfl⟩:=e2
    obtain ⟨_,rfl⟩:=e4
    obtain ⟨a',ea,o,n,f,k3,_⟩:=hr
    cases ea
    exact absurd ⟨j,d,e1,e3⟩ (z2g k3)
   ·rw [W4 hl] at e2 e4
    exact k.inj j l a d d' e1 e2 e3 e4
 ·rw [W4 (Ne.symm (hp p hm))]
  exact k.pinned p hm
 ·rcases z.of_set with z | ⟨e,d,ed⟩
  ·exact x.own b z
  ·subst ed
   obtain ⟨a,ea,_,_,_,_,hs⟩:=hr
   rw [ea] at e; cases e
   exact .inr hs
abbrev DG:=S→Dl→Option Dl
def tGD (c:Fc) (g:DG):TG:=fun v σ H Q=>∃ σ₀ δ₀ H₁ δ r δ',Aft c σ₀ δ₀ H₁ σ δ H∧RepS c σ δ H₁ H v r∧g r δ=some δ'∧∀ σ',Aft c σ₀ δ₀ H₁ σ' δ' H→Q σ' H
abbrev SG (X:Cx) (c:Fc) (tg:Expr) (g:DG):Prop:=PG X tg (tGD c g)
def gNm (np:List Nat) (i:Nat):DG:=fun r δ=>if np.contains i then none else some (δ.set i (some r))
def Np (c:Fc) (np:List Nat):Prop:=∀ p ∈ c.pin,np.contains p.1=true
theorem z5L (hp:Np c np) (h:tGD c (gNm np i) v σ H Q):zay i v σ H Q:=by
 obtain ⟨σ₀,δ₀,H₁,δ,r,δ',x,rr,e,q⟩:=h
 unfold gNm at e
 split at e
 ·cases e
 ·rename_i hn
  cases e
  exact q _ (Ok.set x rr fun p hm e=>hn (by rw [← e]; exact hp p hm))
theorem PG.weak {tg:Expr} {t t':TG} (h:PG X tg t) (w:∀ v σ H Q,t' v σ H Q→t v σ H Q):PG X tg t':=fun pins s σ H v u Q I r q=>h pins s σ H v u Q I r (w v σ H Q q)
theorem PGs.weak {tg:List Expr} {t t':TGs} (h:PGs X tg t) (w:∀ v σ H Q,t' v σ H Q→t v σ H Q):PGs X tg t':=fun pins s σ H v u Q I r q=>h pins s σ H v u Q I r (w v σ H Q q)
theorem z0q {np:List Nat} {i:Nat} {x:Str} (hp:Np c np) (hN:X.N.Nodup) (hi:X.N[i]? = some x) (hx:Loc X.env.scope x) (hf:X.fn x=true∨X.env.scope.names.lookup x=some .local):SG X c (.Name x pos) (gNm np i) :=
 PG.weak (z8P hN hi hx hf) fun v σ H Q h=>z5L hp h
abbrev DGs:=List D→Dl→Option Dl
def tGDs (c:Fc) (g:DGs):TGs:=fun vs σ H Q=>∃ δ ds δ',Ok c σ δ H∧Reps H (Av c σ δ) vs ds∧g ds δ=some δ'∧∀ σ',Aft c σ δ H σ' δ' H→Q σ' H
abbrev SGs (X:Cx) (c:Fc) (tg:List Expr) (g:DGs):Prop:=PGs X tg (tGDs c g)
def z0y:DGs:=fun ds δ=>match ds with
 | []=>some δ
 | _=>none
def z03 (g:DG) (gs:DGs):DGs:=fun ds δ=>match ds with
 | []=>none
 | d :: r=>(g (.pure d) δ).bind fun δ1=>gs r δ1
theorem z2n:SGs X c [] z0y:=PGs.weak z8O fun vs σ H Q ⟨δ,ds,δ',k,r,e,q⟩=>by
 cases ds with
 | nil =>
  cases e
  have:vs=[]:=by have:=r.1; simpa using this
  exact ⟨this,q σ (.refl k)⟩
 | cons d r=>cases e
theorem z0C {es:List Expr} {g:DG} {gs:DGs} (h1:SG X c e g) (h2:SGs X c es gs) (hs:(WT (e :: es) X.env).map (·.2)=assign e X.env :: (WT es X.env).map (·.2):=by rfl):SGs X c (e :: es) (z03 g gs) :=
 PGs.weak (z7o h1 h2 hs) fun vs σ H Q ⟨δ,ds,δ',k,r,e,q⟩=>by
  cases ds with
  | nil=>cases e
  | cons d ds =>
   cases vs with
   | nil=>have:=r.1; simp at this
   | cons v vs =>
    simp only [z03] at e
    cases e1:g (.pure d) δ with
    | none=>rw [e1] at e; cases e
    | some δ1 =>
     rw [e1] at e
     refine ⟨v,vs,rfl,σ,δ,H,δ,.pure d,δ1,.refl k,r.head,e1,fun σ1 a1=>?_⟩
     exact ⟨δ1,ds,δ',a1.ok,Reps.aft r.tail a1,e,fun σ2 a2=>q σ2 (a1.trans a2)⟩
def gTp (n:Nat) (gs:DGs):DG:=fun r δ=>match r.d with
 | .tup ds=>if ds.length=n then gs ds δ else none
 | _=>none
theorem z3d {es:List Expr} {k:Nat} {gs:DGs} {n:Nat} (hc:X.calm=true) (h:SGs X c es gs) (hn:(WT es X.env).length=n:=by rfl) (hst:(WT es X.env).findIdx? (·.1)=none:=by rfl) :
  SG X c (.Tuple es k pos) (gTp n gs):=PG.weak (zaY hc h hn hst) fun v σ H Q hw=>by
 obtain ⟨σ₀,δ₀,H₁,δ,r,δ',x,rr,e,q⟩:=hw
 have hb:=rr.b
 unfold gTp at e
 generalize r.d=d at e hb
 cases d <;> first | (cases e; done) | skip
 rename_i ds
 simp only at e
 split at e
 ·rename_i hl
  obtain ⟨a,vs,ea,ha,ra⟩:=hb.tup
  exact ⟨a,vs,ea,.of ha,by rw [ra.1]; exact hl,δ,ds,δ',x.ok,ra,e,fun σ' a1=>q σ' (x.trans a1)⟩
 ·cases e
def dAsg (f:DE) (g:DG):DS:=fun δ=>(f δ).bind fun r δ1=>match g r δ1 with
 | some δ2=>.ok .next δ2
 | none=>.stuck
theorem z5V {g:DG} {D:Ends} {σ:St} {H:Hp} {te:TE} {tg:TG} (he:∀ σ H Q,tD c fe σ H Q→te σ H Q) (hg:∀ v σ H Q,tGD c g v σ H Q→tg v σ H Q) (h:tDS c (dAsg fe g) D σ H):tAsg te tg D σ H:=by
 obtain ⟨δ,k,q⟩:=h
 unfold dAsg z2B at q
 rw [z04] at q
 refine he _ _ _ ⟨δ,k,z01 q fun r δ1 q1 v H1 a1 r1=>hg _ _ _ _ ?_⟩
 cases e:g r δ1 with
 | none=>rw [e] at q1; exact q1.elim
 | some δ2 =>
  rw [e] at q1
  exact ⟨σ,δ,H,δ1,r,δ2,a1,r1,e,fun σ' a2=>q1 σ' H1 a2⟩
theorem z3T {tg:Expr} {g:DG} (he:SE X c e fe) (hg:SG X c tg g) (hs:swapsWithSole [tg] e pos.line X.env=pure false:=by rfl) (hw:swappedStores [tg] e X.env=pure none:=by rfl)
  (h1:(WT [tg] X.env).map (·.2)=[assign tg X.env]:=by rfl):SS X c (.Assign [tg] e pos) (dAsg fe g):=PS.weak (zaX he hg hs hw h1) fun D σ H h=>z5V (fun _ _ _ h=>h) (fun _ _ _ _ h=>h) h
theorem z0F {np:List Nat} {i:Nat} {x:Str} (hp:Np c np) (hN:X.N.Nodup) (hi:X.N[i]? = some x) (hx:Loc X.env.scope x) (he:SE X c e fe) (hs:QD e (some (.Name x pos')) pos.line X.env=pure false) (hf:X.fn x=true∨X.env.scope.names.lookup x=some .local) :
  SS X c (.Assign [.Name x pos'] e pos) (dAsg fe (gNm np i)):=PS.weak (zd3 hN hi hx he hs hf) fun D σ H h=>z5V (fun _ _ _ h=>h) (fun _ _ _ _ h=>z5L hp h) h
theorem zbA (he:SE X c e fe) (hs:∀ (x:Value),QD e none pos.line X.env=pure false:=by intro _; rfl) (hd:True:=trivial) (h:PS X (.Expr e pos) (zbt (tD c fe))):SS X c (.Expr e pos) (z6C fe):=PS.weak h fun D σ H ⟨δ,k,q⟩=>by
 unfold z6C z2B at q
 rw [z04] at q
 exact ⟨δ,k,z01 q fun r δ1 q1 v H1 a1 r1=>q1 σ H1 a1⟩
theorem Ok.mutL {σ:St} {δ:Dl} {H:Hp} {i:Nat} {ds ds':List D} {a:Addr} {vs':List V} (k:Ok c σ δ H) (e:δ[i]? = some (some (.own (.lst ds)))) (ea:σ[i]? = some (some (.ref a))) (r:Reps H (Av c σ δ) vs' ds') :
  Aft c σ δ H σ (δ.set i (some (.own (.lst ds')))) (upd H a (.lst vs')):=by
 have hi:i < δ.length:=(W3.mp e).1
 obtain ⟨a',ea',oa,ia,nb⟩:=k.own i _ e
 rw [ea] at ea'; cases ea'
 obtain ⟨vs,ha,_⟩:=oa
 have ownA:Own σ δ a:=⟨i,_,e,ea⟩
 have avA:Av c σ δ a:=.inr ownA
 have own_iff:∀ b,Own σ (δ.set i (some (.own (.lst ds')))) b ↔ Own σ δ b:=fun b=>by
  constructor
  ·rintro ⟨j,d,e1,e2⟩
   by_cases hj:i=j
   ·subst hj
    exact ⟨i,_,e,e2⟩
   ·rw [W4 hj] at e1
    exact ⟨j,d,e1,e2⟩
  ·rintro ⟨j,d,e1,e2⟩
   by_cases hj:i=j
   ·subst hj
    exact ⟨i,_,by rw [Wl hi],e2⟩
   ·exact ⟨j,d,by rw [W4 hj]; exact e1,e2⟩
 have av_iff:∀ b,Av c σ (δ.set i (some (.own (.lst ds')))) b→Av c σ δ b:=fun b z=>z.elim .inl fun z=>.inr ((own_iff b).mp z)
 have ne:∀ b,¬ Av c σ δ b→b≠a:=fun b n z=>n (by rw [z]; exact avA)
 have kp:∀ b o,H b=some o→¬ Av c σ δ b→upd H a (.lst vs') b=some o:=fun b o h n=>by rw [z0n (ne b n)]; exact h
 have hup:∀ b o,H b=some o→∃ o',upd H a (.lst vs') b=some o':=fun b o h=>by
  by_cases hb:b=a
  ·exact ⟨_,by rw [hb]; exact z0B⟩
  ·exact ⟨o,by rw [z0n hb]; exact h⟩
 refine ⟨⟨fun b o h n=>?_,fun b z=>?_,fun b z=>?_,by rw [QI]; exact k.len,fun j d h=>?_,fun j d h=>?_,fun j l b d d' h1 h2 h3 h4=>?_,k.pinned⟩,fun b o h n=>?_,fun b z=>.inl ((own_iff b).mp z),hup⟩
 ·have hb:b≠a:=fun z=>by
   subst z
   rcases ia with z | z
   ·exact n z
   ·rw [z] at h; cases h
  rw [z0n hb]
  exact k.keep b o h n
 ·obtain ⟨o,h⟩:=k.bd b z
  exact hup b o h
 ·obtain ⟨o,h⟩:=k.ith b z
  exact hup b o h
 ·have hj:i≠j:=fun z=>by subst z; rw [Wl hi] at h; cases h
  rw [W4 hj] at h
  obtain ⟨v,h1,h2⟩:=k.slot j d h
  exact ⟨v,h1,(h2.keep kp).anti fun b z=>.inl (av_iff b z)⟩
 ·by_cases hj:i=j
  ·subst hj
   rw [Wl hi] at h
   cases h
   exact ⟨a,ea,⟨vs',z0B,Reps.anti (Reps.keep r kp) fun b z=>.inl (av_iff b z)⟩,ia,nb⟩
  ·rw [W4 hj] at h
   obtain ⟨b,h1,h2,h3,h4⟩:=k.own j d h
   have hb:b≠a:=fun z=>by subst z; exact hj (k.inj i j b _ d e h ea h1)
   exact ⟨b,h1,(h2.keep kp fun o q=>by rw [z0n hb]; exact q).anti fun b z=>.inl (av_iff b z),h3,h4⟩
 ·have f1:∃ d,δ[j]? = some (some (.own d)):=by
   by_cases hj:i=j
   ·subst hj; exact ⟨_,e⟩
   ·rw [W4 hj] at h1; exact ⟨d,h1⟩
  have f2:∃ d,δ[l]? = some (some (.own d)):=by
   by_cases hj:i=l
   ·subst hj; exact ⟨_,e⟩
   ·rw [W4 hj] at h2; exact ⟨d',h2⟩
  obtain ⟨_,f1⟩:=f1
  obtain ⟨_,f2⟩:=f2
  exact k.inj j l b _ _ f1 f2 h3 h4
 ·have hb:b≠a:=fun z=>n (by rw [z]; exact ownA)
  rw [z0n hb]; exact h
def z2j (δ:Dl) (i:Nat):Bool:=match δ[i]? with
 | some (some (.own (.lst _)))=>true
 | _=>false
def putL (δ:Dl) (i:Nat) (f:List D→Option (List D)):Rs Fl:=match δ[i]? with
 | some (some (.own (.lst ds)))=>match f ds with
  | some ds'=>.ok .next (δ.set i (some (.own (.lst ds'))))
  | none=>.stuck
 | _=>.stuck
theorem z6s (h:z2j δ i=true):∃ ds,δ[i]? = some (some (.own (.lst ds))):=by
 unfold z2j at h
 split at h
 ·rename_i ds e; exact ⟨ds,e⟩
 ·cases h
theorem z6a {δ:Dl} {i:Nat} {g:List D→Option (List D)} {kk:Fl→Dl→Prop} (h:post c (putL δ i g) kk):∃ ds ds',δ[i]? = some (some (.own (.lst ds)))∧g ds=some ds'∧kk .next (δ.set i (some (.own (.lst ds')))):=by
 unfold putL at h
 split at h
 ·rename_i ds e
  split at h
  ·rename_i ds' e2
   exact ⟨ds,ds',e,e2,h⟩
  ·exact h.elim
 ·exact h.elim
def z0s (i:Nat) (f:DE):DS:=fun δ=>if z2j δ i then (f δ).bind fun r δ1=>putL δ1 i fun ds=>if ds.length < W6 then some (ds ++ [r.d]) else none else .stuck
theorem z8n {i:Nat} {o:Expr} {p0 apos cpos:Pos} (ho:PE X o (tVar i)) (he:SE X c e fe)
  (h:PS X (.Expr (.Call (.Attribute o "append" apos) [e] [] cpos) pos) (zbt (tBM X.K "list" z8F (tVar i) (zbu (tD c fe) tNil)))):SS X c (.Expr (.Call (.Attribute o "append" apos) [e] [] cpos) pos) (z0s i fe) :=
 PS.weak h fun D σ H ⟨δ,k,q⟩=>by
  unfold z0s z2B at q
  split at q
  ·rename_i hown
   obtain ⟨ds0,e0⟩:=z6s hown
   rw [z04] at q
   obtain ⟨a,ea,oa,_⟩:=k.own i _ e0
   refine ⟨.ref a,ea,?_,δ,k,z01 q fun r δ1 q1 v H1 a1 r1=>?_⟩
   ·obtain ⟨vs,ha,_⟩:=oa
    exact .inl ⟨rfl,vs,.of ha⟩
   ·obtain ⟨ds,ds',e1,e2,q2⟩:=z6a q1
    split at e2
    ·rename_i hz
     cases e2
     obtain ⟨a',ea',oa1,_⟩:=a1.ok.own i _ e1
     rw [ea] at ea'; cases ea'
     obtain ⟨vs,ha,ra⟩:=id oa1
     refine ⟨a,vs,v,rfl,rfl,ha,by rw [ra.1]; exact hz,?_⟩
     exact q2 σ _ (a1.trans (Ok.mutL a1.ok e1 ea (ra.append (.cons r1.rep .nil))))
    ·cases e2
  ·exact q.elim
def z87 (i:Nat) (fi:DE) (fe:DE):DS:=fun δ=>if z2j δ i then (fe δ).bind fun r δ1=>(fi δ1).bind fun k δ2=>match k with
 | .pure (.int j)=>putL δ2 i fun ds=>(ixN ds.length j).map fun n=>ds.set n r.d
 | _=>.stuck else .stuck
theorem z8m {i:Nat} {o ix:Expr} {fi:DE} {sp:Pos} (ho:PE X o (tVar i)) (hi:SE X c ix fi) (he:SE X c e fe)
  (ha:∀ v,assign (.Subscript o ix sp) X.env v=(do
   let ov ← holding [v] (eval o X.env)
   let iv ← holding [v,ov] (eval ix X.env)
   standAt sp
   holding [v,ov,iv] (setItem ov iv v)
   release [v,ov,iv] []):=by intro _; rfl)
  (hs:swapsWithSole [.Subscript o ix sp] e pos.line X.env=pure false:=by rfl) (hw:swappedStores [.Subscript o ix sp] e X.env=pure none:=by rfl)
  (h1:(WT [.Subscript o ix sp] X.env).map (·.2)=[assign (.Subscript o ix sp) X.env]:=by rfl):SS X c (.Assign [.Subscript o ix sp] e pos) (z87 i fi fe) :=
 PS.weak (zaX he (zd6 ho hi z9Z ha) hs hw h1) fun D σ H ⟨δ,k,q⟩=>by
  unfold z87 z2B at q
  split at q
  ·rename_i hown
   obtain ⟨ds0,e0⟩:=z6s hown
   rw [z04] at q
   obtain ⟨a,ea,_,_⟩:=k.own i _ e0
   refine ⟨δ,k,z01 q fun r δ1 q1 v H1 a1 r1=>⟨.ref a,ea,δ1,a1.ok,?_⟩⟩
   rw [z04] at q1
   refine z01 q1 fun kx δ2 q2 u H2 a2 r2=>?_
   cases kx with
   | own d=>exact q2.elim
   | pure d =>
    cases d <;> first | exact q2.elim | skip
    rename_i j
    cases r2
    obtain ⟨ds,ds',e1,e2,q3⟩:=z6a q2
    cases e3:ixN ds.length j with
    | none=>rw [e3] at e2; cases e2
    | some n =>
     rw [e3] at e2
     cases e2
     obtain ⟨a',ea',oa1,_⟩:=a2.ok.own i _ e1
     rw [ea] at ea'; cases ea'
     obtain ⟨vs,ha,ra⟩:=id oa1
     refine ⟨a,vs,j,n,rfl,rfl,ha,by rw [ra.1]; exact e3,?_⟩
     exact q3 σ _ (a1.trans (a2.trans (Ok.mutL a2.ok e1 ea (ra.set (Rep.aft r1.rep a2) n))))
  ·exact q.elim
end
abbrev DI:=Dl→Rs (List D)
def ItOk (c:Fc) (σ:St) (δ:Dl) (H:Hp) (J:It) (ds:List D):Prop:=∀ H2,(∀ a o,H a=some o→¬ Own σ δ a→H2 a=some o)→J.stop ds.length H2 ∧
 ∀ (i:Nat) d,ds[i]? = some d→J.go i H2∧∀ x H3,J.yld i H2 x H3→(H3=H2∧Rep H (Av c σ δ) x d) ∨
  ∃ p vs es,H2 p=none∧H3=upd H2 p (.tup vs)∧x = .ref p∧d = .tup es∧Reps H (Av c σ δ) vs es
def tI (c:Fc) (f:DI):TI:=fun σ H R=>∃ δ,Ok c σ δ H∧post c (f δ) fun ds δ'=>∀ J H',Aft c σ δ H σ δ' H'→ItOk c σ δ' H' J ds→R J H'
abbrev SI (X:Cx) (c:Fc) (tg iter:Expr) (f:DI):Prop:=PI X tg iter (tI c f)
theorem PI.weak (h:PI X tg iter t) (w:∀ σ H R,t' σ H R→t σ H R):PI X tg iter t':=fun pins s σ H R I q=>h pins s σ H R I (w σ H R q)
section
variable {X:Cx} {c:Fc} {tg e:Expr} {fe:DE} {pos pp:Pos}
theorem zdD (K:W0) (h:H a=some (.tup vs)) (n:¬ Own σ δ a) (r:Reps H (Av c σ δ) vs ds):ItOk c σ δ H (Itt K a) ds:=by
 intro H2 kp
 have h2:=kp a _ h n
 refine ⟨⟨vs,.of h2,by rw [r.1]; exact Wc _⟩,fun i d e=>?_⟩
 obtain ⟨v,ev,rv⟩:=r.get e
 refine ⟨⟨vs,v,.of h2,ev⟩,fun x H3 ⟨e3,y⟩=>.inl ⟨e3,?_⟩⟩
 have:=y vs (.of h2)
 rw [ev] at this
 cases this
 exact rv
def z0A (lo:Int) (n:Nat):List D:=(WS n).map fun k:Nat=>D.int (lo + k)
theorem z7Q {lo:Int} {n i:Nat} {d:D} (h:(z0A lo n)[i]? = some d):i < n∧d = .int (lo + i):=by
 unfold z0A at h
 rw [Wz] at h
 by_cases hi:i < n
 ·rw [List.getElem?_range hi] at h
  simp at h
  exact ⟨hi,h.symm⟩
 ·rw [WO (by simpa using hi)] at h
  cases h
theorem zau (lo:Int) (n:Nat):ItOk c σ δ H (Itr lo n) (z0A lo n):=by
 intro H2 kp
 refine ⟨by show n≤(z0A lo n).length; simp [z0A],fun i d e=>?_⟩
 obtain ⟨hi,rfl⟩:=z7Q e
 exact ⟨hi,fun x H3 ⟨e3,ex⟩=>.inl ⟨e3,by rw [ex]; exact .int _⟩⟩
def z59 (j:Int):Bool:=decide (-(2 ^ 62)≤j) && decide (j < 2 ^ 62)
def z0x (f:DE):DI:=fun δ=>(f δ).bind fun r δ1=>match r with
 | .pure (.int j)=>if z59 j then .ok (z0A 0 j.toNat) δ1 else .stuck
 | _=>.stuck
theorem z1n (hg:Gl X "range") (hm:X.mg "range" = none) (he:SE X c e fe) (hs:W5 [e] X.env=[(false,eval e X.env)]:=by rfl):SI X c tg (.Call (.Name "range" pp) [e] [] pos) (z0x fe) :=
 PI.weak (z8N hg hm (z0X he z1S hs) hs) fun σ H R ⟨δ,k,q⟩=>by
  unfold z0x at q
  rw [z04] at q
  refine ⟨δ,k,z01 q fun r δ1 q1 v H1 a1 r1=>?_⟩
  cases r with
  | own d=>exact q1.elim
  | pure d =>
   cases d <;> first | exact q1.elim | skip
   rename_i j
   cases r1
   simp only at q1
   split at q1
   ·rename_i hj
    unfold z59 at hj
    simp only [Wg,decide_eq_true_eq] at hj
    exact ⟨j,rfl,hj.1,hj.2,q1 _ H1 a1 (zau 0 j.toNat)⟩
   ·exact q1.elim
def forL (g:DG) (b:DS):List D→DS
 | [],δ=>.ok .next δ
 | d :: r,δ=>match g (.pure d) δ with
  | none=>.stuck
  | some δ1=>(b δ1).bind fun fl δ2=>match fl with
   | .next=>forL g b r δ2
   | .cont=>forL g b r δ2
   | .brk=>.ok .next δ2
   | .ret v=>.ok (.ret v) δ2
def dFor (it:DI) (g:DG) (b:DS):DS:=fun δ=>(it δ).bind fun ds δ1=>forL g b ds δ1
theorem z7g (io:ItOk c σ δ H J ds) (a:Aft c σ δ H σ2 δ2 H2) (e:ds[i]? = some d) (y:J.yld i H2 x H3):Aft c σ2 δ2 H2 σ2 δ2 H3∧Rep H3 (Av c σ2 δ2) x d:=by
 obtain ⟨_,t⟩:=io H2 a.keep
 rcases (t i d e).2 x H3 y with ⟨e3,r⟩ | ⟨p,vs,es,hp,e3,ex,ed,r⟩
 ·subst e3
  exact ⟨.refl a.ok,Rep.aft r a⟩
 ·subst e3 ex ed
  have:=RepS.newT a.ok (Reps.aft r a) hp
  exact ⟨.alloc a.ok hp _,this⟩
theorem z2d {iter:Expr} {body:List Stmt} {it:DI} {g:DG} {b:DS} (hp:PassesOwn (model X.prog X.w) X.A X.env X.xe) (hc:X.calm=true) (hi:SI X c tg iter it) (hg:SG X c tg g) (hb:SSs X c body b)
  (hs:∀ x,Qo iter X.env x=pure x:=by intro _; rfl):SS X c (.For tg iter body [] pos) (dFor it g b):=PS.weak (zd5 hp hc hi hg hb hs) fun D σ H ⟨δ,k,q⟩=>by
 unfold dFor z2B at q
 rw [z04] at q
 refine ⟨δ,k,z01 q fun ds δ1 q1 J H1 a1 io=>?_⟩
 refine ⟨fun i m σ2 H2=>∃ δ2,m=ds.length - i∧i≤ds.length∧Aft c σ δ1 H1 σ2 δ2 H2∧z2B c D σ2 δ2 H2 (forL g b (ds.drop i) δ2),⟨ds.length,δ1,by simp,Qf _,.refl a1.ok,?_⟩,?_⟩
 ·rw [List.drop_zero]
  exact z01 q1 fun fl δ2 q2 σ2 H2 a2=>q2 σ2 H2 (a1.trans a2)
 ·rintro i m σ2 H2 ⟨δ2,rfl,hil,a2,p2⟩
  by_cases hlt:i < ds.length
  ·right
   have e:ds[i]? = some ds[i]:=by simp [hlt]
   rw [List.drop_eq_getElem_cons hlt] at p2
   refine ⟨((io H2 a2.keep).2 i _ e).1,fun σ4 H4=>∃ δ4,Aft c σ δ1 H1 σ4 δ4 H4∧z2B c D σ4 δ4 H4 (forL g b (ds.drop (i + 1)) δ4),fun σ4 H4 ⟨δ4,a4,p4⟩=>⟨ds.length - (i + 1),by omega,δ4,rfl,hlt,a4,p4⟩,fun x H3 y=>?_⟩
   obtain ⟨a3,r3⟩:=z7g io a2 e y
   simp only [forL,z2B] at p2
   cases eg:g (.pure ds[i]) δ2 with
   | none=>rw [eg] at p2; exact p2.elim
   | some δ3 =>
    rw [eg] at p2
    refine ⟨σ2,δ2,H3,δ2,.pure ds[i],δ3,.refl a3.ok,r3,eg,fun σ3 a3'=>?_⟩
    have p3:post c ((b δ3).bind fun fl δ2=>match fl with
     | .next=>forL g b (ds.drop (i + 1)) δ2
     | .cont=>forL g b (ds.drop (i + 1)) δ2
     | .brk=>.ok .next δ2
     | .ret v=>.ok (.ret v) δ2) fun fl δ'=>∀ σ' H',Aft c σ2 δ2 H2 σ' δ' H'→fin c D σ' δ' H' fl:=p2
    rw [z04] at p3
    have a23:Aft c σ2 δ2 H2 σ3 δ3 H3:=a3.trans a3'
    refine ⟨δ3,a3'.ok,z01 p3 fun fl δ4 p4 σ4 H4 a4=>?_⟩
    have a24:=a23.trans a4
    cases fl with
    | next=>exact ⟨δ4,a2.trans a24,z01 p4 fun fl δ5 p5 σ5 H5 a5=>p5 σ5 H5 (a24.trans a5)⟩
    | cont=>exact ⟨δ4,a2.trans a24,z01 p4 fun fl δ5 p5 σ5 H5 a5=>p5 σ5 H5 (a24.trans a5)⟩
    | brk=>exact p4 σ4 H4 a24
    | ret r=>exact p4 σ4 H4 a24
  ·left
   have hi2:i=ds.length:=by omega
   subst hi2
   rw [List.drop_length] at p2
   exact ⟨(io H2 a2.keep).1,p2 σ2 H2 (.refl a2.ok)⟩
end
def clrD (cs:List Nat) (δ:Dl):Dl:=cs.foldl (fun δ i=>δ.set i none) δ
def z1e (cs:List Nat) (δ₁ δ:Dl):Dl:=cs.foldl (fun δ i=>match δ₁[i]? with | some o=>δ.set i o | none=>δ) δ
def z0p (δ:Dl) (i:Nat):Bool:=match δ[i]? with
 | some (some (.own _))=>true
 | _=>false
theorem z7F (cs:List Nat):∀ δ:Dl,(clrD cs δ).length=δ.length:=by
 induction cs with
 | nil=>intro δ; rfl
 | cons i r ih =>
  intro δ
  show (clrD r (δ.set i none)).length=_
  rw [ih]; simp
theorem z1f:∀ (cs:List Nat) (δ:Dl) (i:Nat) (v:S),(clrD cs δ)[i]? = some (some v)→δ[i]? = some (some v)∧i ∉ cs:=by
 intro cs
 induction cs with
 | nil=>intro δ i v h; exact ⟨h,by simp⟩
 | cons j r ih =>
  intro δ i v h
  have h':(clrD r (δ.set j none))[i]? = some (some v):=h
  obtain ⟨h1,h2⟩:=ih _ i v h'
  by_cases e:j=i
  ·subst e
   rw [WA] at h1
   simp at h1
  ·rw [W4 e] at h1
   exact ⟨h1,by simp only [Wh,not_or]; exact ⟨Ne.symm e,h2⟩⟩
theorem z2v:∀ (cs:List Nat) (σ:St) (i:Nat),i ∉ cs→(clr cs σ)[i]? = σ[i]?:=by
 intro cs
 induction cs with
 | nil=>intro σ i _; rfl
 | cons j r ih =>
  intro σ i h
  simp only [Wh,not_or] at h
  show (clr r (σ.set j none))[i]? = _
  rw [ih _ _ h.2,W4 (Ne.symm h.1)]
theorem zaI:∀ (cs:List Nat) (δ:Dl) (i:Nat),i ∉ cs→(clrD cs δ)[i]? = δ[i]?:=by
 intro cs
 induction cs with
 | nil=>intro σ i _; rfl
 | cons j r ih =>
  intro σ i h
  simp only [Wh,not_or] at h
  show (clrD r (σ.set j none))[i]? = _
  rw [ih _ _ h.2,W4 (Ne.symm h.1)]
theorem z9O (cs:List Nat) (δ₁:Dl):∀ δ:Dl,(z1e cs δ₁ δ).length=δ.length:=by
 induction cs with
 | nil=>intro δ; rfl
 | cons i r ih =>
  intro δ
  unfold z1e
  rw [QJ]
  have:=ih (match δ₁[i]? with | some o=>δ.set i o | none=>δ)
  unfold z1e at this
  rw [this]
  cases δ₁[i]? <;> simp
theorem z3A:∀ (cs:List Nat) (δ₁ δ:Dl) (i:Nat),i ∉ cs→(z1e cs δ₁ δ)[i]? = δ[i]?:=by
 intro cs δ₁
 induction cs with
 | nil=>intro δ i _; rfl
 | cons j r ih =>
  intro δ i h
  simp only [Wh,not_or] at h
  unfold z1e
  rw [QJ]
  have:=ih (match δ₁[j]? with | some o=>δ.set j o | none=>δ) i h.2
  unfold z1e at this
  rw [this]
  cases δ₁[j]? with
  | none=>rfl
  | some o=>simp only; rw [W4 (Ne.symm h.1)]
theorem z5T:∀ (cs:List Nat) (δ₁ δ:Dl) (i:Nat),δ₁.length=δ.length→i ∈ cs→(z1e cs δ₁ δ)[i]? = δ₁[i]?:=by
 intro cs δ₁
 induction cs with
 | nil=>intro δ i _ h; simp at h
 | cons j r ih =>
  intro δ i hl h
  unfold z1e
  rw [QJ]
  have hl2:δ₁.length=(match δ₁[j]? with | some o=>δ.set j o | none=>δ).length:=by cases δ₁[j]? <;> simp [hl]
  by_cases hr:i ∈ r
  ·have:=ih (match δ₁[j]? with | some o=>δ.set j o | none=>δ) i hl2 hr
   unfold z1e at this
   exact this
  ·have e:i=j:=by
    rcases Wh.mp h with e | e
    ·exact e
    ·exact absurd e hr
   subst e
   have:=z3A r δ₁ (match δ₁[i]? with | some o=>δ.set i o | none=>δ) i hr
   unfold z1e at this
   rw [this]
   cases e:δ₁[i]? with
   | none =>
    simp only
    have:=List.getElem?_eq_none_iff.mp e
    exact WO (by omega)
   | some o =>
    simp only
    have:=(W3.mp e).1
    rw [Wl (by omega)]
section
variable {c:Fc} {σ:St} {δ δ':Dl} {H H':Hp} {l:Addr} {cs:List Nat}
theorem Ok.less (k:Ok (c.plus l) σ δ H):Ok c σ δ H:=by
 have sub:∀ b,Av c σ δ b→Av (c.plus l) σ δ b:=fun b z=>z.elim (fun z=>.inl (.inl z)) .inr
 refine ⟨k.keep,fun a z=>k.bd a (.inl z),k.ith,k.len,fun i d e=>?_,fun i d e=>?_,k.inj,k.pinned⟩
 ·obtain ⟨v,h1,h2⟩:=k.slot i d e
  exact ⟨v,h1,h2.anti fun b z=>.inl (sub b z)⟩
 ·obtain ⟨a,h1,h2,h3,h4⟩:=k.own i d e
  exact ⟨a,h1,h2.anti fun b z=>.inl (sub b z),h3,fun z=>h4 (.inl z)⟩
theorem Ok.updB (k:Ok c σ δ H) (hb:c.B l) (h0:c.H₀ l=none) (o:HO):Ok c σ δ (upd H l o):=by
 have kp:∀ b w,H b=some w→¬ Av c σ δ b→upd H l o b=some w:=fun b w e n=>by
  rw [z0n (fun z=>n (by rw [z]; exact .inl hb))]; exact e
 have hup:∀ b w,H b=some w→∃ w',upd H l o b=some w':=fun b w h=>by
  by_cases hb:b=l
  ·exact ⟨_,by rw [hb]; exact z0B⟩
  ·exact ⟨w,by rw [z0n hb]; exact h⟩
 refine ⟨fun a w e n=>?_,fun a z=>?_,fun a z=>?_,k.len,fun i d e=>?_,fun i d e=>?_,k.inj,k.pinned⟩
 ·have:a≠l:=fun z=>by rw [z,h0] at e; cases e
  rw [z0n this]; exact k.keep a w e n
 ·obtain ⟨w,e⟩:=k.bd a z; exact hup a w e
 ·obtain ⟨w,e⟩:=k.ith a z; exact hup a w e
 ·obtain ⟨v,h1,h2⟩:=k.slot i d e
  exact ⟨v,h1,h2.keep kp⟩
 ·obtain ⟨a,h1,h2,h3,h4⟩:=k.own i d e
  have:a≠l:=fun z=>h4 (by rw [z]; exact hb)
  exact ⟨a,h1,h2.keep kp fun w q=>by rw [z0n this]; exact q,h3,h4⟩
theorem Own.clr (h:Own (clr cs σ) (clrD cs δ) l):Own σ δ l:=by
 obtain ⟨i,d,e1,e2⟩:=h
 exact ⟨i,d,(z1f cs δ i _ e1).1,(z2P cs σ i _ e2).1⟩
theorem Ok.clr (k:Ok c σ δ H) (hp:∀ p ∈ c.pin,p.1 ∉ cs):Ok c (L2.clr cs σ) (clrD cs δ) H:=by
 have sub:∀ b,Av c (L2.clr cs σ) (clrD cs δ) b→Av c σ δ b:=fun b z=>z.elim .inl fun z=>.inr z.clr
 refine ⟨k.keep,k.bd,k.ith,by rw [z7F,z5Q]; exact k.len,fun i d e=>?_,fun i d e=>?_,fun i j a d d' e1 e2 e3 e4=>?_,fun p hm=>?_⟩
 ·obtain ⟨e',hi⟩:=z1f cs δ i _ e
  obtain ⟨v,h1,h2⟩:=k.slot i d e'
  exact ⟨v,by rw [z2v cs σ i hi]; exact h1,h2.anti fun b z=>.inl (sub b z)⟩
 ·obtain ⟨e',hi⟩:=z1f cs δ i _ e
  obtain ⟨a,h1,h2,h3⟩:=k.own i d e'
  exact ⟨a,by rw [z2v cs σ i hi]; exact h1,h2.anti fun b z=>.inl (sub b z),h3⟩
 ·exact k.inj i j a d d' (z1f cs δ i _ e1).1 (z1f cs δ j _ e2).1 (z2P cs σ i _ e3).1 (z2P cs σ j _ e4).1
 ·rw [z2v cs σ _ (hp p hm)]; exact k.pinned p hm
theorem Aft.back (k:Ok c₀ σ δ H) (hpin:c.pin=c₀.pin) (hB:∀ b,c.B b→c₀.B b∨H b=none) (hno:cs.any (z0p δ)=false) (x:Aft c (L2.clr cs σ) (clrD cs δ) H (L2.clr cs σ) δ' H'):Aft c σ δ H σ (z1e cs δ δ') H':=by
 have len:δ.length=δ'.length:=by
  have:=x.ok.len
  rw [z5Q] at this
  rw [this]; exact k.len
 have nown:∀ i d,i ∈ cs→δ[i]?≠some (some (.own d)):=fun i d hi e=>by
  have:=List.any_eq_false.mp hno i hi
  unfold z0p at this
  rw [e] at this
  simp at this
 have ownOut:∀ i d,(z1e cs δ δ')[i]? = some (some (.own d))→i ∉ cs∧δ'[i]? = some (some (.own d)):=fun i d e=>by
  by_cases hi:i ∈ cs
  ·rw [z5T cs δ δ' i len hi] at e
   exact absurd e (nown i d hi)
  ·rw [z3A cs δ δ' i hi] at e
   exact ⟨hi,e⟩
 have sub:∀ b,Own σ (z1e cs δ δ') b→Own (L2.clr cs σ) δ' b:=fun b ⟨i,d,e1,e2⟩=>by
  obtain ⟨hi,e⟩:=ownOut i d e1
  exact ⟨i,d,e,by rw [z2v cs σ i hi]; exact e2⟩
 have subA:∀ b,Av c σ (z1e cs δ δ') b→Av c (L2.clr cs σ) δ' b:=fun b z=>z.elim .inl fun z=>.inr (sub b z)
 have ownEq:∀ b,Own σ δ b→Own (L2.clr cs σ) (clrD cs δ) b:=fun b ⟨i,d,e1,e2⟩=>by
  have hi:i ∉ cs:=fun z=>nown i d z e1
  exact ⟨i,d,by rw [zaI cs δ i hi]; exact e1,by rw [z2v cs σ i hi]; exact e2⟩
 refine ⟨⟨x.ok.keep,x.ok.bd,x.ok.ith,by rw [z9O,← len]; exact k.len,fun i d e=>?_,fun i d e=>?_,fun i j a d d' e1 e2 e3 e4=>?_,by rw [hpin]; exact k.pinned⟩,fun a o e n=>?_,fun a z=>?_,x.there⟩
 ·by_cases hi:i ∈ cs
  ·rw [z5T cs δ δ' i len hi] at e
   obtain ⟨v,h1,h2⟩:=k.slot i d e
   have h3:Rep H (Av c (L2.clr cs σ) (clrD cs δ)) v d:=h2.anti fun b z=>by
    rcases z with z | z
    ·exact (hB b z).elim (fun z=>.inl (.inl z)) .inr
    ·exact .inl (.inr z.clr)
   exact ⟨v,h1,(Rep.aft h3 x).anti fun b z=>.inl (subA b z)⟩
  ·rw [z3A cs δ δ' i hi] at e
   obtain ⟨v,h1,h2⟩:=x.ok.slot i d e
   exact ⟨v,(z2P cs σ i v h1).1,h2.anti fun b z=>.inl (subA b z)⟩
 ·obtain ⟨hi,e'⟩:=ownOut i d e
  obtain ⟨a,h1,h2,h3⟩:=x.ok.own i d e'
  exact ⟨a,(z2P cs σ i _ h1).1,h2.anti fun b z=>.inl (subA b z),h3⟩
 ·obtain ⟨hi,f1⟩:=ownOut i d e1
  obtain ⟨hj,f2⟩:=ownOut j d' e2
  exact x.ok.inj i j a d d' f1 f2 (by rw [z2v cs σ i hi]; exact e3) (by rw [z2v cs σ j hj]; exact e4)
 ·exact x.keep a o e fun z=>n z.clr
 ·rcases x.own a (sub a z) with q | q
  ·exact .inl q.clr
  ·exact .inr q
end
def z1u (cs:List Nat) (g:DG) (t:DT) (el:DE):List D→Dl→List D→Rs (List D)
 | [],δ,acc=>.ok acc δ
 | d :: r,δ,acc=>match g (.pure d) δ with
  | none=>.stuck
  | some δ1=>(t δ1).bind fun b δ2=>if b then (el δ2).bind fun x δ3=>if acc.length < W6 then z1u cs g t el r (clrD cs δ3) (acc ++ [x.d]) else .stuck
   else z1u cs g t el r (clrD cs δ2) acc
def z0r (cs:List Nat) (it:DI) (g:DG) (t:DT) (el:DE):DE:=fun δ=>(it δ).bind fun ds δ1=>if cs.any (z0p δ1) then .stuck else
 (z1u cs g t el ds (clrD cs δ1) []).bind fun acc δ2=>.ok (.own (.lst acc)) (z1e cs δ1 δ2)
def dYes:DT:=fun δ=>.ok true δ
abbrev STs (X:Cx) (c:Fc) (ifs:List Expr) (t:DT):Prop:=PTs X ifs (tT c t)
theorem z1g {X:Cx} {c:Fc}:STs X c [] dYes:=fun pins s σ H Q I ⟨δ,k,q⟩=>zbQ pins s σ H Q I (q H (.refl k))
theorem zbx {X:Cx} {c:Fc} {e:Expr} {t:DT} (h:ST X c e t):STs X c [e] t:=zbP h
section
variable {X:Cx} {c:Fc} {cs:List Nat} {tg iter elt:Expr} {ifs:List Expr} {scope:Scope} {pos:Pos} {it:DI} {g:DG} {t:DT} {el:DE}
theorem Aft.clear (x:Aft c (L2.clr cs σ) δ H σ4 δ4 H4) (le:Le (L2.clr cs σ) σ4) (hp:∀ p ∈ c.pin,p.1 ∉ cs) (hs:∀ (i:Nat) v,σ4[i]? = some (some v)→i ∉ cs→σ[i]? = some (some v)):Aft c (L2.clr cs σ) δ H (L2.clr cs σ) (clrD cs δ4) H4:=by
 have eq:∀ i,i ∉ cs→∀ v,σ4[i]? = some (some v)→(L2.clr cs σ)[i]? = some (some v):=fun i hi v e=>by rw [z2v cs σ i hi]; exact hs i v e hi
 have own:∀ b,Own (L2.clr cs σ) (clrD cs δ4) b→Own σ4 δ4 b:=fun b ⟨i,d,e1,e2⟩=>by
  exact ⟨i,d,(z1f cs δ4 i _ e1).1,le.2 i _ e2⟩
 have sub:∀ b,Av c (L2.clr cs σ) (clrD cs δ4) b→Av c σ4 δ4 b:=fun b z=>z.elim .inl fun z=>.inr (own b z)
 have k:=x.ok
 refine ⟨⟨k.keep,k.bd,k.ith,by rw [z7F,k.len]; exact le.1,fun i d e=>?_,fun i d e=>?_,fun i j a d d' e1 e2 e3 e4=>?_,fun p hm=>?_⟩,x.keep,fun a z=>x.own a (own a z),x.there⟩
 ·obtain ⟨e',hi⟩:=z1f cs δ4 i _ e
  obtain ⟨v,h1,h2⟩:=k.slot i d e'
  exact ⟨v,eq i hi v h1,h2.anti fun b z=>.inl (sub b z)⟩
 ·obtain ⟨e',hi⟩:=z1f cs δ4 i _ e
  obtain ⟨a,h1,h2,h3⟩:=k.own i d e'
  exact ⟨a,eq i hi _ h1,h2.anti fun b z=>.inl (sub b z),h3⟩
 ·exact k.inj i j a d d' (z1f cs δ4 i _ e1).1 (z1f cs δ4 j _ e2).1 (le.2 i _ e3) (le.2 j _ e4)
 ·exact eq p.1 (hp p hm) _ (k.pinned p hm)
def Out (cs:List Nat) (σ σ':St):Prop:=σ'.length=σ.length∧∀ i,i ∉ cs→σ'[i]? = σ[i]?
theorem Out.trans (a:Out cs σ σ') (b:Out cs σ' σ''):Out cs σ σ'':=⟨b.1.trans a.1,fun i h=>(b.2 i h).trans (a.2 i h)⟩
def tGC (cs:List Nat) (c:Fc) (g:DG):TG:=fun v σ H Q=>∃ σ₀ δ₀ H₁ δ r δ',Aft c σ₀ δ₀ H₁ σ δ H∧RepS c σ δ H₁ H v r∧g r δ=some δ'∧∀ σ',Aft c σ₀ δ₀ H₁ σ' δ' H→Out cs σ σ'→Q σ' H
abbrev SGC (X:Cx) (c:Fc) (cs:List Nat) (tg:Expr) (g:DG):Prop:=PG X tg (tGC cs c g)
theorem z0H {np:List Nat} {i:Nat} {x:Str} (hp:Np c np) (hN:X.N.Nodup) (hi:X.N[i]? = some x) (hx:Loc X.env.scope x) (hf:X.fn x=true∨X.env.scope.names.lookup x=some .local) (hc:i ∈ cs):SGC X c cs (.Name x pos) (gNm np i) :=
 PG.weak (z8P hN hi hx hf) fun v σ H Q ⟨σ₀,δ₀,H₁,δ,r,δ',x,rr,e,q⟩=>by
  unfold gNm at e
  split at e
  ·cases e
  ·rename_i hn
   cases e
   refine q _ (Ok.set x rr fun p hm e=>hn (by rw [← e]; exact hp p hm)) ⟨by simp,fun j hj=>?_⟩
   rw [W4 (fun z=>hj (by rw [← z]; exact hc))]
def tGCs (cs:List Nat) (c:Fc) (g:DGs):TGs:=fun vs σ H Q=>∃ δ ds δ',Ok c σ δ H∧Reps H (Av c σ δ) vs ds∧g ds δ=some δ'∧∀ σ',Aft c σ δ H σ' δ' H→Out cs σ σ'→Q σ' H
abbrev SGCs (X:Cx) (c:Fc) (cs:List Nat) (tg:List Expr) (g:DGs):Prop:=PGs X tg (tGCs cs c g)
theorem z4d:SGCs X c cs [] z0y:=PGs.weak z8O fun vs σ H Q ⟨δ,ds,δ',k,r,e,q⟩=>by
 cases ds with
 | nil =>
  cases e
  have:vs=[]:=by have:=r.1; simpa using this
  exact ⟨this,q σ (.refl k) ⟨rfl,fun _ _=>rfl⟩⟩
 | cons d r=>cases e
theorem z1A {e:Expr} {es:List Expr} {g:DG} {gs:DGs} (h1:SGC X c cs e g) (h2:SGCs X c cs es gs) (hs:(WT (e :: es) X.env).map (·.2)=assign e X.env :: (WT es X.env).map (·.2):=by rfl):SGCs X c cs (e :: es) (z03 g gs) :=
 PGs.weak (z7o h1 h2 hs) fun vs σ H Q ⟨δ,ds,δ',k,r,e,q⟩=>by
  cases ds with
  | nil=>cases e
  | cons d ds =>
   cases vs with
   | nil=>have:=r.1; simp at this
   | cons v vs =>
    simp only [z03] at e
    cases e1:g (.pure d) δ with
    | none=>rw [e1] at e; cases e
    | some δ1 =>
     rw [e1] at e
     refine ⟨v,vs,rfl,σ,δ,H,δ,.pure d,δ1,.refl k,r.head,e1,fun σ1 a1 o1=>?_⟩
     exact ⟨δ1,ds,δ',a1.ok,Reps.aft r.tail a1,e,fun σ2 a2 o2=>q σ2 (a1.trans a2) (o1.trans o2)⟩
theorem z5s {es:List Expr} {k:Nat} {gs:DGs} {n:Nat} (hc:X.calm=true) (h:SGCs X c cs es gs) (hn:(WT es X.env).length=n:=by rfl) (hst:(WT es X.env).findIdx? (·.1)=none:=by rfl) :
  SGC X c cs (.Tuple es k pos) (gTp n gs):=PG.weak (zaY hc h hn hst) fun v σ H Q hw=>by
 obtain ⟨σ₀,δ₀,H₁,δ,r,δ',x,rr,e,q⟩:=hw
 have hb:=rr.b
 unfold gTp at e
 generalize r.d=d at e hb
 cases d <;> first | (cases e; done) | skip
 rename_i ds
 simp only at e
 split at e
 ·rename_i hl
  obtain ⟨a,vs,ea,ha,ra⟩:=hb.tup
  exact ⟨a,vs,ea,.of ha,by rw [ra.1]; exact hl,δ,ds,δ',x.ok,ra,e,fun σ' a1 o1=>q σ' (x.trans a1) o1⟩
 ·cases e
theorem Aft.less (x:Aft (c.plus l) σ δ H σ' δ' H'):Aft c σ δ H σ' δ' H':=⟨x.ok.less,x.keep,x.own,x.there⟩
theorem z6D (hwi:∀ σ H R,tI c it σ H R→wi σ H R) (hg:∀ l v σ H Q,tGC cs (c.plus l) g v σ H Q→gt v σ H Q) (ht:∀ l σ H Q,tT (c.plus l) t σ H Q→tt σ H Q) (he:∀ l σ H Q,tD (c.plus l) el σ H Q→te σ H Q)
  (hp:∀ p ∈ c.pin,p.1 ∉ cs) (h:tD c (z0r cs it g t el) σ H Q):zbv cs wi gt tt te σ H Q:=by
 obtain ⟨δ,k,q⟩:=h
 unfold z0r at q
 rw [z04] at q
 refine hwi _ _ _ ⟨δ,k,z01 q fun ds δ1 q1 J H1 a1 io=>?_⟩
 intro l hl
 split at q1
 ·exact q1.elim
 ·rename_i hno
  have hno':cs.any (z0p δ1)=false:=by simpa using hno
  rw [z04] at q1
  have k1:=a1.ok
  have kp:=k1.plus hl (.lst [])
  have k0:Ok (c.plus l) (L2.clr cs σ) (clrD cs δ1) (upd H1 l (.lst [])):=kp.clr hp
  have up:∀ a w,H1 a=some w→upd H1 l (.lst []) a=some w:=fun a w e=>by
   rw [z0n (z0I e hl)]; exact e
  have h0:c.H₀ l=none:=k1.fresh₀ hl
  -- the walked things,as the block sees them
  have io':ItOk (c.plus l) (L2.clr cs σ) (clrD cs δ1) H1 J ds:=by
   intro H2 kp2
   obtain ⟨s1,s2⟩:=io H2 fun a o e n=>kp2 a o e fun z=>n z.clr
   have cv:∀ {x:V} {d:D},Rep H1 (Av c σ δ1) x d→Rep H1 (Av (c.plus l) (L2.clr cs σ) (clrD cs δ1)) x d:=fun {x d} r =>
    r.anti fun b z=>by
     rcases z with (z | z) | z
     ·exact .inl (.inl z)
     ·exact .inr (by rw [z]; exact hl)
     ·exact .inl (.inr z.clr)
   refine ⟨s1,fun i d e=>⟨(s2 i d e).1,fun x H3 y=>?_⟩⟩
   rcases (s2 i d e).2 x H3 y with ⟨e3,r⟩ | ⟨p,vs,es,hp,e3,ex,ed,r⟩
   ·exact .inl ⟨e3,cv r⟩
   ·exact .inr ⟨p,vs,es,hp,e3,ex,ed,r.1,fun i v d e1 e2=>cv (r.2 i v d e1 e2)⟩
  let Fin:List D→Dl→Prop:=fun acc δ'=>∀ H' vs,Aft (c.plus l) (L2.clr cs σ) (clrD cs δ1) H1 (L2.clr cs σ) δ' H'→H' l=some (.lst vs)→Reps H' (Av (c.plus l) (L2.clr cs σ) δ') vs acc→Q (.ref l) H'
  have q2:post c (z1u cs g t el ds (clrD cs δ1) []) Fin:=z01 q1 fun acc δ2 q2 H' vs x hv r=>by
   have b1:Aft (c.plus l) σ δ1 H1 σ (z1e cs δ1 δ2) H':=Aft.back k1 rfl (fun b z=>z.elim .inl fun z=>.inr (by rw [z]; exact hl)) hno' x
   have b2:Aft c σ δ1 H1 σ (z1e cs δ1 δ2) H':=b1.less
   have len:δ1.length=δ2.length:=by
    have:=x.ok.len
    rw [z5Q] at this
    rw [this]; exact k1.len
   have hlH:H l=none:=by
    cases e:H l with
    | none=>rfl
    | some o =>
     obtain ⟨o',e'⟩:=a1.there l o e
     rw [hl] at e'; cases e'
   refine q2 _ H' (a1.trans b2) ⟨l,rfl,⟨vs,hv,Reps.anti r fun b z=>.inl ?_⟩,fun z=>k1.nav hl (.inl z),h0,b1.ok,hlH⟩
   rcases z with z | ⟨i,d,e1,e2⟩
   ·exact .inl z
   ·have hi:i ∉ cs:=fun hi=>by
     rw [z5T cs δ1 δ2 i len hi] at e1
     have:=List.any_eq_false.mp hno' i hi
     unfold z0p at this
     rw [e1] at this
     simp at this
    rw [z3A cs δ1 δ2 i hi] at e1
    exact .inr ⟨i,d,e1,by rw [z2v cs σ i hi]; exact e2⟩
  refine ⟨fun i m H2=>∃ δ2 acc vs,m=ds.length - i∧i≤ds.length∧Aft (c.plus l) (L2.clr cs σ) (clrD cs δ1) H1 (L2.clr cs σ) δ2 H2∧H2 l=some (.lst vs)∧Reps H2 (Av (c.plus l) (L2.clr cs σ) δ2) vs acc ∧
   post c (z1u cs g t el (ds.drop i) δ2 acc) Fin,⟨ds.length,clrD cs δ1,[],[],by simp,Qf _,⟨k0,fun a w e _=>up a w e,fun a z=>.inl z,fun a w e=>⟨w,up a w e⟩⟩,z0B,.nil,by rw [List.drop_zero]; exact q2⟩,?_⟩
  rintro i m H2 ⟨δ2,acc,vs,rfl,hil,a2,hv,rv,p2⟩
  by_cases hlt:i < ds.length
  ·right
   have e:ds[i]? = some ds[i]:=by simp [hlt]
   rw [List.drop_eq_getElem_cons hlt] at p2
   refine ⟨((io' H2 a2.keep).2 i _ e).1,fun x H3 y=>hg l _ _ _ _ ?_⟩
   obtain ⟨a3,r3⟩:=z7g io' a2 e y
   simp only [z1u] at p2
   cases eg:g (.pure ds[i]) δ2 with
   | none=>rw [eg] at p2; exact p2.elim
   | some δ3 =>
    rw [eg] at p2
    have p3:post c ((t δ3).bind fun b δ2=>if b then (el δ2).bind fun x δ3=>if acc.length < W6 then z1u cs g t el (ds.drop (i + 1)) (clrD cs δ3) (acc ++ [x.d]) else .stuck
     else z1u cs g t el (ds.drop (i + 1)) (clrD cs δ2) acc) Fin:=p2
    refine ⟨L2.clr cs σ,δ2,H3,δ2,.pure ds[i],δ3,.refl a3.ok,r3,eg,fun σ4 a4 o4=>?_⟩
    have le:Le (L2.clr cs σ) σ4:=⟨o4.1,fun j v ej=>by
     rw [o4.2 j (z2P cs σ j v ej).2]; exact ej⟩
    have hs:∀ (j:Nat) v,σ4[j]? = some (some v)→j ∉ cs→σ[j]? = some (some v):=fun j v ej hj=>by
     rw [o4.2 j hj] at ej
     exact (z2P cs σ j v ej).1
    refine ⟨le,ht l _ _ _ ⟨δ3,a4.ok,?_⟩⟩
    rw [z04] at p3
    have pinp:∀ p ∈ (c.plus l).pin,p.1 ∉ cs:=hp
    have a24:=a2.trans (a3.trans a4)
    have ln:∀ {σ':St} {δ':Dl} {H':Hp},Ok (c.plus l) σ' δ' H'→¬ Own σ' δ' l:=fun {σ' δ' H'} k=>z2g k
    have p3':post (c.plus l) (t δ3) fun b δ5=>post c (if b then (el δ5).bind fun x δ3=>if acc.length < W6 then z1u cs g t el (ds.drop (i + 1)) (clrD cs δ3) (acc ++ [x.d]) else .stuck
     else z1u cs g t el (ds.drop (i + 1)) (clrD cs δ5) acc) Fin:=p3
    refine z01 p3' fun b δ5 p5 H5 a5=>?_
    have a25:=a24.trans a5
    have hv3:H3 l=some (.lst vs):=a3.keep l _ hv (ln a2.ok)
    have hv5:H5 l=some (.lst vs):=a5.keep l _ hv3 (ln a4.ok)
    have rv3:=Reps.aft (Reps.aft (Reps.aft rv a3) a4) a5
    cases b with
    | false =>
     have c5:=a25.clear le pinp hs
     refine ⟨ds.length - (i + 1),by omega,clrD cs δ5,acc,vs,rfl,hlt,c5,hv5,Reps.anti rv3 fun b z=>.inl ?_,p5⟩
     exact z.elim .inl fun ⟨j,d,e1,e2⟩=>.inr ⟨j,d,(z1f cs δ5 j _ e1).1,le.2 j _ e2⟩
    | true =>
     have p5':post c ((el δ5).bind fun x δ3=>if acc.length < W6 then z1u cs g t el (ds.drop (i + 1)) (clrD cs δ3) (acc ++ [x.d]) else .stuck) Fin:=p5
     rw [z04] at p5'
     refine he l _ _ _ ⟨δ5,a5.ok,?_⟩
     have p6:post (c.plus l) (el δ5) fun x δ6=>post c (if acc.length < W6 then z1u cs g t el (ds.drop (i + 1)) (clrD cs δ6) (acc ++ [x.d]) else .stuck) Fin:=p5'
     refine z01 p6 fun x δ6 p7 v H6 a6 r6=>?_
     split at p7
     ·rename_i hz
      have a26:=a25.trans a6
      have hv6:H6 l=some (.lst vs):=a6.keep l _ hv5 (ln a5.ok)
      have rv6:=Reps.aft rv3 a6
      have rr:Reps H6 (Av (c.plus l) σ4 δ6) (vs ++ [v]) (acc ++ [x.d]):=rv6.append (.cons r6.rep .nil)
      have c6:=a26.clear le pinp hs
      have kpl:∀ b o,H6 b=some o→¬ Av (c.plus l) σ4 δ6 b→upd H6 l (.lst (vs ++ [v])) b=some o:=fun b o e n=>by
       rw [z0n (fun z=>n (by rw [z]; exact .inl (.inr rfl)))]; exact e
      have sub6:∀ b,Av (c.plus l) (L2.clr cs σ) (clrD cs δ6) b→Av (c.plus l) σ4 δ6 b:=fun b z=>z.elim .inl fun ⟨j,d,e1,e2⟩=>.inr ⟨j,d,(z1f cs δ6 j _ e1).1,le.2 j _ e2⟩
      refine ⟨vs,ds.length - (i + 1),hv6,by rw [rv6.1]; exact hz,by omega,clrD cs δ6,acc ++ [x.d],vs ++ [v],rfl,hlt,?_,z0B,Reps.anti (Reps.keep rr kpl) fun b z=>.inl (sub6 b z),p7⟩
      -- the list that is built has grown
      refine ⟨c6.ok.updB (.inr rfl) h0 _,fun a o ea n=>?_,fun a z=>c6.own a z,fun a o ea=>?_⟩
      ·have hal:a≠l:=fun z=>by rw [z,hl] at ea; cases ea
       rw [z0n hal]; exact c6.keep a o ea n
      ·by_cases hal:a=l
       ·exact ⟨_,by rw [hal]; exact z0B⟩
       ·obtain ⟨o',e'⟩:=c6.there a o ea
        exact ⟨o',by rw [z0n hal]; exact e'⟩
     ·exact p7.elim
  ·left
   have hi2:i=ds.length:=by omega
   subst hi2
   rw [List.drop_length] at p2
   exact ⟨(io' H2 a2.keep).1,p2 H2 vs a2 hv rv⟩
theorem z1p (hc:X.calm=true) (S:CScope X scope cs) (hi:SI X c tg iter it) (hg:∀ l s₀ H₀ ex,SGC (z1r X scope s₀ H₀ ex) (c.plus l) cs tg g) (ht:∀ l s₀ H₀ ex,STs (z1r X scope s₀ H₀ ex) (c.plus l) ifs t)
  (he:∀ l s₀ H₀ ex,SE (z1r X scope s₀ H₀ ex) (c.plus l) elt el) (hp:∀ p ∈ c.pin,p.1 ∉ cs) (hs:∀ x,Qo iter X.env x=pure x:=by intro _; rfl) :
  SE X c (.ListComp elt [⟨tg,iter,ifs,0⟩] scope pos) (z0r cs it g t el) :=
 PE.weak (zbX (g:=fun v σ H Q=>∃ l,tGC cs (c.plus l) g v σ H Q) (tt:=fun σ H Q=>∃ l,tT (c.plus l) t σ H Q) (te:=fun σ H Q=>∃ l,tD (c.plus l) el σ H Q) hc S hi
  (fun s₀ H₀ ex pins s σ H v u Q I r ⟨l,q⟩=>hg l s₀ H₀ ex pins s σ H v u Q I r q) (fun s₀ H₀ ex pins s σ H Q I ⟨l,q⟩=>ht l s₀ H₀ ex pins s σ H Q I q) (fun s₀ H₀ ex pins s σ H Q I ⟨l,q⟩=>he l s₀ H₀ ex pins s σ H Q I q) hs)
  fun σ H Q h=>z6D (fun _ _ _ h=>h) (fun l _ _ _ _ h=>⟨l,h⟩) (fun l _ _ _ h=>⟨l,h⟩) (fun l _ _ _ h=>⟨l,h⟩) hp h
theorem z57 {np:List Nat} {i:Nat} {y:Str} {py spos:Pos} (hnp:Np c np) (hc:X.calm=true) (S:CScope X scope cs) (hN:X.N.Nodup) (hi':X.N[i]? = some y) (hy:X.env.scope.names.lookup y=some .local)
  (hi:SI X c tg iter it) (hg:∀ l s₀ H₀ ex,SGC (z1r X scope s₀ H₀ ex) (c.plus l) cs tg g) (ht:∀ l s₀ H₀ ex,STs (z1r X scope s₀ H₀ ex) (c.plus l) ifs t)
  (he:∀ l s₀ H₀ ex,SE (z1r X scope s₀ H₀ ex) (c.plus l) elt el) (hp:∀ p ∈ c.pin,p.1 ∉ cs)
  (hsw:QD (.ListComp elt [⟨tg,iter,ifs,0⟩] scope pos) (some (.Name y py)) spos.line X.env=pure true:=by rfl) (hs:∀ x,Qo iter X.env x=pure x:=by intro _; rfl) :
  SS X c (.Assign [.Name y py] (.ListComp elt [⟨tg,iter,ifs,0⟩] scope pos) spos) (dAsg (z0r cs it g t el) (gNm np i)) :=
 PS.weak (z7S (g:=fun v σ H Q=>∃ l,tGC cs (c.plus l) g v σ H Q) (tt:=fun σ H Q=>∃ l,tT (c.plus l) t σ H Q) (te:=fun σ H Q=>∃ l,tD (c.plus l) el σ H Q) hc S hN hi' hy hi
  (fun s₀ H₀ ex pins s σ H v u Q I r ⟨l,q⟩=>hg l s₀ H₀ ex pins s σ H v u Q I r q) (fun s₀ H₀ ex pins s σ H Q I ⟨l,q⟩=>ht l s₀ H₀ ex pins s σ H Q I q) (fun s₀ H₀ ex pins s σ H Q I ⟨l,q⟩=>he l s₀ H₀ ex pins s σ H Q I q) hsw hs)
  fun D σ H h=>z5V (fun σ H Q h=>z6D (fun _ _ _ h=>h) (fun l _ _ _ _ h=>⟨l,h⟩) (fun l _ _ _ h=>⟨l,h⟩) (fun l _ _ _ h=>⟨l,h⟩) hp h) (fun _ _ _ _ h=>z5L hnp h) h
end
abbrev DF:=List S→Option (S×List S)
def z0v:Nat→List S→List V→List (Nat×Addr)
 | n,.own _ :: ss,.ref a :: vs=>(n,a) :: z0v (n + 1) ss vs
 | n,_ :: ss,_ :: vs=>z0v (n + 1) ss vs
 | _,_,_=>[]
theorem z1k:∀ {n:Nat} {ss:List S} {vs:List V} {i:Nat} {a:Addr},(i,a) ∈ z0v n ss vs→∃ j d,i=n + j∧ss[j]? = some (.own d)∧vs[j]? = some (.ref a)
 | n,[],vs,i,a,h=>by simp [z0v] at h
 | n,s :: ss,[],i,a,h=>by cases s <;> simp [z0v] at h
 | n,s :: ss,v :: vs,i,a,h=>by
  have rec':(i,a) ∈ z0v (n + 1) ss vs→∃ j d,i=n + j∧(s :: ss)[j]? = some (.own d)∧(v :: vs)[j]? = some (.ref a):=fun h=>by
   obtain ⟨j,d,e,h1,h2⟩:=z1k h
   exact ⟨j + 1,d,by omega,by simpa using h1,by simpa using h2⟩
  cases s with
  | pure d=>exact rec' h
  | own d =>
   cases v with
   | ref b =>
    rcases Wh.mp h with e | h
    ·cases e
     exact ⟨0,d,rfl,rfl,rfl⟩
    ·exact rec' h
   | _=>exact rec' h
theorem z3l:∀ {n:Nat} {ss:List S} {vs:List V} {j:Nat} {d:D} {a:Addr},ss[j]? = some (.own d)→vs[j]? = some (.ref a)→(n + j,a) ∈ z0v n ss vs
 | n,[],vs,j,d,a,h,_=>by simp at h
 | n,s :: ss,[],j,d,a,_,h=>by simp at h
 | n,s :: ss,v :: vs,0,d,a,h1,h2=>by
  simp at h1 h2
  subst h1 h2
  exact Wo
 | n,s :: ss,v :: vs,j + 1,d,a,h1,h2=>by
  have ih:=z3l (n:=n + 1) (ss:=ss) (vs:=vs) (j:=j) (d:=d) (a:=a) (by simpa using h1) (by simpa using h2)
  have e:n + 1 + j=n + (j + 1):=by omega
  rw [e] at ih
  cases s with
  | pure d=>exact ih
  | own d =>
   cases v with
   | ref b=>exact Wj _ ih
   | _=>exact ih
abbrev z0W (vs:List V):St:=vs.map some
abbrev z0Z (ss:List S):Dl:=ss.map some
theorem someS_get {ss:List S} {i:Nat} {r:S}:(z0Z ss)[i]? = some (some r) ↔ ss[i]? = some r:=by
 rw [Wz]
 cases ss[i]? <;> simp
theorem some'_get {vs:List V} {i:Nat} {v:V}:(z0W vs)[i]? = some (some v) ↔ vs[i]? = some v:=by
 rw [Wz]
 cases vs[i]? <;> simp
def spD (n:Nat) (G:DF):Sp:=fun vs H Q _=>∃ ss B,vs.length=n∧Ok ⟨H,B,z0v 0 ss vs,fun _ _=>False⟩ (z0W vs) (z0Z ss) H∧∃ r outs,G ss=some (r,outs) ∧
 ∀ v H',Aft ⟨H,B,z0v 0 ss vs,fun _ _=>False⟩ (z0W vs) (z0Z ss) H (z0W vs) (z0Z outs) H'→RepS ⟨H,B,z0v 0 ss vs,fun _ _=>False⟩ (z0W vs) (z0Z outs) H H' v r→Q v H'
def KFn (P:Wi) (w:Wp) (K:W0) (mg:Str→Option Value) (base:Heap) (k:Nat) (x:Str) (n:Nat) (G:DF):Prop :=
 ∃ (f:Addr) (fd:Wx) (ps:List Str),mg x=some (.ref f)∧WX K (.ref f)=true∧Binds K fd ps []∧FnOk P w K mg base CX0 k f fd ps (spD n G)
def z0h (n:Nat) (ss:List S):Dl:=z0Z ss ++ W9 (n - ss.length) none
def z0e:Nat→List S→Dl→Option (List S)
 | _,[],_=>some []
 | n,.pure d :: ss,δ=>(z0e (n + 1) ss δ).map (.pure d :: ·)
 | n,.own _ :: ss,δ=>match δ[n]? with
  | some (some (.own d'))=>(z0e (n + 1) ss δ).map (.own d' :: ·)
  | _=>none
def z0M:Fl→Option S
 | .next=>some (.pure .non)
 | .ret r=>some r
 | _=>none
def runD (f:DS) (n:Nat) (ss:List S):Option (S×List S):=match f (z0h n ss) with
 | .ok fl δ=>(z0M fl).bind fun r=>(z0e 0 ss δ).map fun outs=>(r,outs)
 | _=>none
def ioOk (np:List Nat):Nat→List S→Bool
 | _,[]=>true
 | n,.own _ :: ss=>np.contains n && ioOk np (n + 1) ss
 | n,.pure _ :: ss=>ioOk np (n + 1) ss
theorem z5J:∀ {n:Nat} {ss:List S} {j:Nat} {d:D},ioOk np n ss=true→ss[j]? = some (.own d)→np.contains (n + j)=true
 | n,[],j,d,_,h=>by simp at h
 | n,s :: ss,0,d,h,e=>by
  simp at e
  subst e
  simp only [ioOk,Wg] at h
  exact h.1
 | n,s :: ss,j + 1,d,h,e=>by
  have h':ioOk np (n + 1) ss=true:=by
   cases s with
   | pure d=>exact h
   | own d=>simp only [ioOk,Wg] at h; exact h.2
  have:=z5J (n:=n + 1) (j:=j) h' (by simpa using e)
  rw [show n + (j + 1)=n + 1 + j by omega]
  exact this
theorem z4v:∀ {n:Nat} {ss outs:List S} {δ:Dl},z0e n ss δ=some outs→outs.length=ss.length∧∀ (i:Nat) s,ss[i]? = some s→(∃ d,s = .pure d∧outs[i]? = some (.pure d))∨∃ d d',s = .own d∧δ[n + i]? = some (some (.own d'))∧outs[i]? = some (.own d')
 | n,[],outs,δ,h=>by
  simp only [z0e,W8] at h
  subst h
  exact ⟨rfl,fun i s e=>by simp at e⟩
 | n,.pure d :: ss,outs,δ,h=>by
  simp only [z0e] at h
  cases e:z0e (n + 1) ss δ with
  | none=>rw [e] at h; cases h
  | some os =>
   rw [e] at h
   simp only [WI,W8] at h
   subst h
   obtain ⟨h1,h2⟩:=z4v e
   refine ⟨by simp [h1],fun i s es=>?_⟩
   cases i with
   | zero=>simp at es; subst es; exact .inl ⟨d,rfl,rfl⟩
   | succ i =>
    rcases h2 i s (by simpa using es) with ⟨d,z1,z2⟩ | ⟨d,d',z1,z2,z3⟩
    ·exact .inl ⟨d,z1,by simpa using z2⟩
    ·exact .inr ⟨d,d',z1,by rw [show n + (i + 1)=n + 1 + i by omega]; exact z2,by simpa using z3⟩
 | n,.own d :: ss,outs,δ,h=>by
  simp only [z0e] at h
  split at h
  ·rename_i d' ed
   cases e:z0e (n + 1) ss δ with
   | none=>rw [e] at h; cases h
   | some os =>
    rw [e] at h
    simp only [WI,W8] at h
    subst h
    obtain ⟨h1,h2⟩:=z4v e
    refine ⟨by simp [h1],fun i s es=>?_⟩
    cases i with
    | zero=>simp at es; subst es; exact .inr ⟨d,d',rfl,ed,rfl⟩
    | succ i =>
     rcases h2 i s (by simpa using es) with ⟨d,z1,z2⟩ | ⟨d,d',z1,z2,z3⟩
     ·exact .inl ⟨d,z1,by simpa using z2⟩
     ·exact .inr ⟨d,d',z1,by rw [show n + (i + 1)=n + 1 + i by omega]; exact z2,by simpa using z3⟩
  ·cases h
section
variable {c:Fc} {H H':Hp} {vs:List V} {ss outs:List S} {σ':St} {δ':Dl}
theorem z2G {α:Type} {l:List (Option α)} {k i:Nat} {v:α} (h:(l ++ W9 k none)[i]? = some (some v)):l[i]? = some (some v):=by
 by_cases hi:i < l.length
 ·rw [Qs hi] at h; exact h
 ·rw [List.getElem?_append_right (by omega),List.getElem?_replicate] at h
  split at h <;> cases h
theorem z2s {α:Type} {l:List (Option α)} {k i:Nat} {v:α} (h:l[i]? = some (some v)):(l ++ W9 k none)[i]? = some (some v):=by
 have hi:i < l.length:=(W3.mp h).1
 rw [Qs hi]; exact h
theorem Own.ext {σ:St} {δ:Dl} {k:Nat} {a:Addr}:Own (σ ++ W9 k none) (δ ++ W9 k none) a ↔ Own σ δ a :=
 ⟨fun ⟨i,d,e1,e2⟩=>⟨i,d,z2G e1,z2G e2⟩,fun ⟨i,d,e1,e2⟩=>⟨i,d,z2s e1,z2s e2⟩⟩
theorem Ok.ext {σ:St} {δ:Dl} (k:Ok c σ δ H) (n:Nat):Ok c (σ ++ W9 n none) (δ ++ W9 n none) H:=by
 have sub:∀ b,Av c (σ ++ W9 n none) (δ ++ W9 n none) b→Av c σ δ b:=fun b z=>z.elim .inl fun z=>.inr (Own.ext.mp z)
 refine ⟨k.keep,k.bd,k.ith,by simp [k.len],fun i d e=>?_,fun i d e=>?_,fun i j a d d' e1 e2 e3 e4=>k.inj i j a d d' (z2G e1) (z2G e2) (z2G e3) (z2G e4),fun p hm=>z2s (k.pinned p hm)⟩
 ·obtain ⟨v,h1,h2⟩:=k.slot i d (z2G e)
  exact ⟨v,z2s h1,h2.anti fun b z=>.inl (sub b z)⟩
 ·obtain ⟨a,h1,h2,h3⟩:=k.own i d (z2G e)
  exact ⟨a,z2s h1,h2.anti fun b z=>.inl (sub b z),h3⟩
theorem z6n {B:Addr→Prop} {n:Nat} (hc:c = ⟨H,B,z0v 0 ss vs,fun _ _=>False⟩) (k:Ok c (z0W vs) (z0Z ss) H) (x:Aft c (z0W vs ++ W9 n none) (z0Z ss ++ W9 n none) H σ' δ' H') (ho:z0e 0 ss δ'=some outs) :
  Aft c (z0W vs) (z0Z ss) H (z0W vs) (z0Z outs) H'∧∀ v r,RepS c σ' δ' H H' v r→RepS c (z0W vs) (z0Z outs) H H' v r:=by
 obtain ⟨hlen,hat⟩:=z4v ho
 have hvs:ss.length=vs.length:=by have:=k.len; simpa using this
 have pin:∀ (i:Nat) (a:Addr) (d:D),ss[i]? = some (.own d)→vs[i]? = some (.ref a)→σ'[i]? = some (some (.ref a)):=fun i a d h1 h2=>by
  have:=z3l (n:=0) h1 h2
  rw [WQ] at this
  exact x.ok.pinned (i,a) (by rw [hc]; exact this)
 have ownS:∀ (i:Nat) (d:D),outs[i]? = some (.own d)→(∃ d₀,ss[i]? = some (.own d₀))∧δ'[i]? = some (some (.own d)):=fun i d e=>by
  have hi:i < ss.length:=by rw [← hlen]; exact (W3.mp e).1
  rcases hat i ss[i] (by simp [hi]) with ⟨d₁,z1,z2⟩ | ⟨d₁,d',z1,z2,z3⟩
  ·rw [e] at z2; cases z2
  ·rw [e] at z3; cases z3
   rw [WQ] at z2
   exact ⟨⟨d₁,by rw [Wk hi,z1]⟩,z2⟩
 have sub:∀ b,Own (z0W vs) (z0Z outs) b→Own σ' δ' b:=fun b ⟨i,d,e1,e2⟩=>by
  obtain ⟨⟨d₀,h0⟩,h1⟩:=ownS i d (someS_get.mp e1)
  exact ⟨i,d,h1,pin i b d₀ h0 (some'_get.mp e2)⟩
 have subA:∀ b,Av c (z0W vs) (z0Z outs) b→Av c σ' δ' b:=fun b z=>z.elim .inl fun z=>.inr (sub b z)
 have okO:∀ {c':Fc},c'.pin=c.pin→Ok c' σ' δ' H'→(∀ b,c.B b→c'.B b)→(∀ (i:Nat) d v,ss[i]? = some (.pure d)→vs[i]? = some v→Rep H' (Av c' σ' δ') v d)→Ok c' (z0W vs) (z0Z outs) H':=fun {c'} ep k' hB hsl=>by
  have subA':∀ b,Av c' (z0W vs) (z0Z outs) b→Av c' σ' δ' b:=fun b z=>z.elim .inl fun z=>.inr (sub b z)
  refine ⟨k'.keep,k'.bd,k'.ith,by simp [hlen,hvs],fun i d e=>?_,fun i d e=>?_,fun i j a d d' e1 e2 e3 e4=>?_,fun p hm=>?_⟩
  ·have e':=someS_get.mp e
   have hi:i < ss.length:=by rw [← hlen]; exact (W3.mp e').1
   have hv:i < vs.length:=by omega
   rcases hat i ss[i] (by simp [hi]) with ⟨d₁,z1,z2⟩ | ⟨d₁,d',z1,z2,z3⟩
   ·rw [e'] at z2; cases z2
    exact ⟨vs[i],by simp [hv],(hsl i d vs[i] (by rw [Wk hi,z1]) (by simp [hv])).anti fun b z=>.inl (subA' b z)⟩
   ·rw [e'] at z3; cases z3
  ·have e':=someS_get.mp e
   obtain ⟨⟨d₀,h0⟩,h1⟩:=ownS i d e'
   obtain ⟨a₀,h2,_⟩:=k.own i d₀ (someS_get.mpr h0)
   obtain ⟨a,h3,h4,h5⟩:=k'.own i d h1
   rw [pin i a₀ d₀ h0 (some'_get.mp h2)] at h3
   cases h3
   exact ⟨a₀,h2,h4.anti fun b z=>.inl (subA' b z),h5⟩
  ·obtain ⟨⟨d₀,h0⟩,h1⟩:=ownS i d (someS_get.mp e1)
   obtain ⟨⟨d₁,h2⟩,h3⟩:=ownS j d' (someS_get.mp e2)
   exact k'.inj i j a d d' h1 h3 (pin i a d₀ h0 (some'_get.mp e3)) (pin j a d₁ h2 (some'_get.mp e4))
  ·exact k.pinned p (by rw [← ep]; exact hm)
 have slots:∀ (i:Nat) d v,ss[i]? = some (.pure d)→vs[i]? = some v→Rep H' (Av c σ' δ') v d:=fun i d v h1 h2=>by
  obtain ⟨w,e1,r⟩:=(k.ext n).slot i d (z2s (someS_get.mpr h1))
  rw [z2s (some'_get.mpr h2)] at e1
  cases e1
  exact Rep.aft r x
 refine ⟨⟨okO rfl x.ok (fun _ z=>z) slots,fun a o e m=>x.keep a o e fun z=>m (Own.ext.mp z),fun a z=>(x.own a (sub a z)).elim (fun z=>.inl (Own.ext.mp z)) .inr,x.there⟩,fun v r hr=>?_⟩
 cases r with
 | pure d=>exact Rep.anti hr fun b z=>.inl (subA b z)
 | own d =>
  obtain ⟨a,ea,o,nb,h0,kp,hs⟩:=hr
  refine ⟨a,ea,o.anti fun b z=>.inl (z.elim .inl fun z=>.inr (sub b z)),nb,h0,okO rfl kp (fun _ z=>.inl z) fun i d v h1 h2=>?_,hs⟩
  obtain ⟨w,e1,r⟩:=(k.ext n).slot i d (z2s (someS_get.mpr h1))
  rw [z2s (some'_get.mpr h2)] at e1
  cases e1
  have hHa:H a=none:=hs
  have r1:Rep H (Av c (z0W vs ++ W9 n none) (z0Z ss ++ W9 n none)) v d:=r
  have r2:Rep H (fun b=>Av c (z0W vs ++ W9 n none) (z0Z ss ++ W9 n none) b∨Av (c.plus a) σ' δ' b) v d:=r1.anti fun b z=>by
   rcases z with z | (z | z) | z
   ·exact .inl z
   ·exact .inl (.inl z)
   ·exact .inr (by rw [z]; exact hHa)
   ·rcases x.own b z with q | q
    ·exact .inl (.inr q)
    ·exact .inr q
  exact (r2.keep fun b o e m=>x.keep b o e fun z=>m (.inl (.inr z))).anti fun b z=>.inl (.inr z)
end
section
variable {P:Wi} {w:Wp} {K:W0} {mg:Str→Option Value} {base:Heap}
theorem zdJ {x qual:Str} {st:Stmt} {f:Addr} {fd:Wx} {N ps:List Str} {k:Nat} {np:List Nat} {fb:DS} {G:DF} (F:Fun K x qual st f fd) (S:FnScope N ps (z07 st))
  (hbody:∀ (c:Fc) (cdv:Value) (A:Wn) (outer:List Env) (s:W1) (H:Hp) (E:XK),Room k (A.deeper (QH qual (z07 st) s.heap.objs.size f cdv))→Np c np→SSs (cxOf CX0 P w K mg base N qual (z07 st) f cdv A outer s H E).nox c (z1h st) fb)
  (hG:∀ ss y,G ss=some y→ioOk np 0 ss=true∧runD fb N.length ss=some y):FnOk P w K mg base CX0 (k + 1) f fd ps (spD ps.length G):=by
 refine F.ok S (fun vs H Q E h=>?_) fun cdv A outer s H vs Q E hr h=>?_
 ·obtain ⟨ss,B,hl,_⟩:=h
  exact hl
 ·obtain ⟨ss,B,hl,ok,r,outs,hg,q⟩:=h
  obtain ⟨hio,hrun⟩:=hG ss _ hg
  have hvs:ss.length=vs.length:=by have:=ok.len; simpa using this
  have np':Np ⟨H,B,z0v 0 ss vs,fun _ _=>False⟩ np:=fun p hp=>by
   obtain ⟨j,d,e,h1,_⟩:=z1k (i:=p.1) (a:=p.2) hp
   rw [e]
   exact z5J hio h1
  refine ⟨tDS ⟨H,B,z0v 0 ss vs,fun _ _=>False⟩ fb,hbody ⟨H,B,z0v 0 ss vs,fun _ _=>False⟩ cdv A outer s H E hr np',?_⟩
  have hst:z2A N vs=z0W vs ++ W9 (N.length - ss.length) none:=by rw [hvs]; rfl
  refine ⟨z0h N.length ss,by rw [hst]; exact ok.ext _,?_⟩
  unfold runD at hrun
  unfold z2B
  cases e:fb (z0h N.length ss) with
  | exc x δx=>rw [e] at hrun; cases hrun
  | stuck=>rw [e] at hrun; cases hrun
  | ok fl δ' =>
   rw [e] at hrun
   show ∀ σ' H',Aft _ (z2A N vs) (z0h N.length ss) H σ' δ' H'→fin _ _ σ' δ' H' fl
   intro σ' H' a
   rw [hst] at a
   simp only at hrun
   cases fl with
   | brk=>cases hrun
   | cont=>cases hrun
   | next =>
    simp only [z0M,WD] at hrun
    cases eo:z0e 0 ss δ' with
    | none=>rw [eo] at hrun; cases hrun
    | some os =>
     rw [eo] at hrun
     cases hrun
     obtain ⟨l1,l2⟩:=z6n rfl ok a eo
     exact q .non H' l1 .non
   | ret r' =>
    simp only [z0M,WD] at hrun
    cases eo:z0e 0 ss δ' with
    | none=>rw [eo] at hrun; cases hrun
    | some os =>
     rw [eo] at hrun
     cases hrun
     obtain ⟨l1,l2⟩:=z6n rfl ok a eo
     exact fun v rv=>q v H' l1 (l2 v _ rv)
theorem z1v {x qual:Str} {st:Stmt} {f:Addr} {fd:Wx} {N ps:List Str} {k:Nat} {np:List Nat} {fb:DS} {G:DF} (F:Fun K x qual st f fd) (hm:mg x=some (.ref f)) (hb:Binds K fd ps []) (S:FnScope N ps (z07 st))
  (hbody:∀ (c:Fc) (cdv:Value) (A:Wn) (outer:List Env) (s:W1) (H:Hp) (E:XK),Room k (A.deeper (QH qual (z07 st) s.heap.objs.size f cdv))→Np c np→SSs (cxOf CX0 P w K mg base N qual (z07 st) f cdv A outer s H E).nox c (z1h st) fb)
  (hG:∀ ss y,G ss=some y→ioOk np 0 ss=true∧runD fb N.length ss=some y):KFn P w K mg base (k + 1) x ps.length G:=⟨f,fd,ps,hm,F.kp,hb,zdJ F S hbody hG⟩
end
inductive Ak where
 | val (f:DE)
 | io (i:Nat)
def evX:List Ak→Dl→Rs (List (Option D))
 | [],δ=>.ok [] δ
 | .val f :: r,δ=>(f δ).bind fun x δ1=>(evX r δ1).bind fun xs δ2=>.ok (some x.d :: xs) δ2
 | .io _ :: r,δ=>(evX r δ).bind fun xs δ2=>.ok (none :: xs) δ2
inductive ArgR (c:Fc) (σ:St) (δ:Dl) (H:Hp):List V→List Ak→List (Option D)→Prop
 | nil:ArgR c σ δ H [] [] []
 | val {v:V} {d:D} {f:DE} {vs:List V} {as:List Ak} {ds:List (Option D)}:Rep H (Av c σ δ) v d→ArgR c σ δ H vs as ds→ArgR c σ δ H (v :: vs) (.val f :: as) (some d :: ds)
 | io {v:V} {i:Nat} {vs:List V} {as:List Ak} {ds:List (Option D)}:σ[i]? = some (some v)→ArgR c σ δ H vs as ds→ArgR c σ δ H (v :: vs) (.io i :: as) (none :: ds)
theorem ArgR.aft (h:ArgR c σ δ H vs as ds) (x:Aft c σ δ H σ δ' H'):ArgR c σ δ' H' vs as ds:=by
 induction h with
 | nil=>exact .nil
 | val r _ ih=>exact .val (Rep.aft r x) ih
 | io e _ ih=>exact .io e ih
def tX (c:Fc) (as:List Ak):TA:=fun σ H Q=>∃ δ,Ok c σ δ H∧(∀ i,Ak.io i ∈ as→∃ v,σ[i]? = some (some v))∧post c (evX as δ) fun ds δ'=>∀ vs H',Aft c σ δ H σ δ' H'→ArgR c σ δ' H' vs as ds→Q vs H'
abbrev SX (X:Cx) (c:Fc) (es:List Expr) (as:List Ak):Prop:=PA X es (tX c as)
section
variable {X:Cx} {c:Fc} {e:Expr} {es:List Expr} {fe:DE} {as:List Ak} {pos pp:Pos}
theorem z0u:SX X c [] []:=PA.weak z1S fun σ H Q ⟨δ,k,_,q⟩=>q [] H (.refl k) .nil
theorem zcy (ha:SE X c e fe) (hr:SX X c es as) (hs:W5 (e :: es) X.env=(false,eval e X.env) :: W5 es X.env:=by rfl):SX X c (e :: es) (.val fe :: as):=PA.weak (z0X ha hr hs) fun σ H Q ⟨δ,k,hio,q⟩=>by
 unfold evX at q
 rw [z04] at q
 refine ⟨δ,k,z01 q fun x δ1 q1 v H1 a1 r1=>⟨δ1,a1.ok,fun i hi=>hio i (Wj _ hi),?_⟩⟩
 rw [z04] at q1
 exact z01 q1 fun xs δ2 q2 vs H2 a2 r2=>q2 (v :: vs) H2 (a1.trans a2) (.val (Rep.aft r1.rep a2) r2)
theorem sx_io (ha:PE X e (tVar i)) (hr:SX X c es as) (hs:W5 (e :: es) X.env=(false,eval e X.env) :: W5 es X.env:=by rfl):SX X c (e :: es) (.io i :: as):=PA.weak (z0X ha hr hs) fun σ H Q ⟨δ,k,hio,q⟩=>by
 obtain ⟨v,ev⟩:=hio i Wo
 unfold evX at q
 rw [z04] at q
 exact ⟨v,ev,δ,k,fun i hi=>hio i (Wj _ hi),z01 q fun xs δ2 q2 vs H2 a2 r2=>q2 (v :: vs) H2 a2 (.io ev r2)⟩
end
def mkA:List Ak→List (Option D)→Dl→Option (List S)
 | [],[],_=>some []
 | .val _ :: as,some d :: ds,δ=>(mkA as ds δ).map (.pure d :: ·)
 | .io i :: as,none :: ds,δ=>match δ[i]? with
  | some (some (.own d))=>(mkA as ds δ).map (.own d :: ·)
  | _=>none
 | _,_,_=>none
def ios:List Ak→List Nat
 | []=>[]
 | .val _ :: as=>ios as
 | .io i :: as=>i :: ios as
def putA:List Ak→List S→Dl→Dl
 | .io i :: as,r :: rs,δ=>putA as rs (δ.set i (some r))
 | .val _ :: as,_ :: rs,δ=>putA as rs δ
 | _,_,δ=>δ
def ndup:List Nat→Bool
 | []=>true
 | i :: r=>!r.contains i && ndup r
def z05 (G:DF) (as:List Ak):DE:=fun δ=>if (ios as).all (z0p δ) && ndup (ios as) then (evX as δ).bind fun ds δ1=>match mkA as ds δ1 with
  | none=>.stuck
  | some ss=>match G ss with
   | none=>.stuck
   | some (r,outs)=>.ok r (putA as outs δ1)
 else .stuck
theorem z2U:∀ {l:List Nat},ndup l=true→l.Nodup
 | [],_=>.nil
 | i :: r,h=>by
  simp only [ndup,Wg,Ja] at h
  exact List.nodup_cons.mpr ⟨fun hm=>by have:=h.1; simp at this; exact this hm,z2U h.2⟩
theorem ios_mem:∀ {as:List Ak} {i:Nat},i ∈ ios as ↔ Ak.io i ∈ as
 | [],i=>by simp [ios]
 | .val f :: as,i=>by simp [ios,ios_mem (as:=as)]
 | .io j :: as,i=>by simp [ios,ios_mem (as:=as)]
theorem z9g:∀ {as:List Ak} {i j k:Nat},(ios as).Nodup→as[j]? = some (.io i)→as[k]? = some (.io i)→j=k
 | [],i,j,k,_,h,_=>by simp at h
 | .val f :: as,i,j,k,nd,h1,h2=>by
  cases j with
  | zero=>simp at h1
  | succ j =>
   cases k with
   | zero=>simp at h2
   | succ k=>exact congrArg (· + 1) (z9g (as:=as) nd (by simpa using h1) (by simpa using h2))
 | .io n :: as,i,j,k,nd,h1,h2=>by
  have nd':=QG.mp nd
  cases j with
  | zero =>
   simp at h1
   subst h1
   cases k with
   | zero=>rfl
   | succ k=>exact absurd (ios_mem.mpr (Wv (by simpa using h2))) nd'.1
  | succ j =>
   cases k with
   | zero =>
    simp at h2
    subst h2
    exact absurd (ios_mem.mpr (Wv (by simpa using h1))) nd'.1
   | succ k=>exact congrArg (· + 1) (z9g (as:=as) nd'.2 (by simpa using h1) (by simpa using h2))
section
variable {c:Fc} {σ:St} {δ:Dl} {H:Hp} {vs:List V} {as:List Ak} {ds:List (Option D)} {ss:List S}
theorem z5e (h:ArgR c σ δ H vs as ds):∀ {ss:List S},mkA as ds δ=some ss→ss.length=vs.length∧as.length=vs.length∧∀ (j:Nat) s v,ss[j]? = some s→vs[j]? = some v →
  (∃ d f,s = .pure d∧as[j]? = some (.val f)∧Rep H (Av c σ δ) v d)∨∃ d i,s = .own d∧as[j]? = some (.io i)∧σ[i]? = some (some v)∧δ[i]? = some (some (.own d)):=by
 induction h with
 | nil =>
  intro ss h
  simp only [mkA,W8] at h
  subst h
  exact ⟨rfl,rfl,fun j s v e _=>by simp at e⟩
 | @val v d f vs as ds r _ ih =>
  intro ss h
  simp only [mkA] at h
  cases e:mkA as ds δ with
  | none=>rw [e] at h; cases h
  | some rs =>
   rw [e] at h
   simp only [WI,W8] at h
   subst h
   obtain ⟨h1,h2,h3⟩:=ih e
   refine ⟨by simp [h1],by simp [h2],fun j s v' e1 e2=>?_⟩
   cases j with
   | zero=>simp at e1 e2; subst e1 e2; exact .inl ⟨d,f,rfl,rfl,r⟩
   | succ j=>simpa using h3 j s v' (by simpa using e1) (by simpa using e2)
 | @io v i vs as ds ev _ ih =>
  intro ss h
  simp only [mkA] at h
  split at h
  ·rename_i d ed
   cases e:mkA as ds δ with
   | none=>rw [e] at h; cases h
   | some rs =>
    rw [e] at h
    simp only [WI,W8] at h
    subst h
    obtain ⟨h1,h2,h3⟩:=ih e
    refine ⟨by simp [h1],by simp [h2],fun j s v' e1 e2=>?_⟩
    cases j with
    | zero=>simp at e1 e2; subst e1 e2; exact .inr ⟨d,i,rfl,rfl,ev,ed⟩
    | succ j=>simpa using h3 j s v' (by simpa using e1) (by simpa using e2)
  ·cases h
theorem z5A:∀ (as:List Ak) (rs:List S) (δ:Dl),(putA as rs δ).length=δ.length
 | [],rs,δ=>by simp [putA]
 | .val f :: as,[],δ=>by simp [putA]
 | .io i :: as,[],δ=>by simp [putA]
 | .val f :: as,r :: rs,δ=>by simp [putA,z5A as rs δ]
 | .io i :: as,r :: rs,δ=>by simp [putA,z5A as rs]
theorem z3h:∀ (as:List Ak) (rs:List S) (δ:Dl) (i:Nat),i ∉ ios as→(putA as rs δ)[i]? = δ[i]?
 | [],rs,δ,i,_=>by simp [putA]
 | .val f :: as,[],δ,i,_=>by simp [putA]
 | .io j :: as,[],δ,i,_=>by simp [putA]
 | .val f :: as,r :: rs,δ,i,h=>by rw [putA]; exact z3h as rs δ i h
 | .io j :: as,r :: rs,δ,i,h=>by
  simp only [ios,Wh,not_or] at h
  rw [putA,z3h as rs _ i h.2,W4 (Ne.symm h.1)]
theorem z5B:∀ (as:List Ak) (rs:List S) (δ:Dl) (i j:Nat) (r:S),(ios as).Nodup→as[j]? = some (.io i)→rs[j]? = some r→i < δ.length→(putA as rs δ)[i]? = some (some r)
 | [],rs,δ,i,j,r,_,h,_,_=>by simp at h
 | a :: as,[],δ,i,j,r,_,_,h,_=>by simp at h
 | .val f :: as,r0 :: rs,δ,i,j,r,nd,h1,h2,hi=>by
  cases j with
  | zero=>simp at h1
  | succ j=>rw [putA]; exact z5B as rs δ i j r nd (by simpa using h1) (by simpa using h2) hi
 | .io k :: as,r0 :: rs,δ,i,j,r,nd,h1,h2,hi=>by
  have nd':=QG.mp nd
  cases j with
  | zero =>
   simp at h1 h2
   subst h1 h2
   rw [putA,z3h as rs _ k nd'.1,Wl hi]
  | succ j=>rw [putA]; exact z5B as rs _ i j r nd'.2 (by simpa using h1) (by simpa using h2) (by simpa using hi)
theorem z5S (k:Ok c σ δ H) (hr:ArgR c σ δ H vs as ds) (hm:mkA as ds δ=some ss) (nd:(ios as).Nodup) :
  Ok ⟨H,fun a=>Av c σ δ a∧¬ ∃ (j:Nat) (d:D),ss[j]? = some (S.own d)∧vs[j]? = some (V.ref a),z0v 0 ss vs,fun _ _=>False⟩ (z0W vs) (z0Z ss) H:=by
 obtain ⟨h1,h2,h3⟩:=z5e hr hm
 have at':∀ (j:Nat) s,ss[j]? = some s→∃ v,vs[j]? = some v:=fun j s e=>by
  have:j < vs.length:=by rw [← h1]; exact (W3.mp e).1
  exact ⟨vs[j],by simp [this]⟩
 have ownE:∀ a,Own (z0W vs) (z0Z ss) a ↔ ∃ (j:Nat) (d:D),ss[j]? = some (S.own d)∧vs[j]? = some (V.ref a):=fun a =>
  ⟨fun ⟨j,d,e1,e2⟩=>⟨j,d,someS_get.mp e1,some'_get.mp e2⟩,fun ⟨j,d,e1,e2⟩=>⟨j,d,someS_get.mpr e1,some'_get.mpr e2⟩⟩
 have own2:∀ a,Own (z0W vs) (z0Z ss) a→Own σ δ a:=fun a z=>by
  obtain ⟨j,d,e1,e2⟩:=(ownE a).mp z
  rcases h3 j _ _ e1 e2 with ⟨d',f,e,_⟩ | ⟨d',i,e,_,es,ed⟩
  ·cases e
  ·exact ⟨i,d',ed,es⟩
 have sub:∀ a,Av ⟨H,fun a=>Av c σ δ a∧¬ ∃ (j:Nat) (d:D),ss[j]? = some (S.own d)∧vs[j]? = some (V.ref a),z0v 0 ss vs,fun _ _=>False⟩ (z0W vs) (z0Z ss) a→Av c σ δ a:=fun a z=>z.elim (fun z=>z.1) fun z=>.inr (own2 a z)
 refine ⟨fun a o e _=>e,fun a z=>k.avthere z.1,fun a ⟨i,hi⟩=>?_,by simp [h1],fun j d e=>?_,fun j d e=>?_,fun i j a d d' e1 e2 e3 e4=>?_,fun p hp=>?_⟩
 ·obtain ⟨j,d,_,e1,e2⟩:=z1k hi
  exact k.othere (own2 a ((ownE a).mpr ⟨j,d,e1,e2⟩))
 ·have e':=someS_get.mp e
  obtain ⟨v,ev⟩:=at' j _ e'
  rcases h3 j _ v e' ev with ⟨d',f,e,_,r⟩ | ⟨d',i,e,_⟩
  ·cases e
   exact ⟨v,some'_get.mpr ev,r.anti fun b z=>.inl (sub b z)⟩
  ·cases e
 ·have e':=someS_get.mp e
  obtain ⟨v,ev⟩:=at' j _ e'
  rcases h3 j _ v e' ev with ⟨d',f,e,_,r⟩ | ⟨d',i,e,_,es,ed⟩
  ·cases e
  ·cases e
   obtain ⟨a,g1,g2,g3⟩:=k.own i d ed
   rw [es] at g1
   cases g1
   refine ⟨a,some'_get.mpr ev,g2.anti fun b z=>.inl (sub b z),.inl ⟨0 + j,z3l e' ev⟩,fun z=>z.2 ⟨j,d,e',ev⟩⟩
 ·have f1:=someS_get.mp e1
  have f2:=someS_get.mp e2
  rcases h3 i _ _ f1 (some'_get.mp e3) with ⟨_,_,e,_⟩ | ⟨d1,i1,e,a1,s1,x1⟩
  ·cases e
  ·rcases h3 j _ _ f2 (some'_get.mp e4) with ⟨_,_,e',_⟩ | ⟨d2,i2,e',a2,s2,x2⟩
   ·cases e'
   ·have:=k.inj i1 i2 a d1 d2 x1 x2 s1 s2
    subst this
    exact z9g nd a1 a2
 ·obtain ⟨j,d,e,e1,e2⟩:=z1k (i:=p.1) (a:=p.2) hp
  rw [WQ] at e
  rw [e]
  exact some'_get.mpr e2
theorem z3y (k:Ok c σ δ H) (hr:ArgR c σ δ H vs as ds) (hm:mkA as ds δ=some ss) (nd:(ios as).Nodup) (hB:B=fun a=>Av c σ δ a∧¬ ∃ (j:Nat) (d:D),ss[j]? = some (S.own d)∧vs[j]? = some (V.ref a))
  (x:Aft ⟨H,B,z0v 0 ss vs,fun _ _=>False⟩ (z0W vs) (z0Z ss) H (z0W vs) (z0Z outs) H') (hio:∀ (j:Nat) d,ss[j]? = some (.own d)→∃ d',outs[j]? = some (.own d')) (hpo:∀ (j:Nat) d,ss[j]? = some (.pure d)→∃ d',outs[j]? = some (.pure d')) :
  Aft c σ δ H σ (putA as outs δ) H'∧∀ v r,RepS ⟨H,B,z0v 0 ss vs,fun _ _=>False⟩ (z0W vs) (z0Z outs) H H' v r→RepS c σ (putA as outs δ) H H' v r:=by
 obtain ⟨h1,h2,h3⟩:=z5e hr hm
 have inIdx:∀ i,i ∈ ios as→∃ (j:Nat) (d:D) (a:Addr),as[j]? = some (.io i)∧ss[j]? = some (.own d)∧vs[j]? = some (.ref a)∧σ[i]? = some (some (.ref a))∧δ[i]? = some (some (.own d)):=fun i hi=>by
  obtain ⟨j,hj,ej⟩:=List.mem_iff_getElem.mp (ios_mem.mp hi)
  have hv:j < vs.length:=by omega
  have hs:j < ss.length:=by omega
  have ej':as[j]? = some (.io i):=by rw [Wk hj,ej]
  rcases h3 j ss[j] vs[j] (by simp [hs]) (by simp [hv]) with ⟨d,f,e,a1,_⟩ | ⟨d,i',e,a1,s1,x1⟩
  ·rw [ej'] at a1; cases a1
  ·rw [ej'] at a1; cases a1
   obtain ⟨a,g1,_⟩:=k.own i d x1
   rw [s1] at g1
   have g2:vs[j] = .ref a:=by
    have:=Wu g1
    exact Wu this
   exact ⟨j,d,a,ej',by rw [Wk hs,e],by rw [Wk hv,g2],by rw [s1,g2],x1⟩
 have passed:∀ a,(∃ (j:Nat) (d:D),ss[j]? = some (S.own d)∧vs[j]? = some (V.ref a))→Own σ δ a:=fun a ⟨j,d,e1,e2⟩=>by
  rcases h3 j _ _ e1 e2 with ⟨d',f,e,_⟩ | ⟨d',i,e,_,es,ed⟩
  ·cases e
  ·exact ⟨i,d',ed,es⟩
 have Iiff:∀ a,(⟨H,B,z0v 0 ss vs,fun _ _=>False⟩:Fc).I a ↔ ∃ (j:Nat) (d:D),ss[j]? = some (S.own d)∧vs[j]? = some (V.ref a):=fun a =>
  ⟨fun ⟨i,hi⟩=>by obtain ⟨j,d,_,e1,e2⟩:=z1k hi; exact ⟨j,d,e1,e2⟩,fun ⟨j,d,e1,e2⟩=>⟨0 + j,z3l e1 e2⟩⟩
 have ownIn:∀ a,Own (z0W vs) (z0Z ss) a→∃ (j:Nat) (d:D),ss[j]? = some (S.own d)∧vs[j]? = some (V.ref a):=fun a ⟨j,d,e1,e2⟩=>⟨j,d,someS_get.mp e1,some'_get.mp e2⟩
 -- the owned addresses are the same
 have slotP:∀ (i:Nat) (d:D),(putA as outs δ)[i]? = some (some (.own d))→(i ∉ ios as∧δ[i]? = some (some (.own d)))∨(i ∈ ios as∧∃ (j:Nat) (d0:D) (a:Addr),as[j]? = some (.io i)∧ss[j]? = some (.own d0)∧vs[j]? = some (.ref a)∧σ[i]? = some (some (.ref a))∧outs[j]? = some (.own d)):=fun i d e=>by
  by_cases hi:i ∈ ios as
  ·right
   obtain ⟨j,d0,a,a1,a2,a3,a4,a5⟩:=inIdx i hi
   obtain ⟨d',ed'⟩:=hio j d0 a2
   have hlt:i < δ.length:=(W3.mp a5).1
   have:=z5B as outs δ i j (.own d') nd a1 ed' hlt
   rw [e] at this
   cases this
   exact ⟨hi,j,d0,a,a1,a2,a3,a4,ed'⟩
  ·rw [z3h as outs δ i hi] at e
   exact .inl ⟨hi,e⟩
 have own_sub:∀ b,Own σ (putA as outs δ) b→Own σ δ b:=fun b ⟨i,d,e1,e2⟩=>by
  rcases slotP i d e1 with ⟨_,e⟩ | ⟨hi,j,d0,a,_,a2,a3,a4,_⟩
  ·exact ⟨i,d,e,e2⟩
  ·rw [e2] at a4
   have:b=a:=by injection (Wu (Wu a4))
   subst this
   exact passed b ⟨j,d0,a2,a3⟩
 have pureP:∀ (i:Nat) (d:D),(putA as outs δ)[i]? = some (some (.pure d))→i ∉ ios as∧δ[i]? = some (some (.pure d)):=fun i d e=>by
  by_cases hi:i ∈ ios as
  ·obtain ⟨j,d0,a,a1,a2,a3,a4,a5⟩:=inIdx i hi
   obtain ⟨d',ed'⟩:=hio j d0 a2
   have hlt:i < δ.length:=(W3.mp a5).1
   have:=z5B as outs δ i j (.own d') nd a1 ed' hlt
   rw [e] at this
   cases this
  ·rw [z3h as outs δ i hi] at e
   exact ⟨hi,e⟩
 have kpAv:∀ a o,H a=some o→¬ Av c σ δ a→H' a=some o:=fun a o e n=>x.keep a o e fun z=>n (.inr (passed a (ownIn a z)))
 have subA:∀ b,Av c σ (putA as outs δ) b→Av c σ δ b:=fun b z=>z.elim .inl fun z=>.inr (own_sub b z)
 -- the callee's set holds ours
 have big:∀ {c':Fc},c'.B=B→∀ b,Av c σ δ b→Av c' (z0W vs) (z0Z outs) b:=fun {c'} hB' b z=>by
  by_cases hp:∃ (j:Nat) (d:D),ss[j]? = some (S.own d)∧vs[j]? = some (V.ref b)
  ·obtain ⟨j,d,e1,e2⟩:=hp
   obtain ⟨d',ed'⟩:=hio j d e1
   exact .inr ⟨j,d',someS_get.mpr ed',some'_get.mpr e2⟩
  ·exact .inl (by rw [hB',hB]; exact ⟨z,hp⟩)
 have okc:∀ (c1 c2:Fc),c1.H₀=c.H₀→c1.pin=c.pin→(∀ b,c1.B b→c.B b∨(c2.B b∧H b=none))→c2.pin=z0v 0 ss vs→(∀ b,B b→c2.B b)→Ok c2 (z0W vs) (z0Z outs) H'→(∀ b,c1.B b→∃ o,H' b=some o)→Ok c1 σ (putA as outs δ) H':=fun c1 c2 e0 e1 e2 e3 e4 k2 hex=>by
  have sub1:∀ b,Av c1 σ (putA as outs δ) b→Av c σ δ b∨H b=none:=fun b z=>by
   rcases z with z | z
   ·rcases e2 b z with z | ⟨_,z⟩
    ·exact .inl (.inl z)
    ·exact .inr z
   ·exact .inl (.inr (own_sub b z))
  have sub2:∀ b,Av c1 σ (putA as outs δ) b→Av c2 (z0W vs) (z0Z outs) b:=fun b z=>by
   have bg:∀ b,Av c σ δ b→Av c2 (z0W vs) (z0Z outs) b:=fun b z=>by
    by_cases hp:∃ (j:Nat) (d:D),ss[j]? = some (S.own d)∧vs[j]? = some (V.ref b)
    ·obtain ⟨j,d,e1,e2⟩:=hp
     obtain ⟨d',ed'⟩:=hio j d e1
     exact .inr ⟨j,d',someS_get.mpr ed',some'_get.mpr e2⟩
    ·exact .inl (e4 b (by rw [hB]; exact ⟨z,hp⟩))
   rcases z with z | z
   ·rcases e2 b z with z | ⟨z,_⟩
    ·exact bg b (.inl z)
    ·exact .inl z
   ·exact bg b (.inr (own_sub b z))
  have kp':∀ {v:V} {d:D},Rep H (Av c σ δ) v d→Rep H' (Av c1 σ (putA as outs δ)) v d:=fun {v d} r=>by
   have r1:Rep H (fun b=>Av c σ δ b∨Av c1 σ (putA as outs δ) b) v d:=r.anti fun b z=>z.elim .inl (sub1 b)
   exact (r1.keep fun b o e n=>kpAv b o e fun z=>n (.inl z)).anti fun b z=>.inl (.inr z)
  refine ⟨fun a o e n=>?_,hex,fun a z=>?_,by rw [z5A]; exact k.len,fun i d e=>?_,fun i d e=>?_,fun i j a d d' f1 f2 f3 f4=>?_,by rw [e1]; exact k.pinned⟩
  ·rw [e0] at e
   have n':¬ c.I a:=fun z=>n (by unfold Fc.I at z ⊢; rw [e1]; exact z)
   refine x.keep a o (k.keep a o e n') fun z=>?_
   obtain ⟨i,d,g1,g2⟩:=passed a (ownIn a z)
   obtain ⟨a',g3,_,g4,_⟩:=k.own i d g1
   rw [g2] at g3; cases g3
   rcases g4 with g4 | g4
   ·exact n' g4
   ·rw [g4] at e; cases e
  ·have z':c.I a:=by unfold Fc.I at z ⊢; rw [← e1]; exact z
   obtain ⟨o,e⟩:=k.ith a z'
   exact x.there a o e
  ·obtain ⟨hi,e'⟩:=pureP i d e
   obtain ⟨v,g1,g2⟩:=k.slot i d e'
   exact ⟨v,g1,kp' g2⟩
  ·rcases slotP i d e with ⟨hi,e'⟩ | ⟨hi,j,d0,a,b1,b2,b3,b4,b5⟩
   ·obtain ⟨a,g1,g2,g3,g4⟩:=k.own i d e'
    have na:¬ Own (z0W vs) (z0Z ss) a:=fun z=>by
     obtain ⟨j,d1,q1,q2⟩:=ownIn a z
     rcases h3 j _ _ q1 q2 with ⟨d',f,ee,_⟩ | ⟨d',i',ee,ai,es,ed⟩
     ·cases ee
     ·have:=k.inj i i' a d d' e' ed g1 es
      subst this
      exact hi (ios_mem.mpr (Wv ai))
    have g2':OwnAt H' (Av c1 σ (putA as outs δ)) a d:=by
     have o1:OwnAt H (fun b=>Av c σ δ b∨Av c1 σ (putA as outs δ) b) a d:=g2.anti fun b z=>z.elim .inl (sub1 b)
     exact (o1.keep (fun b o e n=>kpAv b o e fun z=>n (.inl z)) fun o e=>x.keep a o e na).anti fun b z=>.inl (.inr z)
    refine ⟨a,g1,g2',by unfold Fc.I at g3 ⊢; rw [e0,e1]; exact g3,fun z=>?_⟩
    rcases e2 a z with z | ⟨_,z⟩
    ·exact g4 z
    ·obtain ⟨o,eo⟩:=g2.some
     rw [z] at eo; cases eo
   ·obtain ⟨a',g1,g2,g3,g4⟩:=k2.own j d (someS_get.mpr b5)
    rw [some'_get.mpr b3] at g1
    cases g1
    obtain ⟨i0,d1,q1,q2⟩:=passed a ⟨j,d0,b2,b3⟩
    obtain ⟨a'',q3,q4,q5,q6⟩:=k.own i0 d1 q1
    rw [q2] at q3; cases q3
    refine ⟨a,b4,g2.anti fun b z=>.inl (sub2 b z),by unfold Fc.I at q5 ⊢; rw [e0,e1]; exact q5,fun z=>?_⟩
    rcases e2 a z with z | ⟨_,z⟩
    ·exact q6 z
    ·obtain ⟨o,eo⟩:=q4.some
     rw [z] at eo; cases eo
  ·obtain ⟨d1,g1⟩:∃ d1,δ[i]? = some (some (.own d1)):=by
    rcases slotP i d f1 with ⟨_,e'⟩ | ⟨hi,_⟩
    ·exact ⟨d,e'⟩
    ·obtain ⟨_,d1,_,_,_,_,_,a5⟩:=inIdx i hi
     exact ⟨d1,a5⟩
   obtain ⟨d2,g2⟩:∃ d2,δ[j]? = some (some (.own d2)):=by
    rcases slotP j d' f2 with ⟨_,e'⟩ | ⟨hi,_⟩
    ·exact ⟨d',e'⟩
    ·obtain ⟨_,d1,_,_,_,_,_,a5⟩:=inIdx j hi
     exact ⟨d1,a5⟩
   exact k.inj i j a d1 d2 g1 g2 f3 f4
 have ok1:Ok c σ (putA as outs δ) H':=okc c ⟨H,B,z0v 0 ss vs,fun _ _=>False⟩ rfl rfl (fun b z=>.inl z) rfl (fun b z=>z) x.ok fun b z=>by
  obtain ⟨o,e⟩:=k.bd b z
  exact x.there b o e
 refine ⟨⟨ok1,fun a o e n=>x.keep a o e fun z=>n (passed a (ownIn a z)),fun a z=>.inl (own_sub a z),x.there⟩,fun v r hr=>?_⟩
 cases r with
 | pure d=>exact Rep.anti hr fun b z=>.inl (big rfl b (subA b z))
 | own d =>
  obtain ⟨a,ea,o,nb,h0,kp,hs⟩:=hr
  have hHa:H a=none:=hs
  have nav:¬ Av c σ δ a:=k.nav hHa
  refine ⟨a,ea,o.anti fun b z=>.inl ?_,fun z=>nav (.inl z),k.fresh₀ hHa,?_,hHa⟩
  ·rcases z with (z | z) | z
   ·exact (big rfl b (.inl z)).elim (fun z=>.inl (.inl z)) .inr
   ·exact .inl (.inr z)
   ·exact (big rfl b (.inr (own_sub b z))).elim (fun z=>.inl (.inl z)) .inr
  ·refine okc (c.plus a) (Fc.plus ⟨H,B,z0v 0 ss vs,fun _ _=>False⟩ a) rfl rfl (fun b z=>?_) rfl (fun b z=>.inl z) kp fun b z=>?_
   ·rcases z with z | z
    ·exact .inl z
    ·exact .inr ⟨.inr z,by rw [z]; exact hHa⟩
   ·rcases z with z | z
    ·obtain ⟨o,e⟩:=k.bd b z
     exact x.there b o e
    ·rw [z]; exact o.some
end
def z1z (G:DF):Prop:=∀ ss r outs,G ss=some (r,outs)→outs.length=ss.length∧∀ (j:Nat),(∀ d,ss[j]? = some (.own d)→∃ d',outs[j]? = some (.own d'))∧∀ d,ss[j]? = some (.pure d)→∃ d',outs[j]? = some (.pure d')
theorem z7P (hG:∀ ss y,G ss=some y→runD fb n ss=some y):z1z G:=fun ss r outs h=>by
 have:=hG ss _ h
 unfold runD at this
 cases e:fb (z0h n ss) with
 | exc x δx=>rw [e] at this; cases this
 | stuck=>rw [e] at this; cases this
 | ok fl δ =>
  rw [e] at this
  simp only at this
  cases e1:z0M fl with
  | none=>rw [e1] at this; cases this
  | some r' =>
   rw [e1] at this
   simp only [WD] at this
   cases e2:z0e 0 ss δ with
   | none=>rw [e2] at this; cases this
   | some os =>
    rw [e2] at this
    cases this
    obtain ⟨h1,h2⟩:=z4v e2
    refine ⟨h1,fun j=>⟨fun d ed=>?_,fun d ed=>?_⟩⟩
    ·rcases h2 j _ ed with ⟨d',z,_⟩ | ⟨d',d'',_,_,z⟩
     ·cases z
     ·exact ⟨d'',z⟩
    ·rcases h2 j _ ed with ⟨d',z,z'⟩ | ⟨d',d'',z,_⟩
     ·exact ⟨d',z'⟩
     ·cases z
section
variable {X:Cx} {c:Fc} {e:Expr} {es:List Expr} {as:List Ak} {k n:Nat} {x:Str} {G:DF} {pp pos:Pos}
theorem z6F {ps:List Str} (hK:z1z G) {σ:St} {H:Hp} {Q:VK} (hl:as.length=n) (h:tD c (z05 G as) σ H Q):z9U (spD n G) [] E0 (tX c as) σ H Q:=by
 obtain ⟨δ,kk,q⟩:=h
 unfold z05 at q
 split at q
 ·rename_i hc
  rw [Wg] at hc
  have nd:=z2U hc.2
  rw [z04] at q
  refine ⟨δ,kk,fun i hi=>?_,z01 q fun ds δ1 q1 vs H1 a1 r1=>?_⟩
  ·have:=Q4.mp hc.1 i (ios_mem.mpr hi)
   unfold z0p at this
   split at this
   ·rename_i d ed
    exact z2e kk ed
   ·cases this
  ·cases em:mkA as ds δ1 with
   | none=>rw [em] at q1; exact q1.elim
   | some ss =>
    rw [em] at q1
    simp only at q1
    cases eg:G ss with
    | none=>rw [eg] at q1; exact q1.elim
    | some y =>
     obtain ⟨r,outs⟩:=y
     rw [eg] at q1
     have hin:=z5S a1.ok r1 em nd
     obtain ⟨m1,m2,_⟩:=z5e r1 em
     obtain ⟨g1,g2⟩:=hK ss r outs eg
     refine ⟨ss,_,by rw [WH,← m2]; exact hl,by rw [WH]; exact hin,r,outs,eg,fun v H2 a2 r2=>?_⟩
     rw [WH] at a2 r2
     obtain ⟨o1,o2⟩:=z3y a1.ok r1 em nd rfl a2 (fun j d ed=>(g2 j).1 d ed) fun j d ed=>(g2 j).2 d ed
     exact q1 v H2 (a1.trans o1) (RepS.back (o2 v r r2) a1)
 ·exact q.elim
theorem z0l (F:KFn X.prog X.w X.K X.mg X.base k x n G) (hK:z1z G) (hr:Room k X.A) (hg:Gl X x) (ha:SX X c (e :: es) as) (hl:as.length=n) (hdb:(x == ("__debug__" : Str))=false:=by decide)
  (he:W5 (e :: es) X.env=(false,eval e X.env) :: W5 es X.env:=by rfl) (hpl:(WK pos (W5 es X.env)).any (·.1)=false:=by rfl):SE X c (.Call (.Name x pp) (e :: es) [] pos) (z05 G as):=by
 obtain ⟨f,fd,ps,hm,hk,hb,ok⟩:=F
 exact PE.weak (z8S ok hr hg hm hk hb .nil zdi ha hdb he hpl) fun σ H Q h=>z6F (ps:=ps) hK hl h
end
def gOf (np:List Nat) (n:Nat) (b:DS):DF:=fun ss=>if ioOk np 0 ss then runD b n ss else none
theorem z0Q (h:gOf np n b ss=some y):ioOk np 0 ss=true∧runD b n ss=some y:=by
 unfold gOf at h
 split at h
 ·rename_i hi; exact ⟨hi,h⟩
 ·cases h
theorem z0w:z1z (gOf np n b):=z7P fun _ _ h=>(z0Q h).2
theorem z2k (r:Room k A):A.units + 64 < Q8:=by have:=r.un; omega
theorem z1F {c:Fc} {np cs:List Nat} (h:Np c np) (hc:cs.all (fun i=>!np.contains i)=true):∀ p ∈ c.pin,p.1 ∉ cs:=fun p hp z=>by
 have h1:=h p hp
 have h2:=Q4.mp hc p.1 z
 rw [h1] at h2
 cases h2
def ndS:List Str→Bool
 | []=>true
 | x :: r=>!r.contains x && ndS r
theorem zb7:∀ {l:List Str},ndS l=true→l.Nodup
 | [],_=>.nil
 | x :: r,h=>by
  simp only [ndS,Wg,Ja] at h
  exact List.nodup_cons.mpr ⟨fun hm=>by have:=h.1; simp at this; exact this hm,zb7 h.2⟩
def z3N (names:List (Str×NameKind)) (x:Str) (k:NameKind):Bool:=match names.lookup x with
 | some j=>j == k
 | none=>false
theorem z5I (h:z3N names x k=true):names.lookup x=some k:=by
 unfold z3N at h
 split at h
 ·rename_i j e; rw [e,eq_of_beq h]
 ·cases h
def cscB (names:List (Str×NameKind)) (N:List Str) (sc:List (Str×NameKind)) (cs:List Nat):Bool :=
 sc.all (fun x=>!(x.2 == .local) || z3N sc x.1 .local) && sc.all (fun x=>!(x.2 == .free) || (z3N names x.1 .cell || z3N names x.1 .free)) && ndS (sc.map (·.1)) &&
 (WS N.length).all fun i=>match N[i]? with
  | some x=>!(z3N sc x .local || z3N sc x .cell) || cs.contains i
  | none=>true
theorem z7u (h:names.lookup x=some k):z3N names x k=true:=by
 unfold z3N; rw [h]; simp
theorem z0L {X:Cx} {scope:Scope} {cs:List Nat} (hk:scope.kind = .function) (h:cscB X.env.scope.names X.N scope.names cs=true):CScope X scope cs:=by
 unfold cscB at h
 simp only [Wg] at h
 obtain ⟨⟨⟨h1,h2⟩,h3⟩,h4⟩:=h
 refine ⟨hk,fun x hx hl=>?_,fun x hx hf=>?_,zb7 h3,fun i x hi hl=>?_⟩
 ·have:=Q4.mp h1 x hx
  rw [hl] at this
  exact z5I (by simpa using this)
 ·have:=Q4.mp h2 x hx
  rw [hf] at this
  have:z3N X.env.scope.names x.1 .cell=true∨z3N X.env.scope.names x.1 .free=true:=by simpa using this
  exact this.elim (fun z=>.inl (z5I z)) fun z=>.inr (z5I z)
 ·have hil:i < X.N.length:=(W3.mp hi).1
  have:=Q4.mp h4 i (List.mem_range.mpr hil)
  rw [hi] at this
  have hl':(z3N scope.names x .local || z3N scope.names x .cell)=true:=by
   rcases hl with z | z
   ·rw [z7u z]; rfl
   ·rw [z7u z]; simp
  simp only [hl',Bool.not_true,Bool.false_or] at this
  simpa using this
theorem zbq {K:W0}:TyK K "int":=⟨rfl,rfl,rfl,rfl,rfl,rfl,rfl⟩
theorem z9S {K:W0}:TyK K "bool":=⟨rfl,rfl,rfl,rfl,rfl,rfl,rfl⟩
theorem z8h {K:W0}:TyK K "tuple":=⟨rfl,rfl,rfl,rfl,rfl,rfl,rfl⟩
def z3L:Expr→Bool
 | .Starred ..=>false
 | _=>true
theorem z4m (h:z3L e=true):W5 (e :: es) env=(false,eval e env) :: W5 es env:=by
 cases e <;> first | (cases h; done) | rw [W5] | rfl
 all_goals (intros; contradiction)
section
variable {X:Cx} {c:Fc} {e:Expr} {es:List Expr} {f fe:DE} {g:DA} {as:List Ak}
theorem z02 (ha:SE X c e f) (hr:SA X c es g) (hs:z3L e=true:=by rfl):SA X c (e :: es) (z00 f g):=z8u ha hr (z4m hs)
theorem z08 (ha:SE X c e fe) (hr:SX X c es as) (hs:z3L e=true:=by rfl):SX X c (e :: es) (.val fe :: as):=zcy ha hr (z4m hs)
theorem z1j {i:Nat} (ha:PE X e (tVar i)) (hr:SX X c es as) (hs:z3L e=true:=by rfl):SX X c (e :: es) (.io i :: as):=sx_io ha hr (z4m hs)
end
mutual
def z2N:Nat→Expr→Option D
 | _,.Constant (.int i) _ _=>some (.int i)
 | _,.Constant (.bool b) _ _=>some (.bl b)
 | _,.Constant .none _ _=>some .non
 | _,.Constant (.str x) _ _=>some (.str x.cps.toList)
 | n + 1,.Tuple es _ _=>if es.length≤1000 then (z35 n es).map .tup else none
 | _,_=>none
def z35:Nat→List Expr→Option (List D)
 | _,[]=>some []
 | n,e :: es=>match z2N n e,z35 n es with
  | some d,some ds=>some (d :: ds)
  | _,_=>none
end
theorem z88:∀ {n:Nat} {e:Expr} {d:D},z2N n e=some d→z3L e=true:=fun {n e d} h=>by
 cases e <;> first | rfl | (cases n <;> simp [z2N] at h)
mutual
theorem z64:∀ {n:Nat} {e:Expr} {d:D},z2N n e=some d→SE X c e (eD d)
 | _,.Constant (.int i) _ _,d,h=>by
  simp only [z2N,W8] at h; subst h; exact z06
 | _,.Constant (.bool b) _ _,d,h=>by
  simp only [z2N,W8] at h; subst h; exact z5u
 | _,.Constant .none _ _,d,h=>by
  simp only [z2N,W8] at h; subst h; exact zaT
 | _,.Constant (.str x) _ _,d,h=>by
  simp only [z2N,W8] at h; subst h; exact z4o _ (zaP x)
 | 0,.Tuple es k pos,d,h=>by simp [z2N] at h
 | n + 1,.Tuple es k pos,d,h=>by
  simp only [z2N] at h
  split at h
  ·rename_i hl
   cases e:z35 n es with
   | none=>rw [e] at h; cases h
   | some ds =>
    rw [e] at h
    simp only [WI,W8] at h
    subst h
    exact z1d (z4t e) hl
  ·cases h
theorem z4t:∀ {n:Nat} {es:List Expr} {ds:List D},z35 n es=some ds→SA X c es (fun δ=>.ok ds δ)
 | _,[],ds,h=>by
  simp only [z35,W8] at h; subst h; exact z0G
 | n,e :: es,ds,h=>by
  simp only [z35] at h
  split at h
  ·rename_i d ds' h1 h2
   cases h
   exact z8u (z64 h1) (z4t h2) (z4m (z88 h1))
  ·cases h
end
def zaE (ds:List D):DE:=fun δ=>.ok (.own (.lst ds)) δ
theorem za3 {X:Cx} {c:Fc} {e:Expr} {d:D} (h:z2N 9 e=some d):SE X c e (eD d):=z64 h
theorem z63 {X:Cx} {c:Fc} {es:List Expr} {ds:List D} {pos:Pos} (h:z35 9 es=some ds) (hl:es.length≤1000):SE X c (.List es pos) (zaE ds):=z1R (z4t h) hl
section
variable {X:Cx} {c:Fc} {e:Expr} {fe:DE} {pos:Pos} {tg:Expr}
theorem z9W (he:SE X c e fe) (hs:QD e none pos.line X.env=pure false:=by rfl):SS X c (.Expr e pos) (z6C fe) :=
 zbA he (fun _=>hs) trivial (z8L he hs)
theorem z1I {i:Nat} {o:Expr} {apos cpos:Pos} (ho:PE X o (tVar i)) (he:SE X c e fe)
  (hbase:Ql o "append" X.env (eval o X.env)=eval o X.env:=by rfl)
  (hfew:((WK cpos (W5 [e] X.env)).all (fun x=>!x.1) && (backToKw cpos (QN [] X.env)).all (fun x=>x.1.isSome)
   && decide ([e].length + ([]:List Keyword).length + (if ([]:List Keyword).isEmpty then 0 else 1) < 30))=true:=by rfl)
  (hline:(apos.endLine == cpos.line)=true:=by rfl) (hs:W5 [e] X.env=(false,eval e X.env) :: W5 [] X.env:=by rfl)
  (hsw:QD (.Call (.Attribute o "append" apos) [e] [] cpos) none pos.line X.env=pure false:=by rfl):SS X c (.Expr (.Call (.Attribute o "append" apos) [e] [] cpos) pos) (z0s i fe) :=
 z8n (p0:=apos) ho he (z8L (z8T QA PySem.F.slot_list_append PySem.F.type_list_append z6l ho (z0X he z1S hs) hbase hfew hline hs rfl) hsw)
end
def noL (K:W0):Bool:=K.all fun p=>match p.2.cls with
 | .type t=>!(t == "list")
 | _=>true
theorem zb8 [BEq α] [LawfulBEq α]:∀ {K:List (α×β)} {a:α} {o:β},K.lookup a=some o→(a,o) ∈ K
 | [],a,o,e=>by simp at e
 | (b,o') :: r,a,o,e=>by
  rw [WU] at e
  cases hb:a == b with
  | true =>
   rw [hb] at e
   have h1:o'=o:=Wu e
   have h2:a=b:=eq_of_beq hb
   rw [h1,h2]
   exact Wo
  | false =>
   rw [hb] at e
   exact Wj _ (zb8 e)
theorem zdu {K:W0} {a:Addr} {o:Obj} (h:noL K=true) (e:K.lookup a=some o) (hc:o.cls = .type "list"):False:=by
 have hm:(a,o) ∈ (K:List (Addr×Obj)):=zb8 e
 have h1:=Q4.mp h (a,o) hm
 have h2:(match o.cls with | .type t=>!(t == "list") | _=>true)=true:=h1
 rw [hc] at h2
 have h3:(!(("list" : String) == "list"))=true:=h2
 rw [beq_self_eq_true] at h3
 cases h3
theorem zdw {K:W0} {G:DF} {H:Hp} {a:Addr} {ns:List Int} {E:XK} (hK:noL K=true) (hS:SqL K H a (ns.map V.int)) (hG:∃ outs,G [.pure (.lst (ns.map .int))]=some (.pure (.bl true),outs)) :
  spD 1 G [.ref a] H (fun v _=>v = .bl true) E:=by
 have hR:Rd H a (.lst (ns.map V.int)):=by
  rcases hS with h | ⟨o,its,n,e,hc,_⟩
  ·exact h
  ·exact (zdu hK e hc).elim
 obtain ⟨outs,hg⟩:=hG
 have rep:∀ O:Addr→Prop,¬ O a→Rep H O (.ref a) (.lst (ns.map D.int)):=fun O hO=>.lst hO hR (by simp) fun i v d e1 e2=>by
  rw [Wz] at e1 e2
  cases e:ns[i]? with
  | none=>rw [e] at e1; cases e1
  | some k=>rw [e] at e1 e2; cases e1; cases e2; exact .int k
 refine ⟨[.pure (.lst (ns.map .int))],fun _=>False,rfl,⟨fun b o e _=>e,fun b z=>z.elim,fun b ⟨i,z⟩=>?_,rfl,fun i d e=>?_,fun i d e=>?_,fun i j b d d' e1 e2 e3 e4=>?_,fun p z=>?_⟩,_,outs,hg,fun v H' x r=>?_⟩
 ·simp [z0v] at z
 ·cases i with
  | zero =>
   simp at e
   subst e
   refine ⟨.ref a,rfl,rep _ fun z=>?_⟩
   rcases z with z | ⟨j,d',z1,z2⟩
   ·exact z
   ·cases j with
    | zero=>simp at z1
    | succ j=>simp at z1
  | succ i=>simp at e
 ·cases i with
  | zero=>simp at e
  | succ i=>simp at e
 ·cases i with
  | zero=>simp at e1
  | succ i=>simp at e1
 ·simp [z0v] at z
 ·cases r
  rfl
theorem walkD {l:PySem.W.OpenLaw} {q:Wi} {loose:List Str} {XP:(Str→Option Value)→Heap→Prop} {YP:Wp→Heap→Prop} {d:DefRec} {K:Params→W0} {k:Nat} {G:DF} (hn:l.most=some 63) (hdf:d.params.defaults=[]) (hr:Room k callerA)
  (hY:∀ (w:Wp) (h:Heap),YP w h→(K w.params).In h) (hL:∀ p:Params,noL (K p)=true)
  (hG:∀ ns:List Int,ns.length≤63→∃ outs,G [.pure (.lst (ns.map .int))]=some (.pure (.bl true),outs))
  (F:∀ (w:Wp) (mg:Str→Option Value) (fa:Addr) (h:Heap),(K w.params).In h→h.Ns Wm mg→mg d.name=some (.ref fa) →
   ∃ fd:Wx,(∀ (s:W1) (u:Value),BindsTo s fd ⟨[u],[]⟩ [("script",u)])∧∀ base:Heap,(K w.params).In base→base.Ns Wm mg→FnOk l.prog w (K w.params) mg base CX0 k fa fd ["script"] (spD 1 G)) :
  PySem.W.WalkO q loose XP YP l.row.toRowW d [] (fun f vs=>PySem.call f vs) :=
 L2.walk_of (n:=63) (k:=k) (x:="script") (CX:=fun _=>CX0) (sp:=fun _=>spD 1 G) hn (by decide) hdf hr hY F (fun w H a ns hl _ hS=>zdw (hL w.params) hS (hG ns hl)) fun _ _ _ _ _ z=>z
end DV
set_option maxHeartbeats 400000
namespace L2
open PySem PySem.Spec PyProof.Rows
def Its (x:Str):It:=⟨fun i _=>i < x.cps.size,fun i H y H'=>H'=H∧∃ c,x.cps[i]? = some c∧y = .str ⟨#[c]⟩,fun i _=>i=x.cps.size⟩
theorem z9T {P:Wi} {w:Wp} {K:W0} {tg:Expr} (x:Str) (t:Tok) (it:Addr) (T:String) (hT:T = "str_ascii_iterator"∨T = "str_iterator"):Turn P w K tg (Its x) [it] it (fun i h=>h.IsStrIter it T x t i):=by
 have W:∀ A:Wn,A.handled=none→Walks P w A it [it] [it] x.cps.size (SignAt x) (fun i h=>h.IsStrIter it T x t i):=fun A hh=>by
  rcases hT with rfl | rfl
  ·exact Walks.strAscii hh it x t
  ·exact Walks.strWide hh it x t
 refine ⟨by simp,fun i h st b hb=>?_,fun i h h' st k=>?_,?_,?_,fun A i s Q E st h=>?_⟩
 ·have e:b=it:=by simpa using hb
  subst e
  obtain ⟨o,e,c,d⟩:=st
  exact ⟨o,e,fun v z=>by rw [d] at z; cases z⟩
 ·obtain ⟨o,e,r⟩:=st
  exact ⟨o,k it (by simp) o e,r⟩
 ·intro X hP hw hK hc i pins s σ H E I hf st hg
  subst hP hw hK
  obtain ⟨f0,f1,f2,f3,f4,f5⟩:=hf it (by simp)
  refine (W X.A (I.ok.hd hc)).item i s _ _ hg st fun v h' tk hv st' kk=>?_
  obtain ⟨c,u,hx,rfl⟩:=hv
  have I1:Inv X pins σ H { s with heap:=h',toks:=tk }:=I.turned (fun b o hb e=>kk b o (by simpa using hb) e) f0 f1 f3 f4 f5
  obtain ⟨o,e,c',d⟩:=id st'
  refine ⟨_,rfl,zax (s:={ s with heap:=h',toks:=tk }) e c' d (by rcases hT with rfl | rfl <;> decide) ⟨.str ⟨#[c]⟩,H,I1,⟨u,rfl⟩,⟨rfl,c,hx,rfl⟩,st',fun b hb=>(hf b hb).1⟩⟩
 ·intro X hP hw hK hc i pins s σ H E I hf st hg
  subst hP hw hK
  have hg':i=x.cps.size:=hg
  subst hg'
  obtain ⟨f0,f1,f2,f3,f4,f5⟩:=hf it (by simp)
  exact (W X.A (I.ok.hd hc)).done s _ _ st fun h' tk eb=>⟨rfl,I.turned (fun b o hb e=>eb b o (by simpa using hb) e) f0 f1 f3 f4 f5⟩
 ·rcases hT with rfl | rfl
  ·exact wpAny_pyIter_striter_ascii st h
  ·exact wpAny_pyIter_striter_wide st h
end L2
namespace DV
open PySem PySem.Spec PyProof.Rows L2
section
variable {X:Cx} {c:Fc} {tg e:Expr} {fe:DE} {pos pp:Pos}
def iSeqS (K:W0) (tl:TE):TI:=fun σ H R=>tl σ H fun x H1=>(∃ a,x = .ref a∧(∃ xs,SqL K H1 a xs)∧R (Itl K a) H1)∨(∃ a,x = .ref a∧(∃ xs,SqT K H1 a xs)∧R (Itt K a) H1)∨∃ z,x = .str z∧R (Its z) H1
theorem zbW {l:Expr} {tl:TE} (hl:PE X l tl):PI X tg l (iSeqS X.K tl):=by
 intro pins s σ H R I h
 refine thn (hl pins s σ H _ I h) fun v s1 ⟨x,H1,I1,r1,q1⟩=>?_
 rcases q1 with q1 | q1 | ⟨z,e,q⟩
 ·obtain ⟨a,e,⟨xs,hq⟩,q⟩:=q1
  subst e
  cases r1
  obtain ⟨its,rv,p,hz⟩:=I1.list hq
  refine wpAny_pyIter_list p.isList ?_
  refine ⟨s1.heap.objs.size,[s1.heap.objs.size],_,_,H1,rfl,I1.kept (t':=s1.toks) fun b o e=>W7 _ e,z8i a _,⟨_,Wr _ rfl,rfl,rfl⟩,fun b hb=>?_,q⟩
  have e:b=s1.heap.objs.size:=by simpa using hb
  subst e
  exact I1.fpOk (Wc _) (I1.hok.fresh (Wc _))
 ·obtain ⟨a,e,⟨xs,hq⟩,q⟩:=q1
  subst e
  cases r1
  obtain ⟨its,rv,p,hz⟩:=I1.tuple hq
  refine wpAny_pyIter_tuple (show s1.heap.IsTuple a its.toArray from p) ?_
  refine ⟨s1.heap.objs.size,[s1.heap.objs.size],_,_,H1,rfl,I1.kept (t':=s1.toks) fun b o e=>W7 _ e,z7K a _,⟨_,Wr _ rfl,rfl,rfl⟩,fun b hb=>?_,q⟩
  have e:b=s1.heap.objs.size:=by simpa using hb
  subst e
  exact I1.fpOk (Wc _) (I1.hok.fresh (Wc _))
 ·subst e
  obtain ⟨t,rfl⟩:=r1
  refine wpAny_pyIter_strU ?_
  have hT:strIterType z = "str_ascii_iterator"∨strIterType z = "str_iterator":=by
   unfold strIterType
   split
   ·exact .inl rfl
   ·exact .inr rfl
  refine ⟨s1.heap.objs.size,[s1.heap.objs.size],_,_,H1,rfl,I1.kept (t':=s1.toks) fun b o e=>W7 _ e,z9T z t _ _ hT,⟨_,Wr _ rfl,rfl,rfl⟩,fun b hb=>?_,q⟩
  have e:b=s1.heap.objs.size:=by simpa using hb
  subst e
  exact I1.fpOk (Wc _) (I1.hok.fresh (Wc _))
theorem zdE (z:Tx):ItOk c σ δ H (Its (toS z)) (z.map fun n=>D.str [n]):=by
 intro H2 kp
 have hsz:(toS z).cps.size=z.length:=by simp [toS]
 refine ⟨by show (z.map _).length=_; rw [hsz]; simp,fun i d e=>?_⟩
 rw [Wz] at e
 cases ez:z[i]? with
 | none=>rw [ez] at e; cases e
 | some n =>
  rw [ez] at e
  cases e
  have hi:i < z.length:=(W3.mp ez).1
  refine ⟨by show i < _; rw [hsz]; exact hi,fun x H3 ⟨e3,cc,hc,hx⟩=>.inl ⟨e3,?_⟩⟩
  have:(toS z).cps[i]? = z[i]?:=by simp [toS]
  rw [this,ez] at hc
  cases hc
  rw [hx]
  exact .str [n]
def iSq (f:DE):DI:=fun δ=>(f δ).bind fun r δ1=>match r.d with
 | .lst ds=>.ok ds δ1
 | .tup ds=>.ok ds δ1
 | .str x=>.ok (x.map fun n=>.str [n]) δ1
 | _=>.stuck
theorem z2f (he:SE X c e fe):SI X c tg e (iSq fe):=PI.weak (zbW he) fun σ H R ⟨δ,k,q⟩=>by
 unfold iSq at q
 rw [z04] at q
 refine ⟨δ,k,z01 q fun r δ1 q1 v H1 a1 r1=>?_⟩
 have rr:=r1.rep
 generalize r.d=d at q1 rr
 cases d <;> first | exact q1.elim | skip
 ·cases rr
  exact .inr (.inr ⟨_,rfl,q1 _ H1 a1 (zdE _)⟩)
 ·cases rr with
  | tup h1 h2 h3 h4=>exact .inr (.inl ⟨_,rfl,⟨_,.of h2⟩,q1 _ H1 a1 (zdD _ h2 (fun z=>h1 (.inr z)) ⟨h3,h4⟩)⟩)
 ·cases rr with
  | lst h1 h2 h3 h4 =>
   refine .inl ⟨_,rfl,⟨_,.inl h2⟩,q1 _ H1 a1 ?_⟩
   intro H2 kp
   rename_i a vs
   have h5:Rd H2 a (.lst vs):=Rd.keep h2 fun o e=>kp a o e fun z=>h1 (.inr z)
   have r':Reps H1 (Av c σ δ1) vs _:=⟨h3,h4⟩
   refine ⟨⟨vs,.inl h5,by rw [r'.1]; exact Wc _⟩,fun i d e=>?_⟩
   obtain ⟨v,ev,rv⟩:=r'.get e
   refine ⟨⟨vs,v,.inl h5,ev⟩,fun x H3 ⟨e3,y⟩=>.inl ⟨e3,?_⟩⟩
   have:=y vs (.inl h5)
   rw [ev] at this
   cases this
   exact rv
end
end DV
namespace L2
open PySem PySem.Spec PyProof.Rows
theorem z54 (a:Int) (t:Tok) (l:Addr) (dd:Option Addr) (items:Array Value) (n:Nat) (sl:Array (Option Value)) :
  Meets (Builtin.«int.__rmul__» ⟨[.int a t,.ref l],[]⟩) (fun _ R s=>s.heap.get? l=some { cls:=.type "tuple",dict:=dd,data:=.seq items n,slots:=sl }∧R (.ok (.ret Value.notImplemented)) s) :=
 .of_wp fun prog w A R s h=>by obtain ⟨hp,g,d,tk,os⟩:=s; obtain ⟨hl,h⟩:=h; wp_walk; exact ⟨_,rfl,h⟩
theorem z48:fillsNumberSlot (.type "tuple") "mul" = pure false :=
 PySem.fillsNumberSlot_seq (id:="tuple.__mul__") (r:=some (.builtin "tuple.__rmul__")) F.slot_tuple_mul.lookup (by decide +kernel) F.slot_tuple_rmul.lookup (by decide +kernel)
theorem z68:seqRepeat? (.type "tuple")=pure (some (.builtin "tuple.__mul__")):=by
 unfold seqRepeat?
 rw [PySem.seqSlot_of (T:="tuple") (name:="__mul__") (id:="tuple.__mul__") F.slot_tuple_mul.lookup (by decide +kernel),PySem.seqSlot_of (T:="tuple") (name:="__rmul__") (id:="tuple.__rmul__") F.slot_tuple_rmul.lookup (by decide +kernel)]
 rfl
theorem z4W (l:Addr) (dd:Option Addr) (items:Array Value) (n:Nat) (sl:Array (Option Value)) (x:Int) (u:Tok) (h1:¬ (decide (x < -(2 ^ 63)) || decide (x ≥ 2 ^ 63))=true) (h2:¬ (items.isEmpty || x == 1)=true) (h3:¬ (decide (x≤0) || items.isEmpty)=true) (h4:¬ items.size * x > (2 ^ 63 - 1) / 8) (h5:¬ Builtin.Tuple.tupleTooMany (items.size * x)=true) (h6:((W9 x.toNat items).foldl (· ++ ·) #[]).size≤W6) :
  Meets (Builtin.«tuple.__mul__» ⟨[.ref l,.int x u],[]⟩) (fun _ R s=>s.heap.get? l=some { cls:=.type "tuple",dict:=dd,data:=.seq items n,slots:=sl } ∧
   R (.ok (.ret (.ref s.heap.objs.size))) { s with heap:=s.heap.push { cls:=.type "tuple",data:=.seq ((W9 x.toNat items).foldl (· ++ ·) #[]) } }) :=
 .of_wp fun prog w A R s h=>by
  obtain ⟨hp,g,d,tk,os⟩:=s; obtain ⟨hl,h⟩:=h
  wp_walk
  rw [if_neg h1]
  wp_walk
  try rw [if_neg h2]
  try wp_walk
  try rw [if_neg h3]
  try wp_walk
  try rw [if_neg h4]
  try wp_walk
  try rw [if_neg h5]
  try wp_walk
  exact ⟨_,rfl,h⟩
theorem z5M (its:List α):∀ (k:Nat) (acc:List α),List.foldl (fun x1 x2:Array α=>x1 ++ x2) acc.toArray (W9 k its.toArray)=(acc ++ (W9 k its).flatten).toArray
 | 0,acc=>by simp
 | k + 1,acc=>by
  rw [WM,QJ,show acc.toArray ++ its.toArray=(acc ++ its).toArray by simp,z5M its k]
  simp [WM]
section
variable {X:Cx}
def zcS (K:W0):R2:=fun x y H Q=>∃ l k xs,x = .ref l∧y = .int k∧SqT K H l xs∧xs≠[]∧2≤k∧k≤1000000∧xs.length * k.toNat≤W6∧∀ p,H p=none→Q (.ref p) (upd H p (.tup (W9 k.toNat xs).flatten))
theorem zc0:OpR X (Q1 .Mult) (zcS X.K):=by
 intro pins s σ H x y v u Q I rx ry h
 obtain ⟨l,k,xs,rfl,rfl,hH,hne,h1,h2,hz,q⟩:=h
 cases rx
 obtain ⟨t,rfl⟩:=ry
 obtain ⟨its,r,pl,hl⟩:=I.tuple hH
 obtain ⟨⟨cls,dd,data,sl⟩,ho,hc,n,hd⟩:=id pl
 simp only at hc hd
 subst hc hd
 have hlen:its.toArray.size=xs.length:=by rw [We]; exact r.length.symm
 have hem:its.toArray.isEmpty=false:=by
  cases its with
  | nil=>exact absurd (r.nil_iff.mp rfl) hne
  | cons a b=>rfl
 have hline:W6=16777216:=rfl
 have hk:(k.toNat:Int)=k:=by omega
 have hmul:((its.toArray.size:Nat):Int) * k=((xs.length * k.toNat:Nat):Int):=by rw [hlen,Int.natCast_mul,hk]
 have hfold:List.foldl (fun x1 x2=>x1 ++ x2) #[] (W9 k.toNat its.toArray)=(W9 k.toNat its).flatten.toArray:=by
  have:=z6x its k.toNat []
  rw [WZ] at this
  exact this
 refine wpAny_binaryOp_repeat_ref (T:="tuple") (U:="int") (by decide) ⟨_,ho,rfl⟩ (fun s'=>J9 s' k t) z48 F.fills_int_mul F.slot_int_rmul z68 F.slot_int_index.lookup
  (QS F.slot_int_rmul (J9 s k t) F.entry_int_rmul (F.args_int_rmul_2 _ _) (z54 k t l dd its.toArray n sl)
   ⟨ho,rfl,⟨_,ho,rfl⟩,QS F.slot_tuple_mul ⟨_,ho,rfl⟩ F.entry_tuple_mul (F.args_tuple_mul_2 _ _) (z4W l dd its.toArray n sl k t ?_ ?_ ?_ ?_ ?_ ?_) ⟨ho,?_⟩⟩)
 ·simp; omega
 ·rw [hem]; simp; omega
 ·rw [hem]; simp; omega
 ·rw [hmul]; omega
 ·rw [hmul]
  unfold Builtin.Tuple.tupleTooMany
  rw [hline] at hz
  generalize xs.length * k.toNat=m at hz
  simp only [hline,decide_eq_true_eq]
  omega
 ·rw [hfold,We,z73,← r.length,Nat.mul_comm]; exact hz
 ·rw [hfold]
  have I1:Inv X pins σ (upd H s.heap.objs.size (.tup (W9 k.toNat xs).flatten)) { s with heap:=s.heap.push { cls:=.type "tuple",data:=.seq (W9 k.toNat its).flatten.toArray } } :=
   I.laid (t':=s.toks) (fun b o e=>W7 _ e) (Wc _) (show ObjOk X.prog X.w _ _ _ (.tup (W9 k.toNat xs).flatten) from ⟨by rw [z73,Nat.mul_comm]; exact hz,(W9 k.toNat its).flatten,r.rep k.toNat,IsTupN.new _ _⟩)
  exact ⟨.ref _,_,I1,rfl,q _ (I.hok.fresh (Wc _))⟩
def zcT:R2:=fun x y H Q=>∃ z k,x = .str z∧y = .int k∧2≤k∧k≤1000000∧0 < z.length∧z.length * k.toNat≤W6∧Q (.str ⟨(W9 k.toNat z.cps).foldl (· ++ ·) #[]⟩) H
theorem op_repS:OpR X (Q1 .Mult) zcT:=by
 intro pins s σ H x y v u Q I rx ry h
 obtain ⟨z,k,rfl,rfl,h1,h2,h0,hz,q⟩:=h
 obtain ⟨t,rfl⟩:=rx
 obtain ⟨t',rfl⟩:=ry
 have hline:W6=16777216:=rfl
 have c1:¬ k < 1:=by omega
 have c2:(k == 1 || z.length == 0)=false:=by
  simp
  omega
 refine PySem.P.mul_str (by simp; omega) (fun _ _=>?_) (fun _ _=>?_) ?_
 ·have hm:(z.length:Int) * k≤16777216:=by
   have:(z.length:Int) * k=((z.length * k.toNat:Nat):Int):=by rw [Int.natCast_mul,show (k.toNat:Int)=k by omega]
   rw [this]
   rw [hline] at hz
   omega
  have:(z.length:Int)≤(2 ^ 63 - 1) / k:=(Int.le_ediv_iff_mul_le (by omega)).mpr (by omega)
  omega
 ·unfold Builtin.Str.tooLong
  rw [hline] at hz
  generalize z.length * k.toNat=m at hz
  simp only [hline,decide_eq_false_iff_not]
  omega
 ·rw [if_neg c1,if_neg (by rw [c2]; simp)]
  have hsz:((W9 k.toNat z.cps).foldl (· ++ ·) #[]).size=k.toNat * z.length:=by
   have h:=z5M z.cps.toList k.toNat []
   simp only [WZ,Array.toArray_toList] at h
   rw [h,We,z73]
   simp [Str.length]
  exact ⟨by show ((W9 k.toNat z.cps).foldl (· ++ ·) #[]).size≤_; rw [hsz,Nat.mul_comm]; exact hz,.str _,H,I.tok _,⟨_,rfl⟩,q⟩
end
end L2
namespace DV
open PySem PySem.Spec PyProof.Rows L2
def z4u:D→D→Option S
 | .int i,.int j=>pMul (.int i) (.int j)
 | .str x,.int k=>if 2≤k∧k≤1000000∧0 < x.length∧x.length * k.toNat≤W6 then some (.pure (.str (W9 k.toNat x).flatten)) else none
 | .tup xs,.int k=>if 2≤k∧k≤1000000∧0 < xs.length∧xs.length * k.toNat≤W6 then some (.pure (.tup (W9 k.toNat xs).flatten)) else none
 | _,_=>none
def zcU (K:W0):R2:=fun x y H Q=>rI CMul (fun i j=>V.int (i * j)) x y H Q∨zcT x y H Q∨zcS K x y H Q
theorem z6Y:OpR X (Q1 .Mult) (zcU X.K):=op_mul.or (op_repS.or zc0)
theorem Reps.rep (h:Reps H O vs ds):∀ k:Nat,Reps H O (W9 k vs).flatten (W9 k ds).flatten
 | 0=>.nil
 | k + 1=>by rw [WM,WM,Qq,Qq]; exact h.append (Reps.rep h k)
theorem z6Z {K:W0}:Op2 (zcU K) z4u:=by
 intro c σ δ H x y d e s Q k rx ry hp q
 cases d <;> cases e <;> first | (simp [z4u] at hp; done) | skip
 ·exact .inl (zdp c σ δ H x y _ _ s Q k rx ry hp q)
 ·rename_i z n
  simp only [z4u] at hp
  split at hp
  ·rename_i h
   cases hp
   refine .inr (.inl ⟨toS z,n,rx.str,ry.int,h.1,h.2.1,by rw [z1V]; exact h.2.2.1,by rw [z1V]; exact h.2.2.2,?_⟩)
   have e:(⟨(W9 n.toNat (toS z).cps).foldl (· ++ ·) #[]⟩:Str)=toS (W9 n.toNat z).flatten:=by
    unfold toS
    congr 1
    have:=z5M z n.toNat []
    rw [WZ] at this
    exact this
   rw [e]
   exact q _ H (.refl k) (.str _)
  ·cases hp
 ·rename_i ds n
  simp only [z4u] at hp
  split at hp
  ·rename_i h
   cases hp
   obtain ⟨a,vs,ex,ha,r⟩:=rx.tup
   refine .inr (.inr ⟨a,n,vs,ex,ry.int,.of ha,?_,h.1,h.2.1,by rw [r.1]; exact h.2.2.2,fun p hp'=>?_⟩)
   ·intro z
    rw [z] at r
    have:=r.1
    simp at this
    omega
   ·exact q _ _ (.alloc k hp' _) (RepS.newT k (Reps.rep r _) hp')
  ·cases hp
theorem RepS.newD (k:Ok c σ δ H) (hp:H p=none):RepS c σ δ H (upd H p (.dK [])) (.ref p) (.own (.dct [])):=by
 refine ⟨p,rfl,⟨[],z0B,rfl,fun i p q e=>by simp at e⟩,fun z=>k.nav hp (.inl z),k.fresh₀ hp,k.plus hp _,hp⟩
def z3w:DE:=fun δ=>.ok (.own (.dct [])) δ
theorem z7l {X:Cx} {c:Fc} {pos:Pos}:SE X c (.Dict [] [] pos) z3w:=PE.weak zae fun σ H Q ⟨δ,k,q⟩=>fun p hp=>q _ _ (.alloc k hp _) (RepS.newD k hp)
section
variable {X:Cx} {c:Fc} {e a x y:Expr} {fb:BE} {f g fa:DE} {pos pp p p2:Pos}
def eInR (neg:Bool) (fa f g:DE):DE:=fun δ=>(fa δ).bind fun v δ1=>(f δ1).bind fun lo δ2=>(g δ2).bind fun hi δ3=>match v.d,lo.d,hi.d with
 | .int i,.int l,.int h=>.ok (.pure (.bl (if neg then !(decide (l≤i) && decide (i < h)) else (decide (l≤i) && decide (i < h))))) δ3
 | _,_,_=>.stuck
end
end DV
set_option maxHeartbeats 1000000
namespace L2
open PySem PySem.Spec PyProof.Rows
theorem z2L:entryFor table "dict.update.loop" = some Builtin.«dict.update.loop»:=entryFor_of_tree (by kernel_rfl)
theorem z18:plainId "dict.update.loop" = true:=by decide +kernel
theorem z4G:typeLookup (.type "tuple") "keys" = pure none:=by rw [typeLookup_type,builtinLookup_eq_fast]; kernel_rfl
theorem z52:typeLookup (.type "list") "keys" = pure none:=by rw [typeLookup_type,builtinLookup_eq_fast]; kernel_rfl
set_option maxRecDepth 8000 in
theorem z6k
  (hx:s.heap.get? a=some o) (hc:o.cls = .type "tuple") (hdat:o.data = .seq xs k) (hd:o.dict=none) (hA:A.handled=none)
  (h:∀ h' tk,(∀ b ob,s.heap.get? b=some ob→h'.get? b=some ob)→Q none { s with heap:=h',toks:=tk }) :
  Wa (model prog w) A (getAttr? (.ref a) "keys") Q E s:=by
 obtain ⟨c,dct,dat,sl⟩:=o
 simp only at hc hdat hd
 subst hc hdat hd
 obtain ⟨hp,g,d,tk,os⟩:=s
 have hT:∀ tk',(⟨hp,g,d,tk',os⟩:W1).TypeIs (.ref a) "tuple":=fun _=>⟨_,hx,rfl⟩
 have f1:=sub_AttributeError
 have f3:=F.slot_tuple_getattribute.lookup
 have f4:=F.slot_tuple_getattribute.bind (.ref a)
 have f5:=am_tuple_getattr_none
 have hmiss:=z4G
 unfold getAttr? getAttrBy? getAttrBy
 repeat (any_goals (first | assumption | exact hT _ | ((with_reducible show Wa _ _ (call (Value.builtin "tuple.__getattribute__") _ _) _ _ _); refine QS F.slot_tuple_getattribute (hT _) am_entry_tuple_getattribute (F.args_tuple_getattribute_2 _ _) (meets_getattribute_miss_tuple a xs k sl "keys" _ hmiss (by decide +kernel)) ⟨hx,hA,fun h' tk' e hx'=>?_⟩) | wp_step))
 obtain ⟨t',u',he⟩:=hx'.there
 show Wa _ _ (J1 _ _ _ _ _ _ _) _ _ _
 unfold J1
 repeat (any_goals (first | assumption | wp_step))
 exact h _ _ hx'.keeps
set_option maxRecDepth 8000 in
theorem z70
  (hx:s.heap.get? a=some o) (hc:o.cls = .type "list") (hdat:o.data = .seq xs k) (hd:o.dict=none) (hA:A.handled=none)
  (h:∀ h' tk,(∀ b ob,s.heap.get? b=some ob→h'.get? b=some ob)→Q none { s with heap:=h',toks:=tk }) :
  Wa (model prog w) A (getAttr? (.ref a) "keys") Q E s:=by
 obtain ⟨c,dct,dat,sl⟩:=o
 simp only at hc hdat hd
 subst hc hdat hd
 obtain ⟨hp,g,d,tk,os⟩:=s
 have hT:∀ tk',(⟨hp,g,d,tk',os⟩:W1).TypeIs (.ref a) "list":=fun _=>⟨_,hx,rfl⟩
 have f1:=sub_AttributeError
 have f3:=F.slot_list_getattribute.lookup
 have f4:=F.slot_list_getattribute.bind (.ref a)
 have f5:=am_list_getattr_none
 have hmiss:=z52
 unfold getAttr? getAttrBy? getAttrBy
 repeat (any_goals (first | assumption | exact hT _ | ((with_reducible show Wa _ _ (call (Value.builtin "list.__getattribute__") _ _) _ _ _); refine QS F.slot_list_getattribute (hT _) am_entry_list_getattribute (F.args_list_getattribute_2 _ _) (meets_getattribute_miss_list a xs k sl "keys" _ hmiss (by decide +kernel)) ⟨hx,hA,fun h' tk' e hx'=>?_⟩) | wp_step))
 obtain ⟨t',u',he⟩:=hx'.there
 show Wa _ _ (J1 _ _ _ _ _ _ _) _ _ _
 unfold J1
 repeat (any_goals (first | assumption | wp_step))
 exact h _ _ hx'.keeps
def z1C (kps:List (Key×V)) (acc:List (Key×V)):List (Key×V):=kps.foldl (fun a kv=>putK a kv.1 kv.2) acc
theorem z9w {prog:Wi} {w:Wp} {A:Wn} {R:Result→W1→Prop} {s:W1} {dl it:Addr} {i:Int} {t0:Tok}
  (hn:Wa (model prog w) A.in1 (pyNext (.ref it)) (fun r s1=>∃ (q:Addr) (k v:Value) (n:Nat),r=some (.ref q)∧s1.heap.get? q=some { cls:=.type "tuple",dict:=none,data:=.seq #[k,v] n,slots:=#[] } ∧
   Wa (model prog w) A.in1 (dictSet dl k v) (fun _ s2=>Qw (model prog w) A (.builtin "dict.update.loop" ⟨[.ref dl,.ref it,QE (i + 1),.none],[]⟩) R s2) (fun _ _=>False) s1) (fun _ _=>False) s) :
  Qw (model prog w) A (.builtin "dict.update.loop" ⟨[.ref dl,.ref it,.int i t0,.none],[]⟩) R s:=by
 refine codeAny_builtin z2L ?_
 rw [Around.under_plainId z18 _]
 show Wa _ A.in1 (pyNext (.ref it) >>= _) _ _ s
 refine W2 (WE hn (fun r s1 hr=>?_) fun _ _ z=>z.elim)
 obtain ⟨q,k,v,n,rfl,hq,hd⟩:=hr
 dsimp only
 refine W2 ?_
 try with_reducible refine Q7 ?_
 refine W2 (wpAny_tryCatch ?_)
 have hT:s1.TypeIs (.ref q) "tuple":=⟨_,hq,rfl⟩
 unfold Builtin.Dict.pairItems
 refine W2 (QW hT ?_)
 rw [if_pos (by decide)]
 refine W2 ?_
 unfold seqItems?
 refine W2 (wpAny_load hq (Wb ?_))
 refine Wb ?_
 show Wa _ A.in1 (holding [k,v] (dictSet dl k v)) _ _ s1
 try with_reducible refine Q7 ?_
 refine WE hd (fun _ s2 h2=>?_) fun _ _ z=>z.elim
 exact Wb ⟨plainId_quiet z18 _,h2⟩
theorem z9y {prog:Wi} {w:Wp} {A:Wn} {R:Result→W1→Prop} {s:W1} {dl it:Addr} {i:Int} {t0:Tok}
  (hn:Wa (model prog w) A.in1 (pyNext (.ref it)) (fun r s1=>r=none∧R (.ok (.ret .none)) s1) (fun _ _=>False) s) :
  Qw (model prog w) A (.builtin "dict.update.loop" ⟨[.ref dl,.ref it,.int i t0,.none],[]⟩) R s:=by
 refine codeAny_builtin z2L ?_
 rw [Around.under_plainId z18 _]
 show Wa _ A.in1 (pyNext (.ref it) >>= _) _ _ s
 refine W2 (WE hn (fun r s1 hr=>?_) fun _ _ z=>z.elim)
 obtain ⟨rfl,hd⟩:=hr
 dsimp only
 show Wa _ A.in1 (Builtin.Dict.addKeywords dl [] >>= _) _ _ s1
 exact W2 (Wb (Wb hd))
section
variable {X:Cx} {pins:List (Addr×Obj)} {σ:St} {H:Hp}
theorem Rd.sub (h:Rd H a u) (k:∀ b o,H b=some o→H' b=some o):Rd H' a u:=by
 rcases h with h | ⟨o,h⟩
 ·exact .inl (k _ _ h)
 ·exact .inr ⟨o,k _ _ h⟩
def z5W (H:Hp) (ys:List V) (kps:List (Key×V)):Prop:=ys.length=kps.length∧∀ (i:Nat) y kv,ys[i]? = some y→kps[i]? = some kv→∃ q,y = .ref q∧H q=some (.tup [kV kv.1,kv.2])
theorem z3m:∀ (kps acc:List (Key×V)),(z1C kps acc).length≤acc.length + kps.length
 | [],acc=>Wc _
 | kv :: r,acc=>by
  have h1:=z3m r (putK acc kv.1 kv.2)
  have h2:=z2t acc kv.1 kv.2
  show (z1C r (putK acc kv.1 kv.2)).length≤_
  simp only [Qz]
  omega
theorem z6S (kps:List (Key×V)) (kv:Key×V) (acc:List (Key×V)):z1C (kps ++ [kv]) acc=putK (z1C kps acc) kv.1 kv.2:=by
 unfold z1C
 rw [List.foldl_append]
 rfl
theorem z6B {A:Wn} {R:Result→W1→Prop} {dl it:Addr} {ys:List V} {kps:List (Key×V)} {tn:Nat→Heap→Prop} (hP:z5W H ys kps) (hdl:H dl=none) (hz:kps.length≤W6)
  (item:∀ (i:Nat) (y:V) (H':Hp) (s:W1) (Q:Option Value→W1→Prop),(∀ b o,H b=some o→H' b=some o)→H' it=none→Inv X pins σ H' s→tn i s.heap→ys[i]? = some y→(∀ u s',RelV y u→Inv X pins σ H' s'→tn (i + 1) s'.heap→Q (some u) s')→Wa (model X.prog X.w) A.in1 (pyNext (.ref it)) Q (fun _ _=>False) s)
  (done:∀ (H':Hp) (s:W1) (Q:Option Value→W1→Prop),(∀ b o,H b=some o→H' b=some o)→H' it=none→Inv X pins σ H' s→tn ys.length s.heap→(∀ s',Inv X pins σ H' s'→Q none s')→Wa (model X.prog X.w) A.in1 (pyNext (.ref it)) Q (fun _ _=>False) s)
  (keep:∀ (i:Nat) (h h':Heap),tn i h→(∀ o,h.get? it=some o→h'.get? it=some o)→tn i h') (hit:H it=none) (hne:it≠dl) (hR:∀ s',Inv X pins σ (upd H dl (.dK (z1C kps []))) s'→R (.ok (.ret .none)) s') :
  ∀ (k i:Nat) (s:W1) (j:Int) (t0:Tok),ys.length - i=k→i≤ys.length→Inv X pins σ (upd H dl (.dK (z1C (kps.take i) []))) s→tn i s.heap →
   Qw (model X.prog X.w) A (.builtin "dict.update.loop" ⟨[.ref dl,.ref it,.int j t0,.none],[]⟩) R s:=by
 have up:∀ (acc:List (Key×V)) b o,H b=some o→upd H dl (.dK acc) b=some o:=fun acc b o e=>by rw [z0n (z0I e hdl)]; exact e
 have nit:∀ acc:List (Key×V),upd H dl (.dK acc) it=none:=fun acc=>by rw [z0n hne]; exact hit
 intro k
 induction k with
 | zero =>
  intro i s j t0 hk hi I st
  have e:i=ys.length:=by omega
  subst e
  rw [hP.1,QO (Wc _)] at I
  refine z9y (done _ s _ (up _) (nit _) I st fun s' I'=>⟨rfl,hR s' I'⟩)
 | succ k ih =>
  intro i s j t0 hk hi I st
  have hlt:i < ys.length:=by omega
  have hlk:i < kps.length:=by rw [← hP.1]; exact hlt
  obtain ⟨q,ey,hq⟩:=hP.2 i ys[i] kps[i] (by simp [hlt]) (by simp [hlk])
  -- the item is a tuple of two
  have main:∀ s1,Inv X pins σ (upd H dl (.dK (z1C (kps.take i) []))) s1→tn (i + 1) s1.heap→∃ (kk vv:Value) (n:Nat),s1.heap.get? q=some { cls:=.type "tuple",dict:=none,data:=.seq #[kk,vv] n,slots:=#[] }∧RelV (kV kps[i].1) kk∧RelV kps[i].2 vv:=fun s1 I1 _=>by
   obtain ⟨_,its,r,n,e⟩:=(show ObjOk X.prog X.w _ s1.heap q (.tup [kV kps[i].1,kps[i].2]) from I1.hok q _ (up _ q _ hq))
   obtain ⟨u,v,rfl,r1,r2⟩:=Vals.two r
   exact ⟨u,v,n,e,r1,r2⟩
  refine z9w (item i ys[i] _ s _ (up _) (nit _) I st (by simp [hlt]) fun u s' ru I' st'=>?_)
  rw [ey] at ru
  cases ru
  obtain ⟨kk,vv,n,e,r1,r2⟩:=main s' I' st'
  refine ⟨q,kk,vv,n,rfl,e,?_⟩
  obtain ⟨z,hd,vs,rel,dd⟩:=zco I'.hok z0B
  have hvs:vs.length≤W6:=by rw [← rel.length]; exact z
  have hl:(putK (z1C (kps.take i) []) kps[i].1 kps[i].2).length≤W6:=by
   have h1:=z2t (z1C (kps.take i) []) kps[i].1 kps[i].2
   have h2:=z3m (kps.take i) []
   simp at h2
   omega
  refine wpAny_dictSet_pairs (hsz:=hvs) (z81 r1) dd fun h' dd' hs=>?_
  have he:∃ q,h'.get? dl=some q:=let ⟨q,_,_,hq,_⟩:=dd'; ⟨q,hq⟩
  have I2:=z77 (t':=s'.toks + 1) I' (by rw [z0B]; exact True.intro) hs he (zbh hl hd (rel.put kps[i].1 r2) dd')
  rw [zbp] at I2
  have et:kps.take (i + 1)=kps.take i ++ [kps[i]]:=by rw [Qr]; simp [hlk]
  rw [show putK (z1C (kps.take i) []) kps[i].1 kps[i].2=z1C (kps.take (i + 1)) [] by rw [et,z6S]] at I2
  exact ih (i + 1) _ (j + 1) _ (by omega) hlt I2 (keep (i + 1) _ _ st' fun o eo=>(hs.2 it hne).trans eo)
theorem z4U (hc:X.calm=true):CallR X (.type "dict") (fun xs H Q=>∃ p ys kps,xs=[.ref p]∧(H p=some (.tup ys)∨Rd H p (.lst ys))∧z5W H ys kps∧kps.length≤W6∧∀ l,H l=none→Q (.ref l) (upd H l (.dK (z1C kps [])))):=by
 intro pins s σ H xs us Q I r h
 obtain ⟨p,ys,kps,rfl,hp,hP,hz,q⟩:=h
 obtain ⟨u,rfl,rx⟩:=z3B r
 cases rx
 have hA:X.A.handled=none:=I.ok.hd hc
 refine callType_codes (Q₁:=fun obj s₁=>obj = .ref s.heap.objs.size∧s₁ = { s with heap:=s.heap.push { cls:=.type "dict",data:=.dict #[] } }) F.kt_called_dict (F.kt_typeCall_dict_1 _) F.entry_dict_init (kt_code_dict_new _ ⟨rfl,rfl⟩) ?_
 rintro obj s₁ ⟨rfl,rfl⟩
 have hdl:H s.heap.objs.size=none:=I.hok.fresh (Wc _)
 have I1:Inv X pins σ (upd H s.heap.objs.size (.dK [])) { s with heap:=s.heap.push { cls:=.type "dict",data:=.dict #[] } }:=I.laid (t':=s.toks) (fun _ _ q=>W7 _ q) (Wc _) (z7D s.heap I.big)
 generalize hdd:s.heap.objs.size=dl at hdl I1
 have up:∀ (acc:List (Key×V)) b o,H b=some o→upd H dl (.dK acc) b=some o:=fun acc b o e=>by rw [z0n (z0I e hdl)]; exact e
 have hTd:({ s with heap:=s.heap.push { cls:=.type "dict",data:=.dict #[] } }:W1).TypeIs (.ref dl) "dict":=⟨_,by rw [← hdd]; exact Wr _ rfl,rfl⟩
 refine ⟨hTd,F.args_dict_init_2 _ _,?_⟩
 unfold Builtin.«dict.__init__»
 refine W2 ?_
 unfold Builtin.Dict.selfAndRest
 refine W2 (wpAny_notOrdered_dict hTd ?_)
 show Wa _ _ (pure (dl,[Value.ref p])) _ _ _
 refine Wb ?_
 show Wa _ _ (Builtin.Dict.updateFrom "dict.__init__" dl (.ref p) [] .none) _ _ _
 unfold Builtin.Dict.updateFrom
 have fin:∀ s',Inv X pins σ (upd H dl (.dK (z1C kps []))) s'→EP X pins σ Q (.ref dl) s':=fun s' I'=>⟨.ref dl,_,I',rfl,q dl hdl⟩
 rcases hp with hp | hp
 ·obtain ⟨_,its,r,n,e⟩:=(show ObjOk X.prog X.w _ (s.heap.push { cls:=.type "dict",data:=.dict #[] }) p (.tup ys) from I1.hok p _ (up _ p _ hp))
  refine W2 (QW ⟨_,e,rfl⟩ ?_)
  rw [if_pos (by decide)]
  refine W2 (z6k e rfl rfl rfl hA fun h' tk kp=>?_)
  rw [if_pos (show (none:Option Value).isNone=true from rfl)]
  refine W2 (wpAny_rule ?_)
  have I2:Inv X pins σ (upd H dl (.dK [])) { s with heap:=h',toks:=tk }:=I1.kept kp
  have isT:h'.IsTuple p its.toArray:=⟨_,kp _ _ e,rfl,n,rfl⟩
  refine W2 (wpAny_pyIter_tuple (s:={ s with heap:=h',toks:=tk }) isT ?_)
  refine Wb ⟨plainId_quiet z18 _,?_⟩
  have hfr:upd H dl (.dK []) h'.objs.size=none:=I2.hok.fresh (Wc _)
  have hne:h'.objs.size≠dl:=fun z=>by rw [z,z0B] at hfr; cases hfr
  have hit:H h'.objs.size=none:=by rw [z0n hne] at hfr; exact hfr
  have fp:∀ H':Hp,H' h'.objs.size=none→FpOk X pins H' h'.objs.size:=fun H' hn=>I2.fpOk (Wc _) hn
  refine z6B (X:=X) (pins:=pins) (σ:=σ) (H:=H) (dl:=dl) (it:=h'.objs.size) (ys:=ys) (kps:=kps) (tn:=fun i h=>h.IsTupleIter h'.objs.size p i) hP hdl hz ?_ ?_ (fun i h h2 st k=>st.at k) hit hne (fun s' I'=>⟨rfl,fin s' I'⟩) ys.length 0 _ 0 _ (Nat.sub_zero _) (Qf _) ?_ ?_
  ·intro i y H' s' Q' sub hn I' st hy k
   obtain ⟨_,its2,r2,n2,e2⟩:=(show ObjOk X.prog X.w _ s'.heap p (.tup ys) from I'.hok p _ (sub p _ hp))
   obtain ⟨v,hv,rv⟩:=r2.get hy
   obtain ⟨f0,f1,f2,f3,f4,f5⟩:=fp H' hn
   refine wpAny_pyNext_tuple_item st (items:=its2.toArray) ⟨_,e2,rfl,n2,rfl⟩ (x:=v) (by simpa using hv) fun h3 st3 sb=>?_
   exact k v { s' with heap:=h3 } rv (I'.turned (t':=s'.toks) (fun b o hb e=>(sb.2 b hb).trans e) f0 f1 f3 f4 f5) st3
  ·intro H' s' Q' sub hn I' st k
   obtain ⟨_,its2,r2,n2,e2⟩:=(show ObjOk X.prog X.w _ s'.heap p (.tup ys) from I'.hok p _ (sub p _ hp))
   obtain ⟨f0,f1,f2,f3,f4,f5⟩:=fp H' hn
   have hl2:=r2.length
   exact wpAny_pyNext_tuple_end (show X.A.in1.in1.handled=none from hA) st (items:=its2.toArray) ⟨_,e2,rfl,n2,rfl⟩ (by simp; omega) fun h3 eb=>k { s' with heap:=h3 } (I'.turned (t':=s'.toks) (fun b o hb e=>eb b o hb e) f0 f1 f3 f4 f5)
  ·exact I2.kept (t':=tk) fun b o e=>W7 _ e
  ·exact ⟨_,Wr _ rfl,rfl,rfl⟩
 ·obtain ⟨_,its,n,r,e⟩:=(show ObjOk X.prog X.w _ (s.heap.push { cls:=.type "dict",data:=.dict #[] }) p (.lst ys) from (Rd.sub hp (up _)).ok I1.hok)
  refine W2 (QW ⟨_,e,rfl⟩ ?_)
  rw [if_pos (by decide)]
  refine W2 (z70 e rfl rfl rfl hA fun h' tk kp=>?_)
  rw [if_pos (show (none:Option Value).isNone=true from rfl)]
  refine W2 (wpAny_rule ?_)
  have I2:Inv X pins σ (upd H dl (.dK [])) { s with heap:=h',toks:=tk }:=I1.kept kp
  have isT:h'.IsList p its.toArray:=⟨_,kp _ _ e,rfl,n,rfl⟩
  refine W2 (wpAny_pyIter_list (s:={ s with heap:=h',toks:=tk }) isT ?_)
  refine Wb ⟨plainId_quiet z18 _,?_⟩
  have hfr:upd H dl (.dK []) h'.objs.size=none:=I2.hok.fresh (Wc _)
  have hne:h'.objs.size≠dl:=fun z=>by rw [z,z0B] at hfr; cases hfr
  have hit:H h'.objs.size=none:=by rw [z0n hne] at hfr; exact hfr
  have fp:∀ H':Hp,H' h'.objs.size=none→FpOk X pins H' h'.objs.size:=fun H' hn=>I2.fpOk (Wc _) hn
  refine z6B (X:=X) (pins:=pins) (σ:=σ) (H:=H) (dl:=dl) (it:=h'.objs.size) (ys:=ys) (kps:=kps) (tn:=fun i h=>h.IsListIter h'.objs.size p i) hP hdl hz ?_ ?_ (fun i h h2 st k=>st.at k) hit hne (fun s' I'=>⟨rfl,fin s' I'⟩) ys.length 0 _ 0 _ (Nat.sub_zero _) (Qf _) ?_ ?_
  ·intro i y H' s' Q' sub hn I' st hy k
   obtain ⟨_,its2,n2,r2,e2⟩:=(show ObjOk X.prog X.w _ s'.heap p (.lst ys) from (Rd.sub hp sub).ok I'.hok)
   obtain ⟨v,hv,rv⟩:=r2.get hy
   obtain ⟨f0,f1,f2,f3,f4,f5⟩:=fp H' hn
   refine wpAny_pyNext_list_item st (items:=its2.toArray) ⟨_,e2,rfl,n2,rfl⟩ (x:=v) (by simpa using hv) fun h3 st3 sb=>?_
   exact k v { s' with heap:=h3 } rv (I'.turned (t':=s'.toks) (fun b o hb e=>(sb.2 b hb).trans e) f0 f1 f3 f4 f5) st3
  ·intro H' s' Q' sub hn I' st k
   obtain ⟨_,its2,n2,r2,e2⟩:=(show ObjOk X.prog X.w _ s'.heap p (.lst ys) from (Rd.sub hp sub).ok I'.hok)
   obtain ⟨f0,f1,f2,f3,f4,f5⟩:=fp H' hn
   have hl2:=r2.length
   exact wpAny_pyNext_list_end (show X.A.in1.in1.handled=none from hA) st (items:=its2.toArray) ⟨_,e2,rfl,n2,rfl⟩ (by simp; omega) fun h3 eb=>k { s' with heap:=h3 } (I'.turned (t':=s'.toks) (fun b o hb e=>eb b o hb e) f0 f1 f3 f4 f5)
  ·exact I2.kept (t':=tk) fun b o e=>W7 _ e
  ·exact ⟨_,Wr _ rfl,rfl,rfl⟩
end
end L2
set_option maxHeartbeats 400000
namespace DV
open PySem PySem.Spec PyProof.Rows L2
def valD (kvs:List (DKey×D)) (k:DKey):Option D:=(kvs.find? fun kv=>decide (kv.1=k)).map (·.2)
def putD (kvs:List (DKey×D)) (k:DKey) (v:D):List (DKey×D) :=
 if (kvs.any fun kv=>decide (kv.1=k))=true then kvs.map (fun kv=>if kv.1=k then (kv.1,v) else kv) else kvs ++ [(k,v)]
def z5z (kps acc:List (DKey×D)):List (DKey×D):=kps.foldl (fun a kv=>putD a kv.1 kv.2) acc
theorem zc8 (h:kOf k=kOf j):k=j:=by
 cases k <;> cases j <;> simp [kOf] at h
 ·rw [h]
 ·rw [z5o h]
def DR (H:Hp) (O:Addr→Prop):List (Key×V)→List (DKey×D)→Prop
 | [],[]=>True
 | p :: ws,q :: ds=>p.1=kOf q.1∧Rep H O p.2 q.2∧DR H O ws ds
 | _,_=>False
section
variable {H H':Hp} {O O':Addr→Prop}
theorem DR.of:∀ {ws:List (Key×V)} {ds:List (DKey×D)},ws.map (·.1)=ds.map (fun p=>kOf p.1)→(∀ (i:Nat) p q,ws[i]? = some p→ds[i]? = some q→Rep H O p.2 q.2)→DR H O ws ds
 | [],[],_,_=>trivial
 | [],_ :: _,h,_=>by simp at h
 | _ :: _,[],h,_=>by simp at h
 | p :: ws,q :: ds,h,k=>by
  simp only [Wq,List.cons.injEq] at h
  exact ⟨h.1,k 0 p q rfl rfl,DR.of h.2 fun i p' q' e1 e2=>k (i + 1) p' q' (by simpa using e1) (by simpa using e2)⟩
theorem DR.keys:∀ {ws:List (Key×V)} {ds:List (DKey×D)},DR H O ws ds→ws.map (·.1)=ds.map (fun p=>kOf p.1)
 | [],[],_=>rfl
 | [],_ :: _,h=>h.elim
 | _ :: _,[],h=>h.elim
 | p :: ws,q :: ds,h=>by simp only [Wq,h.1,DR.keys h.2.2]
theorem DR.vals:∀ {ws:List (Key×V)} {ds:List (DKey×D)},DR H O ws ds→∀ (i:Nat) p q,ws[i]? = some p→ds[i]? = some q→Rep H O p.2 q.2
 | [],[],_,i,p,q,e,_=>by simp at e
 | [],_ :: _,h,_,_,_,_,_=>h.elim
 | _ :: _,[],h,_,_,_,_,_=>h.elim
 | p :: ws,q :: ds,h,i,p',q',e1,e2=>by
  cases i with
  | zero=>simp at e1 e2; subst e1 e2; exact h.2.1
  | succ i=>exact DR.vals h.2.2 i p' q' (by simpa using e1) (by simpa using e2)
theorem DR.map:∀ {ws:List (Key×V)} {ds:List (DKey×D)},DR H O ws ds→(∀ v d,Rep H O v d→Rep H' O' v d)→DR H' O' ws ds
 | [],[],_,_=>trivial
 | [],_ :: _,h,_=>h.elim
 | _ :: _,[],h,_=>h.elim
 | p :: ws,q :: ds,h,k=>⟨h.1,k _ _ h.2.1,DR.map h.2.2 k⟩
theorem z32 (h:p=kOf q):(p=kOf k) ↔ q=k:=⟨fun e=>zc8 (by rw [← h]; exact e),fun e=>by rw [h,e]⟩
theorem DR.any:∀ {ws:List (Key×V)} {ds:List (DKey×D)} (k:DKey),DR H O ws ds→(ws.any fun kv=>decide (kv.1=kOf k))=ds.any fun kv=>decide (kv.1=k)
 | [],[],_,_=>rfl
 | [],_ :: _,_,h=>h.elim
 | _ :: _,[],_,h=>h.elim
 | p :: ws,q :: ds,k,h=>by
  rw [Qi,Qi,DR.any k h.2.2]
  congr 1
  exact decide_eq_decide.mpr (z32 h.1)
theorem DR.val:∀ {ws:List (Key×V)} {ds:List (DKey×D)} (k:DKey),DR H O ws ds→(valD ds k=none∧valV ws (kOf k)=none)∨∃ v d,valD ds k=some d∧valV ws (kOf k)=some v∧Rep H O v d
 | [],[],_,_=>.inl ⟨rfl,rfl⟩
 | [],_ :: _,_,h=>h.elim
 | _ :: _,[],_,h=>h.elim
 | p :: ws,q :: ds,k,h=>by
  by_cases e:q.1=k
  ·have e':=(z32 h.1).mpr e
   exact .inr ⟨p.2,q.2,by simp [valD,WY,e],z4b e',h.2.1⟩
  ·have e':¬ p.1=kOf k:=fun z=>e ((z32 h.1).mp z)
   have ev:valD (q :: ds) k=valD ds k:=by simp [valD,WY,e]
   rw [ev,z4c e']
   exact DR.val k h.2.2
theorem DR.append:∀ {ws ws':List (Key×V)} {ds ds':List (DKey×D)},DR H O ws ds→DR H O ws' ds'→DR H O (ws ++ ws') (ds ++ ds')
 | [],_,[],_,_,h'=>h'
 | [],_,_ :: _,_,h,_=>h.elim
 | _ :: _,_,[],_,h,_=>h.elim
 | p :: ws,_,q :: ds,_,h,h'=>⟨h.1,h.2.1,DR.append h.2.2 h'⟩
theorem DR.store:∀ {ws:List (Key×V)} {ds:List (DKey×D)} {k:DKey} {v:V} {d:D},DR H O ws ds→Rep H O v d→DR H O (ws.map fun kv=>if kv.1=kOf k then (kv.1,v) else kv) (ds.map fun kv=>if kv.1=k then (kv.1,d) else kv)
 | [],[],_,_,_,_,_=>trivial
 | [],_ :: _,_,_,_,h,_=>h.elim
 | _ :: _,[],_,_,_,h,_=>h.elim
 | p :: ws,q :: ds,k,v,d,h,r=>by
  refine ⟨?_,?_,DR.store h.2.2 r⟩
  ·by_cases e:q.1=k
   ·dsimp only; rw [if_pos ((z32 h.1).mpr e),if_pos e]; exact h.1
   ·dsimp only; rw [if_neg fun z=>e ((z32 h.1).mp z),if_neg e]; exact h.1
  ·by_cases e:q.1=k
   ·dsimp only; rw [if_pos ((z32 h.1).mpr e),if_pos e]; exact r
   ·dsimp only; rw [if_neg fun z=>e ((z32 h.1).mp z),if_neg e]; exact h.2.1
theorem DR.put (h:DR H O ws ds) (r:Rep H O v d):DR H O (putK ws (kOf k) v) (putD ds k d):=by
 unfold putK putD
 rw [DR.any k h]
 split
 ·exact DR.store h r
 ·exact DR.append h ⟨rfl,r,trivial⟩
theorem DR.puts:∀ {kps:List (Key×V)} {dps:List (DKey×D)} {ws:List (Key×V)} {ds:List (DKey×D)},DR H O kps dps→DR H O ws ds→DR H O (z1C kps ws) (z5z dps ds)
 | [],[],_,_,_,h=>h
 | [],_ :: _,_,_,h,_=>h.elim
 | _ :: _,[],_,_,h,_=>h.elim
 | p :: kps,q :: dps,ws,ds,h,h'=>by
  show DR H O (z1C kps (putK ws p.1 p.2)) (z5z dps (putD ds q.1 q.2))
  rw [h.1]
  exact DR.puts h.2.2 (DR.put h' h.2.1)
end
def keyD:D→Option DKey
 | .int i=>some (.inl i)
 | .str x=>some (.inr x)
 | _=>none
theorem z8x (h:keyD d=some k) (r:Rep H O v d):v=kV (kOf k):=by
 cases d <;> simp [keyD] at h <;> subst h <;> cases r <;> rfl
theorem z5x (h:keyD d=some k) (r:RepB c σ δ H v d):v=kV (kOf k):=by
 rcases r with r | ⟨a,rfl,r⟩
 ·exact z8x h r
 ·cases d <;> simp [keyD] at h <;> exact r.elim
def z2I:List D→Option (List (DKey×D))
 | []=>some []
 | .tup [k,v] :: r=>match keyD k,z2I r with
  | some k',some r'=>some ((k',v) :: r')
  | _,_=>none
 | _ :: _=>none
def z24:D→Option S
 | .lst ds=>(z2I ds).bind fun ps=>if ps.length≤W6 then some (.own (.dct (z5z ps []))) else none
 | .tup ds=>(z2I ds).bind fun ps=>if ps.length≤W6 then some (.own (.dct (z5z ps []))) else none
 | _=>none
theorem z5C:∀ {ds:List D} {vs:List V} {ps:List (DKey×D)},z2I ds=some ps→Reps H O vs ds→∃ kps,z5W H vs kps∧DR H O kps ps∧kps.length=ps.length
 | [],[],ps,h,_=>by
  simp [z2I] at h
  subst h
  exact ⟨[],⟨rfl,fun i y kv e=>by simp at e⟩,trivial,rfl⟩
 | [],_ :: _,_,_,r=>by have:=r.1; simp at this
 | _ :: _,[],_,_,r=>by have:=r.1; simp at this
 | d :: ds,v :: vs,ps,h,r=>by
  unfold z2I at h
  split at h
  ·rename_i heq; cases heq
  ·rename_i k w r' heq
   cases heq
   split at h
   ·rename_i k' r'' hk hr
    cases h
    obtain ⟨kps,hP,hD,hL⟩:=z5C hr r.tail
    have rp:=r.head
    cases rp with
    | tup h1 h2 h3 h4 =>
     rename_i a us
     match us,h3,h4,h2 with
     | [x,y],_,h4,h2 =>
      have rk:=h4 0 x k rfl rfl
      have rv:=h4 1 y w rfl rfl
      have ek:=z8x hk rk
      subst ek
      refine ⟨(kOf k',y) :: kps,⟨by simp [hP.1],fun i z kv e1 e2=>?_⟩,⟨rfl,rv,hD⟩,by simp [hL]⟩
      cases i with
      | zero=>simp at e1 e2; subst e1 e2; exact ⟨a,rfl,h2⟩
      | succ i=>exact hP.2 i z kv (by simpa using e1) (by simpa using e2)
   ·cases h
  ·cases h
theorem RepS.newDk (k:Ok c σ δ H) (hp:H p=none) (r:DR H (Av c σ δ) ws ds):RepS c σ δ H (upd H p (.dK ws)) (.ref p) (.own (.dct ds)):=by
 have up:∀ a w,H a=some w→upd H p (.dK ws) a=some w:=fun a w e=>by rw [z0n (z0I e hp)]; exact e
 have r1:DR (upd H p (.dK ws)) (Av (c.plus p) σ δ) ws ds:=r.map fun v d h=>(h.anti fun b z=>by
  rcases z with (z | z) | z
  ·exact .inl (.inl z)
  ·exact .inr (by rw [z]; exact hp)
  ·exact .inl (.inr z)).keep fun b w e _=>up b w e
 exact ⟨p,rfl,⟨ws,z0B,r1.keys,r1.vals⟩,fun z=>k.nav hp (.inl z),k.fresh₀ hp,k.plus hp _,hp⟩
section
variable {X:Cx} {c:Fc} {e:Expr} {fb:BE} {pos pp:Pos}
theorem z8e:WW "dict" = some (.type "dict"):=by decide +kernel
theorem z62 (hc:X.calm=true) (hg:Gl X "dict") (hm:X.mg "dict" = none) (he:SB X c e fb) (hs:z3L e=true:=by rfl):SE X c (.Call (.Name "dict" pp) [e] [] pos) (eC1 z24 fb) :=
 z4q (r:=fun v H Q=>∃ p ys kps,v = .ref p∧(H p=some (.tup ys)∨Rd H p (.lst ys))∧z5W H ys kps∧kps.length≤W6∧∀ l,H l=none→Q (.ref l) (upd H l (.dK (z1C kps []))))
  (z4U hc) (fun v H Q ⟨p,ys,kps,e,h⟩=>⟨p,ys,kps,by rw [e],h⟩)
  (fun c σ δ H x d s Q k rx hp q=>by
   cases d with
   | lst ds =>
    simp only [z24] at hp
    cases hps:z2I ds with
    | none=>rw [hps] at hp; cases hp
    | some ps =>
     rw [hps] at hp
     simp only [WD] at hp
     split at hp
     ·rename_i hz
      cases hp
      obtain ⟨a,vs,ex,ha,r⟩:=rx.lst
      obtain ⟨kps,hP,hD,hL⟩:=z5C hps r
      exact ⟨a,vs,kps,ex,.inr ha,hP,by rw [hL]; exact hz,fun l hl=>q _ _ (.alloc k hl _) (RepS.newDk k hl (DR.puts hD (ws:=[]) (ds:=[]) trivial))⟩
     ·cases hp
   | tup ds =>
    simp only [z24] at hp
    cases hps:z2I ds with
    | none=>rw [hps] at hp; cases hp
    | some ps =>
     rw [hps] at hp
     simp only [WD] at hp
     split at hp
     ·rename_i hz
      cases hp
      obtain ⟨a,vs,ex,ha,r⟩:=rx.tup
      obtain ⟨kps,hP,hD,hL⟩:=z5C hps r
      exact ⟨a,vs,kps,ex,.inl ha,hP,by rw [hL]; exact hz,fun l hl=>q _ _ (.alloc k hl _) (RepS.newDk k hl (DR.puts hD (ws:=[]) (ds:=[]) trivial))⟩
     ·cases hp
   | _=>simp [z24] at hp) hg hm z8e he (by decide) (by decide) (z4m hs)
end
theorem z7n (r:RepB c σ δ H v (.dct ds)):∃ a ws,v = .ref a∧H a=some (.dK ws)∧DR H (Av c σ δ) ws ds:=by
 obtain ⟨a,ws,e,h,k1,k2⟩:=r.dct
 exact ⟨a,ws,e,h,DR.of k1 k2⟩
def rInD (neg:Bool):R2:=fun x y H Q=>∃ a kvs k,y = .ref a∧H a=some (.dK kvs)∧x=kV k∧Q (.bl (if neg then !(valV kvs k).isSome else (valV kvs k).isSome)) H
theorem op_inD (hu:X.A.units + 64 < Q8):OpR X (Ww .In) (rInD false):=by
 intro pins s σ H x y v u Q I rx ry h
 obtain ⟨a,kvs,k,rfl,ha,rfl,q⟩:=h
 cases ry
 exact d_in (by omega) I (DGet.k ha) rx fun s' I'=>⟨.bl _,H,I',rfl,q⟩
theorem z8Z (hu:X.A.units + 64 < Q8):OpR X (Ww .NotIn) (rInD true):=by
 intro pins s σ H x y v u Q I rx ry h
 obtain ⟨a,kvs,k,rfl,ha,rfl,q⟩:=h
 cases ry
 exact zcp (by omega) I (DGet.k ha) rx fun s' I'=>⟨.bl _,H,I',rfl,q⟩
def zaV (K:W0) (neg:Bool):R2:=fun x y H Q=>rInD neg x y H Q∨rIn K neg x y H Q∨∃ i j,x = .str i∧y = .str j∧Q (.bl (if neg then !(!(Builtin.Str.occurrences j i 0 j.length 1).isEmpty) else !(Builtin.Str.occurrences j i 0 j.length 1).isEmpty)) H
theorem z6X {X:Cx} (hu:X.A.units + 64 < Q8):OpR X (Ww .NotIn) (zaV X.K true):=(z8Z hu).or (op_notIn_seq.or z6e)
def pIn (neg:Bool) (x y:D):Option S:=match y with
 | .dct ds=>(keyD x).map fun k=>.pure (.bl (if neg then !(valD ds k).isSome else (valD ds k).isSome))
 | .str y=>match x with
  | .str [n]=>some (.pure (.bl (if neg then !decide (n ∈ y) else decide (n ∈ y))))
  | _=>none
 | .lst ds=>match x,z2D ds with
  | .str z,some ts=>some (.pure (.bl (if neg then !ts.contains z else ts.contains z)))
  | _,_=>none
 | .tup ds=>match x,z2D ds with
  | .str z,some ts=>some (.pure (.bl (if neg then !ts.contains z else ts.contains z)))
  | _,_=>none
 | _=>none
theorem z6v (z:Tx) (ts:List Tx):inV (V.str (toS z)) (ts.map fun z=>V.str (toS z))=ts.contains z:=by
 unfold inV
 rw [List.any_map]
 induction ts with
 | nil=>rfl
 | cons t r ih =>
  rw [Qi,J3,ih]
  congr 1
  show (toS t == toS z)=(z == t)
  rw [z5p,Bool.beq_comm]
theorem z5h (ts:List Tx):(ts.map fun z=>V.str (toS z)).all z5N=true:=by
 rw [List.all_map]
 exact List.all_eq_true.mpr fun _ _=>rfl
theorem zai {K:W0} (neg:Bool):Op2 (zaV K neg) (pIn neg):=by
 intro c σ δ H x y d e s Q k rx ry hp q
 cases e <;> first | (simp [pIn] at hp; done) | skip
 ·rename_i z
  simp only [pIn] at hp
  split at hp <;> first | (cases hp; done) | skip
  rename_i n
  cases hp
  refine .inr (.inr ⟨toS [n],toS z,rx.str,ry.str,?_⟩)
  rw [show toS [n] = ⟨#[n]⟩ from rfl,PySem.StrLaws.found_one,show (toS z).cps.toList=z by simp [toS]]
  exact q _ H (.refl k) (.bl _)
 ·rename_i ds
  simp only [pIn] at hp
  split at hp <;> first | (cases hp; done) | skip
  rename_i z ts ht
  cases hp
  obtain ⟨a,vs,ea,ha,r⟩:=ry.tup
  have ev:=z1J ht r
  refine .inr (.inl ⟨a,vs,ea,.inr (.of ha),by rw [rx.str]; rfl,by rw [ev]; exact z5h ts,?_⟩)
  rw [rx.str,ev,z6v]
  exact q _ H (.refl k) (.bl _)
 ·rename_i ds
  simp only [pIn] at hp
  split at hp <;> first | (cases hp; done) | skip
  rename_i z ts ht
  cases hp
  obtain ⟨a,vs,ea,ha,r⟩:=ry.lst
  have ev:=z1J ht r
  refine .inr (.inl ⟨a,vs,ea,.inl (.inl ha),by rw [rx.str]; rfl,by rw [ev]; exact z5h ts,?_⟩)
  rw [rx.str,ev,z6v]
  exact q _ H (.refl k) (.bl _)
 ·rename_i ds
  simp only [pIn] at hp
  cases hk:keyD d with
  | none=>rw [hk] at hp; cases hp
  | some kk =>
   rw [hk] at hp
   cases hp
   obtain ⟨a,ws,ea,ha,dr⟩:=z7n ry
   refine .inl ⟨a,ws,kOf kk,ea,ha,z5x hk rx,?_⟩
   have:(valV ws (kOf kk)).isSome=(valD ds kk).isSome:=by
    rcases dr.val kk with ⟨e1,e2⟩ | ⟨v,d,e1,e2,_⟩
    ·rw [e1,e2]; rfl
    ·rw [e1,e2]; rfl
   rw [this]
   exact q _ H (.refl k) (.bl _)
def rIxD:R2:=fun x y H Q=>∃ a kvs k v,x = .ref a∧H a=some (.dK kvs)∧y=kV k∧valV kvs k=some v∧Q v H
def pIxX:D→D→Option S
 | .dct ds,k=>(keyD k).bind fun k=>(valD ds k).map .pure
 | x,y=>pIx x y
theorem zcb (hu:X.A.units + 64 < Q8):IxR X rIxD:=by
 intro value slice pins s σ H x y v u Q I rx ry h hs
 obtain ⟨a,kvs,k,w,rfl,ha,rfl,hv,q⟩:=h
 cases rx
 obtain ⟨_,_,vs,_,dd⟩:=zco I.hok ha
 have hT:s.TypeIs (.ref a) "dict":=dd.typeIs
 exact tail_any hT F.slot_dict_getitem.lookup (z9B (v:=w) (by omega) I (by rw [← hv]; exact DGet.k ha) ry fun w' s' I' rw'=>⟨w,H,I',rw',q⟩) hs
theorem z3Y {K:W0}:Op2 (fun x y H Q=>rIxD x y H Q∨rIx K x y H Q) pIxX:=by
 intro c σ δ H x y d e s Q k rx ry hp q
 cases d with
 | dct ds =>
  simp only [pIxX] at hp
  cases hk:keyD e with
  | none=>rw [hk] at hp; cases hp
  | some kk =>
   rw [hk] at hp
   simp only [WD,Qb] at hp
   obtain ⟨dv,hv,rfl⟩:=hp
   obtain ⟨a,ws,ea,ha,dr⟩:=z7n rx
   rcases dr.val kk with ⟨e1,e2⟩ | ⟨v,d',e1,e2,r⟩
   ·rw [e1] at hv; cases hv
   ·rw [e1] at hv; cases hv
    exact .inl ⟨a,ws,kOf kk,v,ea,ha,z5x hk ry,e2,q v H (.refl k) r⟩
 | _=>exact .inr (z0E c σ δ H x y _ e s Q k rx ry hp q)
end DV
namespace PySem
open Sem (wp)
open AutoSeq1 (wpAny_loadPart')
section
variable {prog:Wi} {w:Wp} {A:Wn} {E:Value→W1→Prop} {s:W1}
end
theorem IsTuple.at' {h h':Heap} {l:Addr} {items:Array Value} (x:h.IsTuple l items) (k:∀ o,h.get? l=some o→h'.get? l=some o):h'.IsTuple l items:=by
 obtain ⟨o,ho,r⟩:=x
 exact ⟨o,k o ho,r⟩
end PySem
namespace L2
open PySem PySem.Spec PyProof.Rows
section
variable {X:Cx} {pins:List (Addr×Obj)} {σ:St} {H:Hp} {s:W1} {h':Heap}
end
end L2
namespace DV
open PySem PySem.Spec PyProof.Rows L2
section
variable {X:Cx} {c:Fc} {tg e:Expr} {fe:DE} {pos pp:Pos}
end
end DV
namespace HT
open PySem PySem.Spec PyProof.Rows
section
variable {prog:Wi} {w:Wp} {A:Wn} {E:Value→W1→Prop} {s:W1}
end
end HT
namespace DV
open PySem PySem.Spec PyProof.Rows L2
section
variable {X:Cx} {c:Fc} {e:Expr} {fb:BE} {pos p2:Pos}
def pNeg:D→Option S
 | .int i=>some (.pure (.int (-i)))
 | _=>none
theorem zcD (he:SB X c e fb):SE X c (.UnaryOp .USub e pos) (eC1 pNeg fb) :=
 PE.weak (pe_un zcv he) fun σ H Q h=>z3C (fun c σ δ H x d s Q k rx hp q=>by
  cases d with
  | int i =>
   simp only [pNeg,W8] at hp
   subst hp
   exact ⟨i,rx.int,q _ H (.refl k) (.int _)⟩
  | _=>simp [pNeg] at hp) h
end
section
variable {c:Fc} {σ σ':St} {δ δ':Dl} {H H':Hp} {i:Nat} {a:Addr} {ds:List D}
theorem Own.unset (h:Own σ (δ.set i none) b):Own σ δ b:=by
 obtain ⟨j,d',e1,e2⟩:=h
 by_cases hj:i=j
 ·subst hj
  rw [WA] at e1
  split at e1
  ·split at e1 <;> cases e1
  ·rename_i q; exact absurd rfl q
 ·rw [W4 hj] at e1
  exact ⟨j,d',e1,e2⟩
end
section
variable {X:Cx} {c:Fc} {tg iter:Expr} {body:List Stmt} {g:DG} {b:DS} {i:Nat} {pos:Pos}
end
theorem ix_X (hu:X.A.units + 64 < Q8):IxR X (fun x y H Q=>rIxD x y H Q∨rIx X.K x y H Q):=(zcb hu).or z0j
end DV
namespace L2
open PySem PySem.Spec PyProof.Rows
section
variable {X:Cx}
end
end L2
namespace DV
open PySem PySem.Spec PyProof.Rows L2
section
variable {X:Cx} {c:Fc} {e:Expr} {fe:DE} {pos:Pos}
end
section
variable {c:Fc} {σ:St} {δ δ':Dl} {H H':Hp} {i:Nat} {a p:Addr} {ds:List D}
end
open Classical in
noncomputable def itAt (δ₀:Dl) (ds:List D):DI:=fun δ=>if δ=δ₀ then .ok ds δ else .stuck
section
variable {X:Cx} {c:Fc} {cs:List Nat} {tg iter elt:Expr} {ifs:List Expr} {scope:Scope} {pos:Pos} {g:DG} {t:DT} {el:DE} {i:Nat}
end
section
variable {X:Cx} {c:Fc} {e:Expr} {fe:DE} {pos pos':Pos}
end
section
variable {X:Cx} {c:Fc} {pp pos:Pos}
end
section
variable {c:Fc} {σ:St} {δ:Dl} {H:Hp} {a:Addr} {d:D}
theorem getA (h:(xs ++ [x])[i]? = some y):xs[i]? = some y∨(i=xs.length∧y=x):=by
 rw [List.getElem?_append] at h
 split at h
 ·exact .inl h
 ·rename_i hi
  right
  have:i - xs.length=0:=by
   cases hk:i - xs.length with
   | zero=>rfl
   | succ k=>rw [hk] at h; simp at h
  rw [this] at h
  simp at h
  exact ⟨by omega,h.symm⟩
theorem getL {α:Type} {xs:List α} {x y:α} {i:Nat} (h:xs[i]? = some y):(xs ++ [x])[i]? = some y:=by
 rw [Qs (W3.mp h).1]; exact h
theorem z8W (hl:δ.length=σ.length):Own (σ ++ [some (V.ref a)]) (δ ++ [some (S.own d)]) b→Own σ δ b∨b=a:=by
 rintro ⟨i,d',e1,e2⟩
 rcases getA e1 with e1 | ⟨hi,_⟩
 ·rcases getA e2 with e2 | ⟨hi,_⟩
  ·exact .inl ⟨i,d',e1,e2⟩
  ·have:=(W3.mp e1).1; omega
 ·rcases getA e2 with e2 | ⟨_,e2⟩
  ·have:=(W3.mp e2).1; omega
  ·cases e2; exact .inr rfl
theorem z7I (hl:δ.length=σ.length) (h:Av c (σ ++ [some (V.ref a)]) (δ ++ [some (S.own d)]) b):Av (c.plus a) σ δ b:=by
 rcases h with h | h
 ·exact .inl (.inl h)
 ·rcases z8W hl h with h | h
  ·exact .inr h
  ·exact .inl (.inr h)
theorem Ok.extV (k:Ok (c.plus a) σ δ H) (o:OwnAt H (Av (c.plus a) σ δ) a d) (nb:¬ c.B a) (h0:c.H₀ a=none):Ok c (σ ++ [some (.ref a)]) (δ ++ [some (.own d)]) H:=by
 have hl:=k.len
 refine ⟨k.keep,fun b z=>k.bd b (.inl z),k.ith,by simp [hl],fun i d' e=>?_,fun i d' e=>?_,fun i j b d1 d2 e1 e2 s1 s2=>?_,fun p hp=>getL (k.pinned p hp)⟩
 ·rcases getA e with e | ⟨_,e⟩
  ·obtain ⟨v,g1,g2⟩:=k.slot i d' e
   exact ⟨v,getL g1,g2.anti fun b z=>.inl (z7I hl z)⟩
  ·cases e
 ·rcases getA e with e | ⟨hi,e⟩
  ·obtain ⟨b,g1,g2,g3,g4⟩:=k.own i d' e
   exact ⟨b,getL g1,g2.anti fun b z=>.inl (z7I hl z),g3,fun z=>g4 (.inl z)⟩
  ·cases e
   subst hi
   exact ⟨a,by rw [hl]; simp,o.anti fun b z=>.inl (z7I hl z),.inr h0,nb⟩
 ·have na:∀ (i:Nat) (d:D),δ[i]? = some (some (.own d))→σ[i]? = some (some (.ref a))→False:=fun i d q1 q2=>z2g k ⟨i,d,q1,q2⟩
  rcases getA e1 with e1 | ⟨h1,_⟩ <;> rcases getA e2 with e2 | ⟨h2,_⟩
  ·have i1:=(W3.mp e1).1
   have i2:=(W3.mp e2).1
   rcases getA s1 with s1 | ⟨z,_⟩
   ·rcases getA s2 with s2 | ⟨z,_⟩
    ·exact k.inj i j b d1 d2 e1 e2 s1 s2
    ·omega
   ·omega
  ·subst h2
   rw [hl] at s2
   have hb:b=a:=by simpa using s2.symm
   subst hb
   rcases getA s1 with s1 | ⟨z,_⟩
   ·exact (na i d1 e1 s1).elim
   ·have:=(W3.mp e1).1; omega
  ·subst h1
   rw [hl] at s1
   have hb:b=a:=by simpa using s1.symm
   subst hb
   rcases getA s2 with s2 | ⟨z,_⟩
   ·exact (na j d2 e2 s2).elim
   ·have:=(W3.mp e2).1; omega
  ·rw [h1,h2]
theorem Ok.cutl (hl:δ.length=σ.length) (k:Ok c (σ ++ [some (.ref a)]) (δ ++ [some (.own d)]) H) (hp:∀ p ∈ c.pin,p.1 < σ.length):Ok c σ δ H:=by
 have sub:∀ b,Av c σ δ b→Av c (σ ++ [some (.ref a)]) (δ ++ [some (.own d)]) b:=fun b z=>z.elim .inl fun ⟨i,d',e1,e2⟩=>.inr ⟨i,d',getL e1,getL e2⟩
 refine ⟨k.keep,k.bd,k.ith,hl,fun i d' e=>?_,fun i d' e=>?_,fun i j b d1 d2 e1 e2 s1 s2=>k.inj i j b d1 d2 (getL e1) (getL e2) (getL s1) (getL s2),fun p hm=>?_⟩
 ·obtain ⟨v,g1,g2⟩:=k.slot i d' (getL e)
  have hi:=(W3.mp e).1
  rcases getA g1 with g1 | ⟨z,_⟩
  ·exact ⟨v,g1,g2.anti fun b z=>.inl (sub b z)⟩
  ·omega
 ·obtain ⟨b,g1,g2,g3⟩:=k.own i d' (getL e)
  have hi:=(W3.mp e).1
  rcases getA g1 with g1 | ⟨z,_⟩
  ·exact ⟨b,g1,g2.anti fun b z=>.inl (sub b z),g3⟩
  ·omega
 ·rcases getA (k.pinned p hm) with g | ⟨z,_⟩
  ·exact g
  ·have:=hp p hm; omega
end
def z42 (G:DF) (f0:DE) (as:List Ak):DE:=fun δ=>if (ios as).isEmpty then (f0 δ).bind fun r δ1=>match r with
  | .own d=>(evX as δ1).bind fun ds δ2=>match mkA as ds δ2 with
   | none=>.stuck
   | some ss=>match G (.own d :: ss) with
    | none=>.stuck
    | some (r,_)=>.ok r δ2
  | _=>.stuck
 else .stuck
theorem z98:∀ {as:List Ak} {ds:List (Option D)} {δ:Dl},ios as=[]→mkA as ds (δ ++ [x])=mkA as ds δ
 | [],[],δ,_=>rfl
 | [],_ :: _,δ,_=>rfl
 | .val f :: as,[],δ,_=>rfl
 | .val f :: as,none :: ds,δ,_=>rfl
 | .val f :: as,some d :: ds,δ,h=>by
  simp only [mkA]
  rw [z98 (as:=as) (ds:=ds) (δ:=δ) (by simpa [ios] using h)]
 | .io i :: as,ds,δ,h=>by simp [ios] at h
theorem zaM {c:Fc} {σ:St} {δ:Dl} {H:Hp} {a:Addr} {d:D} {vs:List V} {as:List Ak} {ds:List (Option D)} (hl:δ.length=σ.length) (h:ArgR (c.plus a) σ δ H vs as ds):ArgR c (σ ++ [some (.ref a)]) (δ ++ [some (.own d)]) H vs as ds:=by
 induction h with
 | nil=>exact .nil
 | val r _ ih=>exact .val (r.anti fun b z=>.inl (z7I hl z)) ih
 | io e _ ih=>exact .io (getL e) ih
section
variable {X:Cx} {c:Fc} {e:Expr} {es:List Expr} {as:List Ak} {f0:DE} {k n:Nat} {x:Str} {G:DF} {pp pos:Pos}
theorem z8c (hK:z1z G) {σ:St} {H:Hp} {Q:VK} (hl:as.length + 1=n) (h:tD c (z42 G f0 as) σ H Q):z9U (spD n G) [] E0 (zbu (tD c f0) (fun σ H Q=>∃ a,tX (c.plus a) as σ H Q)) σ H Q:=by
 obtain ⟨δ,kk,q⟩:=h
 unfold z42 at q
 split at q
 case isFalse=>exact q.elim
 rename_i hio
 have hio':ios as=[]:=by simpa using hio
 rw [z04] at q
 refine ⟨δ,kk,z01 q fun r δ1 q1 v0 H1 a1 r1=>?_⟩
 cases r with
 | pure d=>exact q1.elim
 | own d =>
  obtain ⟨a,rfl,oa,nb,h0,kp,hs⟩:=r1
  simp only at q1
  rw [z04] at q1
  refine ⟨a,δ1,kp,fun i hi=>absurd (ios_mem.mpr hi) (by rw [hio']; simp),?_⟩
  have q1':post (c.plus a) (evX as δ1) fun ds δ2=>post c (match mkA as ds δ2 with
   | none=>.stuck
   | some ss=>match G (.own d :: ss) with
    | none=>.stuck
    | some (r,_)=>.ok r δ2) fun r δ'=>∀ v H',Aft c σ δ H σ δ' H'→RepS c σ δ' H H' v r→Q v H':=by
   cases hf:evX as δ1 with
   | ok fl δ'=>rw [hf] at q1; exact q1
   | exc x δx=>rw [hf] at q1; exact q1
   | stuck=>rw [hf] at q1; exact q1
  refine z01 q1' fun ds δ2 q2 vs H2 a2 r2=>?_
  cases em:mkA as ds δ2 with
  | none=>rw [em] at q2; exact q2.elim
  | some ss =>
   rw [em] at q2
   simp only at q2
   cases eg:G (.own d :: ss) with
   | none=>rw [eg] at q2; exact q2.elim
   | some y =>
    obtain ⟨r,outs⟩:=y
    rw [eg] at q2
    have len2:=a2.ok.len
    have oa2:OwnAt H2 (Av (c.plus a) σ δ2) a d:=by
     have o1:OwnAt H1 (fun b=>Av (c.plus a) σ δ1 b∨Av (c.plus a) σ δ2 b) a d:=oa.anti fun b z=>z.elim .inl (a2.av b)
     exact (o1.keep (fun b o e n=>a2.keep b o e fun z=>n (.inl (.inr z))) fun o e=>a2.keep a o e (z2g kp)).anti fun b z=>.inl (.inr z)
    have k':=Ok.extV a2.ok oa2 nb h0
    have r':ArgR c (σ ++ [some (.ref a)]) (δ2 ++ [some (.own d)]) H2 (.ref a :: vs) (.io σ.length :: as) (none :: ds):=.io (by simp) (zaM len2 r2)
    have em':mkA (.io σ.length :: as) (none :: ds) (δ2 ++ [some (.own d)])=some (.own d :: ss):=by
     simp only [mkA]
     rw [← len2,show (δ2 ++ [some (S.own d)])[δ2.length]? = some (some (.own d)) by simp]
     simp only [z98 hio',em,WI]
    have nd:(ios (.io σ.length :: as)).Nodup:=by simp [ios,hio']
    have hin:=z5S k' r' em' nd
    obtain ⟨m1,m2,_⟩:=z5e r' em'
    obtain ⟨g1,g2⟩:=hK _ r outs eg
    refine ⟨.own d :: ss,_,by rw [WH]; rw [← m2]; simpa using hl,by rw [WH]; exact hin,r,outs,eg,fun v H3 a3 r3=>?_⟩
    rw [WH] at a3 r3
    obtain ⟨o1,o2⟩:=z3y k' r' em' nd rfl a3 (fun j d ed=>(g2 j).1 d ed) fun j d ed=>(g2 j).2 d ed
    have o3:=o2 v r r3
    -- the virtual slot holds what came of the list
    obtain ⟨d',ed'⟩:=(g2 0).1 d rfl
    obtain ⟨rs,ers⟩:∃ rs,outs = .own d' :: rs:=by
     cases outs with
     | nil=>simp at ed'
     | cons z rs=>simp at ed'; subst ed'; exact ⟨rs,rfl⟩
    subst ers
    have hput:putA (.io σ.length :: as) (.own d' :: rs) (δ2 ++ [some (.own d)])=δ2 ++ [some (.own d')]:=by
     have hp:∀ (as:List Ak) (rs:List S) (δ:Dl),ios as=[]→putA as rs δ=δ:=by
      intro as
      induction as with
      | nil=>intro rs δ _; cases rs <;> rfl
      | cons x as ih =>
       intro rs δ h
       cases x with
       | val f=>cases rs with
        | nil=>rfl
        | cons y rs=>simp only [putA]; exact ih rs δ (by simpa [ios] using h)
       | io i=>simp [ios] at h
     simp only [putA]
     rw [hp as rs _ hio',← len2]
     simp
    rw [hput] at o1 o3
    have pinlt:∀ p ∈ c.pin,p.1 < σ.length:=fun p hm=>(W3.mp (kk.pinned p hm)).1
    have kc:Ok c σ δ2 H3:=Ok.cutl len2 o1.ok pinlt
    have subO:∀ b,Own σ δ2 b→Own (σ ++ [some (.ref a)]) (δ2 ++ [some (.own d')]) b:=fun b ⟨i,d1,e1,e2⟩=>⟨i,d1,getL e1,getL e2⟩
    have a12:Aft c σ δ H σ δ2 H2:=a1.trans ⟨Ok.cutl len2 k' pinlt,a2.keep,a2.own,a2.there⟩
    have fin:Aft c σ δ H σ δ2 H3:=by
     refine ⟨kc,fun b o eb nO=>?_,a12.own,fun b o eb=>?_⟩
     ·have eb2:=a12.keep b o eb nO
      refine o1.keep b o eb2 fun z=>?_
      rcases z8W len2 z with z | z
      ·rcases a12.own b z with w | w
       ·exact nO w
       ·rw [w] at eb; cases eb
      ·subst z; rw [hs] at eb; cases eb
     ·obtain ⟨o',e'⟩:=a12.there b o eb
      exact o1.there b o' e'
    have sub:∀ b,Av c σ δ2 b→Av c (σ ++ [some (.ref a)]) (δ2 ++ [some (.own d')]) b:=fun b z=>z.elim .inl fun z=>.inr (subO b z)
    refine q2 v H3 fin ?_
    cases r with
    | pure dr=>exact Rep.anti (show Rep H3 (Av c (σ ++ [some (.ref a)]) (δ2 ++ [some (.own d')])) v dr from o3) fun b z=>.inl (sub b z)
    | own dr =>
     obtain ⟨p,e1,oo,np,f,kq,hs2⟩:=o3
     have len2':δ2.length=σ.length:=len2
     refine ⟨p,e1,oo.anti fun b z=>.inl ?_,np,f,Ok.cutl len2' kq pinlt,?_⟩
     ·rcases z with z | z
      ·exact .inl z
      ·exact .inr (subO b z)
     ·cases eH:H p with
      | none=>rfl
      | some o =>
       obtain ⟨o',e'⟩:=a12.there p o eH
       rw [hs2] at e'; cases e'
theorem za5 (F:KFn X.prog X.w X.K X.mg X.base k x n G) (hK:z1z G) (hr:Room k X.A) (hg:Gl X x) (h0:SE X c e f0) (ha:∀ a,SX X (c.plus a) es as) (hl:as.length + 1=n) (hdb:(x == ("__debug__" : Str))=false:=by decide)
  (he:W5 (e :: es) X.env=(false,eval e X.env) :: W5 es X.env:=by rfl) (hpl:(WK pos (W5 es X.env)).any (·.1)=false:=by rfl):SE X c (.Call (.Name x pp) (e :: es) [] pos) (z42 G f0 as):=by
 obtain ⟨f,fd,ps,hm,hk,hb,ok⟩:=F
 exact PE.weak (z8S ok hr hg hm hk hb .nil zdi (z0X h0 (t:=fun σ H Q=>∃ a,tX (c.plus a) as σ H Q) (fun ppp pins s σ H Q I ⟨a,q⟩=>ha a ppp pins s σ H Q I q) he) hdb he hpl) fun σ H Q h=>z8c hK hl h
end
section
variable {X:Cx} {c:Fc} {e:Expr} {fe:DE} {pos:Pos}
theorem Ok.mutD (k:Ok c σ δ H) (e:δ[i]? = some (some (.own (.dct ds)))) (ea:σ[i]? = some (some (.ref a))) (r:DR H (Av c σ δ) vs' ds') :
  Aft c σ δ H σ (δ.set i (some (.own (.dct ds')))) (upd H a (.dK vs')):=by
 have hi:i < δ.length:=(W3.mp e).1
 obtain ⟨a',ea',oa,ia,nb⟩:=k.own i _ e
 rw [ea] at ea'; cases ea'
 obtain ⟨vs,ha,_⟩:=oa
 have ownA:Own σ δ a:=⟨i,_,e,ea⟩
 have avA:Av c σ δ a:=.inr ownA
 have own_iff:∀ b,Own σ (δ.set i (some (.own (.dct ds')))) b ↔ Own σ δ b:=fun b=>by
  constructor
  ·rintro ⟨j,d,e1,e2⟩
   by_cases hj:i=j
   ·subst hj
    exact ⟨i,_,e,e2⟩
   ·rw [W4 hj] at e1
    exact ⟨j,d,e1,e2⟩
  ·rintro ⟨j,d,e1,e2⟩
   by_cases hj:i=j
   ·subst hj
    exact ⟨i,_,by rw [Wl hi],e2⟩
   ·exact ⟨j,d,by rw [W4 hj]; exact e1,e2⟩
 have av_iff:∀ b,Av c σ (δ.set i (some (.own (.dct ds')))) b→Av c σ δ b:=fun b z=>z.elim .inl fun z=>.inr ((own_iff b).mp z)
 have ne:∀ b,¬ Av c σ δ b→b≠a:=fun b n z=>n (by rw [z]; exact avA)
 have kp:∀ b o,H b=some o→¬ Av c σ δ b→upd H a (.dK vs') b=some o:=fun b o h n=>by rw [z0n (ne b n)]; exact h
 have hup:∀ b o,H b=some o→∃ o',upd H a (.dK vs') b=some o':=fun b o h=>by
  by_cases hb:b=a
  ·exact ⟨_,by rw [hb]; exact z0B⟩
  ·exact ⟨o,by rw [z0n hb]; exact h⟩
 refine ⟨⟨fun b o h n=>?_,fun b z=>?_,fun b z=>?_,by rw [QI]; exact k.len,fun j d h=>?_,fun j d h=>?_,fun j l b d d' h1 h2 h3 h4=>?_,k.pinned⟩,fun b o h n=>?_,fun b z=>.inl ((own_iff b).mp z),hup⟩
 ·have hb:b≠a:=fun z=>by
   subst z
   rcases ia with z | z
   ·exact n z
   ·rw [z] at h; cases h
  rw [z0n hb]
  exact k.keep b o h n
 ·obtain ⟨o,h⟩:=k.bd b z
  exact hup b o h
 ·obtain ⟨o,h⟩:=k.ith b z
  exact hup b o h
 ·have hj:i≠j:=fun z=>by subst z; rw [Wl hi] at h; cases h
  rw [W4 hj] at h
  obtain ⟨v,h1,h2⟩:=k.slot j d h
  exact ⟨v,h1,(h2.keep kp).anti fun b z=>.inl (av_iff b z)⟩
 ·by_cases hj:i=j
  ·subst hj
   rw [Wl hi] at h
   cases h
   exact ⟨a,ea,(let r':=r.map fun v d h=>(Rep.keep h kp).anti fun b z=>.inl (av_iff b z); ⟨vs',z0B,r'.keys,r'.vals⟩),ia,nb⟩
  ·rw [W4 hj] at h
   obtain ⟨b,h1,h2,h3,h4⟩:=k.own j d h
   have hb:b≠a:=fun z=>by subst z; exact hj (k.inj i j b _ d e h ea h1)
   exact ⟨b,h1,(h2.keep kp fun o q=>by rw [z0n hb]; exact q).anti fun b z=>.inl (av_iff b z),h3,h4⟩
 ·have f1:∃ d,δ[j]? = some (some (.own d)):=by
   by_cases hj:i=j
   ·subst hj; exact ⟨_,e⟩
   ·rw [W4 hj] at h1; exact ⟨d,h1⟩
  have f2:∃ d,δ[l]? = some (some (.own d)):=by
   by_cases hj:i=l
   ·subst hj; exact ⟨_,e⟩
   ·rw [W4 hj] at h2; exact ⟨d',h2⟩
  obtain ⟨_,f1⟩:=f1
  obtain ⟨_,f2⟩:=f2
  exact k.inj j l b _ _ f1 f2 h3 h4
 ·have hb:b≠a:=fun z=>n (by rw [z]; exact ownA)
  rw [z0n hb]; exact h
def z6t (δ:Dl) (i:Nat):Bool:=match δ[i]? with
 | some (some (.own (.dct _)))=>true
 | _=>false
def z2l (i:Nat) (fi fe:DE):DS:=fun δ=>if z6t δ i then (fe δ).bind fun r δ1=>if z6t δ1 i then (fi δ1).bind fun k δ2=>match δ2[i]? with
  | some (some (.own (.dct ds)))=>match keyD k.d with
   | some kk=>if ds.length < W6 then .ok .next (δ2.set i (some (.own (.dct (putD ds kk r.d))))) else .stuck
   | none=>.stuck
  | _=>.stuck else .stuck else .stuck
theorem z9f (h:z6t δ i=true):∃ ds,δ[i]? = some (some (.own (.dct ds))):=by
 unfold z6t at h
 split at h
 ·rename_i ds e; exact ⟨ds,e⟩
 ·cases h
theorem z6O {i:Nat} {o ix:Expr} {fi:DE} {sp:Pos} (hu:X.A.units + 64 < Q8) (ho:PE X o (tVar i)) (hi:SE X c ix fi) (he:SE X c e fe)
  (hs:QD e (some (.Subscript o ix sp)) pos.line X.env=pure false:=by rfl):SS X c (.Assign [.Subscript o ix sp] e pos) (z2l i fi fe) :=
 PS.weak (zbT (by omega) ho hi he hs) fun D σ H ⟨δ,k,q⟩=>by
  unfold z2l z2B at q
  split at q
  case isFalse=>exact q.elim
  rename_i hown
  rw [z04] at q
  refine ⟨δ,k,z01 q fun r δ1 q1 v H1 a1 r1=>?_⟩
  split at q1
  case isFalse=>exact q1.elim
  rename_i hown1
  obtain ⟨ds1,e1⟩:=z9f hown1
  obtain ⟨a,ea,_,_⟩:=a1.ok.own i _ e1
  refine ⟨.ref a,ea,δ1,a1.ok,?_⟩
  rw [z04] at q1
  refine z01 q1 fun kx δ2 q2 u H2 a2 r2=>?_
  split at q2
  ·rename_i ds e2
   split at q2
   ·rename_i kk hk
    split at q2
    ·rename_i hz
     obtain ⟨a',ea',oa,_⟩:=a2.ok.own i _ e2
     rw [ea] at ea'; cases ea'
     obtain ⟨ws,ha,hk1,hk2⟩:=id oa
     have dr:DR H2 (Av c σ δ2) ws ds:=DR.of hk1 hk2
     have hu':=z5x hk r2.b
     subst hu'
     have hlen:ws.length=ds.length:=by have:=congrArg QM hk1; simpa using this
     have rv:Rep H2 (Av c σ δ2) v r.d:=Rep.aft r1.rep a2
     refine ⟨a,_,rfl,DPut.k ha (by rw [hlen]; exact hz),?_⟩
     exact q2 σ _ (a1.trans (a2.trans (Ok.mutD a2.ok e2 ea (dr.put rv))))
    ·exact q2.elim
   ·exact q2.elim
  ·exact q2.elim
end
section
variable {X:Cx} {c:Fc} {o e f:Expr} {fe ff:DE} {i:Nat} {apos cpos:Pos}
end
section
variable {X:Cx}
end
end DV
namespace L2
open PySem PySem.Spec PyProof.Rows
section
variable {X:Cx} {tg:Expr}
end
end L2
namespace DV
open PySem PySem.Spec PyProof.Rows L2
variable {X:Cx} {c:Fc} {tg e:Expr} {fe:DE} {pp pos:Pos}
section
variable {X:Cx}
end
theorem vals_ints:∀ {ns:List Int} {us:List Value},Vals (ns.map V.int) us→∃ ys:List (Int×Tok),us=(ys.map fun p=>Value.int p.1 p.2)∧ns=ys.map (·.1)
 | [],us,r=>by cases r; exact ⟨[],rfl,rfl⟩
 | n :: ns,us,r=>by
  cases r with
  | cons r1 r2 =>
   obtain ⟨ys,e1,e2⟩:=vals_ints r2
   obtain ⟨t,rfl⟩:=r1
   exact ⟨(n,t) :: ys,by rw [e1]; rfl,by rw [e2]; rfl⟩
section
variable {X:Cx}
end
def z53:List D→Option (List Int)
 | []=>some []
 | .int i :: r=>(z53 r).map (i :: ·)
 | _ :: _=>none
theorem ints_map (ns:List Int):z53 (ns.map D.int)=some ns:=by
 induction ns with
 | nil=>rfl
 | cons n r ih=>simp [z53,ih]
section
variable {X:Cx} {c:Fc} {e:Expr} {fb:BE} {pos pp:Pos}
end
end DV
namespace L2
open PySem PySem.Spec PyProof.Rows
section
variable {prog:Wi} {w:Wp} {A:Wn} {E:Value→W1→Prop} {s:W1}
end
section
variable {X:Cx} {pos:Pos}
end
end L2
namespace DV
open PySem PySem.Spec PyProof.Rows L2
section
variable {X:Cx} {c:Fc} {pos:Pos}
end
open PySem PySem.Builtin PySem.Builtin.Str PySem.StrLaws
section
variable {X:Cx}
end
section
variable {X:Cx} {c:Fc} {e:Expr} {fb:BE}
end
end DV
set_option maxHeartbeats 1000000
namespace PySem
open Sem (wp)
open AutoSeq1 (wpAny_loadPart')
section
variable {prog:Wi} {w:Wp} {A:Wn} {E:Value→W1→Prop} {s:W1}
end
end PySem
namespace PyProof.Rows
open PySem
section
variable {M:Model} {A:Wn} {E:Value→W1→Prop} {s:W1} {env:Env}
end
end PyProof.Rows
set_option maxHeartbeats 400000
namespace L2
open PySem PySem.Spec PyProof.Rows
end L2
namespace DV
open PySem PySem.Spec PyProof.Rows L2
section
variable {X:Cx} {c:Fc} {tg e:Expr} {fe:DE} {pos pp:Pos}
end
end DV
namespace L2
open PySem PySem.Spec PyProof.Rows
def Fly (h:Heap) (a C T:Addr) (dx:Option Addr) (fl:Value):Prop :=
 ∃ vs sl oT ts a0,h.get? a=some ⟨.ref C,dx,.fields vs,sl⟩∧vs[0]? = some a0∧vs[1]? = some (.ref T)∧T≠a∧h.get? T=some oT∧oT.data = .fields ts∧ts[3]? = some fl
structure Noted (h h':Heap) (fs:List Addr) (a T:Addr) (old:Value):Prop where
 new:h.get? T=none
 keep:∀ b o,h.get? b=some o→b≠a→old≠.ref b→b ∉ fs→h'.get? b=some o
 frame:∀ b o,h.get? b=some o→(∀ vs,o.data≠.fields vs)→∃ sl,h'.get? b=some { o with slots:=sl }
section
variable {M:Model} {A:Wn} {E:Value→W1→Prop} {s:W1}
theorem z6A {base:Heap} {env:Env} {outer:List Env} {L a C:Addr} {dx:Option Addr} {vs:Array Value} {sl:Array (Option Value)} {a0 head:Value} {b0:Bool} {Q:Unit→W1→Prop}
  (hfr:A.frames=some (env :: outer)) (hl:s.heap.FunFrames base (env :: outer)) (hf:env.frame=some L)
  (he:s.heap.get? a=some ⟨.ref C,dx,.fields vs,sl⟩) (h0:vs[0]? = some a0) (h1:1 < vs.size)
  (q:∀ h' T,Fly h' a C T dx (QE L)→Noted s.heap h' ((env :: outer).filterMap (·.frame)) a T .none→Q () { s with heap:=h' }) :
  Wa M A (do let x ← frameOf env; let pl ← entryPlaceOf L b0; let y ← EntryCells.newEntry head x .none (QE L) .none pl; setField (.ref a) 1 y) Q E s:=by
 have na:a ∉ (env :: outer).filterMap (·.frame):=fun z=>by
  obtain ⟨_,o,g1,g2⟩:=hl.mem z
  rw [he] at g1
  cases g1
  exact g2 vs rfl
 refine W2 (wpAny_frameOf_fun hfr hl hf fun hA k=>W2 (wpAny_entryPlaceOf fun pl hpl=>?_))
 unfold EntryCells.newEntry newFields
 refine W2 (Qp ?_ (hpl.sizeOk5 _ _ _ _ _))
 have eA:hA.get? a=some ⟨.ref C,dx,.fields vs,sl⟩:=(k.2.1 a na).trans he
 generalize hts:([head,.ref L,.none,QE L,.none] ++ (if pl.isEmpty then W9 6 Value.none else pl)).toArray=ts
 have t3:ts[3]? = some (QE L):=by
  rw [← hts]
  rcases hpl with rfl | ⟨_,_,_,_,_,_,_,rfl⟩ <;> simp
 have eB:=W7 (h:=hA) { cls:=.type "traceback",dict:=none,data:=.fields ts } eA
 have nT:hA.objs.size≠a:=Nat.ne_of_gt (Wf eA)
 refine wpAny_setField eB rfl h1 (q _ hA.objs.size ⟨vs.setIfInBounds 1 (.ref hA.objs.size),sl,{ cls:=.type "traceback",dict:=none,data:=.fields ts },ts,a0,?_,?_,?_,nT,?_,rfl,t3⟩ ⟨?_,fun b o e n _ nf=>?_,fun b o e d=>?_⟩)
 ·exact (QQ _ eB rfl)
 ·rw [Array.getElem?_setIfInBounds_ne (by decide)]; exact h0
 ·simp [h1]
 ·rw [WF _ _ (Ne.symm nT)]; exact Wr hA rfl
 ·cases z:s.heap.get? hA.objs.size with
  | none=>rfl
  | some o =>
   obtain ⟨sl',z'⟩:=k.2.2 _ o z
   exact absurd (Wf z') (WV _)
 ·rw [WF _ _ (Ne.symm n)]
  exact W7 _ ((k.2.1 b nf).trans e)
 ·have nb:b≠a:=fun z=>by
   rw [z,he] at e
   cases e
   exact d vs rfl
  obtain ⟨sl',z⟩:=k.2.2 b o e
  exact ⟨sl',by rw [WF _ _ (Ne.symm nb)]; exact W7 _ z⟩
theorem z7V {base:Heap} {env:Env} {outer:List Env} {L a C:Addr} {dx:Option Addr} {vs:Array Value} {sl:Array (Option Value)} {a0:Value} {Q:Unit→W1→Prop}
  (hfr:A.frames=some (env :: outer)) (hl:s.heap.FunFrames base (env :: outer)) (hf:env.frame=some L)
  (he:s.heap.get? a=some ⟨.ref C,dx,.fields vs,sl⟩) (h0:vs[0]? = some a0) (h1:vs[1]? = some .none)
  (q:∀ h' T,Fly h' a C T dx (QE L)→Noted s.heap h' ((env :: outer).filterMap (·.frame)) a T .none→Q () { s with heap:=h' }):Wa M A (QZ (.ref a) env) Q E s:=by
 unfold QZ
 simp only [hf]
 refine W2 (Qv he rfl h1 ?_)
 rw [if_neg (by decide)]
 exact z6A hfr hl hf he h0 (Qm.mp h1).1 q
theorem z95 {base:Heap} {env:Env} {outer:List Env} {L a C T₀:Addr} {dx:Option Addr} {Q:Unit→W1→Prop}
  (hfr:A.frames=some (env :: outer)) (hl:s.heap.FunFrames base (env :: outer)) (hf:env.frame=some L) (hx:Fly s.heap a C T₀ dx .none)
  (q:∀ h' T,Fly h' a C T dx (QE L)→Noted s.heap h' ((env :: outer).filterMap (·.frame)) a T (.ref T₀)→Q () { s with heap:=h' }):Wa M A (QZ (.ref a) env) Q E s:=by
 obtain ⟨vs,sl,oT,ts,a0,e1,e2,e3,e4,e5,e6,e7⟩:=hx
 unfold QZ
 simp only [hf]
 refine W2 (Qv e1 rfl e3 ?_)
 rw [if_pos (by simp)]
 refine W2 (Qv e5 e6 e7 ?_)
 rw [if_neg (by simp [QE])]
 refine W2 (wpAny_setField e5 e6 (Qm.mp e7).1 ?_)
 have oth:∀ b,b≠T₀→(s.heap.update T₀ (Obj.mapFields (·.setIfInBounds 3 Value.none))).get? b=s.heap.get? b:=fun b n=>WF _ _ (Ne.symm n)
 have nrec:∀ b o,s.heap.get? b=some o→(∀ us,o.data≠.fields us)→b≠T₀:=fun b o e d z=>by
  rw [z,e5] at e
  cases e
  exact d ts e6
 refine z6A (s:={ s with heap:=s.heap.update T₀ (Obj.mapFields (·.setIfInBounds 3 Value.none)) }) hfr (hl.of_keeps fun b o e d=>⟨o,(oth b (nrec b o e d)).trans e,rfl⟩) hf ((oth a (Ne.symm e4)).trans e1) e2 (Qm.mp e3).1 fun h' T f n=>q h' T f ⟨?_,fun b o e n1 n2 n3=>?_,fun b o e d=>n.frame b o ((oth b (nrec b o e d)).trans e) d⟩
 ·have:=n.new
  by_cases z:T=T₀
  ·exfalso
   rw [z] at this
   have g:=QQ (h:=s.heap) (Obj.mapFields (·.setIfInBounds 3 Value.none)) e5 (Obj.isFreed_of_fields (Obj.data_mapFields e6 _))
   rw [this] at g
   cases g
  ·exact (oth T z).symm.trans this
 ·exact n.keep b o ((oth b fun z=>n2 (by rw [z])).trans e) n1 (by simp) n3
theorem z7W {env:Env} {L a C T:Addr} {dx:Option Addr} {Q:Unit→W1→Prop} (hf:env.frame=some L) (hx:Fly s.heap a C T dx (QE L)) (q:Q () s):Wa M A (QZ (.ref a) env) Q E s:=by
 obtain ⟨vs,sl,oT,ts,a0,e1,e2,e3,e4,e5,e6,e7⟩:=hx
 unfold QZ
 simp only [hf]
 refine W2 (Qv e1 rfl e3 ?_)
 rw [if_pos (by simp)]
 refine W2 (Qv e5 e6 e7 ?_)
 rw [if_pos (by simp)]
 exact Wb q
theorem z84 {a C T:Addr} {dx:Option Addr} {fl:Value} {o:Option Addr} {Q:Unit→W1→Prop} (hx:Fly s.heap a C T dx fl)
  (q:∀ h',Fly h' a C T dx (o.elim .none fun f=>QE f)→(∀ b,b≠T→h'.get? b=s.heap.get? b)→Q () { s with heap:=h' }):Wa M A (setFlight (.ref a) o) Q E s:=by
 obtain ⟨vs,sl,oT,ts,a0,e1,e2,e3,e4,e5,e6,e7⟩:=hx
 have hi:=(Qm.mp e7).1
 have oth:∀ b,b≠T→(s.heap.update T (Obj.mapFields (·.setIfInBounds 3 (o.elim Value.none fun f=>QE f)))).get? b=s.heap.get? b:=fun b n=>WF _ _ (Ne.symm n)
 unfold setFlight
 refine W2 (Qv e1 rfl e3 ?_)
 rw [if_pos (by simp)]
 exact wpAny_setField e5 e6 hi (q _ ⟨vs,sl,_,_,a0,(oth a (Ne.symm e4)).trans e1,e2,e3,e4,QQ _ e5 (Obj.isFreed_of_fields (Obj.data_mapFields e6 _)),Obj.data_mapFields e6 _,by simp [hi]⟩ oth)
end
abbrev vErr:List Value:=[.type "ValueError",.type "Exception",.type "BaseException",.type "object"]
def ExcC (K:W0) (C:Addr):Prop:=PySem.W.excIn K C vErr "ValueError.__new__" = true
theorem ExcC.obj {K:W0} {C:Addr} {h:Heap} (q:ExcC K C) (X:K.In h):∃ (bm:List Value) (N:Addr) (nm qn:Str) (bs:List Value) (hdct:Bool) (sn:List Str) (sub:List Value) (ab:Bool) (col:Option Bool) (dd:Option Addr) (k0 k1 k2 k3 k5:Option Value) (mN:Str→Option Value),
  h.get? C=some (excClassObj nm qn C N bs bm hdct sn sub ab col dd k0 k1 k2 k3 k5 "ValueError.__new__")∧h.Ns N mN∧mN "__init__" = none∧OwnTail h vErr bm:=by
 unfold ExcC PySem.W.excIn at q
 split at q
 next dd cd sl lk =>
  split at q
  next C' bm k0 k1 k2 k3 n k5 e1 e2 =>
   simp only [Wg,beq_iff_eq,Ja] at q
   obtain ⟨⟨⟨⟨⟨c1,c2⟩,c3⟩,c4⟩,c5⟩,c6⟩:=q
   subst c1; subst c2
   have e3:sl = #[k0,k1,k2,k3,some (.builtin "ValueError.__new__"),k5]:=by
    cases sl; simp only at e2; rw [e2]
   subst e3
   cases cd
   simp only at e1 c3 c4 c5 c6 lk
   subst e1; subst c3
   exact ⟨bm,_,_,_,_,_,_,_,_,_,dd,k0,k1,k2,k3,k5,_,X _ _ lk,.of_isNs (PySem.W.isNs_of_in X c5),PySem.W.nsMap_none_of_in X c5 c6,PySem.W.tail_of_in X c4⟩
  next=>cases q
 next=>cases q
def CXe (P:Wi) (w:Wp):CXT:=fun outer H s E v s' =>
 ∃ (a C T:Addr) (dx:Option Addr) (H':Hp),v = .ref a∧s'.os=s.os∧AllBare s'.gens∧Un (frs outer) [] H H' s.heap s'.heap∧HOk P w H' s'.heap∧Fly s'.heap a C T dx .none∧s.heap.get? a=none∧s.heap.get? T=none∧H' a=none∧H' T=none∧E (.ref C) dx H'
section
variable {X:Cx} {x:Str} {C:Addr} {np cpos pos:Pos}
theorem z8K {W:St→Hp→Prop} (q:ExcC X.K C) (hc:X.calm=true) (hg:Gl X x) (hm:X.mg x=some (.ref C)) (hd:(x == ("__debug__" : Str))=false)
  (hxe:∀ pins σ H s h' e,Inv X pins σ H s→W σ H→Heap.MadeExcOf s.heap h' e (.ref C) []→X.xe (.ref e) { s with heap:=h' }) :
  PS X (.Raise (some (.Call (.Name x np) [] [] cpos)) none pos) (fun _ σ H=>W σ H):=by
 intro pins s σ H D I hw
 obtain ⟨bm,N,nm,qn,bs,hdct,sn,sub,ab,col,dd,k0,k1,k2,k3,k5,mN,hC,hN,hi,hT⟩:=q.obj I.kIn
 refine wpAny_Raise_call_subT (C:=C) (nm:=nm) (q:=qn) (N:=N) (bs:=bs) (bm:=bm) (hdct:=hdct) (sn:=sn) (sub:=sub) (ab:=ab) (col:=col) (dd:=dd) (k0:=k0) (k1:=k1) (k2:=k2) (k3:=k3) (k5:=k5) (mN:=mN)
  PySem.F.excBase_ValueError (hT.hasType rfl) (I.ok.hd hc) rfl hi (z3M I hg hm ⟨rfl,?_⟩ hd)
 exact evalArgs_empty ⟨rfl,Qf _,hC,hN,hT,fun h' e hm=>hxe pins σ H s h' e I hw hm⟩
end
section
variable {X:Cx} {pins:List (Addr×Obj)} {σ:St} {H:Hp} {s:W1} {h':Heap}
theorem Inv.gone (I:Inv X pins σ H s) (hx:X.ex=[]) (e:s.heap.get? b=none):H b=none∧X.s₀.heap.get? b=none:=by
 constructor
 ·cases q:H b with
  | none=>rfl
  | some o =>
   exfalso
   have:∃ u,s.heap.get? b=some u:=by
    have z:=I.hok b o q
    clear q
    induction o with
    | lst xs=>obtain ⟨_,_,_,_,e⟩:=z; exact ⟨_,e⟩
    | tup xs=>obtain ⟨_,_,_,_,e⟩:=z; exact ⟨_,e⟩
    | dK kvs=>obtain ⟨_,_,_,_,_,_,_,e,_⟩:=z; exact ⟨_,e⟩
    | dT kvs=>obtain ⟨_,_,_,_,_,_,_,e,_⟩:=z; exact ⟨_,e⟩
    | set S n=>obtain ⟨_,_,_,_,e,_⟩:=z; exact ⟨_,e⟩
    | ins C dx fs=>obtain ⟨_,_,_,e,_⟩:=z; exact ⟨_,e⟩
    | own y=>exact z
    | xd fs=>obtain ⟨_,⟨_,_,_,e,_⟩,_⟩:=z; exact ⟨_,e⟩
    | rng lo hi=>obtain ⟨_,_,_,e⟩:=z; exact ⟨_,e⟩
    | frz ob u ih=>exact ⟨_,z.1⟩
    | tbl ps=>exact ⟨_,z⟩
    | met f y=>exact ⟨_,z⟩
    | ext φ=>exact z.2.1
   obtain ⟨u,q⟩:=this
   rw [e] at q; cases q
 ·cases q:X.s₀.heap.get? b with
  | none=>rfl
  | some o =>
   obtain ⟨o',q'⟩:=I.base.there b o q (by rw [hx]; simp)
   rw [e] at q'; cases q'
end
structure Apart (X:Cx) (pins:List (Addr×Obj)) (H:Hp) (b:Addr):Prop where
 old:X.s₀.heap.get? b=none
 free:H b=none
 loc:b≠X.env.locals
 cel:∀ x c,X.env.cells.lookup x=some c→c≠b
 pin:∀ p ∈ X.pn ++ pins,p.1≠b
section
variable {X:Cx} {pins:List (Addr×Obj)} {σ:St} {H:Hp} {s:W1} {h':Heap} {a T:Addr}
theorem Inv.neL (I:Inv X pins σ H s) (e:X.s₀.heap.get? b=some o):b≠X.env.locals:=WN (Wt (Wf e) I.ok.above)
theorem Inv.noted2 (I:Inv X pins σ H s) (ha:Apart X pins H a) (hT:Apart X pins H T) (k1:∀ b o,s.heap.get? b=some o→b ∉ frs X.stack→b≠a→b≠T→h'.get? b=some o)
  (k2:∀ b o,s.heap.get? b=some o→b ∈ frs X.stack→∃ sl,h'.get? b=some { o with slots:=sl }):Inv X pins σ H { s with heap:=h' }:=by
 have any:∀ b o,s.heap.get? b=some o→b≠a→b≠T→∃ sl,h'.get? b=some { o with slots:=sl }:=fun b o e n1 n2=>by
  by_cases hb:b ∈ frs X.stack
  ·exact k2 b o e hb
  ·exact ⟨o.slots,k1 b o e hb n1 n2⟩
 have ne:∀ b o,X.s₀.heap.get? b=some o→b≠a∧b≠T:=fun b o e=>⟨fun z=>(by rw [z,ha.old] at e; cases e),fun z=>(by rw [z,hT.old] at e; cases e)⟩
 have nst:∀ b,b≠X.env.locals→b ∉ X.fs→b ∉ frs X.stack:=fun b n1 n2 z=>(Wh.mp (I.stkSub b z)).elim n1 n2
 have cellK:∀ y c,X.env.cells.lookup y=some c→∀ v,s.heap.IsCell c v→h'.IsCell c v:=fun y c e v ⟨o,ho,hd⟩=>by
  obtain ⟨sl,q⟩:=any c o ho (ha.cel y c e) (hT.cel y c e)
  exact ⟨_,q,hd⟩
 refine ⟨I.ok,I.os,I.bare,⟨fun b o e n hb hx=>?_,fun b o e n hb hx=>?_,I.base.free,fun b o e hx=>?_,I.base.tups,I.base.frzs,I.base.tbls⟩,?_,fun y c e=>?_,I.free,I.freeC,fun p hp=>?_,fun b o e=>?_,I.len⟩
 ·exact k1 b o (I.base.keep b o e n hb hx) (nst b (I.neL e) hb) (ne b o e).1 (ne b o e).2
 ·obtain ⟨sl,q⟩:=I.base.slot b o e n hb hx
  obtain ⟨sl',q'⟩:=any b _ q (ne b o e).1 (ne b o e).2
  exact ⟨sl',q'⟩
 ·obtain ⟨o',q⟩:=I.base.there b o e hx
  obtain ⟨sl',q'⟩:=any b _ q (ne b o e).1 (ne b o e).2
  exact ⟨_,q'⟩
 ·obtain ⟨m,⟨o,es,ep,ho,hd,r⟩,hl⟩:=I.loc
  obtain ⟨sl,q⟩:=any _ o ho (fun z=>ha.loc z.symm) (fun z=>hT.loc z.symm)
  refine ⟨m,⟨_,es,ep,q,hd,r⟩,fun i y v e1 e2 e3=>?_⟩
  obtain ⟨u,ru,lk⟩:=hl i y v e1 e2 e3
  refine ⟨u,ru,lk.elim .inl fun ⟨k,c,e,z⟩=>.inr ⟨k,c,e,cellK y c e _ z⟩⟩
 ·obtain ⟨v,z⟩:=I.cell y c e
  exact ⟨v,cellK y c e v z⟩
 ·obtain ⟨e,n,nl,nf,d⟩:=I.pin p hp
  exact ⟨k1 p.1 p.2 e (nst _ nl nf) (ha.pin p hp) (hT.pin p hp),n,nl,nf,d⟩
 ·refine (I.hok b o e).stay (fun c u hc q=>k1 c u q (fun z=>?_) (fun z=>?_) (fun z=>?_)) (fun _ q=>q) fun _ _ q=>q
  ·have:=I.stkFree c z
   rcases hc with rfl | hc
   ·rw [e] at this; cases this
   ·rw [hc] at this; cases this
  ·subst z
   rcases hc with rfl | hc
   ·rw [ha.free] at e; cases e
   ·rw [ha.free] at hc; cases hc
  ·subst z
   rcases hc with rfl | hc
   ·rw [hT.free] at e; cases e
   ·rw [hT.free] at hc; cases hc
theorem Inv.track (I:Inv X pins σ H s) (ha:Apart X pins H a) (ob:ObjOk X.prog X.w (upd H a o) s.heap a o):Inv X pins σ (upd H a o) s:=by
 have ne:∀ {b:Addr} {u:HO},H b=some u→b≠a:=fun {b u} e z=>by rw [z,ha.free] at e; cases e
 have up:∀ {b:Addr} {u:HO},H b=some u→upd H a o b=some u:=fun {b u} e=>by rw [z0n (ne e)]; exact e
 have no:∀ {b:Addr},b≠a→H b=none→upd H a o b=none:=fun {b} n e=>by rw [z0n n]; exact e
 refine ⟨I.ok,I.os,I.bare,⟨I.base.keep,I.base.slot,fun b u e n hx=>no (fun z=>by rw [z,ha.old] at e; cases e) (I.base.free b u e n hx),I.base.there,fun b xs e=>up (I.base.tups b xs e),fun b u z e=>up (I.base.frzs b u z e),fun b ps e=>?_⟩,I.loc,I.cell,no (Ne.symm ha.loc) I.free,fun x c e=>no (ha.cel x c e) (I.freeC x c e),fun p hp=>?_,fun b u e=>?_,I.len⟩
 ·obtain ⟨m,q⟩:=I.base.tbls b ps e
  exact ⟨m,up q⟩
 ·obtain ⟨e,n,nl,nf,d⟩:=I.pin p hp
  exact ⟨e,no (ha.pin p hp) n,nl,nf,d⟩
 ·by_cases hb:b=a
  ·subst hb
   rw [z0B] at e
   cases e
   exact ob
  ·rw [z0n hb] at e
   exact (I.hok b u e).stay (fun _ _ _ q=>q) (fun c q=>up q) fun c xs q=>up q
theorem z7J (I:Inv X pins σ H s) (hN:X.N.Nodup) (hi:X.N[i]? = some x) (hk:X.env.scope.names.lookup x=some .local)
  (h:∀ s',Inv X pins (σ.set i none) H s'→Q () s'):Wa M A (do bindName X.env x .none; unbindBehindTheSuite X.env x pos) Q E s:=by
 have hiσ:i < σ.length:=by rw [I.len]; exact (W3.mp hi).1
 refine W2 (wpAny_bindName (z3a (v:=.non) (u:=.none) I hN hi (.inl hk) rfl (fun s1 I1 _=>?_) (.inr hk)))
 obtain ⟨m,hn,hl⟩:=id I1.loc
 obtain ⟨u,ru,lk⟩:=hl i x .non hi (Wl hiσ) (.inl hk)
 have hv:m x=some u:=by
  rcases lk with ⟨_,e⟩ | ⟨z,_⟩
  ·exact e
  ·have:X.env.kindOf x=some .local:=hk
   rw [this] at z
   rcases z with z | z <;> cases z
 refine wpAny_onRaise (wpAny_unbindName_local hk hn hv (by rw [I.ok.kind]; rfl) fun h' w' hn' hs=>h _ ?_)
 obtain ⟨oL,_,_,hoL,_⟩:=id hn
 have cne:=I1.cne
 refine ⟨I1.ok,I1.os,I1.bare,⟨fun b o e n hb hx=>?_,fun b o e n hb hx=>?_,I1.base.free,fun b o e hx=>?_,I1.base.tups,I1.base.frzs,I1.base.tbls⟩,⟨_,hn',fun j y v' e1 e2 e3=>?_⟩,fun y c e=>?_,I1.free,I1.freeC,fun p hp=>?_,fun b ob e=>?_,by simpa using I.len⟩
 ·exact (hs.2 b (I1.neL e)).trans (I1.base.keep b o e n hb hx)
 ·obtain ⟨sl,q⟩:=I1.base.slot b o e n hb hx
  exact ⟨sl,(hs.2 b (I1.neL e)).trans q⟩
 ·obtain ⟨o',q⟩:=I1.base.there b o e hx
  exact ⟨o',(hs.2 b (I1.neL e)).trans q⟩
 ·by_cases hj:j=i
  ·subst hj
   rw [Wl hiσ] at e2
   cases e2
  ·rw [W4 (Ne.symm hj)] at e2
   obtain ⟨u',r',q⟩:=hl j y v' e1 (by rw [W4 (Ne.symm hj)]; exact e2) e3
   have hyx:y≠x:=fun z=>hj (z5G hN e1 (z ▸ hi))
   refine ⟨u',r',?_⟩
   rcases q with ⟨k,e⟩ | ⟨k,c,e,z⟩
   ·exact .inl ⟨k,by simp [hyx,e]⟩
   ·exact .inr ⟨k,c,e,z.sameBut hs (cne y c e)⟩
 ·obtain ⟨w2,z⟩:=I1.cell y c e
  exact ⟨w2,z.sameBut hs (cne y c e)⟩
 ·obtain ⟨e,n,nl,nf,d⟩:=I1.pin p hp
  exact ⟨(hs.2 p.1 nl).trans e,n,nl,nf,d⟩
 ·refine (I1.hok b ob e).stay (fun c u' hc q=>(hs.2 c fun z=>?_).trans q) (fun _ q=>q) fun _ _ q=>q
  subst z
  have:=I1.free
  rcases hc with rfl | hc
  ·rw [e] at this; cases this
  ·rw [hc] at this; cases this
end
section
variable {prog:Wi} {w:Wp} {A:Wn} {E:Value→W1→Prop} {K:W0}
theorem z9n {C B e:Addr} {oe:Obj} {h:Heap} {g:Array GenState} {d:Drawn} {t:Nat} {os:OsState} {Q:Bool→W1→Prop} (X:K.In h) (qB:ExcC K B) (qm:PySem.W.mroIn K C (.ref B)=some true) (he:h.get? e=some oe) (hc:oe.cls = .ref C)
  (hq:Q true ⟨h,g,d,t,os⟩):Wa (model prog w) A (excMatches (.ref e) (.ref B)) Q E ⟨h,g,d,t,os⟩:=by
 obtain ⟨bm,N,nm,qn,bs,hdct,sn,sub,ab,col,dd,k0,k1,k2,k3,k5,mN,hB,_,_,hT⟩:=qB.obj X
 have cB:(Value.ref B :: bm).contains (.type "BaseException")=true:=by rw [J3,hT.hasType (X:="BaseException") (b:=true) rfl,Bool.or_true]
 have lk:=PySem.W.looks_mroIn (M:=model prog w) X qm
 have f:=tc_notTuple
 unfold excMatches
 repeat (first | with_reducible refine PySem.W.Looks.at lk ?_ | (with_reducible refine Jb he ?_; rw [hc]) | with_reducible refine Jb hB ?_ | (with_reducible refine wpAny_isSubtype_exc hB ?_; rw [cB]) | wp_step)
 exact hq
end
def Cx.wt (X:Cx) (pn:List (Addr×Obj)) (xe:Value→W1→Prop):Cx:={ X with pn:=pn,xe:=xe }
def Cx.hand (X:Cx) (a:Addr):Cx:={ X with A:=X.A.mark (some (.ref a)),calm:=false,xe:=fun _ _=>False }
section
variable {X:Cx} {pins ps:List (Addr×Obj)} {σ:St} {H:Hp} {s:W1} {a:Addr} {xe:Value→W1→Prop} {pn:List (Addr×Obj)}
theorem Cx.Ok.wt (o:X.Ok):(X.wt pn xe).Ok:=⟨o.mod,o.kind,o.glob,o.blt,o.above,o.inj,o.has,o.cab,o.hd,o.frames,o.stk,o.exf,o.bs,o.bsz,o.noex,o.exfs,o.funs,o.frf⟩
theorem Cx.Ok.hand (o:X.Ok):(X.hand a).Ok:=⟨o.mod,o.kind,o.glob,o.blt,o.above,o.inj,o.has,o.cab,fun z=>(by cases z),o.frames,o.stk,o.exf,o.bs,o.bsz,o.noex,o.exfs,o.funs,o.frf⟩
theorem Inv.wt (I:Inv X pins σ H s):Inv (X.wt (X.pn ++ pins) xe) [] σ H s:=⟨I.ok.wt,I.os,I.bare,I.base,I.loc,I.cell,I.free,I.freeC,fun p hp=>I.pin p (by simpa [Cx.wt] using hp),I.hok,I.len⟩
theorem Inv.unwt (o:X.Ok) (J:Inv (X.wt (X.pn ++ pins) xe) ps σ H s):Inv X pins σ H s:=⟨o,J.os,J.bare,J.base,J.loc,J.cell,J.free,J.freeC,fun p hp=>J.pin p (QR _ hp),J.hok,J.len⟩
theorem Inv.hand (I:Inv X pins σ H s):Inv (X.hand a) pins σ H s:=⟨I.ok.hand,I.os,I.bare,I.base,I.loc,I.cell,I.free,I.freeC,I.pin,I.hok,I.len⟩
theorem Inv.unhand (o:X.Ok) (J:Inv (X.hand a) pins σ H s):Inv X pins σ H s:=⟨o,J.os,J.bare,J.base,J.loc,J.cell,J.free,J.freeC,J.pin,J.hok,J.len⟩
theorem Apart.unwt (h:Apart (X.wt (X.pn ++ pins) xe) ps H a):Apart X pins H a:=⟨h.old,h.free,h.loc,h.cel,fun p hp=>h.pin p (QR _ hp)⟩
theorem SP.unwt (o:X.Ok) (h:SP (X.wt (X.pn ++ pins) xe) ps D f s):SP X pins D f s:=by
 cases f with
 | next=>obtain ⟨σ',H',J,q⟩:=h; exact ⟨σ',H',Inv.unwt o J,q⟩
 | brk=>obtain ⟨σ',H',J,q⟩:=h; exact ⟨σ',H',Inv.unwt o J,q⟩
 | cont=>obtain ⟨σ',H',J,q⟩:=h; exact ⟨σ',H',Inv.unwt o J,q⟩
 | ret u=>obtain ⟨v,σ',H',J,r,q⟩:=h; exact ⟨v,σ',H',Inv.unwt o J,r,q⟩
def z9R (X:Cx) (pins:List (Addr×Obj)) (H:Hp) (s:W1) (a C:Addr) (dx:Option Addr):Prop:=∃ T fl,Fly s.heap a C T dx fl∧(fl = .none∨∃ L,X.env.frame=some L∧fl=QE L)∧Apart X pins H a∧Apart X pins H T
def zaO (X:Cx) (ps:List (Addr×Obj)) (H:Hp) (s:W1) (a C:Addr) (dx:Option Addr):Prop:=(∃ vs sl a0,s.heap.get? a=some ⟨.ref C,dx,.fields vs,sl⟩∧vs[0]? = some a0∧vs[1]? = some .none)∧Apart X ps H a
theorem Inv.apart (I:Inv X pins σ H s) (hx:X.ex=[]) (e:s.heap.get? b=none) (f:H' b=none):Apart X pins H' b:=by
 refine ⟨(I.gone hx e).2,f,fun z=>?_,fun x c hc z=>?_,fun p hp z=>?_⟩
 ·obtain ⟨m,⟨o,_,_,ho,_⟩,_⟩:=I.loc
  rw [← z,e] at ho; cases ho
 ·obtain ⟨v,o,ho,_⟩:=I.cell x c hc
  rw [z,e] at ho; cases ho
 ·have:=(I.pin p hp).1
  rw [z,e] at this; cases this
section
variable {M:Model} {E:Value→W1→Prop} {C L:Addr} {dx:Option Addr} {Q:Unit→W1→Prop}
theorem Inv.noting (I:Inv X pins σ H s) (hst:X.stack=X.env :: X.outer) (hf:X.env.frame=some L) (hex:X.ex=[]) (hc:z9R X pins H s a C dx∨zaO X pins H s a C dx)
  (q:∀ h' T,Inv X pins σ H { s with heap:=h' }→Fly h' a C T dx (QE L)→Apart X pins H a→Apart X pins H T→Q () { s with heap:=h' }):Wa M X.A (QZ (.ref a) X.env) Q E s:=by
 have hfr:X.A.frames=some (X.env :: X.outer):=by rw [← hst]; exact I.ok.frames
 have hl:s.heap.FunFrames X.base (X.env :: X.outer):=by rw [← hst]; exact I.stack
 have mem:∀ {b},b ∈ frs X.stack→∃ o,s.heap.get? b=some o∧∀ vs,o.data≠.fields vs:=fun {b} z=>let ⟨_,o,g1,g2⟩:=I.stack.mem z; ⟨o,g1,g2⟩
 rcases hc with ⟨T,fl,f,hfl,pa,pT⟩ | ⟨⟨vs,sl,a0,e1,e2,e3⟩,pa⟩
 ·rcases hfl with rfl | ⟨L',e,rfl⟩
  ·refine z95 hfr hl hf f fun h' T' f' n=>?_
   refine q h' T' (I.noted2 pa pT (fun b o z m n1 n2=>n.keep b o z n1 (fun w=>n2 (by cases w; rfl)) (by rw [← hst]; exact m)) fun b o z m=>?_) f' pa (I.apart hex n.new (I.gone hex n.new).1)
   obtain ⟨o',g1,g2⟩:=mem m
   rw [z] at g1; cases g1
   exact n.frame b o z g2
  ·rw [hf] at e; cases e
   exact z7W hf f (q s.heap T I f pa pT)
 ·refine z7V hfr hl hf e1 e2 e3 fun h' T' f' n=>?_
  refine q h' T' (I.noted2 pa pa (fun b o z m n1 n2=>n.keep b o z n1 (fun w=>by cases w) (by rw [← hst]; exact m)) fun b o z m=>?_) f' pa (I.apart hex n.new (I.gone hex n.new).1)
  obtain ⟨o',g1,g2⟩:=mem m
  rw [z] at g1; cases g1
  exact n.frame b o z g2
theorem Inv.flight {A:Wn} {o:Option Addr} {fl:Value} (I:Inv X pins σ H s) (f:Fly s.heap a C T dx fl) (pT:Apart X pins H T)
  (q:∀ h',Inv X pins σ H { s with heap:=h' }→Fly h' a C T dx (o.elim .none fun f=>QE f)→Q () { s with heap:=h' }):Wa M A (setFlight (.ref a) o) Q E s :=
 z84 f fun h' f' k=>q h' (I.noted2 pT pT (fun b u z _ n _=>(k b n).trans z) fun b u z _=>by
  by_cases n:b=T
  ·subst n
   obtain ⟨vs,sl,oT,ts,a0,e1,e2,e3,e4,e5,e6,e7⟩:=f
   have:=I.stkFree b ‹_›
   obtain ⟨_,o',g1,g2⟩:=I.stack.mem ‹b ∈ frs X.stack›
   rw [e5] at g1; cases g1
   exact absurd e6 (g2 ts)
  ·exact ⟨u.slots,(k b n).trans z⟩) f'
end
def Ends.hand (D:Ends) (i:Nat):Ends where
 nx:=fun σ H=>D.nx (σ.set i none) H
 rt:=D.rt
 bk:=fun σ H=>D.bk (σ.set i none) H
 ct:=fun σ H=>D.ct (σ.set i none) H
theorem z8J {body:List Stmt} {x n:Str} {b₀:Stmt} {suite:List Stmt} {np hpos pos:Pos} {B:Addr} {i:Nat} {tb:(Addr→Option Addr→St→Hp→Prop)→TS} {th:Addr→Addr→TS} (hex:X.ex=[]) (hst:X.stack=X.env :: X.outer) (hf:X.env.frame=some X.env.locals)
  (hN:X.N.Nodup) (hi:X.N[i]? = some n) (hl:X.env.scope.names.lookup n=some .local) (hg:Gl X x) (hm:X.mg x=some (.ref B)) (qB:ExcC X.K B) (hdb:(x == ("__debug__" : Str))=false)
  (hbody:∀ (W:Addr→Option Addr→St→Hp→Prop) (pn:List (Addr×Obj)) (xe:Value→W1→Prop),(∀ ps σ H s a C dx,Inv (X.wt pn xe) ps σ H s→z9R (X.wt pn xe) ps H s a C dx∨zaO (X.wt pn xe) ps H s a C dx→W C dx σ H→xe (.ref a) s)→PSs (X.wt pn xe) body (tb W))
  (hhand:∀ C a,PSs (X.hand a) (b₀ :: suite) (th C a)) :
  PS X (.Try body [.ExceptHandler (some (.Name x np)) (some n) (b₀ :: suite) hpos] [] [] pos)
   (fun D σ H=>tb (fun C dx σ' H'=>PySem.W.mroIn X.K C (.ref B)=some true∧∃ v,(∀ x,v = .ref x→dx=some x)∧∀ a,H' a=none→th C a (D.hand i) (σ'.set i (some (.ref a))) (upd H' a (.ext (DV.excAt C v a)))) D σ H):=by
 intro pins s σ H D I hw
 refine wpAny_Try_except (WE (hbody _ (X.pn ++ pins) _ (fun ps σ1 H1 s1 a C dx J hc hW=>?_) [] s σ H D I.wt hw) (fun f s1 hs=>?_) fun e s1 he=>he)
 ·have J:Inv X pins σ1 H1 s1:=Inv.unwt I.ok J
  have hc:z9R X pins H1 s1 a C dx∨zaO X pins H1 s1 a C dx:=by
   rcases hc with ⟨T,fl,f,hfl,pa,pT⟩ | ⟨y,pa⟩
   ·exact .inl ⟨T,fl,f,hfl,pa.unwt,pT.unwt⟩
   ·exact .inr ⟨y,pa.unwt⟩
  refine J.noting hst hf hex hc fun h2 T J2 f2 pa pT=>?_
  refine J2.flight f2 pT fun h3 I3 f3=>?_
  obtain ⟨vs3,sl3,_,_,_,u3,_⟩:=id f3
  obtain ⟨qm,v,hv,qh⟩:=hW
  refine wpAny_handleBy_cons (codeAny_handlers_test ?_) (by intro z; cases z)
  have I3h:Inv (X.hand a) pins σ1 H1 { s1 with heap:=h3 }:=I3.hand
  refine z3M (X:=X.hand a) I3h hg hm ?_ hdb
  refine z9n I3.kIn qB qm u3 rfl ?_
  refine codeAny_handlers_suite_as (I3.flight f3 pT fun h4 I4 f4=>?_)
  obtain ⟨vs4,sl4,_,_,_,u1,_⟩:=f4
  have I5:Inv X pins σ1 (upd H1 a (.ext (DV.excAt C v a))) { s1 with heap:=h4 }:=I4.track pa ⟨⟨_,u1,rfl,fun x z=>hv x z,vs4,rfl⟩,⟨_,u1⟩,fun h1 h2 ⟨o,e1,e2⟩ k=>⟨o,k o e1,e2⟩⟩
  refine z3a (v:=.ref a) (u:=.ref a) (X:=X.hand a) I5.hand hN hi (.inl hl) rfl (fun s6 I6 _=>?_) (.inr hl)
  refine WE (hhand C a pins s6 _ _ (D.hand i) I6 (qh a pa.free)) (fun f s7 hs=>?_) (fun e s7 he=>he.elim)
  have un:∀ {σ':St} {H':Hp} {Q:Flow→W1→Prop},Inv (X.hand a) pins σ' H' s7→(∀ s8,Inv X pins (σ'.set i none) H' s8→Q f s8)→Wa (model X.prog X.w) X.A (do bindName X.env n .none; unbindBehindTheSuite X.env n hpos) (fun _ s8=>Q f s8) X.xe s7 :=
   fun {σ' H' Q} J7 k=>z7J (Inv.unhand I.ok J7) hN hi hl fun s8 J8=>k s8 J8
  cases f with
  | next=>obtain ⟨σ',H',J7,q⟩:=hs; exact un J7 fun s8 J8=>⟨_,_,J8,q⟩
  | brk=>obtain ⟨σ',H',J7,q⟩:=hs; exact un J7 fun s8 J8=>⟨_,_,J8,q⟩
  | cont=>obtain ⟨σ',H',J7,q⟩:=hs; exact un J7 fun s8 J8=>⟨_,_,J8,q⟩
  | ret u=>obtain ⟨v,σ',H',J7,r,q⟩:=hs; exact un J7 fun s8 J8=>⟨v,_,_,J8,r,q⟩
 ·have hs:=SP.unwt I.ok hs
  cases f with
  | next=>exact wpAny_execs_nil hs
  | brk=>exact hs
  | cont=>exact hs
  | ret u=>exact hs
end
def XOk (X:Cx) (W:Addr→Option Addr→St→Hp→Prop):Prop:=∀ ps σ H s a C dx,Inv X ps σ H s→z9R X ps H s a C dx∨zaO X ps H s a C dx→W C dx σ H→X.xe (.ref a) s
section
variable {X:Cx} {pins:List (Addr×Obj)} {σ:St} {H:Hp} {s:W1} {b:Addr}
theorem Inv.afterX (I:Inv X pins σ H s) (hx:X.ex=[]) (h:CXe X.prog X.w X.stack H s E v s'):∃ a C dx H',v = .ref a∧Inv X pins σ H' s'∧z9R X pins H' s' a C dx∧E (.ref C) dx H':=by
 obtain ⟨a,C,T,dx,H',rfl,ho,hb,un,hok,fl,na,nT,fa,fT,q⟩:=h
 exact ⟨a,C,dx,H',rfl,I.call' (ch:=[]) ho un hok hb (fun b z=>absurd z (by simp)),⟨T,.none,fl,.inl rfl,I.apart hx na fa,I.apart hx nT fT⟩,q⟩
end
section
variable {X:Cx} {k:Nat} {f:Addr} {fd:Wx} {ps:List Str} {sp:Sp} {x:Str} {p pos:Pos} {e:Expr} {es:List Expr} {t:TA} {W:Addr→Option Addr→St→Hp→Prop}
theorem z7q (F:FnOk X.prog X.w X.K X.mg X.base (CXe X.prog X.w) k f fd ps sp) (hr:Room k X.A) (hex:X.ex=[]) (hg:Gl X x) (hm:X.mg x=some (.ref f)) (hk:WX X.K (.ref f)=true) (hb:Binds X.K fd ps []) (hx:XOk X W)
  (ha:PA X (e :: es) t) (hdb:(x == ("__debug__" : Str))=false:=by decide) (he:W5 (e :: es) X.env=(false,eval e X.env) :: W5 es X.env:=by rfl) (hpl:(WK pos (W5 es X.env)).any (·.1)=false:=by rfl) :
  PE X (.Call (.Name x p) (e :: es) [] pos) (fun σ H Q=>t σ H fun vs H1=>sp vs H1 Q (fun c dx H'=>∃ C,c = .ref C∧W C dx σ H')):=by
 intro pins s σ H Q I h
 refine QF (z3M I hg hm ?_ hdb)
 refine PySem.W.callWith_K (h₀:=X.base) I.ok.mod.kin hk (thn (ha pos pins s σ H _ I h) fun us s1 ⟨vs,H1,I1,r,q⟩=>⟨I1.kIn,?_⟩) he hpl
 have hl:(us ++ []).length=ps.length:=by rw [WH,← r.length]; exact F.len _ _ _ _ q
 refine wpAny_call (codeAny_mono (F.run X.A X.stack s1 H1 ⟨us,[]⟩ us vs Q _ hr I1.env0 (by have:=hb s1 us I1.kIn hl; rwa [WH] at this) r q) fun r s' hq=>?_)
 cases r with
 | error e =>
  obtain ⟨a,C,dx,H',ea,I2,co,C',hC,hW⟩:=I1.afterX (E:=fun c dx H'=>∃ C,c = .ref C∧W C dx σ H') (v:=e) (s':=s') hex hq
  cases hC
  subst ea
  exact hx pins σ H' s' a C dx I2 (.inl co) hW
 | ok fl =>
  cases fl with
  | ret u=>exact I1.after hq
  | next=>exact False.elim hq
  | brk=>exact False.elim hq
  | cont=>exact False.elim hq
end
section
variable {P:Wi} {w:Wp} {K:W0} {mg:Str→Option Value} {base:Heap} {N:List Str} {qual:Str} {scope:Scope} {f:Addr} {cd:Value} {A:Wn} {outer:List Env} {s₀:W1} {H₀:Hp} {E:XK}
theorem zbl {W:Addr→Option Addr→St→Hp→Prop} (hW:∀ C dx σ H,W C dx σ H→E (.ref C) dx H):XOk (cxOf (CXe P w) P w K mg base N qual scope f cd A outer s₀ H₀ E) W:=fun ps σ H s a C dx I hc q=>by
 show Wa _ _ (leaving _ _) _ _ _
 unfold leaving
 refine W2 (I.noting rfl rfl rfl hc fun h2 T I2 f2 pa pT=>I2.flight f2 pT fun h3 I3 f3=>?_)
 exact ⟨a,C,T,dx,H,rfl,I3.os,I3.bare,I3.base,I3.hok,f3,pa.old,pT.old,pa.free,pT.free,hW C dx σ H q⟩
end
def Cx.loop (X:Cx):Cx:={ X with xe:=notedBy (model X.prog X.w) X.A X.env (cameBackBy (model X.prog X.w) X.A X.env X.xe) }
section
variable {X:Cx} {pins ps:List (Addr×Obj)} {σ:St} {H:Hp} {s:W1}
theorem Cx.Ok.loop (o:X.Ok):X.loop.Ok:=⟨o.mod,o.kind,o.glob,o.blt,o.above,o.inj,o.has,o.cab,o.hd,o.frames,o.stk,o.exf,o.bs,o.bsz,o.noex,o.exfs,o.funs,o.frf⟩
theorem Inv.loop (I:Inv X pins σ H s):Inv X.loop pins σ H s:=⟨I.ok.loop,I.os,I.bare,I.base,I.loc,I.cell,I.free,I.freeC,I.pin,I.hok,I.len⟩
end
end L2
namespace DV
open PySem PySem.Spec PyProof.Rows L2
section
variable {c:Fc} {σ σ':St} {δ δ':Dl} {H H':Hp} {g:Xc→Dl→Prop}
theorem Ok.xc (k:Ok c σ δ H):Ok { c with xc:=g } σ δ H:=⟨k.keep,k.bd,k.ith,k.len,k.slot,k.own,k.inj,k.pinned⟩
theorem Ok.unxc (k:Ok { c with xc:=g } σ δ H):Ok c σ δ H:=⟨k.keep,k.bd,k.ith,k.len,k.slot,k.own,k.inj,k.pinned⟩
theorem Ok.since (h0:c.H₀=H) (k:Ok c σ δ H) (hI:∀ a,c.I a→Own σ δ a) (k':Ok c σ' δ' H'):Aft c σ δ H σ' δ' H':=by
 refine ⟨k',fun a o e n=>k'.keep a o (by rw [h0]; exact e) fun z=>n (hI a z),fun a ⟨i,d,e1,e2⟩=>?_,fun a o e=>?_⟩
 ·obtain ⟨b,e3,_,q,_⟩:=k'.own i d e1
  rw [e2] at e3; cases e3
  rcases q with q | q
  ·exact .inl (hI a q)
  ·rw [h0] at q; exact .inr q
 ·by_cases z:c.I a
  ·exact k'.ith a z
  ·exact ⟨o,k'.keep a o (by rw [h0]; exact e) z⟩
end
def wD (mg:Str→Option Value) (c:Fc) (C:Addr) (dx:Option Addr) (σ:St) (H:Hp):Prop:=∃ (x:Xc) (δ:Dl) (v:V),mg (toS x.cls)=some (.ref C)∧Ok c σ δ H∧Rep H (Av c σ δ) v x.flds∧(∀ y,v = .ref y→dx=some y)∧c.xc x δ
def z7E (x:Tx):DS:=fun δ=>.exc ⟨x,.non⟩ δ
theorem z9V {X:Cx} {c:Fc} {x:Str} {C:Addr} {np cpos pos:Pos} (y:Tx) (q:ExcC X.K C) (hc:X.calm=true) (hg:Gl X x) (hm:X.mg x=some (.ref C)) (hx:XOk X (wD X.mg c)) (hy:x=toS y:=by decide +kernel) (hd:(x == ("__debug__" : Str))=false:=by decide) (hex:X.ex=[]:=by rfl) :
  SS X c (.Raise (some (.Call (.Name x np) [] [] cpos)) none pos) (z7E y) :=
 PS.weak (z8K (W:=fun σ H=>wD X.mg c C none σ H) q hc hg hm hd fun ps σ H s h' e I w hm=>by
  obtain ⟨t,ht,_⟩:=hm.there
  have I1:Inv X ps σ H { s with heap:=h' }:=I.kept (t':=s.toks) hm.keeps
  exact hx ps σ H _ e C none I1 (.inr ⟨⟨_,_,_,ht,rfl,rfl⟩,I.apart hex hm.new (I.gone hex hm.new).1⟩) w) fun D σ H ⟨δ,k,w⟩=>⟨⟨y,.non⟩,δ,.non,by rw [← hy]; exact hm,k,.non,fun _ z=>(by cases z),w⟩
abbrev DX:=List S→Option ((S×List S) ⊕ (Xc×List S))
def runX (f:DS) (n:Nat) (ss:List S):Option ((S×List S) ⊕ (Xc×List S)):=match f (z0h n ss) with
 | .ok fl δ=>(z0M fl).bind fun r=>(z0e 0 ss δ).map fun outs=>.inl (r,outs)
 | .exc x δ=>(z0e 0 ss δ).map fun outs=>.inr (x,outs)
 | .stuck=>none
def spX (mg:Str→Option Value) (n:Nat) (G:DX):Sp:=fun vs H Q E=>∃ ss B,vs.length=n∧Ok ⟨H,B,z0v 0 ss vs,fun _ _=>False⟩ (z0W vs) (z0Z ss) H∧∃ y,G ss=some y∧match y with
 | .inl (r,outs)=>∀ v H',Aft ⟨H,B,z0v 0 ss vs,fun _ _=>False⟩ (z0W vs) (z0Z ss) H (z0W vs) (z0Z outs) H'→RepS ⟨H,B,z0v 0 ss vs,fun _ _=>False⟩ (z0W vs) (z0Z outs) H H' v r→Q v H'
 | .inr (x,outs)=>∀ C dx v H',mg (toS x.cls)=some (.ref C)→Aft ⟨H,B,z0v 0 ss vs,fun _ _=>False⟩ (z0W vs) (z0Z ss) H (z0W vs) (z0Z outs) H'→Rep H' (Av ⟨H,B,z0v 0 ss vs,fun _ _=>False⟩ (z0W vs) (z0Z outs)) v x.flds→(∀ y,v = .ref y→dx=some y)→E (.ref C) dx H'
def KFnX (P:Wi) (w:Wp) (K:W0) (mg:Str→Option Value) (base:Heap) (k:Nat) (x:Str) (n:Nat) (G:DX):Prop :=
 ∃ (f:Addr) (fd:Wx) (ps:List Str),mg x=some (.ref f)∧WX K (.ref f)=true∧Binds K fd ps []∧FnOk P w K mg base (CXe P w) k f fd ps (spX mg n G)
theorem zag (h:(⟨H,B,z0v 0 ss vs,g⟩:Fc).I a):Own (z0W vs) (z0Z ss) a:=by
 obtain ⟨i,hi⟩:=h
 obtain ⟨j,d,_,e1,e2⟩:=z1k hi
 exact ⟨j,d,someS_get.mpr e1,some'_get.mpr e2⟩
section
variable {P:Wi} {w:Wp} {K:W0} {mg:Str→Option Value} {base:Heap}
theorem Aft.unxc (x:Aft { c with xc:=g } σ δ H σ' δ' H'):Aft c σ δ H σ' δ' H':=⟨x.ok.unxc,x.keep,x.own,x.there⟩
theorem RepS.unxc (h:RepS { c with xc:=g } σ δ Hs H v r):RepS c σ δ Hs H v r:=by
 cases r with
 | pure d=>exact h
 | own d =>
  obtain ⟨a,e,o,n,f,k,q⟩:=h
  exact ⟨a,e,o,n,f,⟨k.keep,k.bd,k.ith,k.len,k.slot,k.own,k.inj,k.pinned⟩,q⟩
theorem zdI {x qual:Str} {st:Stmt} {f:Addr} {fd:Wx} {N ps:List Str} {k:Nat} {np:List Nat} {fb:DS} {G:DX} (F:Fun K x qual st f fd) (S:FnScope N ps (z07 st))
  (hbody:∀ (c:Fc) (cdv:Value) (A:Wn) (outer:List Env) (s:W1) (H:Hp) (E:XK),Room k (A.deeper (QH qual (z07 st) s.heap.objs.size f cdv))→Np c np →
   XOk (cxOf (CXe P w) P w K mg base N qual (z07 st) f cdv A outer s H E) (wD mg c)→SSs (cxOf (CXe P w) P w K mg base N qual (z07 st) f cdv A outer s H E) c (z1h st) fb)
  (hG:∀ ss y,G ss=some y→ioOk np 0 ss=true∧runX fb N.length ss=some y):FnOk P w K mg base (CXe P w) (k + 1) f fd ps (spX mg ps.length G):=by
 obtain ⟨oc,od,kV,doc,pm,an,cdv,ct,osl,rfl,lk,hcd⟩:=F.ex
 refine zdL lk hcd S (fun vs H Q E h=>?_) fun A outer s H vs Q E hr h=>?_
 ·obtain ⟨ss,B,hl,_⟩:=h
  exact hl
 ·obtain ⟨ss,B,hl,ok,y,hg,q⟩:=h
  obtain ⟨hio,hrun⟩:=hG ss _ hg
  have hvs:ss.length=vs.length:=by have:=ok.len; simpa using this
  let g:Xc→Dl→Prop:=fun x δ'=>∃ outs,z0e 0 ss δ'=some outs∧y = .inr (x,outs)
  have np':Np ⟨H,B,z0v 0 ss vs,g⟩ np:=fun p hp=>by
   obtain ⟨j,d,e,h1,_⟩:=z1k (i:=p.1) (a:=p.2) hp
   rw [e]
   exact z5J hio h1
  have hst:z2A N vs=z0W vs ++ W9 (N.length - ss.length) none:=by rw [hvs]; rfl
  have ok0:Ok ⟨H,B,z0v 0 ss vs,fun _ _=>False⟩ (z2A N vs) (z0h N.length ss) H:=by rw [hst]; exact ok.ext _
  have wish:∀ C dx σ' H',wD mg ⟨H,B,z0v 0 ss vs,g⟩ C dx σ' H'→E (.ref C) dx H':=fun C dx σ' H' ⟨z,δ',v,hm,k',rv,hv,outs,ho,hy⟩=>by
   rw [hy] at q
   have k1:Ok ⟨H,B,z0v 0 ss vs,fun _ _=>False⟩ σ' δ' H':=⟨k'.keep,k'.bd,k'.ith,k'.len,k'.slot,k'.own,k'.inj,k'.pinned⟩
   have a:Aft ⟨H,B,z0v 0 ss vs,fun _ _=>False⟩ (z0W vs ++ W9 (N.length - ss.length) none) (z0Z ss ++ W9 (N.length - ss.length) none) H σ' δ' H' :=
    Ok.since rfl (by rw [hst] at ok0; exact ok0) (fun a z=>Own.ext.mpr (zag z)) k1
   exact q C dx v H' hm (z6n rfl ok a ho).1 ((z6n rfl ok a ho).2 v (.pure z.flds) rv) hv
  refine ⟨tDS ⟨H,B,z0v 0 ss vs,g⟩ fb,hbody ⟨H,B,z0v 0 ss vs,g⟩ cdv A outer s H E hr np' (zbl wish),z0h N.length ss,⟨ok0.keep,ok0.bd,ok0.ith,ok0.len,ok0.slot,ok0.own,ok0.inj,ok0.pinned⟩,?_⟩
  unfold runX at hrun
  unfold z2B
  cases e:fb (z0h N.length ss) with
  | stuck=>rw [e] at hrun; cases hrun
  | exc x δx =>
   rw [e] at hrun
   simp only at hrun
   cases eo:z0e 0 ss δx with
   | none=>rw [eo] at hrun; cases hrun
   | some os =>
    rw [eo] at hrun
    cases hrun
    exact ⟨os,eo,rfl⟩
  | ok fl δ' =>
   rw [e] at hrun
   show ∀ σ' H',Aft _ (z2A N vs) (z0h N.length ss) H σ' δ' H'→fin _ _ σ' δ' H' fl
   intro σ' H' a
   rw [hst] at a
   have k1:=a.ok
   have a1:Aft ⟨H,B,z0v 0 ss vs,fun _ _=>False⟩ (z0W vs ++ W9 (N.length - ss.length) none) (z0h N.length ss) H σ' δ' H':=⟨⟨k1.keep,k1.bd,k1.ith,k1.len,k1.slot,k1.own,k1.inj,k1.pinned⟩,a.keep,a.own,a.there⟩
   simp only at hrun
   cases fl with
   | brk=>cases hrun
   | cont=>cases hrun
   | next =>
    simp only [z0M,WD] at hrun
    cases eo:z0e 0 ss δ' with
    | none=>rw [eo] at hrun; cases hrun
    | some os =>
     rw [eo] at hrun
     cases hrun
     obtain ⟨l1,l2⟩:=z6n rfl ok a1 eo
     exact q .non H' l1 .non
   | ret r' =>
    simp only [z0M,WD] at hrun
    cases eo:z0e 0 ss δ' with
    | none=>rw [eo] at hrun; cases hrun
    | some os =>
     rw [eo] at hrun
     cases hrun
     obtain ⟨l1,l2⟩:=z6n rfl ok a1 eo
     exact fun v rv=>q v H' l1 (l2 v _ (RepS.unxc (c:=⟨H,B,z0v 0 ss vs,fun _ _=>False⟩) (g:=g) rv))
theorem zce {x qual:Str} {st:Stmt} {f:Addr} {fd:Wx} {N ps:List Str} {k:Nat} {np:List Nat} {fb:DS} {G:DX} (F:Fun K x qual st f fd) (hm:mg x=some (.ref f)) (hb:Binds K fd ps []) (S:FnScope N ps (z07 st))
  (hbody:∀ (c:Fc) (cdv:Value) (A:Wn) (outer:List Env) (s:W1) (H:Hp) (E:XK),Room k (A.deeper (QH qual (z07 st) s.heap.objs.size f cdv))→Np c np →
   XOk (cxOf (CXe P w) P w K mg base N qual (z07 st) f cdv A outer s H E) (wD mg c)→SSs (cxOf (CXe P w) P w K mg base N qual (z07 st) f cdv A outer s H E) c (z1h st) fb)
  (hG:∀ ss y,G ss=some y→ioOk np 0 ss=true∧runX fb N.length ss=some y):KFnX P w K mg base (k + 1) x ps.length G:=⟨f,fd,ps,hm,F.kp,hb,zdI F S hbody hG⟩
end
def zbZ:(S×List S) ⊕ (Xc×List S)→List S
 | .inl y=>y.2
 | .inr y=>y.2
def z5m (G:DX):Prop:=∀ ss y,G ss=some y→∀ (j:Nat),(∀ d,ss[j]? = some (.own d)→∃ d',(zbZ y)[j]? = some (.own d'))∧∀ d,ss[j]? = some (.pure d)→∃ d',(zbZ y)[j]? = some (.pure d')
theorem z8X {ss os:List S} {δ:Dl} (e:z0e 0 ss δ=some os) (j:Nat):(∀ d,ss[j]? = some (.own d)→∃ d',os[j]? = some (.own d'))∧∀ d,ss[j]? = some (.pure d)→∃ d',os[j]? = some (.pure d'):=by
 obtain ⟨h1,h2⟩:=z4v e
 refine ⟨fun d ed=>?_,fun d ed=>?_⟩
 ·rcases h2 j _ ed with ⟨d',z,_⟩ | ⟨d',d'',_,_,z⟩
  ·cases z
  ·exact ⟨d'',z⟩
 ·rcases h2 j _ ed with ⟨d',z,z'⟩ | ⟨d',d'',z,_⟩
  ·exact ⟨d',z'⟩
  ·cases z
theorem z8v (h:runX fb n ss=some y):∃ δ,z0e 0 ss δ=some (zbZ y):=by
 unfold runX at h
 cases e:fb (z0h n ss) with
 | stuck=>rw [e] at h; cases h
 | exc x δ =>
  rw [e] at h
  simp only at h
  cases e2:z0e 0 ss δ with
  | none=>rw [e2] at h; cases h
  | some os=>rw [e2] at h; cases h; exact ⟨δ,e2⟩
 | ok fl δ =>
  rw [e] at h
  simp only at h
  cases e1:z0M fl with
  | none=>rw [e1] at h; cases h
  | some r =>
   rw [e1] at h
   simp only [WD] at h
   cases e2:z0e 0 ss δ with
   | none=>rw [e2] at h; cases h
   | some os=>rw [e2] at h; cases h; exact ⟨δ,e2⟩
def gOfX (np:List Nat) (n:Nat) (b:DS):DX:=fun ss=>if ioOk np 0 ss then runX b n ss else none
theorem z7B (h:gOfX np n b ss=some y):ioOk np 0 ss=true∧runX b n ss=some y:=by
 unfold gOfX at h
 split at h
 ·exact ⟨by assumption,h⟩
 ·cases h
theorem z83 {np:List Nat} {n:Nat} {b:DS}:z5m (gOfX np n b):=fun ss y h j=>by
 obtain ⟨δ,e⟩:=z8v (z7B h).2
 exact z8X e j
def z41 (G:DX) (as:List Ak):DE:=fun δ=>if (ios as).all (z0p δ) && ndup (ios as) then (evX as δ).bind fun ds δ1=>match mkA as ds δ1 with
  | none=>.stuck
  | some ss=>match G ss with
   | none=>.stuck
   | some (.inl (r,outs))=>.ok r (putA as outs δ1)
   | some (.inr (x,outs))=>.exc x (putA as outs δ1)
 else .stuck
section
variable {X:Cx} {c:Fc} {e:Expr} {es:List Expr} {as:List Ak} {k n:Nat} {x:Str} {G:DX} {pp pos:Pos}
theorem z8b (hK:z5m G) (hl:as.length=n) (h:tD c (z41 G as) σ H Q):tX c as σ H fun vs H1=>spX X.mg n G vs H1 Q (fun c' dx H'=>∃ C,c' = .ref C∧wD X.mg c C dx σ H'):=by
 obtain ⟨δ,kk,q⟩:=h
 unfold z41 at q
 split at q
 ·rename_i hc
  rw [Wg] at hc
  have nd:=z2U hc.2
  rw [z04] at q
  refine ⟨δ,kk,fun i hi=>?_,z01 q fun ds δ1 q1 vs H1 a1 r1=>?_⟩
  ·have:=Q4.mp hc.1 i (ios_mem.mpr hi)
   unfold z0p at this
   split at this
   ·rename_i d ed
    exact z2e kk ed
   ·cases this
  ·cases em:mkA as ds δ1 with
   | none=>rw [em] at q1; exact q1.elim
   | some ss =>
    rw [em] at q1
    simp only at q1
    cases eg:G ss with
    | none=>rw [eg] at q1; exact q1.elim
    | some y =>
     rw [eg] at q1
     have hin:=z5S a1.ok r1 em nd
     obtain ⟨m1,m2,_⟩:=z5e r1 em
     have g2:=hK ss y eg
     refine ⟨ss,_,by rw [← m2]; exact hl,hin,y,eg,?_⟩
     cases y with
     | inl y =>
      obtain ⟨r,outs⟩:=y
      intro v H2 a2 r2
      obtain ⟨o1,o2⟩:=z3y a1.ok r1 em nd rfl a2 (fun j d ed=>(g2 j).1 d ed) fun j d ed=>(g2 j).2 d ed
      exact q1 v H2 (a1.trans o1) (RepS.back (o2 v r r2) a1)
     | inr y =>
      obtain ⟨z,outs⟩:=y
      intro C dx v H2 hm a2 rv hv
      obtain ⟨o1,o2⟩:=z3y a1.ok r1 em nd rfl a2 (fun j d ed=>(g2 j).1 d ed) fun j d ed=>(g2 j).2 d ed
      exact ⟨C,rfl,z,putA as outs δ1,v,hm,o1.ok,o2 v (.pure z.flds) rv,hv,q1⟩
 ·exact q.elim
theorem za4 (F:KFnX X.prog X.w X.K X.mg X.base k x n G) (hK:z5m G) (hr:Room k X.A) (hex:X.ex=[]) (hx:XOk X (wD X.mg c)) (hg:Gl X x) (ha:SX X c (e :: es) as) (hl:as.length=n) (hdb:(x == ("__debug__" : Str))=false:=by decide)
  (he:W5 (e :: es) X.env=(false,eval e X.env) :: W5 es X.env:=by rfl) (hpl:(WK pos (W5 es X.env)).any (·.1)=false:=by rfl):SE X c (.Call (.Name x pp) (e :: es) [] pos) (z41 G as):=by
 obtain ⟨f,fd,ps,hm,hk,hb,ok⟩:=F
 exact PE.weak (z7q ok hr hex hg hm hk hb hx ha hdb he hpl) fun σ H Q h=>z8b hK hl h
end
def zao (δ:Dl):Bool:=δ.all fun
 | some (.own _)=>false
 | _=>true
def unset (i:Nat):Rs Fl→Rs Fl
 | .ok fl δ=>.ok fl (δ.set i none)
 | r=>r
def dTry (ce:Tx→Nat) (ys:List Tx) (i:Nat) (fb fh:DS):DS:=fun δ=>if zao δ then match fb δ with
  | .exc x δ'=>if ys.contains x.cls && decide (i < δ'.length) then unset i (fh (δ'.set i (some (.pure (.exc (ce x.cls) x.flds))))) else .stuck
  | r=>r
 else .stuck
section
variable {c:Fc} {σ σ':St} {δ δ':Dl} {H H':Hp}
theorem zdt (h:Np c []):c.pin=[]:=by
 cases e:c.pin with
 | nil=>rfl
 | cons p r =>
  have:=h p (by rw [e]; exact Wo)
  simp at this
theorem Aft.unset (x:Aft c σ₀ δ₀ H₀ σ δ H) (hp:c.pin=[]) (i:Nat):Aft c σ₀ δ₀ H₀ (σ.set i none) (δ.set i none) H:=by
 have k:=x.ok
 have back:∀ {α:Type} {l:List (Option α)} {j:Nat} {v:α},(l.set i none)[j]? = some (some v)→l[j]? = some (some v)∧i≠j:=fun {α l j v} e=>by
  by_cases hj:i=j
  ·subst hj
   rw [WA] at e
   simp at e
  ·rw [W4 hj] at e
   exact ⟨e,hj⟩
 have own:∀ a,Own (σ.set i none) (δ.set i none) a→Own σ δ a:=fun a ⟨j,d,e1,e2⟩=>⟨j,d,(back e1).1,(back e2).1⟩
 have av:∀ a,Av c (σ.set i none) (δ.set i none) a→Av c σ δ a:=fun a z=>z.elim .inl fun z=>.inr (own a z)
 refine ⟨⟨k.keep,k.bd,k.ith,by simp [k.len],fun j d e=>?_,fun j d e=>?_,fun j1 j2 a d d' e1 e2 e3 e4=>k.inj j1 j2 a d d' (back e1).1 (back e2).1 (back e3).1 (back e4).1,fun p hm=>by rw [hp] at hm; simp at hm⟩,x.keep,fun a z=>x.own a (own a z),x.there⟩
 ·obtain ⟨e',n⟩:=back e
  obtain ⟨v,e1,r⟩:=k.slot j d e'
  exact ⟨v,by rw [W4 n]; exact e1,r.anti fun a z=>.inl (av a z)⟩
 ·obtain ⟨e',n⟩:=back e
  obtain ⟨a,e1,r,q⟩:=k.own j d e'
  exact ⟨a,by rw [W4 n]; exact e1,r.anti fun a z=>.inl (av a z),q⟩
end
section
variable {c:Fc} {σ σ':St} {δ δ':Dl} {H H':Hp} {B':Addr→Prop} {g:Xc→Dl→Prop}
theorem Ok.inTry (k:Ok c σ δ H) (h:zao δ=true):Ok ⟨H,c.B,[],g⟩ σ δ H :=
 ⟨fun _ _ e _=>e,k.bd,fun a ⟨i,z⟩=>(by simp at z),k.len,k.slot,fun i d e=>((by have:=Q4.mp h _ (Wv e); cases this)),k.inj,fun p z=>(by simp at z)⟩
theorem Ok.outTry (k:Ok c σ δ H) (hp:c.pin=[]) (k':Ok ⟨H,B',[],g⟩ σ' δ' H'):Ok { c with B:=B' } σ' δ' H':=by
 have nI:∀ a,¬ c.I a:=fun a ⟨i,z⟩=>by rw [hp] at z; simp at z
 have nI':∀ a,¬ (⟨H,B',[],g⟩:Fc).I a:=fun a ⟨i,z⟩=>by simp at z
 refine ⟨fun a o e n=>k'.keep a o (k.keep a o e n) (nI' a),k'.bd,fun a z=>absurd z (nI a),k'.len,k'.slot,fun i d e=>?_,k'.inj,fun p z=>by rw [show ({ c with B:=B' }:Fc).pin=c.pin from rfl,hp] at z; simp at z⟩
 obtain ⟨a,e1,r,q,nb⟩:=k'.own i d e
 refine ⟨a,e1,r,.inr ?_,nb⟩
 rcases q with q | q
 ·exact absurd q (nI' a)
 ·exact k.fresh₀ q
theorem Aft.outTry (k:Ok c σ δ H) (hp:c.pin=[]) (x:Aft ⟨H,c.B,[],g⟩ σ δ H σ' δ' H'):Aft c σ δ H σ' δ' H':=⟨k.outTry hp x.ok,x.keep,x.own,x.there⟩
theorem RepS.outTry (k:Ok c σ δ H) (hp:c.pin=[]) (h:RepS ⟨H,c.B,[],g⟩ σ' δ' H H' v r):RepS c σ' δ' c.H₀ H' v r:=by
 cases r with
 | pure d=>exact h
 | own d =>
  obtain ⟨a,e,o,n,f,k',q⟩:=h
  exact ⟨a,e,o,n,k.fresh₀ f,k.outTry hp k',k.fresh₀ f⟩
theorem RepS.unset (hp:c.pin=[]) (i:Nat) (h:RepS c σ δ Hs H v r):RepS c (σ.set i none) (δ.set i none) Hs H v r:=by
 have own:∀ a,Own (σ.set i none) (δ.set i none) a→Own σ δ a:=fun a ⟨j,d,e1,e2⟩=>by
  have back:∀ {α:Type} {l:List (Option α)} {v:α},(l.set i none)[j]? = some (some v)→l[j]? = some (some v):=fun {α l v} e=>by
   by_cases hj:i=j
   ·subst hj; rw [WA] at e; simp at e
   ·rw [W4 hj] at e; exact e
  exact ⟨j,d,back e1,back e2⟩
 cases r with
 | pure d=>exact Rep.anti h fun a z=>.inl (z.elim .inl fun z=>.inr (own a z))
 | own d =>
  obtain ⟨a,e,o,n,f,k,q⟩:=h
  exact ⟨a,e,o.anti fun b z=>.inl (z.elim .inl fun z=>.inr (own b z)),n,f,(Aft.unset (Aft.refl k) hp i).ok,q⟩
end
theorem zcA (hex:X.ex=[]) (hnp:Np c []) (hst:X.stack=X.env :: X.outer) (hf:X.env.frame=some X.env.locals)
  (hN:X.N.Nodup) (hi:X.N[i]? = some n) (hl:X.env.scope.names.lookup n=some .local) (hg:Gl X x) (hm:X.mg x=some (.ref B)) (qB:ExcC X.K B)
  (hys:∀ y ∈ ys,X.mg (toS y)=some (.ref (ce y))∧PySem.W.mroIn X.K (ce y) (.ref B)=some true)
  (hb:∀ (c':Fc) (pn:List (Addr×Obj)) (xe:Value→W1→Prop),Np c' []→XOk (X.wt pn xe) (wD X.mg c')→SSs (X.wt pn xe) c' body fb) (hh:∀ a,SSs (X.hand a) c (b₀ :: suite) fh) (hdb:(x == ("__debug__" : Str))=false:=by decide) :
  SS X c (.Try body [.ExceptHandler (some (.Name x np)) (some n) (b₀ :: suite) hpos] [] [] pos) (dTry ce ys i fb fh):=by
 have hp:=zdt hnp
 refine PS.weak (z8J (i:=i) (B:=B) (th:=fun _ _=>tDS c fh)
  (tb:=fun W D σ H=>tDS ⟨H,c.B,[],fun z δ'=>∀ σ' H',Ok ⟨H,c.B,[],fun _ _=>False⟩ σ' δ' H'→∀ C dx v,X.mg (toS z.cls)=some (.ref C)→Rep H' (Av ⟨H,c.B,[],fun _ _=>False⟩ σ' δ') v z.flds→(∀ y,v = .ref y→dx=some y)→W C dx σ' H'⟩ fb D σ H) hex hst hf hN hi hl hg hm qB hdb
  (fun W pn xe acc pins s σ H D I hw=>hb _ pn xe (fun p z=>(by simp at z)) (fun ps σ' H' s' a C dx J co ⟨y,δ',v,hy,k',rv,hv,w'⟩=>acc ps σ' H' s' a C dx J co (w' σ' H' ⟨k'.keep,k'.bd,k'.ith,k'.len,k'.slot,k'.own,k'.inj,k'.pinned⟩ C dx v hy rv hv)) pins s σ H D I hw)
  (fun _ a=>hh a)) fun D σ H ⟨δ,k,q⟩=>?_
 unfold dTry at q
 split at q
 ·rename_i hno
  refine ⟨δ,k.inTry hno,?_⟩
  unfold z2B at q ⊢
  cases e:fb δ with
  | stuck=>rw [e] at q; exact q.elim
  | ok fl δ' =>
   rw [e] at q
   intro σ' H' a
   have f0:=q σ' H' (Aft.outTry k hp a)
   cases fl with
   | next=>exact f0
   | brk=>exact f0
   | cont=>exact f0
   | ret r=>exact fun v rv=>f0 v (RepS.outTry k hp rv)
  | exc z δ' =>
   rw [e] at q
   simp only at q
   split at q
   ·rename_i hc
    simp only [Wg,decide_eq_true_eq] at hc
    obtain ⟨hy,hlt⟩:=hc
    intro σ' H' k' C dx v hC rv hv
    obtain ⟨y1,y2⟩:=hys z.cls (by simpa using hy)
    rw [y1] at hC
    cases hC
    refine ⟨y2,v,hv,fun a ha=>?_⟩
    have A1:Aft c σ δ H σ' δ' H':=Aft.outTry k hp (Ok.since (c:=⟨H,c.B,[],fun _ _=>False⟩) rfl (k.inTry hno) (fun a ⟨j,z⟩=>by simp at z) k')
    have A2:=A1.trans (Aft.alloc A1.ok ha (.ext (excAt (ce z.cls) v a)))
    have A3:=Ok.set (i:=i) (v:=.ref a) (r:=.pure (.exc (ce z.cls) z.flds)) A2 (.exc (A1.ok.nav ha) z0B (Rep.aft rv (Aft.alloc A1.ok ha _))) (fun p zz=>by rw [hp] at zz; simp at zz)
    refine ⟨δ'.set i (some (.pure (.exc (ce z.cls) z.flds))),A3.ok,?_⟩
    unfold z2B
    generalize fh (δ'.set i (some (.pure (.exc (ce z.cls) z.flds))))=r at q
    cases r with
    | stuck=>exact q.elim
    | exc z' δ4=>exact q
    | ok fl δ4 =>
     intro σ4 H4 A4
     have f0:=q (σ4.set i none) H4 (Aft.unset (A3.trans A4) hp i)
     cases fl with
     | next=>exact f0
     | brk=>exact f0
     | cont=>exact f0
     | ret r=>exact fun v rv=>f0 v (RepS.unset hp i rv)
   ·exact q.elim
 ·exact q.elim
end DV
namespace L2
open PySem PySem.Spec PyProof.Rows PySem.W Builtin Builtin.ObjectAttr Builtin.Getset_descriptor
section
variable {prog:Wi} {w:Wp} {A:Wn} {E:Value→W1→Prop} {K:W0} {C e:Addr} {oe:Obj} {h:Heap} {g:Array GenState} {d:Drawn} {t:Nat} {os:OsState}
structure ExcK (K:W0) (C:Addr):Prop where
 ga:findIn K (.ref C) "__getattribute__" = some (some (.builtin "BaseException.__getattribute__"))
 gt:findIn K (.ref C) "__getattr__" = some none
 cl:findIn K (.ref C) "__class__" = some (some (.builtin "object.__class__"))
 sp:specialIn K (.builtin "object.__class__") "__get__" = some (some (.builtin "getset_descriptor.__get__"))
 tk:takesIn K (.builtin "object.__class__")=some true
 mo:mroIn K C (.type "object")=some true
 mb:mroIn K C (.type "BaseException")=some true
theorem zch (X:K.In h) (k:ExcK K C) (he:h.get? e=some oe) (hc:oe.cls = .ref C) (q:R (.ok (.ret (.ref C))) ⟨h,g,d,t,os⟩) :
  Qw (model prog w) A (.call (.builtin "getset_descriptor.__get__") ⟨[.builtin "object.__class__",.ref e,tp],[]⟩) R ⟨h,g,d,t,os⟩:=by
 have l1:Looks (model prog w) h (typeOf (.ref e)) (.ref C):=hc ▸ (Looks.ld he).andThen .now
 have l2:=looks_mroIn (M:=model prog w) X k.mo
 refine codeAny_call_builtin
  KF.slot_gs.plain KF.entry_gs
  (KF.slot_gs.check _ _ _ _ _ _ _ _
   KF.type_class (KF.args_gs _ _ _) ?_)
 unfold Builtin.«getset_descriptor.__get__» descrGet; rw [dga_obj]
 refine W2 (Wb ?_)
 unfold descrGetter descrCheckInstance descrNameAndClass isInstance; simp only [KF.owner_class]
 repeat lk
 refine ⟨Code.quiet_builtin _ (by decide +kernel),
  codeAny_builtin KF.entry_class ?_⟩
 unfold Builtin.«object.__class__» shownTypeOf; repeat lk
 exact q
theorem z9o (X:K.In h) (k:ExcK K C) (he:h.get? e=some oe) (hc:oe.cls = .ref C) (q:Q (.done (.ret (.ref C))) ⟨h,g,d,t,os⟩) :
  Wa (model prog w) A (Builtin.«object.__getattribute__» ⟨[.ref e,.str "__class__" tk],[]⟩) Q E ⟨h,g,d,t,os⟩:=by
 have l0:Looks (model prog w) h (typeOf (.ref e)) (.ref C):=hc ▸ (Looks.ld he).andThen .now
 have l1:=looks_findIn (M:=model prog w) X k.cl
 have l2:=KF.type_class
 have l3:=F.slot_gs_get.lookup
 have l4:=F.slot_gs_set.lookup
 repeat (any_goals (first | assumption | with_reducible refine Looks.at l0 ?_ | with_reducible refine Looks.at l1 ?_ | (with_reducible refine Jb he ?_; rw [hc]) | wp_step))
 refine zch X k he hc ?_
 repeat (any_goals (first | assumption | wp_step))
theorem z9q (X:K.In h) (k:ExcK K C) (he:h.get? e=some oe) (hc:oe.cls = .ref C) (q:Q () ⟨h,g,d,t,os⟩) :
  Wa (model prog w) A (checkBuiltinCall "BaseException.__getattribute__" ⟨[.ref e,nv],[]⟩) Q E ⟨h,g,d,t,os⟩:=by
 have l0:Looks (model prog w) h (typeOf (.ref e)) (.ref C):=hc ▸ (Looks.ld he).andThen .now
 have l1:=looks_mroIn (M:=model prog w) X k.mb
 have b1:builtinKind "BaseException.__getattribute__" = some .slot:=by decide +kernel
 have b2:splitId "BaseException.__getattribute__" = some ("BaseException","__getattribute__"):=by decide +kernel
 have b3:=F.args_bexc_ga (.ref e) nv
 simp only [checkBuiltinCall,b1,b2]
 refine W2 ?_
 unfold isInstance
 repeat (first | with_reducible refine Looks.at l0 ?_ | with_reducible refine Looks.at l1 ?_ | (with_reducible refine Jb he ?_; rw [hc]) | wp_step)
 exact q
theorem z9p (X:K.In h) (k:ExcK K C) (he:h.get? e=some oe) (hc:oe.cls = .ref C) (q:Q (some (.ref C)) ⟨h,g,d,t + 1,os⟩):Wa (model prog w) A (getAttr? (.ref e) "__class__") Q E ⟨h,g,d,t,os⟩:=by
 have L0:Looks (model prog w) h (typeOf (.ref e)) (.ref C):=hc ▸ (Looks.ld he).andThen .now
 have L1:=looks_findIn (M:=model prog w) X k.ga
 have L2:=looks_findIn (M:=model prog w) X k.gt
 have L3:=looks_mroIn (M:=model prog w) X k.mb
 have hx0:(false && onTheHeap (Value.builtin "BaseException.__getattribute__"))=false:=rfl
 have hx2:(Value.builtin "BaseException.__getattribute__" == Value.builtin "object.__getattribute__")=false:=by decide +kernel
 have f3:=F.attrBase_ValueError.ga.bind (.ref e)
 unfold getAttr? getAttrBy? getAttrBy
 refine W2 (wpAny_mkText (W2 (wpAny_attempt (Q7 (W2 (L0.at (W2 (L1.at ?_))))))))
 dsimp only
 rw [hx2,Bool.and_false]
 simp only [Bool.false_eq_true,if_false]
 unfold getAttrByItsOwn hookBefore
 repeat (any_goals (first | assumption | with_reducible refine Looks.at L2 ?_ | wp_step))
 refine codeAny_call_builtin F.attrBase_ValueError.ga.plain F.entry_bexc_ga (z9q X k he hc (z9o X k he hc ?_))
 repeat (any_goals (first | assumption | wp_step))
theorem zat {v:V} (k:ExcK K C) (hk:(clsIn K C).isSome=true):KitX K (.ref e) (.ref C) (DV.excAt C v e) where
 ty:=fun M h X ⟨o,h1,h2,_⟩=>h2 ▸ (Looks.ld h1).andThen .now
 it:=fun M h X _=>by
  obtain ⟨cd,hcd⟩:=Qx.mp hk
  unfold clsIn at hcd
  split at hcd
  next c' d' cd' sl' ho=>exact fun A' Q' E' s' kk q=>by unfold isType loadHead; exact W2 (wpAny_loadPart (kk _ _ (X _ _ ho)) (Wb q))
  next=>cases hcd
 ne:=fun h tp dd its n sl X htp=>by
  obtain ⟨cd,hcd⟩:=Qx.mp hk
  refine Bool.eq_false_iff.mpr fun q=>?_
  obtain rfl:C=tp:=Value.ref.inj (beq_iff_eq.mp q)
  unfold clsIn at hcd
  split at hcd
  next c' d' cd' sl' ho=>have z:=(X _ _ ho).symm.trans htp; cases z
  next=>cases hcd
 ca:=fun {prog w A E Q s} X ⟨o,h1,h2,_⟩ q=>by
  obtain ⟨hh,gg,dd,tt,oo⟩:=s
  exact z9p X k h1 h2 q
end
section
variable {X:Cx} {y:Str} {D:Addr} {pos:Pos}
theorem zdg (hg:Gl X y) (hm:X.mg y=some (.ref D)) (hd:(y == ("__debug__" : Str))=false:=by decide):PE X (.Name y pos) (fun σ H Q=>Q (.ref D) H):=fun pins s σ H Q I h=>z3M I hg hm ⟨.ref D,H,I,rfl,h⟩ hd
structure IsT (K:W0) (ce:DV.Tx→Nat) (ys:List DV.Tx) (cv:Value) (tab:DV.Tx→Bool):Prop where
 k:∀ z ∈ ys,ExcK K (ce z)
 c:∀ z ∈ ys,(PySem.W.clsIn K (ce z)).isSome=true
 one:∀ z ∈ ys,Qc K (.ref (ce z)) cv=some (tab z)
theorem z7H (hcv:∀ u,RelV cV u→u=cv) (T:IsT X.K ce ys cv tab) :
  CallR X (.builtin "isinstance") (fun xs H Q=>∃ (a:Addr) (z:DV.Tx) (v:V),xs=[.ref a,cV]∧H a=some (.ext (DV.excAt (ce z) v a))∧z ∈ ys∧Q (.bl (tab z)) H):=by
 intro pins s σ H xs us Q I r h
 obtain ⟨a,z,v,rfl,ha,hz,q⟩:=h
 obtain ⟨u,w',rfl,r1,r2⟩:=zbo r
 cases r1
 have e:=hcv _ r2
 subst e
 obtain ⟨p,_,_⟩:=I.hok a _ ha
 exact WL (zat (T.k z hz) (T.c z hz)) I.kIn p (T.one z hz) (fun z=>nomatch z) fun tk=>⟨.bl (tab z),H,I.tok tk,rfl,q⟩
end
structure RoomH (k:Nat) (A:Wn):Prop where
 dp:A.depth + 3 * k + 5 < recursionLimit
 un:A.units + 16 * k + 200 < Q8
theorem RoomH.deeper (r:RoomH (k + 1) A) (env:Env):RoomH k (A.deeper env) :=
 ⟨by have:=r.dp; show A.depth + 1 + 3 * k + 5 < _; omega,by have:=r.un; show A.units + 3 + 16 * k + 200 < _; omega⟩
theorem Room.h (r:Room k A):RoomH k A:=⟨r.dp,r.un⟩
theorem RoomH.mono (r:RoomH k A) (h:j≤k):RoomH j A:=⟨by have:=r.dp; omega,by have:=r.un; omega⟩
theorem RoomH.mark (r:RoomH k A) (v:Option Value):RoomH k (A.mark v):=⟨r.dp,r.un⟩
def Cx.cold (X:Cx):Cx:={ X with calm:=false,xe:=fun _ _=>False }
structure FnOkH (P:Wi) (w:Wp) (K:W0) (mg:Str→Option Value) (base:Heap) (k:Nat) (f:Addr) (fd:Wx) (ps:List Str) (sp:Sp):Prop where
 len:∀ vs H Q E,sp vs H Q E→vs.length=ps.length
 run:∀ (A:Wn) (outer:List Env) (s:W1) (H:Hp) (args:Args) (us:List Value) (vs:List V) (Q:VK),RoomH k A→Env0 P w K mg base A outer s H→BindsTo s fd args (ps.zip us)→Vals vs us→sp vs H Q E0 →
  Qw (model P w) A (.call (.ref f) args) (CR CX0 outer P w H s Q E0) s
section
variable {P:Wi} {w:Wp} {K:W0} {mg:Str→Option Value} {base:Heap} {k:Nat} {f:Addr}
theorem zdK {x qual:Str} {st:Stmt} {fd:Wx} {N ps:List Str} {sp:Sp} (F:Fun K x qual st f fd) (S:FnScope N ps (z07 st)) (len:∀ vs H Q E,sp vs H Q E→vs.length=ps.length)
  (hbody:∀ (cdv:Value) (A:Wn) (outer:List Env) (s:W1) (H:Hp) (vs:List V) (Q:VK),RoomH k (A.deeper (QH qual (z07 st) s.heap.objs.size f cdv))→sp vs H Q E0 →
   ∃ t,PSs (cxOf CX0 P w K mg base N qual (z07 st) f cdv A outer s H E0).cold (z1h st) t∧t { nx:=fun _ H'=>Q .non H',rt:=Q } (z2A N vs) H):FnOkH P w K mg base (k + 1) f fd ps sp:=by
 obtain ⟨oc,od,kV,doc,pm,an,cdv,ct,osl,rfl,lk,hcd⟩:=F.ex
 refine ⟨len,fun A outer s H args us vs Q hr e0 hb r hsp=>?_⟩
 have hl:=len _ _ _ _ hsp
 have KX:K.In s.heap:=e0.mod.kin.keeps fun b o e=>(e0.bs b o e).1
 have lim:s.heap.NoLimit:=e0.mod.nolimit.keeps fun b o e=>(e0.bs b o e).1
 have hkind:∀ y ∈ ps.zip us,(z07 st).names.lookup y.1=some .local∨((z07 st).names.lookup y.1=some .cell∧((Q9 (s.heap.objs.size + 1) (z07 st).names []).lookup y.1).isSome=true):=fun ⟨n,v⟩ hy=>by
  rcases S.par n (Jh hy).1 with q | q
  ·exact .inl q
  ·exact .inr ⟨q,QL _ _ _ (.inl q)⟩
 have hdep:A.depth < recursionLimit:=by have:=hr.dp; omega
 refine codeAny_call_function hdep (KX _ _ lk) rfl S.co S.gen rfl (PySem.W.codeRec_of KX hcd) (hb _ _ _ _ ?_)
 refine wpAny_newFunctionEnv_cells S.kind hkind fun env he s1 x=>?_
 subst he
 refine ⟨lim.keeps x.toInCall.keep,codeAny_func ?_⟩
 obtain ⟨t,ht,hq⟩:=hbody cdv A outer s H vs Q (hr.deeper _) hsp
 have e1:Env0 P w K mg base { A with handled:=none } outer s H:=⟨e0.frames,e0.mod,e0.bs,e0.bsz,e0.funs,e0.frf,e0.hok,e0.bare⟩
 have J:=z6u (CX:=CX0) (E:=E0) (qual:=qual) (f:=f) (cd:=cdv) (A:={ A with handled:=none }) S rfl e1 hl r x
 have I:Inv (cxOf CX0 P w K mg base N qual (z07 st) f cdv A outer s H E0).cold [] (z2A N vs) H s1:=by
  have o:=J.ok
  exact ⟨⟨o.mod,o.kind,o.glob,o.blt,o.above,o.inj,o.has,o.cab,fun z=>(by cases z),Around.frames_deeper e0.frames,o.stk,o.exf,o.bs,o.bsz,o.noex,o.exfs,o.funs,o.frf⟩,J.os,J.bare,J.base,J.loc,J.cell,J.free,J.freeC,J.pin,J.hok,J.len⟩
 refine WE (ht [] s1 (z2A N vs) H _ I hq) (fun fl s' hs=>?_) fun e s' hs=>hs.elim
 cases fl with
 | ret u =>
  obtain ⟨v,σ',H',J2,rv,q⟩:=hs
  exact ⟨v,H',J2.os,J2.bare,J2.base,J2.hok,rv,q⟩
 | next =>
  obtain ⟨σ',H',J2,q⟩:=hs
  exact ⟨V.non,H',J2.os,J2.bare,J2.base,J2.hok,rfl,q⟩
 | brk =>
  obtain ⟨_,_,_,q⟩:=hs
  exact False.elim q
 | cont =>
  obtain ⟨_,_,_,q⟩:=hs
  exact False.elim q
end
section
variable {X:Cx} {k:Nat} {f:Addr} {fd:Wx} {ps:List Str} {sp:Sp} {x:Str} {p pos:Pos} {e:Expr} {es:List Expr} {t:TA}
theorem zaf (F:FnOkH X.prog X.w X.K X.mg X.base k f fd ps sp) (hr:RoomH k X.A) (hg:Gl X x) (hm:X.mg x=some (.ref f)) (hk:WX X.K (.ref f)=true) (hb:Binds X.K fd ps [])
  (ha:PA X (e :: es) t) (hdb:(x == ("__debug__" : Str))=false:=by decide) (he:W5 (e :: es) X.env=(false,eval e X.env) :: W5 es X.env:=by rfl) (hpl:(WK pos (W5 es X.env)).any (·.1)=false:=by rfl) :
  PE X (.Call (.Name x p) (e :: es) [] pos) (z9U sp [] E0 t):=by
 intro pins s σ H Q I h
 refine QF (z3M I hg hm ?_ hdb)
 refine PySem.W.callWith_K (h₀:=X.base) I.ok.mod.kin hk (thn (ha pos pins s σ H _ I h) fun us s1 ⟨vs,H1,I1,r,q⟩=>⟨I1.kIn,?_⟩) he hpl
 have q:sp vs H1 Q E0:=by have q':sp (vs ++ []) H1 Q E0:=q; rwa [WH] at q'
 have hl:(us ++ []).length=ps.length:=by rw [WH,← r.length]; exact F.len _ _ _ _ q
 refine wpAny_call (codeAny_mono (F.run X.A X.stack s1 H1 ⟨us,[]⟩ us vs Q hr I1.env0 (by have:=hb s1 us I1.kIn hl; rwa [WH] at this) r q) fun r s' hq=>?_)
 cases r with
 | error e=>exact False.elim hq
 | ok fl =>
  cases fl with
  | ret u=>exact I1.after hq
  | next=>exact False.elim hq
  | brk=>exact False.elim hq
  | cont=>exact False.elim hq
end
end L2
namespace DV
open PySem PySem.Spec PyProof.Rows L2
def eIsC (ce:Tx→Nat) (ys:List Tx) (tab:Tx→Bool) (fb:BE):DE:=fun δ=>(fb δ).bind fun d δ'=>match d with
 | .exc n _=>match ys.find? fun z=>ce z == n with
  | some z=>.ok (.pure (.bl (tab z))) δ'
  | none=>.stuck
 | _=>.stuck
section
variable {X:Cx} {c:Fc} {e:Expr} {fb:BE} {pp py pos:Pos} {y:Str} {ce:Tx→Nat} {ys:List Tx} {tab:Tx→Bool}
theorem z7x (h:tD c (eIsC ce ys tab fb) σ H Q):tB c fb σ H fun v H1=>∃ (a:Addr) (z:Tx) (w:V),[v,cV]=[.ref a,cV]∧H1 a=some (.ext (excAt (ce z) w a))∧z ∈ ys∧Q (.bl (tab z)) H1:=by
 obtain ⟨δ,k,q⟩:=h
 unfold eIsC at q
 rw [z04] at q
 refine ⟨δ,k,z01 q fun d δ1 q1 v H1 a1 r1=>?_⟩
 cases d <;> first | exact q1.elim | skip
 rename_i n fl
 simp only at q1
 split at q1
 ·rename_i z hz
  have h1:=List.find?_some hz
  have h2:=List.mem_of_find?_eq_some hz
  have e:ce z=n:=by simpa using h1
  subst e
  rcases r1 with r1 | ⟨a,_,o⟩
  ·cases r1 with
   | exc _ ha _=>exact ⟨_,z,_,rfl,ha,h2,q1 _ H1 a1 (.bl _)⟩
  ·exact o.elim
 ·exact q1.elim
theorem z3e {D:Addr} (T:IsT X.K ce ys (.ref D) tab) (hg:Gl X "isinstance") (hm:X.mg "isinstance" = none) (hgy:Gl X y) (hmy:X.mg y=some (.ref D)) (he:SB X c e fb) (hdy:(y == ("__debug__" : Str))=false:=by decide)
  (hs:W5 [e,.Name y py] X.env=(false,eval e X.env) :: W5 [.Name y py] X.env:=by rfl) (hpl:(WK pos (W5 [.Name y py] X.env)).any (·.1)=false:=by rfl) :
  SE X c (.Call (.Name "isinstance" pp) [e,.Name y py] [] pos) (eIsC ce ys tab fb) :=
 PE.weak (z3i (z7H (cV:=.ref D) (fun u r=>by cases r; rfl) T) hg hm PyProof.Rows.boot_isinstance (z0X he (z0X (zdg hgy hmy hdy) z1S) hs) (by decide) (by decide) hs hpl) fun σ H Q h=>z7x h
theorem zcF {T':String} (T:IsT X.K ce ys (.type T') tab) (hg:Gl X "isinstance") (hm:X.mg "isinstance" = none) (hgy:Gl X y) (hmy:X.mg y=none) (hvy:WW y=some (.type T')) (he:SB X c e fb)
  (hny:y≠"__name__":=by decide) (hdy:(y == ("__debug__" : Str))=false:=by decide)
  (hs:W5 [e,.Name y py] X.env=(false,eval e X.env) :: W5 [.Name y py] X.env:=by rfl) (hpl:(WK pos (W5 [.Name y py] X.env)).any (·.1)=false:=by rfl) :
  SE X c (.Call (.Name "isinstance" pp) [e,.Name y py] [] pos) (eIsC ce ys tab fb) :=
 PE.weak (z3i (z7H (cV:=.ty T') (fun u r=>by cases r; rfl) T) hg hm PyProof.Rows.boot_isinstance (z0X he (z0X (z8U (v:=.ty T') hgy hmy hvy rfl hny hdy) z1S) hs) (by decide) (by decide) hs hpl) fun σ H Q h=>z7x h
end
def KFnH (P:Wi) (w:Wp) (K:W0) (mg:Str→Option Value) (base:Heap) (k:Nat) (x:Str) (n:Nat) (G:DF):Prop :=
 ∃ (f:Addr) (fd:Wx) (ps:List Str),mg x=some (.ref f)∧WX K (.ref f)=true∧Binds K fd ps []∧FnOkH P w K mg base k f fd ps (spD n G)
theorem zdH (r:RoomH k A):A.units + 64 < Q8:=by have:=r.un; omega
section
variable {P:Wi} {w:Wp} {K:W0} {mg:Str→Option Value} {base:Heap}
theorem zcf {x qual:Str} {st:Stmt} {f:Addr} {fd:Wx} {N ps:List Str} {k:Nat} {np:List Nat} {fb:DS} {G:DF} (F:Fun K x qual st f fd) (hm:mg x=some (.ref f)) (hb:Binds K fd ps []) (S:FnScope N ps (z07 st))
  (hbody:∀ (c:Fc) (cdv:Value) (A:Wn) (outer:List Env) (s:W1) (H:Hp) (E:XK),RoomH k (A.deeper (QH qual (z07 st) s.heap.objs.size f cdv))→Np c np→SSs (cxOf CX0 P w K mg base N qual (z07 st) f cdv A outer s H E).cold c (z1h st) fb)
  (hG:∀ ss y,G ss=some y→ioOk np 0 ss=true∧runD fb N.length ss=some y):KFnH P w K mg base (k + 1) x ps.length G:=by
 refine ⟨f,fd,ps,hm,F.kp,hb,zdK F S (fun vs H Q E h=>?_) fun cdv A outer s H vs Q hr h=>?_⟩
 ·obtain ⟨ss,B,hl,_⟩:=h
  exact hl
 ·obtain ⟨ss,B,hl,ok,r,outs,hg,q⟩:=h
  obtain ⟨hio,hrun⟩:=hG ss _ hg
  have hvs:ss.length=vs.length:=by have:=ok.len; simpa using this
  have np':Np ⟨H,B,z0v 0 ss vs,fun _ _=>False⟩ np:=fun p hp=>by
   obtain ⟨j,d,e,h1,_⟩:=z1k (i:=p.1) (a:=p.2) hp
   rw [e]
   exact z5J hio h1
  refine ⟨tDS ⟨H,B,z0v 0 ss vs,fun _ _=>False⟩ fb,hbody ⟨H,B,z0v 0 ss vs,fun _ _=>False⟩ cdv A outer s H E0 hr np',?_⟩
  have hst:z2A N vs=z0W vs ++ W9 (N.length - ss.length) none:=by rw [hvs]; rfl
  refine ⟨z0h N.length ss,by rw [hst]; exact ok.ext _,?_⟩
  unfold runD at hrun
  unfold z2B
  cases e:fb (z0h N.length ss) with
  | exc x δx=>rw [e] at hrun; cases hrun
  | stuck=>rw [e] at hrun; cases hrun
  | ok fl δ' =>
   rw [e] at hrun
   show ∀ σ' H',Aft _ (z2A N vs) (z0h N.length ss) H σ' δ' H'→fin _ _ σ' δ' H' fl
   intro σ' H' a
   rw [hst] at a
   simp only at hrun
   cases fl with
   | brk=>cases hrun
   | cont=>cases hrun
   | next =>
    simp only [z0M,WD] at hrun
    cases eo:z0e 0 ss δ' with
    | none=>rw [eo] at hrun; cases hrun
    | some os =>
     rw [eo] at hrun
     cases hrun
     obtain ⟨l1,l2⟩:=z6n rfl ok a eo
     exact q .non H' l1 .non
   | ret r' =>
    simp only [z0M,WD] at hrun
    cases eo:z0e 0 ss δ' with
    | none=>rw [eo] at hrun; cases hrun
    | some os =>
     rw [eo] at hrun
     cases hrun
     obtain ⟨l1,l2⟩:=z6n rfl ok a eo
     exact fun v rv=>q v H' l1 (l2 v _ rv)
end
section
variable {X:Cx} {c:Fc} {e:Expr} {es:List Expr} {as:List Ak} {k n:Nat} {x:Str} {G:DF} {pp pos:Pos}
theorem za7 (F:KFnH X.prog X.w X.K X.mg X.base k x n G) (hK:z1z G) (hr:RoomH k X.A) (hg:Gl X x) (ha:SX X c (e :: es) as) (hl:as.length=n) (hdb:(x == ("__debug__" : Str))=false:=by decide)
  (he:W5 (e :: es) X.env=(false,eval e X.env) :: W5 es X.env:=by rfl) (hpl:(WK pos (W5 es X.env)).any (·.1)=false:=by rfl):SE X c (.Call (.Name x pp) (e :: es) [] pos) (z05 G as):=by
 obtain ⟨f,fd,ps,hm,hk,hb,ok⟩:=F
 exact PE.weak (zaf ok hr hg hm hk hb ha hdb he hpl) fun σ H Q h=>z6F (ps:=ps) hK hl h
end
end DV
namespace L2
open PySem PySem.Spec PyProof.Rows PySem.SeqAt
theorem z5n:∀ {bs:List Bool} {us:List Value},Vals (bs.map V.bl) us→us=bs.map Value.bool
 | [],us,r=>by cases r; rfl
 | b :: bs,us,r=>by
  cases r with
  | cons r1 r2 =>
   cases r1
   rw [z5n r2]
   rfl
def z4J:Value→Bool
 | .bool b=>b
 | _=>false
theorem z4R:∀ bs:List Bool,(bs.map Value.bool).countP z4J=bs.count true
 | []=>rfl
 | b :: bs=>by
  rw [Wq,List.countP_cons,z4R bs,List.count_cons]
  cases b <;> rfl
def zaW (K:W0):V→List V→Hp→VK→Prop:=fun x xs H Q=>∃ (a:Addr) (bs:List Bool),x = .ref a∧xs=[.bl true]∧SqL K H a (bs.map V.bl)∧Q (.int (bs.count true:Nat)) H
def zaU (K:W0):V→List V→Hp→VK→Prop:=fun x xs H Q=>∃ (a:Addr) (bs:List Bool),x = .ref a∧xs=[.bl true]∧SqL K H a (bs.map V.bl)∧true ∈ bs∧bs.length≤1000∧Q (.int (bs.idxOf true:Nat)) H
section
variable {X:Cx}
theorem zaq:MtR X "list.count" (zaW X.K):=by
 intro pins s σ H x xs v us Q I rx rs h
 obtain ⟨a,bs,rfl,rfl,hq,q⟩:=h
 obtain ⟨u,rfl,ru⟩:=z3B rs
 cases ru
 cases rx
 obtain ⟨its,r',p,_⟩:=I.list hq
 obtain rfl:=z5n r'
 obtain ⟨⟨cls,dd,data,sl⟩,ho,hc,n,hd⟩:=p.isList
 simp only at hc hd
 subst hc; subst hd
 refine QS PySem.F.slot_list_count ⟨_,ho,rfl⟩ PySem.F.entry_list_count (PySem.F.args_list_count_2 _ _) (list_countAt a _ n dd sl (.bool true) z4J) ⟨ho,fun y hy=>?_,?_⟩
 ·have hy':y ∈ bs.map Value.bool:=by simpa using hy
  obtain ⟨b,_,rfl⟩:=J4.mp hy'
  have:=EqAt.bool_bool (A:=X.A.in1) (s:=s) b true
  cases b <;> exact this
 ·rw [show (bs.map Value.bool).toArray.toList=bs.map Value.bool from rfl,z4R]
  exact ⟨.int (bs.count true:Nat),H,I.tok _,⟨_,rfl⟩,q⟩
theorem zap:MtR X "list.index" (zaU X.K):=by
 intro pins s σ H x xs v us Q I rx rs h
 obtain ⟨a,bs,rfl,rfl,hq,hm,hl,q⟩:=h
 obtain ⟨u,rfl,ru⟩:=z3B rs
 cases ru
 cases rx
 obtain ⟨its,r',p,_⟩:=I.list hq
 obtain rfl:=z5n r'
 obtain ⟨⟨cls,dd,data,sl⟩,ho,hc,n,hd⟩:=p.isList
 simp only at hc hd
 subst hc; subst hd
 have hj:bs.idxOf true < bs.length:=List.idxOf_lt_length_iff.mpr hm
 refine QS QB ⟨_,ho,rfl⟩ PySem.F.entry_list_index (PySem.F.args_list_index_2 _ _) (list_indexAt a _ n dd sl (.bool true) z4J (bs.idxOf true) (by simpa using hj) (by omega) ?_ ?_) ⟨ho,fun y hy=>?_,⟨.int (bs.idxOf true:Nat),H,I.tok _,⟨_,rfl⟩,q⟩⟩
 ·have:=List.getElem_idxOf hj
  simp [z4J,this]
 ·intro m hm' hlt
  have hm2:m < bs.length:=by simpa using hm'
  have:bs[m]≠true:=fun z=>by
   have z2:=List.not_of_lt_findIdx (p:=(· == true)) (xs:=bs) (i:=m) hlt
   rw [z] at z2
   cases z2
  simp [z4J,this]
 ·have hy':y ∈ bs.map Value.bool:=by simpa using hy
  obtain ⟨b,_,rfl⟩:=J4.mp hy'
  have:=EqAt.bool_bool (A:=X.A.in1) (s:=s) b true
  cases b <;> exact this
end
end L2
namespace DV
open PySem PySem.Spec PyProof.Rows L2
def z5d:D→Option S
 | .lst ds=>(z3z ds).map fun bs=>.pure (.int (bs.count true:Nat))
 | _=>none
def z3K:D→Option S
 | .lst ds=>match z3z ds with
  | some bs=>if true ∈ bs∧bs.length≤1000 then some (.pure (.int (bs.idxOf true:Nat))) else none
  | none=>none
 | _=>none
section
variable {X:Cx} {c:Fc} {e:Expr} {fb:BE}
theorem zam {K:W0}:Op1 (fun x H Q=>tyV K "list" x H∧zaW K x [.bl true] H Q) z5d:=by
 intro c σ δ H x d s Q k rx hp q
 cases d with
 | lst ds =>
  simp only [z5d] at hp
  cases e:z3z ds with
  | none=>rw [e] at hp; cases hp
  | some bs =>
   rw [e] at hp
   cases hp
   obtain ⟨a,vs,ea,ha,ra⟩:=rx.lst
   obtain rfl:=z2T e ra
   subst ea
   exact ⟨.inl ⟨rfl,_,.inl ha⟩,a,bs,rfl,rfl,.inl ha,q _ H (.refl k) (.int _)⟩
 | _=>simp [z5d] at hp
theorem zal {K:W0}:Op1 (fun x H Q=>tyV K "list" x H∧zaU K x [.bl true] H Q) z3K:=by
 intro c σ δ H x d s Q k rx hp q
 cases d with
 | lst ds =>
  simp only [z3K] at hp
  cases e:z3z ds with
  | none=>rw [e] at hp; cases hp
  | some bs =>
   rw [e] at hp
   simp only at hp
   split at hp
   ·rename_i hz
    cases hp
    obtain ⟨a,vs,ea,ha,ra⟩:=rx.lst
    obtain rfl:=z2T e ra
    subst ea
    exact ⟨.inl ⟨rfl,_,.inl ha⟩,a,bs,rfl,rfl,.inl ha,hz.1,hz.2,q _ H (.refl k) (.int _)⟩
   ·cases hp
 | _=>simp [z3K] at hp
theorem za2 {j} {p0 apos cpos:Pos} (he:SB X c e fb)
  (hbase:Ql e "count" X.env (eval e X.env)=eval e X.env:=by rfl)
  (hfew:((WK cpos (W5 [.Constant (.bool true) j p0] X.env)).all (fun x=>!x.1) && (backToKw cpos (QN [] X.env)).all (fun x=>x.1.isSome)
   && decide ([Expr.Constant (.bool true) j p0].length + ([]:List Keyword).length + (if ([]:List Keyword).isEmpty then 0 else 1) < 30))=true:=by rfl)
  (hline:(apos.endLine == cpos.line)=true:=by rfl) (hs:W5 [.Constant (.bool true) j p0] X.env=(false,eval (.Constant (.bool true) j p0) X.env) :: W5 [] X.env:=by rfl) :
  SE X c (.Call (.Attribute e "count" apos) [.Constant (.bool true) j p0] [] cpos) (eC1 z5d fb):=by
 refine PE.weak (z8T QA PySem.F.slot_list_count PySem.F.type_list_count zaq he (z0X zbY z1S hs) hbase hfew hline hs rfl) fun σ H Q h=>?_
 obtain ⟨δ,k,q⟩:=z3C (zam (K:=X.K)) h
 exact ⟨δ,k,z01 q fun y δ1 q1 v H1 a1 r1=>q1 v H1 a1 r1⟩
theorem za1 {j} {p0 apos cpos:Pos} (he:SB X c e fb)
  (hbase:Ql e "index" X.env (eval e X.env)=eval e X.env:=by rfl)
  (hfew:((WK cpos (W5 [.Constant (.bool true) j p0] X.env)).all (fun x=>!x.1) && (backToKw cpos (QN [] X.env)).all (fun x=>x.1.isSome)
   && decide ([Expr.Constant (.bool true) j p0].length + ([]:List Keyword).length + (if ([]:List Keyword).isEmpty then 0 else 1) < 30))=true:=by rfl)
  (hline:(apos.endLine == cpos.line)=true:=by rfl) (hs:W5 [.Constant (.bool true) j p0] X.env=(false,eval (.Constant (.bool true) j p0) X.env) :: W5 [] X.env:=by rfl) :
  SE X c (.Call (.Attribute e "index" apos) [.Constant (.bool true) j p0] [] cpos) (eC1 z3K fb):=by
 refine PE.weak (z8T QA QB PySem.F.type_list_index zap he (z0X zbY z1S hs) hbase hfew hline hs rfl) fun σ H Q h=>?_
 obtain ⟨δ,k,q⟩:=z3C (zal (K:=X.K)) h
 exact ⟨δ,k,z01 q fun y δ1 q1 v H1 a1 r1=>q1 v H1 a1 r1⟩
end
theorem SS.nox {X:Cx} {c:Fc} {st:Stmt} {f:DS} (h:SS X.nox c st f):SS X c st f:=fun pins s σ H D I hw =>
 WE (h pins s σ H D (I.wish _) hw) (fun _ _ q=>q.unwish) fun _ _ z=>False.elim z
theorem z4V:WW "ValueError" = some (.type "ValueError"):=by decide +kernel
def ceOf:List (Tx×Nat)→Tx→Nat
 | [],_=>0
 | p :: r,x=>bif p.1 == x then p.2 else ceOf r x
end DV
namespace L2
open PySem PySem.Spec PyProof.Rows
section
variable {X:Cx}
end
end L2
namespace DV
open PySem PySem.Spec PyProof.Rows L2
end DV
namespace PySem
open Sem (wp)
structure ZA (z TI TO i1 i2:Addr) (f1 f2:List Addr):Prop where
 m1:i1 ∈ f1
 m2:i2 ∈ f2
 z1:z ∉ f1
 z2:z ∉ f2
 t1:TO ∉ f1
 t2:TO ∉ f2
 k1:i1 ∉ f2
 k2:i2 ∉ f1
 tz:TO≠z
 iz:TI≠z
 io:TI≠TO
 n1:TI≠i1
 n2:TI≠i2
section
variable {prog:Wi} {w:Wp} {A:Wn} {E:Value→W1→Prop} {s:W1}
end
def IsB (b:Bool) (h:Heap) (a:Addr) (its:Array Value):Prop:=match b with
 | true=>h.IsList a its
 | false=>h.IsTuple a its
theorem IsB.lt (q:IsB b h a its):a < h.objs.size:=by
 cases b
 ·obtain ⟨o,e,_⟩:=(q:h.IsTuple a its); exact Wf e
 ·obtain ⟨o,e,_⟩:=(q:h.IsList a its); exact Wf e
theorem IsB.push (q:IsB b h a its) (o:Obj):IsB b (h.push o) a its:=by
 cases b
 ·obtain ⟨o,e,r⟩:=(q:h.IsTuple a its); exact ⟨o,W7 _ e,r⟩
 ·obtain ⟨o,e,r⟩:=(q:h.IsList a its); exact ⟨o,W7 _ e,r⟩
end PySem
namespace L2
open PySem PySem.Spec PyProof.Rows
section
variable {X:Cx} {pins:List (Addr×Obj)} {σ:St} {H:Hp} {s:W1} {h':Heap}
end
end L2
namespace DV
open PySem PySem.Spec PyProof.Rows L2
section
variable {X:Cx} {c:Fc} {tg e:Expr} {fe:DE} {pos pp:Pos}
theorem Reps.two (r:Rep H O u x) (r':Rep H O v y):Reps H O [u,v] [x,y]:=by
 refine ⟨rfl,fun j v' d' e1 e2=>?_⟩
 match j with
 | 0=>simp at e1 e2; subst e1 e2; exact r
 | 1=>simp at e1 e2; subst e1 e2; exact r'
 | j + 2=>simp at e1
end
def z2z (G:DX) (as:List Ak):DE:=fun δ=>if (ios as).all (z0p δ) && ndup (ios as) then (evX as δ).bind fun ds δ1=>match mkA as ds δ1 with
  | none=>.stuck
  | some ss=>match G ss with
   | some (.inl (r,outs))=>.ok r (putA as outs δ1)
   | _=>.stuck
 else .stuck
section
variable {X:Cx} {c:Fc} {e:Expr} {es:List Expr} {as:List Ak} {k n:Nat} {x:Str} {G:DX} {pp pos:Pos}
theorem z8d (hK:z5m G) (hl:as.length=n) (h:tD c (z2z G as) σ H Q):tX c as σ H fun vs H1=>spX X.mg n G vs H1 Q (fun c' _ H'=>∃ C,c' = .ref C∧False):=by
 obtain ⟨δ,kk,q⟩:=h
 unfold z2z at q
 split at q
 ·rename_i hc
  rw [Wg] at hc
  have nd:=z2U hc.2
  rw [z04] at q
  refine ⟨δ,kk,fun i hi=>?_,z01 q fun ds δ1 q1 vs H1 a1 r1=>?_⟩
  ·have:=Q4.mp hc.1 i (ios_mem.mpr hi)
   unfold z0p at this
   split at this
   ·rename_i d ed
    exact z2e kk ed
   ·cases this
  ·cases em:mkA as ds δ1 with
   | none=>rw [em] at q1; exact q1.elim
   | some ss =>
    rw [em] at q1
    simp only at q1
    cases eg:G ss with
    | none=>rw [eg] at q1; exact q1.elim
    | some y =>
     rw [eg] at q1
     have hin:=z5S a1.ok r1 em nd
     obtain ⟨m1,m2,_⟩:=z5e r1 em
     have g2:=hK ss y eg
     cases y with
     | inl y =>
      refine ⟨ss,_,by rw [← m2]; exact hl,hin,.inl y,eg,?_⟩
      obtain ⟨r,outs⟩:=y
      intro v H2 a2 r2
      obtain ⟨o1,o2⟩:=z3y a1.ok r1 em nd rfl a2 (fun j d ed=>(g2 j).1 d ed) fun j d ed=>(g2 j).2 d ed
      exact q1 v H2 (a1.trans o1) (RepS.back (o2 v r r2) a1)
     | inr y=>exact q1.elim
 ·exact q.elim
theorem za6 (F:KFnX X.prog X.w X.K X.mg X.base k x n G) (hK:z5m G) (hr:Room k X.A) (hex:X.ex=[]) (hg:Gl X x) (ha:SX X c (e :: es) as) (hl:as.length=n) (hdb:(x == ("__debug__" : Str))=false:=by decide)
  (he:W5 (e :: es) X.env=(false,eval e X.env) :: W5 es X.env:=by rfl) (hpl:(WK pos (W5 es X.env)).any (·.1)=false:=by rfl):SE X c (.Call (.Name x pp) (e :: es) [] pos) (z2z G as):=by
 obtain ⟨f,fd,ps,hm,hk,hb,ok⟩:=F
 exact PE.weak (z7q (W:=fun _ _ _ _=>False) ok hr hex hg hm hk hb (fun _ _ _ _ _ _ _ _ _ h=>h.elim) ha hdb he hpl) fun σ H Q h=>z8d hK hl h
end
end DV
namespace PySem
open Sem (wp)
section
variable {prog:Wi} {w:Wp} {A:Wn} {E:Value→W1→Prop} {hp:Heap} {g:Array GenState} {d:Drawn} {t:Nat} {os:OsState}
variable {nm qn:Str} {C N:Addr} {bs bm bmB:List Value} {hdct:Bool} {sn:List Str} {sub:List Value} {ab:Bool} {col:Option Bool} {dd:Option Addr} {k0 k1 k2 k3 k5:Option Value} {B newId initId:String}
end
end PySem
namespace L2
open PySem PySem.Spec PyProof.Rows PySem.W PySem.Builtin PySem.Builtin.ObjectAttr
def zdj:List Value→Bool
 | .ref _ :: r=>zdj r
 | l=>l == vErr
def zdk (K:W0) (C:Addr):Bool:=(clsIn K C).any fun cd=>zdj cd.mro
section
variable {prog:Wi} {w:Wp} {A:Wn} {E:Value→W1→Prop} {s:W1} {K:W0} {x C:Addr} {name:Str} {v:Value} {R:Result→W1→Prop}
end
section
variable {P:Wi} {w:Wp} {H:Hp} {h:Heap} {C a:Addr}
end
structure ExcS (K:W0) (C:Addr) (f:Str):Prop where
 set:findIn K (.ref C) "__setattr__" = some (some (.builtin "object.__setattr__"))
 over:zdk K C=true
 hd:hasDictIn K C=true
 tk:takerIn K C f=some none
section
variable {X:Cx} {o value:Expr} {f:Str} {ta tv:TE} {pos pos':Pos}
end
section
variable {X:Cx} {k:Nat} {f C:Addr} {fd:Wx} {ps:List Str} {sp:Sp} {x:Str} {p pos:Pos} {e:Expr} {es:List Expr} {t:TA}
end
section
variable {P:Wi} {w:Wp} {K:W0} {mg:Str→Option Value} {base:Heap} {x qual f1 f2:Str} {st:Stmt} {f:Addr} {fd:Wx} {N ps:List Str} {k:Nat}
end
theorem ObjOk.less:∀ {b:Addr} {o:HO},ObjOk P w (upd H a (.ext φ)) h b o→ObjOk P w H h b o:=by
 have dn:∀ {c:Addr} {u:HO},upd H a (.ext φ) c=some u→(∀ ψ,u≠.ext ψ)→H c=some u:=fun {c u} e n=>by
  by_cases hc:c=a
  ·subst hc; rw [z0B] at e; cases e; exact absurd rfl (n φ)
  ·rw [z0n hc] at e; exact e
 intro b o
 induction o generalizing b with
 | dT kvs =>
  rintro ⟨h1,h2,xs,h3,h4⟩
  refine ⟨h1,h2,xs,L2.Paired.mapP h3 (fun p q ⟨e1,e2,e3⟩=>⟨e1,dn e2 (fun ψ z=>by cases z),e3⟩),h4⟩
 | ins C dx fs =>
  rintro ⟨h1,h2⟩
  exact ⟨dn h1 (fun ψ z=>by cases z),h2⟩
 | frz ob u ih=>exact fun ⟨h1,h2⟩=>⟨h1,ih h2⟩
 | _=>exact fun x=>x
section
variable {X:Cx} {C f:Addr} {call:Expr} {te:TE} {pos:Pos}
end
end L2
namespace DV
open PySem PySem.Spec PyProof.Rows L2 PySem.W
section
variable {X:Cx} {c:Fc} {e:Expr} {fb:BE}
end
end DV
namespace L2
open PySem PySem.Spec PyProof.Rows
section
variable {X:Cx} {tg:Expr}
end
end L2
namespace DV
open PySem PySem.Spec PyProof.Rows L2
section
variable {X:Cx} {c:Fc} {tg e:Expr} {fe:DE} {pos pp:Pos}
end
end DV
namespace PySem.SeqAt
open AutoSeq1 (wpAny_loadPart')
open MeetsSeq
section
variable {A:Wn} {s:W1}
end
end PySem.SeqAt
namespace DV
open PySem PySem.Spec PyProof.Rows L2
end DV
namespace PySem.SeqAt
open AutoSeq1 (wpAny_loadPart')
open MeetsSeq
abbrev prO (dd:Option Addr) (a1 a2:Int) (t1 t2:Tok) (n:Nat) (sl:Array (Option Value)):Obj:={ cls:=.type "tuple",dict:=dd,data:=.seq #[.int a1 t1,.int a2 t2] n,slots:=sl }
def ltP (a1 a2 b1 b2:Int):Bool:=if a1 == b1 then decide (a2 < b2) else decide (a1 < b1)
theorem z8j (l b:Addr) (a1 a2 b1 b2:Int) (t1 t2 u1 u2:Tok) (n n2:Nat) (dd dd2:Option Addr) (sl sl2:Array (Option Value)) :
  Meets (Builtin.«tuple.__lt__» ⟨[.ref l,.ref b],[]⟩)
   (fun _ R s=>s.heap.get? l=some (prO dd a1 a2 t1 t2 n sl)∧s.heap.get? b=some (prO dd2 b1 b2 u1 u2 n2 sl2)∧R (.ok (.ret (.bool (ltP a1 a2 b1 b2)))) s) :=
 .of_wp fun prog w A R s h=>by
  obtain ⟨hp,g,d,tk,os⟩:=s; obtain ⟨hl,hb,h⟩:=h
  have f2:=AutoSeq1.sub_tuple_tuple
  wp_walk using Qk hl,Qk hb,wpAny_forIn_list _ (fun rest c s'=>c.1=none∧s' = ⟨hp,g,d,tk,os⟩ ∧
   (rest=[(.int a1 t1,.int b1 u1),(.int a2 t2,.int b2 u2)]∨(rest=[(.int a2 t2,.int b2 u2)]∧a1=b1)∨(rest=[]∧a1=b1∧a2=b2))) _
  case turn =>
   rintro ⟨y,x⟩ rest c s' ⟨hc,rfl,hz⟩
   rcases hz with hz | ⟨hz,e1⟩ | ⟨hz,_⟩
   ·injection hz with hyx hrest
    cases hyx
    refine W2 (EqAt.int_int a1 t1 b1 u1 prog w _ _ ?_)
    by_cases e:a1=b1
    ·rw [show (a1 == b1)=true by simp [e]]
     wp_walk
     exact ⟨rfl,rfl,.inr (.inl ⟨hrest,e⟩)⟩
    ·rw [show (a1 == b1)=false by simp [e]]
     have hlt:ltP a1 a2 b1 b2=decide (a1 < b1):=by simp [ltP,e]
     rw [hlt] at h
     simp only [Bool.not_false,if_true]
     refine W2 (wpAny_rule ?_)
     refine W2 (richCompare_gives (op:=.Lt) (J9 _ _ t1) (J9 _ _ u1) F.slot_int_lt F.entry_int_lt (F.args_int_lt_2 _ _) (gives_int_lt _ _ t1 u1) (fun x=>nomatch x) ?_)
     refine W2 (Wb ?_)
     exact Wb (Wb ⟨_,rfl,h⟩)
   ·injection hz with hyx hrest
    cases hyx
    refine W2 (EqAt.int_int a2 t2 b2 u2 prog w _ _ ?_)
    by_cases e:a2=b2
    ·rw [show (a2 == b2)=true by simp [e]]
     wp_walk
     exact ⟨rfl,rfl,.inr (.inr ⟨hrest,e1,e⟩)⟩
    ·rw [show (a2 == b2)=false by simp [e]]
     have hlt:ltP a1 a2 b1 b2=decide (a2 < b2):=by simp [ltP,e1]
     rw [hlt] at h
     simp only [Bool.not_false,if_true]
     refine W2 (wpAny_rule ?_)
     refine W2 (richCompare_gives (op:=.Lt) (J9 _ _ t2) (J9 _ _ u2) F.slot_int_lt F.entry_int_lt (F.args_int_lt_2 _ _) (gives_int_lt _ _ t2 u2) (fun x=>nomatch x) ?_)
     refine W2 (Wb ?_)
     exact Wb (Wb ⟨_,rfl,h⟩)
   ·cases hz
  case fin =>
   rintro ⟨c1,c2⟩ s' ⟨hc,rfl,hz⟩
   simp only at hc
   subst hc
   rcases hz with hz | ⟨hz,e1⟩ | ⟨_,e1,e2⟩
   ·cases hz
   ·cases hz
   ·have hlt:ltP a1 a2 b1 b2=false:=by simp [ltP,e1,e2]
    rw [hlt] at h
    wp_walk
    exact ⟨_,rfl,h⟩
  case h=>exact ⟨rfl,rfl,.inl rfl⟩
end PySem.SeqAt
namespace PySem
open SeqAt (prO ltP z8j)
section
variable {prog:Wi} {w:Wp} {A:Wn} {R:Result→W1→Prop} {I:Addr} {fp wr:List Addr} {n:Nat} {P:Nat→Value→Prop} {St:Nat→Heap→Prop}
end
section
variable {prog:Wi} {w:Wp} {A:Wn} {E:Value→W1→Prop} {s:W1}
end
end PySem
namespace DV
open PySem PySem.Spec PyProof.Rows L2
open PySem.SeqAt (prO ltP)
section
variable {X:Cx} {c:Fc} {e:Expr} {fb:BE} {pos pp:Pos}
end
section
variable {c:Fc} {σ:St} {δ δ':Dl} {H H':Hp} {p:Addr}
end
end DV
namespace L2
open PySem PySem.Spec PyProof.Rows
end L2
namespace DV
open PySem PySem.Spec PyProof.Rows L2
section
variable {X:Cx} {c:Fc} {tg e:Expr} {fe:DE} {pos pp:Pos}
end
section
variable {K:W0} {h:Heap} {mg:Str→Option Value} {x q:Str} {st:Stmt} {f:Addr} {fd:Wx}
abbrev FnH (K:W0) (x:Str) (st:Stmt):Prop:=∃ (f:Addr) (oc:Value) (od:Option Addr) (kV dc pm:Value) (an:Option Addr) (cd ct:Value) (sl:Array (Option Value)),
 PySem.W.nsIn K Wm x=some (some (.ref f))∧K.lookup f=some ⟨oc,od,.func (Qg x x (z2M st) (z1h st) (z07 st) .none kV dc pm an cd ct),sl⟩∧PySem.W.codeIn K cd x=true∧WX K (.ref f)=true
theorem fnH (X:K.In h) (G:h.Ns Wm mg) (d:FnH K x st):∃ f fd,Fun K x x st f fd∧mg x=some (.ref f):=by
 obtain ⟨f,oc,od,kV,dc,pm,an,cd,ct,sl,a,l,c,k⟩:=d
 exact ⟨f,_,zbc l c k,PySem.W.mg_of X G a⟩
abbrev Bd (x q:Str) (st:Stmt) (ps:List Str) (us:List Value):Prop:=∀ (kV doc pm:Value) (an:Option Addr) (cdv ct:Value),bindArgs (Qg x q (z2M st) (z1h st) (z07 st) .none kV doc pm an cdv ct) ⟨us,[]⟩=pure (ps.zip us)
variable {p1 p2 p3 p4 p5 p6:Str}
theorem bd1 (F:Fun K x q st f fd) (h:∀ a,Bd x q st [p1] [a]):Binds K fd [p1] []:=F.binds fun _ _ _ _ _ _ us hl=>match us,hl with
 | [a],_=>h a _ _ _ _ _ _
theorem bd2 (F:Fun K x q st f fd) (h:∀ a b,Bd x q st [p1,p2] [a,b]):Binds K fd [p1,p2] []:=F.binds fun _ _ _ _ _ _ us hl=>match us,hl with
 | [a,b],_=>h a b _ _ _ _ _ _
theorem bd3 (F:Fun K x q st f fd) (h:∀ a b c,Bd x q st [p1,p2,p3] [a,b,c]):Binds K fd [p1,p2,p3] []:=F.binds fun _ _ _ _ _ _ us hl=>match us,hl with
 | [a,b,c],_=>h a b c _ _ _ _ _ _
theorem bd4 (F:Fun K x q st f fd) (h:∀ a b c d,Bd x q st [p1,p2,p3,p4] [a,b,c,d]):Binds K fd [p1,p2,p3,p4] []:=F.binds fun _ _ _ _ _ _ us hl=>match us,hl with
 | [a,b,c,d],_=>h a b c d _ _ _ _ _ _
end
theorem fm1 {α:Type} {P:α→Prop} {a:α} (x:P a):∀ z ∈ [a],P z:=fun _ h=>by cases h with | head=>exact x | tail _ h=>cases h
end DV
namespace L2
open PySem PySem.Spec PyProof.Rows
section
variable {X:Cx} {tg:Expr}
end
section
variable {X:Cx} {e:Expr} {ta:TE} {f:Str} {pos:Pos}
structure AtT (K:W0) (ce:DV.Tx→Nat) (ys:List DV.Tx) (f:Str):Prop where
 k:∀ z ∈ ys,ExcK K (ce z)
 no:∀ z ∈ ys,QP K (.ref (ce z)) f=some none
 hd:∀ z ∈ ys,PySem.W.hasDictIn K (ce z)=true
end
end L2
namespace DV
open PySem PySem.Spec PyProof.Rows L2
section
variable {X:Cx} {c:Fc} {tg e:Expr} {fe:DE} {pos pp:Pos}
end
end DV
namespace L2
open PySem PySem.Spec PyProof.Rows
section
variable {X:Cx}
end
end L2
namespace DV
open PySem PySem.Spec PyProof.Rows L2
end DV
namespace L2
open PySem PySem.Spec PyProof.Rows PySem.SeqAt DV
def zcc (z:Str):Value→Bool
 | .str x _=>x == z
 | _=>false
theorem zbn {xs:List V} {us:List Value} (h:Vals xs us):∀ (j:Nat) (u:Value),us[j]? = some u→∃ v,xs[j]? = some v∧RelV v u:=by
 induction h with
 | nil=>intro j u e; simp at e
 | cons r rs ih =>
  intro j u e
  cases j with
  | zero=>simp at e; subst e; exact ⟨_,rfl,r⟩
  | succ j=>simpa using ih j u (by simpa using e)
def zcV (K:W0):V→List V→Hp→VK→Prop:=fun x xs H Q=>∃ (a:Addr) (ts:List Tx) (z:Tx),x = .ref a∧xs=[.str (toS z)]∧SqL K H a (ts.map fun t=>V.str (toS t))∧z ∈ ts∧ts.length≤1000∧Q (.int (ts.idxOf z:Nat)) H
section
variable {X:Cx}
theorem zc7:MtR X "list.index" (zcV X.K):=by
 intro pins s σ H x xs v us Q I rx rs h
 obtain ⟨a,ts,z,rfl,rfl,hq,hm,hl,q⟩:=h
 obtain ⟨u,rfl,ru⟩:=z3B rs
 obtain ⟨tk,rfl⟩:=ru
 cases rx
 obtain ⟨its,r',p,_⟩:=I.list hq
 obtain ⟨⟨cls,dd,data,sl⟩,ho,hc,n,hd⟩:=p.isList
 simp only at hc hd
 subst hc; subst hd
 have at':∀ j (hj:j < its.length),∃ t tk,ts[j]? = some t∧its[j] = .str (toS t) tk:=fun j hj=>by
  obtain ⟨v,e1,r1⟩:=zbn r' j _ (Wk hj)
  rw [Wz] at e1
  obtain ⟨t,e2,e3⟩:=Option.map_eq_some_iff.mp e1
  subst e3
  obtain ⟨tk,e4⟩:=r1
  exact ⟨t,tk,e2,e4⟩
 have hlen:its.length=ts.length:=by have:=r'.length; simpa using this.symm
 have hj:ts.idxOf z < ts.length:=List.idxOf_lt_length_iff.mpr hm
 have hj':ts.idxOf z < its.length:=by omega
 refine QS QB ⟨_,ho,rfl⟩ PySem.F.entry_list_index (PySem.F.args_list_index_2 _ _) (list_indexAt a _ n dd sl (.str (toS z) tk) (zcc (toS z)) (ts.idxOf z) (by simpa using hj') (by omega) ?_ ?_) ⟨ho,fun y hy=>?_,⟨.int (ts.idxOf z:Nat),H,I.tok _,⟨_,rfl⟩,q⟩⟩
 ·obtain ⟨t,tk',e1,e2⟩:=at' _ hj'
  have e3:ts[ts.idxOf z]=z:=List.getElem_idxOf hj
  rw [Wk hj,e3] at e1
  cases e1
  simp only [List.getElem_toArray,e2,zcc]
  exact beq_self_eq_true _
 ·intro m hm' hlt
  have hm1:m < its.length:=by simpa using hm'
  obtain ⟨t,tk',e1,e2⟩:=at' m hm1
  have hne:t≠z:=fun e=>by
   subst e
   have hm2:m < ts.length:=by omega
   have z2:=List.not_of_lt_findIdx (p:=(· == t)) (xs:=ts) (i:=m) hlt
   rw [Wk hm2] at e1
   cases e1
   simp at z2
  simp only [List.getElem_toArray,e2,zcc]
  rw [z5p]
  exact beq_false_of_ne hne
 ·have hy':y ∈ its:=by simpa using hy
  obtain ⟨j,hjj,rfl⟩:=List.getElem_of_mem hy'
  obtain ⟨t,tk',e1,e2⟩:=at' j hjj
  rw [e2]
  exact EqAt.str_str _ _ _ _
end
end L2
namespace DV
open PySem PySem.Spec PyProof.Rows L2
def isLD:D→Bool
 | .lst _=>true
 | _=>false
def z6T (x y:D):Option S:=match x,y with
 | .lst ds,.str z=>match z2D ds with
  | some ts=>if z ∈ ts∧ts.length≤1000 then some (.pure (.int (ts.idxOf z:Nat))) else none
  | none=>none
 | _,_=>none
def eIdx (fa fb:DE):DE:=fun δ=>(fa δ).bind fun r δ1=>if isLD r.d then (fb δ1).bind fun y δ2=>p2 z6T r.d y.d δ2 else .stuck
section
variable {X:Cx} {c:Fc} {o e:Expr} {fa fb:DE}
theorem zc4 {K:W0}:Op2 (fun x y H Q=>zcV K x [y] H Q) z6T:=by
 intro c σ δ H x y d e s Q k rx ry hp q
 cases d with
 | lst ds =>
  cases e with
  | str z =>
   simp only [z6T] at hp
   split at hp
   ·rename_i ts ht
    split at hp
    ·rename_i hz
     cases hp
     obtain ⟨a,vs,ea,ha,r⟩:=rx.lst
     have ev:=z1J ht r
     subst ev
     exact ⟨a,ts,z,ea,by rw [ry.str],.inl ha,hz.1,hz.2,q _ H (.refl k) (.int _)⟩
    ·cases hp
   ·cases hp
  | _=>simp [z6T] at hp
 | _=>simp [z6T] at hp
theorem zcG {apos cpos:Pos} (he:SE X c o fa) (hx:SE X c e fb)
  (hbase:Ql o "index" X.env (eval o X.env)=eval o X.env:=by rfl)
  (hfew:((WK cpos (W5 [e] X.env)).all (fun x=>!x.1) && (backToKw cpos (QN [] X.env)).all (fun x=>x.1.isSome)
   && decide ([e].length + ([]:List Keyword).length + (if ([]:List Keyword).isEmpty then 0 else 1) < 30))=true:=by rfl)
  (hline:(apos.endLine == cpos.line)=true:=by rfl) (hs:W5 [e] X.env=(false,eval e X.env) :: W5 [] X.env:=by rfl) :
  SE X c (.Call (.Attribute o "index" apos) [e] [] cpos) (eIdx fa fb):=by
 refine PE.weak (z8T QA QB PySem.F.type_list_index zc7 he (z0X hx z1S hs) hbase hfew hline hs rfl) fun σ H Q h=>?_
 obtain ⟨δ,k,q⟩:=h
 unfold eIdx at q
 rw [z04] at q
 refine ⟨δ,k,z01 q fun r δ1 q1 v H1 a1 r1=>?_⟩
 split at q1
 case isFalse=>exact q1.elim
 rename_i hL
 have ty:tyV X.K "list" v H1:=by
  have r2:=r1.rep
  cases hd:r.d <;> rw [hd] at hL <;> try cases hL
  rw [hd] at r2
  obtain ⟨a,vs,ea,ha,_⟩:=RepB.lst (.inl r2:RepB c σ δ1 H1 v _)
  subst ea
  exact .inl ⟨rfl,_,.inl ha⟩
 rw [z04] at q1
 refine ⟨ty,δ1,a1.ok,z01 q1 fun y δ2 q2 u H2 a2 r2=>?_⟩
 exact z6U zc4 a2.ok (.inl (Rep.aft r1.rep a2)) (.inl r2.rep) (z01 q2 fun s δ3 q3 v' H3 a3 r3=>q3 v' H3 (a1.trans (a2.trans a3)) (RepS.back r3 (a1.trans a2)))
end
end DV
namespace L2
open PySem PySem.Spec PyProof.Rows PySem.W DV
def Good (n:Nat) {α:Type}:KasT α→(α→Prop)→Prop
 | .ret a,R=>R a
 | .ask i j k,R=>i < n∧j < n∧i≠j∧∀ b,Good n (k b) R
def runK {α:Type} (lt:Nat→Nat→Bool):KasT α→α
 | .ret a=>a
 | .ask i j k=>runK lt (k (lt i j))
section
variable {α β:Type} {n:Nat}
theorem Good.bind {R:α→Prop} {R':β→Prop} {f:α→KasT β}:∀ {t:KasT α},Good n t R→(∀ a,R a→Good n (f a) R')→Good n (t.bind f) R'
 | .ret a,h,k=>k a h
 | .ask i j g,h,k=>⟨h.1,h.2.1,h.2.2.1,fun b=>Good.bind (h.2.2.2 b) k⟩
theorem Good.mono {R R':α→Prop}:∀ {t:KasT α},Good n t R→(∀ a,R a→R' a)→Good n t R'
 | .ret a,h,k=>k a h
 | .ask i j g,h,k=>⟨h.1,h.2.1,h.2.2.1,fun b=>Good.mono (h.2.2.2 b) k⟩
theorem Good.run {R:α→Prop} (lt:Nat→Nat→Bool):∀ {t:KasT α},Good n t R→R (runK lt t)
 | .ret a,h=>h
 | .ask i j g,h=>Good.run (t:=g (lt i j)) lt (h.2.2.2 _)
theorem Good.wp {R:α→Prop} {lt:Nat→Nat→Bool} {cmp:Nat→Nat→(Bool→W1→Prop)→W1→Prop} {G:α→W1→Prop} {s:W1}
  (hc:∀ i j,i < n→j < n→i≠j→∀ C:Bool→W1→Prop,C (lt i j) s→cmp i j C s):∀ {t:KasT α},Good n t R→G (runK lt t) s→t.kasWp cmp G s
 | .ret a,h,g=>g
 | .ask i j k,h,g=>hc i j h.1 h.2.1 h.2.2.1 _ (Good.wp hc (h.2.2.2 _) g)
end
section
variable {n:Nat} {p:Array Nat}
abbrev PermN (n:Nat) (p:Array Nat):Prop:=p.Perm (J5 (WS n))
theorem PermN.size (h:PermN n p):p.size=n:=by rw [Array.Perm.size_eq h]; simp
theorem PermN.list (h:PermN n p):p.toList.Perm (WS n):=by simpa using Array.perm_iff_toList_perm.mp h
theorem PermN.lt (h:PermN n p) (h0:0 < n) (i:Nat):p.getD i 0 < n:=by
 by_cases hi:i < p.size
 ·have:p[i] ∈ p.toList:=by simp
  have:=(h.list.mem_iff).mp this
  simpa [Array.getD,hi] using this
 ·simpa [Array.getD,hi] using h0
theorem PermN.ne (h:PermN n p) {i j:Nat} (hi:i < n) (hj:j < n) (e:i≠j):p.getD i 0≠p.getD j 0:=by
 have hs:=h.size
 have nd:p.toList.Nodup:=h.list.nodup_iff.mpr List.nodup_range
 have hi':i < p.size:=by omega
 have hj':j < p.size:=by omega
 intro z
 have e1:p.getD i 0=p.toList[i]'(by simpa using hi'):=by simp [Array.getD,hi']
 have e2:p.getD j 0=p.toList[j]'(by simpa using hj'):=by simp [Array.getD,hj']
 rw [e1,e2] at z
 rcases Nat.lt_or_gt_of_ne e with q | q
 ·exact (List.pairwise_iff_getElem.mp nd) i j (by simpa using hi') (by simpa using hj') q z
 ·exact (List.pairwise_iff_getElem.mp nd) j i (by simpa using hj') (by simpa using hi') q z.symm
theorem PermN.rev (h:PermN n p) (i j:Nat):PermN n (kas_rev p i j):=(mirror_perm p i j _).trans h
theorem PermN.bub (h:PermN n p) (i j:Nat):PermN n (bubble p i j):=(bubble_perm p i j).trans h
theorem z5K (h:PermN n p):∀ (f m:Nat),1≤m→m + f≤n→Good n (kas_asc p f m) (fun r=>m≤r∧r≤n)
 | 0,m,h1,h2=>⟨Wc _,h2⟩
 | f + 1,m,h1,h2=>⟨h.lt (by omega) _,h.lt (by omega) _,h.ne (by omega) (by omega) (by omega),fun b=>by
  cases b
  ·exact (z5K h f (m + 1) (by omega) (by omega)).mono fun r z=>⟨by omega,z.2⟩
  ·exact ⟨Wc _,by omega⟩⟩
theorem z3u:∀ (f:Nat) {p:Array Nat} (h:PermN n p) (m q:Nat),1≤m→m + f≤n→Good n (kas_desc f p m q) (fun r=>PermN n r.1∧1≤r.2.1∧r.2.1≤n)
 | 0,p,h,m,q,h1,h2=>⟨h,h1,h2⟩
 | f + 1,p,h,m,q,h1,h2=>⟨h.lt (by omega) _,h.lt (by omega) _,h.ne (by omega) (by omega) (by omega),fun b=>by
  cases b
  ·refine ⟨h.lt (by omega) _,h.lt (by omega) _,h.ne (by omega) (by omega) (by omega),fun d=>?_⟩
   cases d
   ·exact z3u f h (m + 1) (q + 1) (by omega) (by omega)
   ·exact ⟨h,h1,show m≤n by omega⟩
  ·show Good n (if q > 0 then kas_desc f (kas_rev p (m - (q + 1)) m) (m + 1) 0 else kas_desc f p (m + 1) 0) _
   split
   ·exact z3u f (h.rev _ _) (m + 1) 0 (by omega) (by omega)
   ·exact z3u f h (m + 1) 0 (by omega) (by omega)⟩
theorem z5g (h:PermN n p) {m:Nat} (h1:1≤m) (h2:m≤n):Good n (kas_tail3 m n p) (fun r=>PermN n r.2∧1≤r.1∧r.1≤n) :=
 (z5K (h.rev 0 m) (n - m) m h1 (by omega)).bind fun r z=>⟨h.rev _ _,by have:=z.1; omega,z.2⟩
theorem z3t (h:PermN n p) {m:Nat} (h1:1≤m) (h2:m + 1≤n):Good n (kas_descPart m n p) (fun r=>PermN n r.2∧1≤r.1∧r.1≤n) :=
 (z3u (n - (m + 1)) h (m + 1) 0 (by omega) (by omega)).bind fun r z=>by
  show Good n (if r.2.2 > 0 then _ else _) _
  split
  ·exact z5g (z.1.rev _ _) z.2.1 z.2.2
  ·exact z5g z.1 z.2.1 z.2.2
theorem z82 (h:PermN n p) (h2:2≤n):Good n (kas_count n p) (fun r=>PermN n r.2∧1≤r.1∧r.1≤n) :=
 (z5K h (n - 1) 1 (by omega) (by omega)).bind fun m z=>by
  show Good n (if (m == n)=true then _ else _) _
  split
  ·exact ⟨h,z.1,z.2⟩
  ·rename_i hm
   have hm':m≠n:=fun e=>hm (by simp [e])
   split
   ·refine ⟨h.lt (by omega) _,h.lt (by omega) _,h.ne (by omega) (by omega) (by omega),fun c=>?_⟩
    cases c
    ·exact z3t (h.rev _ _) z.1 (by omega)
    ·exact ⟨h,z.1,z.2⟩
   ·exact z3t h z.1 (by omega)
theorem z3R (h:PermN n p) {k:Nat} (hk:k < n):∀ (f l r:Nat),r≤k→Good n (kas_place p k f l r) (fun _=>True)
 | 0,l,r,_=>trivial
 | f + 1,l,r,hr=>by
  show Good n (if l ≥ r then _ else _) _
  split
  ·trivial
  ·refine ⟨h.lt (by omega) _,h.lt (by omega) _,h.ne (by omega) (by omega) (by omega),fun c=>?_⟩
   cases c
   ·exact z3R h hk f _ _ hr
   ·exact z3R h hk f _ _ (by omega)
theorem z7z:∀ (f:Nat) {p:Array Nat} (h:PermN n p) (k:Nat),k + f≤n→Good n (kas_bin f p k) (fun r=>PermN n r)
 | 0,p,h,k,_=>h
 | f + 1,p,h,k,hk=>(z3R h (by omega) k 0 k (Wc _)).bind fun l _=>z7z f (h.bub _ _) (k + 1) (by omega)
theorem z6w (h2:2≤n):Good n (kas_sort n) (fun r=>PermN n r) :=
 (z82 (.refl _) h2).bind fun r z=>by
  show Good n (if r.1 < n then _ else _) _
  split
  ·exact z7z _ z.1 _ (by omega)
  ·exact z.1
end
def ordK (ks:List Tx):List Nat:=(runK (fun i j=>decide (ks.getD i [] < ks.getD j [])) (kas_sort ks.length)).toList
theorem z3j {ks:List Tx} (h:2≤ks.length):(ordK ks).Perm (WS ks.length):=PermN.list (Good.run _ (z6w h))
structure TupK (h:Heap) (vs:List Value) (ks:List Tx):Prop where
 len:ks.length=vs.length
 at':∀ i v,vs[i]? = some v→∃ b o xs m t,v = .ref b∧h.get? b=some o∧o.cls = .type "tuple"∧o.data = .seq xs m∧xs[0]? = some (.str (toS (ks.getD i [])) t)
theorem TupK.keeps {h h':Heap} {vs:List Value} {ks:List Tx} (t:TupK h vs ks) (k:∀ b o,h.get? b=some o→o.cls = .type "tuple"→h'.get? b=some o):TupK h' vs ks :=
 ⟨t.len,fun i v e=>let ⟨b,o,xs,m,tk,e1,e2,e3,r⟩:=t.at' i v e; ⟨b,o,xs,m,tk,e1,k b o e2 e3,e3,r⟩⟩
theorem zbb {h:Heap}:∀ {vs:List Value} {ks:List Tx},TupK h vs ks→∃ fs,KatTups h vs fs∧fs.length=vs.length∧∀ v ∈ fs,∃ x t,v=Value.str x t
 | [],ks,t=>⟨[],trivial,rfl,fun v h=>by simp at h⟩
 | v :: vs,[],t=>by have:=t.len; simp at this
 | v :: vs,k :: ks,t=>by
  obtain ⟨fs,a,b,c⟩:=zbb (vs:=vs) (ks:=ks) ⟨by have:=t.len; simpa using this,fun i v e=>by
   have:=t.at' (i + 1) v (by simpa using e)
   simpa using this⟩
  obtain ⟨x,o,xs,m,tk,rfl,e2,e3,e4,e5⟩:=t.at' 0 v rfl
  exact ⟨_ :: fs,⟨⟨x,o,xs,m,rfl,e2,e3,e4,e5⟩,a⟩,by simp [b],fun v hv=>by
   rcases Wh.mp hv with rfl | hv
   ·exact ⟨_,_,rfl⟩
   ·exact c v hv⟩
section
variable {prog:Wi} {w:Wp} {A:Wn} {E:Value→W1→Prop} {s:W1} {vs:List Value} {ks:List Tx}
theorem zcs (t:TupK s.heap vs ks) (nd:ks.Nodup) {i j:Nat} (hi:i < vs.length) (hj:j < vs.length) (ne:i≠j) {C:Bool→W1→Prop} (h:C (decide (ks.getD i [] < ks.getD j [])) s):kas_ask prog w A (tuples' true) vs i j C s:=by
 obtain ⟨a,o,xs,m,tk,e1,e2,e3,e4,e5⟩:=t.at' i vs[i] (by simp [hi])
 obtain ⟨b,p,ys,n,tl,f1,f2,f3,f4,f5⟩:=t.at' j vs[j] (by simp [hj])
 unfold kas_ask
 rw [Qn,Qn,Wk hi,Wk hj]
 simp only [Option.getD_some]
 rw [e1,f1]
 refine kat_lt e2 e4 f2 f4 ?_
 have hx:∃ r,xs.toList = .str (toS (ks.getD i [])) tk :: r:=by
  have:xs.toList[0]? = some (.str (toS (ks.getD i [])) tk):=by simpa using e5
  cases z:xs.toList with
  | nil=>rw [z] at this; simp at this
  | cons u r=>rw [z] at this; simp at this; exact ⟨r,by rw [this]; simp⟩
 have hy:∃ r,ys.toList = .str (toS (ks.getD j [])) tl :: r:=by
  have:ys.toList[0]? = some (.str (toS (ks.getD j [])) tl):=by simpa using f5
  cases z:ys.toList with
  | nil=>rw [z] at this; simp at this
  | cons u r=>rw [z] at this; simp at this; exact ⟨r,by rw [this]; simp⟩
 obtain ⟨r,hr⟩:=hx
 obtain ⟨q,hq⟩:=hy
 rw [hr,hq,List.zip_cons_cons]
 have hki:i < ks.length:=by rw [t.len]; exact hi
 have hkj:j < ks.length:=by rw [t.len]; exact hj
 have hne:(toS (ks.getD i []) == toS (ks.getD j []))=false:=by
  rw [beq_eq_false_iff_ne]
  intro z
  have z:=z5o z
  rw [Qn,Qn,Wk hki,Wk hkj] at z
  exact ne ((Jd nd).mp z)
 refine kat_cons (eqBool_str ?_)
 rw [hne]
 refine kat_no (oneLt_str ?_)
 rw [z3D,z3D]
 exact h
theorem z9X {a:Addr} {n:Nat} {P:PySem.Fin→W1→Prop} (ho:s.heap.get? a=some (WP "list" vs.toArray n)) (t:TupK s.heap vs ks) (nd:ks.Nodup) (h2:2≤vs.length) (h64:vs.length < 64)
  (h:P (.done (.ret .none)) { s with heap:=sortedHeap s.heap a vs (J5 ((ordK ks).map fun i=>vs.getD i Value.none)) }):Wa (model prog w) A (Builtin.«list.sort» ⟨[.ref a],[]⟩) P E s:=by
 have hlt:a < s.heap.objs.size:=Wf ho
 obtain ⟨e1,ho1⟩:∃ e1,(s.heap.update a (Obj.mapSeq fun _=>(#[]:Array Value))).get? a=some (WP "list" #[] e1):=⟨_,get?_update_seq ho fun _=>#[]⟩
 rw [list_sort_plain]
 refine W2 (listItems_at ho rfl (W2 (listUpdate_at ho rfl (W2 (seqEpoch_at ho1 rfl (W2 (wpAny_newTuple (W2 (wpAny_newList (Q7 ?_) (Qf _))) (by show vs.length≤_; rw [Qu]; omega))))) (by rw [We,Qu]; omega) (Qf _))))
 show Wa (model prog w) A _ P E { s with heap:=((s.heap.update a (Obj.mapSeq fun _=>(#[]:Array Value))).push (WP "tuple" vs.toArray 0)).push (WP "list" #[] 0) }
 have h6:(((s.heap.update a (Obj.mapSeq fun _=>(#[]:Array Value))).push (WP "tuple" vs.toArray 0)).push (WP "list" #[] 0)).get? a=some (WP "list" #[] e1):=W7 _ (W7 _ ho1)
 have t6:TupK (((s.heap.update a (Obj.mapSeq fun _=>(#[]:Array Value))).push (WP "tuple" vs.toArray 0)).push (WP "list" #[] 0)) vs ks:=t.keeps fun b o e c=>by
  have nb:b≠a:=fun z=>by
   rw [z,ho] at e
   cases e
   exact absurd (Value.type.inj c) (by decide)
  refine W7 _ (W7 _ ?_)
  rw [WF _ _ (Ne.symm nb)]
  exact e
 dsimp only
 have hn2:¬ vs.toArray.size < 2:=by rw [We]; omega
 rw [if_neg hn2,if_neg hn2]
 obtain ⟨fs,kt,fl,ft⟩:=zbb t6
 refine W2 (kat_kind (s:={ s with heap:=((s.heap.update a (Obj.mapSeq fun _=>(#[]:Array Value))).push (WP "tuple" vs.toArray 0)).push (WP "list" #[] 0) }) (T:=.type "str") kt (by omega) (fun v hv=>by obtain ⟨x,tk,rfl⟩:=ft v hv; exact .now) rfl ?_)
 refine W2 (WE (kat_run (s:={ s with heap:=((s.heap.update a (Obj.mapSeq fun _=>(#[]:Array Value))).push (WP "tuple" vs.toArray 0)).push (WP "list" #[] 0) }) (κ:=tuples' true) (ks:=vs) (vs:=vs) (E:=E)
  (G:=fun p s'=>p.toList=ordK ks∧s' = { s with heap:=((s.heap.update a (Obj.mapSeq fun _=>(#[]:Array Value))).push (WP "tuple" vs.toArray 0)).push (WP "list" #[] 0) })
  (Q:=fun st' s'=>(arrOf st').map (·.2)=J5 ((ordK ks).map fun i=>vs.getD i Value.none)∧failedOf st'=none∧s' = { s with heap:=((s.heap.update a (Obj.mapSeq fun _=>(#[]:Array Value))).push (WP "tuple" vs.toArray 0)).push (WP "list" #[] 0) })
  rfl h2 h64 (fun p st' s' a1 a2 a3 a4=>⟨by rw [kat_snds rfl a2,a4.1],a3,a4.2⟩) ?_) ?_ fun _ _ e=>e)
 ·refine Good.wp (n:=vs.length) (lt:=fun i j=>decide (ks.getD i [] < ks.getD j [])) (R:=fun _=>True) (fun i j hi hj ne C hC=>zcs t6 nd hi hj ne hC) ((z6w h2).mono fun _ _=>trivial) ⟨?_,rfl⟩
  unfold ordK
  rw [t.len]
 ·rintro ⟨⟨⟩,st'⟩ s' ⟨q1,q2,rfl⟩
  dsimp only at q1 q2 ⊢
  have hz:((ordK ks).map fun i=>vs.getD i Value.none).length=vs.length:=by
   rw [Wy,(z3j (ks:=ks) (by rw [t.len]; exact h2)).length_eq,List.length_range,t.len]
  rw [q1]
  refine W2 (seqEpoch_at h6 rfl (W2 (listUpdate_at h6 rfl ?_ (Qf _) (by rw [We,hz,Qu]; omega))))
  rw [q2]
  simp only [bne_self_eq_false,Bool.false_eq_true,if_false]
  exact Wb h
theorem z7N {l:Addr} {Q:Value→W1→Prop} (hl:s.heap.IsList l vs.toArray) (t:TupK s.heap vs ks) (nd:ks.Nodup) (h2:2≤vs.length) (h64:vs.length < 64)
  (h:Q (.ref (s.heap.objs.size + 1)) { s with heap:=sortedAll s.heap vs (J5 ((ordK ks).map fun i=>vs.getD i Value.none)) }):Wa (model prog w) A (call (.builtin "sorted") [.ref l]) Q E s:=by
 refine Calls.call_function_entry kind_sorted plain_sorted entry_sorted (args_sorted1 _) ?_
 unfold Builtin.«sorted»
 refine W2 (m:=checkCount "sorted" 1 1 _) (Wb (W2 (collect_list hl (W2 (wpAny_newList ?_ (by rw [Qu]; omega))) (by rw [Qu]; omega))))
 have hz:((s.heap.push (WP "list" #[] 0)).update s.heap.objs.size (Obj.mapSeq (· ++ vs.toArray))).objs.size=s.heap.objs.size + 1:=by rw [Heap.size_update,size_push']
 have hoL:(((s.heap.push (WP "list" #[] 0)).update s.heap.objs.size (Obj.mapSeq (· ++ vs.toArray))).push (WP "list" vs.toArray 0)).get? (s.heap.objs.size + 1)=some (WP "list" vs.toArray 0):=by
  rw [← hz]; exact Wr _ rfl
 have t2:TupK (((s.heap.push (WP "list" #[] 0)).update s.heap.objs.size (Obj.mapSeq (· ++ vs.toArray))).push (WP "list" vs.toArray 0)) vs ks:=t.keeps fun b o e _=>by
  have hb:b < s.heap.objs.size:=Wf e
  refine W7 _ ?_
  rw [WF _ _ (Nat.ne_of_gt hb)]
  exact W7 _ e
 show Wa _ _ _ _ _ { s with heap:=((s.heap.push (WP "list" #[] 0)).update s.heap.objs.size (Obj.mapSeq (· ++ vs.toArray))).push (WP "list" vs.toArray 0) }
 rw [hz]
 refine W2 (Q7 (wpAny_call_entry slot_list_sort ⟨_,hoL,rfl⟩ entry_list_sort (z9X (s:={ s with heap:=((s.heap.push (WP "list" #[] 0)).update s.heap.objs.size (Obj.mapSeq (· ++ vs.toArray))).push (WP "list" vs.toArray 0) }) hoL t2 nd h2 h64 ⟨_,rfl,?_⟩) (args_list_sort _)))
 exact Wb ⟨_,rfl,h⟩
end
theorem Vals.at2 {vs:List V} {its:List Value} {i:Nat} {v:V} {u:Value} (r:Vals vs its) (e1:vs[i]? = some v) (e2:its[i]? = some u):RelV v u:=by
 obtain ⟨u',e,q⟩:=Vals.get r e1
 rw [e2] at e; cases e; exact q
theorem Vals.pick {vs:List V} {its:List Value} (r:Vals vs its):∀ is:List Nat,(∀ i ∈ is,i < vs.length)→Vals (is.map fun i=>vs.getD i .non) (is.map fun i=>its.getD i Value.none)
 | [],_=>.nil
 | i :: is,h=>by
  refine .cons ?_ (Vals.pick r is fun j hj=>h j (Wj _ hj))
  have hi:=h i Wo
  have hl:=r.length
  have e1:vs.getD i .non=vs[i]:=by simp [hi]
  have e2:its.getD i Value.none=its[i]'(by omega):=by simp [show i < its.length by omega]
  show RelV (vs.getD i .non) (its.getD i Value.none)
  rw [e1,e2]
  exact Vals.at2 (i:=i) r (Wk hi) (Wk (by omega))
section
variable {X:Cx}
theorem z8a:CallR X (.builtin "sorted") (fun xs H Q=>∃ (a:Addr) (vs:List V) (ks:List Tx),xs=[.ref a]∧SqL X.K H a vs∧ks.length=vs.length∧(∀ (i:Nat) v,vs[i]? = some v→∃ b ws,v = .ref b∧H b=some (.tup ws)∧ws[0]? = some (.str (toS (ks.getD i []))))∧ks.Nodup∧2≤vs.length∧vs.length < 64 ∧
  ∀ p,H p=none→Q (.ref p) (upd H p (.lst ((ordK ks).map fun i=>vs.getD i .non)))):=by
 intro pins s σ H xs us Q I r h
 obtain ⟨a,vs,ks,rfl,hq,hlen,ht,nd,h2,h64,q⟩:=h
 obtain ⟨u,rfl,ru⟩:=z3B r
 cases ru
 obtain ⟨its,r',p,_⟩:=I.list hq
 have hl:=r'.length
 have t:TupK s.heap its ks:=⟨by omega,fun i v e=>by
  have hi:i < its.length:=(W3.mp e).1
  have hv:vs[i]? = some (vs[i]'(by omega)):=by simp [show i < vs.length by omega]
  have rv:=Vals.at2 r' hv e
  obtain ⟨b,ws,eb,hb,h0⟩:=ht i _ hv
  rw [eb] at rv
  obtain rfl:v=Value.ref b:=rv
  obtain ⟨_,its',r2,n,eo⟩:=(show ObjOk X.prog X.w H s.heap b (.tup ws) from I.hok b _ hb)
  have hl2:=r2.length
  have hw0:0 < ws.length:=(W3.mp h0).1
  have r0:=Vals.at2 r2 h0 (show its'[0]? = some (its'[0]'(by omega)) by simp [show 0 < its'.length by omega])
  obtain ⟨tk,e0⟩:=(show ∃ tk,its'[0]'(by omega)=Value.str (toS (ks.getD i [])) tk from r0)
  exact ⟨b,_,its'.toArray,n,tk,rfl,eo,rfl,rfl,by rw [← e0]; simp [show 0 < its'.length by omega]⟩⟩
 refine z7N p.isList t nd (by omega) (by omega) ?_
 have hp:=z3j (ks:=ks) (by omega)
 have hlo:((ordK ks).map fun i=>vs.getD i V.non).length=vs.length:=by rw [Wy,hp.length_eq,List.length_range,hlen]
 obtain ⟨e,he⟩:=sortedAll_at s.heap its (J5 ((ordK ks).map fun i=>its.getD i Value.none))
 have I1:Inv X pins σ (upd H (s.heap.objs.size + 1) (.lst ((ordK ks).map fun i=>vs.getD i .non))) { s with heap:=sortedAll s.heap its (J5 ((ordK ks).map fun i=>its.getD i Value.none)) } :=
  I.laid (t':=s.toks) (fun b o z=>sortedAll_old z) (Nat.le_succ _) (show ObjOk X.prog X.w _ _ _ (.lst ((ordK ks).map fun i=>vs.getD i .non)) from ⟨by rw [hlo,Qu]; omega,(ordK ks).map fun i=>its.getD i Value.none,e,r'.pick _ fun i hi=>by
   have:=hp.mem_iff.mp hi
   simp at this
   omega,he⟩)
 exact ⟨.ref _,_,I1,rfl,q _ (I.hok.fresh (Nat.le_succ _))⟩
end
end L2
namespace DV
open PySem PySem.Spec PyProof.Rows L2
def z6p:List D→Option (List Tx)
 | []=>some []
 | .tup (.str x :: _) :: r=>(z6p r).map (x :: ·)
 | _ :: _=>none
theorem z7v:∀ {ds:List D} {ks:List Tx},z6p ds=some ks→ks.length=ds.length∧∀ (i:Nat) d,ds[i]? = some d→∃ r,d = .tup (.str (ks.getD i []) :: r)
 | [],ks,h=>by cases h; exact ⟨rfl,fun i d e=>by simp at e⟩
 | d :: r,ks,h=>by
  unfold z6p at h
  split at h
  ·rename_i e; cases e
  ·rename_i x q r' e
   cases e
   cases e:z6p r with
   | none=>rw [e] at h; cases h
   | some ks' =>
    rw [e] at h
    cases h
    obtain ⟨h1,h2⟩:=z7v e
    refine ⟨by simp [h1],fun i d' e'=>?_⟩
    cases i with
    | zero=>simp at e'; subst e'; exact ⟨q,by simp⟩
    | succ i=>simpa using h2 i d' (by simpa using e')
  ·cases h
def ndT:List Tx→Bool
 | []=>true
 | x :: r=>!r.contains x && ndT r
theorem zb6:∀ {ks:List Tx},ndT ks=true→ks.Nodup
 | [],_=>.nil
 | x :: r,h=>by
  simp only [ndT,Wg,Ja,List.contains_iff_mem,← Bool.not_eq_true] at h
  exact List.nodup_cons.mpr ⟨by simpa using h.1,zb6 h.2⟩
def z3W:D→Option S
 | .lst ds=>match z6p ds with
  | some ks=>if 2≤ks.length∧ks.length < 64∧ndT ks=true then some (.own (.lst ((ordK ks).map fun i=>ds.getD i .non))) else none
  | none=>none
 | _=>none
section
variable {X:Cx} {c:Fc} {e:Expr} {fb:BE} {pp pos:Pos}
theorem Reps.pick {H:Hp} {O:Addr→Prop} {vs:List V} {ds:List D} (r:Reps H O vs ds):∀ is:List Nat,(∀ i ∈ is,i < vs.length)→Reps H O (is.map fun i=>vs.getD i .non) (is.map fun i=>ds.getD i .non)
 | [],_=>.nil
 | i :: is,h=>by
  have hi:=h i Wo
  have hl:=r.1
  refine .cons (r.2 i _ _ ?_ ?_) (Reps.pick r is fun j hj=>h j (Wj _ hj))
  ·simp [hi]
  ·simp [show i < ds.length by omega]
theorem za0 (hg:Gl X "sorted") (hm:X.mg "sorted" = none) (he:SB X c e fb) (hs:W5 [e] X.env=(false,eval e X.env) :: W5 [] X.env:=by rfl):SE X c (.Call (.Name "sorted" pp) [e] [] pos) (eC1 z3W fb) :=
 z4e (r:=fun v H Q=>∃ (a:Addr) (vs:List V) (ks:List Tx),v = .ref a∧SqL X.K H a vs∧ks.length=vs.length∧(∀ (i:Nat) v,vs[i]? = some v→∃ b ws,v = .ref b∧H b=some (.tup ws)∧ws[0]? = some (.str (toS (ks.getD i []))))∧ks.Nodup∧2≤vs.length∧vs.length < 64 ∧
  ∀ p,H p=none→Q (.ref p) (upd H p (.lst ((ordK ks).map fun i=>vs.getD i .non)))) z8a (fun v H Q ⟨a,vs,ks,e,h⟩=>⟨a,vs,ks,by rw [e],h⟩) (fun c σ δ H x d s Q k rx hp q=>by
  cases d with
  | lst ds =>
   simp only [z3W] at hp
   cases e:z6p ds with
   | none=>rw [e] at hp; cases hp
   | some ks =>
    rw [e] at hp
    simp only at hp
    split at hp
    ·rename_i hh
     cases hp
     obtain ⟨h1,h2⟩:=z7v e
     obtain ⟨a,vs,ea,ha,ra⟩:=rx.lst
     have hl:=ra.1
     refine ⟨a,vs,ks,ea,.inl ha,by omega,fun i v ev=>?_,zb6 hh.2.2,by omega,by omega,fun p hp=>?_⟩
     ·have hi:i < vs.length:=(W3.mp ev).1
      have hd:ds[i]? = some (ds[i]'(by omega)):=by simp [show i < ds.length by omega]
      obtain ⟨r,er⟩:=h2 i _ hd
      have rv:=ra.2 i v _ ev hd
      rw [er] at rv
      cases rv with
      | @tup b ws _ _ hb hlen hat =>
       have h0:0 < ws.length:=by rw [hlen]; simp
       have r0:=hat 0 (ws[0]'h0) (.str (ks.getD i [])) (by simp [h0]) rfl
       refine ⟨b,ws,rfl,hb,?_⟩
       generalize hz:ws[0]'h0=z at r0
       cases r0
       rw [Wk h0,hz]
     ·refine q _ _ (.alloc k hp _) (RepS.newL k (Reps.pick ra _ fun i hi=>?_) hp)
      have:=(z3j (ks:=ks) hh.1).mem_iff.mp hi
      simp at this
      omega
    ·cases hp
  | _=>simp [z3W] at hp) hg hm PyProof.Rows.boot_sorted he (by decide) (by decide) hs
end
open PySem (sizeLine)
section
variable {α β:Type}
@[simp] theorem z0o (a:α) (δ:Dl) (f:α→Dl→Rs β):(Rs.ok a δ).bind f=f a δ:=id rfl
@[simp] theorem zaC (f:α→Dl→Rs β):(Rs.stuck:Rs α).bind f = .stuck:=id rfl
@[simp] theorem z5P (d:D):(S.pure d).d=d:=id rfl
@[simp] theorem z9t (d:D):(S.own d).d=d:=id rfl
end
section
variable (δ:Dl) (i:Nat) (d e:D) (f g:DE) (fb:BE) (t u:DT) (p:D→D→Option S)
@[simp] theorem zdO:eD d δ = .ok (.pure d) δ:=id rfl
@[simp] theorem z4O:bOf f δ=(f δ).bind fun r δ'=>.ok r.d δ':=id rfl
@[simp] theorem zbf:eOp p f fb δ=(f δ).bind fun x δ1=>(fb δ1).bind fun y δ2=>p2 p x.d y δ2:=id rfl
@[simp] theorem ev_dAnd:dAnd t u δ=(t δ).bind fun b δ1=>if b then u δ1 else .ok false δ1:=id rfl
@[simp] theorem zdP:dOr t u δ=(t δ).bind fun b δ1=>if b then .ok true δ1 else u δ1:=id rfl
@[simp] theorem zck:dNot t δ=(t δ).bind fun b δ1=>.ok (!b) δ1:=id rfl
@[simp] theorem ev_eIf:eIf t f g δ=(t δ).bind fun b δ1=>if b then f δ1 else g δ1:=id rfl
@[simp] theorem ev_dNext:z0O δ = .ok .next δ:=id rfl
@[simp] theorem ev_dYes:dYes δ = .ok true δ:=id rfl
@[simp] theorem ev_dDrop:z6C f δ=(f δ).bind fun _ δ1=>.ok .next δ1:=id rfl
@[simp] theorem ev_dRet:dRet f δ=(f δ).bind fun r δ1=>.ok (.ret r) δ1:=id rfl
@[simp] theorem z9s (a b:DS):dIf t a b δ=(t δ).bind fun x δ1=>if x then a δ1 else b δ1:=id rfl
@[simp] theorem z2u (it:DI) (gg:DG) (b:DS):dFor it gg b δ=(it δ).bind fun ds δ1=>forL gg b ds δ1:=id rfl
@[simp] theorem ev_eTup (a:DA):eTup a δ=(a δ).bind fun ds δ'=>.ok (.pure (.tup ds)) δ':=id rfl
@[simp] theorem zcj (a:DA):eLst a δ=(a δ).bind fun ds δ'=>.ok (.own (.lst ds)) δ':=id rfl
@[simp] theorem ev_eLstC (ds:List D):zaE ds δ = .ok (.own (.lst ds)) δ:=id rfl
@[simp] theorem zcm:aNil δ = .ok [] δ:=id rfl
@[simp] theorem zaD (a:DA):z00 f a δ=(f δ).bind fun x δ1=>(a δ1).bind fun xs δ2=>.ok (x.d :: xs) δ2:=id rfl
@[simp] theorem z9r (q:D→Option S):eC1 q fb δ=(fb δ).bind fun x δ1=>p1 q x δ1:=id rfl
@[simp] theorem ev_eMax:eMax f g δ=(f δ).bind fun x δ1=>(g δ1).bind fun y δ2=>p2 pMax x.d y.d δ2:=id rfl
@[simp] theorem ev_eSl (fl fh:DOp):eSl f fl fh δ=(f δ).bind fun x δ1=>(fl δ1).bind fun l δ2=>(fh δ2).bind fun h δ3=>p1 (pSl l h) x.d δ3:=id rfl
@[simp] theorem ev_oNone:z7U δ = .ok none δ:=id rfl
@[simp] theorem z5O (cs:List Nat) (it:DI) (gg:DG) (el:DE):z0r cs it gg t el δ=(it δ).bind fun ds δ1=>if cs.any (z0p δ1) then .stuck else
 (z1u cs gg t el ds (clrD cs δ1) []).bind fun acc δ2=>.ok (.own (.lst acc)) (z1e cs δ1 δ2):=id rfl
@[simp] theorem zbe (np:List Nat) (r:S):gNm np i r δ=if np.contains i then none else some (δ.set i (some r)):=id rfl
@[simp] theorem zci (gg:DG) (b:DS):forL gg b [] δ = .ok .next δ:=id rfl
end
section
variable (δ:Dl) (i:Nat) (d e:D) (f g:DE) (fb:BE) (p:D→D→Option S) (s:S)
@[simp] theorem z75 (x y:D):p2 p x y δ=match p x y with | some s=>.ok s δ | none=>.stuck:=id rfl
@[simp] theorem zdN (q:D→Option S) (x:D):p1 q x δ=match q x with | some s=>.ok s δ | none=>.stuck:=id rfl
@[simp] theorem z76 (a b:DS):dSeq a b δ=(a δ).bind fun fl δ1=>match fl with | .next=>b δ1 | .ret r=>.ok (.ret r) δ1 | .brk=>.ok .brk δ1 | .cont=>.ok .cont δ1:=id rfl
@[simp] theorem zcu {α β:Type} (c:Prop) [Decidable c] (x y:Rs α) (k:α→Dl→Rs β):(if c then x else y).bind k=if c then x.bind k else y.bind k:=by split <;> rfl
end
theorem z0N:W6=16777216:=rfl
theorem z1t (xs:List α) (i:Nat):atI xs (i:Int)=xs[i]?:=by
 unfold atI ixN
 by_cases h:i < xs.length
 ·rw [if_pos (by omega),if_pos (by omega)]
  simp
 ·rw [if_pos (by omega),if_neg (by omega)]
  simp [WO (Nat.le_of_not_lt h)]
theorem z79 (xs:List α):atI xs 2=xs[2]?:=z1t xs 2
theorem z1s (xs:List α):atI xs 0=xs[0]?:=z1t xs 0
theorem z5U (xs:List α):atI xs 1=xs[1]?:=z1t xs 1
theorem z3x (I:Dl→Prop) (R:D→D→Prop) :
  ∀ (ds:List D) (δ:Dl) (acc:List D),I δ→acc.length + ds.length≤W6 →
   (∀ d ∈ ds,∀ δ,I δ→∃ δ1 δ2 x δ3,g (.pure d) δ=some δ1∧t δ1 = .ok true δ2∧el δ2 = .ok x δ3∧I (clrD cs δ3)∧R d x.d) →
   ∃ xs δ',z1u cs g t el ds δ acc = .ok (acc ++ xs) δ'∧I δ'∧xs.length=ds.length∧∀ (i:Nat) d x,ds[i]? = some d→xs[i]? = some x→R d x
 | [],δ,acc,h,_,_=>⟨[],δ,by simp [z1u],h,rfl,fun i d x e=>by simp at e⟩
 | d :: r,δ,acc,h,hl,hs=>by
  obtain ⟨δ1,δ2,x,δ3,e1,e2,e3,h3,hr⟩:=hs d Wo δ h
  have hl':acc.length < W6:=by simp at hl; omega
  obtain ⟨xs,δ',e4,h4,hn,hf⟩:=z3x (g:=g) (t:=t) (el:=el) I R r (clrD cs δ3) (acc ++ [x.d]) h3 (by simp at hl ⊢; omega) (fun d hd=>hs d (Wj _ hd))
  refine ⟨x.d :: xs,δ',?_,h4,by simp [hn],fun i d' x' f1 f2=>?_⟩
  ·unfold z1u
   rw [e1]
   simp only [e2,z0o,if_true,e3,if_pos hl',e4]
   simp
  ·cases i with
   | zero=>simp at f1 f2; subst f1 f2; exact hr
   | succ i=>exact hf i d' x' (by simpa using f1) (by simpa using f2)
theorem z4S (F:D→D) (δ:Dl) :
  ∀ (ds:List D) (acc:List D),acc.length + ds.length≤W6 →
   (∀ d ∈ ds,∃ δ1 δ2 x δ3,g (.pure d) δ=some δ1∧t δ1 = .ok true δ2∧el δ2 = .ok x δ3∧clrD cs δ3=δ∧x.d=F d) →
   z1u cs g t el ds δ acc = .ok (acc ++ ds.map F) δ:=by
 intro ds acc hl hs
 obtain ⟨xs,δ',e,h,hn,hf⟩:=z3x (cs:=cs) (g:=g) (t:=t) (el:=el) (fun δ'=>δ'=δ) (fun d x=>x=F d) ds δ acc rfl hl (fun d hd δ' h=>by
  subst h
  obtain ⟨δ1,δ2,x,δ3,a,b,c,d,e⟩:=hs d hd
  exact ⟨δ1,δ2,x,δ3,a,b,c,d,e⟩)
 subst h
 rw [e]
 congr 2
 apply List.ext_getElem?
 intro i
 by_cases hi:i < ds.length
 ·have:=hf i ds[i] (xs[i]'(by omega)) (by simp [hi]) (by simp [hn,hi])
  simp [hn,hi,this]
 ·rw [WO (by omega),WO (by simp; omega)]
theorem z1b (I:Nat→Dl→Prop) :
  ∀ (ds:List D) (n:Nat) (δ:Dl),I n δ →
   (∀ (i:Nat) d δ,ds[i]? = some d→I (n + i) δ→∃ δ1 δ2,g (.pure d) δ=some δ1∧b δ1 = .ok .next δ2∧I (n + i + 1) δ2) →
   ∃ δ',forL g b ds δ = .ok .next δ'∧I (n + ds.length) δ'
 | [],n,δ,h,_=>⟨δ,rfl,h⟩
 | d :: r,n,δ,h,hs=>by
  obtain ⟨δ1,δ2,e1,e2,h2⟩:=hs 0 d δ rfl h
  obtain ⟨δ',e3,h3⟩:=z1b (g:=g) (b:=b) I r (n + 1) δ2 h2 (fun i d' δ' e hi=>by
   have:=hs (i + 1) d' δ' (by simpa using e) (by rw [show n + (i + 1)=n + 1 + i by omega]; exact hi)
   rw [show n + (i + 1) + 1=n + 1 + i + 1 by omega] at this
   exact this)
  refine ⟨δ',?_,by rw [Qz,show n + (r.length + 1)=n + 1 + r.length by omega]; exact h3⟩
  unfold forL
  rw [e1]
  simp only [e2,z0o,e3]
theorem z4h (xs:List Tx):z2D (xs.map .str)=some xs:=by
 induction xs with
 | nil=>rfl
 | cons x r ih=>simp [z2D,ih]
theorem z40:∀ ts:List Tx,z4I [] ts=ts.flatten
 | []=>rfl
 | [x]=>by simp [z4I]
 | x :: y :: r=>by rw [z4I,z40 (y :: r)]; simp
theorem z86 (xs:List Nat):z6m (xs.map fun n=>[n])=xs.length:=by
 unfold z6m
 induction xs with
 | nil=>rfl
 | cons x r ih=>simp at ih ⊢; omega
theorem zaA (xs:List Nat):(xs.map fun n=>[n]).flatten=xs:=by
 induction xs with
 | nil=>rfl
 | cons x r ih=>simp [ih]
theorem z4i (xs:List Nat) (h:xs.length≤16777216):z2h [] (.lst (xs.map fun n=>.str [n]))=some (.pure (.str xs)):=by
 have e:(xs.map fun n=>D.str [n])=(xs.map fun n=>[n]).map D.str:=by simp
 unfold z2h
 simp only [e,z4h,z86,z40,zaA]
 rw [if_pos (by simpa using h)]
theorem zaB (bs:List Bool):z3z (bs.map .bl)=some bs:=by
 induction bs with
 | nil=>rfl
 | cons x r ih=>simp [z3z,ih]
theorem z3v (r:Tx) (c:Nat) (h:c < r.length) (hl:r.length≤64):pIx (.str r) (.int c)=some (.pure (.str [r.getD c 0])):=by
 unfold pIx
 have:W6=16777216:=rfl
 simp only
 rw [if_pos (by omega),z1t]
 simp [h]
theorem z5i (r:Tx) (hl:r.length≤64):pLen (.str r)=some (.pure (.int r.length)):=by
 unfold pLen
 have:W6=16777216:=rfl
 simp only
 rw [if_pos (by omega)]
abbrev flD (fl:List Tx):D:=.tup (fl.map .str)
structure Rect (w:Nat) (fl:List Tx):Prop where
 h0:0 < fl.length
 h1:fl.length≤64
 w0:0 < w
 w1:w≤64
 all:∀ r ∈ fl,r.length=w
def turn (w:Nat) (fl:List Tx):List Tx:=(WS w).map fun c=>fl.map fun r=>r.getD c 0
def back (fl:List Tx):List Tx:=fl.map List.reverse
theorem zcg (n:Nat) (fl:List Tx):flat (n + 1) (flD fl)=true:=by
 unfold flat
 induction fl with
 | nil=>rfl
 | cons x r ih=>simp [z2W,flat] at ih ⊢; exact ih
theorem z9m (h:Rect w fl):∃ r,fl[0]? = some r∧r.length=w:=by
 cases fl with
 | nil=>have:=h.h0; simp at this
 | cons r q=>exact ⟨r,rfl,h.all r Wo⟩
def rng (r:S) (δ1:Dl):Rs (List D):=match r with
 | .pure (.int j)=>if z59 j then .ok (z0A 0 j.toNat) δ1 else .stuck
 | _=>.stuck
@[simp] theorem zdM (f:DE) (δ:Dl):z0x f δ=(f δ).bind fun r δ1=>rng r δ1:=id rfl
theorem z8o (w:Nat) (hw:w≤1000000):z59 (w:Int)=true:=by
 have h1 : -(4611686018427387904:Int)≤(w:Int):=by omega
 have h2:(w:Int) < 4611686018427387904:=by omega
 unfold z59
 rw [Wg]
 exact ⟨decide_eq_true h1,decide_eq_true h2⟩
theorem zcM (j:Int) (hs:z59 j=true) (δ:Dl):rng (.pure (.int j)) δ = .ok (z0A 0 j.toNat) δ:=by unfold rng; simp only [hs,if_true]
theorem z3V (w:Nat) (hw:w≤1000000) (δ:Dl):rng (.pure (.int w)) δ = .ok (z0A 0 w) δ:=by
 have:=zcM (w:Int) (z8o w hw) δ
 rwa [Int.toNat_natCast] at this
theorem z19 (h:(z0A 0 n)[i]? = some d):i < n∧d = .int (i:Int):=by
 unfold z0A at h
 rw [Wz] at h
 by_cases hi:i < n
 ·rw [List.getElem?_range hi] at h
  simp at h
  exact ⟨hi,h.symm⟩
 ·rw [WO (by simpa using hi)] at h
  cases h
theorem z3Z (h:d ∈ z0A 0 n):∃ i:Nat,i < n∧d = .int (i:Int):=by
 obtain ⟨i,hi⟩:=List.getElem?_of_mem h
 exact ⟨i,z19 hi⟩
@[simp] theorem z6z (lo:Int) (n:Nat):(z0A lo n).length=n:=by simp [z0A]
def insN (x:Nat):List Nat→List Nat
 | []=>[x]
 | y :: r=>if y < x then y :: insN x r else x :: y :: r
def z3H:List Nat→List Nat
 | []=>[]
 | x :: r=>insN x (z3H r)
theorem lt1 (a b:Nat):(([a]:Tx) < [b]) ↔ a < b:=by
 constructor
 ·intro h
  cases h with
  | cons h=>cases h
  | rel h=>exact h
 ·intro h; exact List.Lex.rel h
theorem zdF (x:Nat):∀ xs:List Nat,insT [x] (xs.map fun n=>[n])=(insN x xs).map fun n=>[n]
 | []=>rfl
 | y :: r=>by
  simp only [Wq,insT,insN]
  by_cases h:y < x
  ·rw [if_pos ((lt1 y x).mpr h),if_pos h,zdF x r]; rfl
  ·rw [if_neg fun z=>h ((lt1 y x).mp z),if_neg h]; rfl
theorem zaR:∀ xs:List Nat,z3G (xs.map fun n=>[n])=(z3H xs).map fun n=>[n]
 | []=>rfl
 | x :: r=>by rw [Wq,z3G,zaR r,zdF]; rfl
theorem insN_mem:∀ {xs:List Nat},y ∈ insN x xs ↔ y=x∨y ∈ xs
 | []=>by simp [insN]
 | z :: r=>by
  unfold insN
  split
  ·simp [insN_mem (xs:=r)]; constructor <;> (rintro (h | h | h) <;> simp [h])
  ·simp
theorem sortN_mem:∀ {xs:List Nat},y ∈ z3H xs ↔ y ∈ xs
 | []=>by simp [z3H]
 | x :: r=>by rw [z3H,insN_mem,sortN_mem (xs:=r)]; simp
theorem z7y (x:Nat):∀ xs:List Nat,(insN x xs).length=xs.length + 1
 | []=>rfl
 | y :: r=>by unfold insN; split <;> simp [z7y x r]
theorem z60:∀ xs:List Nat,(z3H xs).length=xs.length
 | []=>rfl
 | x :: r=>by rw [z3H,z7y,z60 r]; rfl
theorem z9i:∀ {xs:List Nat},xs.Pairwise (· < ·)→x ∉ xs→(insN x xs).Pairwise (· < ·)
 | [],_,_=>by simp [insN]
 | y :: r,h,hx=>by
  rw [List.pairwise_cons] at h
  simp at hx
  unfold insN
  split
  ·rename_i hl
   rw [List.pairwise_cons]
   refine ⟨fun z hz=>?_,z9i h.2 hx.2⟩
   rcases insN_mem.mp hz with rfl | hz
   ·exact hl
   ·exact h.1 z hz
  ·rename_i hl
   rw [List.pairwise_cons]
   refine ⟨fun z hz=>?_,J0.mpr h⟩
   rcases Wh.mp hz with rfl | hz
   ·omega
   ·have:=h.1 z hz; omega
theorem z7i:∀ {xs:List Nat},xs.Nodup→(z3H xs).Pairwise (· < ·)
 | [],_=>by simp [z3H]
 | x :: r,h=>by
  rw [List.nodup_cons] at h
  exact z9i (z7i h.2) fun z=>h.1 (sortN_mem.mp z)
theorem z6P {P:Nat→Prop}:∀ {xs:List D},(∀ x ∈ xs,∃ n,P n∧x = .str [n])→∃ row:List Nat,xs=row.map (fun n=>.str [n])∧∀ n ∈ row,P n
 | [],_=>⟨[],rfl,by simp⟩
 | x :: r,h=>by
  obtain ⟨n,hn,rfl⟩:=h x Wo
  obtain ⟨row,rfl,hr⟩:=z6P (xs:=r) fun y hy=>h y (Wj _ hy)
  exact ⟨n :: row,rfl,by simpa using ⟨hn,hr⟩⟩
theorem z8y {R:D→D→Prop} {ds xs:List D} {Q:D→Prop} (hn:xs.length=ds.length) (hf:∀ (i:Nat) d x,ds[i]? = some d→xs[i]? = some x→R d x) (hq:∀ d x,d ∈ ds→R d x→Q x):∀ x ∈ xs,Q x:=fun x hx=>by
 obtain ⟨i,hi⟩:=List.getElem?_of_mem hx
 have h1:=(W3.mp hi).1
 have h2:ds[i]? = some (ds[i]'(by omega)):=by simp [show i < ds.length by omega]
 exact hq _ x (QT _) (hf i _ x h2 hi)
theorem z8w (w:Nat) (hw:w≤100000) (δ:Dl):rng (.pure (.int (1 + (w:Int)))) δ = .ok (z0A 0 (1 + w)) δ:=by
 have:=z3V (1 + w) (by omega) δ
 rwa [show (((1 + w:Nat):Int))=1 + (w:Int) by omega] at this
abbrev blD (b:Nat×List Tx):D:=.tup [.str [b.1],flD b.2]
abbrev ruD (h w:Nat) (bs:List (Nat×List Tx)):D:=.tup [.int h,.int w,.tup (bs.map blD)]
structure Rul (h w:Nat) (bs:List (Nat×List Tx)):Prop where
 h0:0 < h
 h1:h≤4
 w0:0 < w
 w1:w≤4
 hw:2 < h + w
 n0:0 < bs.length
 n1:bs.length≤26
 up:(bs.map (·.1)).Pairwise (· < ·)
 let':∀ b ∈ bs,97≤b.1∧b.1≤122
 blk:∀ b ∈ bs,b.2.length=h∧∀ r ∈ b.2,r.length=w∧∀ n ∈ r,n ∈ bs.map (·.1)
theorem Rul.rect (R:Rul h w bs) (hb:b ∈ bs):Rect w b.2:=by
 have:=R.blk b hb
 exact ⟨by have:=R.h0; omega,by have:=R.h1; omega,R.w0,by have:=R.w1; omega,fun r hr=>(this.2 r hr).1⟩
def z2m (w:Nat) (bs:List (Nat×List Tx)):List (Nat×List Tx):=bs.map fun b=>(b.1,turn w b.2)
theorem z1l (f F:A→D) (δ:Dl):∀ (as:List A) (acc:List D),acc.length + as.length≤W6 →
  (∀ a ∈ as,∃ δ1 δ2 x δ3,g (.pure (f a)) δ=some δ1∧t δ1 = .ok true δ2∧el δ2 = .ok x δ3∧clrD cs δ3=δ∧x.d=F a)→z1u cs g t el (as.map f) δ acc = .ok (acc ++ as.map F) δ
 | [],acc,_,_=>by simp [z1u]
 | a :: r,acc,hl,hs=>by
  obtain ⟨δ1,δ2,x,δ3,e1,e2,e3,e4,e5⟩:=hs a Wo
  have hl':acc.length < W6:=by simp at hl; omega
  have ih:=z1l (cs:=cs) (g:=g) (t:=t) (el:=el) f F δ r (acc ++ [x.d]) (by simp at hl ⊢; omega) (fun a ha=>hs a (Wj _ ha))
  rw [Wq]
  unfold z1u
  rw [e1]
  rw [e5] at ih
  simp only [e2,z0o,if_true,e3,if_pos hl',e4,e5,ih]
  simp
end DV
namespace K69
open PySem.W (nsIn keepIn codeIn findIn mroIn kitOne mg_of)
open PySem PySem.Spec PyProof.Rows L2 DV
def top (i:Nat):Stmt:=PySem.Challenge.pw_tilegrow_k69_signs_taken_and_turned.main.body.getD i (.Pass ⟨0,0,0,0⟩)
abbrev z23:Stmt:=top 23
abbrev z30:Stmt:=top 24
abbrev z31:Stmt:=top 26
abbrev z1L:Stmt:=top 28
abbrev z2Z:Stmt:=top 27
abbrev z20:Stmt:=top 29
abbrev z1Z:Stmt:=top 31
abbrev z22:Stmt:=top 32
abbrev z1w:Stmt:=top 33
abbrev z2r:Stmt:=top 25
abbrev z2E:Stmt:=top 12
abbrev z1W:Stmt:=top 13
abbrev z2p:Stmt:=top 20
abbrev z21:Stmt:=top 30
abbrev z1M:Stmt:=top 35
abbrev z2F:Stmt:=top 34
abbrev z2q:Stmt:=top 15
abbrev z1Y:Stmt:=top 16
abbrev z2o:Stmt:=top 18
abbrev z1X:Stmt:=top 21
abbrev z5w:Stmt:=top 36
abbrev ys:List Tx:=[[78,111,80,108,97,99,101]]
section
variable (ce:Tx→Nat)
structure Txt (K:W0) (mg:Str→Option Value):Prop where
 z_ValueError:mg "ValueError" = none
 z_all:mg "all" = none
 z_bool:mg "bool" = none
 z_dict:mg "dict" = none
 z_int:mg "int" = none
 z_isinstance:mg "isinstance" = none
 z_len:mg "len" = none
 z_max:mg "max" = none
 z_range:mg "range" = none
 z_sorted:mg "sorted" = none
 z_tuple:mg "tuple" = none
 ty_bool:TyK K "bool"
 ty_int:TyK K "int"
 ty_tuple:TyK K "tuple"
 c_j:mg "FloorError" = some (.ref (ce [70,108,111,111,114,69,114,114,111,114]))
 c_a:mg "NoFloor" = some (.ref (ce [78,111,70,108,111,111,114]))
 c_b:mg "NoPlace" = some (.ref (ce [78,111,80,108,97,99,101]))
 c_c:mg "NoNumber" = some (.ref (ce [78,111,78,117,109,98,101,114]))
 c_d:mg "NoRow" = some (.ref (ce [78,111,82,111,119]))
 c_e:mg "Unlike" = some (.ref (ce [85,110,108,105,107,101]))
 c_f:mg "NoTile" = some (.ref (ce [78,111,84,105,108,101]))
 c_g:mg "NoRule" = some (.ref (ce [78,111,82,117,108,101]))
 c_h:mg "NoText" = some (.ref (ce [78,111,84,101,120,116]))
 c_i:mg "TooGreat" = some (.ref (ce [84,111,111,71,114,101,97,116]))
 q_j:ExcC K (ce [70,108,111,111,114,69,114,114,111,114])
 q_b:ExcC K (ce [78,111,80,108,97,99,101])
 i_a:IsT K ce ys (.ref (ce [78,111,70,108,111,111,114])) (fun z=>z == [78,111,70,108,111,111,114])
 i_b:IsT K ce ys (.ref (ce [78,111,80,108,97,99,101])) (fun z=>z == [78,111,80,108,97,99,101])
 i_c:IsT K ce ys (.ref (ce [78,111,78,117,109,98,101,114])) (fun z=>z == [78,111,78,117,109,98,101,114])
 i_d:IsT K ce ys (.ref (ce [78,111,82,111,119])) (fun z=>z == [78,111,82,111,119])
 i_e:IsT K ce ys (.ref (ce [85,110,108,105,107,101])) (fun z=>z == [85,110,108,105,107,101])
 i_f:IsT K ce ys (.ref (ce [78,111,84,105,108,101])) (fun z=>z == [78,111,84,105,108,101])
 i_g:IsT K ce ys (.ref (ce [78,111,82,117,108,101])) (fun z=>z == [78,111,82,117,108,101])
 i_h:IsT K ce ys (.ref (ce [78,111,84,101,120,116])) (fun z=>z == [78,111,84,101,120,116])
 i_i:IsT K ce ys (.ref (ce [84,111,111,71,114,101,97,116])) (fun z=>z == [84,111,111,71,114,101,97,116])
 i_ValueError:IsT K ce ys (.type "ValueError") (fun _=>true)
 m_j:∀ y ∈ ys,mg (toS y)=some (.ref (ce y))∧mroIn K (ce y) (.ref (ce [70,108,111,111,114,69,114,114,111,114]))=some true
end
def z2c:DS:=(dSeq (dIf (dTr (eOpF pLt 1 (bOf (eC1 pLen (bVar 0))))) (dRet (eOpF pIx 0 (bVar 1))) z0O) (dRet (eD (.int 0))))
def z0V:DF:=gOf [] 2 z2c
theorem z3s:z1z z0V:=z0w
theorem z4s:FnScope ["script","k"] ["script","k"] (z07 z23):=⟨rfl,rfl,rfl,by decide +kernel,rfl,by decide +kernel,by decide +kernel⟩
theorem z4D {K:W0} (F:Fun K "_law_cell_at" "_law_cell_at" z23 f fd) (hm:mg "_law_cell_at" = some (.ref f)) (hb:Binds K fd ["script","k"] []) (T:Txt ce K mg):KFn P w K mg base 1 "_law_cell_at" 2 z0V :=
 z1v (np:=[]) (fb:=z2c) F hm hb z4s (fun c cdv A outer s H E hr hnp=>by
  have hq:=z2k hr
  refine (@z0a _ _ _ _ _ _ ?_ ?_)
  ·refine (@z2Y _ _ _ _ _ _ _ _ _ ?_ ?_ ?_)
   ·exact (@z4n _ _ _ _ _ _ _ _ _ _ zdl o2_lt (pv 1) (@z0c _ _ _ _ (@z4p _ _ _ _ _ _ rfl T.z_len (@z0g _ _ _ _ (pv 0)) (by rfl))) (z1G _))
   ·refine (@z0k _ _ _ _ ?_)
    refine (@z0K _ _ _ _ _ ?_)
    exact (@z0i _ _ _ _ _ _ _ _ _ z0j z0E (pv 0) (@z0g _ _ _ _ (pv 1)) (fun _ _=>rfl))
   ·exact z1K
  refine (@z0k _ _ _ _ ?_)
  refine (@z0K _ _ _ _ _ ?_)
  exact (@z06 _ _ _ _ _)) fun ss y h=>z0Q h
def z38:DS:=(dSeq (dAsg (eOp pMod (eOpF pAdd 0 (bOf (eD (.int 7919)))) (bOf (eD (.int 2147483647)))) (gNm [] 0)) (dRet (eOp pMod (eOp pAdd (eOp pAdd (eOpF z4u 0 (bVar 0)) (bOf (eOp z4u (eD (.int 48271)) (bVar 0)))) (bOf (eD (.int 12345)))) (bOf (eD (.int 2147483629))))))
def z1i:DF:=gOf [] 1 z38
theorem z2K:z1z z1i:=z0w
theorem sc__law_next:FnScope ["seed"] ["seed"] (z07 z30):=⟨rfl,rfl,rfl,by decide +kernel,rfl,by decide +kernel,by decide +kernel⟩
theorem z6g {K:W0} (F:Fun K "_law_next" "_law_next" z30 f fd) (hm:mg "_law_next" = some (.ref f)) (hb:Binds K fd ["seed"] []) (T:Txt ce K mg):KFn P w K mg base 1 "_law_next" 1 z1i :=
 z1v (np:=[]) (fb:=z38) F hm hb sc__law_next (fun c cdv A outer s H E hr hnp=>by
  have hq:=z2k hr
  refine (@z0a _ _ _ _ _ _ ?_ ?_)
  ·exact (@z0F _ _ _ _ _ _ ([]) (0) _ hnp sc__law_next.nd rfl (by first | exact Or.inl rfl | exact Or.inr rfl) (@z1B _ _ _ _ _ _ _ _ _ _ z4w z4E (@z2X _ _ _ _ _ _ _ _ _ _ z10 z1q (pv 0) (@z0c _ _ _ _ (@z06 _ _ _ _ _))) (@z0c _ _ _ _ (@z06 _ _ _ _ _))) rfl (Or.inl rfl))
  refine (@z0k _ _ _ _ ?_)
  refine (@z0K _ _ _ _ _ ?_)
  exact (@z1B _ _ _ _ _ _ _ _ _ _ z4w z4E (@z1B _ _ _ _ _ _ _ _ _ _ z10 z1q (@z1B _ _ _ _ _ _ _ _ _ _ z10 z1q (@z2X _ _ _ _ _ _ _ _ _ _ z6Y z6Z (pv 0) (@z0g _ _ _ _ (pv 0))) (@z0c _ _ _ _ (@z1B _ _ _ _ _ _ _ _ _ _ z6Y z6Z (@z06 _ _ _ _ _) (@z0g _ _ _ _ (pv 0))))) (@z0c _ _ _ _ (@z06 _ _ _ _ _))) (@z0c _ _ _ _ (@z06 _ _ _ _ _)))) fun ss y h=>z0Q h
def z39:DS:=(dSeq (dIf (dTr (eOp pEq (eOpF pIx 0 (bOf (eD (.int 1)))) (bOf (eD (.int 1))))) (dSeq (dAsg (eOp pMod (eOpF pIx 0 (bOf (eD (.int 0)))) (bVar 1)) (gNm [0] 2)) (dSeq (z87 0 (eD (.int 0)) (eOp pDiv (eOpF pIx 0 (bOf (eD (.int 0)))) (bVar 1))) (dRet (eVar 2)))) z0O) (dSeq (z87 0 (eD (.int 2)) (z05 z1i [.val (eOp pAdd (z05 z1i [.val (eOpF pIx 0 (bOf (eD (.int 2))))]) (bOf (eD (.int 7))))])) (dRet (eOp pMod (eOp pDiv (eOpF pIx 0 (bOf (eD (.int 2)))) (bOf (eD (.int 64)))) (bVar 1)))))
def z0b:DF:=gOf [0] 3 z39
theorem z0d:z1z z0b:=z0w
theorem sc__law_draw:FnScope ["pen","many","found"] ["pen","many"] (z07 z31):=⟨rfl,rfl,rfl,by decide +kernel,rfl,by decide +kernel,by decide +kernel⟩
theorem z6h {K:W0} (F:Fun K "_law_draw" "_law_draw" z31 f fd) (hm:mg "_law_draw" = some (.ref f)) (hb:Binds K fd ["pen","many"] []) (T:Txt ce K mg) (k__law_next:KFn P w K mg base 1 "_law_next" 1 z1i):KFn P w K mg base 2 "_law_draw" 2 z0b :=
 z1v (np:=[0]) (fb:=z39) F hm hb sc__law_draw (fun c cdv A outer s H E hr hnp=>by
  have hq:=z2k hr
  refine (@z0a _ _ _ _ _ _ ?_ ?_)
  ·refine (@z2Y _ _ _ _ _ _ _ _ _ ?_ ?_ ?_)
   ·exact (@z3S _ _ _ _ _ _ _ _ _ _ (z3X hq) z6i (@z0i _ _ _ _ _ _ _ _ _ z0j z0E (pv 0) (@z0c _ _ _ _ (@z06 _ _ _ _ _)) (fun _ _=>rfl)) (@z0c _ _ _ _ (@z06 _ _ _ _ _)) (z1G _))
   ·refine (@z0a _ _ _ _ _ _ ?_ ?_)
    ·exact (@z0F _ _ _ _ _ _ ([0]) (2) _ hnp sc__law_draw.nd rfl (by first | exact Or.inl rfl | exact Or.inr rfl) (@z1B _ _ _ _ _ _ _ _ _ _ z4w z4E (@z0i _ _ _ _ _ _ _ _ _ z0j z0E (pv 0) (@z0c _ _ _ _ (@z06 _ _ _ _ _)) (fun _ _=>rfl)) (@z0g _ _ _ _ (pv 1))) rfl (Or.inl rfl))
    refine (@z0a _ _ _ _ _ _ ?_ ?_)
    ·exact (@z8m _ _ _ _ _ _ _ _ _ _ (pv 0) (@z06 _ _ _ _ _) (@z1B _ _ _ _ _ _ _ _ _ _ z92 zb4 (@z0i _ _ _ _ _ _ _ _ _ z0j z0E (pv 0) (@z0c _ _ _ _ (@z06 _ _ _ _ _)) (fun _ _=>rfl)) (@z0g _ _ _ _ (pv 1))) (by intro _; rfl) (by rfl) (by rfl) (by rfl))
    refine (@z0k _ _ _ _ ?_)
    refine (@z0K _ _ _ _ _ ?_)
    exact (@z09 _ _ _ _ (pv 2))
   ·exact z1K
  refine (@z0a _ _ _ _ _ _ ?_ ?_)
  ·exact (@z8m _ _ _ _ _ _ _ _ _ _ (pv 0) (@z06 _ _ _ _ _) (@z0l _ _ _ _ _ (1) _ _ _ _ _ k__law_next z2K (hr.mono (by decide)) rfl (@z08 _ _ _ _ _ _ (@z1B _ _ _ _ _ _ _ _ _ _ z10 z1q (@z0l _ _ _ _ _ (1) _ _ _ _ _ k__law_next z2K (hr.mono (by decide)) rfl (@z08 _ _ _ _ _ _ (@z0i _ _ _ _ _ _ _ _ _ z0j z0E (pv 0) (@z0c _ _ _ _ (@z06 _ _ _ _ _)) (fun _ _=>rfl)) (@z0u _ _) (by rfl)) rfl (by decide) (by rfl) (by rfl)) (@z0c _ _ _ _ (@z06 _ _ _ _ _))) (@z0u _ _) (by rfl)) rfl (by decide) (by rfl) (by rfl)) (by intro _; rfl) (by rfl) (by rfl) (by rfl))
  refine (@z0k _ _ _ _ ?_)
  refine (@z0K _ _ _ _ _ ?_)
  exact (@z1B _ _ _ _ _ _ _ _ _ _ z4w z4E (@z1B _ _ _ _ _ _ _ _ _ _ z92 zb4 (@z0i _ _ _ _ _ _ _ _ _ z0j z0E (pv 0) (@z0c _ _ _ _ (@z06 _ _ _ _ _)) (fun _ _=>rfl)) (@z0c _ _ _ _ (@z06 _ _ _ _ _))) (@z0g _ _ _ _ (pv 1)))) fun ss y h=>z0Q h
def z1P:DS:=(dSeq (dAsg (eOp pAdd (eD (.int 1)) (bOf (z05 z0b [.io 0,.val (eD (.int 3))]))) (gNm [0] 1)) (dSeq (dAsg (eOp pAdd (eD (.int 1)) (bOf (z05 z0b [.io 0,.val (eD (.int 3))]))) (gNm [0] 2)) (dSeq (dIf (dTr (eOp pEq (z05 z0b [.io 0,.val (eD (.int 8))]) (bOf (eD (.int 0))))) (dAsg (eOp pIx (zaE [.tup [.int 4,.int 1],.tup [.int 1,.int 4],.tup [.int 4,.int 4],.tup [.int 4,.int 3],.tup [.int 1,.int 2],.tup [.int 2,.int 1]]) (bOf (z05 z0b [.io 0,.val (eD (.int 6))]))) (gTp 2 (z03 (gNm [0] 1) (z03 (gNm [0] 2) z0y)))) z0O) (dSeq (dIf (dTr (eOp pEq (eOpF pAdd 1 (bVar 2)) (bOf (eD (.int 2))))) (dAsg (eD (.int 2)) (gNm [0] 2)) z0O) (dRet (eTup (z00 (eVar 1) (z00 (eVar 2) aNil))))))))
def z0Y:DF:=gOf [0] 3 z1P
theorem z33:z1z z0Y:=z0w
theorem sc__law_sizes_by:FnScope ["pen","high","wide"] ["pen"] (z07 z1L):=⟨rfl,rfl,rfl,by decide +kernel,rfl,by decide +kernel,by decide +kernel⟩
theorem z45 {K:W0} (F:Fun K "_law_sizes_by" "_law_sizes_by" z1L f fd) (hm:mg "_law_sizes_by" = some (.ref f)) (hb:Binds K fd ["pen"] []) (T:Txt ce K mg) (k__law_draw:KFn P w K mg base 2 "_law_draw" 2 z0b):KFn P w K mg base 3 "_law_sizes_by" 1 z0Y :=
 z1v (np:=[0]) (fb:=z1P) F hm hb sc__law_sizes_by (fun c cdv A outer s H E hr hnp=>by
  have hq:=z2k hr
  refine (@z0a _ _ _ _ _ _ ?_ ?_)
  ·exact (@z0F _ _ _ _ _ _ ([0]) (1) _ hnp sc__law_sizes_by.nd rfl (by first | exact Or.inl rfl | exact Or.inr rfl) (@z1B _ _ _ _ _ _ _ _ _ _ z10 z1q (@z06 _ _ _ _ _) (@z0c _ _ _ _ (@z0l _ _ _ _ _ (2) _ _ _ _ _ k__law_draw z0d (hr.mono (by decide)) rfl (@z1j _ _ _ _ _ _ (pv 0) (@z08 _ _ _ _ _ _ (@z06 _ _ _ _ _) (@z0u _ _) (by rfl)) (by rfl)) rfl (by decide) (by rfl) (by rfl)))) rfl (Or.inl rfl))
  refine (@z0a _ _ _ _ _ _ ?_ ?_)
  ·exact (@z0F _ _ _ _ _ _ ([0]) (2) _ hnp sc__law_sizes_by.nd rfl (by first | exact Or.inl rfl | exact Or.inr rfl) (@z1B _ _ _ _ _ _ _ _ _ _ z10 z1q (@z06 _ _ _ _ _) (@z0c _ _ _ _ (@z0l _ _ _ _ _ (2) _ _ _ _ _ k__law_draw z0d (hr.mono (by decide)) rfl (@z1j _ _ _ _ _ _ (pv 0) (@z08 _ _ _ _ _ _ (@z06 _ _ _ _ _) (@z0u _ _) (by rfl)) (by rfl)) rfl (by decide) (by rfl) (by rfl)))) rfl (Or.inl rfl))
  refine (@z0a _ _ _ _ _ _ ?_ ?_)
  ·refine (@z2Y _ _ _ _ _ _ _ _ _ ?_ ?_ ?_)
   ·exact (@z3S _ _ _ _ _ _ _ _ _ _ (z3X hq) z6i (@z0l _ _ _ _ _ (2) _ _ _ _ _ k__law_draw z0d (hr.mono (by decide)) rfl (@z1j _ _ _ _ _ _ (pv 0) (@z08 _ _ _ _ _ _ (@z06 _ _ _ _ _) (@z0u _ _) (by rfl)) (by rfl)) rfl (by decide) (by rfl) (by rfl)) (@z0c _ _ _ _ (@z06 _ _ _ _ _)) (z1G _))
   ·refine (@z0k _ _ _ _ ?_)
    refine (@z3T _ _ _ _ _ _ _ ?_ ?_ (by rfl) (by rfl) (by rfl))
    ·exact (@z7O _ _ _ _ _ _ _ _ _ z0j z0E (@z63 _ _ _ _ _ (by rfl) (by decide)) (@z0c _ _ _ _ (@z0l _ _ _ _ _ (2) _ _ _ _ _ k__law_draw z0d (hr.mono (by decide)) rfl (@z1j _ _ _ _ _ _ (pv 0) (@z08 _ _ _ _ _ _ (@z06 _ _ _ _ _) (@z0u _ _) (by rfl)) (by rfl)) rfl (by decide) (by rfl) (by rfl))) (fun _ _=>rfl))
    ·exact (@z3d _ _ _ _ _ _ _ rfl (@z0C _ _ _ _ _ _ (@z0q _ _ _ ([0]) (1) _ hnp sc__law_sizes_by.nd rfl (by first | exact Or.inl rfl | exact Or.inr rfl) (Or.inl rfl)) (@z0C _ _ _ _ _ _ (@z0q _ _ _ ([0]) (2) _ hnp sc__law_sizes_by.nd rfl (by first | exact Or.inl rfl | exact Or.inr rfl) (Or.inl rfl)) (@z2n _ _) (by rfl)) (by rfl)) (by rfl) (by rfl))
   ·exact z1K
  refine (@z0a _ _ _ _ _ _ ?_ ?_)
  ·refine (@z2Y _ _ _ _ _ _ _ _ _ ?_ ?_ ?_)
   ·exact (@z3S _ _ _ _ _ _ _ _ _ _ (z3X hq) z6i (@z2X _ _ _ _ _ _ _ _ _ _ z10 z1q (pv 1) (@z0g _ _ _ _ (pv 2))) (@z0c _ _ _ _ (@z06 _ _ _ _ _)) (z1G _))
   ·refine (@z0k _ _ _ _ ?_)
    exact (@z0F _ _ _ _ _ _ ([0]) (2) _ hnp sc__law_sizes_by.nd rfl (by first | exact Or.inl rfl | exact Or.inr rfl) (@z06 _ _ _ _ _) rfl (Or.inl rfl))
   ·exact z1K
  refine (@z0k _ _ _ _ ?_)
  refine (@z0K _ _ _ _ _ ?_)
  exact (@z1d _ _ _ _ _ _ (@z02 _ _ _ _ _ _ (@z09 _ _ _ _ (pv 1)) (@z02 _ _ _ _ _ _ (@z09 _ _ _ _ (pv 2)) (@z0G _ _) (by rfl)) (by rfl)) (by decide))) fun ss y h=>z0Q h
def z37:DS:=(dSeq (dIf (dTr (eOpF pEq 3 (bOf (eD (.int 1))))) (dRet (eOpF pIx 1 (bOf (z05 z0b [.io 0,.val (eOpF pAdd 2 (bOf (eD (.int 1))))])))) z0O) (dSeq (dIf (dTr (eOpF pEq 3 (bOf (eD (.int 2))))) (dRet (eOpF pIx 1 (bOf (eOp pMod (eOpF pAdd 2 (bOf (eD (.int 1)))) (bOf (eC1 pLen (bVar 1))))))) z0O) (dSeq (dIf (dAnd (dTr (eOpF pEq 3 (bOf (eD (.int 3))))) (dTr (eOp pGt (z05 z0b [.io 0,.val (eD (.int 4))]) (bOf (eD (.int 0)))))) (dRet (eOpF pIx 1 (bVar 2))) z0O) (dRet (eOpF pIx 1 (bOf (z05 z0b [.io 0,.val (eC1 pLen (bVar 1))])))))))
def z0J:DF:=gOf [0] 4 z37
theorem z4H:z1z z0J:=z0w
theorem z65:FnScope ["pen","tiles","place","way"] ["pen","tiles","place","way"] (z07 z2Z):=⟨rfl,rfl,rfl,by decide +kernel,rfl,by decide +kernel,by decide +kernel⟩
theorem z6f {K:W0} (F:Fun K "_law_pick" "_law_pick" z2Z f fd) (hm:mg "_law_pick" = some (.ref f)) (hb:Binds K fd ["pen","tiles","place","way"] []) (T:Txt ce K mg) (k__law_draw:KFn P w K mg base 2 "_law_draw" 2 z0b):KFn P w K mg base 3 "_law_pick" 4 z0J :=
 z1v (np:=[0]) (fb:=z37) F hm hb z65 (fun c cdv A outer s H E hr hnp=>by
  have hq:=z2k hr
  refine (@z0a _ _ _ _ _ _ ?_ ?_)
  ·refine (@z2Y _ _ _ _ _ _ _ _ _ ?_ ?_ ?_)
   ·exact (@z4n _ _ _ _ _ _ _ _ _ _ (z3X hq) z6i (pv 3) (@z0c _ _ _ _ (@z06 _ _ _ _ _)) (z1G _))
   ·refine (@z0k _ _ _ _ ?_)
    refine (@z0K _ _ _ _ _ ?_)
    exact (@z0i _ _ _ _ _ _ _ _ _ z0j z0E (pv 1) (@z0c _ _ _ _ (@z0l _ _ _ _ _ (2) _ _ _ _ _ k__law_draw z0d (hr.mono (by decide)) rfl (@z1j _ _ _ _ _ _ (pv 0) (@z08 _ _ _ _ _ _ (@z2X _ _ _ _ _ _ _ _ _ _ z10 z1q (pv 2) (@z0c _ _ _ _ (@z06 _ _ _ _ _))) (@z0u _ _) (by rfl)) (by rfl)) rfl (by decide) (by rfl) (by rfl))) (fun _ _=>rfl))
   ·exact z1K
  refine (@z0a _ _ _ _ _ _ ?_ ?_)
  ·refine (@z2Y _ _ _ _ _ _ _ _ _ ?_ ?_ ?_)
   ·exact (@z4n _ _ _ _ _ _ _ _ _ _ (z3X hq) z6i (pv 3) (@z0c _ _ _ _ (@z06 _ _ _ _ _)) (z1G _))
   ·refine (@z0k _ _ _ _ ?_)
    refine (@z0K _ _ _ _ _ ?_)
    exact (@z0i _ _ _ _ _ _ _ _ _ z0j z0E (pv 1) (@z0c _ _ _ _ (@z1B _ _ _ _ _ _ _ _ _ _ z4w z4E (@z2X _ _ _ _ _ _ _ _ _ _ z10 z1q (pv 2) (@z0c _ _ _ _ (@z06 _ _ _ _ _))) (@z0c _ _ _ _ (@z4p _ _ _ _ _ _ rfl T.z_len (@z0g _ _ _ _ (pv 1)) (by rfl))))) (fun _ _=>rfl))
   ·exact z1K
  refine (@z0a _ _ _ _ _ _ ?_ ?_)
  ·refine (@z2Y _ _ _ _ _ _ _ _ _ ?_ ?_ ?_)
   ·exact (@z7M _ _ _ _ (@zcz _ _ _ _ _ _ _ _ (@z4n _ _ _ _ _ _ _ _ _ _ (z3X hq) z6i (pv 3) (@z0c _ _ _ _ (@z06 _ _ _ _ _)) (z1G _)) (@zbw _ _ _ _ _ (@z3S _ _ _ _ _ _ _ _ _ _ zdm z6j (@z0l _ _ _ _ _ (2) _ _ _ _ _ k__law_draw z0d (hr.mono (by decide)) rfl (@z1j _ _ _ _ _ _ (pv 0) (@z08 _ _ _ _ _ _ (@z06 _ _ _ _ _) (@z0u _ _) (by rfl)) (by rfl)) rfl (by decide) (by rfl) (by rfl)) (@z0c _ _ _ _ (@z06 _ _ _ _ _)) (z1G _)))))
   ·refine (@z0k _ _ _ _ ?_)
    refine (@z0K _ _ _ _ _ ?_)
    exact (@z0i _ _ _ _ _ _ _ _ _ z0j z0E (pv 1) (@z0g _ _ _ _ (pv 2)) (fun _ _=>rfl))
   ·exact z1K
  refine (@z0k _ _ _ _ ?_)
  refine (@z0K _ _ _ _ _ ?_)
  exact (@z0i _ _ _ _ _ _ _ _ _ z0j z0E (pv 1) (@z0c _ _ _ _ (@z0l _ _ _ _ _ (2) _ _ _ _ _ k__law_draw z0d (hr.mono (by decide)) rfl (@z1j _ _ _ _ _ _ (pv 0) (@z08 _ _ _ _ _ _ (@z4p _ _ _ _ _ _ rfl T.z_len (@z0g _ _ _ _ (pv 1)) (by rfl)) (@z0u _ _) (by rfl)) (by rfl)) rfl (by decide) (by rfl) (by rfl))) (fun _ _=>rfl))) fun ss y h=>z0Q h
def z29:DS:=(dSeq (dAsg (z05 z0Y [.io 0]) (gTp 2 (z03 (gNm [0] 2) (z03 (gNm [0] 3) z0y)))) (dSeq (dAsg (eOp pAdd (eD (.int 1)) (bOf (z05 z0b [.io 0,.val (eVar 1)]))) (gNm [0] 4)) (dSeq (dAsg (z05 z0b [.io 0,.val (eD (.int 26))]) (gNm [0] 5)) (dSeq (dAsg (eD (.str [97,98,99,100,101,102,103,104,105,106,107,108,109,110,111,112,113,114,115,116,117,118,119,120,121,122])) (gNm [0] 6)) (dSeq (dAsg (eC1 z3J (bOf (z0r [13] (z0x (eVar 4)) (gNm [0] 13) dYes (eOpF pIx 6 (bOf (eOp pMod (eOpF pAdd 5 (bOf (eOp z4u (eD (.int 5)) (bVar 13)))) (bOf (eD (.int 26))))))))) (gNm [0] 7)) (dSeq (dAsg (z05 z0b [.io 0,.val (eD (.int 5))]) (gNm [0] 8)) (dSeq (dAsg (eLst aNil) (gNm [0] 9)) (dSeq (dFor (z0x (eVar 4)) (gNm [0] 10) (dSeq (dAsg (eLst aNil) (gNm [0] 11)) (dSeq (dFor (z0x (eVar 2)) (gNm [0] 12) (z0s 11 (eC1 (z2h []) (bOf (z0r [14] (z0x (eVar 3)) (gNm [0] 14) dYes (z05 z0J [.io 0,.val (eVar 7),.val (eVar 10),.val (eVar 8)])))))) (z0s 9 (eTup (z00 (eOpF pIx 7 (bVar 10)) (z00 (eC1 z0m (bVar 11)) aNil))))))) (dRet (eTup (z00 (eVar 2) (z00 (eVar 3) (z00 (eC1 z0m (bVar 9)) aNil)))))))))))))
def z15:DF:=gOf [0] 15 z29
theorem z3p:z1z z15:=z0w
theorem sc__law_rule_by:FnScope ["pen","most","high","wide","size","first","letters","tiles","way","blocks","place","block","row","k","column"] ["pen","most"] (z07 z20):=⟨rfl,rfl,rfl,by decide +kernel,rfl,by decide +kernel,by decide +kernel⟩
theorem z4B {K:W0} (F:Fun K "_law_rule_by" "_law_rule_by" z20 f fd) (hm:mg "_law_rule_by" = some (.ref f)) (hb:Binds K fd ["pen","most"] []) (T:Txt ce K mg) (k__law_draw:KFn P w K mg base 2 "_law_draw" 2 z0b) (k__law_sizes_by:KFn P w K mg base 3 "_law_sizes_by" 1 z0Y) (k__law_pick:KFn P w K mg base 3 "_law_pick" 4 z0J):KFn P w K mg base 4 "_law_rule_by" 2 z15 :=
 z1v (np:=[0]) (fb:=z29) F hm hb sc__law_rule_by (fun c cdv A outer s H E hr hnp=>by
  have hq:=z2k hr
  refine (@z0a _ _ _ _ _ _ ?_ ?_)
  ·refine (@z3T _ _ _ _ _ _ _ ?_ ?_ (by rfl) (by rfl) (by rfl))
   ·exact (@z0l _ _ _ _ _ (3) _ _ _ _ _ k__law_sizes_by z33 (hr.mono (by decide)) rfl (@z1j _ _ _ _ _ _ (pv 0) (@z0u _ _) (by rfl)) rfl (by decide) (by rfl) (by rfl))
   ·exact (@z3d _ _ _ _ _ _ _ rfl (@z0C _ _ _ _ _ _ (@z0q _ _ _ ([0]) (2) _ hnp sc__law_rule_by.nd rfl (by first | exact Or.inl rfl | exact Or.inr rfl) (Or.inl rfl)) (@z0C _ _ _ _ _ _ (@z0q _ _ _ ([0]) (3) _ hnp sc__law_rule_by.nd rfl (by first | exact Or.inl rfl | exact Or.inr rfl) (Or.inl rfl)) (@z2n _ _) (by rfl)) (by rfl)) (by rfl) (by rfl))
  refine (@z0a _ _ _ _ _ _ ?_ ?_)
  ·exact (@z0F _ _ _ _ _ _ ([0]) (4) _ hnp sc__law_rule_by.nd rfl (by first | exact Or.inl rfl | exact Or.inr rfl) (@z1B _ _ _ _ _ _ _ _ _ _ z10 z1q (@z06 _ _ _ _ _) (@z0c _ _ _ _ (@z0l _ _ _ _ _ (2) _ _ _ _ _ k__law_draw z0d (hr.mono (by decide)) rfl (@z1j _ _ _ _ _ _ (pv 0) (@z08 _ _ _ _ _ _ (@z09 _ _ _ _ (pv 1)) (@z0u _ _) (by rfl)) (by rfl)) rfl (by decide) (by rfl) (by rfl)))) rfl (Or.inl rfl))
  refine (@z0a _ _ _ _ _ _ ?_ ?_)
  ·exact (@z0F _ _ _ _ _ _ ([0]) (5) _ hnp sc__law_rule_by.nd rfl (by first | exact Or.inl rfl | exact Or.inr rfl) (@z0l _ _ _ _ _ (2) _ _ _ _ _ k__law_draw z0d (hr.mono (by decide)) rfl (@z1j _ _ _ _ _ _ (pv 0) (@z08 _ _ _ _ _ _ (@z06 _ _ _ _ _) (@z0u _ _) (by rfl)) (by rfl)) rfl (by decide) (by rfl) (by rfl)) rfl (Or.inl rfl))
  refine (@z0a _ _ _ _ _ _ ?_ ?_)
  ·exact (@z0F _ _ _ _ _ _ ([0]) (6) _ hnp sc__law_rule_by.nd rfl (by first | exact Or.inl rfl | exact Or.inr rfl) (@z4o _ _ _ _ _ [97,98,99,100,101,102,103,104,105,106,107,108,109,110,111,112,113,114,115,116,117,118,119,120,121,122] (by decide +kernel)) rfl (Or.inl rfl))
  refine (@z0a _ _ _ _ _ _ ?_ ?_)
  ·exact (@z0F _ _ _ _ _ _ ([0]) (7) _ hnp sc__law_rule_by.nd rfl (by first | exact Or.inl rfl | exact Or.inr rfl) (@z8r _ _ _ _ _ _ rfl T.z_sorted (@z0c _ _ _ _ (@z1p _ _ ([13]) _ _ _ _ _ _ _ _ _ _ rfl (@z0L _ _ _ rfl rfl) (@z1n _ _ _ _ _ _ _ rfl T.z_range (@z09 _ _ _ _ (pv 4)) (by rfl)) (fun l s0 H0 ex=>(@z0H _ _ _ _ ([0]) (13) _ hnp sc__law_rule_by.nd rfl (by first | exact Or.inl rfl | exact Or.inr rfl) (by first | exact Or.inl rfl | exact Or.inr rfl) (by decide))) (fun l s0 H0 ex=>(@z1g _ _)) (fun l s0 H0 ex=>(@z0i _ _ _ _ _ _ _ _ _ z0j z0E (pv 6) (@z0c _ _ _ _ (@z1B _ _ _ _ _ _ _ _ _ _ z4w z4E (@z2X _ _ _ _ _ _ _ _ _ _ z10 z1q (pv 5) (@z0c _ _ _ _ (@z1B _ _ _ _ _ _ _ _ _ _ z6Y z6Z (@z06 _ _ _ _ _) (@z0g _ _ _ _ (pv 13))))) (@z0c _ _ _ _ (@z06 _ _ _ _ _)))) (fun _ _=>rfl))) (z1F hnp rfl) (by intro _; rfl))) (by rfl)) rfl (Or.inl rfl))
  refine (@z0a _ _ _ _ _ _ ?_ ?_)
  ·exact (@z0F _ _ _ _ _ _ ([0]) (8) _ hnp sc__law_rule_by.nd rfl (by first | exact Or.inl rfl | exact Or.inr rfl) (@z0l _ _ _ _ _ (2) _ _ _ _ _ k__law_draw z0d (hr.mono (by decide)) rfl (@z1j _ _ _ _ _ _ (pv 0) (@z08 _ _ _ _ _ _ (@z06 _ _ _ _ _) (@z0u _ _) (by rfl)) (by rfl)) rfl (by decide) (by rfl) (by rfl)) rfl (Or.inl rfl))
  refine (@z0a _ _ _ _ _ _ ?_ ?_)
  ·exact (@z0F _ _ _ _ _ _ ([0]) (9) _ hnp sc__law_rule_by.nd rfl (by first | exact Or.inl rfl | exact Or.inr rfl) (@z1R _ _ _ _ _ (@z0G _ _) (by decide)) rfl (Or.inl rfl))
  refine (@z0a _ _ _ _ _ _ ?_ ?_)
  ·refine (@z2d _ _ _ _ _ _ _ _ _ PassesOwn.never rfl ?_ ?_ ?_ (by intro _; rfl))
   ·exact (@z1n _ _ _ _ _ _ _ rfl T.z_range (@z09 _ _ _ _ (pv 4)) (by rfl))
   ·exact (@z0q _ _ _ ([0]) (10) _ hnp sc__law_rule_by.nd rfl (by first | exact Or.inl rfl | exact Or.inr rfl) (Or.inl rfl))
   ·refine (@z0a _ _ _ _ _ _ ?_ ?_)
    ·exact (@z0F _ _ _ _ _ _ ([0]) (11) _ hnp sc__law_rule_by.nd rfl (by first | exact Or.inl rfl | exact Or.inr rfl) (@z1R _ _ _ _ _ (@z0G _ _) (by decide)) rfl (Or.inl rfl))
    refine (@z0a _ _ _ _ _ _ ?_ ?_)
    ·refine (@z2d _ _ _ _ _ _ _ _ _ PassesOwn.never rfl ?_ ?_ ?_ (by intro _; rfl))
     ·exact (@z1n _ _ _ _ _ _ _ rfl T.z_range (@z09 _ _ _ _ (pv 2)) (by rfl))
     ·exact (@z0q _ _ _ ([0]) (12) _ hnp sc__law_rule_by.nd rfl (by first | exact Or.inl rfl | exact Or.inr rfl) (Or.inl rfl))
     ·refine (@z0k _ _ _ _ ?_)
      exact (@z1I _ _ _ _ _ _ _ _ _ (pv 11) (@z5t _ _ _ _ _ _ _ _ _ [] (@z0c _ _ _ _ (@z1p _ _ ([14]) _ _ _ _ _ _ _ _ _ _ rfl (@z0L _ _ _ rfl rfl) (@z1n _ _ _ _ _ _ _ rfl T.z_range (@z09 _ _ _ _ (pv 3)) (by rfl)) (fun l s0 H0 ex=>(@z0H _ _ _ _ ([0]) (14) _ hnp sc__law_rule_by.nd rfl (by first | exact Or.inl rfl | exact Or.inr rfl) (by first | exact Or.inl rfl | exact Or.inr rfl) (by decide))) (fun l s0 H0 ex=>(@z1g _ _)) (fun l s0 H0 ex=>(@z0l _ _ _ _ _ (3) _ _ _ _ _ k__law_pick z4H (hr.mono (by decide)) rfl (@z1j _ _ _ _ _ _ (pv 0) (@z08 _ _ _ _ _ _ (@z09 _ _ _ _ (pv 7)) (@z08 _ _ _ _ _ _ (@z09 _ _ _ _ (pv 10)) (@z08 _ _ _ _ _ _ (@z09 _ _ _ _ (pv 8)) (@z0u _ _) (by rfl)) (by rfl)) (by rfl)) (by rfl)) rfl (by decide) (by rfl) (by rfl))) (z1F hnp rfl) (by intro _; rfl))) (by decide +kernel) (by rfl) (by rfl) (by rfl) (by rfl)) (by rfl) (by rfl) (by rfl) (by rfl) (by rfl))
    refine (@z0k _ _ _ _ ?_)
    exact (@z1I _ _ _ _ _ _ _ _ _ (pv 9) (@z1d _ _ _ _ _ _ (@z02 _ _ _ _ _ _ (@z0i _ _ _ _ _ _ _ _ _ z0j z0E (pv 7) (@z0g _ _ _ _ (pv 10)) (fun _ _=>rfl)) (@z02 _ _ _ _ _ _ (@z1o _ _ _ _ _ _ rfl T.z_tuple (@z0g _ _ _ _ (pv 11)) (by rfl)) (@z0G _ _) (by rfl)) (by rfl)) (by decide)) (by rfl) (by rfl) (by rfl) (by rfl) (by rfl))
  refine (@z0k _ _ _ _ ?_)
  refine (@z0K _ _ _ _ _ ?_)
  exact (@z1d _ _ _ _ _ _ (@z02 _ _ _ _ _ _ (@z09 _ _ _ _ (pv 2)) (@z02 _ _ _ _ _ _ (@z09 _ _ _ _ (pv 3)) (@z02 _ _ _ _ _ _ (@z1o _ _ _ _ _ _ rfl T.z_tuple (@z0g _ _ _ _ (pv 9)) (by rfl)) (@z0G _ _) (by rfl)) (by rfl)) (by rfl)) (by decide))) fun ss y h=>z0Q h
def z28:DS:=(dSeq (dAsg (eVar 0) (gTp 3 (z03 (gNm [] 2) (z03 (gNm [] 3) (z03 (gNm [] 4) z0y))))) (dSeq (dAsg (eOpF pIx 4 (bVar 1)) (gTp 2 (z03 (gNm [] 5) (z03 (gNm [] 6) z0y)))) (dSeq (dAsg (eOp pAdd (eTup (z00 (eOpF pAdd 5 (bOf (eSl (eOpF pIx 6 (bOf (eD (.int 0)))) (z47 (eD (.int 1))) z7U))) aNil)) (bOf (eSlN 6 (z47 (eD (.int 1))) z7U))) (gNm [] 7)) (dRet (eTup (z00 (eVar 2) (z00 (eVar 3) (z00 (eOp pAdd (eOp pAdd (eSlN 4 z7U (z47 (eVar 1))) (bOf (eTup (z00 (eTup (z00 (eVar 5) (z00 (eVar 7) aNil))) aNil)))) (bOf (eSlN 4 (z47 (eOpF pAdd 1 (bOf (eD (.int 1))))) z7U))) aNil))))))))
def z0U:DF:=gOf [] 8 z28
theorem z1U:z1z z0U:=z0w
theorem sc__law_stilled:FnScope ["rule","spot","high","wide","blocks","tile","block","first"] ["rule","spot"] (z07 z1Z):=⟨rfl,rfl,rfl,by decide +kernel,rfl,by decide +kernel,by decide +kernel⟩
theorem z4A {K:W0} (F:Fun K "_law_stilled" "_law_stilled" z1Z f fd) (hm:mg "_law_stilled" = some (.ref f)) (hb:Binds K fd ["rule","spot"] []) (T:Txt ce K mg):KFn P w K mg base 1 "_law_stilled" 2 z0U :=
 z1v (np:=[]) (fb:=z28) F hm hb sc__law_stilled (fun c cdv A outer s H E hr hnp=>by
  have hq:=z2k hr
  refine (@z0a _ _ _ _ _ _ ?_ ?_)
  ·refine (@z3T _ _ _ _ _ _ _ ?_ ?_ (by rfl) (by rfl) (by rfl))
   ·exact (@z09 _ _ _ _ (pv 0))
   ·exact (@z3d _ _ _ _ _ _ _ rfl (@z0C _ _ _ _ _ _ (@z0q _ _ _ ([]) (2) _ hnp sc__law_stilled.nd rfl (by first | exact Or.inl rfl | exact Or.inr rfl) (Or.inl rfl)) (@z0C _ _ _ _ _ _ (@z0q _ _ _ ([]) (3) _ hnp sc__law_stilled.nd rfl (by first | exact Or.inl rfl | exact Or.inr rfl) (Or.inl rfl)) (@z0C _ _ _ _ _ _ (@z0q _ _ _ ([]) (4) _ hnp sc__law_stilled.nd rfl (by first | exact Or.inl rfl | exact Or.inr rfl) (Or.inl rfl)) (@z2n _ _) (by rfl)) (by rfl)) (by rfl)) (by rfl) (by rfl))
  refine (@z0a _ _ _ _ _ _ ?_ ?_)
  ·refine (@z3T _ _ _ _ _ _ _ ?_ ?_ (by rfl) (by rfl) (by rfl))
   ·exact (@z0i _ _ _ _ _ _ _ _ _ z0j z0E (pv 4) (@z0g _ _ _ _ (pv 1)) (fun _ _=>rfl))
   ·exact (@z3d _ _ _ _ _ _ _ rfl (@z0C _ _ _ _ _ _ (@z0q _ _ _ ([]) (5) _ hnp sc__law_stilled.nd rfl (by first | exact Or.inl rfl | exact Or.inr rfl) (Or.inl rfl)) (@z0C _ _ _ _ _ _ (@z0q _ _ _ ([]) (6) _ hnp sc__law_stilled.nd rfl (by first | exact Or.inl rfl | exact Or.inr rfl) (Or.inl rfl)) (@z2n _ _) (by rfl)) (by rfl)) (by rfl) (by rfl))
  refine (@z0a _ _ _ _ _ _ ?_ ?_)
  ·exact (@z0F _ _ _ _ _ _ ([]) (7) _ hnp sc__law_stilled.nd rfl (by first | exact Or.inl rfl | exact Or.inr rfl) (@z1B _ _ _ _ _ _ _ _ _ _ z10 z1q (@z1d _ _ _ _ _ _ (@z02 _ _ _ _ _ _ (@z2X _ _ _ _ _ _ _ _ _ _ z10 z1q (pv 5) (@z0c _ _ _ _ (@se_sl _ _ _ _ _ _ _ _ _ _ (@z0i _ _ _ _ _ _ _ _ _ z0j z0E (pv 6) (@z0c _ _ _ _ (@z06 _ _ _ _ _)) (fun _ _=>rfl)) (@z3I _ _ _ _ (@z06 _ _ _ _ _)) (@z5q _ _)))) (@z0G _ _) (by rfl)) (by decide)) (@z0c _ _ _ _ (@z7j _ _ _ _ _ _ _ _ _ _ (pv 6) (@z3I _ _ _ _ (@z06 _ _ _ _ _)) (@z5q _ _)))) rfl (Or.inl rfl))
  refine (@z0k _ _ _ _ ?_)
  refine (@z0K _ _ _ _ _ ?_)
  exact (@z1d _ _ _ _ _ _ (@z02 _ _ _ _ _ _ (@z09 _ _ _ _ (pv 2)) (@z02 _ _ _ _ _ _ (@z09 _ _ _ _ (pv 3)) (@z02 _ _ _ _ _ _ (@z1B _ _ _ _ _ _ _ _ _ _ z10 z1q (@z1B _ _ _ _ _ _ _ _ _ _ z10 z1q (@z7j _ _ _ _ _ _ _ _ _ _ (pv 4) (@z5q _ _) (@z3I _ _ _ _ (@z09 _ _ _ _ (pv 1)))) (@z0c _ _ _ _ (@z1d _ _ _ _ _ _ (@z02 _ _ _ _ _ _ (@z1d _ _ _ _ _ _ (@z02 _ _ _ _ _ _ (@z09 _ _ _ _ (pv 5)) (@z02 _ _ _ _ _ _ (@z09 _ _ _ _ (pv 7)) (@z0G _ _) (by rfl)) (by rfl)) (by decide)) (@z0G _ _) (by rfl)) (by decide)))) (@z0c _ _ _ _ (@z7j _ _ _ _ _ _ _ _ _ _ (pv 4) (@z3I _ _ _ _ (@z2X _ _ _ _ _ _ _ _ _ _ z10 z1q (pv 1) (@z0c _ _ _ _ (@z06 _ _ _ _ _)))) (@z5q _ _)))) (@z0G _ _) (by rfl)) (by rfl)) (by rfl)) (by decide))) fun ss y h=>z0Q h
def z2b:DS:=(dSeq (dAsg (eD (.str [97,98,99,100,101,102,103,104,105,106,107,108,109,110,111,112,113,114,115,116,117,118,119,120,121,122])) (gNm [1] 2)) (dSeq (dAsg (z0r [13] (iSq (eOpF pIx 0 (bOf (eD (.int 2))))) (gNm [1] 13) dYes (eOpF pIx 13 (bOf (eD (.int 0))))) (gNm [1] 3)) (dSeq (dAsg (z0r [14] (iSq (eVar 2)) (gNm [1] 14) (dTr (eOp (pIn true) (eVar 14) (bVar 3))) (eVar 14)) (gNm [1] 4)) (dSeq (dAsg z3w (gNm [1] 5)) (dSeq (dFor (z0x (eC1 pLen (bVar 3))) (gNm [1] 6) (z2l 5 (eOpF pIx 3 (bVar 6)) (eOpF pIx 4 (bVar 6)))) (dSeq (dAsg (eLst aNil) (gNm [1] 7)) (dSeq (dFor (iSq (eOpF pIx 0 (bOf (eD (.int 2))))) (gTp 2 (z03 (gNm [1] 8) (z03 (gNm [1] 9) z0y))) (dFor (iSq (eLst (z00 (eVar 8) (z00 (eOpF pIxX 5 (bVar 8)) aNil)))) (gNm [1] 10) (dSeq (dAsg (eLst aNil) (gNm [1] 11)) (dSeq (dFor (iSq (eVar 9)) (gNm [1] 12) (z0s 11 (eC1 (z2h []) (bOf (z0r [14] (iSq (eVar 12)) (gNm [1] 14) dYes (eOp pIx (eLst (z00 (eVar 14) (z00 (eOpF pIxX 5 (bVar 14)) aNil))) (bOf (z05 z0b [.io 1,.val (eD (.int 2))])))))))) (z0s 7 (eTup (z00 (eVar 10) (z00 (eC1 z0m (bVar 11)) aNil)))))))) (dRet (eTup (z00 (eTup (z00 (eOpF pIx 0 (bOf (eD (.int 0)))) (z00 (eOpF pIx 0 (bOf (eD (.int 1)))) (z00 (eC1 z0m (bOf (eC1 z3W (bVar 7)))) aNil)))) (z00 (eVar 5) aNil)))))))))))
def z17:DF:=gOf [1] 15 z2b
theorem z3r:z1z z17:=z0w
theorem sc__law_doubled:FnScope ["rule","pen","letters","tiles","left","twin","place","blocks","tile","block","other","rows","row","pair","sign"] ["rule","pen"] (z07 z22):=⟨rfl,rfl,rfl,by decide +kernel,rfl,by decide +kernel,by decide +kernel⟩
theorem z4C {K:W0} (F:Fun K "_law_doubled" "_law_doubled" z22 f fd) (hm:mg "_law_doubled" = some (.ref f)) (hb:Binds K fd ["rule","pen"] []) (T:Txt ce K mg) (k__law_draw:KFn P w K mg base 2 "_law_draw" 2 z0b):KFn P w K mg base 3 "_law_doubled" 2 z17 :=
 z1v (np:=[1]) (fb:=z2b) F hm hb sc__law_doubled (fun c cdv A outer s H E hr hnp=>by
  have hq:=z2k hr
  refine (@z0a _ _ _ _ _ _ ?_ ?_)
  ·exact (@z0F _ _ _ _ _ _ ([1]) (2) _ hnp sc__law_doubled.nd rfl (by first | exact Or.inl rfl | exact Or.inr rfl) (@z4o _ _ _ _ _ [97,98,99,100,101,102,103,104,105,106,107,108,109,110,111,112,113,114,115,116,117,118,119,120,121,122] (by decide +kernel)) rfl (Or.inl rfl))
  refine (@z0a _ _ _ _ _ _ ?_ ?_)
  ·exact (@z0F _ _ _ _ _ _ ([1]) (3) _ hnp sc__law_doubled.nd rfl (by first | exact Or.inl rfl | exact Or.inr rfl) (@z1p _ _ ([13]) _ _ _ _ _ _ _ _ _ _ rfl (@z0L _ _ _ rfl rfl) (@z2f _ _ _ _ _ (@z0i _ _ _ _ _ _ _ _ _ z0j z0E (pv 0) (@z0c _ _ _ _ (@z06 _ _ _ _ _)) (fun _ _=>rfl))) (fun l s0 H0 ex=>(@z0H _ _ _ _ ([1]) (13) _ hnp sc__law_doubled.nd rfl (by first | exact Or.inl rfl | exact Or.inr rfl) (by first | exact Or.inl rfl | exact Or.inr rfl) (by decide))) (fun l s0 H0 ex=>(@z1g _ _)) (fun l s0 H0 ex=>(@z0i _ _ _ _ _ _ _ _ _ z0j z0E (pv 13) (@z0c _ _ _ _ (@z06 _ _ _ _ _)) (fun _ _=>rfl))) (z1F hnp rfl) (by intro _; rfl)) rfl (Or.inl rfl))
  refine (@z0a _ _ _ _ _ _ ?_ ?_)
  ·exact (@z57 _ _ ([14]) _ _ _ _ _ _ _ _ _ _ ([1]) (4) _ _ _ hnp rfl (@z0L _ _ _ rfl rfl) sc__law_doubled.nd rfl rfl (@z2f _ _ _ _ _ (@z09 _ _ _ _ (pv 2))) (fun l s0 H0 ex=>(@z0H _ _ _ _ ([1]) (14) _ hnp sc__law_doubled.nd rfl (by first | exact Or.inl rfl | exact Or.inr rfl) (by first | exact Or.inl rfl | exact Or.inr rfl) (by decide))) (fun l s0 H0 ex=>(@zbx _ _ _ _ (@z3S _ _ _ _ _ _ _ _ _ _ (@z6X _ hq) (@zai _ true) (@z09 _ _ _ _ (pv 14)) (@z0g _ _ _ _ (pv 3)) rfl))) (fun l s0 H0 ex=>(@z09 _ _ _ _ (pv 14))) (z1F hnp rfl) (by rfl) (by intro _; rfl))
  refine (@z0a _ _ _ _ _ _ ?_ ?_)
  ·exact (@z0F _ _ _ _ _ _ ([1]) (5) _ hnp sc__law_doubled.nd rfl (by first | exact Or.inl rfl | exact Or.inr rfl) (@z7l _ _ _) rfl (Or.inl rfl))
  refine (@z0a _ _ _ _ _ _ ?_ ?_)
  ·refine (@z2d _ _ _ _ _ _ _ _ _ PassesOwn.never rfl ?_ ?_ ?_ (by intro _; rfl))
   ·exact (@z1n _ _ _ _ _ _ _ rfl T.z_range (@z4p _ _ _ _ _ _ rfl T.z_len (@z0g _ _ _ _ (pv 3)) (by rfl)) (by rfl))
   ·exact (@z0q _ _ _ ([1]) (6) _ hnp sc__law_doubled.nd rfl (by first | exact Or.inl rfl | exact Or.inr rfl) (Or.inl rfl))
   ·refine (@z0k _ _ _ _ ?_)
    exact (@z6O _ _ _ _ _ _ _ _ _ _ hq (pv 5) (@z0i _ _ _ _ _ _ _ _ _ z0j z0E (pv 3) (@z0g _ _ _ _ (pv 6)) (fun _ _=>rfl)) (@z0i _ _ _ _ _ _ _ _ _ z0j z0E (pv 4) (@z0g _ _ _ _ (pv 6)) (fun _ _=>rfl)) (by rfl))
  refine (@z0a _ _ _ _ _ _ ?_ ?_)
  ·exact (@z0F _ _ _ _ _ _ ([1]) (7) _ hnp sc__law_doubled.nd rfl (by first | exact Or.inl rfl | exact Or.inr rfl) (@z1R _ _ _ _ _ (@z0G _ _) (by decide)) rfl (Or.inl rfl))
  refine (@z0a _ _ _ _ _ _ ?_ ?_)
  ·refine (@z2d _ _ _ _ _ _ _ _ _ PassesOwn.never rfl ?_ ?_ ?_ (by intro _; rfl))
   ·exact (@z2f _ _ _ _ _ (@z0i _ _ _ _ _ _ _ _ _ z0j z0E (pv 0) (@z0c _ _ _ _ (@z06 _ _ _ _ _)) (fun _ _=>rfl)))
   ·exact (@z3d _ _ _ _ _ _ _ rfl (@z0C _ _ _ _ _ _ (@z0q _ _ _ ([1]) (8) _ hnp sc__law_doubled.nd rfl (by first | exact Or.inl rfl | exact Or.inr rfl) (Or.inl rfl)) (@z0C _ _ _ _ _ _ (@z0q _ _ _ ([1]) (9) _ hnp sc__law_doubled.nd rfl (by first | exact Or.inl rfl | exact Or.inr rfl) (Or.inl rfl)) (@z2n _ _) (by rfl)) (by rfl)) (by rfl) (by rfl))
   ·refine (@z0k _ _ _ _ ?_)
    refine (@z2d _ _ _ _ _ _ _ _ _ PassesOwn.never rfl ?_ ?_ ?_ (by intro _; rfl))
    ·exact (@z2f _ _ _ _ _ (@z1R _ _ _ _ _ (@z02 _ _ _ _ _ _ (@z09 _ _ _ _ (pv 8)) (@z02 _ _ _ _ _ _ (@z0i _ _ _ _ _ _ _ _ _ (ix_X hq) z3Y (pv 5) (@z0g _ _ _ _ (pv 8)) (fun _ _=>rfl)) (@z0G _ _) (by rfl)) (by rfl)) (by decide)))
    ·exact (@z0q _ _ _ ([1]) (10) _ hnp sc__law_doubled.nd rfl (by first | exact Or.inl rfl | exact Or.inr rfl) (Or.inl rfl))
    ·refine (@z0a _ _ _ _ _ _ ?_ ?_)
     ·exact (@z0F _ _ _ _ _ _ ([1]) (11) _ hnp sc__law_doubled.nd rfl (by first | exact Or.inl rfl | exact Or.inr rfl) (@z1R _ _ _ _ _ (@z0G _ _) (by decide)) rfl (Or.inl rfl))
     refine (@z0a _ _ _ _ _ _ ?_ ?_)
     ·refine (@z2d _ _ _ _ _ _ _ _ _ PassesOwn.never rfl ?_ ?_ ?_ (by intro _; rfl))
      ·exact (@z2f _ _ _ _ _ (@z09 _ _ _ _ (pv 9)))
      ·exact (@z0q _ _ _ ([1]) (12) _ hnp sc__law_doubled.nd rfl (by first | exact Or.inl rfl | exact Or.inr rfl) (Or.inl rfl))
      ·refine (@z0k _ _ _ _ ?_)
       exact (@z1I _ _ _ _ _ _ _ _ _ (pv 11) (@z5t _ _ _ _ _ _ _ _ _ [] (@z0c _ _ _ _ (@z1p _ _ ([14]) _ _ _ _ _ _ _ _ _ _ rfl (@z0L _ _ _ rfl rfl) (@z2f _ _ _ _ _ (@z09 _ _ _ _ (pv 12))) (fun l s0 H0 ex=>(@z0H _ _ _ _ ([1]) (14) _ hnp sc__law_doubled.nd rfl (by first | exact Or.inl rfl | exact Or.inr rfl) (by first | exact Or.inl rfl | exact Or.inr rfl) (by decide))) (fun l s0 H0 ex=>(@z1g _ _)) (fun l s0 H0 ex=>(@z7O _ _ _ _ _ _ _ _ _ z0j z0E (@z1R _ _ _ _ _ (@z02 _ _ _ _ _ _ (@z09 _ _ _ _ (pv 14)) (@z02 _ _ _ _ _ _ (@z0i _ _ _ _ _ _ _ _ _ (ix_X hq) z3Y (pv 5) (@z0g _ _ _ _ (pv 14)) (fun _ _=>rfl)) (@z0G _ _) (by rfl)) (by rfl)) (by decide)) (@z0c _ _ _ _ (@z0l _ _ _ _ _ (2) _ _ _ _ _ k__law_draw z0d (hr.mono (by decide)) rfl (@z1j _ _ _ _ _ _ (pv 1) (@z08 _ _ _ _ _ _ (@z06 _ _ _ _ _) (@z0u _ _) (by rfl)) (by rfl)) rfl (by decide) (by rfl) (by rfl))) (fun _ _=>rfl))) (z1F hnp rfl) (by intro _; rfl))) (by decide +kernel) (by rfl) (by rfl) (by rfl) (by rfl)) (by rfl) (by rfl) (by rfl) (by rfl) (by rfl))
     refine (@z0k _ _ _ _ ?_)
     exact (@z1I _ _ _ _ _ _ _ _ _ (pv 7) (@z1d _ _ _ _ _ _ (@z02 _ _ _ _ _ _ (@z09 _ _ _ _ (pv 10)) (@z02 _ _ _ _ _ _ (@z1o _ _ _ _ _ _ rfl T.z_tuple (@z0g _ _ _ _ (pv 11)) (by rfl)) (@z0G _ _) (by rfl)) (by rfl)) (by decide)) (by rfl) (by rfl) (by rfl) (by rfl) (by rfl))
  refine (@z0k _ _ _ _ ?_)
  refine (@z0K _ _ _ _ _ ?_)
  exact (@z1d _ _ _ _ _ _ (@z02 _ _ _ _ _ _ (@z1d _ _ _ _ _ _ (@z02 _ _ _ _ _ _ (@z0i _ _ _ _ _ _ _ _ _ z0j z0E (pv 0) (@z0c _ _ _ _ (@z06 _ _ _ _ _)) (fun _ _=>rfl)) (@z02 _ _ _ _ _ _ (@z0i _ _ _ _ _ _ _ _ _ z0j z0E (pv 0) (@z0c _ _ _ _ (@z06 _ _ _ _ _)) (fun _ _=>rfl)) (@z02 _ _ _ _ _ _ (@z1o _ _ _ _ _ _ rfl T.z_tuple (@z0c _ _ _ _ (@za0 _ _ _ _ _ _ rfl T.z_sorted (@z0g _ _ _ _ (pv 7)) (by rfl))) (by rfl)) (@z0G _ _) (by rfl)) (by rfl)) (by rfl)) (by decide)) (@z02 _ _ _ _ _ _ (@z09 _ _ _ _ (pv 5)) (@z0G _ _) (by rfl)) (by rfl)) (by decide))) fun ss y h=>z0Q h
def z1y:DS:=(dSeq (dAsg (z05 z15 [.io 0,.val (eVar 1)]) (gNm [0] 2)) (dSeq (dAsg (z0r [10] (iSq (eOpF pIx 2 (bOf (eD (.int 2))))) (gNm [0] 10) dYes (eOpF pIx 10 (bOf (eD (.int 0))))) (gNm [0] 3)) (dSeq (dAsg z3w (gNm [0] 4)) (dSeq (dAsg (eOp pAdd (eD (.int 1)) (bOf (z05 z0b [.io 0,.val (eD (.int 3))]))) (gNm [0] 5)) (dSeq (dFor (iSq (eVar 3)) (gNm [0] 6) (z2l 4 (eVar 6) (eOp pIx (eD (.str [120,121,122])) (bOf (z05 z0b [.io 0,.val (eVar 5)]))))) (dSeq (dAsg (z05 z0b [.io 0,.val (eC1 pLen (bVar 3))]) (gNm [0] 7)) (dSeq (dAsg (z05 z0U [.val (eVar 2),.val (eVar 7)]) (gNm [0] 2)) (dSeq (dAsg (eOpF pIx 3 (bVar 7)) (gNm [0] 8)) (dSeq (dIf (dTr (eOp pEq (z05 z0b [.io 0,.val (eD (.int 2))]) (bOf (eD (.int 0))))) (dSeq (dAsg (z05 z17 [.val (eVar 2),.io 0]) (gTp 2 (z03 (gNm [0] 2) (z03 (gNm [0] 9) z0y)))) (dSeq (dFor (iSq (eVar 3)) (gNm [0] 6) (z2l 4 (eOpF pIxX 9 (bVar 6)) (eOpF pIxX 4 (bVar 6)))) (dSeq (dAsg (eOp pIx (eLst (z00 (eVar 8) (z00 (eOpF pIxX 9 (bVar 8)) aNil))) (bOf (z05 z0b [.io 0,.val (eD (.int 2))]))) (gNm [0] 8)) (dAsg (z05 z0U [.val (eVar 2),.val (eIdx (z0r [10] (iSq (eOpF pIx 2 (bOf (eD (.int 2))))) (gNm [0] 10) dYes (eOpF pIx 10 (bOf (eD (.int 0))))) (eVar 8))]) (gNm [0] 2))))) z0O) (dRet (eTup (z00 (eVar 2) (z00 (eVar 8) (z00 (eC1 z0m (bOf (z0r [10] (iSq (eOpF pIx 2 (bOf (eD (.int 2))))) (gNm [0] 10) dYes (eTup (z00 (eOpF pIx 10 (bOf (eD (.int 0)))) (z00 (eOpF pIxX 4 (bOf (eOpF pIx 10 (bOf (eD (.int 0)))))) aNil)))))) aNil))))))))))))))
def z0D:DF:=gOf [0] 11 z1y
theorem z2J:z1z z0D:=z0w
theorem sc__law_painted_by:FnScope ["pen","most","rule","tiles","signs","kinds","tile","spot","start","twin","pair"] ["pen","most"] (z07 z1w):=⟨rfl,rfl,rfl,by decide +kernel,rfl,by decide +kernel,by decide +kernel⟩
theorem z3k {K:W0} (F:Fun K "_law_painted_by" "_law_painted_by" z1w f fd) (hm:mg "_law_painted_by" = some (.ref f)) (hb:Binds K fd ["pen","most"] []) (T:Txt ce K mg) (k__law_draw:KFn P w K mg base 2 "_law_draw" 2 z0b) (k__law_rule_by:KFn P w K mg base 4 "_law_rule_by" 2 z15) (k__law_stilled:KFn P w K mg base 1 "_law_stilled" 2 z0U) (k__law_doubled:KFn P w K mg base 3 "_law_doubled" 2 z17):KFn P w K mg base 5 "_law_painted_by" 2 z0D :=
 z1v (np:=[0]) (fb:=z1y) F hm hb sc__law_painted_by (fun c cdv A outer s H E hr hnp=>by
  have hq:=z2k hr
  refine (@z0a _ _ _ _ _ _ ?_ ?_)
  ·exact (@z0F _ _ _ _ _ _ ([0]) (2) _ hnp sc__law_painted_by.nd rfl (by first | exact Or.inl rfl | exact Or.inr rfl) (@z0l _ _ _ _ _ (4) _ _ _ _ _ k__law_rule_by z3p (hr.mono (by decide)) rfl (@z1j _ _ _ _ _ _ (pv 0) (@z08 _ _ _ _ _ _ (@z09 _ _ _ _ (pv 1)) (@z0u _ _) (by rfl)) (by rfl)) rfl (by decide) (by rfl) (by rfl)) rfl (Or.inl rfl))
  refine (@z0a _ _ _ _ _ _ ?_ ?_)
  ·exact (@z57 _ _ ([10]) _ _ _ _ _ _ _ _ _ _ ([0]) (3) _ _ _ hnp rfl (@z0L _ _ _ rfl rfl) sc__law_painted_by.nd rfl rfl (@z2f _ _ _ _ _ (@z0i _ _ _ _ _ _ _ _ _ z0j z0E (pv 2) (@z0c _ _ _ _ (@z06 _ _ _ _ _)) (fun _ _=>rfl))) (fun l s0 H0 ex=>(@z0H _ _ _ _ ([0]) (10) _ hnp sc__law_painted_by.nd rfl (by first | exact Or.inl rfl | exact Or.inr rfl) (by first | exact Or.inl rfl | exact Or.inr rfl) (by decide))) (fun l s0 H0 ex=>(@z1g _ _)) (fun l s0 H0 ex=>(@z0i _ _ _ _ _ _ _ _ _ z0j z0E (pv 10) (@z0c _ _ _ _ (@z06 _ _ _ _ _)) (fun _ _=>rfl))) (z1F hnp rfl) (by rfl) (by intro _; rfl))
  refine (@z0a _ _ _ _ _ _ ?_ ?_)
  ·exact (@z0F _ _ _ _ _ _ ([0]) (4) _ hnp sc__law_painted_by.nd rfl (by first | exact Or.inl rfl | exact Or.inr rfl) (@z7l _ _ _) rfl (Or.inl rfl))
  refine (@z0a _ _ _ _ _ _ ?_ ?_)
  ·exact (@z0F _ _ _ _ _ _ ([0]) (5) _ hnp sc__law_painted_by.nd rfl (by first | exact Or.inl rfl | exact Or.inr rfl) (@z1B _ _ _ _ _ _ _ _ _ _ z10 z1q (@z06 _ _ _ _ _) (@z0c _ _ _ _ (@z0l _ _ _ _ _ (2) _ _ _ _ _ k__law_draw z0d (hr.mono (by decide)) rfl (@z1j _ _ _ _ _ _ (pv 0) (@z08 _ _ _ _ _ _ (@z06 _ _ _ _ _) (@z0u _ _) (by rfl)) (by rfl)) rfl (by decide) (by rfl) (by rfl)))) rfl (Or.inl rfl))
  refine (@z0a _ _ _ _ _ _ ?_ ?_)
  ·refine (@z2d _ _ _ _ _ _ _ _ _ PassesOwn.never rfl ?_ ?_ ?_ (by intro _; rfl))
   ·exact (@z2f _ _ _ _ _ (@z09 _ _ _ _ (pv 3)))
   ·exact (@z0q _ _ _ ([0]) (6) _ hnp sc__law_painted_by.nd rfl (by first | exact Or.inl rfl | exact Or.inr rfl) (Or.inl rfl))
   ·refine (@z0k _ _ _ _ ?_)
    exact (@z6O _ _ _ _ _ _ _ _ _ _ hq (pv 4) (@z09 _ _ _ _ (pv 6)) (@z7O _ _ _ _ _ _ _ _ _ z0j z0E (@z4o _ _ _ _ _ [120,121,122] (by decide +kernel)) (@z0c _ _ _ _ (@z0l _ _ _ _ _ (2) _ _ _ _ _ k__law_draw z0d (hr.mono (by decide)) rfl (@z1j _ _ _ _ _ _ (pv 0) (@z08 _ _ _ _ _ _ (@z09 _ _ _ _ (pv 5)) (@z0u _ _) (by rfl)) (by rfl)) rfl (by decide) (by rfl) (by rfl))) (fun _ _=>rfl)) (by rfl))
  refine (@z0a _ _ _ _ _ _ ?_ ?_)
  ·exact (@z0F _ _ _ _ _ _ ([0]) (7) _ hnp sc__law_painted_by.nd rfl (by first | exact Or.inl rfl | exact Or.inr rfl) (@z0l _ _ _ _ _ (2) _ _ _ _ _ k__law_draw z0d (hr.mono (by decide)) rfl (@z1j _ _ _ _ _ _ (pv 0) (@z08 _ _ _ _ _ _ (@z4p _ _ _ _ _ _ rfl T.z_len (@z0g _ _ _ _ (pv 3)) (by rfl)) (@z0u _ _) (by rfl)) (by rfl)) rfl (by decide) (by rfl) (by rfl)) rfl (Or.inl rfl))
  refine (@z0a _ _ _ _ _ _ ?_ ?_)
  ·exact (@z0F _ _ _ _ _ _ ([0]) (2) _ hnp sc__law_painted_by.nd rfl (by first | exact Or.inl rfl | exact Or.inr rfl) (@z0l _ _ _ _ _ (1) _ _ _ _ _ k__law_stilled z1U (hr.mono (by decide)) rfl (@z08 _ _ _ _ _ _ (@z09 _ _ _ _ (pv 2)) (@z08 _ _ _ _ _ _ (@z09 _ _ _ _ (pv 7)) (@z0u _ _) (by rfl)) (by rfl)) rfl (by decide) (by rfl) (by rfl)) rfl (Or.inl rfl))
  refine (@z0a _ _ _ _ _ _ ?_ ?_)
  ·exact (@z0F _ _ _ _ _ _ ([0]) (8) _ hnp sc__law_painted_by.nd rfl (by first | exact Or.inl rfl | exact Or.inr rfl) (@z0i _ _ _ _ _ _ _ _ _ z0j z0E (pv 3) (@z0g _ _ _ _ (pv 7)) (fun _ _=>rfl)) rfl (Or.inl rfl))
  refine (@z0a _ _ _ _ _ _ ?_ ?_)
  ·refine (@z2Y _ _ _ _ _ _ _ _ _ ?_ ?_ ?_)
   ·exact (@z3S _ _ _ _ _ _ _ _ _ _ (z3X hq) z6i (@z0l _ _ _ _ _ (2) _ _ _ _ _ k__law_draw z0d (hr.mono (by decide)) rfl (@z1j _ _ _ _ _ _ (pv 0) (@z08 _ _ _ _ _ _ (@z06 _ _ _ _ _) (@z0u _ _) (by rfl)) (by rfl)) rfl (by decide) (by rfl) (by rfl)) (@z0c _ _ _ _ (@z06 _ _ _ _ _)) (z1G _))
   ·refine (@z0a _ _ _ _ _ _ ?_ ?_)
    ·refine (@z3T _ _ _ _ _ _ _ ?_ ?_ (by rfl) (by rfl) (by rfl))
     ·exact (@z0l _ _ _ _ _ (3) _ _ _ _ _ k__law_doubled z3r (hr.mono (by decide)) rfl (@z08 _ _ _ _ _ _ (@z09 _ _ _ _ (pv 2)) (@z1j _ _ _ _ _ _ (pv 0) (@z0u _ _) (by rfl)) (by rfl)) rfl (by decide) (by rfl) (by rfl))
     ·exact (@z3d _ _ _ _ _ _ _ rfl (@z0C _ _ _ _ _ _ (@z0q _ _ _ ([0]) (2) _ hnp sc__law_painted_by.nd rfl (by first | exact Or.inl rfl | exact Or.inr rfl) (Or.inl rfl)) (@z0C _ _ _ _ _ _ (@z0q _ _ _ ([0]) (9) _ hnp sc__law_painted_by.nd rfl (by first | exact Or.inl rfl | exact Or.inr rfl) (Or.inl rfl)) (@z2n _ _) (by rfl)) (by rfl)) (by rfl) (by rfl))
    refine (@z0a _ _ _ _ _ _ ?_ ?_)
    ·refine (@z2d _ _ _ _ _ _ _ _ _ PassesOwn.never rfl ?_ ?_ ?_ (by intro _; rfl))
     ·exact (@z2f _ _ _ _ _ (@z09 _ _ _ _ (pv 3)))
     ·exact (@z0q _ _ _ ([0]) (6) _ hnp sc__law_painted_by.nd rfl (by first | exact Or.inl rfl | exact Or.inr rfl) (Or.inl rfl))
     ·refine (@z0k _ _ _ _ ?_)
      exact (@z6O _ _ _ _ _ _ _ _ _ _ hq (pv 4) (@z0i _ _ _ _ _ _ _ _ _ (ix_X hq) z3Y (pv 9) (@z0g _ _ _ _ (pv 6)) (fun _ _=>rfl)) (@z0i _ _ _ _ _ _ _ _ _ (ix_X hq) z3Y (pv 4) (@z0g _ _ _ _ (pv 6)) (fun _ _=>rfl)) (by rfl))
    refine (@z0a _ _ _ _ _ _ ?_ ?_)
    ·exact (@z0F _ _ _ _ _ _ ([0]) (8) _ hnp sc__law_painted_by.nd rfl (by first | exact Or.inl rfl | exact Or.inr rfl) (@z7O _ _ _ _ _ _ _ _ _ z0j z0E (@z1R _ _ _ _ _ (@z02 _ _ _ _ _ _ (@z09 _ _ _ _ (pv 8)) (@z02 _ _ _ _ _ _ (@z0i _ _ _ _ _ _ _ _ _ (ix_X hq) z3Y (pv 9) (@z0g _ _ _ _ (pv 8)) (fun _ _=>rfl)) (@z0G _ _) (by rfl)) (by rfl)) (by decide)) (@z0c _ _ _ _ (@z0l _ _ _ _ _ (2) _ _ _ _ _ k__law_draw z0d (hr.mono (by decide)) rfl (@z1j _ _ _ _ _ _ (pv 0) (@z08 _ _ _ _ _ _ (@z06 _ _ _ _ _) (@z0u _ _) (by rfl)) (by rfl)) rfl (by decide) (by rfl) (by rfl))) (fun _ _=>rfl)) rfl (Or.inl rfl))
    refine (@z0k _ _ _ _ ?_)
    exact (@z0F _ _ _ _ _ _ ([0]) (2) _ hnp sc__law_painted_by.nd rfl (by first | exact Or.inl rfl | exact Or.inr rfl) (@z0l _ _ _ _ _ (1) _ _ _ _ _ k__law_stilled z1U (hr.mono (by decide)) rfl (@z08 _ _ _ _ _ _ (@z09 _ _ _ _ (pv 2)) (@z08 _ _ _ _ _ _ (@zcG _ _ _ _ _ _ _ _ (@z1p _ _ ([10]) _ _ _ _ _ _ _ _ _ _ rfl (@z0L _ _ _ rfl rfl) (@z2f _ _ _ _ _ (@z0i _ _ _ _ _ _ _ _ _ z0j z0E (pv 2) (@z0c _ _ _ _ (@z06 _ _ _ _ _)) (fun _ _=>rfl))) (fun l s0 H0 ex=>(@z0H _ _ _ _ ([0]) (10) _ hnp sc__law_painted_by.nd rfl (by first | exact Or.inl rfl | exact Or.inr rfl) (by first | exact Or.inl rfl | exact Or.inr rfl) (by decide))) (fun l s0 H0 ex=>(@z1g _ _)) (fun l s0 H0 ex=>(@z0i _ _ _ _ _ _ _ _ _ z0j z0E (pv 10) (@z0c _ _ _ _ (@z06 _ _ _ _ _)) (fun _ _=>rfl))) (z1F hnp rfl) (by intro _; rfl)) (@z09 _ _ _ _ (pv 8)) (by rfl) (by rfl) (by rfl) (by rfl)) (@z0u _ _) (by rfl)) (by rfl)) rfl (by decide) (by rfl) (by rfl)) rfl (Or.inl rfl))
   ·exact z1K
  refine (@z0k _ _ _ _ ?_)
  refine (@z0K _ _ _ _ _ ?_)
  exact (@z1d _ _ _ _ _ _ (@z02 _ _ _ _ _ _ (@z09 _ _ _ _ (pv 2)) (@z02 _ _ _ _ _ _ (@z09 _ _ _ _ (pv 8)) (@z02 _ _ _ _ _ _ (@z1o _ _ _ _ _ _ rfl T.z_tuple (@z0c _ _ _ _ (@z1p _ _ ([10]) _ _ _ _ _ _ _ _ _ _ rfl (@z0L _ _ _ rfl rfl) (@z2f _ _ _ _ _ (@z0i _ _ _ _ _ _ _ _ _ z0j z0E (pv 2) (@z0c _ _ _ _ (@z06 _ _ _ _ _)) (fun _ _=>rfl))) (fun l s0 H0 ex=>(@z0H _ _ _ _ ([0]) (10) _ hnp sc__law_painted_by.nd rfl (by first | exact Or.inl rfl | exact Or.inr rfl) (by first | exact Or.inl rfl | exact Or.inr rfl) (by decide))) (fun l s0 H0 ex=>(@z1g _ _)) (fun l s0 H0 ex=>(@z1d _ _ _ _ _ _ (@z02 _ _ _ _ _ _ (@z0i _ _ _ _ _ _ _ _ _ z0j z0E (pv 10) (@z0c _ _ _ _ (@z06 _ _ _ _ _)) (fun _ _=>rfl)) (@z02 _ _ _ _ _ _ (@z0i _ _ _ _ _ _ _ _ _ (ix_X hq) z3Y (pv 4) (@z0c _ _ _ _ (@z0i _ _ _ _ _ _ _ _ _ z0j z0E (pv 10) (@z0c _ _ _ _ (@z06 _ _ _ _ _)) (fun _ _=>rfl))) (fun _ _=>rfl)) (@z0G _ _) (by rfl)) (by rfl)) (by decide))) (z1F hnp rfl) (by intro _; rfl))) (by rfl)) (@z0G _ _) (by rfl)) (by rfl)) (by rfl)) (by decide))) fun ss y h=>z0Q h
def z2y:DS:=(dSeq (dAsg (eMax (eVar 0) (eOp pSub (eD (.int 0)) (bVar 0))) (gNm [] 1)) (dRet (eLst (z00 (eVar 1) (z00 (eC1 pInt (bOf (eOpF pGe 1 (bOf (eOp pPow (eD (.int 10)) (bOf (eD (.int 18)))))))) (z00 (eOpF pMod 1 (bOf (eD (.int 1000003)))) aNil))))))
def z14:DF:=gOf [] 2 z2y
theorem z3Q:z1z z14:=z0w
theorem sc__law_pen_of:FnScope ["cell","left"] ["cell"] (z07 z2r):=⟨rfl,rfl,rfl,by decide +kernel,rfl,by decide +kernel,by decide +kernel⟩
theorem z51 {K:W0} (F:Fun K "_law_pen_of" "_law_pen_of" z2r f fd) (hm:mg "_law_pen_of" = some (.ref f)) (hb:Binds K fd ["cell"] []) (T:Txt ce K mg):KFn P w K mg base 1 "_law_pen_of" 1 z14 :=
 z1v (np:=[]) (fb:=z2y) F hm hb sc__law_pen_of (fun c cdv A outer s H E hr hnp=>by
  have hq:=z2k hr
  refine (@z0a _ _ _ _ _ _ ?_ ?_)
  ·exact (@z0F _ _ _ _ _ _ ([]) (1) _ hnp sc__law_pen_of.nd rfl (by first | exact Or.inl rfl | exact Or.inr rfl) (@zcE _ _ _ _ _ _ _ _ rfl rfl T.z_max (@z09 _ _ _ _ (pv 0)) (@z1B _ _ _ _ _ _ _ _ _ _ z8Y z94 (@z06 _ _ _ _ _) (@z0g _ _ _ _ (pv 0))) (by rfl) (by rfl) (by rfl)) rfl (Or.inl rfl))
  refine (@z0k _ _ _ _ ?_)
  refine (@z0K _ _ _ _ _ ?_)
  exact (@z1R _ _ _ _ _ (@z02 _ _ _ _ _ _ (@z09 _ _ _ _ (pv 1)) (@z02 _ _ _ _ _ _ (@zbG _ _ _ _ _ _ rfl T.z_int (@z0c _ _ _ _ (@z6Q _ _ _ _ _ _ _ _ _ _ zdn z6j (pv 1) (@z0c _ _ _ _ (@z1B _ _ _ _ _ _ _ _ _ _ zb1 zb3 (@z06 _ _ _ _ _) (@z0c _ _ _ _ (@z06 _ _ _ _ _)))) (z1G _))) (by rfl)) (@z02 _ _ _ _ _ _ (@z2X _ _ _ _ _ _ _ _ _ _ z4w z4E (pv 1) (@z0c _ _ _ _ (@z06 _ _ _ _ _))) (@z0G _ _) (by rfl)) (by rfl)) (by rfl)) (by decide))) fun ss y h=>z0Q h
def z2Q:DS:=(dRet (eAnd (eIsi "int" (bVar 0)) (eAnd (eNot (eIsi "bool" (bVar 0))) (eOpF pLe 1 (bVar 0)))))
def z1m:DF:=gOf [] 2 z2Q
theorem z49:z1z z1m:=z0w
theorem z5v:FnScope ["thing","least"] ["thing","least"] (z07 z2E):=⟨rfl,rfl,rfl,by decide +kernel,rfl,by decide +kernel,by decide +kernel⟩
theorem z5E {K:W0} (F:Fun K "whole_from" "whole_from" z2E f fd) (hm:mg "whole_from" = some (.ref f)) (hb:Binds K fd ["thing","least"] []) (T:Txt ce K mg):KFn P w K mg base 1 "whole_from" 2 z1m :=
 z1v (np:=[]) (fb:=z2Q) F hm hb z5v (fun c cdv A outer s H E hr hnp=>by
  have hq:=z2k hr
  refine (@z0k _ _ _ _ ?_)
  refine (@z0K _ _ _ _ _ ?_)
  exact (@z8s _ _ _ _ _ _ _ _ (@z7k _ _ _ _ _ _ _ _ _ T.ty_int rfl T.z_isinstance rfl T.z_int boot_int (@z0g _ _ _ _ (pv 0)) (by decide) (by decide) (by rfl) (by rfl)) (@z8s _ _ _ _ _ _ _ _ (@zcC _ _ _ _ _ (@z7k _ _ _ _ _ _ _ _ _ T.ty_bool rfl T.z_isinstance rfl T.z_bool boot_bool (@z0g _ _ _ _ (pv 0)) (by decide) (by decide) (by rfl) (by rfl))) (@zaS _ _ _ _ _ _ (@z6Q _ _ _ _ _ _ _ _ _ _ zb2 z6j (pv 1) (@z0g _ _ _ _ (pv 0)) (z1G _)))))) fun ss y h=>z0Q h
def z25:DS:=(dRet (eAnd (z05 z1m [.val (eVar 0),.val (eVar 1)]) (eOpF pLe 0 (bVar 2))))
def z0R:DF:=gOf [] 3 z25
theorem z1T:z1z z0R:=z0w
theorem z4r:FnScope ["thing","least","most"] ["thing","least","most"] (z07 z1W):=⟨rfl,rfl,rfl,by decide +kernel,rfl,by decide +kernel,by decide +kernel⟩
theorem z4x {K:W0} (F:Fun K "whole_within" "whole_within" z1W f fd) (hm:mg "whole_within" = some (.ref f)) (hb:Binds K fd ["thing","least","most"] []) (T:Txt ce K mg) (k_whole_from:KFn P w K mg base 1 "whole_from" 2 z1m):KFn P w K mg base 2 "whole_within" 3 z0R :=
 z1v (np:=[]) (fb:=z25) F hm hb z4r (fun c cdv A outer s H E hr hnp=>by
  have hq:=z2k hr
  refine (@z0k _ _ _ _ ?_)
  refine (@z0K _ _ _ _ _ ?_)
  exact (@z8s _ _ _ _ _ _ _ _ (@z0l _ _ _ _ _ (1) _ _ _ _ _ k_whole_from z49 (hr.mono (by decide)) rfl (@z08 _ _ _ _ _ _ (@z09 _ _ _ _ (pv 0)) (@z08 _ _ _ _ _ _ (@z09 _ _ _ _ (pv 1)) (@z0u _ _) (by rfl)) (by rfl)) rfl (by decide) (by rfl) (by rfl)) (@zaS _ _ _ _ _ _ (@z6Q _ _ _ _ _ _ _ _ _ _ zb2 z6j (pv 0) (@z0g _ _ _ _ (pv 2)) (z1G _))))) fun ss y h=>z0Q h
def z1H:DS:=(dSeq (dIf (dOr (dNot (dTr (z05 z0R [.val (eVar 2),.val (eD (.int 0)),.val (eOp pSub (eOpF pIx 0 (bOf (eD (.int 0)))) (bOf (eD (.int 1))))]))) (dNot (dTr (z05 z0R [.val (eVar 3),.val (eD (.int 0)),.val (eOp pSub (eOpF pIx 0 (bOf (eD (.int 1)))) (bOf (eD (.int 1))))])))) (z7E [78,111,80,108,97,99,101]) z0O) (dSeq (dAsg (eC1 z24 (bVar 1)) (gNm [] 4)) (dRet (eC1 z0m (bOf (z0r [5,6] (iSq (eOpF pIx 0 (bOf (eD (.int 2))))) (gTp 2 (z03 (gNm [] 5) (z03 (gNm [] 6) z0y))) dYes (eTup (z00 (eVar 5) (z00 (eOpF pIxX 4 (bOf (eOp pIx (eOpF pIx 6 (bVar 2)) (bVar 3)))) aNil)))))))))
def z0z:DX:=gOfX [] 7 z1H
theorem z2i:z5m z0z:=z83
theorem sc_taken_signs:FnScope ["rule","paint","row","column","sign_of","tile","block"] ["rule","paint","row","column"] (z07 z2p):=⟨rfl,rfl,rfl,by decide +kernel,rfl,by decide +kernel,by decide +kernel⟩
theorem z4Z {K:W0} (F:Fun K "taken_signs" "taken_signs" z2p f fd) (hm:mg "taken_signs" = some (.ref f)) (hb:Binds K fd ["rule","paint","row","column"] []) (T:Txt ce K mg) (k_whole_within:KFn P w K mg base 2 "whole_within" 3 z0R):KFnX P w K mg base 3 "taken_signs" 4 z0z :=
 zce (np:=[]) (fb:=z1H) F hm hb sc_taken_signs (fun c cdv A outer s H E hr hnp hxo=>by
  have hq:=z2k hr
  refine (@z0a _ _ _ _ _ _ ?_ ?_)
  ·refine (@z2Y _ _ _ _ _ _ _ _ _ ?_ ?_ ?_)
   ·exact (@z7M _ _ _ _ (@z8l _ _ _ _ _ _ _ _ (@z3c _ _ _ _ _ (@z3b _ _ _ _ (@z0l _ _ _ _ _ (2) _ _ _ _ _ k_whole_within z1T (hr.mono (by decide)) rfl (@z08 _ _ _ _ _ _ (@z09 _ _ _ _ (pv 2)) (@z08 _ _ _ _ _ _ (@z06 _ _ _ _ _) (@z08 _ _ _ _ _ _ (@z1B _ _ _ _ _ _ _ _ _ _ z8Y z94 (@z0i _ _ _ _ _ _ _ _ _ z0j z0E (pv 0) (@z0c _ _ _ _ (@z06 _ _ _ _ _)) (fun _ _=>rfl)) (@z0c _ _ _ _ (@z06 _ _ _ _ _))) (@z0u _ _) (by rfl)) (by rfl)) (by rfl)) rfl (by decide) (by rfl) (by rfl)) (by intro _; rfl))) (@z5Z _ _ _ _ _ (@z3c _ _ _ _ _ (@z3b _ _ _ _ (@z0l _ _ _ _ _ (2) _ _ _ _ _ k_whole_within z1T (hr.mono (by decide)) rfl (@z08 _ _ _ _ _ _ (@z09 _ _ _ _ (pv 3)) (@z08 _ _ _ _ _ _ (@z06 _ _ _ _ _) (@z08 _ _ _ _ _ _ (@z1B _ _ _ _ _ _ _ _ _ _ z8Y z94 (@z0i _ _ _ _ _ _ _ _ _ z0j z0E (pv 0) (@z0c _ _ _ _ (@z06 _ _ _ _ _)) (fun _ _=>rfl)) (@z0c _ _ _ _ (@z06 _ _ _ _ _))) (@z0u _ _) (by rfl)) (by rfl)) (by rfl)) rfl (by decide) (by rfl) (by rfl)) (by intro _; rfl))))))
   ·refine (@z0k _ _ _ _ ?_)
    exact (@z9V _ _ _ _ _ _ _ [78,111,80,108,97,99,101] T.q_b rfl rfl T.c_b hxo (by decide +kernel) (by decide) (by rfl))
   ·exact z1K
  refine (@z0a _ _ _ _ _ _ ?_ ?_)
  ·exact (@z0F _ _ _ _ _ _ ([]) (4) _ hnp sc_taken_signs.nd rfl (by first | exact Or.inl rfl | exact Or.inr rfl) (@z62 _ _ _ _ _ _ rfl rfl T.z_dict (@z0g _ _ _ _ (pv 1)) (by rfl)) rfl (Or.inl rfl))
  refine (@z0k _ _ _ _ ?_)
  refine (@z0K _ _ _ _ _ ?_)
  exact (@z1o _ _ _ _ _ _ rfl T.z_tuple (@z0c _ _ _ _ (@z1p _ _ ([5,6]) _ _ _ _ _ _ _ _ _ _ rfl (@z0L _ _ _ rfl rfl) (@z2f _ _ _ _ _ (@z0i _ _ _ _ _ _ _ _ _ z0j z0E (pv 0) (@z0c _ _ _ _ (@z06 _ _ _ _ _)) (fun _ _=>rfl))) (fun l s0 H0 ex=>(@z5s _ _ _ _ _ _ _ _ rfl (@z1A _ _ _ _ _ _ _ (@z0H _ _ _ _ ([]) (5) _ hnp sc_taken_signs.nd rfl (by first | exact Or.inl rfl | exact Or.inr rfl) (by first | exact Or.inl rfl | exact Or.inr rfl) (by decide)) (@z1A _ _ _ _ _ _ _ (@z0H _ _ _ _ ([]) (6) _ hnp sc_taken_signs.nd rfl (by first | exact Or.inl rfl | exact Or.inr rfl) (by first | exact Or.inl rfl | exact Or.inr rfl) (by decide)) (@z4d _ _ _) (by rfl)) (by rfl)) (by rfl) (by rfl))) (fun l s0 H0 ex=>(@z1g _ _)) (fun l s0 H0 ex=>(@z1d _ _ _ _ _ _ (@z02 _ _ _ _ _ _ (@z09 _ _ _ _ (pv 5)) (@z02 _ _ _ _ _ _ (@z0i _ _ _ _ _ _ _ _ _ (ix_X hq) z3Y (pv 4) (@z0c _ _ _ _ (@z7O _ _ _ _ _ _ _ _ _ z0j z0E (@z0i _ _ _ _ _ _ _ _ _ z0j z0E (pv 6) (@z0g _ _ _ _ (pv 2)) (fun _ _=>rfl)) (@z0g _ _ _ _ (pv 3)) (fun _ _=>rfl))) (fun _ _=>rfl)) (@z0G _ _) (by rfl)) (by rfl)) (by decide))) (z1F hnp rfl) (by intro _; rfl))) (by rfl))) fun ss y h=>z7B h
def z2a (ce:Tx→Nat):DS:=(dSeq (dAsg (eLst (z00 (eIsC ce ys (fun z=>z == [78,111,70,108,111,111,114]) (bVar 0)) (z00 (eIsC ce ys (fun z=>z == [78,111,80,108,97,99,101]) (bVar 0)) (z00 (eIsC ce ys (fun z=>z == [78,111,78,117,109,98,101,114]) (bVar 0)) (z00 (eIsC ce ys (fun z=>z == [78,111,82,111,119]) (bVar 0)) aNil))))) (gNm [] 1)) (dSeq (dAsg (eOpF pAdd 1 (bOf (eLst (z00 (eIsC ce ys (fun z=>z == [85,110,108,105,107,101]) (bVar 0)) (z00 (eIsC ce ys (fun z=>z == [78,111,84,105,108,101]) (bVar 0)) (z00 (eIsC ce ys (fun z=>z == [78,111,82,117,108,101]) (bVar 0)) (z00 (eIsC ce ys (fun z=>z == [78,111,84,101,120,116]) (bVar 0)) aNil))))))) (gNm [] 1)) (dSeq (z0s 1 (eIsC ce ys (fun z=>z == [84,111,111,71,114,101,97,116]) (bVar 0))) (dSeq (dIf (dOr (dNot (dTr (eIsC ce ys (fun _=>true) (bVar 0)))) (dTr (eOp pNe (eC1 z5d (bVar 1)) (bOf (eD (.int 1)))))) (dRet (eD (.str [111,116,104,101,114]))) z0O) (dSeq (dAsg (zaE [.str [102,108,111,111,114],.str [112,108,97,99,101],.str [110,117,109,98,101,114],.str [114,111,119],.str [117,110,108,105,107,101],.str [116,105,108,101],.str [114,117,108,101],.str [116,101,120,116],.str [103,114,101,97,116]]) (gNm [] 2)) (dRet (eOpF pIx 2 (bOf (eC1 z3K (bVar 1))))))))))
def z16 (ce:Tx→Nat):DF:=gOf [] 3 (z2a ce)
theorem z3q {ce:Tx→Nat}:z1z (z16 ce):=z0w
theorem sc__law_kind_of:FnScope ["e","marks","words"] ["e"] (z07 z21):=⟨rfl,rfl,rfl,by decide +kernel,rfl,by decide +kernel,by decide +kernel⟩
theorem z44 {K:W0} (F:Fun K "_law_kind_of" "_law_kind_of" z21 f fd) (hm:mg "_law_kind_of" = some (.ref f)) (hb:Binds K fd ["e"] []) (T:Txt ce K mg):KFnH P w K mg base 1 "_law_kind_of" 1 (z16 ce) :=
 zcf (np:=[]) (fb:=(z2a ce)) F hm hb sc__law_kind_of (fun c cdv A outer s H E hr hnp=>by
  have hq:=zdH hr
  refine (@z0a _ _ _ _ _ _ ?_ ?_)
  ·exact (@z0F _ _ _ _ _ _ ([]) (1) _ hnp sc__law_kind_of.nd rfl (by first | exact Or.inl rfl | exact Or.inr rfl) (@z1R _ _ _ _ _ (@z02 _ _ _ _ _ _ (@z3e _ _ _ _ _ _ _ _ _ _ _ _ T.i_a rfl T.z_isinstance rfl T.c_a (@z0g _ _ _ _ (pv 0)) (by decide) (by rfl) (by rfl)) (@z02 _ _ _ _ _ _ (@z3e _ _ _ _ _ _ _ _ _ _ _ _ T.i_b rfl T.z_isinstance rfl T.c_b (@z0g _ _ _ _ (pv 0)) (by decide) (by rfl) (by rfl)) (@z02 _ _ _ _ _ _ (@z3e _ _ _ _ _ _ _ _ _ _ _ _ T.i_c rfl T.z_isinstance rfl T.c_c (@z0g _ _ _ _ (pv 0)) (by decide) (by rfl) (by rfl)) (@z02 _ _ _ _ _ _ (@z3e _ _ _ _ _ _ _ _ _ _ _ _ T.i_d rfl T.z_isinstance rfl T.c_d (@z0g _ _ _ _ (pv 0)) (by decide) (by rfl) (by rfl)) (@z0G _ _) (by rfl)) (by rfl)) (by rfl)) (by rfl)) (by decide)) rfl (Or.inl rfl))
  refine (@z0a _ _ _ _ _ _ ?_ ?_)
  ·exact (@z0F _ _ _ _ _ _ ([]) (1) _ hnp sc__law_kind_of.nd rfl (by first | exact Or.inl rfl | exact Or.inr rfl) (@z2X _ _ _ _ _ _ _ _ _ _ z10 z1q (pv 1) (@z0c _ _ _ _ (@z1R _ _ _ _ _ (@z02 _ _ _ _ _ _ (@z3e _ _ _ _ _ _ _ _ _ _ _ _ T.i_e rfl T.z_isinstance rfl T.c_e (@z0g _ _ _ _ (pv 0)) (by decide) (by rfl) (by rfl)) (@z02 _ _ _ _ _ _ (@z3e _ _ _ _ _ _ _ _ _ _ _ _ T.i_f rfl T.z_isinstance rfl T.c_f (@z0g _ _ _ _ (pv 0)) (by decide) (by rfl) (by rfl)) (@z02 _ _ _ _ _ _ (@z3e _ _ _ _ _ _ _ _ _ _ _ _ T.i_g rfl T.z_isinstance rfl T.c_g (@z0g _ _ _ _ (pv 0)) (by decide) (by rfl) (by rfl)) (@z02 _ _ _ _ _ _ (@z3e _ _ _ _ _ _ _ _ _ _ _ _ T.i_h rfl T.z_isinstance rfl T.c_h (@z0g _ _ _ _ (pv 0)) (by decide) (by rfl) (by rfl)) (@z0G _ _) (by rfl)) (by rfl)) (by rfl)) (by rfl)) (by decide)))) rfl (Or.inl rfl))
  refine (@z0a _ _ _ _ _ _ ?_ ?_)
  ·exact (@z1I _ _ _ _ _ _ _ _ _ (pv 1) (@z3e _ _ _ _ _ _ _ _ _ _ _ _ T.i_i rfl T.z_isinstance rfl T.c_i (@z0g _ _ _ _ (pv 0)) (by decide) (by rfl) (by rfl)) (by rfl) (by rfl) (by rfl) (by rfl) (by rfl))
  refine (@z0a _ _ _ _ _ _ ?_ ?_)
  ·refine (@z2Y _ _ _ _ _ _ _ _ _ ?_ ?_ ?_)
   ·exact (@z7M _ _ _ _ (@z8l _ _ _ _ _ _ _ _ (@z3c _ _ _ _ _ (@z3b _ _ _ _ (@zcF _ _ _ _ _ _ _ _ _ _ _ _ T.i_ValueError rfl T.z_isinstance rfl T.z_ValueError z4V (@z0g _ _ _ _ (pv 0)) (by decide) (by decide) (by rfl) (by rfl)) (by intro _; rfl))) (@z5Z _ _ _ _ _ (@z3S _ _ _ _ _ _ _ _ _ _ (z90 hq) zc3 (@za2 _ _ _ _ _ _ _ _ (@z0g _ _ _ _ (pv 1)) (by rfl) (by rfl) (by rfl) (by rfl)) (@z0c _ _ _ _ (@z06 _ _ _ _ _)) (z1G _)))))
   ·refine (@z0k _ _ _ _ ?_)
    refine (@z0K _ _ _ _ _ ?_)
    exact (@z4o _ _ _ _ _ [111,116,104,101,114] (by decide +kernel))
   ·exact z1K
  refine (@z0a _ _ _ _ _ _ ?_ ?_)
  ·exact (@z0F _ _ _ _ _ _ ([]) (2) _ hnp sc__law_kind_of.nd rfl (by first | exact Or.inl rfl | exact Or.inr rfl) (@z63 _ _ _ _ _ (by rfl) (by decide)) rfl (Or.inl rfl))
  refine (@z0k _ _ _ _ ?_)
  refine (@z0K _ _ _ _ _ ?_)
  exact (@z0i _ _ _ _ _ _ _ _ _ z0j z0E (pv 2) (@z0c _ _ _ _ (@za1 _ _ _ _ _ _ _ _ (@z0g _ _ _ _ (pv 1)) (by rfl) (by rfl) (by rfl) (by rfl))) (fun _ _=>rfl))) fun ss y h=>z0Q h
def z1Q (ce:Tx→Nat):DS:=(dSeq (dTry ce ys 4 (z6C (z41 z0z [.val (eVar 0),.val (eVar 1),.val (eVar 2),.val (eVar 3)])) (dRet (eOp pEq (z05 (z16 ce) [.val (eVar 4)]) (bOf (eD (.str [112,108,97,99,101])))))) (dRet (eD (.bl false))))
def z0t (ce:Tx→Nat):DF:=gOf [] 5 (z1Q ce)
theorem z12 {ce:Tx→Nat}:z1z (z0t ce):=z0w
theorem sc__law_no_place:FnScope ["rule","paint","row","column","e"] ["rule","paint","row","column"] (z07 z1M):=⟨rfl,rfl,rfl,by decide +kernel,rfl,by decide +kernel,by decide +kernel⟩
theorem z46 {K:W0} (F:Fun K "_law_no_place" "_law_no_place" z1M f fd) (hm:mg "_law_no_place" = some (.ref f)) (hb:Binds K fd ["rule","paint","row","column"] []) (T:Txt ce K mg) (k_taken_signs:KFnX P w K mg base 3 "taken_signs" 4 z0z) (h__law_kind_of:KFnH P w K mg base 1 "_law_kind_of" 1 (z16 ce)):KFn P w K mg base 4 "_law_no_place" 4 (z0t ce) :=
 z1v (np:=[]) (fb:=(z1Q ce)) F hm hb sc__law_no_place (fun c cdv A outer s H E hr hnp=>by
  have hq:=z2k hr
  refine (@z0a _ _ _ _ _ _ ?_ ?_)
  ·refine zcA (ce:=ce) (ys:=ys) (i:=4) rfl hnp rfl rfl sc__law_no_place.nd rfl rfl rfl T.c_j T.q_j (fun y hy=>T.m_j y hy) ?_ ?_
   ·intro c pn xe hnp hxo
    refine (@z0k _ _ _ _ ?_)
    exact (@z9W _ _ _ _ _ (@za4 _ _ _ _ _ (3) _ _ _ _ _ k_taken_signs z2i (hr.mono (by decide)) rfl hxo rfl (@z08 _ _ _ _ _ _ (@z09 _ _ _ _ (pv 0)) (@z08 _ _ _ _ _ _ (@z09 _ _ _ _ (pv 1)) (@z08 _ _ _ _ _ _ (@z09 _ _ _ _ (pv 2)) (@z08 _ _ _ _ _ _ (@z09 _ _ _ _ (pv 3)) (@z0u _ _) (by rfl)) (by rfl)) (by rfl)) (by rfl)) rfl (by decide) (by rfl) (by rfl)) (by rfl))
   ·intro ea
    refine (@z0k _ _ _ _ ?_)
    refine (@z0K _ _ _ _ _ ?_)
    exact (@zcH _ _ _ _ _ _ _ _ _ _ (z3X hq) z6i (@za7 _ _ _ _ _ (1) _ _ _ _ _ h__law_kind_of z3q ((hr.h.mono (by decide)).mark _) rfl (@z08 _ _ _ _ _ _ (@z09 _ _ _ _ (pv 4)) (@z0u _ _) (by rfl)) rfl (by decide) (by rfl) (by rfl)) (@z0c _ _ _ _ (@z4o _ _ _ _ _ [112,108,97,99,101] (by decide +kernel))) (z1G _))
  refine (@z0k _ _ _ _ ?_)
  refine (@z0K _ _ _ _ _ ?_)
  exact (@z5u _ _ _ _ _)) fun ss y h=>z0Q h
def z2R:DS:=(dSeq (dAsg (eLst aNil) (gNm [] 1)) (dSeq (dFor (z0x (eC1 pLen (bOf (eOpF pIx 0 (bOf (eD (.int 0))))))) (gNm [] 2) (z0s 1 (eC1 (z2h []) (bOf (z0r [3] (iSq (eVar 0)) (gNm [] 3) dYes (eOpF pIx 3 (bVar 2))))))) (dRet (eC1 z0m (bVar 1)))))
def z1a:DF:=gOf [] 4 z2R
theorem z4a:z1z z1a:=z0w
theorem sc__law_about:FnScope ["block","rows","column","row"] ["block"] (z07 z2F):=⟨rfl,rfl,rfl,by decide +kernel,rfl,by decide +kernel,by decide +kernel⟩
theorem z5F {K:W0} (F:Fun K "_law_about" "_law_about" z2F f fd) (hm:mg "_law_about" = some (.ref f)) (hb:Binds K fd ["block"] []) (T:Txt ce K mg):KFn P w K mg base 1 "_law_about" 1 z1a :=
 z1v (np:=[]) (fb:=z2R) F hm hb sc__law_about (fun c cdv A outer s H E hr hnp=>by
  have hq:=z2k hr
  refine (@z0a _ _ _ _ _ _ ?_ ?_)
  ·exact (@z0F _ _ _ _ _ _ ([]) (1) _ hnp sc__law_about.nd rfl (by first | exact Or.inl rfl | exact Or.inr rfl) (@z1R _ _ _ _ _ (@z0G _ _) (by decide)) rfl (Or.inl rfl))
  refine (@z0a _ _ _ _ _ _ ?_ ?_)
  ·refine (@z2d _ _ _ _ _ _ _ _ _ PassesOwn.never rfl ?_ ?_ ?_ (by intro _; rfl))
   ·exact (@z1n _ _ _ _ _ _ _ rfl T.z_range (@z4p _ _ _ _ _ _ rfl T.z_len (@z0c _ _ _ _ (@z0i _ _ _ _ _ _ _ _ _ z0j z0E (pv 0) (@z0c _ _ _ _ (@z06 _ _ _ _ _)) (fun _ _=>rfl))) (by rfl)) (by rfl))
   ·exact (@z0q _ _ _ ([]) (2) _ hnp sc__law_about.nd rfl (by first | exact Or.inl rfl | exact Or.inr rfl) (Or.inl rfl))
   ·refine (@z0k _ _ _ _ ?_)
    exact (@z1I _ _ _ _ _ _ _ _ _ (pv 1) (@z5t _ _ _ _ _ _ _ _ _ [] (@z0c _ _ _ _ (@z1p _ _ ([3]) _ _ _ _ _ _ _ _ _ _ rfl (@z0L _ _ _ rfl rfl) (@z2f _ _ _ _ _ (@z09 _ _ _ _ (pv 0))) (fun l s0 H0 ex=>(@z0H _ _ _ _ ([]) (3) _ hnp sc__law_about.nd rfl (by first | exact Or.inl rfl | exact Or.inr rfl) (by first | exact Or.inl rfl | exact Or.inr rfl) (by decide))) (fun l s0 H0 ex=>(@z1g _ _)) (fun l s0 H0 ex=>(@z0i _ _ _ _ _ _ _ _ _ z0j z0E (pv 3) (@z0g _ _ _ _ (pv 2)) (fun _ _=>rfl))) (z1F hnp rfl) (by intro _; rfl))) (by decide +kernel) (by rfl) (by rfl) (by rfl) (by rfl)) (by rfl) (by rfl) (by rfl) (by rfl) (by rfl))
  refine (@z0k _ _ _ _ ?_)
  refine (@z0K _ _ _ _ _ ?_)
  exact (@z1o _ _ _ _ _ _ rfl T.z_tuple (@z0g _ _ _ _ (pv 1)) (by rfl))) fun ss y h=>z0Q h
def z2x:DS:=(dRet (eC1 (z2h []) (bOf (z0r [2] (iSq (eVar 0)) (gNm [] 2) dYes (eOpF pIx 2 (bVar 1))))))
def z13:DF:=gOf [] 3 z2x
theorem z3P:z1z z13:=z0w
theorem sc_column_text:FnScope ["floor","column","row"] ["floor","column"] (z07 z2q):=⟨rfl,rfl,rfl,by decide +kernel,rfl,by decide +kernel,by decide +kernel⟩
theorem z50 {K:W0} (F:Fun K "column_text" "column_text" z2q f fd) (hm:mg "column_text" = some (.ref f)) (hb:Binds K fd ["floor","column"] []) (T:Txt ce K mg):KFn P w K mg base 1 "column_text" 2 z13 :=
 z1v (np:=[]) (fb:=z2x) F hm hb sc_column_text (fun c cdv A outer s H E hr hnp=>by
  have hq:=z2k hr
  refine (@z0k _ _ _ _ ?_)
  refine (@z0K _ _ _ _ _ ?_)
  exact (@z5t _ _ _ _ _ _ _ _ _ [] (@z0c _ _ _ _ (@z1p _ _ ([2]) _ _ _ _ _ _ _ _ _ _ rfl (@z0L _ _ _ rfl rfl) (@z2f _ _ _ _ _ (@z09 _ _ _ _ (pv 0))) (fun l s0 H0 ex=>(@z0H _ _ _ _ ([]) (2) _ hnp sc_column_text.nd rfl (by first | exact Or.inl rfl | exact Or.inr rfl) (by first | exact Or.inl rfl | exact Or.inr rfl) (by decide))) (fun l s0 H0 ex=>(@z1g _ _)) (fun l s0 H0 ex=>(@z0i _ _ _ _ _ _ _ _ _ z0j z0E (pv 2) (@z0g _ _ _ _ (pv 1)) (fun _ _=>rfl))) (z1F hnp rfl) (by intro _; rfl))) (by decide +kernel) (by rfl) (by rfl) (by rfl) (by rfl))) fun ss y h=>z0Q h
def z27:DS:=(dRet (eC1 z0m (bOf (z0r [1] (z0x (eC1 pLen (bOf (eOpF pIx 0 (bOf (eD (.int 0))))))) (gNm [] 1) dYes (z05 z13 [.val (eVar 0),.val (eVar 1)])))))
def z0T:DF:=gOf [] 2 z27
theorem z3o:z1z z0T:=z0w
theorem sc_turned_floor:FnScope ["floor","column"] ["floor"] (z07 z1Y):=⟨rfl,rfl,rfl,by decide +kernel,rfl,by decide +kernel,by decide +kernel⟩
theorem z4z {K:W0} (F:Fun K "turned_floor" "turned_floor" z1Y f fd) (hm:mg "turned_floor" = some (.ref f)) (hb:Binds K fd ["floor"] []) (T:Txt ce K mg) (k_column_text:KFn P w K mg base 1 "column_text" 2 z13):KFn P w K mg base 2 "turned_floor" 1 z0T :=
 z1v (np:=[]) (fb:=z27) F hm hb sc_turned_floor (fun c cdv A outer s H E hr hnp=>by
  have hq:=z2k hr
  refine (@z0k _ _ _ _ ?_)
  refine (@z0K _ _ _ _ _ ?_)
  exact (@z1o _ _ _ _ _ _ rfl T.z_tuple (@z0c _ _ _ _ (@z1p _ _ ([1]) _ _ _ _ _ _ _ _ _ _ rfl (@z0L _ _ _ rfl rfl) (@z1n _ _ _ _ _ _ _ rfl T.z_range (@z4p _ _ _ _ _ _ rfl T.z_len (@z0c _ _ _ _ (@z0i _ _ _ _ _ _ _ _ _ z0j z0E (pv 0) (@z0c _ _ _ _ (@z06 _ _ _ _ _)) (fun _ _=>rfl))) (by rfl)) (by rfl)) (fun l s0 H0 ex=>(@z0H _ _ _ _ ([]) (1) _ hnp sc_turned_floor.nd rfl (by first | exact Or.inl rfl | exact Or.inr rfl) (by first | exact Or.inl rfl | exact Or.inr rfl) (by decide))) (fun l s0 H0 ex=>(@z1g _ _)) (fun l s0 H0 ex=>(@z0l _ _ _ _ _ (1) _ _ _ _ _ k_column_text z3P (hr.mono (by decide)) rfl (@z08 _ _ _ _ _ _ (@z09 _ _ _ _ (pv 0)) (@z08 _ _ _ _ _ _ (@z09 _ _ _ _ (pv 1)) (@z0u _ _) (by rfl)) (by rfl)) rfl (by decide) (by rfl) (by rfl))) (z1F hnp rfl) (by intro _; rfl))) (by rfl))) fun ss y h=>z0Q h
def z2w:DS:=(dSeq (dAsg (eVar 0) (gTp 3 (z03 (gNm [] 1) (z03 (gNm [] 2) (z03 (gNm [] 3) z0y))))) (dRet (eTup (z00 (eVar 2) (z00 (eVar 1) (z00 (eC1 z0m (bOf (z0r [4,5] (iSq (eVar 3)) (gTp 2 (z03 (gNm [] 4) (z03 (gNm [] 5) z0y))) dYes (eTup (z00 (eVar 4) (z00 (z05 z0T [.val (eVar 5)]) aNil)))))) aNil))))))
def z1c:DF:=gOf [] 6 z2w
theorem z3O:z1z z1c:=z0w
theorem sc_turned_rule:FnScope ["rule","high","wide","blocks","tile","block"] ["rule"] (z07 z2o):=⟨rfl,rfl,rfl,by decide +kernel,rfl,by decide +kernel,by decide +kernel⟩
theorem z4Y {K:W0} (F:Fun K "turned_rule" "turned_rule" z2o f fd) (hm:mg "turned_rule" = some (.ref f)) (hb:Binds K fd ["rule"] []) (T:Txt ce K mg) (k_turned_floor:KFn P w K mg base 2 "turned_floor" 1 z0T):KFn P w K mg base 3 "turned_rule" 1 z1c :=
 z1v (np:=[]) (fb:=z2w) F hm hb sc_turned_rule (fun c cdv A outer s H E hr hnp=>by
  have hq:=z2k hr
  refine (@z0a _ _ _ _ _ _ ?_ ?_)
  ·refine (@z3T _ _ _ _ _ _ _ ?_ ?_ (by rfl) (by rfl) (by rfl))
   ·exact (@z09 _ _ _ _ (pv 0))
   ·exact (@z3d _ _ _ _ _ _ _ rfl (@z0C _ _ _ _ _ _ (@z0q _ _ _ ([]) (1) _ hnp sc_turned_rule.nd rfl (by first | exact Or.inl rfl | exact Or.inr rfl) (Or.inl rfl)) (@z0C _ _ _ _ _ _ (@z0q _ _ _ ([]) (2) _ hnp sc_turned_rule.nd rfl (by first | exact Or.inl rfl | exact Or.inr rfl) (Or.inl rfl)) (@z0C _ _ _ _ _ _ (@z0q _ _ _ ([]) (3) _ hnp sc_turned_rule.nd rfl (by first | exact Or.inl rfl | exact Or.inr rfl) (Or.inl rfl)) (@z2n _ _) (by rfl)) (by rfl)) (by rfl)) (by rfl) (by rfl))
  refine (@z0k _ _ _ _ ?_)
  refine (@z0K _ _ _ _ _ ?_)
  exact (@z1d _ _ _ _ _ _ (@z02 _ _ _ _ _ _ (@z09 _ _ _ _ (pv 2)) (@z02 _ _ _ _ _ _ (@z09 _ _ _ _ (pv 1)) (@z02 _ _ _ _ _ _ (@z1o _ _ _ _ _ _ rfl T.z_tuple (@z0c _ _ _ _ (@z1p _ _ ([4,5]) _ _ _ _ _ _ _ _ _ _ rfl (@z0L _ _ _ rfl rfl) (@z2f _ _ _ _ _ (@z09 _ _ _ _ (pv 3))) (fun l s0 H0 ex=>(@z5s _ _ _ _ _ _ _ _ rfl (@z1A _ _ _ _ _ _ _ (@z0H _ _ _ _ ([]) (4) _ hnp sc_turned_rule.nd rfl (by first | exact Or.inl rfl | exact Or.inr rfl) (by first | exact Or.inl rfl | exact Or.inr rfl) (by decide)) (@z1A _ _ _ _ _ _ _ (@z0H _ _ _ _ ([]) (5) _ hnp sc_turned_rule.nd rfl (by first | exact Or.inl rfl | exact Or.inr rfl) (by first | exact Or.inl rfl | exact Or.inr rfl) (by decide)) (@z4d _ _ _) (by rfl)) (by rfl)) (by rfl) (by rfl))) (fun l s0 H0 ex=>(@z1g _ _)) (fun l s0 H0 ex=>(@z1d _ _ _ _ _ _ (@z02 _ _ _ _ _ _ (@z09 _ _ _ _ (pv 4)) (@z02 _ _ _ _ _ _ (@z0l _ _ _ _ _ (2) _ _ _ _ _ k_turned_floor z3o (hr.mono (by decide)) rfl (@z08 _ _ _ _ _ _ (@z09 _ _ _ _ (pv 5)) (@z0u _ _) (by rfl)) rfl (by decide) (by rfl) (by rfl)) (@z0G _ _) (by rfl)) (by rfl)) (by decide))) (z1F hnp rfl) (by intro _; rfl))) (by rfl)) (@z0G _ _) (by rfl)) (by rfl)) (by rfl)) (by decide))) fun ss y h=>z0Q h
def z26:DS:=(dSeq (dAsg (eVar 0) (gTp 3 (z03 (gNm [] 1) (z03 (gNm [] 2) (z03 (gNm [] 3) z0y))))) (dRet (eTup (z00 (z05 z1c [.val (eVar 1)]) (z00 (eVar 2) (z00 (eVar 3) aNil))))))
def z0S:DF:=gOf [] 4 z26
theorem z3n:z1z z0S:=z0w
theorem sc_turned_paint:FnScope ["painted","rule","tile","paint"] ["painted"] (z07 z1X):=⟨rfl,rfl,rfl,by decide +kernel,rfl,by decide +kernel,by decide +kernel⟩
theorem z4y {K:W0} (F:Fun K "turned_paint" "turned_paint" z1X f fd) (hm:mg "turned_paint" = some (.ref f)) (hb:Binds K fd ["painted"] []) (T:Txt ce K mg) (k_turned_rule:KFn P w K mg base 3 "turned_rule" 1 z1c):KFn P w K mg base 4 "turned_paint" 1 z0S :=
 z1v (np:=[]) (fb:=z26) F hm hb sc_turned_paint (fun c cdv A outer s H E hr hnp=>by
  have hq:=z2k hr
  refine (@z0a _ _ _ _ _ _ ?_ ?_)
  ·refine (@z3T _ _ _ _ _ _ _ ?_ ?_ (by rfl) (by rfl) (by rfl))
   ·exact (@z09 _ _ _ _ (pv 0))
   ·exact (@z3d _ _ _ _ _ _ _ rfl (@z0C _ _ _ _ _ _ (@z0q _ _ _ ([]) (1) _ hnp sc_turned_paint.nd rfl (by first | exact Or.inl rfl | exact Or.inr rfl) (Or.inl rfl)) (@z0C _ _ _ _ _ _ (@z0q _ _ _ ([]) (2) _ hnp sc_turned_paint.nd rfl (by first | exact Or.inl rfl | exact Or.inr rfl) (Or.inl rfl)) (@z0C _ _ _ _ _ _ (@z0q _ _ _ ([]) (3) _ hnp sc_turned_paint.nd rfl (by first | exact Or.inl rfl | exact Or.inr rfl) (Or.inl rfl)) (@z2n _ _) (by rfl)) (by rfl)) (by rfl)) (by rfl) (by rfl))
  refine (@z0k _ _ _ _ ?_)
  refine (@z0K _ _ _ _ _ ?_)
  exact (@z1d _ _ _ _ _ _ (@z02 _ _ _ _ _ _ (@z0l _ _ _ _ _ (3) _ _ _ _ _ k_turned_rule z3O (hr.mono (by decide)) rfl (@z08 _ _ _ _ _ _ (@z09 _ _ _ _ (pv 1)) (@z0u _ _) (by rfl)) rfl (by decide) (by rfl) (by rfl)) (@z02 _ _ _ _ _ _ (@z09 _ _ _ _ (pv 2)) (@z02 _ _ _ _ _ _ (@z09 _ _ _ _ (pv 3)) (@z0G _ _) (by rfl)) (by rfl)) (by rfl)) (by decide))) fun ss y h=>z0Q h
def zcr (ce:Tx→Nat):DS:=(dSeq (dFor (iSq (eOp pAdd (eLst (z00 (z05 z0V [.val (eVar 0),.val (eD (.int 0))]) aNil)) (bOf (eSlN 0 (z47 (eD (.int 1))) (z47 (eD (.int 5))))))) (gNm [] 1) (dSeq (dAsg (z42 z0D (z05 z14 [.val (eVar 1)]) [.val (eD (.int 5))]) (gTp 3 (z03 (gNm [] 2) (z03 (gNm [] 3) (z03 (gNm [] 4) z0y))))) (dSeq (dAsg (eC1 z24 (bVar 4)) (gNm [] 5)) (dSeq (dFor (z0x (eOpF pIx 2 (bOf (eD (.int 0))))) (gNm [] 6) (dFor (z0x (eOpF pIx 2 (bOf (eD (.int 1))))) (gNm [] 7) (dSeq (dAsg (z2z z0z [.val (eVar 2),.val (eVar 4),.val (eVar 6),.val (eVar 7)]) (gNm [] 8)) (dSeq (dIf (dOr (dNot (dTr (eIsi "tuple" (bVar 8)))) (dNot (dTr (eC1 pAll (bOf (z0r [13] (iSq (eVar 8)) (gNm [] 13) dYes (eIsi "tuple" (bVar 13)))))))) (dRet (eD (.bl false))) z0O) (dIf (dTr (eOpF pNe 8 (bOf (eC1 z0m (bOf (z0r [11,12] (iSq (eOpF pIx 2 (bOf (eD (.int 2))))) (gTp 2 (z03 (gNm [] 11) (z03 (gNm [] 12) z0y))) dYes (eTup (z00 (eVar 11) (z00 (eOpF pIxX 5 (bOf (eOp pIx (eOpF pIx 12 (bVar 6)) (bVar 7)))) aNil))))))))) (dRet (eD (.bl false))) z0O))))) (dSeq (dFor (iSq (eLst (z00 (eC1 pNeg (bOf (eD (.int 1)))) (z00 (eD (.bl true)) (z00 (eD .non) (z00 (eD (.str [48])) (z00 (eD (.tup [.int 0])) (z00 (eD (.int 5)) (z00 (eOp pPow (eD (.int 10)) (bOf (eD (.int 30)))) aNil))))))))) (gNm [] 9) (dIf (dOr (dNot (dTr (z05 (z0t ce) [.val (eVar 2),.val (eVar 4),.val (eVar 9),.val (eD (.int 0))]))) (dNot (dTr (z05 (z0t ce) [.val (eVar 2),.val (eVar 4),.val (eD (.int 0)),.val (eVar 9)])))) (dRet (eD (.bl false))) z0O)) (dSeq (dIf (dOr (dNot (dTr (z05 (z0t ce) [.val (eVar 2),.val (eVar 4),.val (eOpF pIx 2 (bOf (eD (.int 0)))),.val (eD (.int 0))]))) (dNot (dTr (z05 (z0t ce) [.val (eVar 2),.val (eVar 4),.val (eD (.int 0)),.val (eOpF pIx 2 (bOf (eD (.int 1))))])))) (dRet (eD (.bl false))) z0O) (dSeq (dAsg (eTup (z00 (eOpF pIx 2 (bOf (eD (.int 1)))) (z00 (eOpF pIx 2 (bOf (eD (.int 0)))) (z00 (eC1 z0m (bOf (z0r [11,12] (iSq (eOpF pIx 2 (bOf (eD (.int 2))))) (gTp 2 (z03 (gNm [] 11) (z03 (gNm [] 12) z0y))) dYes (eTup (z00 (eVar 11) (z00 (z05 z1a [.val (eVar 12)]) aNil)))))) aNil)))) (gNm [] 10)) (dIf (dTr (eOp pNe (z05 z0S [.val (eTup (z00 (eVar 2) (z00 (eVar 3) (z00 (eVar 4) aNil))))]) (bOf (eTup (z00 (eVar 10) (z00 (eVar 3) (z00 (eVar 4) aNil))))))) (dRet (eD (.bl false))) z0O)))))))) (dRet (eD (.bl true))))
def z8g (ce:Tx→Nat):DF:=gOf [] 14 (zcr ce)
theorem zdB {ce:Tx→Nat}:z1z (z8g ce):=z0w
theorem sc_law:FnScope ["script","cell","rule","start","paint","signs","row","column","found","odd","turned","tile","block","pair"] ["script"] (z07 z5w):=⟨rfl,rfl,rfl,by decide +kernel,rfl,by decide +kernel,by decide +kernel⟩
theorem zdo {K:W0} (F:Fun K "law" "law" z5w f fd) (T:Txt ce K mg) (k__law_cell_at:KFn P w K mg base 1 "_law_cell_at" 2 z0V) (k__law_painted_by:KFn P w K mg base 5 "_law_painted_by" 2 z0D) (k__law_pen_of:KFn P w K mg base 1 "_law_pen_of" 1 z14) (k_taken_signs:KFnX P w K mg base 3 "taken_signs" 4 z0z) (k__law_no_place:KFn P w K mg base 4 "_law_no_place" 4 (z0t ce)) (k__law_about:KFn P w K mg base 1 "_law_about" 1 z1a) (k_turned_paint:KFn P w K mg base 4 "turned_paint" 1 z0S) {Gt:DF} (hGt:∀ ss y,Gt ss=some y→z8g ce ss=some y):FnOk P w K mg base CX0 6 f fd ["script"] (spD 1 Gt) :=
 zdJ (np:=[]) (fb:=(zcr ce)) F sc_law (fun c cdv A outer s H E hr hnp=>by
  have hq:=z2k hr
  refine (@z0a _ _ _ _ _ _ ?_ ?_)
  ·refine (@z2d _ _ _ _ _ _ _ _ _ PassesOwn.never rfl ?_ ?_ ?_ (by intro _; rfl))
   ·exact (@z2f _ _ _ _ _ (@z1B _ _ _ _ _ _ _ _ _ _ z10 z1q (@z1R _ _ _ _ _ (@z02 _ _ _ _ _ _ (@z0l _ _ _ _ _ (1) _ _ _ _ _ k__law_cell_at z3s (hr.mono (by decide)) rfl (@z08 _ _ _ _ _ _ (@z09 _ _ _ _ (pv 0)) (@z08 _ _ _ _ _ _ (@z06 _ _ _ _ _) (@z0u _ _) (by rfl)) (by rfl)) rfl (by decide) (by rfl) (by rfl)) (@z0G _ _) (by rfl)) (by decide)) (@z0c _ _ _ _ (@z7j _ _ _ _ _ _ _ _ _ _ (pv 0) (@z3I _ _ _ _ (@z06 _ _ _ _ _)) (@z3I _ _ _ _ (@z06 _ _ _ _ _))))))
   ·exact (@z0q _ _ _ ([]) (1) _ hnp sc_law.nd rfl (by first | exact Or.inl rfl | exact Or.inr rfl) (Or.inl rfl))
   ·refine (@z0a _ _ _ _ _ _ ?_ ?_)
    ·refine (@z3T _ _ _ _ _ _ _ ?_ ?_ (by rfl) (by rfl) (by rfl))
     ·exact (@za5 _ _ _ _ _ _ (5) _ _ _ _ _ k__law_painted_by z2J (hr.mono (by decide)) rfl (@z0l _ _ _ _ _ (1) _ _ _ _ _ k__law_pen_of z3Q (hr.mono (by decide)) rfl (@z08 _ _ _ _ _ _ (@z09 _ _ _ _ (pv 1)) (@z0u _ _) (by rfl)) rfl (by decide) (by rfl) (by rfl)) (fun _=>(@z08 _ _ _ _ _ _ (@z06 _ _ _ _ _) (@z0u _ _) (by rfl))) rfl (by decide) (by rfl) (by rfl))
     ·exact (@z3d _ _ _ _ _ _ _ rfl (@z0C _ _ _ _ _ _ (@z0q _ _ _ ([]) (2) _ hnp sc_law.nd rfl (by first | exact Or.inl rfl | exact Or.inr rfl) (Or.inl rfl)) (@z0C _ _ _ _ _ _ (@z0q _ _ _ ([]) (3) _ hnp sc_law.nd rfl (by first | exact Or.inl rfl | exact Or.inr rfl) (Or.inl rfl)) (@z0C _ _ _ _ _ _ (@z0q _ _ _ ([]) (4) _ hnp sc_law.nd rfl (by first | exact Or.inl rfl | exact Or.inr rfl) (Or.inl rfl)) (@z2n _ _) (by rfl)) (by rfl)) (by rfl)) (by rfl) (by rfl))
    refine (@z0a _ _ _ _ _ _ ?_ ?_)
    ·exact (@z0F _ _ _ _ _ _ ([]) (5) _ hnp sc_law.nd rfl (by first | exact Or.inl rfl | exact Or.inr rfl) (@z62 _ _ _ _ _ _ rfl rfl T.z_dict (@z0g _ _ _ _ (pv 4)) (by rfl)) rfl (Or.inl rfl))
    refine (@z0a _ _ _ _ _ _ ?_ ?_)
    ·refine (@z2d _ _ _ _ _ _ _ _ _ PassesOwn.never rfl ?_ ?_ ?_ (by intro _; rfl))
     ·exact (@z1n _ _ _ _ _ _ _ rfl T.z_range (@z0i _ _ _ _ _ _ _ _ _ z0j z0E (pv 2) (@z0c _ _ _ _ (@z06 _ _ _ _ _)) (fun _ _=>rfl)) (by rfl))
     ·exact (@z0q _ _ _ ([]) (6) _ hnp sc_law.nd rfl (by first | exact Or.inl rfl | exact Or.inr rfl) (Or.inl rfl))
     ·refine (@z0k _ _ _ _ ?_)
      refine (@z2d _ _ _ _ _ _ _ _ _ PassesOwn.never rfl ?_ ?_ ?_ (by intro _; rfl))
      ·exact (@z1n _ _ _ _ _ _ _ rfl T.z_range (@z0i _ _ _ _ _ _ _ _ _ z0j z0E (pv 2) (@z0c _ _ _ _ (@z06 _ _ _ _ _)) (fun _ _=>rfl)) (by rfl))
      ·exact (@z0q _ _ _ ([]) (7) _ hnp sc_law.nd rfl (by first | exact Or.inl rfl | exact Or.inr rfl) (Or.inl rfl))
      ·refine (@z0a _ _ _ _ _ _ ?_ ?_)
       ·exact (@z0F _ _ _ _ _ _ ([]) (8) _ hnp sc_law.nd rfl (by first | exact Or.inl rfl | exact Or.inr rfl) (@za6 _ _ _ _ _ (3) _ _ _ _ _ k_taken_signs z2i (hr.mono (by decide)) rfl rfl (@z08 _ _ _ _ _ _ (@z09 _ _ _ _ (pv 2)) (@z08 _ _ _ _ _ _ (@z09 _ _ _ _ (pv 4)) (@z08 _ _ _ _ _ _ (@z09 _ _ _ _ (pv 6)) (@z08 _ _ _ _ _ _ (@z09 _ _ _ _ (pv 7)) (@z0u _ _) (by rfl)) (by rfl)) (by rfl)) (by rfl)) rfl (by decide) (by rfl) (by rfl)) rfl (Or.inl rfl))
       refine (@z0a _ _ _ _ _ _ ?_ ?_)
       ·refine (@z2Y _ _ _ _ _ _ _ _ _ ?_ ?_ ?_)
        ·exact (@z7M _ _ _ _ (@z8l _ _ _ _ _ _ _ _ (@z3c _ _ _ _ _ (@z3b _ _ _ _ (@z7k _ _ _ _ _ _ _ _ _ T.ty_tuple rfl T.z_isinstance rfl T.z_tuple boot_tuple (@z0g _ _ _ _ (pv 8)) (by decide) (by decide) (by rfl) (by rfl)) (by intro _; rfl))) (@z5Z _ _ _ _ _ (@z3c _ _ _ _ _ (@z3b _ _ _ _ (@zcI _ _ _ _ _ _ rfl rfl T.z_all (@z0c _ _ _ _ (@z1p _ _ ([13]) _ _ _ _ _ _ _ _ _ _ rfl (@z0L _ _ _ rfl rfl) (@z2f _ _ _ _ _ (@z09 _ _ _ _ (pv 8))) (fun l s0 H0 ex=>(@z0H _ _ _ _ ([]) (13) _ hnp sc_law.nd rfl (by first | exact Or.inl rfl | exact Or.inr rfl) (by first | exact Or.inl rfl | exact Or.inr rfl) (by decide))) (fun l s0 H0 ex=>(@z1g _ _)) (fun l s0 H0 ex=>(@z7k _ _ _ _ _ _ _ _ _ T.ty_tuple rfl T.z_isinstance rfl T.z_tuple boot_tuple (@z0g _ _ _ _ (pv 13)) (by decide) (by decide) (by rfl) (by rfl))) (z1F hnp rfl) (by intro _; rfl))) (by rfl)) (by intro _; rfl))))))
        ·refine (@z0k _ _ _ _ ?_)
         refine (@z0K _ _ _ _ _ ?_)
         exact (@z5u _ _ _ _ _)
        ·exact z1K
       refine (@z0k _ _ _ _ ?_)
       refine (@z2Y _ _ _ _ _ _ _ _ _ ?_ ?_ ?_)
       ·exact (@z4n _ _ _ _ _ _ _ _ _ _ (z90 hq) zc3 (pv 8) (@z0c _ _ _ _ (@z1o _ _ _ _ _ _ rfl T.z_tuple (@z0c _ _ _ _ (@z1p _ _ ([11,12]) _ _ _ _ _ _ _ _ _ _ rfl (@z0L _ _ _ rfl rfl) (@z2f _ _ _ _ _ (@z0i _ _ _ _ _ _ _ _ _ z0j z0E (pv 2) (@z0c _ _ _ _ (@z06 _ _ _ _ _)) (fun _ _=>rfl))) (fun l s0 H0 ex=>(@z5s _ _ _ _ _ _ _ _ rfl (@z1A _ _ _ _ _ _ _ (@z0H _ _ _ _ ([]) (11) _ hnp sc_law.nd rfl (by first | exact Or.inl rfl | exact Or.inr rfl) (by first | exact Or.inl rfl | exact Or.inr rfl) (by decide)) (@z1A _ _ _ _ _ _ _ (@z0H _ _ _ _ ([]) (12) _ hnp sc_law.nd rfl (by first | exact Or.inl rfl | exact Or.inr rfl) (by first | exact Or.inl rfl | exact Or.inr rfl) (by decide)) (@z4d _ _ _) (by rfl)) (by rfl)) (by rfl) (by rfl))) (fun l s0 H0 ex=>(@z1g _ _)) (fun l s0 H0 ex=>(@z1d _ _ _ _ _ _ (@z02 _ _ _ _ _ _ (@z09 _ _ _ _ (pv 11)) (@z02 _ _ _ _ _ _ (@z0i _ _ _ _ _ _ _ _ _ (ix_X hq) z3Y (pv 5) (@z0c _ _ _ _ (@z7O _ _ _ _ _ _ _ _ _ z0j z0E (@z0i _ _ _ _ _ _ _ _ _ z0j z0E (pv 12) (@z0g _ _ _ _ (pv 6)) (fun _ _=>rfl)) (@z0g _ _ _ _ (pv 7)) (fun _ _=>rfl))) (fun _ _=>rfl)) (@z0G _ _) (by rfl)) (by rfl)) (by decide))) (z1F hnp rfl) (by intro _; rfl))) (by rfl))) (z1G _))
       ·refine (@z0k _ _ _ _ ?_)
        refine (@z0K _ _ _ _ _ ?_)
        exact (@z5u _ _ _ _ _)
       ·exact z1K
    refine (@z0a _ _ _ _ _ _ ?_ ?_)
    ·refine (@z2d _ _ _ _ _ _ _ _ _ PassesOwn.never rfl ?_ ?_ ?_ (by intro _; rfl))
     ·exact (@z2f _ _ _ _ _ (@z1R _ _ _ _ _ (@z02 _ _ _ _ _ _ (@zcD _ _ _ _ _ (@z0c _ _ _ _ (@z06 _ _ _ _ _))) (@z02 _ _ _ _ _ _ (@z5u _ _ _ _ _) (@z02 _ _ _ _ _ _ (@zaT _ _ _ _) (@z02 _ _ _ _ _ _ (@z4o _ _ _ _ _ [48] (by decide +kernel)) (@z02 _ _ _ _ _ _ (@za3 _ _ _ _ (by rfl)) (@z02 _ _ _ _ _ _ (@z06 _ _ _ _ _) (@z02 _ _ _ _ _ _ (@z1B _ _ _ _ _ _ _ _ _ _ zb1 zb3 (@z06 _ _ _ _ _) (@z0c _ _ _ _ (@z06 _ _ _ _ _))) (@z0G _ _) (by rfl)) (by rfl)) (by rfl)) (by rfl)) (by rfl)) (by rfl)) (by rfl)) (by decide)))
     ·exact (@z0q _ _ _ ([]) (9) _ hnp sc_law.nd rfl (by first | exact Or.inl rfl | exact Or.inr rfl) (Or.inl rfl))
     ·refine (@z0k _ _ _ _ ?_)
      refine (@z2Y _ _ _ _ _ _ _ _ _ ?_ ?_ ?_)
      ·exact (@z7M _ _ _ _ (@z8l _ _ _ _ _ _ _ _ (@z3c _ _ _ _ _ (@z3b _ _ _ _ (@z0l _ _ _ _ _ (4) _ _ _ _ _ k__law_no_place z12 (hr.mono (by decide)) rfl (@z08 _ _ _ _ _ _ (@z09 _ _ _ _ (pv 2)) (@z08 _ _ _ _ _ _ (@z09 _ _ _ _ (pv 4)) (@z08 _ _ _ _ _ _ (@z09 _ _ _ _ (pv 9)) (@z08 _ _ _ _ _ _ (@z06 _ _ _ _ _) (@z0u _ _) (by rfl)) (by rfl)) (by rfl)) (by rfl)) rfl (by decide) (by rfl) (by rfl)) (by intro _; rfl))) (@z5Z _ _ _ _ _ (@z3c _ _ _ _ _ (@z3b _ _ _ _ (@z0l _ _ _ _ _ (4) _ _ _ _ _ k__law_no_place z12 (hr.mono (by decide)) rfl (@z08 _ _ _ _ _ _ (@z09 _ _ _ _ (pv 2)) (@z08 _ _ _ _ _ _ (@z09 _ _ _ _ (pv 4)) (@z08 _ _ _ _ _ _ (@z06 _ _ _ _ _) (@z08 _ _ _ _ _ _ (@z09 _ _ _ _ (pv 9)) (@z0u _ _) (by rfl)) (by rfl)) (by rfl)) (by rfl)) rfl (by decide) (by rfl) (by rfl)) (by intro _; rfl))))))
      ·refine (@z0k _ _ _ _ ?_)
       refine (@z0K _ _ _ _ _ ?_)
       exact (@z5u _ _ _ _ _)
      ·exact z1K
    refine (@z0a _ _ _ _ _ _ ?_ ?_)
    ·refine (@z2Y _ _ _ _ _ _ _ _ _ ?_ ?_ ?_)
     ·exact (@z7M _ _ _ _ (@z8l _ _ _ _ _ _ _ _ (@z3c _ _ _ _ _ (@z3b _ _ _ _ (@z0l _ _ _ _ _ (4) _ _ _ _ _ k__law_no_place z12 (hr.mono (by decide)) rfl (@z08 _ _ _ _ _ _ (@z09 _ _ _ _ (pv 2)) (@z08 _ _ _ _ _ _ (@z09 _ _ _ _ (pv 4)) (@z08 _ _ _ _ _ _ (@z0i _ _ _ _ _ _ _ _ _ z0j z0E (pv 2) (@z0c _ _ _ _ (@z06 _ _ _ _ _)) (fun _ _=>rfl)) (@z08 _ _ _ _ _ _ (@z06 _ _ _ _ _) (@z0u _ _) (by rfl)) (by rfl)) (by rfl)) (by rfl)) rfl (by decide) (by rfl) (by rfl)) (by intro _; rfl))) (@z5Z _ _ _ _ _ (@z3c _ _ _ _ _ (@z3b _ _ _ _ (@z0l _ _ _ _ _ (4) _ _ _ _ _ k__law_no_place z12 (hr.mono (by decide)) rfl (@z08 _ _ _ _ _ _ (@z09 _ _ _ _ (pv 2)) (@z08 _ _ _ _ _ _ (@z09 _ _ _ _ (pv 4)) (@z08 _ _ _ _ _ _ (@z06 _ _ _ _ _) (@z08 _ _ _ _ _ _ (@z0i _ _ _ _ _ _ _ _ _ z0j z0E (pv 2) (@z0c _ _ _ _ (@z06 _ _ _ _ _)) (fun _ _=>rfl)) (@z0u _ _) (by rfl)) (by rfl)) (by rfl)) (by rfl)) rfl (by decide) (by rfl) (by rfl)) (by intro _; rfl))))))
     ·refine (@z0k _ _ _ _ ?_)
      refine (@z0K _ _ _ _ _ ?_)
      exact (@z5u _ _ _ _ _)
     ·exact z1K
    refine (@z0a _ _ _ _ _ _ ?_ ?_)
    ·exact (@z0F _ _ _ _ _ _ ([]) (10) _ hnp sc_law.nd rfl (by first | exact Or.inl rfl | exact Or.inr rfl) (@z1d _ _ _ _ _ _ (@z02 _ _ _ _ _ _ (@z0i _ _ _ _ _ _ _ _ _ z0j z0E (pv 2) (@z0c _ _ _ _ (@z06 _ _ _ _ _)) (fun _ _=>rfl)) (@z02 _ _ _ _ _ _ (@z0i _ _ _ _ _ _ _ _ _ z0j z0E (pv 2) (@z0c _ _ _ _ (@z06 _ _ _ _ _)) (fun _ _=>rfl)) (@z02 _ _ _ _ _ _ (@z1o _ _ _ _ _ _ rfl T.z_tuple (@z0c _ _ _ _ (@z1p _ _ ([11,12]) _ _ _ _ _ _ _ _ _ _ rfl (@z0L _ _ _ rfl rfl) (@z2f _ _ _ _ _ (@z0i _ _ _ _ _ _ _ _ _ z0j z0E (pv 2) (@z0c _ _ _ _ (@z06 _ _ _ _ _)) (fun _ _=>rfl))) (fun l s0 H0 ex=>(@z5s _ _ _ _ _ _ _ _ rfl (@z1A _ _ _ _ _ _ _ (@z0H _ _ _ _ ([]) (11) _ hnp sc_law.nd rfl (by first | exact Or.inl rfl | exact Or.inr rfl) (by first | exact Or.inl rfl | exact Or.inr rfl) (by decide)) (@z1A _ _ _ _ _ _ _ (@z0H _ _ _ _ ([]) (12) _ hnp sc_law.nd rfl (by first | exact Or.inl rfl | exact Or.inr rfl) (by first | exact Or.inl rfl | exact Or.inr rfl) (by decide)) (@z4d _ _ _) (by rfl)) (by rfl)) (by rfl) (by rfl))) (fun l s0 H0 ex=>(@z1g _ _)) (fun l s0 H0 ex=>(@z1d _ _ _ _ _ _ (@z02 _ _ _ _ _ _ (@z09 _ _ _ _ (pv 11)) (@z02 _ _ _ _ _ _ (@z0l _ _ _ _ _ (1) _ _ _ _ _ k__law_about z4a (hr.mono (by decide)) rfl (@z08 _ _ _ _ _ _ (@z09 _ _ _ _ (pv 12)) (@z0u _ _) (by rfl)) rfl (by decide) (by rfl) (by rfl)) (@z0G _ _) (by rfl)) (by rfl)) (by decide))) (z1F hnp rfl) (by intro _; rfl))) (by rfl)) (@z0G _ _) (by rfl)) (by rfl)) (by rfl)) (by decide)) rfl (Or.inl rfl))
    refine (@z0k _ _ _ _ ?_)
    refine (@z2Y _ _ _ _ _ _ _ _ _ ?_ ?_ ?_)
    ·exact (@z3S _ _ _ _ _ _ _ _ _ _ (z90 hq) zc3 (@z0l _ _ _ _ _ (4) _ _ _ _ _ k_turned_paint z3n (hr.mono (by decide)) rfl (@z08 _ _ _ _ _ _ (@z1d _ _ _ _ _ _ (@z02 _ _ _ _ _ _ (@z09 _ _ _ _ (pv 2)) (@z02 _ _ _ _ _ _ (@z09 _ _ _ _ (pv 3)) (@z02 _ _ _ _ _ _ (@z09 _ _ _ _ (pv 4)) (@z0G _ _) (by rfl)) (by rfl)) (by rfl)) (by decide)) (@z0u _ _) (by rfl)) rfl (by decide) (by rfl) (by rfl)) (@z0c _ _ _ _ (@z1d _ _ _ _ _ _ (@z02 _ _ _ _ _ _ (@z09 _ _ _ _ (pv 10)) (@z02 _ _ _ _ _ _ (@z09 _ _ _ _ (pv 3)) (@z02 _ _ _ _ _ _ (@z09 _ _ _ _ (pv 4)) (@z0G _ _) (by rfl)) (by rfl)) (by rfl)) (by decide))) (z1G _))
    ·refine (@z0k _ _ _ _ ?_)
     refine (@z0K _ _ _ _ _ ?_)
     exact (@z5u _ _ _ _ _)
    ·exact z1K
  refine (@z0k _ _ _ _ ?_)
  refine (@z0K _ _ _ _ _ ?_)
  exact (@z5u _ _ _ _ _)) fun ss y h=>z0Q (hGt ss y h)
theorem all_mk {l:PySem.W.OpenLaw} {w:Wp} {K:W0} {h:Heap} {mg:Str→Option Value} {fa:Addr} {Gt:DF} (hGt:∀ ce ss y,Gt ss=some y→z8g ce ss=some y) (X:K.In h) (G:h.Ns Wm mg) (hfa:mg "law" = some (.ref fa))
  (d0:FnH K "_law_cell_at" z23)
  (d1:FnH K "_law_next" z30)
  (d2:FnH K "_law_draw" z31)
  (d3:FnH K "_law_sizes_by" z1L)
  (d4:FnH K "_law_pick" z2Z)
  (d5:FnH K "_law_rule_by" z20)
  (d6:FnH K "_law_stilled" z1Z)
  (d7:FnH K "_law_doubled" z22)
  (d8:FnH K "_law_painted_by" z1w)
  (d9:FnH K "_law_pen_of" z2r)
  (d10:FnH K "whole_from" z2E)
  (d11:FnH K "whole_within" z1W)
  (d12:FnH K "taken_signs" z2p)
  (d13:FnH K "_law_kind_of" z21)
  (d14:FnH K "_law_no_place" z1M)
  (d15:FnH K "_law_about" z2F)
  (d16:FnH K "column_text" z2q)
  (d17:FnH K "turned_floor" z1Y)
  (d18:FnH K "turned_rule" z2o)
  (d19:FnH K "turned_paint" z1X)
  (a20:nsIn K Wm "law" = some (some (.ref f20)))
  (l20:K.lookup f20=some ⟨oc20,od20,.func (Qg "law" "law" (z2M z5w) (z1h z5w) (z07 z5w) .none kV20 dc20 pm20 an20 cd20 ct20),sl20⟩)
  (c20:codeIn K cd20 "law" = true)
  (k20:keepIn K (.ref f20)=true)
  (z_ValueError:nsIn K Wm "ValueError" = some none)
  (z_all:nsIn K Wm "all" = some none)
  (z_bool:nsIn K Wm "bool" = some none)
  (z_dict:nsIn K Wm "dict" = some none)
  (z_int:nsIn K Wm "int" = some none)
  (z_isinstance:nsIn K Wm "isinstance" = some none)
  (z_len:nsIn K Wm "len" = some none)
  (z_max:nsIn K Wm "max" = some none)
  (z_range:nsIn K Wm "range" = some none)
  (z_sorted:nsIn K Wm "sorted" = some none)
  (z_tuple:nsIn K Wm "tuple" = some none)
  (ac_j:nsIn K Wm "FloorError" = some (some (.ref C_j)))
  (ac_a:nsIn K Wm "NoFloor" = some (some (.ref C_a)))
  (ac_b:nsIn K Wm "NoPlace" = some (some (.ref C_b)))
  (ac_c:nsIn K Wm "NoNumber" = some (some (.ref C_c)))
  (ac_d:nsIn K Wm "NoRow" = some (some (.ref C_d)))
  (ac_e:nsIn K Wm "Unlike" = some (some (.ref C_e)))
  (ac_f:nsIn K Wm "NoTile" = some (some (.ref C_f)))
  (ac_g:nsIn K Wm "NoRule" = some (some (.ref C_g)))
  (ac_h:nsIn K Wm "NoText" = some (some (.ref C_h)))
  (ac_i:nsIn K Wm "TooGreat" = some (some (.ref C_i)))
  (qc_j:PySem.W.excIn K C_j vErr "ValueError.__new__" = true)
  (qc_b:PySem.W.excIn K C_b vErr "ValueError.__new__" = true)
  (spc:PySem.W.specialIn K (.builtin "object.__class__") "__get__" = some (some (.builtin "getset_descriptor.__get__")))
  (tkc:PySem.W.takesIn K (.builtin "object.__class__")=some true)
  (ga_b:findIn K (.ref C_b) "__getattribute__" = some (some (.builtin "BaseException.__getattribute__")))
  (gt_b:findIn K (.ref C_b) "__getattr__" = some none)
  (cl_b:findIn K (.ref C_b) "__class__" = some (some (.builtin "object.__class__")))
  (mo_b:mroIn K C_b (.type "object")=some true)
  (mb_b:mroIn K C_b (.type "BaseException")=some true)
  (ci_b:PySem.W.isClsIn K C_b=true)
  (kv_b:kitOne K (.ref C_b) (.type "ValueError")=some true)
  (ki_b_a:kitOne K (.ref C_b) (.ref C_a)=some false)
  (ki_b_b:kitOne K (.ref C_b) (.ref C_b)=some true)
  (ki_b_c:kitOne K (.ref C_b) (.ref C_c)=some false)
  (ki_b_d:kitOne K (.ref C_b) (.ref C_d)=some false)
  (ki_b_e:kitOne K (.ref C_b) (.ref C_e)=some false)
  (ki_b_f:kitOne K (.ref C_b) (.ref C_f)=some false)
  (ki_b_g:kitOne K (.ref C_b) (.ref C_g)=some false)
  (ki_b_h:kitOne K (.ref C_b) (.ref C_h)=some false)
  (ki_b_i:kitOne K (.ref C_b) (.ref C_i)=some false)
  (mr_b_j:mroIn K C_b (.ref C_j)=some true)
  : ∃ fd:Wx,(∀ (s:W1) (v:Value),BindsTo s fd ⟨[v],[]⟩ [("script",v)])∧∀ base:Heap,K.In base→base.Ns Wm mg→FnOk l.prog w K mg base CX0 6 fa fd ["script"] (spD 1 Gt):=by
 have e:=hfa.symm.trans (mg_of X G a20)
 cases e
 have E_b:ExcK K C_b:=⟨ga_b,gt_b,cl_b,spc,tkc,mo_b,mb_b⟩
 have T:Txt (ceOf [([70,108,111,111,114,69,114,114,111,114],C_j),([78,111,70,108,111,111,114],C_a),([78,111,80,108,97,99,101],C_b),([78,111,78,117,109,98,101,114],C_c),([78,111,82,111,119],C_d),([85,110,108,105,107,101],C_e),([78,111,84,105,108,101],C_f),([78,111,82,117,108,101],C_g),([78,111,84,101,120,116],C_h),([84,111,111,71,114,101,97,116],C_i)]) K mg:=⟨WG X G z_ValueError,WG X G z_all,WG X G z_bool,WG X G z_dict,WG X G z_int,WG X G z_isinstance,WG X G z_len,WG X G z_max,WG X G z_range,WG X G z_sorted,WG X G z_tuple,z9S,zbq,z8h,mg_of X G ac_j,mg_of X G ac_a,mg_of X G ac_b,mg_of X G ac_c,mg_of X G ac_d,mg_of X G ac_e,mg_of X G ac_f,mg_of X G ac_g,mg_of X G ac_h,mg_of X G ac_i,qc_j,qc_b,⟨(fm1 E_b),(fm1 ci_b),(fm1 ki_b_a)⟩,⟨(fm1 E_b),(fm1 ci_b),(fm1 ki_b_b)⟩,⟨(fm1 E_b),(fm1 ci_b),(fm1 ki_b_c)⟩,⟨(fm1 E_b),(fm1 ci_b),(fm1 ki_b_d)⟩,⟨(fm1 E_b),(fm1 ci_b),(fm1 ki_b_e)⟩,⟨(fm1 E_b),(fm1 ci_b),(fm1 ki_b_f)⟩,⟨(fm1 E_b),(fm1 ci_b),(fm1 ki_b_g)⟩,⟨(fm1 E_b),(fm1 ci_b),(fm1 ki_b_h)⟩,⟨(fm1 E_b),(fm1 ci_b),(fm1 ki_b_i)⟩,⟨(fm1 E_b),(fm1 ci_b),(fm1 kv_b)⟩,(fm1 ⟨(by rw [show toS [78,111,80,108,97,99,101]=("NoPlace" : Str) from by decide +kernel]; exact mg_of X G ac_b),mr_b_j⟩)⟩
 obtain ⟨f0,fd0,F0,m0⟩:=fnH X G d0
 obtain ⟨f1,fd1,F1,m1⟩:=fnH X G d1
 obtain ⟨f2,fd2,F2,m2⟩:=fnH X G d2
 obtain ⟨f3,fd3,F3,m3⟩:=fnH X G d3
 obtain ⟨f4,fd4,F4,m4⟩:=fnH X G d4
 obtain ⟨f5,fd5,F5,m5⟩:=fnH X G d5
 obtain ⟨f6,fd6,F6,m6⟩:=fnH X G d6
 obtain ⟨f7,fd7,F7,m7⟩:=fnH X G d7
 obtain ⟨f8,fd8,F8,m8⟩:=fnH X G d8
 obtain ⟨f9,fd9,F9,m9⟩:=fnH X G d9
 obtain ⟨f10,fd10,F10,m10⟩:=fnH X G d10
 obtain ⟨f11,fd11,F11,m11⟩:=fnH X G d11
 obtain ⟨f12,fd12,F12,m12⟩:=fnH X G d12
 obtain ⟨f13,fd13,F13,m13⟩:=fnH X G d13
 obtain ⟨f14,fd14,F14,m14⟩:=fnH X G d14
 obtain ⟨f15,fd15,F15,m15⟩:=fnH X G d15
 obtain ⟨f16,fd16,F16,m16⟩:=fnH X G d16
 obtain ⟨f17,fd17,F17,m17⟩:=fnH X G d17
 obtain ⟨f18,fd18,F18,m18⟩:=fnH X G d18
 obtain ⟨f19,fd19,F19,m19⟩:=fnH X G d19
 have F20:=zbc (st:=z5w) l20 c20 k20
 refine ⟨Qg "law" "law" (z2M z5w) (z1h z5w) (z07 z5w) .none kV20 dc20 pm20 an20 cd20 ct20,fun s v=>.of_eq rfl,fun base _ _=>?_⟩
 have k__law_cell_at:=z4D (P:=l.prog) (w:=w) (base:=base) F0 m0 (bd2 F0 fun _ _ _ _ _ _ _ _=>rfl) T
 have k__law_next:=z6g (P:=l.prog) (w:=w) (base:=base) F1 m1 (bd1 F1 fun _ _ _ _ _ _ _=>rfl) T
 have k__law_draw:=z6h F2 m2 (bd2 F2 fun _ _ _ _ _ _ _ _=>rfl) T k__law_next
 have k__law_sizes_by:=z45 F3 m3 (bd1 F3 fun _ _ _ _ _ _ _=>rfl) T k__law_draw
 have k__law_pick:=z6f F4 m4 (bd4 F4 fun _ _ _ _ _ _ _ _ _ _=>rfl) T k__law_draw
 have k__law_rule_by:=z4B F5 m5 (bd2 F5 fun _ _ _ _ _ _ _ _=>rfl) T k__law_draw k__law_sizes_by k__law_pick
 have k__law_stilled:=z4A (P:=l.prog) (w:=w) (base:=base) F6 m6 (bd2 F6 fun _ _ _ _ _ _ _ _=>rfl) T
 have k__law_doubled:=z4C F7 m7 (bd2 F7 fun _ _ _ _ _ _ _ _=>rfl) T k__law_draw
 have k__law_painted_by:=z3k F8 m8 (bd2 F8 fun _ _ _ _ _ _ _ _=>rfl) T k__law_draw k__law_rule_by k__law_stilled k__law_doubled
 have k__law_pen_of:=z51 (P:=l.prog) (w:=w) (base:=base) F9 m9 (bd1 F9 fun _ _ _ _ _ _ _=>rfl) T
 have k_whole_from:=z5E (P:=l.prog) (w:=w) (base:=base) F10 m10 (bd2 F10 fun _ _ _ _ _ _ _ _=>rfl) T
 have k_whole_within:=z4x F11 m11 (bd3 F11 fun _ _ _ _ _ _ _ _ _=>rfl) T k_whole_from
 have k_taken_signs:=z4Z F12 m12 (bd4 F12 fun _ _ _ _ _ _ _ _ _ _=>rfl) T k_whole_within
 have h__law_kind_of:=z44 (P:=l.prog) (w:=w) (base:=base) F13 m13 (bd1 F13 fun _ _ _ _ _ _ _=>rfl) T
 have k__law_no_place:=z46 F14 m14 (bd4 F14 fun _ _ _ _ _ _ _ _ _ _=>rfl) T k_taken_signs h__law_kind_of
 have k__law_about:=z5F (P:=l.prog) (w:=w) (base:=base) F15 m15 (bd1 F15 fun _ _ _ _ _ _ _=>rfl) T
 have k_column_text:=z50 (P:=l.prog) (w:=w) (base:=base) F16 m16 (bd2 F16 fun _ _ _ _ _ _ _ _=>rfl) T
 have k_turned_floor:=z4z F17 m17 (bd1 F17 fun _ _ _ _ _ _ _=>rfl) T k_column_text
 have k_turned_rule:=z4Y F18 m18 (bd1 F18 fun _ _ _ _ _ _ _=>rfl) T k_turned_floor
 have k_turned_paint:=z4y F19 m19 (bd1 F19 fun _ _ _ _ _ _ _=>rfl) T k_turned_rule
 exact zdo F20 T k__law_cell_at k__law_painted_by k__law_pen_of k_taken_signs k__law_no_place k__law_about k_turned_paint (hGt _)
open PySem (sizeLine)
theorem z2C (f:DE) (δ:Dl):iSq f δ=(f δ).bind fun r δ1=>match r.d with
 | .lst ds=>.ok ds δ1
 | .tup ds=>.ok ds δ1
 | .str x=>.ok (x.map fun n=>.str [n]) δ1
 | _=>.stuck:=id rfl
theorem ev_inR (neg:Bool) (fa f g:DE) (δ:Dl):eInR neg fa f g δ=(fa δ).bind fun v δ1=>(f δ1).bind fun lo δ2=>(g δ2).bind fun hi δ3=>match v.d,lo.d,hi.d with
 | .int i,.int l,.int h=>.ok (.pure (.bl (if neg then !(decide (l≤i) && decide (i < h)) else (decide (l≤i) && decide (i < h))))) δ3
 | _,_,_=>.stuck:=id rfl
theorem z2O (f F:A→D) (p:A→Bool) (δ:Dl):∀ (as:List A) (acc:List D),acc.length + as.length≤W6 →
  (∀ a ∈ as,∃ δ1 δ2 x δ3,g (.pure (f a)) δ=some δ1∧t δ1 = .ok (p a) δ2∧clrD cs δ2=δ∧el δ2 = .ok x δ3∧clrD cs δ3=δ∧x.d=F a)→z1u cs g t el (as.map f) δ acc = .ok (acc ++ (as.filter p).map F) δ
 | [],acc,_,_=>by simp [z1u]
 | a :: r,acc,hl,hs=>by
  obtain ⟨δ1,δ2,x,δ3,e1,e2,e2',e3,e4,e5⟩:=hs a Wo
  have hl':acc.length < W6:=by simp at hl; omega
  rw [Wq]
  unfold z1u
  rw [e1]
  cases hp:p a with
  | true =>
   have ih:=z2O (cs:=cs) (g:=g) (t:=t) (el:=el) f F p δ r (acc ++ [x.d]) (by simp at hl ⊢; omega) (fun a ha=>hs a (Wj _ ha))
   rw [e5] at ih
   rw [hp] at e2
   simp only [e2,z0o,if_true,e3,if_pos hl',e4,e5,ih,Jf,hp]
   simp
  | false =>
   have ih:=z2O (cs:=cs) (g:=g) (t:=t) (el:=el) f F p δ r acc (by simp at hl ⊢; omega) (fun a ha=>hs a (Wj _ ha))
   rw [hp] at e2
   simp only [e2,z0o,e2',ih,Jf,hp]
   simp
def nx (s:Int):Int:=(((s + 7919) % 2147483647) * ((s + 7919) % 2147483647) + 48271 * ((s + 7919) % 2147483647) + 12345) % 2147483629
theorem zcP (s:Int):z1i [.pure (.int s)]=some (.pure (.int (nx s)),[.pure (.int s)]):=by
 unfold z1i gOf z38 runD
 have h1:=Int.emod_nonneg (s + 7919) (b:=2147483647) (by decide)
 have h2:=Int.emod_lt_of_pos (s + 7919) (b:=2147483647) (by decide)
 have c1:cMul ((s + 7919) % 2147483647) ((s + 7919) % 2147483647)=true:=by unfold cMul; simp; omega
 have c2:cMul 48271 ((s + 7919) % 2147483647)=true:=by unfold cMul; simp
 simp [ioOk,z0h,dAsg,eOpF,eOpN,bVar,pAdd,pMod,pII,z4u,pMul,c1,c2,z0M,z0e]
 rfl
def Pen (d:D):Prop:=∃ l f s:Int,d = .lst [.int l,.int f,.int s]∧0≤l
theorem z5c (hp:Pen d) (m:Nat) (h0:0 < m) (h1:m < 1073741824):∃ (r:Nat) (d':D),z0b [.own d,.pure (.int m)]=some (.pure (.int r),[.own d',.pure (.int m)])∧r < m∧Pen d':=by
 obtain ⟨l,f,s,rfl,hl⟩:=hp
 have hm:(0:Int) < (m:Int):=by omega
 have hd:cDiv l m=true:=by unfold cDiv; simp; omega
 unfold z0b gOf z39 runD
 by_cases hf:f=1
 ·subst hf
  have e1:=Int.emod_nonneg l (b:=(m:Int)) (by omega)
  have e2:=Int.emod_lt_of_pos l hm
  refine ⟨(l % (m:Int)).toNat,.lst [.int (l / m),.int 1,.int s],?_,by omega,⟨_,_,_,rfl,Int.ediv_nonneg hl (by omega)⟩⟩
  simp [ioOk,z0h,dAsg,eOpF,eOpN,bVar,eVar,pIx,pEq,eqD,flat,z1s,z5U,z79,dTr,pMod,pDiv,pII,h0,hd,z87,z2j,putL,z0M,z0e,ixN]
  omega
 ·have e1:=Int.emod_nonneg (nx (nx s + 7) / 64) (b:=(m:Int)) (by omega)
  have e2:=Int.emod_lt_of_pos (nx (nx s + 7) / 64) hm
  refine ⟨(nx (nx s + 7) / 64 % (m:Int)).toNat,.lst [.int l,.int f,.int (nx (nx s + 7))],?_,by omega,⟨_,_,_,rfl,hl⟩⟩
  simp [ioOk,z0h,dAsg,eOpF,eOpN,bVar,eVar,pIx,pEq,eqD,flat,z1s,z5U,z79,dTr,pMod,pDiv,pII,h0,hd,z87,z2j,putL,z0M,z0e,ixN,hf,z05,ios,z0p,ndup,evX,mkA,zcP,pAdd,putA,cDiv]
  omega
theorem r_pen (c:Int):∃ d,z14 [.pure (.int c)]=some (.own d,[.pure (.int c)])∧Pen d:=by
 unfold z14 gOf z2y runD
 refine ⟨.lst [.int (if 0 - c > c then 0 - c else c),.int (if decide (1000000000000000000≤(if 0 - c > c then 0 - c else c)) then 1 else 0),.int ((if 0 - c > c then 0 - c else c) % 1000003)],?_,⟨_,_,_,rfl,by split <;> omega⟩⟩
 simp [ioOk,z0h,dAsg,eOpF,eOpN,bVar,eVar,pMax,pSub,pII,pInt,pGe,pCmp,pPow,cPow,pMod,z0M,z0e]
theorem z6R (ns:List Int):∃ c:Int,z0V [.pure (.lst (ns.map .int)),.pure (.int 0)]=some (.pure (.int c),[.pure (.lst (ns.map .int)),.pure (.int 0)]):=by
 unfold z0V gOf z2c runD
 cases ns with
 | nil=>exact ⟨0,by simp [ioOk,z0h,eOpF,eOpN,bVar,pLt,pCmp,dTr,pLen,z0M,z0e]⟩
 | cons n r=>exact ⟨n,by
   have:(0:Int) < (r.length:Int) + 1:=by omega
   simp [ioOk,z0h,eOpF,eOpN,bVar,pLt,pCmp,dTr,pLen,z0M,z0e,pIx,z1s,this]⟩
theorem z2H (hp:Pen d) (m:Nat) (i:Int) (hi:i=m) (h0:0 < m) (h1:m < 1073741824):∃ (r:Nat) (d':D),z0b [.own d,.pure (.int i)]=some (.pure (.int r),[.own d',.pure (.int i)])∧r < m∧Pen d':=by
 subst hi
 exact z5c hp m h0 h1
def lettersT:Tx:=[97,98,99,100,101,102,103,104,105,106,107,108,109,110,111,112,113,114,115,116,117,118,119,120,121,122]
theorem zbJ {d:D} (hp:Pen d):∃ (h w:Nat) (d':D),z0Y [.own d]=some (.pure (.tup [.int h,.int w]),[.own d'])∧0 < h∧h≤4∧0 < w∧w≤4∧2 < h + w∧Pen d':=by
 obtain ⟨r1,d1,e1,l1,p1⟩:=z2H hp 3 3 rfl (by decide) (by decide)
 obtain ⟨r2,d2,e2,l2,p2⟩:=z2H p1 3 3 rfl (by decide) (by decide)
 obtain ⟨r3,d3,e3,l3,p3⟩:=z2H p2 8 8 rfl (by decide) (by decide)
 obtain ⟨r4,d4,e4,l4,p4⟩:=z2H p3 6 6 rfl (by decide) (by decide)
 unfold z0Y gOf z1P runD
 by_cases h3:r3=0
 ·subst h3
  have:r4=0∨r4=1∨r4=2∨r4=3∨r4=4∨r4=5:=by omega
  rcases this with rfl | rfl | rfl | rfl | rfl | rfl
  ·exact ⟨4,1,d4,by simp [ioOk,z0h,dAsg,z05,ios,ndup,z0p,evX,mkA,e1,e2,e3,e4,putA,pAdd,pEq,eqD,flat,dTr,pIx,atI,ixN,gTp,z03,z0y,eOpF,eOpN,bVar,eVar,z0M,z0e],by decide,by decide,by decide,by decide,by decide,p4⟩
  ·exact ⟨1,4,d4,by simp [ioOk,z0h,dAsg,z05,ios,ndup,z0p,evX,mkA,e1,e2,e3,e4,putA,pAdd,pEq,eqD,flat,dTr,pIx,atI,ixN,gTp,z03,z0y,eOpF,eOpN,bVar,eVar,z0M,z0e],by decide,by decide,by decide,by decide,by decide,p4⟩
  ·exact ⟨4,4,d4,by simp [ioOk,z0h,dAsg,z05,ios,ndup,z0p,evX,mkA,e1,e2,e3,e4,putA,pAdd,pEq,eqD,flat,dTr,pIx,atI,ixN,gTp,z03,z0y,eOpF,eOpN,bVar,eVar,z0M,z0e],by decide,by decide,by decide,by decide,by decide,p4⟩
  ·exact ⟨4,3,d4,by simp [ioOk,z0h,dAsg,z05,ios,ndup,z0p,evX,mkA,e1,e2,e3,e4,putA,pAdd,pEq,eqD,flat,dTr,pIx,atI,ixN,gTp,z03,z0y,eOpF,eOpN,bVar,eVar,z0M,z0e],by decide,by decide,by decide,by decide,by decide,p4⟩
  ·exact ⟨1,2,d4,by simp [ioOk,z0h,dAsg,z05,ios,ndup,z0p,evX,mkA,e1,e2,e3,e4,putA,pAdd,pEq,eqD,flat,dTr,pIx,atI,ixN,gTp,z03,z0y,eOpF,eOpN,bVar,eVar,z0M,z0e],by decide,by decide,by decide,by decide,by decide,p4⟩
  ·exact ⟨2,1,d4,by simp [ioOk,z0h,dAsg,z05,ios,ndup,z0p,evX,mkA,e1,e2,e3,e4,putA,pAdd,pEq,eqD,flat,dTr,pIx,atI,ixN,gTp,z03,z0y,eOpF,eOpN,bVar,eVar,z0M,z0e],by decide,by decide,by decide,by decide,by decide,p4⟩
 ·by_cases hs:r1=0∧r2=0
  ·obtain ⟨rfl,rfl⟩:=hs
   refine ⟨1,2,d3,?_,by decide,by decide,by decide,by decide,by decide,p3⟩
   simp [ioOk,z0h,dAsg,z05,ios,ndup,z0p,evX,mkA,e1,e2,e3,putA,pAdd,pEq,eqD,flat,dTr,h3,eOpF,eOpN,bVar,eVar,z0M,z0e]
  ·have hn:¬ (1 + (r1:Int) + (1 + (r2:Int))=2):=by omega
   refine ⟨1 + r1,1 + r2,d3,?_,by omega,by omega,by omega,by omega,by omega,p3⟩
   simp [ioOk,z0h,dAsg,z05,ios,ndup,z0p,evX,mkA,e1,e2,e3,putA,pAdd,pEq,eqD,flat,dTr,h3,hn,eOpF,eOpN,bVar,eVar,z0M,z0e]
theorem z4N (ts:List Nat) (r:Nat) (h:r < ts.length):pIx (.lst (ts.map fun n=>.str [n])) (.int r)=some (.pure (.str [ts.getD r 0])):=by
 simp [pIx,z1t,h]
theorem zcO {d:D} (hp:Pen d) (ts:List Nat) (place way:Nat) (h1:place < ts.length) (h2:ts.length≤64):∃ (n:Nat) (d':D),
  z0J [.own d,.pure (.lst (ts.map fun n=>.str [n])),.pure (.int place),.pure (.int way)]=some (.pure (.str [n]),[.own d',.pure (.lst (ts.map fun n=>.str [n])),.pure (.int place),.pure (.int way)])∧n ∈ ts∧Pen d':=by
 have mem:∀ r,r < ts.length→ts.getD r 0 ∈ ts:=fun r h=>by simp [h]
 unfold z0J gOf z37 runD
 by_cases w1:way=1
 ·subst w1
  obtain ⟨r,d1,e1,l1,p1⟩:=z2H hp (place + 1) ((place:Int) + 1) (by omega) (by omega) (by omega)
  refine ⟨ts.getD r 0,d1,?_,mem r (by omega),p1⟩
  simp [ioOk,z0h,eOpF,eOpN,bVar,pEq,eqD,flat,dTr,z05,ios,ndup,z0p,evX,pAdd,mkA,e1,putA,pIx,z1t,z0M,z0e,show r < ts.length by omega]
 ·by_cases w2:way=2
  ·subst w2
   have hr:(place + 1) % ts.length < ts.length:=Nat.mod_lt _ (by omega)
   refine ⟨ts.getD ((place + 1) % ts.length) 0,d,?_,mem _ hr,hp⟩
   have hm:pMod (.int ((place:Int) + 1)) (.int ts.length)=some (.pure (.int (((place + 1) % ts.length:Nat):Int))):=by
    simp only [pMod,pII]
    rw [if_pos (by simp; omega)]
    simp
   simp [ioOk,z0h,eOpF,eOpN,bVar,pEq,eqD,flat,dTr,pAdd,pLen,hm,z0M,z0e]
   have hx:=z4N ts ((place + 1) % ts.length) hr
   simp at hx
   simp [hx]
  ·by_cases w3:way=3
   ·subst w3
    obtain ⟨r,d1,e1,l1,p1⟩:=z2H hp 4 4 rfl (by decide) (by decide)
    by_cases hr:0 < r
    ·refine ⟨ts.getD place 0,d1,?_,mem place h1,p1⟩
     simp [ioOk,z0h,eOpF,eOpN,bVar,pEq,eqD,flat,dTr,z05,ios,ndup,z0p,evX,mkA,e1,putA,pGt,pCmp,hr,pIx,z1t,h1,z0M,z0e]
    ·obtain ⟨r',d2,e2,l2,p2⟩:=z5c p1 ts.length (by omega) (by omega)
     refine ⟨ts.getD r' 0,d2,?_,mem r' l2,p2⟩
     simp [ioOk,z0h,eOpF,eOpN,bVar,pEq,eqD,flat,dTr,z05,ios,ndup,z0p,evX,mkA,e1,putA,pGt,pCmp,hr,pLen,e2,pIx,z1t,l2,z0M,z0e]
   ·obtain ⟨r',d2,e2,l2,p2⟩:=z5c hp ts.length (by omega) (by omega)
    refine ⟨ts.getD r' 0,d2,?_,mem r' l2,p2⟩
    have c1:¬ (way:Int)=1:=by omega
    have c2:¬ (way:Int)=2:=by omega
    have c3:¬ (way:Int)=3:=by omega
    simp [ioOk,z0h,eOpF,eOpN,bVar,pEq,eqD,flat,dTr,z05,ios,ndup,z0p,evX,mkA,putA,c1,c2,c3,pLen,e2,pIx,z1t,l2,z0M,z0e]
theorem z7Z:∀ k,k < 26→lettersT.getD k 0=97 + k:=by decide
theorem z85 (xs:List Nat) (h:xs.length < 64):z3J (.lst (xs.map fun n=>.str [n]))=some (.own (.lst ((z3H xs).map fun n=>.str [n]))):=by
 have e:(xs.map fun n=>D.str [n])=(xs.map fun n=>[n]).map D.str:=by simp
 unfold z3J
 simp only [e,z4h]
 rw [if_pos (by simpa using h),zaR]
 simp
def rawT (f n:Nat):List Nat:=(WS n).map fun k=>97 + (f + 5 * k) % 26
theorem z8z (f n:Nat) (hn:n≤26):(rawT f n).Nodup:=by
 unfold rawT
 rw [List.nodup_iff_pairwise_ne,List.pairwise_map]
 refine (List.pairwise_lt_range (n:=n)).imp_of_mem ?_
 intro a b ha hb hab e
 simp at ha hb
 omega
def rb (pd:D) (m h w n f:Nat) (s7:S) (wy:Nat) (blocks:List D) (a b c:Option S):Dl :=
 [some (.own pd),some (.pure (.int m)),some (.pure (.int h)),some (.pure (.int w)),some (.pure (.int (1 + (n:Int)))),some (.pure (.int f)),some (.pure (.str lettersT)),some s7,some (.pure (.int wy)),some (.own (.lst blocks)),a,b,c,none,none]
def tD (ts:List Nat):D:=.lst (ts.map fun n=>.str [n])
def sT (ts:List Nat) (s:S):Prop:=s = .own (tD ts)∨s = .pure (tD ts)
theorem z7R {m h w n f wy:Nat} {ts:List Nat} (hts:ts.length≤64) (hw:w≤4) {pd:D} (hpd:Pen pd) {s7:S} (h7:sT ts s7) (blocks:List D) (place:Nat) (hpl:place < ts.length) (block:List D) (row:Nat) :
  ∃ (x:Tx) (pd':D) (s7':S),z1u [14] (gNm [0] 14) dYes (z05 z0J [.io 0,.val (eVar 7),.val (eVar 10),.val (eVar 8)]) (z0A 0 w) (rb pd m h w n f s7 wy blocks (some (.pure (.int place))) (some (.own (.lst block))) (some (.pure (.int row)))) []
   = .ok (x.map fun n=>.str [n]) (rb pd' m h w n f s7' wy blocks (some (.pure (.int place))) (some (.own (.lst block))) (some (.pure (.int row))))∧x.length=w∧(∀ n ∈ x,n ∈ ts)∧Pen pd'∧sT ts s7':=by
 obtain ⟨xs,δ',e,⟨pd',s7',hpd',h7',rfl⟩,hn,hf⟩:=z3x (cs:=[14]) (g:=gNm [0] 14) (t:=dYes) (el:=z05 z0J [.io 0,.val (eVar 7),.val (eVar 10),.val (eVar 8)]) (fun δ=>∃ pd s7,Pen pd∧sT ts s7∧δ=rb pd m h w n f s7 wy blocks (some (.pure (.int place))) (some (.own (.lst block))) (some (.pure (.int row))))
  (fun _ x=>∃ n,n ∈ ts∧x = .str [n]) (z0A 0 w) _ [] ⟨pd,s7,hpd,h7,rfl⟩ (by rw [z0N]; simp; omega) (fun d hd δ ⟨pd,s7,hpd,h7,e⟩=>by
   subst e
   obtain ⟨i,hi,rfl⟩:=z3Z hd
   obtain ⟨k,d',e,hk,p⟩:=zcO hpd ts place wy hpl hts
   have e':z0J [.own pd,.pure (tD ts),.pure (.int place),.pure (.int wy)]=some (.pure (.str [k]),[.own d',.pure (tD ts),.pure (.int place),.pure (.int wy)]):=e
   refine ⟨_,_,.pure (.str [k]),(rb d' m h w n f (.pure (tD ts)) wy blocks (some (.pure (.int place))) (some (.own (.lst block))) (some (.pure (.int row)))).set 14 (some (.pure (.int i))),rfl,rfl,?_,⟨d',_,p,.inr rfl,rfl⟩,⟨_,hk,rfl⟩⟩
   rcases h7 with rfl | rfl
   ·simp [rb,z05,ios,ndup,z0p,evX,eVar,mkA,e',putA]
   ·simp [rb,z05,ios,ndup,z0p,evX,eVar,mkA,e',putA])
 obtain ⟨x,rfl,hx⟩:=z6P (P:=fun n=>n ∈ ts) (z8y hn hf fun d x _ h=>h)
 exact ⟨x,pd',s7',by simpa using e,by simpa using hn,hx,hpd',h7'⟩
theorem z69 {m h w n f wy:Nat} {ts:List Nat} (hts:ts.length≤64) (hw:w≤4) (hh:h≤4) {pd:D} (hpd:Pen pd) {s7:S} (h7:sT ts s7) (blocks:List D) (place:Nat) (hpl:place < ts.length) (rs:Option S) :
  ∃ (fl:List Tx) (pd':D) (s7':S) (rs':Option S),forL (gNm [0] 12) (z0s 11 (eC1 (z2h []) (bOf (z0r [14] (z0x (eVar 3)) (gNm [0] 14) dYes (z05 z0J [.io 0,.val (eVar 7),.val (eVar 10),.val (eVar 8)]))))) (z0A 0 h) (rb pd m h w n f s7 wy blocks (some (.pure (.int place))) (some (.own (.lst []))) rs)
   = .ok .next (rb pd' m h w n f s7' wy blocks (some (.pure (.int place))) (some (.own (.lst (fl.map .str)))) rs')∧fl.length=h∧(∀ r ∈ fl,r.length=w∧∀ n ∈ r,n ∈ ts)∧Pen pd'∧sT ts s7':=by
 obtain ⟨δ',e3,pd',s7',fl,rs',hpd',h7',hfl,hall,rfl⟩:=z1b (g:=gNm [0] 12) (b:=z0s 11 (eC1 (z2h []) (bOf (z0r [14] (z0x (eVar 3)) (gNm [0] 14) dYes (z05 z0J [.io 0,.val (eVar 7),.val (eVar 10),.val (eVar 8)]))))) (fun k δ=>∃ (pd:D) (s7:S) (fl:List Tx) (rs:Option S),Pen pd∧sT ts s7∧fl.length=k∧(∀ r ∈ fl,r.length=w∧∀ n ∈ r,n ∈ ts)∧δ=rb pd m h w n f s7 wy blocks (some (.pure (.int place))) (some (.own (.lst (fl.map .str)))) rs)
  (z0A 0 h) 0 _ ⟨pd,s7,[],rs,hpd,h7,rfl,by simp,rfl⟩ (fun i d δ hd ⟨pd,s7,fl,rs,hpd,h7,hfl,hall,e⟩=>by
   subst e
   obtain ⟨hi,rfl⟩:=z19 hd
   obtain ⟨x,pd',s7',e,hx,hxt,hpd',h7'⟩:=z7R (m:=m) (h:=h) (n:=n) (f:=f) (wy:=wy) hts hw hpd h7 blocks place hpl (fl.map .str) i
   have hz:fl.length < W6:=by rw [z0N]; omega
   have ej:=z4i x (by omega)
   refine ⟨_,rb pd' m h w n f s7' wy blocks (some (.pure (.int place))) (some (.own (.lst ((fl ++ [x]).map .str)))) (some (.pure (.int i))),rfl,?_,⟨pd',s7',fl ++ [x],_,hpd',h7',by simp [hfl],?_,rfl⟩⟩
   ·unfold rb at e ⊢
    simp [z0s,z2j,eVar,z3V w (by omega),z0p,clrD]
    rw [e]
    simp [ej,z1e,putL,hz]
   ·intro r hr
    rcases Qj.mp hr with hr | hr
    ·exact hall r hr
    ·simp at hr; subst hr; exact ⟨hx,hxt⟩)
 exact ⟨fl,pd',s7',rs',e3,by simpa using hfl,hall,hpd',h7'⟩
theorem z8C (hp:Pen d) (m:Nat) (hm0:0 < m) (hm1:m≤26):∃ (h w:Nat) (bs:List (Nat×List Tx)) (d':D),
  z15 [.own d,.pure (.int m)]=some (.pure (ruD h w bs),[.own d',.pure (.int m)])∧Rul h w bs∧bs.length≤m∧Pen d':=by
 obtain ⟨h,w,d1,e1,h0,h1,w0,w1,hw,p1⟩:=zbJ hp
 obtain ⟨r,d2,e2,l2,p2⟩:=z5c p1 m hm0 (by omega)
 obtain ⟨f,d3,e3,l3,p3⟩:=z2H p2 26 26 rfl (by decide) (by decide)
 obtain ⟨wy,d4,e4,l4,p4⟩:=z2H p3 5 5 rfl (by decide) (by decide)
 -- the tiles
 have ec:=z4S (cs:=[13]) (g:=gNm [0] 13) (t:=dYes) (el:=eOpF pIx 6 (bOf (eOp pMod (eOpF pAdd 5 (bOf (eOp z4u (eD (.int 5)) (bVar 13)))) (bOf (eD (.int 26)))))) (fun d=>match d with | .int k=>.str [97 + (f + 5 * k.toNat) % 26] | _=>.non)
  [some (.own d3),some (.pure (.int m)),some (.pure (.int h)),some (.pure (.int w)),some (.pure (.int (1 + (r:Int)))),some (.pure (.int f)),some (.pure (.str lettersT)),none,none,none,none,none,none,none,none] (z0A 0 (1 + r)) [] (by rw [z0N]; simp; omega) (fun d hd=>by
   obtain ⟨i,hi,rfl⟩:=z3Z hd
   refine ⟨_,_,.pure (.str [97 + (f + 5 * i) % 26]),[some (.own d3),some (.pure (.int m)),some (.pure (.int h)),some (.pure (.int w)),some (.pure (.int (1 + (r:Int)))),some (.pure (.int f)),some (.pure (.str lettersT)),none,none,none,none,none,none,some (.pure (.int i)),none],rfl,rfl,?_,rfl,rfl⟩
   have hk:(f + 5 * i) % 26 < 26:=Nat.mod_lt _ (by decide)
   have hx:=z3v lettersT ((f + 5 * i) % 26) hk (by decide)
   rw [z7Z _ hk] at hx
   have hc:((f:Int) + 5 * (i:Int)) % 26=(((f + 5 * i) % 26:Nat):Int):=by omega
   have hmul:z4u (.int 5) (.int i)=some (.pure (.int (5 * (i:Int)))):=by
    unfold z4u pMul pII
    have:cMul 5 i=true:=by unfold cMul; simp
    simp only [this,if_true]
   have hmod:pMod (.int ((f:Int) + 5 * (i:Int))) (.int 26)=some (.pure (.int (((f + 5 * i) % 26:Nat):Int))):=by
    rw [← hc]; rfl
   generalize lettersT=lt at hx ⊢
   simp only [eOpF,eOpN,bVar,z4O,zbf,zdO,z0o,z75,Q5,QK,WR,WJ,z5P,hmul,pAdd,hmod,hx])
 have hraw:List.map (fun (d:D)=>match d with | .int k=>D.str [97 + (f + 5 * k.toNat) % 26] | _=>.non) (z0A 0 (1 + r))=(rawT f (1 + r)).map fun n=>.str [n]:=by
  simp [z0A,rawT]
 rw [hraw] at ec
 simp only [WZ] at ec
 have hrl:(rawT f (1 + r)).length=1 + r:=by simp [rawT]
 have es:=z85 (rawT f (1 + r)) (by rw [hrl]; omega)
 have hts:(z3H (rawT f (1 + r))).length=1 + r:=by rw [z60,hrl]
 have hlt:=z7i (z8z f (1 + r) (by omega))
 have hle:∀ t ∈ z3H (rawT f (1 + r)),97≤t∧t≤122:=fun t ht=>by
  rw [sortN_mem] at ht
  simp [rawT] at ht
  obtain ⟨k,_,rfl⟩:=ht
  omega
 generalize z3H (rawT f (1 + r))=ts at es hts hlt hle
 -- the blocks
 obtain ⟨δ',e5,pd,s7,bs,a,b,c,hpd,h7,hbl,hbt,hall,rfl⟩:=z1b (g:=gNm [0] 10) (b:=(dSeq (dAsg (eLst aNil) (gNm [0] 11)) (dSeq (dFor (z0x (eVar 2)) (gNm [0] 12) (z0s 11 (eC1 (z2h []) (bOf (z0r [14] (z0x (eVar 3)) (gNm [0] 14) dYes (z05 z0J [.io 0,.val (eVar 7),.val (eVar 10),.val (eVar 8)])))))) (z0s 9 (eTup (z00 (eOpF pIx 7 (bVar 10)) (z00 (eC1 z0m (bVar 11)) aNil)))))))
  (fun k δ=>∃ (pd:D) (s7:S) (bs:List (Nat×List Tx)) (a b c:Option S),Pen pd∧sT ts s7∧bs.length=k∧bs.map (·.1)=ts.take k∧(∀ b ∈ bs,b.2.length=h∧∀ r ∈ b.2,r.length=w∧∀ n ∈ r,n ∈ ts)∧δ=rb pd m h w r f s7 wy (bs.map blD) a b c)
  (z0A 0 (1 + r)) 0 (rb d4 m h w r f (.own (tD ts)) wy [] none none none) ⟨d4,_,[],none,none,none,p4,.inl rfl,rfl,rfl,by simp,rfl⟩ (fun i d δ hd ⟨pd,s7,bs,a,b,c,hpd,h7,hbl,hbt,hall,e⟩=>by
   subst e
   obtain ⟨hi,rfl⟩:=z19 hd
   rw [WQ] at hbl hbt
   obtain ⟨fl,pd',s7',rs',e,hfl,hflt,hpd',h7'⟩:=z69 (m:=m) (n:=r) (f:=f) (wy:=wy) (ts:=ts) (by omega) w1 h1 hpd h7 (bs.map blD) i (by omega) c
   have hz:bs.length < W6:=by rw [z0N]; omega
   have hx:=z4N ts i (by omega)
   refine ⟨_,rb pd' m h w r f s7' wy ((bs ++ [(ts.getD i 0,fl)]).map blD) (some (.pure (.int i))) (some (.own (.lst (fl.map .str)))) rs',rfl,?_,⟨pd',s7',bs ++ [(ts.getD i 0,fl)],_,_,_,hpd',h7',by simp [hbl],?_,?_,rfl⟩⟩
   ·unfold rb at e ⊢
    simp [dAsg,eVar,z3V h (by omega)]
    rw [e]
    rcases h7' with rfl | rfl
    ·simp [z0s,z2j,eOpF,eOpN,bVar,tD,hx,z0m,putL,hz,blD]
    ·simp [z0s,z2j,eOpF,eOpN,bVar,tD,hx,z0m,putL,hz,blD]
   ·rw [WQ,List.map_append,hbt,Qr]
    simp [show i < ts.length by omega]
   ·intro b hb
    rcases Qj.mp hb with hb | hb
    ·exact hall b hb
    ·simp at hb; subst hb; exact ⟨hfl,hflt⟩)
 have hbl':bs.length=1 + r:=by simpa using hbl
 have hbt':bs.map (·.1)=ts:=by
  rw [hbt,QO]
  simp [hts]
 refine ⟨h,w,bs,pd,?_,⟨h0,h1,w0,w1,hw,by omega,by omega,by rw [hbt']; exact hlt,fun b hb=>hle _ (by rw [← hbt']; exact WC hb),fun b hb=>by rw [hbt']; exact hall b hb⟩,by omega,hpd⟩
 unfold z15 gOf z29 runD
 unfold lettersT at ec
 simp [ioOk,z0h,dAsg,z05,ios,ndup,z0p,evX,mkA,e1,putA,gTp,z03,z0y,eVar,e2,pAdd,e3,z8w r (by omega),clrD]
 rw [ec]
 simp [z1e,es,e4,putA,eVar,z8w r (by omega)]
 unfold rb lettersT tD at e5
 rw [e5]
 simp [bVar,z0m,z0M,z0e,eVar]
theorem le_int (i j:Int):pLe (.int i) (.int j)=some (.pure (.bl (decide (i≤j)))):=rfl
theorem gt_int (i j:Int):pGt (.int i) (.int j)=some (.pure (.bl (decide (j < i)))):=rfl
theorem add_int (i j:Int):pAdd (.int i) (.int j)=some (.pure (.int (i + j))):=rfl
theorem z1N (np:List Nat) (n:Nat) (b:DS) (ss:List S):gOf np n b ss=if ioOk np 0 ss then (match b (z0h n ss) with
 | .ok fl δ=>(z0M fl).bind fun r=>(z0e 0 ss δ).map fun outs=>(r,outs)
 | _=>none) else none:=rfl
theorem z66 (h w:Nat) (bs:List (Nat×List Tx)):pIx (ruD h w bs) (.int 0)=some (.pure (.int h))∧pIx (ruD h w bs) (.int 1)=some (.pure (.int w))∧pIx (ruD h w bs) (.int 2)=some (.pure (.tup (bs.map blD))):=by
 refine ⟨?_,?_,?_⟩
 ·simp [pIx,z1s]
 ·simp [pIx,z5U]
 ·simp [pIx,z79]
theorem z6b:∀ (kps acc:List (DKey×D)),((acc ++ kps).map (·.1)).Nodup→z5z kps acc=acc ++ kps
 | [],acc,_=>by simp [z5z]
 | p :: r,acc,h=>by
  have hn:(acc.any fun kv=>decide (kv.1=p.1))=false:=by
   rw [List.any_eq_false]
   intro kv hkv
   simp only [decide_eq_true_eq]
   intro e
   rw [List.map_append,List.nodup_append] at h
   exact h.2.2 kv.1 (WC hkv) p.1 (WC Wo) e
  have hp:putD acc p.1 p.2=acc ++ [p]:=by
   unfold putD
   rw [hn]
   simp
  show z5z r (putD acc p.1 p.2)=_
  rw [hp,z6b r (acc ++ [p]) (by simpa using h)]
  simp
theorem sub_int (i j:Int):pSub (.int i) (.int j)=some (.pure (.int (i - j))):=rfl
theorem zbF (x:Tx) (h:x.length≤1000):pSl (some 1) none (.str x)=some (.pure (.str x.tail)):=by
 unfold pSl
 have hz:W6=16777216:=rfl
 simp only
 rw [if_pos (by omega)]
 have:cutL x (some 1) none=x.tail:=by
  unfold cutL HT.sIx
  simp
  cases x with
  | nil=>simp
  | cons a r=>simp
 rw [this]
theorem zbE (ds:List D):pSl (some 1) none (.tup ds)=some (.pure (.tup ds.tail)):=by
 have:cutL ds (some 1) none=ds.tail:=by
  unfold cutL HT.sIx
  simp
  cases ds with
  | nil=>simp
  | cons a r=>simp
 show some (S.pure (.tup (cutL ds (some 1) none)))=_
 rw [this]
theorem add_str (x y:Tx) (h:x.length + y.length≤1000):pAdd (.str x) (.str y)=some (.pure (.str (x ++ y))):=by
 have hz:W6=16777216:=rfl
 simp only [pAdd]
 rw [if_pos (by omega)]
theorem z7c (x y:List D) (h:x.length + y.length≤1000):pAdd (.tup x) (.tup y)=some (.pure (.tup (x ++ y))):=by
 have hz:W6=16777216:=rfl
 simp only [pAdd]
 rw [if_pos (by omega)]
theorem z7C (np:List Nat) (n:Nat) (b:DS) (ss:List S):gOfX np n b ss=if ioOk np 0 ss then (match b (z0h n ss) with
 | .ok fl δ=>(z0M fl).bind fun r=>(z0e 0 ss δ).map fun outs=>.inl (r,outs)
 | .exc x δ=>(z0e 0 ss δ).map fun outs=>.inr (x,outs)
 | .stuck=>none) else none:=rfl
@[simp] theorem zcl {α β:Type} (x:Xc) (δ:Dl) (f:α→Dl→Rs β):(Rs.exc x δ:Rs α).bind f = .exc x δ:=id rfl
theorem z0f (h:a δ = .ok .next δ1) (h2:b δ1=x):dSeq a b δ=x:=by
 rw [z76,h]
 simpa using h2
theorem zdV {α:Type} (xs:List α) (k:Nat) (h:k≤xs.length):cutL xs none (some (k:Int))=xs.take k:=by
 have:¬ (k:Int) < 0:=by omega
 unfold cutL HT.sIx
 simp [this]
theorem zdW {α:Type} (xs:List α) (k:Nat) (h:k≤xs.length):cutL xs (some ((k:Int))) none=xs.drop k:=by
 have:¬ (k:Int) < 0:=by omega
 unfold cutL HT.sIx
 simp [this,Nat.min_eq_left h]
 exact QO (by simp)
theorem sl_tup (ds:List D) (lo hi:Option Int):pSl lo hi (.tup ds)=some (.pure (.tup (cutL ds lo hi))):=rfl
theorem sl_str (x:Tx) (h:x.length≤1000) (lo hi:Option Int):pSl lo hi (.str x)=some (.pure (.str (cutL x lo hi))):=by
 unfold pSl
 simp only
 rw [if_pos (by rw [z0N]; omega)]
theorem zba (ts:List Nat):pLen (tD ts)=some (.pure (.int ts.length)):=by simp [tD,pLen]
theorem zca (ts:List Nat) (r:Nat) (h:r < ts.length):pIx (tD ts) (.int r)=some (.pure (.str [ts.getD r 0])):=z4N ts r h
theorem in_ts (ts:List Nat) (n:Nat):pIn true (.str [n]) (.lst (ts.map fun n=>.str [n]))=some (.pure (.bl (!ts.contains n))):=by
 have e:(ts.map fun n=>D.str [n])=(ts.map fun n=>[n]).map D.str:=by simp
 have c:(ts.map fun n=>([n]:Tx)).contains [n]=ts.contains n:=by
  induction ts with
  | nil=>rfl
  | cons a r ih=>simp only [Wq,J3,ih (by simp)]; congr 1; simp
 unfold pIn
 simp only [e,z4h,c]
 rfl
structure RuQ (h w:Nat) (bs:List (Nat×List Tx)):Prop where
 h0:0 < h
 h1:h≤4
 w0:0 < w
 w1:w≤4
 n0:0 < bs.length
 n1:bs.length≤52
 nd:(bs.map (·.1)).Nodup
 blk:∀ b ∈ bs,b.2.length=h∧∀ r ∈ b.2,r.length=w∧∀ n ∈ r,n ∈ bs.map (·.1)
theorem zcJ {h w:Nat} {bs:List (Nat×List Tx)} (R:Rul h w bs):RuQ h w bs:=⟨R.h0,R.h1,R.w0,R.w1,R.n0,by have:=R.n1; omega,R.up.imp (fun h=>WN h),R.blk⟩
theorem RuQ.rect {h w:Nat} {bs:List (Nat×List Tx)} (R:RuQ h w bs) {b:Nat×List Tx} (hb:b ∈ bs):Rect w b.2:=by
 have:=R.blk b hb
 exact ⟨by have:=R.h0; omega,by have:=R.h1; omega,R.w0,by have:=R.w1; omega,fun r hr=>(this.2 r hr).1⟩
def stB (b:Nat×List Tx):Nat×List Tx:=(b.1,(b.1 :: (b.2.headD []).tail) :: b.2.tail)
def stl (bs:List (Nat×List Tx)) (k:Nat):List (Nat×List Tx):=match bs[k]? with
 | some b=>bs.take k ++ stB b :: bs.drop (k + 1)
 | none=>bs
theorem z3E (bs:List (Nat×List Tx)) (k:Nat):(stl bs k).map (·.1)=bs.map (·.1):=by
 unfold stl
 cases e:bs[k]? with
 | none=>rfl
 | some b =>
  obtain ⟨hk,eb⟩:=W3.mp e
  have:bs=bs.take k ++ b :: bs.drop (k + 1):=by rw [← eb,← List.drop_eq_getElem_cons hk,List.take_append_drop]
  conv=>rhs; rw [this]
  simp [stB]
theorem zbz {bs:List (Nat×List Tx)} {k:Nat} {b:Nat×List Tx} (h:b ∈ stl bs k):b ∈ bs∨∃ c ∈ bs,b=stB c:=by
 unfold stl at h
 cases e:bs[k]? with
 | none=>rw [e] at h; exact .inl h
 | some c =>
  rw [e] at h
  rcases Qj.mp h with h | h
  ·exact .inl (List.mem_of_mem_take h)
  ·rcases Wh.mp h with h | h
   ·exact .inr ⟨c,Wv e,h⟩
   ·exact .inl (List.mem_of_mem_drop h)
theorem zaQ {h w:Nat} {bs:List (Nat×List Tx)} (R:RuQ h w bs) (k:Nat):RuQ h w (stl bs k):=by
 have e:=z3E bs k
 have el:(stl bs k).length=bs.length:=by have:=congrArg QM e; simpa using this
 refine ⟨R.h0,R.h1,R.w0,R.w1,by rw [el]; exact R.n0,by rw [el]; exact R.n1,by rw [e]; exact R.nd,fun b hb=>?_⟩
 rw [e]
 rcases zbz hb with hb | ⟨c,hc,rfl⟩
 ·exact R.blk b hb
 ·obtain ⟨h1,h2⟩:=R.blk c hc
  have hc1:c.1 ∈ bs.map (·.1):=WC hc
  have w0:=R.w0
  have h0:=R.h0
  cases hq:c.2 with
  | nil=>rw [hq] at h1; simp at h1; omega
  | cons r q =>
   rw [hq] at h1 h2
   have hr:=h2 r Wo
   unfold stB
   rw [hq]
   refine ⟨by simpa using h1,fun x hx=>?_⟩
   rcases Wh.mp hx with rfl | hx
   ·refine ⟨by simp [List.headD]; omega,fun n hn=>?_⟩
    rcases Wh.mp hn with rfl | hn
    ·exact hc1
    ·exact hr.2 n (List.mem_of_mem_tail (by simpa [List.headD] using hn))
   ·exact h2 x (Wj _ (by simpa using hx))
theorem z8B {h w:Nat} {bs:List (Nat×List Tx)} (R:RuQ h w bs) {k:Nat} (hk:k < bs.length):z0U [.pure (ruD h w bs),.pure (.int k)]=some (.pure (ruD h w (stl bs k)),[.pure (ruD h w bs),.pure (.int k)]):=by
 have hb:bs[k]? = some bs[k]:=by simp [hk]
 obtain ⟨b1,b2⟩:=R.blk bs[k] (QT hk)
 have es:stl bs k=bs.take k ++ stB bs[k] :: bs.drop (k + 1):=by unfold stl; rw [hb]
 rw [es]
 have n1:=R.n1
 have h0:=R.h0
 have w0:=R.w0
 have w1:=R.w1
 have h1:=R.h1
 generalize bs[k]=b at *
 obtain ⟨tl,bl⟩:=b
 simp only at b1 b2
 cases bl with
 | nil=>simp at b1; omega
 | cons r q =>
  have hr:=b2 r Wo
  have x1:pIx (.tup (bs.map blD)) (.int (k:Int))=some (.pure (.tup [.str [tl],flD (r :: q)])):=by
   simp [pIx,z1t,hb]
  have x2:pIx (flD (r :: q)) (.int 0)=some (.pure (.str r)):=by simp [pIx,z1s]
  have s1:=zbF r (by omega)
  have a1:pAdd (.str [tl]) (.str r.tail)=some (.pure (.str (tl :: r.tail))):=by rw [add_str _ _ (by simp; omega)]; rfl
  have s2:pSl (some 1) none (flD (r :: q))=some (.pure (flD q)):=by rw [zbE]; rfl
  have a2:pAdd (.tup [.str (tl :: r.tail)]) (flD q)=some (.pure (flD ((tl :: r.tail) :: q))):=by rw [z7c _ _ (by simp at b1 ⊢; omega)]; rfl
  have s3:pSl none (some (k:Int)) (.tup (bs.map blD))=some (.pure (.tup ((bs.take k).map blD))):=by rw [sl_tup,zdV _ _ (by simp; omega),← List.map_take]
  have s4:pSl (some ((k:Int) + 1)) none (.tup (bs.map blD))=some (.pure (.tup ((bs.drop (k + 1)).map blD))):=by rw [sl_tup,show ((k:Int) + 1)=((k + 1:Nat):Int) by omega,zdW _ _ (by simp; omega),← List.map_drop]
  have a3:pAdd (.tup ((bs.take k).map blD)) (.tup [.tup [.str [tl],flD ((tl :: r.tail) :: q)]])=some (.pure (.tup ((bs.take k).map blD ++ [.tup [.str [tl],flD ((tl :: r.tail) :: q)]]))):=z7c _ _ (by simp; omega)
  have a4:pAdd (.tup ((bs.take k).map blD ++ [.tup [.str [tl],flD ((tl :: r.tail) :: q)]])) (.tup ((bs.drop (k + 1)).map blD))=some (.pure (.tup ((bs.take k ++ stB (tl,r :: q) :: bs.drop (k + 1)).map blD))):=by
   rw [z7c _ _ (by simp; omega)]
   simp [stB]
  rw [z0U,z1N,z28]
  generalize hbl:D.tup (bs.map blD)=bl at *
  generalize hnb:D.tup ((bs.take k ++ stB (tl,r :: q) :: bs.drop (k + 1)).map blD)=nb at *
  generalize D.tup ((bs.take k).map blD ++ [.tup [.str [tl],flD ((tl :: r.tail) :: q)]])=nc at *
  generalize D.tup ((bs.take k).map blD)=nd at *
  generalize D.tup ((bs.drop (k + 1)).map blD)=ne at *
  generalize flD ((tl :: r.tail) :: q)=f1 at *
  generalize flD (r :: q)=f2 at *
  generalize flD q=f3 at *
  simp [ioOk,z0h,dAsg,eVar,gTp,z03,z0y,eOpF,eOpN,bVar,hbl,hnb,x1,x2,z47,eSlN,s1,s2,s3,s4,a1,a2,a3,a4,add_int,z0M,z0e]
  rw [← hnb]
  simp [List.map_take,List.map_drop]
abbrev dsL (ps:List (Nat×Nat)):List (DKey×D):=ps.map fun p=>((Sum.inr [p.1]:DKey),D.str [p.2])
abbrev dsD (ps:List (Nat×Nat)):D:=.dct (dsL ps)
def lkP (ps:List (Nat×Nat)) (a:Nat):Option Nat:=(ps.find? fun p=>decide (p.1=a)).map (·.2)
def putP (ps:List (Nat×Nat)) (a b:Nat):List (Nat×Nat):=if (ps.any fun p=>decide (p.1=a))=true then ps.map (fun p=>if p.1=a then (p.1,b) else p) else ps ++ [(a,b)]
theorem zdT (ps:List (Nat×Nat)) (a b:Nat):putD (dsL ps) (.inr [a]) (.str [b])=dsL (putP ps a b):=by
 have hk:∀ p:Nat×Nat,((Sum.inr [p.1]:DKey) = .inr [a]) ↔ p.1=a:=fun p=>by simp
 have ha:((dsL ps).any fun kv=>decide (kv.1 = .inr [a]))=(ps.any fun p=>decide (p.1=a)):=by
  simp only [dsL,List.any_map]
  congr 1
  funext p
  simp
 unfold putD putP
 rw [ha]
 split
 ·simp only [dsL,Q3]
  congr 1
  funext p
  simp only [Function.comp,hk p]
  split <;> rfl
 ·simp [dsL]
theorem zdS (ps:List (Nat×Nat)) (a:Nat):valD (dsL ps) (.inr [a])=(lkP ps a).map fun v=>D.str [v]:=by
 unfold valD lkP dsL
 induction ps with
 | nil=>rfl
 | cons p r ih =>
  simp only [Wq,WY]
  by_cases h:p.1=a
  ·simp [h]
  ·have:decide ((Sum.inr [p.1]:DKey) = .inr [a])=false:=by simp [h]
   simp only [this,decide_eq_false h]
   exact ih
theorem z43 {ps:List (Nat×Nat)} {a v:Nat} (h:lkP ps a=some v):pIxX (dsD ps) (.str [a])=some (.pure (.str [v])):=by
 show ((keyD (.str [a])).bind fun k=>(valD (dsL ps) k).map S.pure)=_
 simp only [keyD,WD,zdS,h,WI]
theorem z7s (ps:List (Nat×Nat)) (a b c:Nat):lkP (putP ps a b) c=if c=a then some b else lkP ps c:=by
 unfold putP
 by_cases h:(ps.any fun p=>decide (p.1=a))=true
 ·rw [if_pos h]
  unfold lkP
  induction ps with
  | nil=>simp at h
  | cons p r ih =>
   simp only [Wq,WY]
   by_cases hp:p.1=a
   ·simp only [hp,if_true]
    by_cases hc:c=a
    ·simp [hc]
    ·have hc':decide (a=c)=false:=by simp; omega
     simp only [hc',if_neg hc]
     by_cases hr:(r.any fun p=>decide (p.1=a))=true
     ·have:=ih hr
      rw [if_neg hc] at this
      exact this
     ·have hm:(r.map fun p=>if p.1=a then (p.1,b) else p)=r:=by
       conv=>rhs; rw [← List.map_id r]
       refine List.map_congr_left fun q hq=>?_
       have:¬ q.1=a:=fun z=>hr (List.any_eq_true.mpr ⟨q,hq,by simp [z]⟩)
       simp [this]
      rw [hm]
   ·simp only [if_neg hp]
    have hr:(r.any fun p=>decide (p.1=a))=true:=by
     rw [Qi] at h
     simpa [hp] using h
    by_cases hc:p.1=c
    ·have:¬ c=a:=fun z=>hp (hc.trans z)
     simp [hc,this]
    ·simp only [decide_eq_false hc]
     exact ih hr
 ·rw [if_neg h]
  unfold lkP
  rw [List.find?_append]
  by_cases hc:c=a
  ·subst hc
   have:ps.find? (fun p=>decide (p.1=c))=none:=by
    rw [List.find?_eq_none]
    intro p hp z
    exact h (List.any_eq_true.mpr ⟨p,hp,z⟩)
   simp [this]
  ·have hc':¬ a=c:=fun z=>hc z.symm
   simp [hc,hc']
theorem z74 (ps:List (Nat×Nat)) (a b:Nat):(putP ps a b).length≤ps.length + 1:=by
 unfold putP
 split <;> simp
theorem z8q {fi fe:DE} {i:Nat} {δ δ1 δ2:Dl} {ps:List (Nat×Nat)} {a b:Nat} (h0:∃ qs,δ[i]? = some (some (.own (dsD qs)))) (e1:fe δ = .ok (.pure (.str [b])) δ1) (h1:∃ qs,δ1[i]? = some (some (.own (dsD qs)))) (e2:fi δ1 = .ok (.pure (.str [a])) δ2) (h2:δ2[i]? = some (some (.own (dsD ps)))) (hl:ps.length≤1000) :
  z2l i fi fe δ = .ok .next (δ2.set i (some (.own (dsD (putP ps a b))))):=by
 obtain ⟨q0,h0⟩:=h0
 obtain ⟨q1,h1⟩:=h1
 have hz:(dsL ps).length < W6:=by rw [z0N]; simp; omega
 unfold z2l
 simp only [z6t,h0,if_true,e1,z0o,h1,e2,h2,keyD,z5P,hz,zdT]
theorem zcn {GD:DF} (hD:∀ (d:D) (m:Nat),Pen d→0 < m→m < 1073741824→∃ (r:Nat) (d':D),GD [.own d,.pure (.int m)]=some (.pure (.int r),[.own d',.pure (.int m)])∧r < m∧Pen d') {d:D} (hp:Pen d):∃ (r:Nat) (d':D),GD [.own d,.pure (.int 2)]=some (.pure (.int r),[.own d',.pure (.int 2)])∧(r=0∨r=1)∧Pen d':=by
 obtain ⟨r,d',e,l,p⟩:∃ (r:Nat) (d':D),GD [.own d,.pure (.int 2)]=some (.pure (.int r),[.own d',.pure (.int 2)])∧r < 2∧Pen d':=hD d 2 hp (by decide) (by decide)
 exact ⟨r,d',e,by omega,p⟩
section
variable {GD:DF} (hD:∀ (d:D) (m:Nat),Pen d→0 < m→m < 1073741824→∃ (r:Nat) (d':D),GD [.own d,.pure (.int m)]=some (.pure (.int r),[.own d',.pure (.int m)])∧r < m∧Pen d') {ru:D} {ts lf:List Nat} {ps:List (Nat×Nat)} {al:Nat→Prop}
include hD
theorem zcL (hal:∀ n ∈ ts,al n∧∃ v,lkP ps n=some v∧al v) {pd:D} (hp:Pen pd) (row:Tx) (hr:∀ n ∈ row,n ∈ ts) (hl:row.length≤64) (o6:Option S) (bl:List D) (o8 o9 o10 o11 o12:Option S) :
  ∃ (x:Tx) (pd':D),z1u [14] (gNm [1] 14) dYes (eOp pIx (eLst (z00 (eVar 14) (z00 (eOpF pIxX 5 (bVar 14)) aNil))) (bOf (z05 GD [.io 1,.val (eD (.int 2))]))) (row.map fun n=>.str [n]) [some (.pure ru),some (.own pd),some (.pure (.str lettersT)),some (.own (tD ts)),some (.own (tD lf)),some (.own (dsD ps)),o6,some (.own (.lst bl)),o8,o9,o10,o11,o12,none,none] [] = .ok (x.map fun n=>.str [n]) [some (.pure ru),some (.own pd'),some (.pure (.str lettersT)),some (.own (tD ts)),some (.own (tD lf)),some (.own (dsD ps)),o6,some (.own (.lst bl)),o8,o9,o10,o11,o12,none,none]∧x.length=row.length∧(∀ n ∈ x,al n)∧Pen pd':=by
 obtain ⟨xs,δ',e,⟨pd',hpd',rfl⟩,hn,hf⟩:=z3x (cs:=[14]) (g:=gNm [1] 14) (t:=dYes) (el:=(eOp pIx (eLst (z00 (eVar 14) (z00 (eOpF pIxX 5 (bVar 14)) aNil))) (bOf (z05 GD [.io 1,.val (eD (.int 2))])))) (fun δ=>∃ pd,Pen pd∧δ=[some (.pure ru),some (.own pd),some (.pure (.str lettersT)),some (.own (tD ts)),some (.own (tD lf)),some (.own (dsD ps)),o6,some (.own (.lst bl)),o8,o9,o10,o11,o12,none,none])
  (fun _ x=>∃ n,al n∧x = .str [n]) (row.map fun n=>.str [n]) _ [] ⟨pd,hp,rfl⟩ (by rw [z0N]; simp; omega) (fun d hd δ ⟨pd,hpd,e⟩=>by
   subst e
   obtain ⟨n,hn,rfl⟩:=J4.mp hd
   obtain ⟨a1,v,a2,a3⟩:=hal n (hr n hn)
   have x5:=z43 a2
   obtain ⟨r,d',e,hr',p⟩:=zcn hD hpd
   refine ⟨_,_,.pure (.str [if r=0 then n else v]),[some (.pure ru),some (.own d'),some (.pure (.str lettersT)),some (.own (tD ts)),some (.own (tD lf)),some (.own (dsD ps)),o6,some (.own (.lst bl)),o8,o9,o10,o11,o12,none,some (.pure (.str [n]))],rfl,rfl,?_,⟨d',p,rfl⟩,⟨_,?_,rfl⟩⟩
   ·generalize dsD ps=dd at *
    generalize tD ts=td at *
    generalize tD lf=tl at *
    rcases hr' with rfl | rfl
    ·simp [eVar,eOpF,eOpN,bVar,x5,z05,ios,ndup,z0p,evX,mkA,e,putA,pIx,z1s]
    ·simp [eVar,eOpF,eOpN,bVar,x5,z05,ios,ndup,z0p,evX,mkA,e,putA,pIx,z5U]
   ·rcases hr' with rfl | rfl
    ·exact a1
    ·exact a3)
 obtain ⟨x,rfl,hx⟩:=z6P (P:=al) (z8y hn hf fun d x _ h=>h)
 exact ⟨x,pd',by simpa using e,by simpa using hn,hx,hpd'⟩
theorem zbH (hal:∀ n ∈ ts,al n∧∃ v,lkP ps n=some v∧al v) {pd:D} (hp:Pen pd) (fl:List Tx) (w:Nat) (hw:w≤64) (hfl:fl.length≤64) (hf:∀ r ∈ fl,r.length=w∧∀ n ∈ r,n ∈ ts) (o6:Option S) (bl:List D) (o8 o9 o10 o12:Option S) :
  ∃ (gl:List Tx) (pd':D) (o12':Option S),forL (gNm [1] 12) (z0s 11 (eC1 (z2h []) (bOf (z0r [14] (iSq (eVar 12)) (gNm [1] 14) dYes (eOp pIx (eLst (z00 (eVar 14) (z00 (eOpF pIxX 5 (bVar 14)) aNil))) (bOf (z05 GD [.io 1,.val (eD (.int 2))]))))))) (fl.map .str) [some (.pure ru),some (.own pd),some (.pure (.str lettersT)),some (.own (tD ts)),some (.own (tD lf)),some (.own (dsD ps)),o6,some (.own (.lst bl)),o8,o9,o10,some (.own (.lst [])),o12,none,none] = .ok .next [some (.pure ru),some (.own pd'),some (.pure (.str lettersT)),some (.own (tD ts)),some (.own (tD lf)),some (.own (dsD ps)),o6,some (.own (.lst bl)),o8,o9,o10,some (.own (.lst (gl.map .str))),o12',none,none]∧gl.length=fl.length∧(∀ r ∈ gl,r.length=w∧∀ n ∈ r,al n)∧Pen pd':=by
 obtain ⟨δ',e,gl,pd',o12',hg,hall,hpd',rfl⟩:=z1b (g:=gNm [1] 12) (b:=(z0s 11 (eC1 (z2h []) (bOf (z0r [14] (iSq (eVar 12)) (gNm [1] 14) dYes (eOp pIx (eLst (z00 (eVar 14) (z00 (eOpF pIxX 5 (bVar 14)) aNil))) (bOf (z05 GD [.io 1,.val (eD (.int 2))])))))))) (fun k δ=>∃ (gl:List Tx) (pd:D) (o12:Option S),gl.length=k∧(∀ r ∈ gl,r.length=w∧∀ n ∈ r,al n)∧Pen pd∧δ=[some (.pure ru),some (.own pd),some (.pure (.str lettersT)),some (.own (tD ts)),some (.own (tD lf)),some (.own (dsD ps)),o6,some (.own (.lst bl)),o8,o9,o10,some (.own (.lst (gl.map .str))),o12,none,none]) (fl.map .str) 0 [some (.pure ru),some (.own pd),some (.pure (.str lettersT)),some (.own (tD ts)),some (.own (tD lf)),some (.own (dsD ps)),o6,some (.own (.lst bl)),o8,o9,o10,some (.own (.lst [])),o12,none,none] ⟨[],pd,o12,rfl,by simp,hp,rfl⟩ (fun i d δ hd ⟨gl,pd,o12,hg,hall,hpd,e⟩=>by
  subst e
  rw [Wz,Qb] at hd
  obtain ⟨row,hrow,rfl⟩:=hd
  have hi:=(W3.mp hrow).1
  have hr:=hf row (Wv hrow)
  obtain ⟨x,pd',e,hx,hxa,hpd'⟩:=zcL (ru:=ru) (lf:=lf) hD hal hpd row hr.2 (by omega) o6 bl o8 o9 o10 (some (.own (.lst (gl.map .str)))) (some (.pure (.str row)))
  have hz:(gl.map D.str).length < W6:=by rw [z0N]; simp; omega
  have ej:=z4i x (by omega)
  refine ⟨_,[some (.pure ru),some (.own pd'),some (.pure (.str lettersT)),some (.own (tD ts)),some (.own (tD lf)),some (.own (dsD ps)),o6,some (.own (.lst bl)),o8,o9,o10,some (.own (.lst ((gl ++ [x]).map .str))),some (.pure (.str row)),none,none],rfl,?_,⟨gl ++ [x],pd',_,by simp [hg],?_,hpd',rfl⟩⟩
  ·rw [List.map_append,List.map_singleton]
   generalize gl.map D.str=gd at e hz ⊢
   generalize dsD ps=dd at e ⊢
   generalize tD ts=td at e ⊢
   generalize tD lf=tl at e ⊢
   simp [z0s,z2j,z2C,eVar,z0p,clrD]
   rw [e]
   simp [ej,z1e,putL,hz]
  ·intro r hr'
   rcases Qj.mp hr' with hr' | hr'
   ·exact hall r hr'
   ·simp at hr'; subst hr'; exact ⟨by omega,hxa⟩)
 exact ⟨gl,pd',o12',e,by simpa using hg,hall,hpd'⟩
theorem zb0 (hal:∀ n ∈ ts,al n∧∃ v,lkP ps n=some v∧al v) {pd:D} (hp:Pen pd) (fl:List Tx) (w:Nat) (hw:w≤64) (hfl:fl.length≤64) (hf:∀ r ∈ fl,r.length=w∧∀ n ∈ r,n ∈ ts) (t:Nat) (o6:Option S) (bl:List D) (hbl:bl.length≤1000) (o8:Option S) (o10 o12:Option S) (o11:Option S) :
  ∃ (gl:List Tx) (pd':D) (o12' o11':Option S),(dSeq (dAsg (eLst aNil) (gNm [1] 11)) (dSeq (dFor (iSq (eVar 9)) (gNm [1] 12) (z0s 11 (eC1 (z2h []) (bOf (z0r [14] (iSq (eVar 12)) (gNm [1] 14) dYes (eOp pIx (eLst (z00 (eVar 14) (z00 (eOpF pIxX 5 (bVar 14)) aNil))) (bOf (z05 GD [.io 1,.val (eD (.int 2))])))))))) (z0s 7 (eTup (z00 (eVar 10) (z00 (eC1 z0m (bVar 11)) aNil)))))) [some (.pure ru),some (.own pd),some (.pure (.str lettersT)),some (.own (tD ts)),some (.own (tD lf)),some (.own (dsD ps)),o6,some (.own (.lst bl)),o8,some (.pure (flD fl)),some (.pure (.str [t])),o11,o12,none,none] = .ok .next [some (.pure ru),some (.own pd'),some (.pure (.str lettersT)),some (.own (tD ts)),some (.own (tD lf)),some (.own (dsD ps)),o6,some (.own (.lst (bl ++ [blD (t,gl)]))),o8,some (.pure (flD fl)),some (.pure (.str [t])),o11',o12',none,none]∧gl.length=fl.length∧(∀ r ∈ gl,r.length=w∧∀ n ∈ r,al n)∧Pen pd':=by
 obtain ⟨gl,pd',o12',e,h1,h2,h3⟩:=zbH (ru:=ru) (lf:=lf) hD hal hp fl w hw hfl hf o6 bl o8 (some (.pure (flD fl))) (some (.pure (.str [t]))) o12
 have hz:bl.length < W6:=by rw [z0N]; omega
 refine ⟨gl,pd',o12',some (.own (.lst (gl.map .str))),?_,h1,h2,h3⟩
 refine z0f (δ1:=[some (.pure ru),some (.own pd),some (.pure (.str lettersT)),some (.own (tD ts)),some (.own (tD lf)),some (.own (dsD ps)),o6,some (.own (.lst bl)),o8,some (.pure (flD fl)),some (.pure (.str [t])),some (.own (.lst [])),o12,none,none]) (by simp [dAsg]) ?_
 refine z0f (δ1:=[some (.pure ru),some (.own pd'),some (.pure (.str lettersT)),some (.own (tD ts)),some (.own (tD lf)),some (.own (dsD ps)),o6,some (.own (.lst bl)),o8,some (.pure (flD fl)),some (.pure (.str [t])),some (.own (.lst (gl.map .str))),o12',none,none]) (by
  rw [z2u]
  simp only [z2C,eVar,WR,WJ,z0o,z5P]
  exact e) ?_
 generalize hg:gl.map D.str=gd at *
 generalize dsD ps=dd at *
 generalize tD ts=td at *
 generalize tD lf=tl at *
 simp [z0s,z2j,eVar,bVar,z0m,putL,hz,hg]
end
theorem z9b:∀ bl:List (Nat×List Tx),z6p (bl.map blD)=some (bl.map fun b=>[b.1])
 | []=>rfl
 | b :: r=>by simp [z6p,z9b r]
theorem zb5:∀ {ks:List Tx},ks.Nodup→ndT ks=true
 | [],_=>rfl
 | x :: r,h=>by
  rw [List.nodup_cons] at h
  simp [ndT,h.1,zb5 h.2]
theorem zbB (bl:List (Nat×List Tx)) (nd:(bl.map (·.1)).Nodup) (h2:2≤bl.length) (h64:bl.length < 64):∃ bl':List (Nat×List Tx),bl'.Perm bl∧z3W (.lst (bl.map blD))=some (.own (.lst (bl'.map blD))):=by
 have nk:(bl.map fun b=>([b.1]:Tx)).Nodup:=by
  have e:(bl.map fun b=>([b.1]:Tx))=(bl.map (·.1)).map fun n=>[n]:=by simp
  rw [e]
  exact List.Pairwise.map _ (fun a b h z=>h (by simpa using z)) nd
 have hp:=z3j (ks:=bl.map fun b=>([b.1]:Tx)) (by simpa using h2)
 rw [Wy] at hp
 refine ⟨(ordK (bl.map fun b=>([b.1]:Tx))).map fun i=>bl.getD i (0,[]),?_,?_⟩
 ·refine (hp.map _).trans (List.Perm.of_eq ?_)
  apply List.ext_getElem
  ·simp
  ·intro i h1 h2
   simp at h1
   simp [h1]
 ·unfold z3W
  simp only [z9b]
  rw [if_pos ⟨by simpa using h2,by simpa using h64,zb5 nk⟩]
  congr 3
  rw [Q3]
  refine List.map_congr_left fun i hi=>?_
  have:=hp.mem_iff.mp hi
  simp at this
  simp [this]
def twF (ps:List (Nat×Nat)) (t:Nat):Nat:=(lkP ps t).getD 0
section
variable {GD:DF} (hD:∀ (d:D) (m:Nat),Pen d→0 < m→m < 1073741824→∃ (r:Nat) (d':D),GD [.own d,.pure (.int m)]=some (.pure (.int r),[.own d',.pure (.int m)])∧r < m∧Pen d') {ru:D} {ts lf:List Nat} {ps:List (Nat×Nat)} {al:Nat→Prop}
include hD
theorem z9N {h w:Nat} (h1:h≤64) (w1:w≤64) (bs:List (Nat×List Tx)) (hts:∀ b ∈ bs,b.1 ∈ ts) (hn:bs.length≤100) (hb:∀ b ∈ bs,b.2.length=h∧∀ r ∈ b.2,r.length=w∧∀ n ∈ r,n ∈ ts)
  (hal:∀ n ∈ ts,al n∧∃ v,lkP ps n=some v∧al v) {pd:D} (hp:Pen pd) (o6:Option S) :
  ∃ (bl:List (Nat×List Tx)) (pd':D) (o8 o9 o10 o11 o12:Option S),forL (gTp 2 (z03 (gNm [1] 8) (z03 (gNm [1] 9) z0y))) (dFor (iSq (eLst (z00 (eVar 8) (z00 (eOpF pIxX 5 (bVar 8)) aNil)))) (gNm [1] 10) (dSeq (dAsg (eLst aNil) (gNm [1] 11)) (dSeq (dFor (iSq (eVar 9)) (gNm [1] 12) (z0s 11 (eC1 (z2h []) (bOf (z0r [14] (iSq (eVar 12)) (gNm [1] 14) dYes (eOp pIx (eLst (z00 (eVar 14) (z00 (eOpF pIxX 5 (bVar 14)) aNil))) (bOf (z05 GD [.io 1,.val (eD (.int 2))])))))))) (z0s 7 (eTup (z00 (eVar 10) (z00 (eC1 z0m (bVar 11)) aNil))))))) (bs.map blD) [some (.pure ru),some (.own pd),some (.pure (.str lettersT)),some (.own (tD ts)),some (.own (tD lf)),some (.own (dsD ps)),o6,some (.own (.lst [])),none,none,none,none,none,none,none] = .ok .next [some (.pure ru),some (.own pd'),some (.pure (.str lettersT)),some (.own (tD ts)),some (.own (tD lf)),some (.own (dsD ps)),o6,some (.own (.lst (bl.map blD))),o8,o9,o10,o11,o12,none,none] ∧
   bl.map (·.1)=(bs.map (·.1)).flatMap (fun t=>[t,twF ps t])∧(∀ b ∈ bl,b.2.length=h∧∀ r ∈ b.2,r.length=w∧∀ n ∈ r,al n)∧Pen pd':=by
 obtain ⟨δ',e,bl,pd',o8,o9,o10,o11,o12,q1,q2,q3,q4,rfl⟩:=z1b (g:=(gTp 2 (z03 (gNm [1] 8) (z03 (gNm [1] 9) z0y)))) (b:=(dFor (iSq (eLst (z00 (eVar 8) (z00 (eOpF pIxX 5 (bVar 8)) aNil)))) (gNm [1] 10) (dSeq (dAsg (eLst aNil) (gNm [1] 11)) (dSeq (dFor (iSq (eVar 9)) (gNm [1] 12) (z0s 11 (eC1 (z2h []) (bOf (z0r [14] (iSq (eVar 12)) (gNm [1] 14) dYes (eOp pIx (eLst (z00 (eVar 14) (z00 (eOpF pIxX 5 (bVar 14)) aNil))) (bOf (z05 GD [.io 1,.val (eD (.int 2))])))))))) (z0s 7 (eTup (z00 (eVar 10) (z00 (eC1 z0m (bVar 11)) aNil))))))))
  (fun k δ=>∃ (bl:List (Nat×List Tx)) (pd:D) (o8 o9 o10 o11 o12:Option S),bl.map (·.1)=((bs.take k).map (·.1)).flatMap (fun t=>[t,twF ps t])∧(∀ b ∈ bl,b.2.length=h∧∀ r ∈ b.2,r.length=w∧∀ n ∈ r,al n)∧Pen pd∧bl.length=2 * k∧δ=[some (.pure ru),some (.own pd),some (.pure (.str lettersT)),some (.own (tD ts)),some (.own (tD lf)),some (.own (dsD ps)),o6,some (.own (.lst (bl.map blD))),o8,o9,o10,o11,o12,none,none])
  (bs.map blD) 0 [some (.pure ru),some (.own pd),some (.pure (.str lettersT)),some (.own (tD ts)),some (.own (tD lf)),some (.own (dsD ps)),o6,some (.own (.lst [])),none,none,none,none,none,none,none] ⟨[],pd,none,none,none,none,none,rfl,by simp,hp,rfl,rfl⟩ (fun i d δ hd ⟨bl,pd,o8,o9,o10,o11,o12,q1,q2,q3,q4,e⟩=>by
   subst e
   rw [Wz,Qb] at hd
   obtain ⟨b,hbi,rfl⟩:=hd
   rw [WQ] at q1 q4 ⊢
   have hi:=(W3.mp hbi).1
   have hm:=Wv hbi
   obtain ⟨hb1,hb2⟩:=hb b hm
   obtain ⟨_,v,hv,_⟩:=hal b.1 (hts b hm)
   have x5:=z43 hv
   have hbl:bl.length≤200:=by omega
   obtain ⟨g1,pd1,p12,p11,e1,a1,a2,a3⟩:=zb0 (ru:=ru) (lf:=lf) hD hal q3 b.2 w w1 (by omega) hb2 b.1 o6 (bl.map blD) (by simp; omega) (some (.pure (.str [b.1]))) o10 o12 o11
   obtain ⟨g2,pd2,r12,r11,e2,c1,c2,c3⟩:=zb0 (ru:=ru) (lf:=lf) hD hal a3 b.2 w w1 (by omega) hb2 v o6 (bl.map blD ++ [blD (b.1,g1)]) (by simp; omega) (some (.pure (.str [b.1]))) (some (.pure (.str [b.1]))) p12 p11
   refine ⟨[some (.pure ru),some (.own pd),some (.pure (.str lettersT)),some (.own (tD ts)),some (.own (tD lf)),some (.own (dsD ps)),o6,some (.own (.lst (bl.map blD))),some (.pure (.str [b.1])),some (.pure (flD b.2)),o10,o11,o12,none,none],[some (.pure ru),some (.own pd2),some (.pure (.str lettersT)),some (.own (tD ts)),some (.own (tD lf)),some (.own (dsD ps)),o6,some (.own (.lst ((bl ++ [(b.1,g1),(v,g2)]).map blD))),some (.pure (.str [b.1])),some (.pure (flD b.2)),some (.pure (.str [v])),r11,r12,none,none],rfl,?_,⟨bl ++ [(b.1,g1),(v,g2)],pd2,_,_,_,_,_,?_,?_,c3,by simp; omega,rfl⟩⟩
   ·have eE:(bl ++ [(b.1,g1),(v,g2)]).map blD=bl.map blD ++ [blD (b.1,g1)] ++ [blD (v,g2)]:=by simp
    rw [eE]
    rw [z2u]
    have hit:iSq (eLst (z00 (eVar 8) (z00 (eOpF pIxX 5 (bVar 8)) aNil))) [some (.pure ru),some (.own pd),some (.pure (.str lettersT)),some (.own (tD ts)),some (.own (tD lf)),some (.own (dsD ps)),o6,some (.own (.lst (bl.map blD))),some (.pure (.str [b.1])),some (.pure (flD b.2)),o10,o11,o12,none,none] = .ok [.str [b.1],.str [v]] [some (.pure ru),some (.own pd),some (.pure (.str lettersT)),some (.own (tD ts)),some (.own (tD lf)),some (.own (dsD ps)),o6,some (.own (.lst (bl.map blD))),some (.pure (.str [b.1])),some (.pure (flD b.2)),o10,o11,o12,none,none]:=by
     generalize dsD ps=dd at x5 ⊢
     generalize tD ts=td
     generalize tD lf=tl
     simp [z2C,eVar,eOpF,eOpN,bVar,x5]
    rw [hit]
    simp only [z0o]
    conv=>lhs; unfold forL
    have eg1:gNm [1] 10 (.pure (.str [b.1])) [some (.pure ru),some (.own pd),some (.pure (.str lettersT)),some (.own (tD ts)),some (.own (tD lf)),some (.own (dsD ps)),o6,some (.own (.lst (bl.map blD))),some (.pure (.str [b.1])),some (.pure (flD b.2)),o10,o11,o12,none,none]=some [some (.pure ru),some (.own pd),some (.pure (.str lettersT)),some (.own (tD ts)),some (.own (tD lf)),some (.own (dsD ps)),o6,some (.own (.lst (bl.map blD))),some (.pure (.str [b.1])),some (.pure (flD b.2)),some (.pure (.str [b.1])),o11,o12,none,none]:=rfl
    rw [eg1]
    simp only [e1,z0o]
    conv=>lhs; unfold forL
    have eg2:gNm [1] 10 (.pure (.str [v])) [some (.pure ru),some (.own pd1),some (.pure (.str lettersT)),some (.own (tD ts)),some (.own (tD lf)),some (.own (dsD ps)),o6,some (.own (.lst (bl.map blD ++ [blD (b.1,g1)]))),some (.pure (.str [b.1])),some (.pure (flD b.2)),some (.pure (.str [b.1])),p11,p12,none,none]=some [some (.pure ru),some (.own pd1),some (.pure (.str lettersT)),some (.own (tD ts)),some (.own (tD lf)),some (.own (dsD ps)),o6,some (.own (.lst (bl.map blD ++ [blD (b.1,g1)]))),some (.pure (.str [b.1])),some (.pure (flD b.2)),some (.pure (.str [v])),p11,p12,none,none]:=rfl
    rw [eg2]
    simp only [e2,z0o]
    rfl
   ·rw [Qr,hbi]
    simp [q1,twF,hv]
   ·intro c hc
    rcases Qj.mp hc with hc | hc
    ·exact q2 c hc
    ·simp at hc
     rcases hc with rfl | rfl
     ·exact ⟨by simp [a1,hb1],a2⟩
     ·exact ⟨by simp [c1,hb1],c2⟩)
 rw [WQ,Wy,List.take_length] at q1
 exact ⟨bl,pd',o8,o9,o10,o11,o12,e,q1,q2,q3⟩
end
theorem twins (ru pd:D) (ts lf:List Nat) (nd:ts.Nodup) (hn:ts.length≤100) (hl:ts.length≤lf.length):∃ (ps:List (Nat×Nat)) (o6:Option S),forL (gNm [1] 6) (z2l 5 (eOpF pIx 3 (bVar 6)) (eOpF pIx 4 (bVar 6))) (z0A 0 ts.length) [some (.pure ru),some (.own pd),some (.pure (.str lettersT)),some (.own (tD ts)),some (.own (tD lf)),some (.own (dsD [])),none,none,none,none,none,none,none,none,none] = .ok .next [some (.pure ru),some (.own pd),some (.pure (.str lettersT)),some (.own (tD ts)),some (.own (tD lf)),some (.own (dsD ps)),o6,none,none,none,none,none,none,none,none]∧∀ j,j < ts.length→lkP ps (ts.getD j 0)=some (lf.getD j 0):=by
 obtain ⟨δ',e,ps,o6,q1,q2,rfl⟩:=z1b (g:=gNm [1] 6) (b:=(z2l 5 (eOpF pIx 3 (bVar 6)) (eOpF pIx 4 (bVar 6)))) (fun k δ=>∃ (ps:List (Nat×Nat)) (o6:Option S),ps.length≤k∧(∀ j,j < k→lkP ps (ts.getD j 0)=some (lf.getD j 0))∧δ=[some (.pure ru),some (.own pd),some (.pure (.str lettersT)),some (.own (tD ts)),some (.own (tD lf)),some (.own (dsD ps)),o6,none,none,none,none,none,none,none,none]) (z0A 0 ts.length) 0 [some (.pure ru),some (.own pd),some (.pure (.str lettersT)),some (.own (tD ts)),some (.own (tD lf)),some (.own (dsD [])),none,none,none,none,none,none,none,none,none] ⟨[],none,by simp,fun j hj=>absurd hj (Nat.not_lt_zero _),rfl⟩ (fun i d δ hd ⟨ps,o6,q1,q2,e⟩=>by
  subst e
  obtain ⟨hi,rfl⟩:=z19 hd
  rw [WQ] at q1 q2 ⊢
  have x3:=zca ts i hi
  have x4:=zca lf i (by omega)
  refine ⟨_,[some (.pure ru),some (.own pd),some (.pure (.str lettersT)),some (.own (tD ts)),some (.own (tD lf)),some (.own (dsD (putP ps (ts.getD i 0) (lf.getD i 0)))),some (.pure (.int i)),none,none,none,none,none,none,none,none],rfl,?_,⟨putP ps (ts.getD i 0) (lf.getD i 0),_,by have:=z74 ps (ts.getD i 0) (lf.getD i 0); omega,fun j hj=>?_,rfl⟩⟩
  ·refine (z8q (ps:=ps) (a:=ts.getD i 0) (b:=lf.getD i 0) (δ1:=[some (.pure ru),some (.own pd),some (.pure (.str lettersT)),some (.own (tD ts)),some (.own (tD lf)),some (.own (dsD ps)),some (.pure (.int i)),none,none,none,none,none,none,none,none]) (δ2:=[some (.pure ru),some (.own pd),some (.pure (.str lettersT)),some (.own (tD ts)),some (.own (tD lf)),some (.own (dsD ps)),some (.pure (.int i)),none,none,none,none,none,none,none,none]) ⟨ps,rfl⟩ ?_ ⟨ps,rfl⟩ ?_ rfl (by omega)).trans rfl
   ·generalize dsD ps=dd
    generalize tD ts=td at *
    generalize tD lf=tl at *
    simp only [zbe,eOpF,eOpN,bVar,z4O,Q5,QK,WR,WJ,z0o,z5P,z9t,z75,x4]
   ·generalize dsD ps=dd
    generalize tD ts=td at *
    generalize tD lf=tl at *
    simp only [eOpF,eOpN,bVar,z4O,Q5,QK,WR,WJ,z0o,z5P,z9t,z75,x3]
  ·rw [z7s]
   by_cases hji:j=i
   ·rw [hji,if_pos rfl]
   ·rw [if_neg ?_]
    ·exact q2 j (by omega)
    ·intro z
     have h1:ts.getD j 0=ts[j]'(by omega):=by simp [show j < ts.length by omega]
     have h2:ts.getD i 0=ts[i]'hi:=by simp [hi]
     rw [h1,h2] at z
     exact hji ((Jd nd).mp z))
 rw [WQ,z6z] at q2
 exact ⟨ps,o6,e,q2⟩
def lfT (ts:List Nat):List Nat:=lettersT.filter fun n=>!ts.contains n
theorem zb9:∀ (ts:List Nat) (l:List Nat),l.Nodup→l.length≤(l.filter fun n=>!ts.contains n).length + ts.length
 | [],l,_=>by rw [List.filter_eq_self.mpr (fun a _=>by simp)]; simp
 | t :: r,l,h=>by
  have ih:=zb9 r l h
  have e:(l.filter fun n=>!(t :: r).contains n)=(l.filter fun n=>!r.contains n).filter fun n=>n != t:=by
   rw [List.filter_filter]
   congr 1
   funext n
   rw [J3]
   cases h1:n == t <;> cases h2:r.contains n <;> simp_all
  have nd:(l.filter fun n=>!r.contains n).Nodup:=h.filter _
  rw [e,← nd.erase_eq_filter,List.length_erase,Qz]
  split <;> omega
theorem letters_nd:lettersT.Nodup:=by decide
theorem lf_nd (ts:List Nat):(lfT ts).Nodup:=letters_nd.filter _
theorem z9a {ts:List Nat} {n:Nat} (h:n ∈ lfT ts):n ∉ ts:=by
 unfold lfT at h
 rw [List.mem_filter] at h
 simpa using h.2
theorem z9z (f:Nat→Nat):∀ ts:List Nat,(ts.flatMap fun t=>[t,f t]).length=2 * ts.length
 | []=>rfl
 | t :: r=>by rw [List.flatMap_cons,Qd,z9z f r]; simp; omega
theorem z8H (GD:DF) (hD:∀ (d:D) (m:Nat),Pen d→0 < m→m < 1073741824→∃ (r:Nat) (d':D),GD [.own d,.pure (.int m)]=some (.pure (.int r),[.own d',.pure (.int m)])∧r < m∧Pen d') {h w:Nat} {bs:List (Nat×List Tx)} (R:RuQ h w bs) (hn:bs.length≤5) {pd:D} (hp:Pen pd):∃ (bs':List (Nat×List Tx)) (ps:List (Nat×Nat)) (pd':D),
  gOf [1] 15 (dSeq (dAsg (eD (.str [97,98,99,100,101,102,103,104,105,106,107,108,109,110,111,112,113,114,115,116,117,118,119,120,121,122])) (gNm [1] 2)) (dSeq (dAsg (z0r [13] (iSq (eOpF pIx 0 (bOf (eD (.int 2))))) (gNm [1] 13) dYes (eOpF pIx 13 (bOf (eD (.int 0))))) (gNm [1] 3)) (dSeq (dAsg (z0r [14] (iSq (eVar 2)) (gNm [1] 14) (dTr (eOp (pIn true) (eVar 14) (bVar 3))) (eVar 14)) (gNm [1] 4)) (dSeq (dAsg z3w (gNm [1] 5)) (dSeq (dFor (z0x (eC1 pLen (bVar 3))) (gNm [1] 6) (z2l 5 (eOpF pIx 3 (bVar 6)) (eOpF pIx 4 (bVar 6)))) (dSeq (dAsg (eLst aNil) (gNm [1] 7)) (dSeq (dFor (iSq (eOpF pIx 0 (bOf (eD (.int 2))))) (gTp 2 (z03 (gNm [1] 8) (z03 (gNm [1] 9) z0y))) (dFor (iSq (eLst (z00 (eVar 8) (z00 (eOpF pIxX 5 (bVar 8)) aNil)))) (gNm [1] 10) (dSeq (dAsg (eLst aNil) (gNm [1] 11)) (dSeq (dFor (iSq (eVar 9)) (gNm [1] 12) (z0s 11 (eC1 (z2h []) (bOf (z0r [14] (iSq (eVar 12)) (gNm [1] 14) dYes (eOp pIx (eLst (z00 (eVar 14) (z00 (eOpF pIxX 5 (bVar 14)) aNil))) (bOf (z05 GD [.io 1,.val (eD (.int 2))])))))))) (z0s 7 (eTup (z00 (eVar 10) (z00 (eC1 z0m (bVar 11)) aNil)))))))) (dRet (eTup (z00 (eTup (z00 (eOpF pIx 0 (bOf (eD (.int 0)))) (z00 (eOpF pIx 0 (bOf (eD (.int 1)))) (z00 (eC1 z0m (bOf (eC1 z3W (bVar 7)))) aNil)))) (z00 (eVar 5) aNil))))))))))) [.pure (ruD h w bs),.own pd]=some (.pure (.tup [ruD h w bs',dsD ps]),[.pure (ruD h w bs),.own pd'])∧RuQ h w bs'∧Pen pd' ∧
  (∀ t ∈ bs.map (·.1),t ∈ bs'.map (·.1)∧∃ v,lkP ps t=some v∧v ∈ bs'.map (·.1))∧(∀ t ∈ bs'.map (·.1),t ∈ bs.map (·.1)∨∃ u ∈ bs.map (·.1),lkP ps u=some t):=by
 obtain ⟨x0,x1,x2⟩:=z66 h w bs
 have h1:=R.h1
 have w1:=R.w1
 have n0:=R.n0
 generalize hts:bs.map (·.1)=ts
 have htl:ts.length=bs.length:=by rw [← hts]; simp
 have nd:ts.Nodup:=by rw [← hts]; exact R.nd
 have hlf:ts.length≤(lfT ts).length:=by
  have:=zb9 ts lettersT letters_nd
  have e:lettersT.length=26:=by decide
  unfold lfT
  omega
 obtain ⟨ps,o6,et,htw⟩:=twins (ruD h w bs) pd ts (lfT ts) nd (by omega) hlf
 have hv:∀ t ∈ ts,∃ j,j < ts.length∧t=ts.getD j 0∧lkP ps t=some ((lfT ts).getD j 0)∧(lfT ts).getD j 0 ∈ lfT ts:=fun t ht=>by
  obtain ⟨j,hj,e⟩:=List.getElem_of_mem ht
  have e':t=ts.getD j 0:=by simp [hj,e]
  refine ⟨j,hj,e',by rw [e']; exact htw j hj,?_⟩
  have:j < (lfT ts).length:=by omega
  simp [this]
 have hal:∀ n ∈ ts,(n ∈ ts∨n ∈ ts.map (twF ps))∧∃ v,lkP ps n=some v∧(v ∈ ts∨v ∈ ts.map (twF ps)):=fun n hn=>by
  obtain ⟨j,hj,e,l,m⟩:=hv n hn
  refine ⟨.inl hn,_,l,.inr (List.mem_map.mpr ⟨n,hn,?_⟩)⟩
  unfold twF
  rw [l]
  rfl
 obtain ⟨bl,pd',o8,o9,o10,o11,o12,eb,q1,q2,q3⟩:=z9N (ru:=ruD h w bs) (lf:=lfT ts) (al:=fun n=>n ∈ ts∨n ∈ ts.map (twF ps)) hD (h:=h) (w:=w) (by omega) (by omega) bs (fun b hb=>by rw [← hts]; exact WC hb) (by omega) (fun b hb=>by rw [← hts]; exact R.blk b hb) hal hp o6
 rw [hts] at q1
 have hlen:bl.length=2 * ts.length:=by
  have:=congrArg QM q1
  rw [Wy,z9z] at this
  exact this
 have hnd:(bl.map (·.1)).Nodup:=by
  rw [q1]
  refine List.pairwise_flatMap.mpr ⟨fun t ht=>?_,?_⟩
  ·obtain ⟨j,hj,e,l,m⟩:=hv t ht
   have:t≠twF ps t:=fun z=>by
    have et:twF ps t=(lfT ts).getD j 0:=by unfold twF; rw [l]; rfl
    rw [et] at z
    exact z9a m (by rw [← z]; exact ht)
   simp [this]
  ·refine nd.imp_of_mem fun {t u} ht hu hne=>?_
   obtain ⟨j,hj,e,l,m⟩:=hv t ht
   obtain ⟨k,hk,e',l',m'⟩:=hv u hu
   have et:twF ps t=(lfT ts).getD j 0:=by unfold twF; rw [l]; rfl
   have eu:twF ps u=(lfT ts).getD k 0:=by unfold twF; rw [l']; rfl
   intro x hx y hy
   simp at hx hy
   rcases hx with rfl | rfl <;> rcases hy with rfl | rfl
   ·exact hne
   ·rw [eu]; exact fun z=>z9a m' (by rw [← z]; exact ht)
   ·rw [et]; exact fun z=>z9a m (by rw [z]; exact hu)
   ·rw [et,eu]
    intro z
    have hjk:j≠k:=fun w=>hne (by rw [e,e',w])
    have z1:(lfT ts).getD j 0=(lfT ts)[j]'(by omega):=by simp [show j < (lfT ts).length by omega]
    have z2:(lfT ts).getD k 0=(lfT ts)[k]'(by omega):=by simp [show k < (lfT ts).length by omega]
    rw [z1,z2] at z
    exact hjk ((Jd (lf_nd ts)).mp z)
 obtain ⟨bs',hperm,es⟩:=zbB bl hnd (by omega) (by omega)
 have hmem:∀ n,n ∈ bs'.map (·.1) ↔ n ∈ ts∨n ∈ ts.map (twF ps):=fun n=>by
  rw [(hperm.map (·.1)).mem_iff,q1,List.mem_flatMap]
  constructor
  ·rintro ⟨t,ht,hx⟩
   simp at hx
   rcases hx with rfl | rfl
   ·exact .inl ht
   ·exact .inr (WC ht)
  ·rintro (hh | hh)
   ·exact ⟨n,hh,by simp⟩
   ·obtain ⟨t,ht,rfl⟩:=J4.mp hh
    exact ⟨t,ht,by simp⟩
 have hbl:=hperm.length_eq
 refine ⟨bs',ps,pd',?_,⟨R.h0,R.h1,R.w0,R.w1,by omega,by omega,(hperm.map (·.1)).nodup_iff.mpr hnd,fun b hb=>?_⟩,q3,fun t ht=>?_,fun t ht=>?_⟩
 ·have e3:=z1l (cs:=[13]) (g:=gNm [1] 13) (t:=dYes) (el:=(eOpF pIx 13 (bOf (eD (.int 0))))) blD (fun b:Nat×List Tx=>D.str [b.1]) [some (.pure (ruD h w bs)),some (.own pd),some (.pure (.str lettersT)),none,none,none,none,none,none,none,none,none,none,none,none] bs [] (by rw [z0N]; simp; omega) (fun b hb=>⟨_,_,.pure (.str [b.1]),[some (.pure (ruD h w bs)),some (.own pd),some (.pure (.str lettersT)),none,none,none,none,none,none,none,none,none,none,some (.pure (blD b)),none],rfl,rfl,by
   generalize ruD h w bs=ru at *
   simp [eOpF,eOpN,bVar,pIx,z1s],rfl,rfl⟩)
  have eT:(bs.map fun b:Nat×List Tx=>D.str [b.1])=ts.map fun n=>D.str [n]:=by rw [← hts]; simp
  rw [WZ,eT] at e3
  have e4:=z2O (cs:=[14]) (g:=gNm [1] 14) (t:=(dTr (eOp (pIn true) (eVar 14) (bVar 3)))) (el:=eVar 14) (fun n:Nat=>D.str [n]) (fun n:Nat=>D.str [n]) (fun n=>!ts.contains n) [some (.pure (ruD h w bs)),some (.own pd),some (.pure (.str lettersT)),some (.own (tD ts)),none,none,none,none,none,none,none,none,none,none,none] lettersT [] (by rw [z0N]; decide) (fun n _=>⟨_,[some (.pure (ruD h w bs)),some (.own pd),some (.pure (.str lettersT)),some (.own (tD ts)),none,none,none,none,none,none,none,none,none,none,some (.pure (.str [n]))],.pure (.str [n]),[some (.pure (ruD h w bs)),some (.own pd),some (.pure (.str lettersT)),some (.own (tD ts)),none,none,none,none,none,none,none,none,none,none,some (.pure (.str [n]))],rfl,by
   have hi:pIn true (.str [n]) (tD ts)=some (.pure (.bl (!ts.contains n))):=in_ts ts n
   generalize ruD h w bs=ru at *
   generalize tD ts=tl at *
   generalize lettersT=lt at *
   simp [dTr,eVar,bVar,hi],rfl,by simp [eVar],rfl,rfl⟩)
  rw [WZ] at e4
  have e4:z1u [14] (gNm [1] 14) (dTr (eOp (pIn true) (eVar 14) (bVar 3))) (eVar 14) (lettersT.map fun n=>D.str [n]) [some (.pure (ruD h w bs)),some (.own pd),some (.pure (.str lettersT)),some (.own (tD ts)),none,none,none,none,none,none,none,none,none,none,none] [] = .ok ((lfT ts).map fun n=>D.str [n]) [some (.pure (ruD h w bs)),some (.own pd),some (.pure (.str lettersT)),some (.own (tD ts)),none,none,none,none,none,none,none,none,none,none,none]:=e4
  have hlt:=zba ts
  rw [z1N]
  have es0:z0h 15 [S.pure (ruD h w bs),.own pd]=[some (.pure (ruD h w bs)),some (.own pd),none,none,none,none,none,none,none,none,none,none,none,none,none]:=rfl
  have run:(dSeq (dAsg (eD (.str [97,98,99,100,101,102,103,104,105,106,107,108,109,110,111,112,113,114,115,116,117,118,119,120,121,122])) (gNm [1] 2)) (dSeq (dAsg (z0r [13] (iSq (eOpF pIx 0 (bOf (eD (.int 2))))) (gNm [1] 13) dYes (eOpF pIx 13 (bOf (eD (.int 0))))) (gNm [1] 3)) (dSeq (dAsg (z0r [14] (iSq (eVar 2)) (gNm [1] 14) (dTr (eOp (pIn true) (eVar 14) (bVar 3))) (eVar 14)) (gNm [1] 4)) (dSeq (dAsg z3w (gNm [1] 5)) (dSeq (dFor (z0x (eC1 pLen (bVar 3))) (gNm [1] 6) (z2l 5 (eOpF pIx 3 (bVar 6)) (eOpF pIx 4 (bVar 6)))) (dSeq (dAsg (eLst aNil) (gNm [1] 7)) (dSeq (dFor (iSq (eOpF pIx 0 (bOf (eD (.int 2))))) (gTp 2 (z03 (gNm [1] 8) (z03 (gNm [1] 9) z0y))) (dFor (iSq (eLst (z00 (eVar 8) (z00 (eOpF pIxX 5 (bVar 8)) aNil)))) (gNm [1] 10) (dSeq (dAsg (eLst aNil) (gNm [1] 11)) (dSeq (dFor (iSq (eVar 9)) (gNm [1] 12) (z0s 11 (eC1 (z2h []) (bOf (z0r [14] (iSq (eVar 12)) (gNm [1] 14) dYes (eOp pIx (eLst (z00 (eVar 14) (z00 (eOpF pIxX 5 (bVar 14)) aNil))) (bOf (z05 GD [.io 1,.val (eD (.int 2))])))))))) (z0s 7 (eTup (z00 (eVar 10) (z00 (eC1 z0m (bVar 11)) aNil)))))))) (dRet (eTup (z00 (eTup (z00 (eOpF pIx 0 (bOf (eD (.int 0)))) (z00 (eOpF pIx 0 (bOf (eD (.int 1)))) (z00 (eC1 z0m (bOf (eC1 z3W (bVar 7)))) aNil)))) (z00 (eVar 5) aNil))))))))))) [some (.pure (ruD h w bs)),some (.own pd),none,none,none,none,none,none,none,none,none,none,none,none,none] = .ok (.ret (.pure (.tup [ruD h w bs',dsD ps]))) [some (.pure (ruD h w bs)),some (.own pd'),some (.pure (.str lettersT)),some (.own (tD ts)),some (.own (tD (lfT ts))),some (.pure (dsD ps)),o6,some (.own (.lst (bl.map blD))),o8,o9,o10,o11,o12,none,none]:=by
   refine z0f (δ1:=[some (.pure (ruD h w bs)),some (.own pd),some (.pure (.str lettersT)),none,none,none,none,none,none,none,none,none,none,none,none]) rfl ?_
   refine z0f (δ1:=[some (.pure (ruD h w bs)),some (.own pd),some (.pure (.str lettersT)),some (.own (tD ts)),none,none,none,none,none,none,none,none,none,none,none]) (by
    generalize hru:ruD h w bs=ru at *
    generalize lettersT=lt at *
    simp [dAsg,z2C,eOpF,eOpN,bVar,x2,z0p,clrD]
    rw [e3]
    simp [z1e,tD]) ?_
   refine z0f (δ1:=[some (.pure (ruD h w bs)),some (.own pd),some (.pure (.str lettersT)),some (.own (tD ts)),some (.own (tD (lfT ts))),none,none,none,none,none,none,none,none,none,none]) (by
    generalize hru:ruD h w bs=ru at *
    generalize htd:tD ts=td at *
    generalize lettersT=lt at *
    simp [dAsg,z2C,eVar,z0p,clrD]
    rw [e4]
    simp [z1e,tD]) ?_
   refine z0f (δ1:=[some (.pure (ruD h w bs)),some (.own pd),some (.pure (.str lettersT)),some (.own (tD ts)),some (.own (tD (lfT ts))),some (.own (dsD [])),none,none,none,none,none,none,none,none,none]) (by simp [dAsg,z3w]) ?_
   refine z0f (δ1:=[some (.pure (ruD h w bs)),some (.own pd),some (.pure (.str lettersT)),some (.own (tD ts)),some (.own (tD (lfT ts))),some (.own (dsD ps)),o6,none,none,none,none,none,none,none,none]) (by
    have hit:z0x (eC1 pLen (bVar 3)) [some (.pure (ruD h w bs)),some (.own pd),some (.pure (.str lettersT)),some (.own (tD ts)),some (.own (tD (lfT ts))),some (.own (dsD [])),none,none,none,none,none,none,none,none,none] = .ok (z0A 0 ts.length) [some (.pure (ruD h w bs)),some (.own pd),some (.pure (.str lettersT)),some (.own (tD ts)),some (.own (tD (lfT ts))),some (.own (dsD [])),none,none,none,none,none,none,none,none,none]:=by
     generalize hru:ruD h w bs=ru at *
     generalize tD ts=td at *
     generalize tD (lfT ts)=tl at *
     generalize lettersT=lt at *
     simp [bVar,hlt,z3V ts.length (by omega:ts.length≤1000000)]
    rw [z2u,hit]
    exact et) ?_
   refine z0f (δ1:=[some (.pure (ruD h w bs)),some (.own pd),some (.pure (.str lettersT)),some (.own (tD ts)),some (.own (tD (lfT ts))),some (.own (dsD ps)),o6,some (.own (.lst [])),none,none,none,none,none,none,none]) (by simp [dAsg]) ?_
   refine z0f (δ1:=[some (.pure (ruD h w bs)),some (.own pd'),some (.pure (.str lettersT)),some (.own (tD ts)),some (.own (tD (lfT ts))),some (.own (dsD ps)),o6,some (.own (.lst (bl.map blD))),o8,o9,o10,o11,o12,none,none]) (by
    have hit:iSq (eOpF pIx 0 (bOf (eD (.int 2)))) [some (.pure (ruD h w bs)),some (.own pd),some (.pure (.str lettersT)),some (.own (tD ts)),some (.own (tD (lfT ts))),some (.own (dsD ps)),o6,some (.own (.lst [])),none,none,none,none,none,none,none] = .ok (bs.map blD) [some (.pure (ruD h w bs)),some (.own pd),some (.pure (.str lettersT)),some (.own (tD ts)),some (.own (tD (lfT ts))),some (.own (dsD ps)),o6,some (.own (.lst [])),none,none,none,none,none,none,none]:=by
     generalize hru:ruD h w bs=ru at *
     generalize tD ts=td at *
     generalize tD (lfT ts)=tl at *
     generalize lettersT=lt at *
     generalize dsD ps=dd at *
     simp [z2C,eOpF,eOpN,bVar,x2]
    rw [z2u,hit]
    exact eb) ?_
   generalize hb2:bs'.map blD=bx at *
   generalize bl.map blD=by' at *
   generalize hru:ruD h w bs=ru at *
   generalize tD ts=td at *
   generalize tD (lfT ts)=tl at *
   generalize lettersT=lt at *
   generalize hds:dsD ps=dd at *
   simp [eOpF,eOpN,bVar,x0,x1,es,z0m,eVar,hb2]
  rw [es0,run]
  simp [ioOk,z0M,z0e]
 ·have:=q2 b (hperm.mem_iff.mp hb)
  exact ⟨this.1,fun r hr=>⟨(this.2 r hr).1,fun n hn=>(hmem n).mpr ((this.2 r hr).2 n hn)⟩⟩
 ·obtain ⟨_,v,l,m⟩:=hal t ht
  exact ⟨(hmem t).mpr (.inl ht),v,l,(hmem v).mpr m⟩
 ·rcases (hmem t).mp ht with hh | hh
  ·exact .inl hh
  ·obtain ⟨u,hu,rfl⟩:=J4.mp hh
   obtain ⟨j,hj,e,l,m⟩:=hv u hu
   exact .inr ⟨u,hu,by unfold twF; rw [l]; rfl⟩
theorem z8E {h w:Nat} {bs:List (Nat×List Tx)} (R:RuQ h w bs) (hn:bs.length≤5) {pd:D} (hp:Pen pd):∃ (bs':List (Nat×List Tx)) (ps:List (Nat×Nat)) (pd':D),
  z17 [.pure (ruD h w bs),.own pd]=some (.pure (.tup [ruD h w bs',dsD ps]),[.pure (ruD h w bs),.own pd'])∧RuQ h w bs'∧Pen pd' ∧
  (∀ t ∈ bs.map (·.1),t ∈ bs'.map (·.1)∧∃ v,lkP ps t=some v∧v ∈ bs'.map (·.1))∧(∀ t ∈ bs'.map (·.1),t ∈ bs.map (·.1)∨∃ u ∈ bs.map (·.1),lkP ps u=some t):=by
 rw [z17,z2b]
 exact z8H z0b (fun d m hp a b=>z5c hp m a b) R hn hp
abbrev paD (ps:List (Nat×Nat)):D:=.tup (ps.map fun p=>.tup [.str [p.1],.str [p.2]])
def Cov (ps:List (Nat×Nat)) (ts:List Nat):Prop:=∀ t ∈ ts,∃ v,lkP ps t=some v
theorem z9D {ps:List (Nat×Nat)} {ts:List Nat} (h:Cov ps ts) (a b:Nat):Cov (putP ps a b) ts:=fun t ht=>by
 rw [z7s]
 split
 ·exact ⟨_,rfl⟩
 ·exact h t ht
theorem zcq (ps:List (Nat×Nat)) (a b:Nat):∃ v,lkP (putP ps a b) a=some v:=⟨b,by rw [z7s,if_pos rfl]⟩
theorem xyz:∀ r:Nat,r < 3→∃ v:Nat,pIx (.str [120,121,122]) (.int r)=some (.pure (.str [v])):=by
 intro r hr
 have:r=0∨r=1∨r=2:=by omega
 rcases this with rfl | rfl | rfl
 ·exact ⟨120,rfl⟩
 ·exact ⟨121,rfl⟩
 ·exact ⟨122,rfl⟩
section
variable {GD:DF} (hD:∀ (d:D) (m:Nat),Pen d→0 < m→m < 1073741824→∃ (r:Nat) (d':D),GD [.own d,.pure (.int m)]=some (.pure (.int r),[.own d',.pure (.int m)])∧r < m∧Pen d')
include hD
theorem signs (ru:D) (ts:List Nat) (hn:ts.length≤100) (k:Nat) (hk:k < 3) {pd:D} (hp:Pen pd):∃ (ps:List (Nat×Nat)) (pd':D) (o6:Option S),forL (gNm [0] 6) (z2l 4 (eVar 6) (eOp pIx (eD (.str [120,121,122])) (bOf (z05 GD [.io 0,.val (eVar 5)])))) (ts.map fun n=>D.str [n]) [some (.own pd),some (.pure (.int 5)),some (.pure ru),some (.pure (tD ts)),some (.own (dsD [])),some (.pure (.int (1 + (k:Int)))),none,none,none,none,none] = .ok .next [some (.own pd'),some (.pure (.int 5)),some (.pure ru),some (.pure (tD ts)),some (.own (dsD ps)),some (.pure (.int (1 + (k:Int)))),o6,none,none,none,none]∧Cov ps ts∧ps.length≤ts.length∧Pen pd':=by
 obtain ⟨δ',e,ps,pd',o6,q1,q2,q3,rfl⟩:=z1b (g:=gNm [0] 6) (b:=(z2l 4 (eVar 6) (eOp pIx (eD (.str [120,121,122])) (bOf (z05 GD [.io 0,.val (eVar 5)]))))) (fun k' δ=>∃ (ps:List (Nat×Nat)) (pd:D) (o6:Option S),ps.length≤k'∧Cov ps (ts.take k')∧Pen pd∧δ=[some (.own pd),some (.pure (.int 5)),some (.pure ru),some (.pure (tD ts)),some (.own (dsD ps)),some (.pure (.int (1 + (k:Int)))),o6,none,none,none,none]) (ts.map fun n=>D.str [n]) 0 [some (.own pd),some (.pure (.int 5)),some (.pure ru),some (.pure (tD ts)),some (.own (dsD [])),some (.pure (.int (1 + (k:Int)))),none,none,none,none,none] ⟨[],pd,none,by simp,fun t ht=>by simp at ht,hp,rfl⟩ (fun i d δ hd ⟨ps,pd,o6,q1,q2,q3,e⟩=>by
  subst e
  rw [Wz,Qb] at hd
  obtain ⟨n,hn',rfl⟩:=hd
  rw [WQ] at q1 q2 ⊢
  have hi:=(W3.mp hn').1
  obtain ⟨r,d',e,l,p⟩:∃ (r:Nat) (d':D),GD [.own pd,.pure (.int (1 + (k:Int)))]=some (.pure (.int r),[.own d',.pure (.int (1 + (k:Int)))])∧r < 1 + k∧Pen d':=by
   have:=hD pd (1 + k) q3 (by omega) (by omega)
   rwa [show (((1 + k:Nat):Int))=1 + (k:Int) by omega] at this
  obtain ⟨v,hv⟩:=xyz r (by omega)
  refine ⟨_,[some (.own d'),some (.pure (.int 5)),some (.pure ru),some (.pure (tD ts)),some (.own (dsD (putP ps n v))),some (.pure (.int (1 + (k:Int)))),some (.pure (.str [n])),none,none,none,none],rfl,?_,⟨putP ps n v,d',_,by have:=z74 ps n v; omega,fun t ht=>?_,p,rfl⟩⟩
  ·refine (z8q (ps:=ps) (a:=n) (b:=v) (δ1:=[some (.own d'),some (.pure (.int 5)),some (.pure ru),some (.pure (tD ts)),some (.own (dsD ps)),some (.pure (.int (1 + (k:Int)))),some (.pure (.str [n])),none,none,none,none]) (δ2:=[some (.own d'),some (.pure (.int 5)),some (.pure ru),some (.pure (tD ts)),some (.own (dsD ps)),some (.pure (.int (1 + (k:Int)))),some (.pure (.str [n])),none,none,none,none]) ⟨ps,rfl⟩ ?_ ⟨ps,rfl⟩ ?_ rfl (by omega)).trans rfl
   ·generalize dsD ps=dd
    generalize tD ts=td
    simp [z05,ios,ndup,z0p,evX,eVar,mkA,e,putA,hv]
   ·rfl
  ·rw [Qr,hn'] at ht
   simp at ht
   rcases ht with ht | rfl
   ·exact z9D q2 n v t ht
   ·exact zcq ps t v)
 rw [WQ,Wy] at q1 q2
 rw [List.take_length] at q2
 exact ⟨ps,pd',o6,e,q2,q1,q3⟩
end
theorem zcB (ru pd:D) (ts:List Nat) (hn:ts.length≤100) (tw:List (Nat×Nat)) (htw:Cov tw ts) (ps:List (Nat×Nat)) (hps:Cov ps ts) (hpl:ps.length≤100) (o5 o6 o7 o8:Option S):∃ (qs:List (Nat×Nat)) (o6':Option S),forL (gNm [0] 6) (z2l 4 (eOpF pIxX 9 (bVar 6)) (eOpF pIxX 4 (bVar 6))) (ts.map fun n=>D.str [n]) [some (.own pd),some (.pure (.int 5)),some (.pure ru),some (.pure (tD ts)),some (.own (dsD ps)),o5,o6,o7,o8,some (.pure (dsD tw)),none] = .ok .next [some (.own pd),some (.pure (.int 5)),some (.pure ru),some (.pure (tD ts)),some (.own (dsD qs)),o5,o6',o7,o8,some (.pure (dsD tw)),none]∧Cov qs ts∧(∀ t ∈ ts,∀ u,lkP tw t=some u→∃ v,lkP qs u=some v)∧qs.length≤200:=by
 obtain ⟨δ',e,qs,o6',q1,q2,q3,rfl⟩:=z1b (g:=gNm [0] 6) (b:=(z2l 4 (eOpF pIxX 9 (bVar 6)) (eOpF pIxX 4 (bVar 6)))) (fun k' δ=>∃ (qs:List (Nat×Nat)) (o6:Option S),qs.length≤100 + k'∧Cov qs ts∧(∀ t ∈ ts.take k',∀ u,lkP tw t=some u→∃ v,lkP qs u=some v)∧δ=[some (.own pd),some (.pure (.int 5)),some (.pure ru),some (.pure (tD ts)),some (.own (dsD qs)),o5,o6,o7,o8,some (.pure (dsD tw)),none]) (ts.map fun n=>D.str [n]) 0 [some (.own pd),some (.pure (.int 5)),some (.pure ru),some (.pure (tD ts)),some (.own (dsD ps)),o5,o6,o7,o8,some (.pure (dsD tw)),none] ⟨ps,o6,by omega,hps,fun t ht=>by simp at ht,rfl⟩ (fun i d δ hd ⟨qs,o6,q1,q2,q3,e⟩=>by
  subst e
  rw [Wz,Qb] at hd
  obtain ⟨n,hn',rfl⟩:=hd
  rw [WQ] at q1 q3 ⊢
  have hi:=(W3.mp hn').1
  have hm:=Wv hn'
  obtain ⟨u,hu⟩:=htw n hm
  obtain ⟨v,hv⟩:=q2 n hm
  have g1:=z43 hu
  have g2:=z43 hv
  refine ⟨_,[some (.own pd),some (.pure (.int 5)),some (.pure ru),some (.pure (tD ts)),some (.own (dsD (putP qs u v))),o5,some (.pure (.str [n])),o7,o8,some (.pure (dsD tw)),none],rfl,?_,⟨putP qs u v,_,by have:=z74 qs u v; omega,z9D q2 u v,fun t ht x hx=>?_,rfl⟩⟩
  ·refine (z8q (ps:=qs) (a:=u) (b:=v) (δ1:=[some (.own pd),some (.pure (.int 5)),some (.pure ru),some (.pure (tD ts)),some (.own (dsD qs)),o5,some (.pure (.str [n])),o7,o8,some (.pure (dsD tw)),none]) (δ2:=[some (.own pd),some (.pure (.int 5)),some (.pure ru),some (.pure (tD ts)),some (.own (dsD qs)),o5,some (.pure (.str [n])),o7,o8,some (.pure (dsD tw)),none]) ⟨qs,rfl⟩ ?_ ⟨qs,rfl⟩ ?_ rfl (by omega)).trans rfl
   ·generalize dsD qs=dd at g2 ⊢
    generalize dsD tw=dt at g1 ⊢
    generalize tD ts=td
    simp [eOpF,eOpN,bVar,g2]
   ·generalize dsD qs=dd at g2 ⊢
    generalize dsD tw=dt at g1 ⊢
    generalize tD ts=td
    simp [eOpF,eOpN,bVar,g1]
  ·rw [Qr,hn'] at ht
   simp at ht
   rw [z7s]
   rcases ht with ht | rfl
   ·split
    ·exact ⟨_,rfl⟩
    ·exact q3 t ht x hx
   ·rw [hu] at hx; cases hx; exact ⟨v,by rw [if_pos rfl]⟩)
 rw [WQ,Wy] at q1 q3
 rw [List.take_length] at q3
 exact ⟨qs,o6',e,q2,q3,by omega⟩
theorem z8k {h w:Nat} {bs:List (Nat×List Tx)} (hn:bs.length≤52) (pd:D) (o3:Option S) (s4:Option S) (o5 o6 o7 o8 o9:Option S):(z0r [10] (iSq (eOpF pIx 2 (bOf (eD (.int 2))))) (gNm [0] 10) dYes (eOpF pIx 10 (bOf (eD (.int 0))))) [some (.own pd),some (.pure (.int 5)),some (.pure (ruD h w bs)),o3,s4,o5,o6,o7,o8,o9,none] = .ok (.own (tD (bs.map (·.1)))) [some (.own pd),some (.pure (.int 5)),some (.pure (ruD h w bs)),o3,s4,o5,o6,o7,o8,o9,none]:=by
 have x2:=(z66 h w bs).2.2
 have e:=z1l (cs:=[10]) (g:=gNm [0] 10) (t:=dYes) (el:=(eOpF pIx 10 (bOf (eD (.int 0))))) blD (fun b:Nat×List Tx=>D.str [b.1]) [some (.own pd),some (.pure (.int 5)),some (.pure (ruD h w bs)),o3,s4,o5,o6,o7,o8,o9,none] bs [] (by rw [z0N]; simp; omega) (fun b hb=>⟨_,_,.pure (.str [b.1]),[some (.own pd),some (.pure (.int 5)),some (.pure (ruD h w bs)),o3,s4,o5,o6,o7,o8,o9,some (.pure (blD b))],rfl,rfl,by
  generalize ruD h w bs=ru at *
  simp [eOpF,eOpN,bVar,pIx,z1s],rfl,rfl⟩)
 have eT:(bs.map fun b:Nat×List Tx=>D.str [b.1])=(bs.map (·.1)).map fun n=>D.str [n]:=by simp
 rw [WZ,eT] at e
 generalize hru:ruD h w bs=ru at *
 simp [z2C,eOpF,eOpN,bVar,x2,z0p,clrD]
 rw [e]
 simp [z1e,tD]
theorem zdG (ts:List Nat) (n:Nat) (h:n ∈ ts) (hl:ts.length≤1000):z6T (tD ts) (.str [n])=some (.pure (.int ((ts.map fun n=>([n]:Tx)).idxOf [n]:Nat))):=by
 have e:(ts.map fun n=>D.str [n])=(ts.map fun n=>[n]).map D.str:=by simp
 unfold z6T tD
 simp only [e,z4h]
 rw [if_pos ⟨WC (f:=fun n=>([n]:Tx)) h,by simpa using hl⟩]
theorem mid {GD GS GU:DF} (hD:∀ (d:D) (m:Nat),Pen d→0 < m→m < 1073741824→∃ (r:Nat) (d':D),GD [.own d,.pure (.int m)]=some (.pure (.int r),[.own d',.pure (.int m)])∧r < m∧Pen d')
  (hS:∀ {h w:Nat} {bs:List (Nat×List Tx)},RuQ h w bs→∀ {k:Nat},k < bs.length→GS [.pure (ruD h w bs),.pure (.int k)]=some (.pure (ruD h w (stl bs k)),[.pure (ruD h w bs),.pure (.int k)]))
  (hU:∀ {h w:Nat} {bs:List (Nat×List Tx)},RuQ h w bs→bs.length≤5→∀ {pd:D},Pen pd→∃ (bs':List (Nat×List Tx)) (ps:List (Nat×Nat)) (pd':D),GU [.pure (ruD h w bs),.own pd]=some (.pure (.tup [ruD h w bs',dsD ps]),[.pure (ruD h w bs),.own pd'])∧RuQ h w bs'∧Pen pd' ∧
   (∀ t ∈ bs.map (·.1),t ∈ bs'.map (·.1)∧∃ v,lkP ps t=some v∧v ∈ bs'.map (·.1))∧(∀ t ∈ bs'.map (·.1),t ∈ bs.map (·.1)∨∃ u ∈ bs.map (·.1),lkP ps u=some t))
  {h w:Nat} {bs:List (Nat×List Tx)} (R:RuQ h w bs) (hn:bs.length≤5) {pd:D} (hp:Pen pd) (ps:List (Nat×Nat)) (hc:Cov ps (bs.map (·.1))) (hpl:ps.length≤100) (st:Nat) (hst:st ∈ bs.map (·.1)) (o5 o6 o7:Option S) :
  ∃ (bs':List (Nat×List Tx)) (qs:List (Nat×Nat)) (pd':D) (st':Nat) (o6' o9':Option S),(dIf (dTr (eOp pEq (z05 GD [.io 0,.val (eD (.int 2))]) (bOf (eD (.int 0))))) (dSeq (dAsg (z05 GU [.val (eVar 2),.io 0]) (gTp 2 (z03 (gNm [0] 2) (z03 (gNm [0] 9) z0y)))) (dSeq (dFor (iSq (eVar 3)) (gNm [0] 6) (z2l 4 (eOpF pIxX 9 (bVar 6)) (eOpF pIxX 4 (bVar 6)))) (dSeq (dAsg (eOp pIx (eLst (z00 (eVar 8) (z00 (eOpF pIxX 9 (bVar 8)) aNil))) (bOf (z05 GD [.io 0,.val (eD (.int 2))]))) (gNm [0] 8)) (dAsg (z05 GS [.val (eVar 2),.val (eIdx (z0r [10] (iSq (eOpF pIx 2 (bOf (eD (.int 2))))) (gNm [0] 10) dYes (eOpF pIx 10 (bOf (eD (.int 0))))) (eVar 8))]) (gNm [0] 2))))) z0O) [some (.own pd),some (.pure (.int 5)),some (.pure (ruD h w bs)),some (.pure (tD (bs.map (·.1)))),some (.own (dsD ps)),o5,o6,o7,some (.pure (.str [st])),none,none] = .ok .next [some (.own pd'),some (.pure (.int 5)),some (.pure (ruD h w bs')),some (.pure (tD (bs.map (·.1)))),some (.own (dsD qs)),o5,o6',o7,some (.pure (.str [st'])),o9',none]∧RuQ h w bs'∧Cov qs (bs'.map (·.1))∧Pen pd':=by
 obtain ⟨r,d1,e1,hr,p1⟩:=zcn hD hp
 generalize hts:bs.map (·.1)=ts at *
 have htl:ts.length=bs.length:=by rw [← hts]; simp
 rcases hr with rfl | rfl
 ·obtain ⟨bs',tw,d2,e2,R',p2,h1,h2⟩:=hU R hn p1
  rw [hts] at h1 h2
  have hctw:Cov tw ts:=fun t ht=>let ⟨_,v,hv,_⟩:=h1 t ht; ⟨v,hv⟩
  obtain ⟨qs,o6',e3,c1,c2,ql⟩:=zcB (ruD h w bs') d2 ts (by omega) tw hctw ps hc hpl o5 o6 o7 (some (.pure (.str [st])))
  obtain ⟨r2,d3,e4,hr2,p3⟩:=zcn hD p2
  obtain ⟨hs1,v,hv,hs2⟩:=h1 st hst
  have hcov:Cov qs (bs'.map (·.1)):=fun t ht=>by
   rcases h2 t ht with h3 | ⟨u,hu,hx⟩
   ·exact c1 t h3
   ·exact c2 u hu t hx
  have g1:=z43 hv
  have hst':(if r2=0 then st else v) ∈ bs'.map (·.1):=by split <;> assumption
  have n1':=R'.n1
  have ei:=zdG (bs'.map (·.1)) (if r2=0 then st else v) hst' (by simp; omega)
  have hi:((bs'.map (·.1)).map fun n=>([n]:Tx)).idxOf [if r2=0 then st else v] < bs'.length:=by
   have:=List.idxOf_lt_length_iff.mpr (WC (f:=fun n=>([n]:Tx)) hst')
   simpa using this
  have e5:=hS R' hi
  have x4:pIx (.lst [.str [st],.str [v]]) (.int r2)=some (.pure (.str [if r2=0 then st else v])):=by
   rcases hr2 with rfl | rfl
   ·rfl
   ·rfl
  generalize (if r2=0 then st else v)=st' at *
  generalize hix:((bs'.map (·.1)).map fun n=>([n]:Tx)).idxOf [st']=ix at *
  refine ⟨stl bs' ix,qs,d3,st',o6',some (.pure (dsD tw)),?_,zaQ R' ix,by rw [z3E]; exact hcov,p3⟩
  have q1:pEq (.int 0) (.int 0)=some (.pure (.bl true)):=by rfl
  have et:dTr (eOp pEq (z05 GD [.io 0,.val (eD (.int 2))]) (bOf (eD (.int 0)))) [some (.own pd),some (.pure (.int 5)),some (.pure (ruD h w bs)),some (.pure (tD ts)),some (.own (dsD ps)),o5,o6,o7,some (.pure (.str [st])),none,none] = .ok true [some (.own d1),some (.pure (.int 5)),some (.pure (ruD h w bs)),some (.pure (tD ts)),some (.own (dsD ps)),o5,o6,o7,some (.pure (.str [st])),none,none]:=by
   generalize ruD h w bs=ru
   generalize tD ts=td
   generalize dsD ps=dd
   simp [dTr,z05,ios,ndup,z0p,evX,mkA,e1,putA,q1]
  rw [z9s,et]
  simp only [z0o,if_true]
  refine z0f (δ1:=[some (.own d2),some (.pure (.int 5)),some (.pure (ruD h w bs')),some (.pure (tD ts)),some (.own (dsD ps)),o5,o6,o7,some (.pure (.str [st])),some (.pure (dsD tw)),none]) (by
   generalize ruD h w bs=ru at e2 ⊢
   generalize ruD h w bs'=ru' at e2 ⊢
   generalize dsD tw=dt at e2 ⊢
   generalize tD ts=td
   generalize dsD ps=dd
   simp [dAsg,z05,ios,ndup,z0p,evX,eVar,mkA,putA,e2,gTp,z03,z0y]) ?_
  refine z0f (δ1:=[some (.own d2),some (.pure (.int 5)),some (.pure (ruD h w bs')),some (.pure (tD ts)),some (.own (dsD qs)),o5,o6',o7,some (.pure (.str [st])),some (.pure (dsD tw)),none]) (by
   rw [z2u]
   have hit:iSq (eVar 3) [some (.own d2),some (.pure (.int 5)),some (.pure (ruD h w bs')),some (.pure (tD ts)),some (.own (dsD ps)),o5,o6,o7,some (.pure (.str [st])),some (.pure (dsD tw)),none] = .ok (ts.map fun n=>D.str [n]) [some (.own d2),some (.pure (.int 5)),some (.pure (ruD h w bs')),some (.pure (tD ts)),some (.own (dsD ps)),o5,o6,o7,some (.pure (.str [st])),some (.pure (dsD tw)),none]:=by
    unfold tD
    generalize ruD h w bs'=ru'
    generalize dsD tw=dt
    generalize dsD ps=dd
    simp [z2C,eVar]
   rw [hit]
   exact e3) ?_
  refine z0f (δ1:=[some (.own d3),some (.pure (.int 5)),some (.pure (ruD h w bs')),some (.pure (tD ts)),some (.own (dsD qs)),o5,o6',o7,some (.pure (.str [st'])),some (.pure (dsD tw)),none]) (by
   generalize ruD h w bs'=ru'
   generalize dsD tw=dt at g1 ⊢
   generalize dsD qs=dd
   generalize tD ts=td
   simp [dAsg,z05,ios,ndup,z0p,evX,eVar,mkA,putA,eOpF,eOpN,bVar,g1,e4,x4]) ?_
  have t10:=z8k (h:=h) (w:=w) n1' d3 (some (.pure (tD ts))) (some (.own (dsD qs))) o5 o6' o7 (some (.pure (.str [st']))) (some (.pure (dsD tw)))
  have eix:eIdx (z0r [10] (iSq (eOpF pIx 2 (bOf (eD (.int 2))))) (gNm [0] 10) dYes (eOpF pIx 10 (bOf (eD (.int 0))))) (eVar 8) [some (.own d3),some (.pure (.int 5)),some (.pure (ruD h w bs')),some (.pure (tD ts)),some (.own (dsD qs)),o5,o6',o7,some (.pure (.str [st'])),some (.pure (dsD tw)),none] = .ok (.pure (.int ix)) [some (.own d3),some (.pure (.int 5)),some (.pure (ruD h w bs')),some (.pure (tD ts)),some (.own (dsD qs)),o5,o6',o7,some (.pure (.str [st'])),some (.pure (dsD tw)),none]:=by
   unfold eIdx
   rw [t10]
   have hL:isLD (S.own (tD (bs'.map (·.1)))).d=true:=rfl
   simp only [z0o,hL,if_true]
   generalize ruD h w bs'=ru'
   generalize dsD tw=dt
   generalize dsD qs=dd
   generalize tD ts=td
   simp only [eVar,WR,WJ,z0o,z5P,z9t,z75,ei]
  clear t10
  generalize ruD h w (stl bs' ix)=rn at *
  generalize ruD h w bs'=ru' at *
  generalize dsD tw=dt at *
  generalize dsD qs=dd at *
  generalize tD ts=td at *
  simp [dAsg,z05,ios,ndup,z0p,evX,eix,mkA,putA]
  simp [eVar,eix,mkA,e5,putA]
 ·have q1:pEq (.int 1) (.int 0)=some (.pure (.bl false)):=by rfl
  refine ⟨bs,ps,d1,st,o6,none,?_,R,by rw [hts]; exact hc,p1⟩
  generalize ruD h w bs=ru
  generalize tD ts=td
  generalize dsD ps=dd
  simp [dTr,z05,ios,ndup,z0p,evX,mkA,e1,putA,q1]
def sgF (ps:List (Nat×Nat)) (t:Nat):Nat:=(lkP ps t).getD 0
theorem ret_p {h w:Nat} {bs:List (Nat×List Tx)} (R:RuQ h w bs) (pd:D) (ps:List (Nat×Nat)) (hc:Cov ps (bs.map (·.1))) (o3:Option S) (o5 o6 o7 o9:Option S) (st:Nat):(dRet (eTup (z00 (eVar 2) (z00 (eVar 8) (z00 (eC1 z0m (bOf (z0r [10] (iSq (eOpF pIx 2 (bOf (eD (.int 2))))) (gNm [0] 10) dYes (eTup (z00 (eOpF pIx 10 (bOf (eD (.int 0)))) (z00 (eOpF pIxX 4 (bOf (eOpF pIx 10 (bOf (eD (.int 0)))))) aNil)))))) aNil))))) [some (.own pd),some (.pure (.int 5)),some (.pure (ruD h w bs)),o3,some (.own (dsD ps)),o5,o6,o7,some (.pure (.str [st])),o9,none] = .ok (.ret (.pure (.tup [ruD h w bs,.str [st],paD (bs.map fun b=>(b.1,sgF ps b.1))]))) [some (.own pd),some (.pure (.int 5)),some (.pure (ruD h w bs)),o3,some (.own (dsD ps)),o5,o6,o7,some (.pure (.str [st])),o9,none]:=by
 have x2:=(z66 h w bs).2.2
 have n1:=R.n1
 have e:=z1l (cs:=[10]) (g:=gNm [0] 10) (t:=dYes) (el:=(eTup (z00 (eOpF pIx 10 (bOf (eD (.int 0)))) (z00 (eOpF pIxX 4 (bOf (eOpF pIx 10 (bOf (eD (.int 0)))))) aNil)))) blD (fun b:Nat×List Tx=>D.tup [.str [b.1],.str [sgF ps b.1]]) [some (.own pd),some (.pure (.int 5)),some (.pure (ruD h w bs)),o3,some (.own (dsD ps)),o5,o6,o7,some (.pure (.str [st])),o9,none] bs [] (by rw [z0N]; simp; omega) (fun b hb=>by
  obtain ⟨v,hv⟩:=hc b.1 (WC hb)
  have g:=z43 hv
  refine ⟨_,_,.pure (.tup [.str [b.1],.str [v]]),[some (.own pd),some (.pure (.int 5)),some (.pure (ruD h w bs)),o3,some (.own (dsD ps)),o5,o6,o7,some (.pure (.str [st])),o9,some (.pure (blD b))],rfl,rfl,?_,rfl,by simp [sgF,hv]⟩
  have xb:pIx (blD b) (.int 0)=some (.pure (.str [b.1])):=by simp [pIx,z1s]
  generalize ruD h w bs=ru at *
  generalize dsD ps=dd at *
  generalize blD b=db at *
  simp [eOpF,eOpN,bVar,xb,g])
 have eT:(bs.map fun b:Nat×List Tx=>D.tup [.str [b.1],.str [sgF ps b.1]])=(bs.map fun b=>(b.1,sgF ps b.1)).map fun p=>D.tup [.str [p.1],.str [p.2]]:=by simp
 rw [WZ,eT] at e
 generalize hpp:(bs.map fun b=>(b.1,sgF ps b.1)).map (fun p=>D.tup [.str [p.1],.str [p.2]])=pp at *
 generalize hru:ruD h w bs=ru at *
 generalize dsD ps=dd at *
 simp [eVar,z2C,eOpF,eOpN,bVar,x2,z0p,clrD]
 rw [e]
 simp [z1e,z0m]
 rw [← hpp,Q3]
theorem z8G {GR GD GS GU:DF} (hD:∀ (d:D) (m:Nat),Pen d→0 < m→m < 1073741824→∃ (r:Nat) (d':D),GD [.own d,.pure (.int m)]=some (.pure (.int r),[.own d',.pure (.int m)])∧r < m∧Pen d')
  (hS:∀ {h w:Nat} {bs:List (Nat×List Tx)},RuQ h w bs→∀ {k:Nat},k < bs.length→GS [.pure (ruD h w bs),.pure (.int k)]=some (.pure (ruD h w (stl bs k)),[.pure (ruD h w bs),.pure (.int k)]))
  (hU:∀ {h w:Nat} {bs:List (Nat×List Tx)},RuQ h w bs→bs.length≤5→∀ {pd:D},Pen pd→∃ (bs':List (Nat×List Tx)) (ps:List (Nat×Nat)) (pd':D),GU [.pure (ruD h w bs),.own pd]=some (.pure (.tup [ruD h w bs',dsD ps]),[.pure (ruD h w bs),.own pd'])∧RuQ h w bs'∧Pen pd' ∧
   (∀ t ∈ bs.map (·.1),t ∈ bs'.map (·.1)∧∃ v,lkP ps t=some v∧v ∈ bs'.map (·.1))∧(∀ t ∈ bs'.map (·.1),t ∈ bs.map (·.1)∨∃ u ∈ bs.map (·.1),lkP ps u=some t))
  (hR:∀ d,Pen d→∃ (h w:Nat) (bs:List (Nat×List Tx)) (d':D),GR [.own d,.pure (.int 5)]=some (.pure (ruD h w bs),[.own d',.pure (.int 5)])∧RuQ h w bs∧bs.length≤5∧Pen d') {pd:D} (hp:Pen pd) :
  ∃ (h w:Nat) (bs:List (Nat×List Tx)) (st:Nat) (ps:List (Nat×Nat)) (pd':D),gOf [0] 11 (dSeq (dAsg (z05 GR [.io 0,.val (eVar 1)]) (gNm [0] 2)) (dSeq (dAsg (z0r [10] (iSq (eOpF pIx 2 (bOf (eD (.int 2))))) (gNm [0] 10) dYes (eOpF pIx 10 (bOf (eD (.int 0))))) (gNm [0] 3)) (dSeq (dAsg z3w (gNm [0] 4)) (dSeq (dAsg (eOp pAdd (eD (.int 1)) (bOf (z05 GD [.io 0,.val (eD (.int 3))]))) (gNm [0] 5)) (dSeq (dFor (iSq (eVar 3)) (gNm [0] 6) (z2l 4 (eVar 6) (eOp pIx (eD (.str [120,121,122])) (bOf (z05 GD [.io 0,.val (eVar 5)]))))) (dSeq (dAsg (z05 GD [.io 0,.val (eC1 pLen (bVar 3))]) (gNm [0] 7)) (dSeq (dAsg (z05 GS [.val (eVar 2),.val (eVar 7)]) (gNm [0] 2)) (dSeq (dAsg (eOpF pIx 3 (bVar 7)) (gNm [0] 8)) (dSeq (dIf (dTr (eOp pEq (z05 GD [.io 0,.val (eD (.int 2))]) (bOf (eD (.int 0))))) (dSeq (dAsg (z05 GU [.val (eVar 2),.io 0]) (gTp 2 (z03 (gNm [0] 2) (z03 (gNm [0] 9) z0y)))) (dSeq (dFor (iSq (eVar 3)) (gNm [0] 6) (z2l 4 (eOpF pIxX 9 (bVar 6)) (eOpF pIxX 4 (bVar 6)))) (dSeq (dAsg (eOp pIx (eLst (z00 (eVar 8) (z00 (eOpF pIxX 9 (bVar 8)) aNil))) (bOf (z05 GD [.io 0,.val (eD (.int 2))]))) (gNm [0] 8)) (dAsg (z05 GS [.val (eVar 2),.val (eIdx (z0r [10] (iSq (eOpF pIx 2 (bOf (eD (.int 2))))) (gNm [0] 10) dYes (eOpF pIx 10 (bOf (eD (.int 0))))) (eVar 8))]) (gNm [0] 2))))) z0O) (dRet (eTup (z00 (eVar 2) (z00 (eVar 8) (z00 (eC1 z0m (bOf (z0r [10] (iSq (eOpF pIx 2 (bOf (eD (.int 2))))) (gNm [0] 10) dYes (eTup (z00 (eOpF pIx 10 (bOf (eD (.int 0)))) (z00 (eOpF pIxX 4 (bOf (eOpF pIx 10 (bOf (eD (.int 0)))))) aNil)))))) aNil)))))))))))))) [.own pd,.pure (.int 5)]=some (.pure (.tup [ruD h w bs,.str [st],paD ps]),[.own pd',.pure (.int 5)])∧RuQ h w bs∧ps.map (·.1)=bs.map (·.1)∧Pen pd':=by
 obtain ⟨h,w,bs,d1,e1,R,hn,p1⟩:=hR pd hp
 obtain ⟨k,d2,e2,l2,p2⟩:∃ (r:Nat) (d':D),GD [.own d1,.pure (.int 3)]=some (.pure (.int r),[.own d',.pure (.int 3)])∧r < 3∧Pen d':=hD d1 3 p1 (by decide) (by decide)
 generalize hts:bs.map (·.1)=ts
 have htl:ts.length=bs.length:=by rw [← hts]; simp
 have n0:=R.n0
 obtain ⟨ps,d3,o6,e3,hc,hpl,p3⟩:=signs hD (ruD h w bs) ts (by omega) k l2 p2
 obtain ⟨sp,d4,e4,l4,p4⟩:=hD d3 ts.length p3 (by omega) (by omega)
 have e5:=hS R (k:=sp) (by omega)
 have R2:=zaQ R sp
 have hst:ts.getD sp 0 ∈ ts:=by simp [l4]
 obtain ⟨bs',qs,d5,st',o6',o9',e6,R',hc',p5⟩:=mid hD hS hU R2 (by have:=congrArg QM (z3E bs sp); simp at this; omega) p4 ps (by rw [z3E,hts]; exact hc) (by omega) (ts.getD sp 0) (by rw [z3E,hts]; exact hst) (some (.pure (.int (1 + (k:Int))))) o6 (some (.pure (.int sp)))
 rw [z3E,hts] at e6
 have hlt:=zba ts
 have x3:=zca ts sp l4
 have t10:=z8k (h:=h) (w:=w) (bs:=bs) R.n1 d1 none none none none none none none
 rw [hts] at t10
 refine ⟨h,w,bs',st',bs'.map fun b=>(b.1,sgF qs b.1),d5,?_,R',by simp,p5⟩
 have er:=ret_p R' d5 qs hc' (some (.pure (tD ts))) (some (.pure (.int (1 + (k:Int))))) o6' (some (.pure (.int sp))) o9' st'
 have run:(dSeq (dAsg (z05 GR [.io 0,.val (eVar 1)]) (gNm [0] 2)) (dSeq (dAsg (z0r [10] (iSq (eOpF pIx 2 (bOf (eD (.int 2))))) (gNm [0] 10) dYes (eOpF pIx 10 (bOf (eD (.int 0))))) (gNm [0] 3)) (dSeq (dAsg z3w (gNm [0] 4)) (dSeq (dAsg (eOp pAdd (eD (.int 1)) (bOf (z05 GD [.io 0,.val (eD (.int 3))]))) (gNm [0] 5)) (dSeq (dFor (iSq (eVar 3)) (gNm [0] 6) (z2l 4 (eVar 6) (eOp pIx (eD (.str [120,121,122])) (bOf (z05 GD [.io 0,.val (eVar 5)]))))) (dSeq (dAsg (z05 GD [.io 0,.val (eC1 pLen (bVar 3))]) (gNm [0] 7)) (dSeq (dAsg (z05 GS [.val (eVar 2),.val (eVar 7)]) (gNm [0] 2)) (dSeq (dAsg (eOpF pIx 3 (bVar 7)) (gNm [0] 8)) (dSeq (dIf (dTr (eOp pEq (z05 GD [.io 0,.val (eD (.int 2))]) (bOf (eD (.int 0))))) (dSeq (dAsg (z05 GU [.val (eVar 2),.io 0]) (gTp 2 (z03 (gNm [0] 2) (z03 (gNm [0] 9) z0y)))) (dSeq (dFor (iSq (eVar 3)) (gNm [0] 6) (z2l 4 (eOpF pIxX 9 (bVar 6)) (eOpF pIxX 4 (bVar 6)))) (dSeq (dAsg (eOp pIx (eLst (z00 (eVar 8) (z00 (eOpF pIxX 9 (bVar 8)) aNil))) (bOf (z05 GD [.io 0,.val (eD (.int 2))]))) (gNm [0] 8)) (dAsg (z05 GS [.val (eVar 2),.val (eIdx (z0r [10] (iSq (eOpF pIx 2 (bOf (eD (.int 2))))) (gNm [0] 10) dYes (eOpF pIx 10 (bOf (eD (.int 0))))) (eVar 8))]) (gNm [0] 2))))) z0O) (dRet (eTup (z00 (eVar 2) (z00 (eVar 8) (z00 (eC1 z0m (bOf (z0r [10] (iSq (eOpF pIx 2 (bOf (eD (.int 2))))) (gNm [0] 10) dYes (eTup (z00 (eOpF pIx 10 (bOf (eD (.int 0)))) (z00 (eOpF pIxX 4 (bOf (eOpF pIx 10 (bOf (eD (.int 0)))))) aNil)))))) aNil)))))))))))))) [some (.own pd),some (.pure (.int 5)),none,none,none,none,none,none,none,none,none] = .ok (.ret (.pure (.tup [ruD h w bs',.str [st'],paD (bs'.map fun b=>(b.1,sgF qs b.1))]))) [some (.own d5),some (.pure (.int 5)),some (.pure (ruD h w bs')),some (.pure (tD ts)),some (.own (dsD qs)),some (.pure (.int (1 + (k:Int)))),o6',some (.pure (.int sp)),some (.pure (.str [st'])),o9',none]:=by
  refine z0f (δ1:=[some (.own d1),some (.pure (.int 5)),some (.pure (ruD h w bs)),none,none,none,none,none,none,none,none]) (by
   generalize ruD h w bs=ru at *
   simp [dAsg,z05,ios,ndup,z0p,evX,eVar,mkA,putA,e1]) ?_
  refine z0f (δ1:=[some (.own d1),some (.pure (.int 5)),some (.pure (ruD h w bs)),some (.own (tD ts)),none,none,none,none,none,none,none]) (by
   unfold dAsg
   rw [t10]
   rfl) ?_
  refine z0f (δ1:=[some (.own d1),some (.pure (.int 5)),some (.pure (ruD h w bs)),some (.own (tD ts)),some (.own (dsD [])),none,none,none,none,none,none]) (by simp [dAsg,z3w]) ?_
  refine z0f (δ1:=[some (.own d2),some (.pure (.int 5)),some (.pure (ruD h w bs)),some (.own (tD ts)),some (.own (dsD [])),some (.pure (.int (1 + (k:Int)))),none,none,none,none,none]) (by
   generalize ruD h w bs=ru at *
   generalize tD ts=td at *
   generalize dsD []=dd at *
   simp [dAsg,z05,ios,ndup,z0p,evX,eVar,mkA,putA,e2,add_int]) ?_
  refine z0f (δ1:=[some (.own d3),some (.pure (.int 5)),some (.pure (ruD h w bs)),some (.pure (tD ts)),some (.own (dsD ps)),some (.pure (.int (1 + (k:Int)))),o6,none,none,none,none]) (by
   rw [z2u]
   have hit:iSq (eVar 3) [some (.own d2),some (.pure (.int 5)),some (.pure (ruD h w bs)),some (.own (tD ts)),some (.own (dsD [])),some (.pure (.int (1 + (k:Int)))),none,none,none,none,none] = .ok (ts.map fun n=>D.str [n]) [some (.own d2),some (.pure (.int 5)),some (.pure (ruD h w bs)),some (.pure (tD ts)),some (.own (dsD [])),some (.pure (.int (1 + (k:Int)))),none,none,none,none,none]:=by
    unfold tD
    generalize ruD h w bs=ru at *
    simp [z2C,eVar]
   rw [hit]
   exact e3) ?_
  refine z0f (δ1:=[some (.own d4),some (.pure (.int 5)),some (.pure (ruD h w bs)),some (.pure (tD ts)),some (.own (dsD ps)),some (.pure (.int (1 + (k:Int)))),o6,some (.pure (.int sp)),none,none,none]) (by
   generalize ruD h w bs=ru at *
   generalize tD ts=td at *
   generalize dsD ps=dd at *
   simp [dAsg,z05,ios,ndup,z0p,evX,eVar,mkA,putA,bVar,hlt,e4]) ?_
  refine z0f (δ1:=[some (.own d4),some (.pure (.int 5)),some (.pure (ruD h w (stl bs sp))),some (.pure (tD ts)),some (.own (dsD ps)),some (.pure (.int (1 + (k:Int)))),o6,some (.pure (.int sp)),none,none,none]) (by
   generalize ruD h w (stl bs sp)=rn at *
   generalize ruD h w bs=ru at *
   generalize tD ts=td at *
   generalize dsD ps=dd at *
   simp [dAsg,z05,ios,ndup,z0p,evX,eVar,mkA,putA,e5]) ?_
  refine z0f (δ1:=[some (.own d4),some (.pure (.int 5)),some (.pure (ruD h w (stl bs sp))),some (.pure (tD ts)),some (.own (dsD ps)),some (.pure (.int (1 + (k:Int)))),o6,some (.pure (.int sp)),some (.pure (.str [ts.getD sp 0])),none,none]) (by
   generalize ruD h w (stl bs sp)=rn at *
   generalize tD ts=td at *
   generalize dsD ps=dd at *
   simp [dAsg,eOpF,eOpN,bVar,x3]) ?_
  exact z0f e6 er
 rw [z1N,show z0h 11 [S.own pd,.pure (.int 5)]=[some (.own pd),some (.pure (.int 5)),none,none,none,none,none,none,none,none,none] from rfl,run]
 simp [ioOk,z0M,z0e]
theorem z8D {pd:D} (hp:Pen pd):∃ (h w:Nat) (bs:List (Nat×List Tx)) (st:Nat) (ps:List (Nat×Nat)) (pd':D),z0D [.own pd,.pure (.int 5)]=some (.pure (.tup [ruD h w bs,.str [st],paD ps]),[.own pd',.pure (.int 5)])∧RuQ h w bs∧ps.map (·.1)=bs.map (·.1)∧Pen pd':=by
 rw [z0D,z1y]
 exact z8G (fun d m hp a b=>z5c hp m a b) (fun R _ hk=>z8B R hk) (fun R hn _ hp=>z8E R hn hp) (fun d hp=>by
  obtain ⟨h,w,bs,d',e,R,hn,p⟩:=z8C hp 5 (by decide) (by decide)
  exact ⟨h,w,bs,d',e,zcJ R,hn,p⟩) hp
def NX:D→Prop
 | .exc _ _=>False
 | .xd _=>False
 | _=>True
def wi (m:Int):D→Bool
 | .int i=>decide (0≤i) && decide (i≤m)
 | _=>false
theorem zbM (d:D) (hd:NX d):z1m [.pure d,.pure (.int 0)]=some (.pure (.bl (match d with | .int i=>decide (0≤i) | _=>false)),[.pure d,.pure (.int 0)]):=by
 rw [z1m,z1N,z2Q]
 cases d <;> first | exact hd.elim | simp [ioOk,z0h,eAnd,eNot,eIsi,isTy,bVar,eVar,eOpF,eOpN,le_int,z0M,z0e]
theorem z3g (d:D) (m:Int) (hd:NX d):z0R [.pure d,.pure (.int 0),.pure (.int m)]=some (.pure (.bl (wi m d)),[.pure d,.pure (.int 0),.pure (.int m)]):=by
 have e:=zbM d hd
 rw [z0R,z1N,z25]
 cases d with
 | int i =>
  simp only at e
  by_cases h:0≤i
  ·simp [h] at e
   simp [ioOk,z0h,eAnd,z05,ios,ndup,z0p,evX,mkA,e,putA,bVar,eVar,eOpF,eOpN,le_int,z0M,z0e,wi,h]
  ·simp [h] at e
   simp [ioOk,z0h,eAnd,z05,ios,ndup,z0p,evX,mkA,e,putA,bVar,eVar,eOpF,eOpN,le_int,z0M,z0e,wi,h]
 | exc n=>exact hd.elim
 | _ =>
  simp only at e
  simp [ioOk,z0h,eAnd,z05,ios,ndup,z0p,evX,mkA,e,putA,bVar,eVar,eOpF,eOpN,le_int,z0M,z0e,wi]
theorem z7r:∀ ps:List (Nat×Nat),z2I (ps.map fun p=>D.tup [.str [p.1],.str [p.2]])=some (dsL ps)
 | []=>rfl
 | p :: r=>by
  have:=z7r r
  simp [z2I,keyD,this]
theorem z9x {ps:List (Nat×Nat)} (nd:(ps.map (·.1)).Nodup) (hl:ps.length≤1000):z24 (paD ps)=some (.own (dsD ps)):=by
 have e:z5z (dsL ps) []=dsL ps:=by
  rw [z6b _ _ ?_]
  ·rfl
  ·have e2:((([]:List (DKey×D)) ++ dsL ps).map (·.1))=(ps.map (·.1)).map fun n=>(Sum.inr [n]:DKey):=by simp [dsL]
   rw [e2]
   exact List.Pairwise.map _ (fun a b h z=>h (by simpa using z)) nd
 show (z2I (ps.map fun p=>D.tup [.str [p.1],.str [p.2]])).bind (fun ps'=>if ps'.length≤W6 then some (S.own (.dct (z5z ps' []))) else none)=_
 rw [z7r]
 simp only [WD]
 rw [if_pos (by rw [z0N]; simp; omega),e]
def z78 (b:Nat×List Tx) (r c:Nat):Nat:=(b.2.getD r []).getD c 0
def tkL (bs:List (Nat×List Tx)) (ps:List (Nat×Nat)) (r c:Nat):List (Nat×Nat):=bs.map fun b=>(b.1,sgF ps (z78 b r c))
theorem z9I {h w:Nat} {bs:List (Nat×List Tx)} (R:RuQ h w bs) {b:Nat×List Tx} (hb:b ∈ bs) {r c:Nat} (hr:r < h) (hc:c < w):∃ row:Tx,pIx (flD b.2) (.int r)=some (.pure (.str row))∧pIx (.str row) (.int c)=some (.pure (.str [z78 b r c]))∧z78 b r c ∈ bs.map (·.1):=by
 obtain ⟨h1,h2⟩:=R.blk b hb
 have hr':r < b.2.length:=by omega
 have hm:b.2[r] ∈ b.2:=QT hr'
 obtain ⟨h3,h4⟩:=h2 _ hm
 have w1:=R.w1
 have e:z78 b r c=(b.2[r]).getD c 0:=by simp [z78,hr']
 refine ⟨b.2[r],by simp [pIx,z1t,hr'],by rw [e]; exact z3v _ c (by omega) (by omega),h4 _ ?_⟩
 rw [e]
 have:c < (b.2[r]).length:=by omega
 simp [this]
theorem zdv {ps:List (Nat×Nat)} {n:Nat} (h:n ∈ ps.map (·.1)):lkP ps n=some (sgF ps n):=by
 unfold sgF lkP
 cases e:ps.find? (fun p=>decide (p.1=n)) with
 | none =>
  obtain ⟨p,hp,rfl⟩:=J4.mp h
  have:=List.find?_eq_none.mp e p hp
  simp at this
 | some p=>rfl
theorem z9E {cs:List Nat} {g:DG} {el:DE} {h w:Nat} {bs:List (Nat×List Tx)} (hn:bs.length≤52) {ps:List (Nat×Nat)} {r c:Nat} (δ:Dl) (step:∀ b ∈ bs,∃ δ1 δ3,g (.pure (blD b)) δ=some δ1∧el δ1 = .ok (.pure (.tup [.str [b.1],.str [sgF ps (z78 b r c)]])) δ3∧clrD cs δ3=δ) :
  z1u cs g dYes el (bs.map blD) δ [] = .ok ((tkL bs ps r c).map fun p=>D.tup [.str [p.1],.str [p.2]]) δ:=by
 have e:=z1l (cs:=cs) (g:=g) (t:=dYes) (el:=el) blD (fun b:Nat×List Tx=>D.tup [.str [b.1],.str [sgF ps (z78 b r c)]]) δ bs [] (by rw [z0N]; simp; omega) (fun b hb=>by
  obtain ⟨δ1,δ3,e1,e2,e3⟩:=step b hb
  exact ⟨δ1,δ1,_,δ3,e1,rfl,e2,e3,rfl⟩)
 rw [e]
 simp [tkL]
theorem zbI {h w:Nat} {bs:List (Nat×List Tx)} (R:RuQ h w bs) {ps:List (Nat×Nat)} (hps:ps.map (·.1)=bs.map (·.1)) {r c:Nat} (hr:r < h) (hc:c < w) :
  z0z [.pure (ruD h w bs),.pure (paD ps),.pure (.int r),.pure (.int c)]=some (.inl (.pure (paD (tkL bs ps r c)),[.pure (ruD h w bs),.pure (paD ps),.pure (.int r),.pure (.int c)])):=by
 obtain ⟨x0,x1,x2⟩:=z66 h w bs
 have hl:ps.length=bs.length:=by have:=congrArg QM hps; simpa using this
 have n1:=R.n1
 have hd:=z9x (ps:=ps) (by rw [hps]; exact R.nd) (by omega)
 have w1:=z3g (.int r) ((h:Int) - 1) trivial
 have w2:=z3g (.int c) ((w:Int) - 1) trivial
 rw [show wi ((h:Int) - 1) (.int r)=true by simp [wi]; omega] at w1
 rw [show wi ((w:Int) - 1) (.int c)=true by simp [wi]; omega] at w2
 have e:=z9E (cs:=[5,6]) (g:=(gTp 2 (z03 (gNm [] 5) (z03 (gNm [] 6) z0y)))) (el:=(eTup (z00 (eVar 5) (z00 (eOpF pIxX 4 (bOf (eOp pIx (eOpF pIx 6 (bVar 2)) (bVar 3)))) aNil)))) (h:=h) (w:=w) n1 (ps:=ps) (r:=r) (c:=c) [some (.pure (ruD h w bs)),some (.pure (paD ps)),some (.pure (.int r)),some (.pure (.int c)),some (.own (dsD ps)),none,none] (fun b hb=>by
  obtain ⟨row,c1,c2,c3⟩:=z9I R hb hr hc
  have g:=z43 (zdv (by rw [hps]; exact c3))
  refine ⟨[some (.pure (ruD h w bs)),some (.pure (paD ps)),some (.pure (.int r)),some (.pure (.int c)),some (.own (dsD ps)),some (.pure (.str [b.1])),some (.pure (flD b.2))],[some (.pure (ruD h w bs)),some (.pure (paD ps)),some (.pure (.int r)),some (.pure (.int c)),some (.own (dsD ps)),some (.pure (.str [b.1])),some (.pure (flD b.2))],by simp [gTp,z03,z0y],?_,rfl⟩
  generalize flD b.2=fb at *
  generalize dsD ps=dd at *
  generalize paD ps=dp at *
  generalize ruD h w bs=ru at *
  simp [eVar,eOpF,eOpN,bVar,c1,c2,g])
 rw [z0z,z7C,z1H]
 generalize hpp:(tkL bs ps r c).map (fun p=>D.tup [.str [p.1],.str [p.2]])=pp at *
 generalize dsD ps=dd at *
 generalize paD ps=dp at *
 generalize ruD h w bs=ru at *
 simp [ioOk,z0h,dTr,z05,ios,ndup,z0p,evX,eVar,eOpF,eOpN,bVar,x0,x1,x2,sub_int,mkA,w1,w2,putA,dAsg,hd,z2C,clrD]
 rw [e]
 simp [z1e,z0m,z0M,z0e]
 exact hpp.symm
theorem zbm {h w:Nat} (bs:List (Nat×List Tx)) (dp row col:D) (hr:NX row) (hc:NX col) (hz:(wi ((h:Int) - 1) row && wi ((w:Int) - 1) col)=false) :
  z0z [.pure (ruD h w bs),.pure dp,.pure row,.pure col]=some (.inr (⟨[78,111,80,108,97,99,101],.non⟩,[.pure (ruD h w bs),.pure dp,.pure row,.pure col])):=by
 obtain ⟨x0,x1,x2⟩:=z66 h w bs
 have w1:=z3g row ((h:Int) - 1) hr
 have w2:=z3g col ((w:Int) - 1) hc
 rw [z0z,z7C,z1H]
 generalize ruD h w bs=ru at *
 cases z1:wi ((h:Int) - 1) row with
 | false =>
  rw [z1] at w1
  simp [ioOk,z0h,dTr,z05,ios,ndup,z0p,evX,eVar,eOpF,eOpN,bVar,x0,x1,sub_int,mkA,w1,putA,z7E,z0e]
 | true =>
  rw [z1] at w1 hz
  rw [Bool.true_and] at hz
  rw [hz] at w2
  simp [ioOk,z0h,dTr,z05,ios,ndup,z0p,evX,eVar,eOpF,eOpN,bVar,x0,x1,sub_int,mkA,w1,w2,putA,z7E,z0e]
section
variable (ce:Tx→Nat)
theorem is0 (fl:D) (tab:Tx→Bool) (rest:Dl):eIsC ce ys tab (bVar 0) (some (.pure (.exc (ce [78,111,80,108,97,99,101]) fl)) :: rest) = .ok (.pure (.bl (tab [78,111,80,108,97,99,101]))) (some (.pure (.exc (ce [78,111,80,108,97,99,101]) fl)) :: rest):=by
 simp [eIsC,bVar,ys]
theorem zbL (fl:D):z16 ce [.pure (.exc (ce [78,111,80,108,97,99,101]) fl)]=some (.pure (.str [112,108,97,99,101]),[.pure (.exc (ce [78,111,80,108,97,99,101]) fl)]):=by
 have i0:=is0 ce fl
 have c1:z5d (.lst [.bl false,.bl true,.bl false,.bl false,.bl false,.bl false,.bl false,.bl false,.bl false])=some (.pure (.int 1)):=by rfl
 have c2:z3K (.lst [.bl false,.bl true,.bl false,.bl false,.bl false,.bl false,.bl false,.bl false,.bl false])=some (.pure (.int 1)):=by rfl
 rw [z16,z1N,z2a]
 generalize ce [78,111,80,108,97,99,101]=n at *
 simp [ioOk,z0h,dAsg,i0,eOpF,eOpN,bVar,pAdd,z0N,z0s,z2j,putL,dTr,c1,c2,pNe,flat,eqD,pIx,atI,ixN,z0M,z0e]
theorem q_np (GT:DX) (GK:DF) (ru dp row col:D) (gt:GT [.pure ru,.pure dp,.pure row,.pure col]=some (.inr (⟨[78,111,80,108,97,99,101],.non⟩,[.pure ru,.pure dp,.pure row,.pure col]))) (gk:GK [.pure (.exc (ce [78,111,80,108,97,99,101]) .non)]=some (.pure (.str [112,108,97,99,101]),[.pure (.exc (ce [78,111,80,108,97,99,101]) .non)])) :
  gOf [] 5 (dSeq (dTry ce ys 4 (z6C (z41 GT [.val (eVar 0),.val (eVar 1),.val (eVar 2),.val (eVar 3)])) (dRet (eOp pEq (z05 GK [.val (eVar 4)]) (bOf (eD (.str [112,108,97,99,101])))))) (dRet (eD (.bl false)))) [.pure ru,.pure dp,.pure row,.pure col]=some (.pure (.bl true),[.pure ru,.pure dp,.pure row,.pure col]):=by
 have st:z0h 5 [S.pure ru,.pure dp,.pure row,.pure col]=[some (S.pure ru),some (.pure dp),some (.pure row),some (.pure col),none]:=rfl
 have no:zao [some (S.pure ru),some (.pure dp),some (.pure row),some (.pure col),none]=true:=by simp [zao]
 have eb:(z6C (z41 GT [.val (eVar 0),.val (eVar 1),.val (eVar 2),.val (eVar 3)])) [some (S.pure ru),some (.pure dp),some (.pure row),some (.pure col),none] = .exc ⟨[78,111,80,108,97,99,101],.non⟩ [some (S.pure ru),some (.pure dp),some (.pure row),some (.pure col),none]:=by
  simp [z41,ios,ndup,z0p,evX,eVar,mkA,gt,putA]
 have hc:(ys.contains [78,111,80,108,97,99,101] && decide (4 < [some (S.pure ru),some (.pure dp),some (.pure row),some (.pure col),none].length))=true:=by simp [ys]
 have q1:pEq (.str [112,108,97,99,101]) (.str [112,108,97,99,101])=some (.pure (.bl true)):=by rfl
 have eh:(dRet (eOp pEq (z05 GK [.val (eVar 4)]) (bOf (eD (.str [112,108,97,99,101]))))) [some (S.pure ru),some (.pure dp),some (.pure row),some (.pure col),some (.pure (.exc (ce [78,111,80,108,97,99,101]) .non))] = .ok (.ret (.pure (.bl true))) [some (S.pure ru),some (.pure dp),some (.pure row),some (.pure col),some (.pure (.exc (ce [78,111,80,108,97,99,101]) .non))]:=by
  simp [z05,ios,ndup,z0p,evX,eVar,mkA,gk,putA,q1]
 have et:dTry ce ys 4 (z6C (z41 GT [.val (eVar 0),.val (eVar 1),.val (eVar 2),.val (eVar 3)])) (dRet (eOp pEq (z05 GK [.val (eVar 4)]) (bOf (eD (.str [112,108,97,99,101]))))) [some (S.pure ru),some (.pure dp),some (.pure row),some (.pure col),none] = .ok (.ret (.pure (.bl true))) [some (S.pure ru),some (.pure dp),some (.pure row),some (.pure col),none]:=by
  unfold dTry
  rw [no,eb]
  simp only [if_true]
  rw [if_pos hc,Q5,Q5,Q5,Q5,QK,eh]
  simp [unset]
 rw [z1N,st,z76,et]
 simp [ioOk,z0M,z0e]
theorem r_np {h w:Nat} (bs:List (Nat×List Tx)) (dp row col:D) (hr:NX row) (hc:NX col) (hz:(wi ((h:Int) - 1) row && wi ((w:Int) - 1) col)=false) :
  z0t ce [.pure (ruD h w bs),.pure dp,.pure row,.pure col]=some (.pure (.bl true),[.pure (ruD h w bs),.pure dp,.pure row,.pure col]):=by
 rw [z0t,z1Q]
 exact q_np ce _ _ _ _ _ _ (zbm bs dp row col hr hc hz) (zbL ce .non)
end
theorem zaa {w:Nat} {fl:List Tx} (h:Rect w fl) (c:Nat) (hc:c < w):z13 [.pure (flD fl),.pure (.int c)]=some (.pure (.str (fl.map fun r=>r.getD c 0)),[.pure (flD fl),.pure (.int c)]):=by
 have h1:=h.h1
 have e:=z4S (cs:=[2]) (g:=gNm [] 2) (t:=dYes) (el:=eOpF pIx 2 (bVar 1)) (fun d=>match d with | .str r=>.str [r.getD c 0] | _=>.non) [some (.pure (flD fl)),some (.pure (.int c)),none] (fl.map .str) [] (by rw [z0N]; simp; omega) (fun d hd=>by
  simp at hd
  obtain ⟨r,hr,rfl⟩:=hd
  have hl:=h.all r hr
  have:=h.w1
  exact ⟨_,_,_,_,rfl,rfl,by simp [eOpF,eOpN,bVar,z3v r c (by omega) (by omega)]; exact ⟨rfl,rfl⟩,rfl,rfl⟩)
 unfold z13 gOf z2x runD
 have ej:=z4i (fl.map fun r=>r.getD c 0) (by simp; omega)
 simp [Q3,Function.comp_def] at ej e
 simp [ioOk,z0h,z2C,eVar,z0p,clrD,e,ej,z0M,z0e,z1e,Q3,Function.comp_def]
theorem za9 {w:Nat} {fl:List Tx} (h:Rect w fl):z0T [.pure (flD fl)]=some (.pure (flD (turn w fl)),[.pure (flD fl)]):=by
 obtain ⟨r0,hr0,hl0⟩:=z9m h
 have hw:=h.w1
 have e:=z4S (cs:=[1]) (g:=gNm [] 1) (t:=dYes) (el:=z05 z13 [.val (eVar 0),.val (eVar 1)]) (fun d=>match d with | .int c=>.str (fl.map fun r=>r.getD c.toNat 0) | _=>.non) [some (.pure (flD fl)),none] (z0A 0 w) [] (by rw [z0N]; simp [z0A]; omega) (fun d hd=>by
  simp [z0A] at hd
  obtain ⟨c,hc,rfl⟩:=hd
  exact ⟨_,_,_,_,rfl,rfl,by simp [z05,ios,ndup,evX,eVar,mkA,zaa h c hc,putA]; exact ⟨rfl,rfl⟩,rfl,rfl⟩)
 unfold z0T gOf z27 runD
 have hm:List.map (fun (d:D)=>match d with | .int c=>D.str (fl.map fun (r:Tx)=>r.getD c.toNat 0) | _=>.non) (z0A 0 w)=(turn w fl).map .str:=by
  simp [z0A,turn]
 rw [hm] at e
 simp at e
 have e0:pIx (flD fl) (.int 0)=some (.pure (.str r0)):=by simp [pIx,z1s,hr0]
 simp [ioOk,z0h,eOpF,eOpN,bVar,e0,z5i r0 (by omega),hl0,z3V w (by omega),z0p,clrD,e,z0m,z0M,z0e,z1e]
theorem zbN {w:Nat} {fl:List Tx} (h:Rect w fl):z1a [.pure (flD fl)]=some (.pure (flD (turn w fl)),[.pure (flD fl)]):=by
 have h1:=h.h1
 have hw:=h.w1
 obtain ⟨r0,hr0,hl0⟩:=z9m h
 have e0:pIx (flD fl) (.int 0)=some (.pure (.str r0)):=by simp [pIx,z1s,hr0]
 have hl:=z5i r0 (by omega)
 rw [hl0] at hl
 obtain ⟨δ',e,a,rfl⟩:=z1b (g:=gNm [] 2) (b:=(z0s 1 (eC1 (z2h []) (bOf (z0r [3] (iSq (eVar 0)) (gNm [] 3) dYes (eOpF pIx 3 (bVar 2))))))) (fun n δ=>∃ a,δ=[some (.pure (flD fl)),some (.own (.lst (((turn w fl).take n).map .str))),a,none]) (z0A 0 w) 0 [some (.pure (flD fl)),some (.own (.lst [])),none,none] ⟨none,by simp⟩ (fun i d δ hd ⟨a,e⟩=>by
  subst e
  obtain ⟨hi,rfl⟩:=z19 hd
  rw [WQ]
  have ht:((turn w fl).take (i + 1)).map D.str=((turn w fl).take i).map D.str ++ [.str (fl.map fun r=>r.getD i 0)]:=by
   rw [Qr]
   simp [turn,hi]
  have hz:(((turn w fl).take i).map D.str).length < W6:=by rw [z0N]; simp [turn]; omega
  generalize ((turn w fl).take i).map D.str=acc at *
  have ec:=z1l (cs:=[3]) (g:=gNm [] 3) (t:=dYes) (el:=(eOpF pIx 3 (bVar 2))) D.str (fun r:Tx=>D.str [r.getD i 0]) [some (.pure (flD fl)),some (.own (.lst acc)),some (.pure (.int i)),none] fl [] (by rw [z0N]; simp; omega) (fun r hr=>by
   have hl:=h.all r hr
   have hx:=z3v r i (by omega) (by omega)
   refine ⟨_,_,.pure (.str [r.getD i 0]),[some (.pure (flD fl)),some (.own (.lst acc)),some (.pure (.int i)),some (.pure (.str r))],rfl,rfl,?_,rfl,rfl⟩
   generalize flD fl=df at *
   generalize r.getD i 0=z at *
   simp only [zbe,eOpF,eOpN,bVar,Q5,QK,WR,WJ,z0o,z5P,z75,hx])
  have eT:(fl.map fun r:Tx=>D.str [r.getD i 0])=(fl.map fun r:Tx=>r.getD i 0).map fun n=>D.str [n]:=by simp
  rw [WZ,eT] at ec
  have ej:=z4i (fl.map fun r:Tx=>r.getD i 0) (by simp; omega)
  refine ⟨_,[some (.pure (flD fl)),some (.own (.lst (((turn w fl).take (i + 1)).map .str))),some (.pure (.int i)),none],rfl,?_,_,rfl⟩
  rw [ht]
  have hsq:∀ o:Option S,iSq (eVar 0) [some (.pure (flD fl)),some (.own (.lst acc)),some (.pure (.int i)),o] = .ok (fl.map .str) [some (.pure (flD fl)),some (.own (.lst acc)),some (.pure (.int i)),o]:=fun o=>by simp [z2C,eVar]
  generalize (fl.map fun r:Tx=>r.getD i 0)=col at *
  generalize flD fl=df at *
  generalize fl.map D.str=fd at *
  simp [z0s,z2j,hsq,z0p,clrD]
  rw [ec]
  simp [z1e,ej,putL,hz])
 have ht:(turn w fl).take (0 + (z0A 0 w).length)=turn w fl:=by
  rw [QO]
  simp [turn,z0A]
 rw [ht] at e
 rw [z1a,z1N,z2R]
 generalize hfd:(turn w fl).map D.str=fd at *
 generalize flD fl=df at *
 simp [ioOk,z0h,dAsg,eOpF,eOpN,bVar,e0,hl,z3V w (by omega)]
 rw [e]
 simp [bVar,z0m,z0M,z0e]
 exact hfd.symm
theorem z5Y {cs:List Nat} {g:DG} {el:DE} {h w:Nat} {bs:List (Nat×List Tx)} (hn:bs.length≤52) (δ:Dl) (step:∀ b ∈ bs,∃ δ1 δ3,g (.pure (blD b)) δ=some δ1∧el δ1 = .ok (.pure (blD (b.1,turn w b.2))) δ3∧clrD cs δ3=δ) :
  z1u cs g dYes el (bs.map blD) δ [] = .ok ((z2m w bs).map blD) δ:=by
 have e:=z1l (cs:=cs) (g:=g) (t:=dYes) (el:=el) blD (fun b:Nat×List Tx=>blD (b.1,turn w b.2)) δ bs [] (by rw [z0N]; simp; omega) (fun b hb=>by
  obtain ⟨δ1,δ3,e1,e2,e3⟩:=step b hb
  exact ⟨δ1,δ1,_,δ3,e1,rfl,e2,e3,rfl⟩)
 rw [e]
 simp [z2m]
theorem z5y {h w:Nat} {bs:List (Nat×List Tx)} (R:RuQ h w bs):z1c [.pure (ruD h w bs)]=some (.pure (ruD w h (z2m w bs)),[.pure (ruD h w bs)]):=by
 have e:=z5Y (cs:=[4,5]) (g:=(gTp 2 (z03 (gNm [] 4) (z03 (gNm [] 5) z0y)))) (el:=(eTup (z00 (eVar 4) (z00 (z05 z0T [.val (eVar 5)]) aNil)))) (h:=h) (w:=w) R.n1 [some (.pure (ruD h w bs)),some (.pure (.int h)),some (.pure (.int w)),some (.pure (.tup (bs.map blD))),none,none] (fun b hb=>by
  have g:=za9 (R.rect hb)
  refine ⟨[some (.pure (ruD h w bs)),some (.pure (.int h)),some (.pure (.int w)),some (.pure (.tup (bs.map blD))),some (.pure (.str [b.1])),some (.pure (flD b.2))],[some (.pure (ruD h w bs)),some (.pure (.int h)),some (.pure (.int w)),some (.pure (.tup (bs.map blD))),some (.pure (.str [b.1])),some (.pure (flD b.2))],by simp [gTp,z03,z0y],?_,rfl⟩
  generalize hf2:flD (turn w b.2)=f2 at *
  generalize flD b.2=f1 at *
  generalize ruD h w bs=ru at *
  generalize D.tup (bs.map blD)=bl at *
  simp [eVar,z05,ios,ndup,z0p,evX,mkA,g,putA]
  exact hf2.symm)
 rw [z1c,z1N,z2w]
 have hsq:iSq (eVar 3) [some (.pure (ruD h w bs)),some (.pure (.int h)),some (.pure (.int w)),some (.pure (.tup (bs.map blD))),none,none] = .ok (bs.map blD) [some (.pure (ruD h w bs)),some (.pure (.int h)),some (.pure (.int w)),some (.pure (.tup (bs.map blD))),none,none]:=by simp [z2C,eVar]
 have ha:dAsg (eVar 0) (gTp 3 (z03 (gNm [] 1) (z03 (gNm [] 2) (z03 (gNm [] 3) z0y)))) (z0h 6 [.pure (ruD h w bs)]) = .ok .next [some (.pure (ruD h w bs)),some (.pure (.int h)),some (.pure (.int w)),some (.pure (.tup (bs.map blD))),none,none]:=by simp [z0h,dAsg,eVar,gTp,z03,z0y]
 rw [z76,ha]
 generalize hpp:(z2m w bs).map blD=pp at *
 generalize hru:ruD h w bs=ru at *
 generalize D.tup (bs.map blD)=bl at *
 simp [eVar,hsq,z0p,clrD]
 rw [e]
 simp [z1e,z0m,ioOk,z0M,z0e]
 exact hpp.symm
theorem z4X {h w:Nat} {bs:List (Nat×List Tx)} (R:RuQ h w bs) (st pa:D):z0S [.pure (.tup [ruD h w bs,st,pa])]=some (.pure (.tup [ruD w h (z2m w bs),st,pa]),[.pure (.tup [ruD h w bs,st,pa])]):=by
 have g:=z5y R
 rw [z0S,z1N,z26]
 generalize ruD w h (z2m w bs)=r2 at *
 generalize ruD h w bs=ru at *
 simp [ioOk,z0h,dAsg,eVar,gTp,z03,z0y,z05,ios,ndup,z0p,evX,mkA,g,putA,z0M,z0e]
theorem z9l (n:Nat) (ps:List (Nat×Nat)):flat (n + 2) (paD ps)=true:=by
 unfold flat
 induction ps with
 | nil=>rfl
 | cons p r ih=>simp [z2W,flat] at ih ⊢; exact ih
theorem z97 {d:D} (h:flat 50 d=true):pNe d d=some (.pure (.bl false)):=by unfold pNe; rw [h,z4l h]; rfl
theorem zaN (ds:List D):pAll (.lst (ds.map fun _=>D.bl true))=some (.pure (.bl true)):=by
 have e:(ds.map fun _=>D.bl true)=(ds.map fun _=>true).map .bl:=by simp
 unfold pAll
 simp only [e,zaB]
 simp
theorem one (GT:DX) {h w:Nat} {bs:List (Nat×List Tx)} (R:RuQ h w bs) {ps:List (Nat×Nat)} (hps:ps.map (·.1)=bs.map (·.1)) {r k:Nat} (hr:r < h) (hk:k < w)
  (gt:GT [.pure (ruD h w bs),.pure (paD ps),.pure (.int r),.pure (.int k)]=some (.inl (.pure (paD (tkL bs ps r k)),[.pure (ruD h w bs),.pure (paD ps),.pure (.int r),.pure (.int k)]))) (scr:D) (c:Int) (st:Nat) (o8 o9 o10:Option S) :
  (dSeq (dAsg (z2z GT [.val (eVar 2),.val (eVar 4),.val (eVar 6),.val (eVar 7)]) (gNm [] 8)) (dSeq (dIf (dOr (dNot (dTr (eIsi "tuple" (bVar 8)))) (dNot (dTr (eC1 pAll (bOf (z0r [13] (iSq (eVar 8)) (gNm [] 13) dYes (eIsi "tuple" (bVar 13)))))))) (dRet (eD (.bl false))) z0O) (dIf (dTr (eOpF pNe 8 (bOf (eC1 z0m (bOf (z0r [11,12] (iSq (eOpF pIx 2 (bOf (eD (.int 2))))) (gTp 2 (z03 (gNm [] 11) (z03 (gNm [] 12) z0y))) dYes (eTup (z00 (eVar 11) (z00 (eOpF pIxX 5 (bOf (eOp pIx (eOpF pIx 12 (bVar 6)) (bVar 7)))) aNil))))))))) (dRet (eD (.bl false))) z0O))) [some (.pure scr),some (.pure (.int c)),some (.pure (ruD h w bs)),some (.pure (.str [st])),some (.pure (paD ps)),some (.own (dsD ps)),some (.pure (.int r)),some (.pure (.int k)),o8,o9,o10,none,none,none] = .ok .next [some (.pure scr),some (.pure (.int c)),some (.pure (ruD h w bs)),some (.pure (.str [st])),some (.pure (paD ps)),some (.own (dsD ps)),some (.pure (.int r)),some (.pure (.int k)),some (.pure (paD (tkL bs ps r k))),o9,o10,none,none,none]:=by
 have x2:=(z66 h w bs).2.2
 have n1:=R.n1
 have e1:=z1l (cs:=[13]) (g:=gNm [] 13) (t:=dYes) (el:=(eIsi "tuple" (bVar 13))) (fun p:Nat×Nat=>D.tup [.str [p.1],.str [p.2]]) (fun _=>D.bl true) [some (.pure scr),some (.pure (.int c)),some (.pure (ruD h w bs)),some (.pure (.str [st])),some (.pure (paD ps)),some (.own (dsD ps)),some (.pure (.int r)),some (.pure (.int k)),some (.pure (paD (tkL bs ps r k))),o9,o10,none,none,none] (tkL bs ps r k) [] (by rw [z0N]; simp [tkL]; omega) (fun p _=>⟨_,_,.pure (.bl true),[some (.pure scr),some (.pure (.int c)),some (.pure (ruD h w bs)),some (.pure (.str [st])),some (.pure (paD ps)),some (.own (dsD ps)),some (.pure (.int r)),some (.pure (.int k)),some (.pure (paD (tkL bs ps r k))),o9,o10,none,none,some (.pure (.tup [.str [p.1],.str [p.2]]))],rfl,rfl,rfl,rfl,rfl⟩)
 have e2:=z9E (cs:=[11,12]) (g:=(gTp 2 (z03 (gNm [] 11) (z03 (gNm [] 12) z0y)))) (el:=(eTup (z00 (eVar 11) (z00 (eOpF pIxX 5 (bOf (eOp pIx (eOpF pIx 12 (bVar 6)) (bVar 7)))) aNil)))) (h:=h) (w:=w) n1 (ps:=ps) (r:=r) (c:=k) [some (.pure scr),some (.pure (.int c)),some (.pure (ruD h w bs)),some (.pure (.str [st])),some (.pure (paD ps)),some (.own (dsD ps)),some (.pure (.int r)),some (.pure (.int k)),some (.pure (paD (tkL bs ps r k))),o9,o10,none,none,none] (fun b hb=>by
  obtain ⟨row,c1,c2,c3⟩:=z9I R hb hr hk
  have g:=z43 (zdv (by rw [hps]; exact c3))
  refine ⟨[some (.pure scr),some (.pure (.int c)),some (.pure (ruD h w bs)),some (.pure (.str [st])),some (.pure (paD ps)),some (.own (dsD ps)),some (.pure (.int r)),some (.pure (.int k)),some (.pure (paD (tkL bs ps r k))),o9,o10,some (.pure (.str [b.1])),some (.pure (flD b.2)),none],[some (.pure scr),some (.pure (.int c)),some (.pure (ruD h w bs)),some (.pure (.str [st])),some (.pure (paD ps)),some (.own (dsD ps)),some (.pure (.int r)),some (.pure (.int k)),some (.pure (paD (tkL bs ps r k))),o9,o10,some (.pure (.str [b.1])),some (.pure (flD b.2)),none],by simp [gTp,z03,z0y],?_,rfl⟩
  generalize paD (tkL bs ps r k)=dt at *
  generalize flD b.2=fb at *
  generalize dsD ps=dd at *
  generalize paD ps=dp at *
  generalize ruD h w bs=ru at *
  simp [eVar,eOpF,eOpN,bVar,c1,c2,g])
 have hne:=z97 (z9l 48 (tkL bs ps r k))
 have ha:pAll (.lst ((tkL bs ps r k).map fun _=>D.bl true))=some (.pure (.bl true)):=by
  have:=zaN ((tkL bs ps r k).map fun p=>D.tup [.str [p.1],.str [p.2]])
  rwa [Q3] at this
 rw [WZ] at e1
 refine z0f (δ1:=[some (.pure scr),some (.pure (.int c)),some (.pure (ruD h w bs)),some (.pure (.str [st])),some (.pure (paD ps)),some (.own (dsD ps)),some (.pure (.int r)),some (.pure (.int k)),some (.pure (paD (tkL bs ps r k))),o9,o10,none,none,none]) (by
  generalize paD (tkL bs ps r k)=dt at *
  generalize dsD ps=dd at *
  generalize paD ps=dp at *
  generalize ruD h w bs=ru at *
  simp [dAsg,z2z,ios,ndup,z0p,evX,eVar,mkA,gt,putA]) ?_
 refine z0f (δ1:=[some (.pure scr),some (.pure (.int c)),some (.pure (ruD h w bs)),some (.pure (.str [st])),some (.pure (paD ps)),some (.own (dsD ps)),some (.pure (.int r)),some (.pure (.int k)),some (.pure (paD (tkL bs ps r k))),o9,o10,none,none,none]) (by
  have h1:eIsi "tuple" (bVar 8) [some (.pure scr),some (.pure (.int c)),some (.pure (ruD h w bs)),some (.pure (.str [st])),some (.pure (paD ps)),some (.own (dsD ps)),some (.pure (.int r)),some (.pure (.int k)),some (.pure (paD (tkL bs ps r k))),o9,o10,none,none,none] = .ok (.pure (.bl true)) [some (.pure scr),some (.pure (.int c)),some (.pure (ruD h w bs)),some (.pure (.str [st])),some (.pure (paD ps)),some (.own (dsD ps)),some (.pure (.int r)),some (.pure (.int k)),some (.pure (paD (tkL bs ps r k))),o9,o10,none,none,none]:=rfl
  have h2:(z0r [13] (iSq (eVar 8)) (gNm [] 13) dYes (eIsi "tuple" (bVar 13))) [some (.pure scr),some (.pure (.int c)),some (.pure (ruD h w bs)),some (.pure (.str [st])),some (.pure (paD ps)),some (.own (dsD ps)),some (.pure (.int r)),some (.pure (.int k)),some (.pure (paD (tkL bs ps r k))),o9,o10,none,none,none] = .ok (.own (.lst ((tkL bs ps r k).map fun _=>D.bl true))) [some (.pure scr),some (.pure (.int c)),some (.pure (ruD h w bs)),some (.pure (.str [st])),some (.pure (paD ps)),some (.own (dsD ps)),some (.pure (.int r)),some (.pure (.int k)),some (.pure (paD (tkL bs ps r k))),o9,o10,none,none,none]:=by
   rw [z5O]
   have hit:iSq (eVar 8) [some (.pure scr),some (.pure (.int c)),some (.pure (ruD h w bs)),some (.pure (.str [st])),some (.pure (paD ps)),some (.own (dsD ps)),some (.pure (.int r)),some (.pure (.int k)),some (.pure (paD (tkL bs ps r k))),o9,o10,none,none,none] = .ok ((tkL bs ps r k).map fun p=>D.tup [.str [p.1],.str [p.2]]) [some (.pure scr),some (.pure (.int c)),some (.pure (ruD h w bs)),some (.pure (.str [st])),some (.pure (paD ps)),some (.own (dsD ps)),some (.pure (.int r)),some (.pure (.int k)),some (.pure (paD (tkL bs ps r k))),o9,o10,none,none,none]:=rfl
   rw [hit]
   generalize (tkL bs ps r k).map (fun p=>D.tup [.str [p.1],.str [p.2]])=xs at *
   generalize (tkL bs ps r k).map (fun _=>D.bl true)=ys' at *
   generalize paD (tkL bs ps r k)=dt at *
   generalize dsD ps=dd at *
   generalize paD ps=dp at *
   generalize ruD h w bs=ru at *
   simp [z0p,clrD]
   rw [e1]
   simp [z1e]
  simp only [z9s,zdP,zck,dTr,h1,z9r,z4O,h2,z0o,z9t,zdN,ha]
  rfl) ?_
 have h3:eC1 z0m (bOf (z0r [11,12] (iSq (eOpF pIx 2 (bOf (eD (.int 2))))) (gTp 2 (z03 (gNm [] 11) (z03 (gNm [] 12) z0y))) dYes (eTup (z00 (eVar 11) (z00 (eOpF pIxX 5 (bOf (eOp pIx (eOpF pIx 12 (bVar 6)) (bVar 7)))) aNil))))) [some (.pure scr),some (.pure (.int c)),some (.pure (ruD h w bs)),some (.pure (.str [st])),some (.pure (paD ps)),some (.own (dsD ps)),some (.pure (.int r)),some (.pure (.int k)),some (.pure (paD (tkL bs ps r k))),o9,o10,none,none,none] = .ok (.pure (paD (tkL bs ps r k))) [some (.pure scr),some (.pure (.int c)),some (.pure (ruD h w bs)),some (.pure (.str [st])),some (.pure (paD ps)),some (.own (dsD ps)),some (.pure (.int r)),some (.pure (.int k)),some (.pure (paD (tkL bs ps r k))),o9,o10,none,none,none]:=by
  have hit:iSq (eOpF pIx 2 (bOf (eD (.int 2)))) [some (.pure scr),some (.pure (.int c)),some (.pure (ruD h w bs)),some (.pure (.str [st])),some (.pure (paD ps)),some (.own (dsD ps)),some (.pure (.int r)),some (.pure (.int k)),some (.pure (paD (tkL bs ps r k))),o9,o10,none,none,none] = .ok (bs.map blD) [some (.pure scr),some (.pure (.int c)),some (.pure (ruD h w bs)),some (.pure (.str [st])),some (.pure (paD ps)),some (.own (dsD ps)),some (.pure (.int r)),some (.pure (.int k)),some (.pure (paD (tkL bs ps r k))),o9,o10,none,none,none]:=by
   generalize paD (tkL bs ps r k)=dt at *
   generalize dsD ps=dd at *
   generalize paD ps=dp at *
   generalize ruD h w bs=ru at *
   simp [z2C,eOpF,eOpN,bVar,x2]
  rw [z9r,z4O,z5O,hit]
  generalize hxs:(tkL bs ps r k).map (fun p=>D.tup [.str [p.1],.str [p.2]])=xs at *
  generalize dsD ps=dd at *
  generalize paD ps=dp at *
  generalize ruD h w bs=ru at *
  simp [z0p,clrD]
  rw [e2]
  simp [z1e,z0m]
  exact hxs.symm
 generalize paD (tkL bs ps r k)=dt at *
 rw [z9s]
 simp only [dTr,eOpF,eOpN,z4O,h3,z0o,z5P,bVar,WR,WJ,z75,hne]
 rfl
theorem loopA (GT:DX) {h w:Nat} {bs:List (Nat×List Tx)} (R:RuQ h w bs) {ps:List (Nat×Nat)} (hps:ps.map (·.1)=bs.map (·.1)) (hT:∀ {r k:Nat},r < h→k < w→GT [.pure (ruD h w bs),.pure (paD ps),.pure (.int r),.pure (.int k)]=some (.inl (.pure (paD (tkL bs ps r k)),[.pure (ruD h w bs),.pure (paD ps),.pure (.int r),.pure (.int k)]))) (scr:D) (c:Int) (st:Nat) (o6 o7 o8 o9 o10:Option S) :
  ∃ p6 p7 p8,(dFor (z0x (eOpF pIx 2 (bOf (eD (.int 0))))) (gNm [] 6) (dFor (z0x (eOpF pIx 2 (bOf (eD (.int 1))))) (gNm [] 7) (dSeq (dAsg (z2z GT [.val (eVar 2),.val (eVar 4),.val (eVar 6),.val (eVar 7)]) (gNm [] 8)) (dSeq (dIf (dOr (dNot (dTr (eIsi "tuple" (bVar 8)))) (dNot (dTr (eC1 pAll (bOf (z0r [13] (iSq (eVar 8)) (gNm [] 13) dYes (eIsi "tuple" (bVar 13)))))))) (dRet (eD (.bl false))) z0O) (dIf (dTr (eOpF pNe 8 (bOf (eC1 z0m (bOf (z0r [11,12] (iSq (eOpF pIx 2 (bOf (eD (.int 2))))) (gTp 2 (z03 (gNm [] 11) (z03 (gNm [] 12) z0y))) dYes (eTup (z00 (eVar 11) (z00 (eOpF pIxX 5 (bOf (eOp pIx (eOpF pIx 12 (bVar 6)) (bVar 7)))) aNil))))))))) (dRet (eD (.bl false))) z0O))))) [some (.pure scr),some (.pure (.int c)),some (.pure (ruD h w bs)),some (.pure (.str [st])),some (.pure (paD ps)),some (.own (dsD ps)),o6,o7,o8,o9,o10,none,none,none] = .ok .next [some (.pure scr),some (.pure (.int c)),some (.pure (ruD h w bs)),some (.pure (.str [st])),some (.pure (paD ps)),some (.own (dsD ps)),p6,p7,p8,o9,o10,none,none,none]:=by
 obtain ⟨x0,x1,x2⟩:=z66 h w bs
 have h1:=R.h1
 have w1:=R.w1
 obtain ⟨δ',e,p6,p7,p8,rfl⟩:=z1b (g:=gNm [] 6) (b:=(dFor (z0x (eOpF pIx 2 (bOf (eD (.int 1))))) (gNm [] 7) (dSeq (dAsg (z2z GT [.val (eVar 2),.val (eVar 4),.val (eVar 6),.val (eVar 7)]) (gNm [] 8)) (dSeq (dIf (dOr (dNot (dTr (eIsi "tuple" (bVar 8)))) (dNot (dTr (eC1 pAll (bOf (z0r [13] (iSq (eVar 8)) (gNm [] 13) dYes (eIsi "tuple" (bVar 13)))))))) (dRet (eD (.bl false))) z0O) (dIf (dTr (eOpF pNe 8 (bOf (eC1 z0m (bOf (z0r [11,12] (iSq (eOpF pIx 2 (bOf (eD (.int 2))))) (gTp 2 (z03 (gNm [] 11) (z03 (gNm [] 12) z0y))) dYes (eTup (z00 (eVar 11) (z00 (eOpF pIxX 5 (bOf (eOp pIx (eOpF pIx 12 (bVar 6)) (bVar 7)))) aNil))))))))) (dRet (eD (.bl false))) z0O))))) (fun _ δ=>∃ p6 p7 p8,δ=[some (.pure scr),some (.pure (.int c)),some (.pure (ruD h w bs)),some (.pure (.str [st])),some (.pure (paD ps)),some (.own (dsD ps)),p6,p7,p8,o9,o10,none,none,none]) (z0A 0 h) 0 [some (.pure scr),some (.pure (.int c)),some (.pure (ruD h w bs)),some (.pure (.str [st])),some (.pure (paD ps)),some (.own (dsD ps)),o6,o7,o8,o9,o10,none,none,none] ⟨o6,o7,o8,rfl⟩ (fun i d δ hd ⟨p6,p7,p8,e⟩=>by
  subst e
  obtain ⟨hi,rfl⟩:=z19 hd
  obtain ⟨δ',e,q7,q8,rfl⟩:=z1b (g:=gNm [] 7) (b:=(dSeq (dAsg (z2z GT [.val (eVar 2),.val (eVar 4),.val (eVar 6),.val (eVar 7)]) (gNm [] 8)) (dSeq (dIf (dOr (dNot (dTr (eIsi "tuple" (bVar 8)))) (dNot (dTr (eC1 pAll (bOf (z0r [13] (iSq (eVar 8)) (gNm [] 13) dYes (eIsi "tuple" (bVar 13)))))))) (dRet (eD (.bl false))) z0O) (dIf (dTr (eOpF pNe 8 (bOf (eC1 z0m (bOf (z0r [11,12] (iSq (eOpF pIx 2 (bOf (eD (.int 2))))) (gTp 2 (z03 (gNm [] 11) (z03 (gNm [] 12) z0y))) dYes (eTup (z00 (eVar 11) (z00 (eOpF pIxX 5 (bOf (eOp pIx (eOpF pIx 12 (bVar 6)) (bVar 7)))) aNil))))))))) (dRet (eD (.bl false))) z0O)))) (fun _ δ=>∃ q7 q8,δ=[some (.pure scr),some (.pure (.int c)),some (.pure (ruD h w bs)),some (.pure (.str [st])),some (.pure (paD ps)),some (.own (dsD ps)),some (.pure (.int i)),q7,q8,o9,o10,none,none,none]) (z0A 0 w) 0 [some (.pure scr),some (.pure (.int c)),some (.pure (ruD h w bs)),some (.pure (.str [st])),some (.pure (paD ps)),some (.own (dsD ps)),some (.pure (.int i)),p7,p8,o9,o10,none,none,none] ⟨p7,p8,rfl⟩ (fun j d δ hd ⟨q7,q8,e⟩=>by
   subst e
   obtain ⟨hj,rfl⟩:=z19 hd
   exact ⟨_,_,rfl,one GT R hps hi hj (hT hi hj) scr c st q8 o9 o10,_,_,rfl⟩)
  refine ⟨[some (.pure scr),some (.pure (.int c)),some (.pure (ruD h w bs)),some (.pure (.str [st])),some (.pure (paD ps)),some (.own (dsD ps)),some (.pure (.int i)),p7,p8,o9,o10,none,none,none],[some (.pure scr),some (.pure (.int c)),some (.pure (ruD h w bs)),some (.pure (.str [st])),some (.pure (paD ps)),some (.own (dsD ps)),some (.pure (.int i)),q7,q8,o9,o10,none,none,none],rfl,?_,_,q7,q8,rfl⟩
  have hit:z0x (eOpF pIx 2 (bOf (eD (.int 1)))) [some (.pure scr),some (.pure (.int c)),some (.pure (ruD h w bs)),some (.pure (.str [st])),some (.pure (paD ps)),some (.own (dsD ps)),some (.pure (.int i)),p7,p8,o9,o10,none,none,none] = .ok (z0A 0 w) [some (.pure scr),some (.pure (.int c)),some (.pure (ruD h w bs)),some (.pure (.str [st])),some (.pure (paD ps)),some (.own (dsD ps)),some (.pure (.int i)),p7,p8,o9,o10,none,none,none]:=by
   generalize dsD ps=dd at *
   generalize paD ps=dp at *
   generalize ruD h w bs=ru at *
   simp [eOpF,eOpN,bVar,x1,z3V w (by omega:w≤1000000)]
  rw [z2u,hit]
  exact e)
 refine ⟨p6,p7,p8,?_⟩
 have hit:z0x (eOpF pIx 2 (bOf (eD (.int 0)))) [some (.pure scr),some (.pure (.int c)),some (.pure (ruD h w bs)),some (.pure (.str [st])),some (.pure (paD ps)),some (.own (dsD ps)),o6,o7,o8,o9,o10,none,none,none] = .ok (z0A 0 h) [some (.pure scr),some (.pure (.int c)),some (.pure (ruD h w bs)),some (.pure (.str [st])),some (.pure (paD ps)),some (.own (dsD ps)),o6,o7,o8,o9,o10,none,none,none]:=by
  generalize dsD ps=dd at *
  generalize paD ps=dp at *
  generalize ruD h w bs=ru at *
  simp [eOpF,eOpN,bVar,x0,z3V h (by omega:h≤1000000)]
 rw [z2u,hit]
 exact e
theorem loopB (GN:DF) (ru dp:D) (hN:∀ d:D,NX d→wi 4 d=false→GN [.pure ru,.pure dp,.pure d,.pure (.int 0)]=some (.pure (.bl true),[.pure ru,.pure dp,.pure d,.pure (.int 0)])∧GN [.pure ru,.pure dp,.pure (.int 0),.pure d]=some (.pure (.bl true),[.pure ru,.pure dp,.pure (.int 0),.pure d])) (s5:Option S) (scr:D) (c:Int) (o3 o6 o7 o8 o9 o10:Option S) :
  ∃ p9,(dFor (iSq (eLst (z00 (eC1 pNeg (bOf (eD (.int 1)))) (z00 (eD (.bl true)) (z00 (eD .non) (z00 (eD (.str [48])) (z00 (eD (.tup [.int 0])) (z00 (eD (.int 5)) (z00 (eOp pPow (eD (.int 10)) (bOf (eD (.int 30)))) aNil))))))))) (gNm [] 9) (dIf (dOr (dNot (dTr (z05 GN [.val (eVar 2),.val (eVar 4),.val (eVar 9),.val (eD (.int 0))]))) (dNot (dTr (z05 GN [.val (eVar 2),.val (eVar 4),.val (eD (.int 0)),.val (eVar 9)])))) (dRet (eD (.bl false))) z0O)) [some (.pure scr),some (.pure (.int c)),some (.pure ru),o3,some (.pure dp),s5,o6,o7,o8,o9,o10,none,none,none] = .ok .next [some (.pure scr),some (.pure (.int c)),some (.pure ru),o3,some (.pure dp),s5,o6,o7,o8,p9,o10,none,none,none]:=by
 have turn1:∀ (d:D) (p9:Option S),NX d→wi 4 d=false→(dIf (dOr (dNot (dTr (z05 GN [.val (eVar 2),.val (eVar 4),.val (eVar 9),.val (eD (.int 0))]))) (dNot (dTr (z05 GN [.val (eVar 2),.val (eVar 4),.val (eD (.int 0)),.val (eVar 9)])))) (dRet (eD (.bl false))) z0O) [some (.pure scr),some (.pure (.int c)),some (.pure ru),o3,some (.pure dp),s5,o6,o7,o8,some (.pure d),o10,none,none,none] = .ok .next [some (.pure scr),some (.pure (.int c)),some (.pure ru),o3,some (.pure dp),s5,o6,o7,o8,some (.pure d),o10,none,none,none]:=fun d p9 h1 h2=>by
  obtain ⟨g1,g2⟩:=hN d h1 h2
  simp [dTr,z05,ios,ndup,z0p,evX,eVar,mkA,g1,g2,putA]
 obtain ⟨δ',e,p9,rfl⟩:=z1b (g:=gNm [] 9) (b:=(dIf (dOr (dNot (dTr (z05 GN [.val (eVar 2),.val (eVar 4),.val (eVar 9),.val (eD (.int 0))]))) (dNot (dTr (z05 GN [.val (eVar 2),.val (eVar 4),.val (eD (.int 0)),.val (eVar 9)])))) (dRet (eD (.bl false))) z0O)) (fun _ δ=>∃ p9,δ=[some (.pure scr),some (.pure (.int c)),some (.pure ru),o3,some (.pure dp),s5,o6,o7,o8,p9,o10,none,none,none]) [.int (-1),.bl true,.non,.str [48],.tup [.int 0],.int 5,.int (10 ^ 30)] 0 [some (.pure scr),some (.pure (.int c)),some (.pure ru),o3,some (.pure dp),s5,o6,o7,o8,o9,o10,none,none,none] ⟨o9,rfl⟩ (fun i d δ hd ⟨p9,e⟩=>by
  subst e
  have hm:=Wv hd
  have:NX d∧wi 4 d=false:=by
   simp at hm
   rcases hm with rfl | rfl | rfl | rfl | rfl | rfl | rfl <;> exact ⟨trivial,rfl⟩
  exact ⟨[some (.pure scr),some (.pure (.int c)),some (.pure ru),o3,some (.pure dp),s5,o6,o7,o8,some (.pure d),o10,none,none,none],[some (.pure scr),some (.pure (.int c)),some (.pure ru),o3,some (.pure dp),s5,o6,o7,o8,some (.pure d),o10,none,none,none],rfl,turn1 d p9 this.1 this.2,_,rfl⟩)
 refine ⟨p9,?_⟩
 have hp:pPow (.int 10) (.int 30)=some (.pure (.int (10 ^ 30))):=by rfl
 have hn:pNeg (.int 1)=some (.pure (.int (-1))):=by rfl
 generalize (10 ^ 30:Int)=big at *
 rw [z2u]
 simp only [z2C,zcj,zaD,zcm,z9r,z4O,zdO,zbf,z0o,z5P,z9t,zdN,z75,hp,hn]
 exact e
theorem zaz (h w:Nat) (bs:List (Nat×List Tx)):flat 49 (ruD h w bs)=true:=by
 have hb:∀ bs:List (Nat×List Tx),z2W 47 (bs.map blD)=true:=fun bs=>by
  induction bs with
  | nil=>rfl
  | cons b r ih =>
   simp only [Wq,z2W,Wg]
   refine ⟨?_,ih⟩
   have:=zcg 45 b.2
   simp only [blD,flat,z2W] at this ⊢
   simp only [this,Bool.and_self]
 simp only [ruD,flat,z2W,hb bs,Bool.and_self]
theorem z6y (h w:Nat) (bs:List (Nat×List Tx)) (st:Nat) (ps:List (Nat×Nat)):flat 50 (.tup [ruD h w bs,.str [st],paD ps])=true:=by
 have h1:=zaz h w bs
 have h2:=z9l 47 ps
 generalize ruD h w bs=a at *
 generalize paD ps=b at *
 simp [flat,z2W,h1,h2]
theorem turnT (GP GB GO GU:DF) (GT:DX) (GN:DF) (hP:∀ c:Int,∃ d,GP [.pure (.int c)]=some (.own d,[.pure (.int c)])∧Pen d)
  (hB:∀ pd,Pen pd→∃ (h w:Nat) (bs:List (Nat×List Tx)) (st:Nat) (ps:List (Nat×Nat)) (pd':D),GB [.own pd,.pure (.int 5)]=some (.pure (.tup [ruD h w bs,.str [st],paD ps]),[.own pd',.pure (.int 5)])∧RuQ h w bs∧ps.map (·.1)=bs.map (·.1)∧Pen pd')
  (hT:∀ {h w:Nat} {bs:List (Nat×List Tx)},RuQ h w bs→∀ {ps:List (Nat×Nat)},ps.map (·.1)=bs.map (·.1)→∀ {r c:Nat},r < h→c < w→GT [.pure (ruD h w bs),.pure (paD ps),.pure (.int r),.pure (.int c)]=some (.inl (.pure (paD (tkL bs ps r c)),[.pure (ruD h w bs),.pure (paD ps),.pure (.int r),.pure (.int c)])))
  (hN:∀ {h w:Nat} (bs:List (Nat×List Tx)) (dp row col:D),NX row→NX col→(wi ((h:Int) - 1) row && wi ((w:Int) - 1) col)=false→GN [.pure (ruD h w bs),.pure dp,.pure row,.pure col]=some (.pure (.bl true),[.pure (ruD h w bs),.pure dp,.pure row,.pure col]))
  (hO:∀ {w:Nat} {fl:List Tx},Rect w fl→GO [.pure (flD fl)]=some (.pure (flD (turn w fl)),[.pure (flD fl)]))
  (hU:∀ {h w:Nat} {bs:List (Nat×List Tx)},RuQ h w bs→∀ st pa:D,GU [.pure (.tup [ruD h w bs,st,pa])]=some (.pure (.tup [ruD w h (z2m w bs),st,pa]),[.pure (.tup [ruD h w bs,st,pa])])) (scr:D) (c:Int) (o2 o3 o4 o5 o6 o7 o8 o9 o10:Option S):∃ q2 q3 q4 q5 q6 q7 q8 q9 q10,(dSeq (dAsg (z42 GB (z05 GP [.val (eVar 1)]) [.val (eD (.int 5))]) (gTp 3 (z03 (gNm [] 2) (z03 (gNm [] 3) (z03 (gNm [] 4) z0y))))) (dSeq (dAsg (eC1 z24 (bVar 4)) (gNm [] 5)) (dSeq (dFor (z0x (eOpF pIx 2 (bOf (eD (.int 0))))) (gNm [] 6) (dFor (z0x (eOpF pIx 2 (bOf (eD (.int 1))))) (gNm [] 7) (dSeq (dAsg (z2z GT [.val (eVar 2),.val (eVar 4),.val (eVar 6),.val (eVar 7)]) (gNm [] 8)) (dSeq (dIf (dOr (dNot (dTr (eIsi "tuple" (bVar 8)))) (dNot (dTr (eC1 pAll (bOf (z0r [13] (iSq (eVar 8)) (gNm [] 13) dYes (eIsi "tuple" (bVar 13)))))))) (dRet (eD (.bl false))) z0O) (dIf (dTr (eOpF pNe 8 (bOf (eC1 z0m (bOf (z0r [11,12] (iSq (eOpF pIx 2 (bOf (eD (.int 2))))) (gTp 2 (z03 (gNm [] 11) (z03 (gNm [] 12) z0y))) dYes (eTup (z00 (eVar 11) (z00 (eOpF pIxX 5 (bOf (eOp pIx (eOpF pIx 12 (bVar 6)) (bVar 7)))) aNil))))))))) (dRet (eD (.bl false))) z0O))))) (dSeq (dFor (iSq (eLst (z00 (eC1 pNeg (bOf (eD (.int 1)))) (z00 (eD (.bl true)) (z00 (eD .non) (z00 (eD (.str [48])) (z00 (eD (.tup [.int 0])) (z00 (eD (.int 5)) (z00 (eOp pPow (eD (.int 10)) (bOf (eD (.int 30)))) aNil))))))))) (gNm [] 9) (dIf (dOr (dNot (dTr (z05 GN [.val (eVar 2),.val (eVar 4),.val (eVar 9),.val (eD (.int 0))]))) (dNot (dTr (z05 GN [.val (eVar 2),.val (eVar 4),.val (eD (.int 0)),.val (eVar 9)])))) (dRet (eD (.bl false))) z0O)) (dSeq (dIf (dOr (dNot (dTr (z05 GN [.val (eVar 2),.val (eVar 4),.val (eOpF pIx 2 (bOf (eD (.int 0)))),.val (eD (.int 0))]))) (dNot (dTr (z05 GN [.val (eVar 2),.val (eVar 4),.val (eD (.int 0)),.val (eOpF pIx 2 (bOf (eD (.int 1))))])))) (dRet (eD (.bl false))) z0O) (dSeq (dAsg (eTup (z00 (eOpF pIx 2 (bOf (eD (.int 1)))) (z00 (eOpF pIx 2 (bOf (eD (.int 0)))) (z00 (eC1 z0m (bOf (z0r [11,12] (iSq (eOpF pIx 2 (bOf (eD (.int 2))))) (gTp 2 (z03 (gNm [] 11) (z03 (gNm [] 12) z0y))) dYes (eTup (z00 (eVar 11) (z00 (z05 GO [.val (eVar 12)]) aNil)))))) aNil)))) (gNm [] 10)) (dIf (dTr (eOp pNe (z05 GU [.val (eTup (z00 (eVar 2) (z00 (eVar 3) (z00 (eVar 4) aNil))))]) (bOf (eTup (z00 (eVar 10) (z00 (eVar 3) (z00 (eVar 4) aNil))))))) (dRet (eD (.bl false))) z0O))))))) [some (.pure scr),some (.pure (.int c)),o2,o3,o4,o5,o6,o7,o8,o9,o10,none,none,none] = .ok .next [some (.pure scr),some (.pure (.int c)),q2,q3,q4,q5,q6,q7,q8,q9,q10,none,none,none]:=by
 obtain ⟨d0,e0,p0⟩:=hP c
 obtain ⟨h,w,bs,st,ps,d1,e1,R,hps,p1⟩:=hB d0 p0
 obtain ⟨x0,x1,x2⟩:=z66 h w bs
 have hl:ps.length=bs.length:=by have:=congrArg QM hps; simpa using this
 have n1:=R.n1
 have h1:=R.h1
 have w1:=R.w1
 have hd:=z9x (ps:=ps) (by rw [hps]; exact R.nd) (by omega)
 obtain ⟨a6,a7,a8,eA⟩:=loopA GT R hps (fun hr hk=>hT R hps hr hk) scr c st o6 o7 o8 o9 o10
 obtain ⟨a9,eB⟩:=loopB GN (ruD h w bs) (paD ps) (fun d hx hw=>by
  have hb:∀ m:Nat,m≤4→wi ((m:Int) - 1) d=false:=fun m hm=>by
   cases d with
   | int i=>simp [wi] at hw ⊢; omega
   | _=>rfl
  exact ⟨hN bs _ _ _ hx trivial (by rw [hb h h1]; rfl),hN bs _ _ _ trivial hx (by rw [hb w w1,Bool.and_false])⟩) (some (.own (dsD ps))) scr c (some (.pure (.str [st]))) a6 a7 a8 o9 o10
 have g1:=hN (h:=h) (w:=w) bs (paD ps) (.int h) (.int 0) trivial trivial (by simp [wi]; omega)
 have g2:=hN (h:=h) (w:=w) bs (paD ps) (.int 0) (.int w) trivial trivial (by simp [wi]; omega)
 have gU:=hU R (.str [st]) (paD ps)
 have eT:=z5Y (cs:=[11,12]) (g:=(gTp 2 (z03 (gNm [] 11) (z03 (gNm [] 12) z0y)))) (el:=(eTup (z00 (eVar 11) (z00 (z05 GO [.val (eVar 12)]) aNil)))) (h:=h) (w:=w) n1 [some (.pure scr),some (.pure (.int c)),some (.pure (ruD h w bs)),some (.pure (.str [st])),some (.pure (paD ps)),some (.own (dsD ps)),a6,a7,a8,a9,o10,none,none,none] (fun b hb=>by
  have g:=hO (R.rect hb)
  refine ⟨[some (.pure scr),some (.pure (.int c)),some (.pure (ruD h w bs)),some (.pure (.str [st])),some (.pure (paD ps)),some (.own (dsD ps)),a6,a7,a8,a9,o10,some (.pure (.str [b.1])),some (.pure (flD b.2)),none],[some (.pure scr),some (.pure (.int c)),some (.pure (ruD h w bs)),some (.pure (.str [st])),some (.pure (paD ps)),some (.own (dsD ps)),a6,a7,a8,a9,o10,some (.pure (.str [b.1])),some (.pure (flD b.2)),none],by simp [gTp,z03,z0y],?_,rfl⟩
  generalize hf2:flD (turn w b.2)=f2 at *
  generalize flD b.2=f1 at *
  generalize dsD ps=dd at *
  generalize paD ps=dp at *
  generalize ruD h w bs=ru at *
  simp [eVar,z05,ios,ndup,z0p,evX,mkA,g,putA]
  exact hf2.symm)
 have hne:pNe (.tup [ruD w h (z2m w bs),.str [st],paD ps]) (.tup [ruD w h (z2m w bs),.str [st],paD ps])=some (.pure (.bl false)):=z97 (z6y w h (z2m w bs) st ps)
 refine ⟨some (.pure (ruD h w bs)),(some (.pure (.str [st]))),some (.pure (paD ps)),(some (.own (dsD ps))),a6,a7,a8,a9,some (.pure (ruD w h (z2m w bs))),?_⟩
 refine z0f (δ1:=[some (.pure scr),some (.pure (.int c)),some (.pure (ruD h w bs)),some (.pure (.str [st])),some (.pure (paD ps)),o5,o6,o7,o8,o9,o10,none,none,none]) (by
  generalize hpa:paD ps=dp at *
  generalize hru:ruD h w bs=ru at *
  simp [dAsg,z42,z05,ios,ndup,z0p,evX,eVar,mkA,e0,putA,e1,gTp,z03,z0y]) ?_
 refine z0f (δ1:=[some (.pure scr),some (.pure (.int c)),some (.pure (ruD h w bs)),some (.pure (.str [st])),some (.pure (paD ps)),some (.own (dsD ps)),o6,o7,o8,o9,o10,none,none,none]) (by
  generalize dsD ps=dd at *
  generalize paD ps=dp at *
  generalize ruD h w bs=ru at *
  simp [dAsg,bVar,hd]) ?_
 refine z0f eA ?_
 refine z0f eB ?_
 refine z0f (δ1:=[some (.pure scr),some (.pure (.int c)),some (.pure (ruD h w bs)),some (.pure (.str [st])),some (.pure (paD ps)),some (.own (dsD ps)),a6,a7,a8,a9,o10,none,none,none]) (by
  generalize dsD ps=dd at *
  generalize paD ps=dp at *
  generalize ruD h w bs=ru at *
  simp [dTr,z05,ios,ndup,z0p,evX,eVar,eOpF,eOpN,bVar,x0,x1,mkA,g1,g2,putA]) ?_
 refine z0f (δ1:=[some (.pure scr),some (.pure (.int c)),some (.pure (ruD h w bs)),some (.pure (.str [st])),some (.pure (paD ps)),some (.own (dsD ps)),a6,a7,a8,a9,some (.pure (ruD w h (z2m w bs))),none,none,none]) (by
  have hit:iSq (eOpF pIx 2 (bOf (eD (.int 2)))) [some (.pure scr),some (.pure (.int c)),some (.pure (ruD h w bs)),some (.pure (.str [st])),some (.pure (paD ps)),some (.own (dsD ps)),a6,a7,a8,a9,o10,none,none,none] = .ok (bs.map blD) [some (.pure scr),some (.pure (.int c)),some (.pure (ruD h w bs)),some (.pure (.str [st])),some (.pure (paD ps)),some (.own (dsD ps)),a6,a7,a8,a9,o10,none,none,none]:=by
   generalize dsD ps=dd at *
   generalize paD ps=dp at *
   generalize ruD h w bs=ru at *
   simp [z2C,eOpF,eOpN,bVar,x2]
  have h7:(z0r [11,12] (iSq (eOpF pIx 2 (bOf (eD (.int 2))))) (gTp 2 (z03 (gNm [] 11) (z03 (gNm [] 12) z0y))) dYes (eTup (z00 (eVar 11) (z00 (z05 GO [.val (eVar 12)]) aNil)))) [some (.pure scr),some (.pure (.int c)),some (.pure (ruD h w bs)),some (.pure (.str [st])),some (.pure (paD ps)),some (.own (dsD ps)),a6,a7,a8,a9,o10,none,none,none] = .ok (.own (.lst ((z2m w bs).map blD))) [some (.pure scr),some (.pure (.int c)),some (.pure (ruD h w bs)),some (.pure (.str [st])),some (.pure (paD ps)),some (.own (dsD ps)),a6,a7,a8,a9,o10,none,none,none]:=by
   rw [z5O,hit]
   generalize (z2m w bs).map blD=pp at *
   generalize bs.map blD=qq at *
   generalize dsD ps=dd at *
   generalize paD ps=dp at *
   generalize ruD h w bs=ru at *
   simp [z0p,clrD]
   rw [eT]
   simp [z1e]
  clear hit eT eA eB
  generalize hE:(z0r [11,12] (iSq (eOpF pIx 2 (bOf (eD (.int 2))))) (gTp 2 (z03 (gNm [] 11) (z03 (gNm [] 12) z0y))) dYes (eTup (z00 (eVar 11) (z00 (z05 GO [.val (eVar 12)]) aNil))))=E at *
  rw [show ruD w h (z2m w bs) = .tup [.int w,.int h,.tup ((z2m w bs).map blD)] from rfl]
  generalize (z2m w bs).map blD=pp at *
  generalize dsD ps=dd at *
  generalize paD ps=dp at *
  generalize hru:ruD h w bs=ru at *
  simp [dAsg,eOpF,eOpN,bVar,x0,x1,h7,z0m]) ?_
 clear eT eA eB
 generalize ruD w h (z2m w bs)=r2 at *
 generalize dsD ps=dd at *
 generalize paD ps=dp at *
 generalize ruD h w bs=ru at *
 simp [dTr,z05,ios,ndup,z0p,evX,eVar,mkA,gU,putA,hne]
theorem zaG (ns:List Int) (lo hi:Option Int):cutL (ns.map D.int) lo hi=(cutL ns lo hi).map D.int:=by
 unfold cutL
 simp [List.map_take,List.map_drop]
theorem q_law (GA:DF) (GP GB GO GU:DF) (GT:DX) (GN:DF) (hP:∀ c:Int,∃ d,GP [.pure (.int c)]=some (.own d,[.pure (.int c)])∧Pen d)
  (hB:∀ pd,Pen pd→∃ (h w:Nat) (bs:List (Nat×List Tx)) (st:Nat) (ps:List (Nat×Nat)) (pd':D),GB [.own pd,.pure (.int 5)]=some (.pure (.tup [ruD h w bs,.str [st],paD ps]),[.own pd',.pure (.int 5)])∧RuQ h w bs∧ps.map (·.1)=bs.map (·.1)∧Pen pd')
  (hT:∀ {h w:Nat} {bs:List (Nat×List Tx)},RuQ h w bs→∀ {ps:List (Nat×Nat)},ps.map (·.1)=bs.map (·.1)→∀ {r c:Nat},r < h→c < w→GT [.pure (ruD h w bs),.pure (paD ps),.pure (.int r),.pure (.int c)]=some (.inl (.pure (paD (tkL bs ps r c)),[.pure (ruD h w bs),.pure (paD ps),.pure (.int r),.pure (.int c)])))
  (hN:∀ {h w:Nat} (bs:List (Nat×List Tx)) (dp row col:D),NX row→NX col→(wi ((h:Int) - 1) row && wi ((w:Int) - 1) col)=false→GN [.pure (ruD h w bs),.pure dp,.pure row,.pure col]=some (.pure (.bl true),[.pure (ruD h w bs),.pure dp,.pure row,.pure col]))
  (hO:∀ {w:Nat} {fl:List Tx},Rect w fl→GO [.pure (flD fl)]=some (.pure (flD (turn w fl)),[.pure (flD fl)]))
  (hU:∀ {h w:Nat} {bs:List (Nat×List Tx)},RuQ h w bs→∀ st pa:D,GU [.pure (.tup [ruD h w bs,st,pa])]=some (.pure (.tup [ruD w h (z2m w bs),st,pa]),[.pure (.tup [ruD h w bs,st,pa])])) (ns:List Int) (hn:ns.length≤63) (hA:∃ c:Int,GA [.pure (.lst (ns.map .int)),.pure (.int 0)]=some (.pure (.int c),[.pure (.lst (ns.map .int)),.pure (.int 0)])) :
  gOf [] 14 (dSeq (dFor (iSq (eOp pAdd (eLst (z00 (z05 GA [.val (eVar 0),.val (eD (.int 0))]) aNil)) (bOf (eSlN 0 (z47 (eD (.int 1))) (z47 (eD (.int 5))))))) (gNm [] 1) (dSeq (dAsg (z42 GB (z05 GP [.val (eVar 1)]) [.val (eD (.int 5))]) (gTp 3 (z03 (gNm [] 2) (z03 (gNm [] 3) (z03 (gNm [] 4) z0y))))) (dSeq (dAsg (eC1 z24 (bVar 4)) (gNm [] 5)) (dSeq (dFor (z0x (eOpF pIx 2 (bOf (eD (.int 0))))) (gNm [] 6) (dFor (z0x (eOpF pIx 2 (bOf (eD (.int 1))))) (gNm [] 7) (dSeq (dAsg (z2z GT [.val (eVar 2),.val (eVar 4),.val (eVar 6),.val (eVar 7)]) (gNm [] 8)) (dSeq (dIf (dOr (dNot (dTr (eIsi "tuple" (bVar 8)))) (dNot (dTr (eC1 pAll (bOf (z0r [13] (iSq (eVar 8)) (gNm [] 13) dYes (eIsi "tuple" (bVar 13)))))))) (dRet (eD (.bl false))) z0O) (dIf (dTr (eOpF pNe 8 (bOf (eC1 z0m (bOf (z0r [11,12] (iSq (eOpF pIx 2 (bOf (eD (.int 2))))) (gTp 2 (z03 (gNm [] 11) (z03 (gNm [] 12) z0y))) dYes (eTup (z00 (eVar 11) (z00 (eOpF pIxX 5 (bOf (eOp pIx (eOpF pIx 12 (bVar 6)) (bVar 7)))) aNil))))))))) (dRet (eD (.bl false))) z0O))))) (dSeq (dFor (iSq (eLst (z00 (eC1 pNeg (bOf (eD (.int 1)))) (z00 (eD (.bl true)) (z00 (eD .non) (z00 (eD (.str [48])) (z00 (eD (.tup [.int 0])) (z00 (eD (.int 5)) (z00 (eOp pPow (eD (.int 10)) (bOf (eD (.int 30)))) aNil))))))))) (gNm [] 9) (dIf (dOr (dNot (dTr (z05 GN [.val (eVar 2),.val (eVar 4),.val (eVar 9),.val (eD (.int 0))]))) (dNot (dTr (z05 GN [.val (eVar 2),.val (eVar 4),.val (eD (.int 0)),.val (eVar 9)])))) (dRet (eD (.bl false))) z0O)) (dSeq (dIf (dOr (dNot (dTr (z05 GN [.val (eVar 2),.val (eVar 4),.val (eOpF pIx 2 (bOf (eD (.int 0)))),.val (eD (.int 0))]))) (dNot (dTr (z05 GN [.val (eVar 2),.val (eVar 4),.val (eD (.int 0)),.val (eOpF pIx 2 (bOf (eD (.int 1))))])))) (dRet (eD (.bl false))) z0O) (dSeq (dAsg (eTup (z00 (eOpF pIx 2 (bOf (eD (.int 1)))) (z00 (eOpF pIx 2 (bOf (eD (.int 0)))) (z00 (eC1 z0m (bOf (z0r [11,12] (iSq (eOpF pIx 2 (bOf (eD (.int 2))))) (gTp 2 (z03 (gNm [] 11) (z03 (gNm [] 12) z0y))) dYes (eTup (z00 (eVar 11) (z00 (z05 GO [.val (eVar 12)]) aNil)))))) aNil)))) (gNm [] 10)) (dIf (dTr (eOp pNe (z05 GU [.val (eTup (z00 (eVar 2) (z00 (eVar 3) (z00 (eVar 4) aNil))))]) (bOf (eTup (z00 (eVar 10) (z00 (eVar 3) (z00 (eVar 4) aNil))))))) (dRet (eD (.bl false))) z0O)))))))) (dRet (eD (.bl true)))) [.pure (.lst (ns.map .int))]=some (.pure (.bl true),[.pure (.lst (ns.map .int))]):=by
 obtain ⟨c0,e0⟩:=hA
 have ha:pAdd (.lst [.int c0]) (.lst (cutL (ns.map .int) (some 1) (some 5)))=some (.own (.lst ((c0 :: cutL ns (some 1) (some 5)).map .int))):=by
  rw [zaG]
  have hl:(cutL ns (some 1) (some 5)).length≤63:=by
   unfold cutL
   simp
   omega
  simp only [pAdd]
  rw [if_pos (by rw [z0N]; simp; omega)]
  simp
 have hs:pSl (some 1) (some 5) (.lst (ns.map .int))=some (.own (.lst (cutL (ns.map .int) (some 1) (some 5)))):=rfl
 generalize D.lst (ns.map .int)=scr at *
 obtain ⟨δ',e,o1,o2,o3,o4,o5,o6,o7,o8,o9,o10,rfl⟩:=z1b (g:=gNm [] 1) (b:=(dSeq (dAsg (z42 GB (z05 GP [.val (eVar 1)]) [.val (eD (.int 5))]) (gTp 3 (z03 (gNm [] 2) (z03 (gNm [] 3) (z03 (gNm [] 4) z0y))))) (dSeq (dAsg (eC1 z24 (bVar 4)) (gNm [] 5)) (dSeq (dFor (z0x (eOpF pIx 2 (bOf (eD (.int 0))))) (gNm [] 6) (dFor (z0x (eOpF pIx 2 (bOf (eD (.int 1))))) (gNm [] 7) (dSeq (dAsg (z2z GT [.val (eVar 2),.val (eVar 4),.val (eVar 6),.val (eVar 7)]) (gNm [] 8)) (dSeq (dIf (dOr (dNot (dTr (eIsi "tuple" (bVar 8)))) (dNot (dTr (eC1 pAll (bOf (z0r [13] (iSq (eVar 8)) (gNm [] 13) dYes (eIsi "tuple" (bVar 13)))))))) (dRet (eD (.bl false))) z0O) (dIf (dTr (eOpF pNe 8 (bOf (eC1 z0m (bOf (z0r [11,12] (iSq (eOpF pIx 2 (bOf (eD (.int 2))))) (gTp 2 (z03 (gNm [] 11) (z03 (gNm [] 12) z0y))) dYes (eTup (z00 (eVar 11) (z00 (eOpF pIxX 5 (bOf (eOp pIx (eOpF pIx 12 (bVar 6)) (bVar 7)))) aNil))))))))) (dRet (eD (.bl false))) z0O))))) (dSeq (dFor (iSq (eLst (z00 (eC1 pNeg (bOf (eD (.int 1)))) (z00 (eD (.bl true)) (z00 (eD .non) (z00 (eD (.str [48])) (z00 (eD (.tup [.int 0])) (z00 (eD (.int 5)) (z00 (eOp pPow (eD (.int 10)) (bOf (eD (.int 30)))) aNil))))))))) (gNm [] 9) (dIf (dOr (dNot (dTr (z05 GN [.val (eVar 2),.val (eVar 4),.val (eVar 9),.val (eD (.int 0))]))) (dNot (dTr (z05 GN [.val (eVar 2),.val (eVar 4),.val (eD (.int 0)),.val (eVar 9)])))) (dRet (eD (.bl false))) z0O)) (dSeq (dIf (dOr (dNot (dTr (z05 GN [.val (eVar 2),.val (eVar 4),.val (eOpF pIx 2 (bOf (eD (.int 0)))),.val (eD (.int 0))]))) (dNot (dTr (z05 GN [.val (eVar 2),.val (eVar 4),.val (eD (.int 0)),.val (eOpF pIx 2 (bOf (eD (.int 1))))])))) (dRet (eD (.bl false))) z0O) (dSeq (dAsg (eTup (z00 (eOpF pIx 2 (bOf (eD (.int 1)))) (z00 (eOpF pIx 2 (bOf (eD (.int 0)))) (z00 (eC1 z0m (bOf (z0r [11,12] (iSq (eOpF pIx 2 (bOf (eD (.int 2))))) (gTp 2 (z03 (gNm [] 11) (z03 (gNm [] 12) z0y))) dYes (eTup (z00 (eVar 11) (z00 (z05 GO [.val (eVar 12)]) aNil)))))) aNil)))) (gNm [] 10)) (dIf (dTr (eOp pNe (z05 GU [.val (eTup (z00 (eVar 2) (z00 (eVar 3) (z00 (eVar 4) aNil))))]) (bOf (eTup (z00 (eVar 10) (z00 (eVar 3) (z00 (eVar 4) aNil))))))) (dRet (eD (.bl false))) z0O))))))))
  (fun _ δ=>∃ o1 o2 o3 o4 o5 o6 o7 o8 o9 o10,δ=[some (.pure scr),o1,o2,o3,o4,o5,o6,o7,o8,o9,o10,none,none,none]) ((c0 :: cutL ns (some 1) (some 5)).map .int) 0 [some (.pure scr),none,none,none,none,none,none,none,none,none,none,none,none,none] ⟨_,_,_,_,_,_,_,_,_,_,rfl⟩ (fun i d δ hd ⟨o1,o2,o3,o4,o5,o6,o7,o8,o9,o10,e⟩=>by
   subst e
   simp only [Wz,Qb] at hd
   obtain ⟨k,_,rfl⟩:=hd
   obtain ⟨q2,q3,q4,q5,q6,q7,q8,q9,q10,e⟩:=turnT GP GB GO GU GT GN hP hB hT hN hO hU scr k o2 o3 o4 o5 o6 o7 o8 o9 o10
   exact ⟨_,_,rfl,e,_,_,_,_,_,_,_,_,_,_,rfl⟩)
 generalize ((c0 :: cutL ns (some 1) (some 5)).map D.int)=cs at *
 generalize D.lst (cutL (ns.map .int) (some 1) (some 5))=cl at *
 rw [z1N]
 simp only [show z0h 14 [S.pure scr]=[some (.pure scr),none,none,none,none,none,none,none,none,none,none,none,none,none] from rfl]
 simp [ioOk,z05,ios,ndup,z0p,evX,eVar,mkA,e0,putA,eSlN,z47,bVar,hs,ha,z2C]
 rw [e]
 simp [z0M,z0e]
theorem zbK (ce:Tx→Nat) (ns:List Int) (hn:ns.length≤63):z8g ce [.pure (.lst (ns.map .int))]=some (.pure (.bl true),[.pure (.lst (ns.map .int))]):=by
 rw [z8g,zcr]
 exact q_law z0V z14 z0D z1a z0S z0z (z0t ce) r_pen (fun pd hp=>z8D hp) (fun R _ hps _ _ hr hc=>zbI R hps hr hc) (fun bs dp row col a b c=>r_np ce bs dp row col a b c) (fun h=>zbN h) (fun R st pa=>z4X R st pa) ns hn (z6R ns)
def Gt:DF:=fun ss=>match ss with
 | [.pure (.lst ds)]=>match z53 ds with
  | some ns=>if ns.length≤63 then some (.pure (.bl true),ss) else none
  | none=>none
 | _=>none
theorem r_law (ns:List Int) (h:ns.length≤63):∃ outs,Gt [.pure (.lst (ns.map .int))]=some (.pure (.bl true),outs):=by
 unfold Gt
 simp only [DV.ints_map,h,if_true]
 exact ⟨_,rfl⟩
theorem z9h:∀ {ds:List D} {ns:List Int},z53 ds=some ns→ds=ns.map .int
 | [],ns,h=>by simp [z53] at h; subst h; rfl
 | d :: r,ns,h=>by
  cases d with
  | int i =>
   simp only [z53] at h
   cases e:z53 r with
   | none=>rw [e] at h; cases h
   | some m =>
    rw [e] at h
    cases h
    rw [z9h e]
    rfl
  | _=>simp [z53] at h
theorem law_all:∀ ce ss y,Gt ss=some y→z8g ce ss=some y:=by
 intro ce ss y h
 unfold Gt at h
 split at h
 ·rename_i ds
  cases hi:z53 ds with
  | none=>rw [hi] at h; cases h
  | some ns =>
   rw [hi] at h
   by_cases hn:ns.length≤63
   ·simp only [hn,if_true] at h
    cases h
    have e:=z9h hi
    subst e
    exact zbK ce ns hn
   ·simp only [hn,if_false] at h
    cases h
 ·cases h
end K69
open PySem PySem.W PyProof.Rows
def PySem.W.Fast.tw10506808769739538043:Nat:=0
def PySem.W.Fast.tw14992183143726128315:Nat:=0
def PySem.W.Fast.tw8325844124348206259:Nat:=0
def PySem.W.Fast.tw649892760687918401:Nat:=0
def PySem.W.Fast.tw3032096568981637142:Nat:=0
def PySem.W.Fast.tw13704589337512591857:Nat:=0
def PySem.W.Fast.tw6137454454100975088:Nat:=0
def PySem.W.Fast.tw1491267447424232278:Nat:=0
def PySem.W.Fast.tw10855354702537134663:Nat:=0
def PySem.W.Fast.tw6477477664375203310:Nat:=0
def PySem.W.Fast.tw7292046022221241638:Nat:=0
set_option maxRecDepth 100000 in
set_option maxHeartbeats 0 in
theorem PySem.Challenge.cw_tilegrow_k69_signs_taken_and_turned_holds : PySem.Challenge.rw_tilegrow_k69_signs_taken_and_turned.Holds := by
 w_on; o_law; k_head; (case hw=>w_witness2)
 k_fill
 refine DV.walkD (l:=PySem.Challenge.rw_tilegrow_k69_signs_taken_and_turned) (k:=6) (G:=K69.Gt) rfl rfl ⟨rfl,by decide,by decide⟩ (fun w h Y=>PySem.W.kIn_of Y) ?L K69.r_law ?F
 case L=>intro p; exact Eq.refl true
 case F =>
  intro w mg fa h KX G hmg
  refine' K69.all_mk K69.law_all KX G hmg ?d0 ?d1 ?d2 ?d3 ?d4 ?d5 ?d6 ?d7 ?d8 ?d9 ?d10 ?d11 ?d12 ?d13 ?d14 ?d15 ?d16 ?d17 ?d18 ?d19 ?a20 ?l20 ?c20 ?k20 ?z_ValueError ?z_all ?z_bool ?z_dict ?z_int ?z_isinstance ?z_len ?z_max ?z_range ?z_sorted ?z_tuple ?ac_j ?ac_a ?ac_b ?ac_c ?ac_d ?ac_e ?ac_f ?ac_g ?ac_h ?ac_i ?qc_j ?qc_b ?spc ?tkc ?ga_b ?gt_b ?cl_b ?mo_b ?mb_b ?ci_b ?kv_b ?ki_b_a ?ki_b_b ?ki_b_c ?ki_b_d ?ki_b_e ?ki_b_f ?ki_b_g ?ki_b_h ?ki_b_i ?mr_b_j
  (case d0=>exact ⟨_,_,_,_,_,_,_,_,_,_,by k_is,by k_is,by k_is,by k_is⟩); (case d1=>exact ⟨_,_,_,_,_,_,_,_,_,_,by k_is,by k_is,by k_is,by k_is⟩); (case d2=>exact ⟨_,_,_,_,_,_,_,_,_,_,by k_is,by k_is,by k_is,by k_is⟩); (case d3=>exact ⟨_,_,_,_,_,_,_,_,_,_,by k_is,by k_is,by k_is,by k_is⟩); (case d4=>exact ⟨_,_,_,_,_,_,_,_,_,_,by k_is,by k_is,by k_is,by k_is⟩); (case d5=>exact ⟨_,_,_,_,_,_,_,_,_,_,by k_is,by k_is,by k_is,by k_is⟩); (case d6=>exact ⟨_,_,_,_,_,_,_,_,_,_,by k_is,by k_is,by k_is,by k_is⟩); (case d7=>exact ⟨_,_,_,_,_,_,_,_,_,_,by k_is,by k_is,by k_is,by k_is⟩)
  (case d8=>exact ⟨_,_,_,_,_,_,_,_,_,_,by k_is,by k_is,by k_is,by k_is⟩); (case d9=>exact ⟨_,_,_,_,_,_,_,_,_,_,by k_is,by k_is,by k_is,by k_is⟩); (case d10=>exact ⟨_,_,_,_,_,_,_,_,_,_,by k_is,by k_is,by k_is,by k_is⟩); (case d11=>exact ⟨_,_,_,_,_,_,_,_,_,_,by k_is,by k_is,by k_is,by k_is⟩); (case d12=>exact ⟨_,_,_,_,_,_,_,_,_,_,by k_is,by k_is,by k_is,by k_is⟩); (case d13=>exact ⟨_,_,_,_,_,_,_,_,_,_,by k_is,by k_is,by k_is,by k_is⟩); (case d14=>exact ⟨_,_,_,_,_,_,_,_,_,_,by k_is,by k_is,by k_is,by k_is⟩); (case d15=>exact ⟨_,_,_,_,_,_,_,_,_,_,by k_is,by k_is,by k_is,by k_is⟩)
  (case d16=>exact ⟨_,_,_,_,_,_,_,_,_,_,by k_is,by k_is,by k_is,by k_is⟩); (case d17=>exact ⟨_,_,_,_,_,_,_,_,_,_,by k_is,by k_is,by k_is,by k_is⟩); (case d18=>exact ⟨_,_,_,_,_,_,_,_,_,_,by k_is,by k_is,by k_is,by k_is⟩); (case d19=>exact ⟨_,_,_,_,_,_,_,_,_,_,by k_is,by k_is,by k_is,by k_is⟩); (case a20=>k_is); (case l20=>k_is); (case c20=>k_is); (case k20=>k_is)
  (case z_ValueError=>k_is); (case z_all=>k_is); (case z_bool=>k_is); (case z_dict=>k_is); (case z_int=>k_is); (case z_isinstance=>k_is); (case z_len=>k_is); (case z_max=>k_is)
  (case z_range=>k_is); (case z_sorted=>k_is); (case z_tuple=>k_is); (case ac_j=>k_is); (case ac_a=>k_is); (case ac_b=>k_is); (case ac_c=>k_is); (case ac_d=>k_is)
  (case ac_e=>k_is); (case ac_f=>k_is); (case ac_g=>k_is); (case ac_h=>k_is); (case ac_i=>k_is); (case qc_j=>kernel_rfl); (case qc_b=>kernel_rfl); (case spc=>k_is)
  (case tkc=>k_is); (case ga_b=>k_is); (case gt_b=>k_is); (case cl_b=>k_is); (case mo_b=>k_is); (case mb_b=>k_is); (case ci_b=>k_is); (case kv_b=>kit_is)
  (case ki_b_a=>kit_is); (case ki_b_b=>kit_is); (case ki_b_c=>kit_is); (case ki_b_d=>kit_is); (case ki_b_e=>kit_is); (case ki_b_f=>kit_is); (case ki_b_g=>kit_is); (case ki_b_h=>kit_is)
  (case ki_b_i=>kit_is); (case mr_b_j=>k_is)
