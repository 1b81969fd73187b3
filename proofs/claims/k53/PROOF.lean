import PyProof.Rows.All
import Wide.All
import OpenK.AllK
import Wide.FinOn
import Lean
import PyProof.EqAt
import PyProof.EqKinds
import PyProof.TupleCall
import PyProof.NeKinds
import PyProof.StrWalks
import PyProof.ListStr
import PyProof.StrOps2
import PyProof.StrLawsIn
import KE.KDictOf
import PyProof.AttrMissHeap
import PyProof.Draws
import PyProof.EnumMake
import PyProof.Rows.EnumRows
import PyProof.LongRange
import PyProof.NoPylong
import PyProof.SeqI3
import PyProof.Rows.SeqCalls
import PyProof.StrLawsChain
import PyProof.StrCalls2
import KE.KIntText
import PyProof.Rows.CallKwBuiltin
import OpenK.KOwn
import OpenK.KRaise
import PyProof.ExcBaseAll.ValueError
import PyProof.Rows.CatchOwn
import KE.KIsAll
import PyProof.ExcArgsOwn
import PyProof.ExcAttrAll.ValueError
import PyProof.Rows.SeqMore2
import PyProof.ListMulAny
import PyProof.ListMulRoad
import PyProof.ZipIter
import PyProof.Rows.FactsT2
import PyProof.ExcInit
import PyProof.InstStoreFacts
import PyProof.StrCalls
import PyProof.FactsAll.dict_1
import PyProof.FactsAll.subtypes_3
import PyProof.FactsAll.subtypes_4
import PyProof.Dict
import PyProof.MinMaxWalk
import PyProof.WalkInts
import PyProof.WalksMore
import PyProof.FactsAll.tuple_2
import KE.KSortTup
import PyProof.Rows.SortWalk
import PyProof.Rows.SetFrom
import PyProof.DictKinds
import PyProof.DictStraight
import PyProof.SetRoads
import PyProof.CollectWalk
import PyProof.CollectStr
import PyProof.DictIter
import PyProof.Rows.SortShell
import KE.KItemsList
import PyProof.Rows.SortStr
import PyProof.DictItemsLoops
import PyProof.ListNew
import PyProof.Rows.SumAny
import KE.IntBitsLaws
import KE.KLam
import KE.KDictList
import KE.KNestM
import PySem.Challenge.RW_tilegrow_k53_corners
open PySem.W renaming Frag→W0,mg_none_of→WE,fnOf→WF,keepIn→WN,kia_one→WQ,kitOne→Qh,cellsFrom_some→Qp,codeHdIn→QF,findIn→QQ,envX→QS,findIn→QZ,kla_obj→J4,callWith_K→J9,looks_findIn→Jg,hasDictIn→Jl
open PySem renaming Shared→W1,wpAny_bind→W2,starEach→W3,sizeLine→W6,wpAny→W9,Spec→Wa,wpAny_pure→Wc,Program→Wd,Around→Wf,World→Wg,mainGlobals→Wj,mem_of_lookup→Wr,FuncData→Wx,compareOp→WB,backTo→WD,wpAny_mono→WH,assignEach→WV,bootBuiltins→WW,wpAny_loadPart_at→WY,binaryOp→WZ,wpAny_Call_Name_kw→Q1,cellsFrom→Q2,behindInMarks→Q7,wpAny_holding→Q8,attributeBase→Q9,cLine→Qa,codeAny→Qf,wpAny_newObj_type→Qn,codeAny_mono→Qq,wpAny_passesOwn→Qr,wpAny_loadPart'→Qt,wpAny_truthy_bool→Qy,foldedSetIterable→Qz,swapsWith→QB,wpAny_field→QC,sysModules→QJ,rawInt→QL,keywordEach→QO,wpAny_typeOf→QR,call_meets→QW,codeAny_call_builtin→QX,wpAny_standAt→QY,sliceBounds→J0,wpAny_execs_nil→J1,tupleKind_room_in1→Ja,pushCells→Jb,noteFrame→Jc,getattributeRaised→Je,wpAny_rule→Jh,wpAny_call→Ji,typeIs_int→Jj
open List renaming getElem?_set_ne→W4,replicate→W8,getElem?_eq_some_iff→Wb,getElem?_eq_getElem→Wh,mem_cons_of_mem→Wi,mem_cons_self→Wm,size_toArray→Wo,mem_cons→Wp,getElem?_set_self→Wq,map_cons→Wu,getElem?_map→Wv,length_map→Wz,mem_of_getElem?→WC,lookup_cons→WG,mem_append_right→WI,append_nil→WJ,getElem?_set→WL,length_cons→WO,replicate_succ→WR,getElem?_eq_none→WT,mem_map_of_mem→Q0,length_append→Q3,getElem_mem→Q4,all_eq_true→Q6,flatten_cons→Qc,find?_cons→Qd,getD_eq_getElem?_getD→Qg,getElem?_append_left→Qi,range→Qk,map_map→Ql,mem_map→Qm,getElem?_cons_succ→Qo,nodup_cons→Qs,nil_append→Qv,any_cons→Qw,mem_append→QK,length_set→QM,foldl_cons→QN,mem_append_left→QU,length_take→QV,of_mem_zip→J3,pairwise_cons→Jd,contains_cons→Jf,any_eq_false→Jk,take_add_one→Jn
open PySem.Heap renaming get?_push_of_some→W5,lt_size→Wl,get?_push_size→Wy,get?_update_other→WX,get?_update_self→Qu,get?_none_of_le→QT
open Option.some renaming injEq→W7,inj→Ws
open Nat renaming le_refl→We,lt_of_lt_of_le→Wt,ne_of_lt→WK,le_trans→WP,lt_irrefl→WS,zero_add→Q5,zero_le→QP,le_of_lt→J5,one_mul→Jo
open Bool renaming and_eq_true→Wn,false_ne_true→WU,not_eq_true'→Jm
open Option renaming bind_some→Ww,map_some→WA,map_eq_some_iff→WM,isSome_iff_exists→QD
open PyProof.Rows renaming envOfC→Qb,slot_tuple_getitem→Qj
open PySem.Builtin.Str renaming strSliceIndices→Qe,occurrences→QG
open Array renaming getElem?_eq_some_iff→Qx
open PySem.Builtin.Slice renaming slicePlaces→QA
open PySem.Builtin.Tuple renaming tupleExact→QE
open PySem.F renaming plainAttrs_list→QH,slot_list_index→QI
open List.cons renaming injEq→Jp
set_option Elab.async false
set_option linter.all false
set_option maxRecDepth 100000
namespace L2
open PySem PySem.Spec PyProof.Rows
abbrev Key:=Sum Int Str
def z7l:Key→Value→Bool
 | .inl k,v=>Value.isInt k v
 | .inr x,v=>Value.isStrOf x v
def keyH (w:Wg):Key→Int
 | .inl k=>hashInt k
 | .inr x=>hashStr w x
theorem z0R:∀ {k:Key} {v:Value},z7l k v=true→(∃ i t,k=Sum.inl i∧v=Value.int i t)∨(∃ x t,k=Sum.inr x∧v=Value.str x t)
 | .inl i,v,h=>by
  obtain ⟨t,e⟩:=Value.isInt_shape (k:=i) (v:=v) h
  exact .inl ⟨i,t,rfl,e⟩
 | .inr x,v,h=>by
  obtain ⟨t,e⟩:=Value.isStrOf_shape (x:=x) (v:=v) h
  exact .inr ⟨x,t,rfl,e⟩
theorem z9Y (i:Int) (t:Tok):z7l (.inl i) (.int i t)=true:=by simp [z7l,Value.isInt]
theorem z9X (x:Str) (t:Tok):z7l (.inr x) (.str x t)=true:=by simp [z7l,Value.isStrOf]
theorem zf0 (a b:Int):decide ((Sum.inl a:Key)=Sum.inl b)=(a == b):=by
 by_cases e:a=b
 ·subst e; simp
 ·have h:¬ (Sum.inl a:Key)=Sum.inl b:=fun q=>e (Sum.inl.inj q)
  rw [decide_eq_false h]
  exact (beq_eq_false_iff_ne.mpr e).symm
theorem zeX (a b:Str):decide ((Sum.inr a:Key)=Sum.inr b)=decide (a=b):=by
 by_cases e:a=b
 ·subst e; simp
 ·have h:¬ (Sum.inr a:Key)=Sum.inr b:=fun q=>e (Sum.inr.inj q)
  rw [decide_eq_false h,decide_eq_false e]
theorem zeZ (a:Int) (b:Str):decide ((Sum.inl a:Key)=Sum.inr b)=false:=decide_eq_false (fun q=>nomatch q)
theorem zeY (a:Str) (b:Int):decide ((Sum.inr a:Key)=Sum.inl b)=false:=decide_eq_false (fun q=>nomatch q)
def z1b (prog:Wd) (w:Wg):PySem.KeyKind prog w Key where
 is:=z7l
 hash:=keyH w
 inj:=fun v a b ha hb=>by
  rcases z0R ha with ⟨i,t,rfl,rfl⟩ | ⟨x,t,rfl,rfl⟩
  ·rcases z0R hb with ⟨j,u,rfl,e⟩ | ⟨y,u,rfl,e⟩
   ·injection e with e1 _; rw [e1]
   ·exact nomatch e
  ·rcases z0R hb with ⟨j,u,rfl,e⟩ | ⟨y,u,rfl,e⟩
   ·exact nomatch e
   ·injection e with e1 _; rw [e1]
 byValue:=fun k v h=>by
  rcases z0R h with ⟨i,t,rfl,rfl⟩ | ⟨x,t,rfl,rfl⟩ <;> rfl
 pyHash:=fun hv h=>by
  rcases z0R hv with ⟨i,t,rfl,rfl⟩ | ⟨x,t,rfl,rfl⟩
  ·exact wpAny_pyHash_int h
  ·exact wpAny_pyHash_str h
 eqBool:=fun hu hv h=>by
  rcases z0R hu with ⟨i,t,rfl,rfl⟩ | ⟨x,t,rfl,rfl⟩
  ·rcases z0R hv with ⟨j,u,rfl,rfl⟩ | ⟨y,u,rfl,rfl⟩
   ·rw [zf0] at h; exact wpAny_eqBool_int h
   ·rw [zeZ] at h; exact SeqAt.EqAt.int_str i t y u _ _ _ _ h
  ·rcases z0R hv with ⟨j,u,rfl,rfl⟩ | ⟨y,u,rfl,rfl⟩
   ·rw [zeY] at h; exact SeqAt.EqAt.str_int x t j u _ _ _ _ h
   ·rw [zeX] at h; exact wpAny_eqBool_str h
 «strs»:=fun k x t v h=>by
  rcases z0R h with ⟨i,u,rfl,e⟩ | ⟨y,u,rfl,e⟩
  ·exact nomatch e
  ·injection e with e1 _
   subst e1
   cases v <;> rfl
theorem z8q (prog:Wd) (w:Wg) (k:Key) (v:Value):(z1b prog w).is k v=z7l k v:=rfl
theorem z7i (prog:Wd) (w:Wg) (i:Int) (t:Tok):(z1b prog w).is (.inl i) (.int i t)=true:=z9Y i t
theorem z7h (prog:Wd) (w:Wg) (x:Str) (t:Tok):(z1b prog w).is (.inr x) (.str x t)=true:=z9X x t
inductive V where
 | non | bl (b:Bool) | int (i:Int) | str (x:Str) | byt (b:Array UInt8) | flt (b:UInt64) | ref (a:Addr) | ty (n:String)
 deriving DecidableEq
def RelV:V→Value→Prop
 | .non,u=>u=Value.none
 | .bl b,u=>u=Value.bool b
 | .int i,u=>∃ t,u=Value.int i t
 | .str x,u=>∃ t,u=Value.str x t
 | .byt b,u=>∃ t,u=Value.bytes b t
 | .flt b,u=>∃ t,u=Value.float b t
 | .ref a,u=>u=Value.ref a
 | .ty n,u=>u=Value.type n
abbrev Vals:List V→List Value→Prop:=Paired RelV
theorem Vals.length (r:Vals xs us):xs.length=us.length:=Paired.length r
theorem Vals.get:∀ {xs:List V} {us:List Value} {i:Nat} {x:V},Vals xs us→xs[i]? = some x→∃ u,us[i]? = some u∧RelV x u
 | _,_,_,_,.nil,e=>by simp at e
 | _,_,0,_,.cons r _,e=>by simp at e; subst e; exact ⟨_,rfl,r⟩
 | _,_,i + 1,x,.cons _ t,e=>by
  obtain ⟨u,h1,h2⟩:=Vals.get (i:=i) (x:=x) t (by simpa using e)
  exact ⟨u,by simpa using h1,h2⟩
theorem Vals.set (r:RelV x u):∀ {xs:List V} {us:List Value} (i:Nat),Vals xs us→Vals (xs.set i x) (us.set i u)
 | _,_,_,.nil=>.nil
 | _,_,0,.cons _ t=>.cons r t
 | _,_,i + 1,.cons q t=>.cons q (Vals.set r i t)
theorem Vals.append:∀ {xs ys:List V} {us ws:List Value},Vals xs us→Vals ys ws→Vals (xs ++ ys) (us ++ ws)
 | _,_,_,_,.nil,s=>s
 | _,_,_,_,.cons r t,s=>.cons r (Vals.append t s)
theorem Vals.take:∀ {xs:List V} {us:List Value} (n:Nat),Vals xs us→Vals (xs.take n) (us.take n)
 | _,_,0,_=>.nil
 | _,_,_ + 1,.nil=>.nil
 | _,_,n + 1,.cons r t=>.cons r (Vals.take n t)
theorem Vals.drop:∀ {xs:List V} {us:List Value} (n:Nat),Vals xs us→Vals (xs.drop n) (us.drop n)
 | _,_,0,r=>r
 | _,_,_ + 1,.nil=>.nil
 | _,_,n + 1,.cons _ t=>Vals.drop n t
def RelO:Option V→Option Value→Prop
 | some v,some u=>RelV v u
 | none,none=>True
 | _,_=>False
def KV {κ:Type}:List (κ×V)→List (κ×Value)→Prop:=Paired fun (p:κ×V) (q:κ×Value)=>p.1=q.1∧RelV p.2 q.2
def kV:Key→V
 | .inl i=>.int i
 | .inr x=>.str x
inductive HO where
  | lst (xs:List V)
  | tup (xs:List V)
  | dK (kvs:List (Key×V)) | dT (kvs:List (List Key×V))
  | set (S:Int→Bool) (n:Nat)
  | ins (C dx:Addr) (fs:List (Str×V))
  | own (x:Addr)
  | xd (fs:List (Str×V))
  | met (f x:Addr)
  | rng (lo hi:Int)
  | frz (o:Obj) (u:HO)
  | tbl (ps:Array Value)
  | ctab (pos:Pos) (q:Str)
  | ext (φ:Heap→Prop)
abbrev Hp:=Addr→Option HO
def upd (H:Hp) (a:Addr) (o:HO):Hp:=fun b=>if b=a then some o else H b
theorem z0l:upd H a o a=some o:=by unfold upd; rw [if_pos rfl]
theorem z0f (h:b≠a):upd H a o b=H b:=by unfold upd; rw [if_neg h]
theorem zci:upd (upd H a o) a u=upd H a u:=by
 funext b; unfold upd; split <;> rfl
theorem ne_of {H:Hp} {a b:Addr} {o u:HO} (h:H a=some o) (h':H b=some u) (d:o≠u):a≠b:=by
 intro e; subst e; rw [h] at h'; exact d (Ws h')
theorem z0v {H:Hp} {a b:Addr} {o:HO} (h:H a=some o) (h':H b=none):a≠b:=by
 intro e; subst e; rw [h] at h'; cases h'
def IsTupN (h:Heap) (a:Addr) (its:Array Value):Prop:=∃ n,h.get? a=some { cls:=.type "tuple",dict:=none,data:=.seq its n,slots:=#[] }
theorem IsTupN.tup (x:IsTupN h a its):IsTup h a its:=let ⟨n,e⟩:=x; ⟨_,e,rfl,n,rfl⟩
theorem IsTupN.new (h:Heap) (its:Array Value):IsTupN (h.push { cls:=.type "tuple",data:=.seq its }) h.objs.size its:=⟨_,Wy _ rfl⟩
theorem IsTupN.lt (x:IsTupN h a its):a < h.objs.size:=let ⟨_,e⟩:=x; Wl e
section
variable (P:Wd) (w:Wg)
def ObjOk (H:Hp) (h:Heap) (a:Addr):HO→Prop
 | .lst xs=>xs.length≤W6∧∃ (its:List Value) (n:Nat),Vals xs its∧h.get? a=some { cls:=.type "list",data:=.seq its.toArray n }
 | .tup xs=>xs.length≤W6∧∃ its:List Value,Vals xs its∧IsTupN h a its.toArray
 | .dK kvs=>kvs.length≤W6∧(a == QJ)=false∧∃ vs,KV kvs vs∧h.DictOf (z1b P w) a vs
 | .dT kvs=>kvs.length≤W6∧(a == QJ)=false∧∃ xs:List (List Key×Addr×Value),
   Paired (fun (p:List Key×V) (q:List Key×Addr×Value)=>p.1=q.1∧H q.2.1=some (.tup (p.1.map kV))∧RelV p.2 q.2.2) kvs xs ∧
   ∃ o es ep,h.get? a=some o∧o.ExactDict∧o.data = .dict es ep∧es.toList=xs.map (entryOfKey (tupleKind (z1b P w)))∧(xs.map (·.1)).Nodup
 | .set S n=>h.SetOf (intKind P w) a S n
 | .ins C dx fs=>H dx=some (.own a)∧fs.length≤1000∧dx≠a∧h.get? a=some (PySem.W.instObj C dx) ∧
   ∃ mA,h.Ns1 dx mA∧(∀ f,RelO (fs.lookup f) (mA f))∧PySem.Within mA (fs.map (·.1))
 | .own _=>∃ o,h.get? a=some o
 | .xd fs=>∃ mA,h.Ns1 a mA∧∀ f,RelO (fs.lookup f) (mA f)
 | .rng lo hi=>∃ t u v,h.get? a=some { cls:=.type "range",data:=.fields #[.int lo t,.int hi u,.int 1 v] }
 | .frz o u=>h.get? a=some o∧ObjOk H h a u
 | .tbl ps=>h.get? a=some { cls:=.none,data:=.fields ps }
 | .ctab pos q=>∃ ps,h.get? a=some { cls:=.none,data:=.fields ps }∧TriplesOk ps.toList∧∀ cv,codeAmong pos ps.toList=some cv→∃ c' oc,cv = .ref c'∧H c'=some (.frz oc (.ext fun _=>True))∧∃ vs tq,oc.data = .fields vs∧vs[1]? = some (.str q tq)
 | .met f x=>h.get? a=some (PySem.W.methodObj (.ref f) (.ref x))
 | .ext φ=>φ h∧(∃ o,h.get? a=some o)∧∀ h1 h2:Heap,φ h1→(∀ o,h1.get? a=some o→h2.get? a=some o)→φ h2
def HOk (H:Hp) (h:Heap):Prop:=∀ a o,H a=some o→ObjOk P w H h a o
end
section
variable {P:Wd} {w:Wg} {H H':Hp} {h h':Heap} {a:Addr} {o:HO}
theorem ObjOk.lt (x:ObjOk P w H h a o):a < h.objs.size:=by
 cases o with
 | lst xs=>obtain ⟨_,_,_,_,e⟩:=x; exact Wl e
 | tup xs=>obtain ⟨_,_,_,p⟩:=x; exact p.lt
 | dK kvs=>obtain ⟨_,_,_,_,o,_,_,e,_⟩:=x; exact Wl e
 | dT kvs=>obtain ⟨_,_,_,_,o,_,_,e,_⟩:=x; exact Wl e
 | set S n=>obtain ⟨o,_,_,_,e,_⟩:=x; exact Wl e
 | ins C dx fs=>obtain ⟨_,_,_,e,_⟩:=x; exact Wl e
 | own y=>obtain ⟨_,e⟩:=x; exact Wl e
 | xd fs=>obtain ⟨_,⟨_,_,_,e,_⟩,_⟩:=x; exact Wl e
 | rng lo hi=>obtain ⟨_,_,_,e⟩:=x; exact Wl e
 | frz ob u=>obtain ⟨e,_⟩:=x; exact Wl e
 | tbl ps=>exact Wl (show h.get? a=some _ from x)
 | ctab pos q=>obtain ⟨_,e,_⟩:=x; exact Wl e
 | met f y=>exact Wl (show h.get? a=some _ from x)
 | ext φ=>obtain ⟨_,⟨_,e⟩,_⟩:=x; exact Wl e
theorem Paired.mapP:∀ {l₁:List α} {l₂:List β},Paired F l₁ l₂→(∀ a b,F a b→G a b)→Paired G l₁ l₂
 | _,_,.nil,_=>.nil
 | _,_,.cons r t,f=>.cons (f _ _ r) (Paired.mapP t f)
theorem ObjOk.stay (x:ObjOk P w H h a o) (k:∀ b u,(b=a∨H b=some (.own a))→h.get? b=some u→h'.get? b=some u)
  (ho:∀ b,H b=some (.own a)→H' b=some (.own a)) (ht:∀ b xs,H b=some (.tup xs)→H' b=some (.tup xs)) (hf:∀ b o u,H b=some (.frz o u)→H' b=some (.frz o u)):ObjOk P w H' h' a o:=by
 induction o with
 | lst xs=>obtain ⟨z,its,n,r,e⟩:=x; exact ⟨z,its,n,r,k _ _ (.inl rfl) e⟩
 | tup xs=>obtain ⟨z,its,r,n,e⟩:=x; exact ⟨z,its,r,n,k _ _ (.inl rfl) e⟩
 | dK kvs=>obtain ⟨z,y,vs,r,ob,es,ep,e,c⟩:=x; exact ⟨z,y,vs,r,ob,es,ep,k _ _ (.inl rfl) e,c⟩
 | dT kvs =>
  obtain ⟨z,y,xs,r,ob,es,ep,e,c⟩:=x
  exact ⟨z,y,xs,Paired.mapP r fun p q z=>⟨z.1,ht _ _ z.2.1,z.2.2⟩,ob,es,ep,k _ _ (.inl rfl) e,c⟩
 | set S n=>obtain ⟨ob,es,ep,t,e,c⟩:=x; exact ⟨ob,es,ep,t,k _ _ (.inl rfl) e,c⟩
 | ins C dx fs =>
  obtain ⟨d,z,ne,e,mA,⟨od,es,ep,e2,c⟩,r⟩:=x
  exact ⟨ho _ d,z,ne,k _ _ (.inl rfl) e,mA,⟨od,es,ep,k _ _ (.inr d) e2,c⟩,r⟩
 | own y=>obtain ⟨ob,e⟩:=x; exact ⟨ob,k _ _ (.inl rfl) e⟩
 | xd fs=>obtain ⟨mA,⟨od,es,ep,e,c⟩,r⟩:=x; exact ⟨mA,⟨od,es,ep,k _ _ (.inl rfl) e,c⟩,r⟩
 | rng lo hi=>obtain ⟨t,u,v,e⟩:=x; exact ⟨t,u,v,k _ _ (.inl rfl) e⟩
 | frz ob u ih=>obtain ⟨e,q⟩:=x; exact ⟨k _ _ (.inl rfl) e,ih q⟩
 | ctab pos q=>obtain ⟨ps,e,t,r⟩:=x; exact ⟨ps,k _ _ (.inl rfl) e,t,fun cv z=>let ⟨c',oc,z1,z2,z3⟩:=r cv z; ⟨c',oc,z1,hf _ _ _ z2,z3⟩⟩
 | tbl ps =>
  have e:h.get? a=some { cls:=.none,data:=.fields ps }:=x
  show h'.get? a=some { cls:=.none,data:=.fields ps }
  exact k a _ (.inl rfl) e
 | met f y =>
  have e:h.get? a=some (PySem.W.methodObj (.ref f) (.ref y)):=x
  show h'.get? a=some (PySem.W.methodObj (.ref f) (.ref y))
  exact k a _ (.inl rfl) e
 | ext φ=>obtain ⟨p,⟨o,e⟩,st⟩:=x; exact ⟨st _ _ p fun o q=>k _ _ (.inl rfl) q,⟨o,k _ _ (.inl rfl) e⟩,st⟩
theorem HOk.lt (x:HOk P w H h) (e:H a=some o):a < h.objs.size:=(x a o e).lt
theorem HOk.fresh (x:HOk P w H h) (e:h.objs.size≤a):H a=none:=by
 cases q:H a with
 | none=>rfl
 | some u=>exact absurd (Wt (x.lt q) e) (WS _)
theorem HOk.kept (x:HOk P w H h) (k:∀ b u,h.get? b=some u→h'.get? b=some u):HOk P w H h':=fun a o e =>
 (x a o e).stay (fun b u _ q=>k b u q) (fun _ q=>q) (fun _ _ q=>q) fun _ _ _ q=>q
theorem HOk.laid (x:HOk P w H h) (k:∀ b u,h.get? b=some u→h'.get? b=some u) (hp:h.objs.size≤a) (new:ObjOk P w (upd H a o) h' a o):HOk P w (upd H a o) h':=fun b u e=>by
 have hn:=x.fresh hp
 by_cases hb:b=a
 ·subst hb; rw [z0l] at e; cases e; exact new
 ·rw [z0f hb] at e
  exact (x b u e).stay (fun c v _ q=>k c v q) (fun c q=>by rw [z0f (z0v q hn)]; exact q) (fun c xs q=>by rw [z0f (z0v q hn)]; exact q) fun c o u q=>by rw [z0f (z0v q hn)]; exact q
end
def Rd (H:Hp) (a:Addr) (u:HO):Prop:=H a=some u∨∃ o,H a=some (.frz o u)
theorem Rd.ok (r:Rd H a u) (x:HOk P w H h):ObjOk P w H h a u:=by
 rcases r with r | ⟨o,r⟩
 ·exact x a u r
 ·obtain ⟨_,q⟩:=x a _ r
  exact q
def Mut:Option HO→Prop
 | some (.lst _)=>True
 | some (.dK _)=>True
 | some (.dT _)=>True
 | some (.set _ _)=>True
 | some (.ins _ _ _)=>True
 | some (.ext _)=>True
 | _=>False
section
variable {P:Wd} {w:Wg} {H:Hp} {h h':Heap} {x e:Addr} {o':HO}
theorem HOk.write (ok:HOk P w H h) (mu:Mut (H x)) (he:e=x∨H e=some (.own x)) (k:∀ b u,b≠e→h.get? b=some u→h'.get? b=some u) (heo:∃ u,h'.get? e=some u)
  (new:ObjOk P w (upd H x o') h' x o'):HOk P w (upd H x o') h':=fun b u q=>by
 have nown:∀ c y,H c=some (.own y)→c≠x:=fun c y r z=>by subst z; rw [r] at mu; exact mu
 have ntup:∀ c xs,H c=some (.tup xs)→c≠x:=fun c xs r z=>by subst z; rw [r] at mu; exact mu
 have nfrz:∀ c o u,H c=some (.frz o u)→c≠x:=fun c o u r z=>by subst z; rw [r] at mu; exact mu
 by_cases hb:b=x
 ·subst hb; rw [z0l] at q; cases q; exact new
 ·rw [z0f hb] at q
  by_cases hbe:b=e
  ·have q':H b=some (.own x):=by
    rcases he with z | z
    ·exact absurd (hbe.trans z) hb
    ·rw [hbe]; exact z
   rw [q] at q'; cases q'
   obtain ⟨v,hv⟩:=heo
   exact ⟨v,by rw [hbe]; exact hv⟩
  ·refine (ok b u q).stay (fun c v hc r=>k c v ?_ r) (fun c r=>by rw [z0f (nown c b r)]; exact r) (fun c xs r=>by rw [z0f (ntup c xs r)]; exact r) fun c o u r=>by rw [z0f (nfrz c o u r)]; exact r
   rcases hc with rfl | hc
   ·exact hbe
   ·rintro rfl
    rcases he with z | z
    ·exact nown c b hc z
    ·rw [hc] at z; cases z; exact hb rfl
end
structure Un (fs ex:List Addr) (H H':Hp) (h h':Heap):Prop where
 keep:∀ b o,h.get? b=some o→H b=none→b ∉ fs→b ∉ ex→h'.get? b=some o
 slot:∀ b o,h.get? b=some o→H b=none→b ∈ fs→b ∉ ex→∃ sl,h'.get? b=some { o with slots:=sl }
 free:∀ b o,h.get? b=some o→H b=none→b ∉ ex→H' b=none
 there:∀ b o,h.get? b=some o→b ∉ ex→∃ o',h'.get? b=some o'
 tups:∀ b xs,H b=some (.tup xs)→H' b=some (.tup xs)
 frzs:∀ b o u,H b=some (.frz o u)→H' b=some (.frz o u)
 tbls:∀ b ps,H b=some (.tbl ps)→∃ more,H' b=some (.tbl (ps ++ more))
section
variable {fs fs' ex ex':List Addr} {H H1 H2:Hp} {h h1 h2 h':Heap} {a x e:Addr} {o:HO}
theorem Un.any (u:Un fs ex H H1 h h1) (q:h.get? b=some ob) (n:H b=none) (hx:b ∉ ex):∃ sl,h1.get? b=some { ob with slots:=sl }:=by
 by_cases hb:b ∈ fs
 ·exact u.slot b ob q n hb hx
 ·exact ⟨ob.slots,u.keep b ob q n hb hx⟩
theorem Un.kept (k:∀ b u,h.get? b=some u→h'.get? b=some u):Un fs ex H H h h' :=
 ⟨fun b ob q _ _ _=>k b ob q,fun b ob q _ _ _=>⟨ob.slots,k b ob q⟩,fun _ _ _ n _=>n,fun b ob q _=>⟨ob,k b ob q⟩,fun _ _ q=>q,fun _ _ _ q=>q,fun _ ps q=>⟨#[],by rw [q]; simp⟩⟩
theorem Un.refl:Un fs ex H H h h:=Un.kept fun _ _ q=>q
theorem Un.laid (k:∀ b u,h.get? b=some u→h'.get? b=some u) (hp:h.objs.size≤a) (hn:H a=none):Un fs ex H (upd H a o) h h' where
 keep:=fun b u q _ _ _=>k b u q
 slot:=fun b u q _ _ _=>⟨u.slots,k b u q⟩
 free:=fun b u q n _=>by rw [z0f (WK (Wt (Wl q) hp))]; exact n
 there:=fun b u q _=>⟨u,k b u q⟩
 tups:=fun b xs q=>by rw [z0f (z0v q hn)]; exact q
 frzs:=fun b u xs q=>by rw [z0f (z0v q hn)]; exact q
 tbls:=fun b ps q=>⟨#[],by rw [z0f (z0v q hn),q]; simp⟩
theorem Un.write (mu:Mut (H x)) (he:e=x∨H e=some (.own x)) (k:∀ b u,b≠e→h.get? b=some u→h'.get? b=some u) (heo:∃ u,h'.get? e=some u):Un fs ex H (upd H x o) h h':=by
 have hx:∀ b,H b=none→b≠x:=fun b n z=>by subst z; rw [n] at mu; exact mu
 have hb:∀ b,H b=none→b≠e:=fun b n z=>by
  subst z
  rcases he with r | r
  ·exact hx b n r
  ·rw [n] at r; cases r
 have hm:∀ b u,H b=some u→¬ Mut (some u)→b≠x:=fun b u q nm z=>by subst z; rw [q] at mu; exact nm mu
 refine ⟨fun b u q n _ _=>k b u (hb b n) q,fun b u q n _ _=>⟨u.slots,k b u (hb b n) q⟩,fun b u q n _=>by rw [z0f (hx b n)]; exact n,fun b u q _=>?_,
  fun b xs q=>by rw [z0f (hm b _ q fun z=>z)]; exact q,fun b u xs q=>by rw [z0f (hm b _ q fun z=>z)]; exact q,fun b ps q=>⟨#[],by rw [z0f (hm b _ q fun z=>z),q]; simp⟩⟩
 by_cases hbe:b=e
 ·subst hbe; exact heo
 ·exact ⟨u,k b u hbe q⟩
end
def trk (h:Heap) (H:Hp):List Addr:=(Qk h.objs.size).filter fun a=>(H a).isSome
def hidT (h:Heap) (H:Hp):Heap:=PySem.W.hideAll h (trk h H)
theorem z6G (h:Heap) (H:Hp):(hidT h H).objs.size=h.objs.size:=PySem.W.hideAll_size _ _
theorem z82 (e:h.get? b=some o) (n:H b=none):(hidT h H).get? b=some o :=
 PySem.W.hideAll_get _ e fun hm=>by
  have q:(H b).isSome=true:=(List.mem_filter.mp hm).2
  rw [n] at q; simp at q
theorem z9L (e:(hidT h H).get? b=some o):h.get? b=some o∧H b=none:=by
 have e':h.get? b=some o:=PySem.W.of_hideAll (trk h H) e
 refine ⟨e',?_⟩
 cases q:H b with
 | none=>rfl
 | some x =>
  have hm:b ∈ trk h H:=List.mem_filter.mpr ⟨List.mem_range.mpr (Wl e'),by simp [q]⟩
  have z:(hidT h H).get? b=none:=PySem.W.hideAll_none (trk h H) hm
  rw [z] at e; cases e
def zdD (g h:Heap) (L:Addr):List (Addr×Obj):=(Qk h.objs.size).filterMap fun a=>if a=L∨(g.get? a).isSome=true then none else (h.get? a).map fun o=>(a,o)
def rest (g h:Heap) (L d:Addr):List (Addr×Obj):=(zdD g h L).filter fun p=>decide (p.1≠d)
structure Mod (K:W0) (mg:Str→Option Value) (base:Heap):Prop where
 kin:K.In base
 glob:base.Ns Wj mg
 blt:∃ mb,base.Ns builtinsNs mb∧∀ x:Str,x≠"__name__"→mb x=WW x
 nolimit:base.NoLimit
structure Cx where
 prog:Wd
 w:Wg
 K:W0
 mg:Str→Option Value
 base:Heap
 A:Wf
 N:List Str
 s₀:W1
 H₀:Hp
 env:Env
 outer:List Env
 stack:List Env
 ex:List Addr
 fn:Str→Bool
 calm:Bool
 pn:List (Addr×Obj)
 xe:Value→W1→Prop
def frs (l:List Env):List Addr:=l.filterMap (·.frame)
abbrev Cx.fs (X:Cx):List Addr:=frs X.outer
def Vis (sc:Scope) (x:Str):Prop:=sc.names.lookup x=some .local∨sc.names.lookup x=some .cell∨sc.names.lookup x=some .free
def Loc (sc:Scope) (x:Str):Prop:=sc.names.lookup x=some .local∨sc.names.lookup x=some .cell
def Look (env:Env) (h:Heap) (m:Str→Option Value) (x:Str) (u:Value):Prop :=
 (env.kindOf x=some .local∧m x=some u)∨((env.kindOf x=some .cell∨env.kindOf x=some .free)∧∃ c,env.cells.lookup x=some c∧h.IsCell c (some u))
structure Cx.Ok (X:Cx):Prop where
 mod:Mod X.K X.mg X.base
 kind:X.env.scope.kind = .function
 glob:X.env.globals=Wj
 blt:X.env.builtins=builtinsNs
 above:X.s₀.heap.objs.size≤X.env.locals
 inj:∀ x y c,X.env.cells.lookup x=some c→X.env.cells.lookup y=some c→x=y
 has:∀ x,(X.env.kindOf x=some .cell∨X.env.kindOf x=some .free)→∃ c,X.env.cells.lookup x=some c
 cab:∀ x c,X.fn x=true→X.env.cells.lookup x=some c→X.s₀.heap.objs.size≤c
 hd:X.calm=true→X.A.handled=none
 frames:X.A.frames=some X.stack
 stk:X.stack=X.outer∨(X.stack=X.env :: X.outer∧X.env.frame=some X.env.locals)
 exf:∀ b ∈ X.ex,b≠X.env.locals∧∀ x c,X.env.cells.lookup x=some c→c≠b
 bs:∀ b o,X.base.get? b=some o→X.s₀.heap.get? b=some o∧X.H₀ b=none
 bsz:X.base.objs.size≤X.s₀.heap.objs.size
 noex:∀ b o,X.base.get? b=some o→b ∉ X.ex
 exfs:∀ b ∈ X.ex,b ∉ X.fs
 funs:X.s₀.heap.FunFrames X.base X.outer
 frf:∀ b ∈ X.fs,X.H₀ b=none
structure Inv (X:Cx) (pins:List (Addr×Obj)) (σ:List (Option V)) (H:Hp) (s:W1):Prop where
 ok:X.Ok
 os:s.os=X.s₀.os
 bare:AllBare s.gens
 base:Un X.fs X.ex X.H₀ H X.s₀.heap s.heap
 loc:∃ m,s.heap.Ns X.env.locals m∧∀ (i:Nat) (x:Str) (v:V),X.N[i]? = some x→σ[i]? = some (some v)→Vis X.env.scope x→∃ u,RelV v u∧Look X.env s.heap m x u
 cell:∀ x c,X.env.cells.lookup x=some c→∃ v,s.heap.IsCell c v
 free:H X.env.locals=none
 freeC:∀ x c,X.env.cells.lookup x=some c→H c=none
 pin:∀ p ∈ X.pn ++ pins,s.heap.get? p.1=some p.2∧H p.1=none∧p.1≠X.env.locals∧p.1 ∉ X.fs∧∀ v,p.2.data≠.cell v
 hok:HOk X.prog X.w H s.heap
 len:σ.length=X.N.length
section
variable {X:Cx} {pins:List (Addr×Obj)} {σ:List (Option V)} {H H':Hp} {s:W1} {h':Heap}
theorem Cx.Ok.nofr (ok:X.Ok) (e:X.base.get? b=some o):b ∉ X.fs:=fun hb=>by
 have:=(ok.funs.mem hb).1
 rw [e] at this; cases this
theorem Inv.bs (I:Inv X pins σ H s):∀ b o,X.base.get? b=some o→s.heap.get? b=some o∧H b=none:=fun b o e =>
 ⟨I.base.keep b o (I.ok.bs b o e).1 (I.ok.bs b o e).2 (I.ok.nofr e) (I.ok.noex b o e),I.base.free b o (I.ok.bs b o e).1 (I.ok.bs b o e).2 (I.ok.noex b o e)⟩
theorem Inv.bk (I:Inv X pins σ H s):∀ b o,X.base.get? b=some o→s.heap.get? b=some o:=fun b o e=>(I.bs b o e).1
theorem Inv.mod (I:Inv X pins σ H s):Mod X.K X.mg X.base:=I.ok.mod
theorem Inv.kIn (I:Inv X pins σ H s):X.K.In s.heap:=I.ok.mod.kin.keeps I.bk
theorem Inv.fr (I:Inv X pins σ H s):∃ m,Fr X.base X.env.locals s.heap m :=
 let ⟨m,hn,_⟩:=I.loc
 ⟨m,hn,I.bk,WP I.ok.bsz I.ok.above⟩
theorem Inv.lt (I:Inv X pins σ H s):X.env.locals < s.heap.objs.size:=let ⟨_,hn,_⟩:=I.loc; hn.lt
theorem Inv.sz (I:Inv X pins σ H s):X.s₀.heap.objs.size≤s.heap.objs.size:=WP I.ok.above (J5 I.lt)
theorem Inv.nofs (I:Inv X pins σ H s) (h:s.heap.objs.size≤a):a ∉ X.fs:=fun hb=>by
 obtain ⟨_,o,ho,_⟩:=I.ok.funs.mem hb
 exact absurd (Wt (Wl ho) (WP I.sz h)) (WS _)
theorem Inv.cne (I:Inv X pins σ H s):∀ x c,X.env.cells.lookup x=some c→c≠X.env.locals:=fun x c e z=>by
 obtain ⟨v,o,ho,hd⟩:=I.cell x c e
 obtain ⟨m,⟨o',es,ep,ho',hd',_⟩,_⟩:=I.loc
 rw [z,ho'] at ho; cases ho; rw [hd'] at hd; cases hd
theorem Inv.funs (I:Inv X pins σ H s):s.heap.FunFrames X.base X.outer:=by
 have all:∀ (l:List Env),(∀ b ∈ frs l,b ∈ X.fs)→X.s₀.heap.FunFrames X.base l→s.heap.FunFrames X.base l:=by
  intro l
  induction l with
  | nil=>intro _ _; trivial
  | cons env r ih =>
   intro hs hl
   obtain ⟨hk,⟨L,o,hf,hn,ho,hd⟩,hr⟩:=hl
   have hL:L ∈ X.fs:=hs L (by unfold frs; rw [List.filterMap_cons,hf]; exact Wm)
   obtain ⟨sl,e⟩:=I.base.slot L o ho (I.ok.frf L hL) hL fun z=>I.ok.exfs L z hL
   exact ⟨hk,⟨L,_,hf,hn,e,hd⟩,ih (fun b hb=>hs b (by unfold frs; rw [List.filterMap_cons,hf]; exact Wi _ hb)) hr⟩
 exact all X.outer (fun _ hb=>hb) I.ok.funs
theorem Inv.stack (I:Inv X pins σ H s):s.heap.FunFrames X.base X.stack:=by
 rcases I.ok.stk with e | ⟨e,hf⟩
 ·rw [e]; exact I.funs
 ·rw [e]
  obtain ⟨m,hn,_⟩:=I.loc
  refine .cons (by rw [I.ok.kind]; decide) hf hn ?_ I.funs
  exact QT (WP I.ok.bsz I.ok.above)
theorem Inv.stkSub (I:Inv X pins σ H s):∀ b ∈ frs X.stack,b ∈ X.env.locals :: X.fs:=fun b hb=>by
 rcases I.ok.stk with e | ⟨e,hf⟩
 ·rw [e] at hb; exact Wi _ hb
 ·rw [e] at hb
  unfold frs at hb
  rw [List.filterMap_cons,hf] at hb
  exact hb
theorem Inv.stkFree (I:Inv X pins σ H s):∀ b ∈ frs X.stack,H b=none:=fun b hb=>by
 rcases Wp.mp (I.stkSub b hb) with e | hb
 ·rw [e]; exact I.free
 ·obtain ⟨_,o,ho,_⟩:=I.ok.funs.mem hb
  exact I.base.free b o ho (I.ok.frf b hb) fun z=>I.ok.exfs b z hb
theorem Inv.step {g':Array GenState} {t':Nat} {d':Drawn} {ch:List Addr} (I:Inv X pins σ H s)
  (hch:∀ b ∈ ch,(b ∈ X.ex∨X.s₀.heap.objs.size≤b)∧b≠X.env.locals∧(∀ x c,X.env.cells.lookup x=some c→c≠b)∧∀ p ∈ X.pn ++ pins,p.1≠b)
  (keep:∀ b o,b≠X.env.locals→b ∉ X.fs→b ∉ ch→s.heap.get? b=some o→H b=none→h'.get? b=some o)
  (slot:∀ b o,b≠X.env.locals→b ∈ X.fs→b ∉ ch→s.heap.get? b=some o→H b=none→∃ sl,h'.get? b=some { o with slots:=sl }) (free:∀ b o,b ∉ ch→s.heap.get? b=some o→H b=none→H' b=none)
  (there:∀ b o,b ∉ ch→s.heap.get? b=some o→∃ o',h'.get? b=some o')
  (tups:∀ b xs,H b=some (.tup xs)→H' b=some (.tup xs)) (frzs:∀ b o u,H b=some (.frz o u)→H' b=some (.frz o u)) (tbls:∀ b ps,H b=some (.tbl ps)→∃ more,H' b=some (.tbl (ps ++ more)))
  (ns:∀ m,s.heap.Ns X.env.locals m→h'.Ns X.env.locals m) (hok:HOk X.prog X.w H' h') (hg:AllBare g') :
  Inv X pins σ H' { s with heap:=h',gens:=g',drawn:=d',toks:=t' }:=by
 have neL:∀ b o,X.s₀.heap.get? b=some o→b≠X.env.locals:=fun b o e=>WK (Wt (Wl e) I.ok.above)
 have neC:∀ b o,X.s₀.heap.get? b=some o→b ∉ X.ex→b ∉ ch:=fun b o e hx hb=>by
  rcases (hch b hb).1 with z | z
  ·exact hx z
  ·exact absurd (Wt (Wl e) z) (WS _)
 have cellK:∀ x c,X.env.cells.lookup x=some c→∀ v,s.heap.IsCell c v→h'.IsCell c v:=fun x c e v ⟨o,ho,hd⟩=>by
  have nch:c ∉ ch:=fun z=>(hch c z).2.2.1 x c e rfl
  by_cases hc:c ∈ X.fs
  ·obtain ⟨sl,q⟩:=slot c o (I.cne x c e) hc nch ho (I.freeC x c e)
   exact ⟨_,q,hd⟩
  ·exact ⟨o,keep c o (I.cne x c e) hc nch ho (I.freeC x c e),hd⟩
 refine ⟨I.ok,I.os,hg,⟨fun b o e n hb hx=>?_,fun b o e n hb hx=>?_,fun b o e n hx=>?_,fun b o e hx=>?_,fun b xs e=>tups b xs (I.base.tups b xs e),fun b o xs e=>frzs b o xs (I.base.frzs b o xs e),fun b ps e=>?_⟩,?_,fun x c e=>?_,?_,fun x c e=>?_,fun p hp=>?_,hok,I.len⟩
 ·exact keep b o (neL b o e) hb (neC b o e hx) (I.base.keep b o e n hb hx) (I.base.free b o e n hx)
 ·obtain ⟨sl,e1⟩:=I.base.slot b o e n hb hx
  obtain ⟨sl',e2⟩:=slot b _ (neL b o e) hb (neC b o e hx) e1 (I.base.free b o e n hx)
  exact ⟨sl',e2⟩
 ·obtain ⟨o',e1⟩:=I.base.there b o e hx
  exact free b o' (neC b o e hx) e1 (I.base.free b o e n hx)
 ·obtain ⟨o',e1⟩:=I.base.there b o e hx
  exact there b o' (neC b o e hx) e1
 ·obtain ⟨m1,e1⟩:=I.base.tbls b ps e
  obtain ⟨m2,e2⟩:=tbls b _ e1
  exact ⟨m1 ++ m2,by rw [e2,Array.append_assoc]⟩
 ·obtain ⟨m,hn,hl⟩:=I.loc
  refine ⟨m,ns m hn,fun i x v e1 e2 e3=>?_⟩
  obtain ⟨u,r,l⟩:=hl i x v e1 e2 e3
  refine ⟨u,r,?_⟩
  rcases l with l | ⟨k,c,e,z⟩
  ·exact .inl l
  ·exact .inr ⟨k,c,e,cellK x c e _ z⟩
 ·obtain ⟨v,z⟩:=I.cell x c e
  exact ⟨v,cellK x c e v z⟩
 ·obtain ⟨m,⟨o,_,_,ho,_⟩,_⟩:=I.loc
  exact free _ o (fun z=>(hch _ z).2.1 rfl) ho I.free
 ·obtain ⟨v,o,ho,hd⟩:=I.cell x c e
  exact free c o (fun z=>(hch c z).2.2.1 x c e rfl) ho (I.freeC x c e)
 ·obtain ⟨e,n,ne,nf,d⟩:=I.pin p hp
  have nch:p.1 ∉ ch:=fun z=>(hch p.1 z).2.2.2 p hp rfl
  exact ⟨keep p.1 p.2 ne nf nch e n,free p.1 p.2 nch e n,ne,nf,d⟩
theorem Inv.un {t':Nat} (I:Inv X pins σ H s) (u:Un X.fs [] H H' s.heap h') (hok:HOk X.prog X.w H' h'):Inv X pins σ H' { s with heap:=h',toks:=t' }:=by
 obtain ⟨m,⟨o,es,ep,ho,r⟩,_⟩:=id I.loc
 obtain ⟨sl,hL⟩:=u.any ho I.free (by simp)
 exact I.step (g':=s.gens) (d':=s.drawn) (ch:=[]) (fun _ z=>nomatch z) (fun b o _ hb _ e n=>u.keep b o e n hb (by simp)) (fun b o _ hb _ e n=>u.slot b o e n hb (by simp)) (fun b o _ e n=>u.free b o e n (by simp)) (fun b o _ e=>u.there b o e (by simp)) u.tups u.frzs u.tbls (fun m' hm=>by
  obtain ⟨o',es',ep',ho',r'⟩:=hm
  rw [ho] at ho'; cases ho'
  exact ⟨_,es',ep',hL,r'⟩) hok I.bare
theorem Inv.call {g':Array GenState} {t':Nat} {d':Drawn} {ch:List Addr} (I:Inv X pins σ H s) (u:Un (frs X.stack) ch H H' s.heap h') (hok:HOk X.prog X.w H' h') (hg:AllBare g')
  (hch:∀ b ∈ ch,(b ∈ X.ex∨X.s₀.heap.objs.size≤b)∧b≠X.env.locals∧(∀ x c,X.env.cells.lookup x=some c→c≠b)∧∀ p ∈ X.pn ++ pins,p.1≠b) :
  Inv X pins σ H' { s with heap:=h',gens:=g',drawn:=d',toks:=t' }:=by
 obtain ⟨m,⟨o,es,ep,ho,r⟩,_⟩:=id I.loc
 obtain ⟨sl,hL⟩:=u.any ho I.free fun z=>(hch _ z).2.1 rfl
 exact I.step (ch:=ch) hch (fun b o hL hb hc e n=>u.keep b o e n (fun z=>(Wp.mp (I.stkSub b z)).elim hL hb) hc) (fun b o _ _ hc e n=>u.any e n hc) (fun b o hc e n=>u.free b o e n hc) (fun b o hc e=>u.there b o e hc) u.tups u.frzs u.tbls (fun m' hm=>by
  obtain ⟨o',es',ep',ho',r'⟩:=hm
  rw [ho] at ho'; cases ho'
  exact ⟨_,es',ep',hL,r'⟩) hok hg
theorem Inv.turned {t':Nat} {it:Addr} (I:Inv X pins σ H s) (k:∀ b o,b≠it→s.heap.get? b=some o→h'.get? b=some o) (hn:H it=none) (hL:it≠X.env.locals)
  (h1:it ∈ X.ex∨X.s₀.heap.objs.size≤it) (h2:∀ x c,X.env.cells.lookup x=some c→c≠it) (h3:∀ p ∈ X.pn ++ pins,p.1≠it):Inv X pins σ H { s with heap:=h',toks:=t' }:=by
 have nit:∀ b u,H b=some u→b≠it:=fun b u e z=>by rw [z,hn] at e; cases e
 refine I.step (g':=s.gens) (d':=s.drawn) (ch:=[it]) (fun b hb=>?_) (fun b o _ _ hc e _=>k b o (fun z=>hc (by simp [z])) e) (fun b o _ _ hc e _=>⟨o.slots,k b o (fun z=>hc (by simp [z])) e⟩) (fun _ _ _ _ n=>n)
  (fun b o hc e=>⟨o,k b o (fun z=>hc (by simp [z])) e⟩) (fun _ _ e=>e) (fun _ _ _ e=>e) (fun b ps e=>⟨#[],by rw [e]; simp⟩) (fun m hm=>?_) (fun b u e=>?_) I.bare
 ·have e:b=it:=by simpa using hb
  subst e
  exact ⟨h1,hL,h2,h3⟩
 ·obtain ⟨o,es,ep,ho,r⟩:=hm
  exact ⟨o,es,ep,k _ o (Ne.symm hL) ho,r⟩
 ·refine (I.hok b u e).stay (fun c v hc q=>k c v ?_ q) (fun _ q=>q) (fun _ _ q=>q) fun _ _ _ q=>q
  rcases hc with z | z
  ·rw [z]; exact nit b u e
  ·exact nit c _ z
theorem Inv.tok (I:Inv X pins σ H s) (t:Nat):Inv X pins σ H { s with toks:=t }:=I.un (h':=s.heap) (t':=t) Un.refl I.hok
theorem Inv.kept (I:Inv X pins σ H s) (k:∀ b u,s.heap.get? b=some u→h'.get? b=some u):Inv X pins σ H { s with heap:=h',toks:=t' }:=I.un (Un.kept k) (I.hok.kept k)
theorem Inv.laid (I:Inv X pins σ H s) (k:∀ b u,s.heap.get? b=some u→h'.get? b=some u) (hp:s.heap.objs.size≤a) (new:ObjOk X.prog X.w (upd H a o) h' a o) :
  Inv X pins σ (upd H a o) { s with heap:=h',toks:=t' }:=I.un (Un.laid k hp (I.hok.fresh hp)) (I.hok.laid k hp new)
theorem Inv.write (I:Inv X pins σ H s) (mu:Mut (H x)) (he:e=x∨H e=some (.own x)) (k:∀ b u,b≠e→s.heap.get? b=some u→h'.get? b=some u) (heo:∃ u,h'.get? e=some u)
  (new:ObjOk X.prog X.w (upd H x o) h' x o):Inv X pins σ (upd H x o) { s with heap:=h',toks:=t' }:=I.un (Un.write mu he k heo) (I.hok.write mu he k heo new)
theorem Inv.weak (I:Inv X pins σ H s) (hl:σ'.length=σ.length) (w:∀ (i:Nat) v,σ'[i]? = some (some v)→σ[i]? = some (some v)):Inv X pins σ' H s :=
 ⟨I.ok,I.os,I.bare,I.base,let ⟨m,hn,hl'⟩:=I.loc; ⟨m,hn,fun i x v e1 e2 e3=>hl' i x v e1 (w i v e2) e3⟩,I.cell,I.free,I.freeC,I.pin,I.hok,hl.trans I.len⟩
theorem Inv.pins_of (I:Inv X pins σ H s) (h:∀ p ∈ pins',s.heap.get? p.1=some p.2∧H p.1=none∧p.1≠X.env.locals∧p.1 ∉ X.fs∧∀ v,p.2.data≠.cell v):Inv X pins' σ H s :=
 ⟨I.ok,I.os,I.bare,I.base,I.loc,I.cell,I.free,I.freeC,fun p hp=>(QK.mp hp).elim (fun z=>I.pin p (QU _ z)) (h p),I.hok,I.len⟩
theorem z5R {N:List Str} (hN:N.Nodup) {i j:Nat} {x:Str} (a:N[i]? = some x) (b:N[j]? = some x):i=j:=by
 obtain ⟨h1,e1⟩:=Wb.mp a
 obtain ⟨h2,e2⟩:=Wb.mp b
 exact (List.getElem_inj hN).mp (e1.trans e2.symm)
theorem z3n {M:Model} {A:Wf} {E:Value→W1→Prop} {i:Nat} {x:Str} {v:V} {u:Value} {Q:Unit→W1→Prop} (I:Inv X pins σ H s) (hN:X.N.Nodup) (hi:X.N[i]? = some x) (hx:Loc X.env.scope x) (r:RelV v u)
  (h:∀ s',Inv X pins (σ.set i (some v)) H s'→(∃ a,Heap.SameBut a s.heap s'.heap∧(a=X.env.locals∨X.env.cells.lookup x=some a))→Q () s') (hf:X.fn x=true∨X.env.scope.names.lookup x=some .local:=by first | exact .inl rfl | exact .inr rfl | assumption):W9 M A (storeName X.env x u) Q E s:=by
 obtain ⟨m,hn,hl⟩:=id I.loc
 have hcls:(X.env.scope.kind == .class || (X.env.scope.kind == .module && X.env.locals != X.env.globals))=false:=by rw [I.ok.kind]; rfl
 have hiσ:i < σ.length:=by rw [I.len]; exact (Wb.mp hi).1
 have cne:=I.cne
 have tracked:∀ {a:Addr} {h':Heap},(∃ o,s.heap.get? a=some o∧H a=none)→Heap.SameBut a s.heap h'→HOk X.prog X.w H h':=fun {a h'} ha hs b ob e=>by
  obtain ⟨_,_,hfree⟩:=ha
  refine (I.hok b ob e).stay (fun c w' hc q=>(hs.2 c ?_).trans q) (fun _ q=>q) (fun _ _ q=>q) fun _ _ _ q=>q
  rintro rfl
  rcases hc with rfl | hc
  ·rw [hfree] at e; cases e
  ·rw [hfree] at hc; cases hc
 rcases hx with hk | hk
 ·refine wpAny_storeName_local hk hn (fun h' hn' hs=>?_) hcls
  obtain ⟨oL,_,_,hoL,_⟩:=id hn
  refine h _ ⟨I.ok,I.os,I.bare,⟨fun b o e n hb hx=>?_,fun b o e n hb hx=>?_,I.base.free,fun b o e hx=>?_,I.base.tups,I.base.frzs,I.base.tbls⟩,⟨_,hn',fun j y v' e1 e2 e3=>?_⟩,fun y c e=>?_,I.free,I.freeC,fun p hp=>?_,tracked ⟨oL,hoL,I.free⟩ hs,by simpa using I.len⟩ ⟨_,hs,.inl rfl⟩
  ·exact (hs.2 b (WK (Wt (Wl e) I.ok.above))).trans (I.base.keep b o e n hb hx)
  ·obtain ⟨sl,e1⟩:=I.base.slot b o e n hb hx
   exact ⟨sl,(hs.2 b (WK (Wt (Wl e) I.ok.above))).trans e1⟩
  ·obtain ⟨o',e1⟩:=I.base.there b o e hx
   exact ⟨o',(hs.2 b (WK (Wt (Wl e) I.ok.above))).trans e1⟩
  ·by_cases hj:j=i
   ·subst hj
    rw [hi] at e1; cases e1
    rw [Wq hiσ] at e2
    cases e2
    exact ⟨u,r,.inl ⟨hk,by simp⟩⟩
   ·rw [W4 (Ne.symm hj)] at e2
    obtain ⟨u',r',q⟩:=hl j y v' e1 e2 e3
    refine ⟨u',r',?_⟩
    rcases q with ⟨k,e⟩ | ⟨k,c,e,z⟩
    ·refine .inl ⟨k,?_⟩
     have:y≠x:=fun e=>hj (z5R hN e1 (e ▸ hi))
     simp [this,e]
    ·exact .inr ⟨k,c,e,z.sameBut hs (cne y c e)⟩
  ·obtain ⟨w',z⟩:=I.cell y c e
   exact ⟨w',z.sameBut hs (cne y c e)⟩
  ·obtain ⟨e,n,ne,nf,d⟩:=I.pin p hp
   exact ⟨(hs.2 p.1 ne).trans e,n,ne,nf,d⟩
 ·have hfn:X.fn x=true:=by
   rcases hf with z | z
   ·exact z
   ·rw [z] at hk; cases hk
  obtain ⟨c,hc⟩:=I.ok.has x (.inl hk)
  obtain ⟨w',z⟩:=I.cell x c hc
  refine wpAny_storeName_cell I.ok.kind hk hc z (fun h' hc' hs=>?_)
  obtain ⟨oc,hoc,hocd⟩:=id z
  refine h { s with heap:=h' } ⟨I.ok,I.os,I.bare,⟨fun b o e n hb hx=>?_,fun b o e n hb hx=>?_,I.base.free,fun b o e hx=>?_,I.base.tups,I.base.frzs,I.base.tbls⟩,⟨m,hn.sameBut hs (Ne.symm (cne x c hc)),fun j y v' e1 e2 e3=>?_⟩,fun y c' e=>?_,I.free,I.freeC,fun p hp=>?_,tracked ⟨oc,hoc,I.freeC x c hc⟩ hs,by simpa using I.len⟩ ⟨c,hs,.inr hc⟩
  ·exact (hs.2 b (WK (Wt (Wl e) (I.ok.cab x c hfn hc)))).trans (I.base.keep b o e n hb hx)
  ·obtain ⟨sl,e1⟩:=I.base.slot b o e n hb hx
   exact ⟨sl,(hs.2 b (WK (Wt (Wl e) (I.ok.cab x c hfn hc)))).trans e1⟩
  ·obtain ⟨o',e1⟩:=I.base.there b o e hx
   exact ⟨o',(hs.2 b (WK (Wt (Wl e) (I.ok.cab x c hfn hc)))).trans e1⟩
  ·by_cases hj:j=i
   ·subst hj
    rw [hi] at e1; cases e1
    rw [Wq hiσ] at e2
    cases e2
    exact ⟨u,r,.inr ⟨.inl hk,c,hc,hc'⟩⟩
   ·rw [W4 (Ne.symm hj)] at e2
    obtain ⟨u',r',q⟩:=hl j y v' e1 e2 e3
    refine ⟨u',r',?_⟩
    rcases q with q | ⟨k,c',e,z'⟩
    ·exact .inl q
    ·refine .inr ⟨k,c',e,z'.sameBut hs ?_⟩
     rintro rfl
     exact hj (z5R hN e1 (I.ok.inj _ _ _ e hc ▸ hi))
  ·by_cases hcc:c'=c
   ·subst hcc; exact ⟨_,hc'⟩
   ·obtain ⟨w2,z2⟩:=I.cell y c' e
    exact ⟨w2,z2.sameBut hs hcc⟩
  ·obtain ⟨e,n,ne,nf,d⟩:=I.pin p hp
   refine ⟨(hs.2 p.1 ?_).trans e,n,ne,nf,d⟩
   intro q
   rw [q,hoc] at e
   have q':oc=p.2:=Ws e
   exact d w' (by rw [← q']; exact hocd)
theorem z4i (I:Inv X pins σ H s) (hN:X.N.Nodup) (hi:X.N[i]? = some x) (hx:Loc X.env.scope x) (r:RelV v u)
  (h:∀ s',Inv X pins (σ.set i (some v)) H s'→Q () s') (hf:X.fn x=true∨X.env.scope.names.lookup x=some .local:=by first | exact .inl rfl | exact .inr rfl | assumption):W9 M A (storeName X.env x u) Q E s :=
 z3n I hN hi hx r (fun s' I' _=>h s' I') hf
theorem Inv.call' (I:Inv X pins σ H s) (ho:s'.os=s.os) (u:Un (frs X.stack) ch H H' s.heap s'.heap) (hok:HOk X.prog X.w H' s'.heap) (hg:AllBare s'.gens)
  (hch:∀ b ∈ ch,(b ∈ X.ex∨X.s₀.heap.objs.size≤b)∧b≠X.env.locals∧(∀ x c,X.env.cells.lookup x=some c→c≠b)∧∀ p ∈ X.pn ++ pins,p.1≠b):Inv X pins σ H' s':=by
 obtain ⟨h',g',d',t',o'⟩:=s'
 have e:o'=s.os:=ho
 subst e
 exact I.call (g':=g') (t':=t') (d':=d') u hok hg hch
end
abbrev XK:=Value→Option Addr→Hp→Prop
abbrev St:=List (Option V)
abbrev VK:=V→Hp→Prop
abbrev TE:=St→Hp→VK→Prop
abbrev TT:=St→Hp→(Bool→Hp→Prop)→Prop
abbrev TA:=St→Hp→(List V→Hp→Prop)→Prop
structure Ends where
 nx:St→Hp→Prop
 rt:VK
 bk:St→Hp→Prop:=fun _ _=>False
 ct:St→Hp→Prop:=fun _ _=>False
abbrev TS:=Ends→St→Hp→Prop
def EP (X:Cx) (pins:List (Addr×Obj)) (σ:St) (Q:VK) (u:Value) (s':W1):Prop:=∃ v H',Inv X pins σ H' s'∧RelV v u∧Q v H'
def TP (X:Cx) (pins:List (Addr×Obj)) (σ:St) (Q:Bool→Hp→Prop) (b:Bool) (s':W1):Prop:=∃ H',Inv X pins σ H' s'∧Q b H'
def AP (X:Cx) (pins:List (Addr×Obj)) (σ:St) (Q:List V→Hp→Prop) (us:List Value) (s':W1):Prop:=∃ vs H',Inv X pins σ H' s'∧Vals vs us∧Q vs H'
def SP (X:Cx) (pins:List (Addr×Obj)) (D:Ends) (f:Flow) (s':W1):Prop :=
 match f with
 | .next=>∃ σ' H',Inv X pins σ' H' s'∧D.nx σ' H'
 | .brk=>∃ σ' H',Inv X pins σ' H' s'∧D.bk σ' H'
 | .cont=>∃ σ' H',Inv X pins σ' H' s'∧D.ct σ' H'
 | .ret u=>∃ v σ' H',Inv X pins σ' H' s'∧RelV v u∧D.rt v H'
def PE (X:Cx) (e:Expr) (t:TE):Prop :=
 ∀ (pins:List (Addr×Obj)) (s:W1) (σ:St) (H:Hp) (Q:VK),Inv X pins σ H s→t σ H Q→W9 (model X.prog X.w) X.A (eval e X.env) (EP X pins σ Q) X.xe s
def PT (X:Cx) (e:Expr) (t:TT):Prop :=
 ∀ (pins:List (Addr×Obj)) (s:W1) (σ:St) (H:Hp) (Q:Bool→Hp→Prop),Inv X pins σ H s→t σ H Q→W9 (model X.prog X.w) X.A (isTrue e X.env (eval e X.env)) (TP X pins σ Q) X.xe s
def PW (X:Cx) (e:Expr) (t:TT):Prop :=
 ∀ (whole:Sem Value) (pins:List (Addr×Obj)) (s:W1) (σ:St) (H:Hp) (Q:Bool→Hp→Prop),Inv X pins σ H s→t σ H Q→W9 (model X.prog X.w) X.A (isTrue e X.env whole) (TP X pins σ Q) X.xe s
theorem PW.pt (h:PW X e t):PT X e t:=h _
def PA (X:Cx) (es:List Expr) (t:TA):Prop :=
 ∀ (pos:Pos) (pins:List (Addr×Obj)) (s:W1) (σ:St) (H:Hp) (Q:List V→Hp→Prop),Inv X pins σ H s→t σ H Q→W9 (model X.prog X.w) X.A (spliced (WD pos (W3 es X.env))) (AP X pins σ Q) X.xe s
def PS (X:Cx) (st:Stmt) (t:TS):Prop :=
 ∀ (pins:List (Addr×Obj)) (s:W1) (σ:St) (H:Hp) (D:Ends),Inv X pins σ H s→t D σ H→W9 (model X.prog X.w) X.A (exec st X.env) (SP X pins D) X.xe s
def PSs (X:Cx) (st:List Stmt) (t:TS):Prop :=
 ∀ (pins:List (Addr×Obj)) (s:W1) (σ:St) (H:Hp) (D:Ends),Inv X pins σ H s→t D σ H→W9 (model X.prog X.w) X.A (execs st X.env) (SP X pins D) X.xe s
theorem thn (h:W9 M A t Q E s) (hQ:∀ a s,Q a s→Q' a s):W9 M A t Q' E s:=WH h hQ fun _ _ x=>x
section
variable {X:Cx}
theorem bin {a b:Expr} {ta tb:TE} (ha:PE X a ta) (hb:PE X b tb) {pins:List (Addr×Obj)} {s:W1} {σ:St} {H:Hp} {R:V→V→Hp→Prop} (I:Inv X pins σ H s) (h:ta σ H fun x H1=>tb σ H1 fun y H2=>R x y H2)
  {α:Type} {Q:α→W1→Prop} {f:Value→Value→Sem α}
  (hf:∀ v u s2 x y H2,Inv X pins σ H2 s2→RelV x v→RelV y u→R x y H2→W9 (model X.prog X.w) X.A (f v u) Q X.xe s2) :
  W9 (model X.prog X.w) X.A (eval a X.env) (fun v s₁=>W9 (model X.prog X.w) X.A (eval b X.env) (fun u s₂=>W9 (model X.prog X.w) X.A (f v u) Q X.xe s₂) X.xe s₁) X.xe s:=by
 refine thn (ha pins s σ H _ I h) fun v s1 ⟨x,H1,I1,r1,q1⟩=>?_
 refine thn (hb pins s1 σ H1 _ I1 q1) fun u s2 ⟨y,H2,I2,r2,q2⟩=>?_
 exact hf v u s2 x y H2 I2 r1 r2 q2
def tVar (i:Nat):TE:=fun σ H Q=>∃ v,σ[i]? = some (some v)∧Q v H
def tC (v:V):TE:=fun _ H Q=>Q v H
theorem zex (hN:X.N[i]? = some x) (hv:Vis X.env.scope x) (hd:(x == ("__debug__" : Str))=false:=by decide) (hcd:(x == ("__classdict__" : Str))=false:=by decide):PE X (.Name x pos) (tVar i):=by
 intro pins s σ H Q I h
 obtain ⟨v,e,h⟩:=h
 obtain ⟨m,hn,hl⟩:=I.loc
 obtain ⟨u,r,l⟩:=hl i x v hN e hv
 have fin:EP X pins σ Q u s:=⟨v,H,I,r,h⟩
 rcases l with ⟨hk,hm⟩ | ⟨hk,c,hc,hcell⟩
 ·exact wpAny_Name (wpAny_loadName_local I.ok.kind hk hn hm fin) hd
 ·rcases hk with hk | hk
  ·exact wpAny_Name (wpAny_loadName_cell I.ok.kind hk hc hcell fin) hd
  ·exact wpAny_Name (wpAny_loadName_free I.ok.kind hk hc hcell fin hcd) hd
theorem zeF {i j pos}:PE X (.Constant (.int i) j pos) (tC (.int i)):=fun _ _ _ H _ I h=>wpAny_Constant_int ⟨.int i,H,I.tok _,⟨_,rfl⟩,h⟩
theorem zcV {b j pos}:PE X (.Constant (.bool b) j pos) (tC (.bl b)):=fun _ _ _ H _ I h=>Constant_bool ⟨.bl b,H,I,rfl,h⟩
theorem zeC {j pos}:PE X (.Constant .none j pos) (tC .non):=fun _ _ _ H _ I h=>Constant_none ⟨.non,H,I,rfl,h⟩
theorem zc0 {x j pos}:PE X (.Constant (.str x) j pos) (tC (.str x)):=fun _ _ _ H _ I h=>Calls.Constant_str ⟨.str x,H,I.tok _,⟨_,rfl⟩,h⟩
def Gl (X:Cx) (x:Str):Prop:=X.env.kindOf x=some .globalImplicit
theorem z39 (I:Inv X pins σ H s) (hg:Gl X x) (hm:X.mg x=some u) (h:Q u s)
  (hd:(x == ("__debug__" : Str))=false:=by decide):W9 (model X.prog X.w) X.A (eval (.Name x pos) X.env) Q E s :=
 Calls.Name_function_global I.ok.kind hg (Calls.loadGlobal_global (by rw [I.ok.glob]; exact I.mod.glob.keeps I.bk) hm h) hd
theorem z7X (I:Inv X pins σ H s) (hg:Gl X x) (hm:X.mg x=none) (hv:WW x=some u) (h:Q u s)
  (hn:x≠"__name__":=by decide) (hd:(x == ("__debug__" : Str))=false:=by decide):W9 (model X.prog X.w) X.A (eval (.Name x pos) X.env) Q E s:=by
 obtain ⟨mb,h1,h2⟩:=I.mod.blt
 exact Calls.Name_function_global I.ok.kind hg (Calls.loadGlobal_builtin (by rw [I.ok.glob]; exact I.mod.glob.keeps I.bk) hm (by rw [I.ok.blt]; exact h1.keeps I.bk) ((h2 x hn).trans hv) h) hd
theorem z9y (hg:Gl X x) (hm:X.mg x=none) (hv:WW x=some u) (r:RelV v u) (hn:x≠"__name__":=by decide) (hd:(x == ("__debug__" : Str))=false:=by decide):PE X (.Name x pos) (tC v) :=
 fun _ _ _ H _ I h=>z7X I hg hm hv ⟨v,H,I,r,h⟩ hn hd
variable {a b:Expr} {ta tb:TE} {pos:Pos}
def PC (X:Cx) (op:CmpOp) (a b:Expr) (t:TE):Prop :=
 ∀ (pins:List (Addr×Obj)) (s:W1) (σ:St) (H:Hp) (Q:VK),Inv X pins σ H s→t σ H Q →
  W9 (model X.prog X.w) X.A (eval a X.env) (fun v s₁=>W9 (model X.prog X.w) X.A (eval b X.env) (fun u s₂=>W9 (model X.prog X.w) X.A (WB op v u) (EP X pins σ Q) X.xe s₂) X.xe s₁) X.xe s
theorem zbg (b:Expr) (h:op≠.In) (h2:op≠.NotIn):Q7 op b=false:=by
 have e1:(op == CmpOp.In)=false:=by cases op <;> first | rfl | exact absurd rfl h
 have e2:(op == CmpOp.NotIn)=false:=by cases op <;> first | rfl | exact absurd rfl h2
 cases b <;> simp [Q7,e1,e2]
def tB (t:TE):TT:=fun σ H Q=>t σ H fun x H1=>∃ c,x = .bl c∧Q c H1
theorem pt_cmp (h:PC X op a b t) (h1:Q7 op b=false:=by first | exact zbg _ (by decide) (by decide) | rfl):PT X (.Compare a [op] [b] pos) (tB t):=by
 intro pins s σ H Q I hw
 refine wpAny_isTrue_Compare1 (thn (h pins s σ H _ I hw) fun v s1 h1=>thn h1 fun u s2 h2=>thn h2 fun c s3 ⟨x,H1,I1,r1,q1⟩=>?_) h1
 obtain ⟨d,rfl,q⟩:=q1
 cases r1
 exact Qy ⟨H1,I1,q⟩
theorem zep (h:PE X e t) (he:∀ whole,isTrue e X.env whole=(do let v ← whole; standAt e.pos; holding [v] (truthy v)):=by intro _; rfl):PT X e (tB t):=by
 intro pins s σ H Q I hw
 refine isTrue_plain (thn (h pins s σ H _ I hw) fun v s1 ⟨x,H1,I1,r1,q1⟩=>?_) (he _)
 obtain ⟨d,rfl,q⟩:=q1
 cases r1
 exact Qy ⟨H1,I1,q⟩
variable {tA tB':TT} {rest:List Expr}
def tAnd (t u:TT):TT:=fun σ H Q=>t σ H fun c H1=>if c=true then u σ H1 Q else Q false H1
def tOr (t u:TT):TT:=fun σ H Q=>t σ H fun c H1=>if c=true then Q true H1 else u σ H1 Q
def tNot (t:TT):TT:=fun σ H Q=>t σ H fun c H1=>Q (!c) H1
theorem zcM (ha:PT X a tA):PW X (.BoolOp .And [a] pos) tA:=by
 intro wh pins s σ H Q I h
 refine isTrue_and (thn (ha pins s σ H Q I h) fun c s1 e=>?_)
 cases c with
 | true=>exact isTrue_and_nil e
 | false=>exact e
theorem zem (ha:PT X a tA):PW X (.BoolOp .Or [a] pos) tA:=by
 intro wh pins s σ H Q I h
 refine isTrue_or (thn (ha pins s σ H Q I h) fun c s1 e=>?_)
 cases c with
 | false=>exact isTrue_or_nil e
 | true=>exact e
theorem zen (ha:PT X a tA) (hb:PW X (.BoolOp .And (b :: rest) pos) tB'):PW X (.BoolOp .And (a :: b :: rest) pos) (tAnd tA tB'):=by
 intro wh pins s σ H Q I h
 refine isTrue_and (thn (ha pins s σ H _ I h) fun c s1 ⟨H1,I1,q1⟩=>?_)
 cases c with
 | true=>exact hb wh pins s1 σ H1 Q I1 q1
 | false=>exact ⟨H1,I1,q1⟩
theorem pw_or (ha:PT X a tA) (hb:PW X (.BoolOp .Or (b :: rest) pos) tB'):PW X (.BoolOp .Or (a :: b :: rest) pos) (tOr tA tB'):=by
 intro wh pins s σ H Q I h
 refine isTrue_or (thn (ha pins s σ H _ I h) fun c s1 ⟨H1,I1,q1⟩=>?_)
 cases c with
 | true=>exact ⟨H1,I1,q1⟩
 | false=>exact hb wh pins s1 σ H1 Q I1 q1
theorem zeq (ha:PT X a tA):PT X (.UnaryOp .Not a pos) (tNot tA):=by
 intro pins s σ H Q I h
 exact isTrue_not (ha pins s σ H (fun c H1=>Q (!c) H1) I h)
def tAndV (ta tb:TE):TE:=fun σ H Q=>ta σ H fun x H1=>∃ c,x = .bl c∧if c=true then tb σ H1 Q else Q (.bl false) H1
def tNotV (ta:TE):TE:=fun σ H Q=>ta σ H fun x H1=>∃ c,x = .bl c∧Q (.bl (!c)) H1
theorem zeA {op} (h:PE X a t):PE X (.BoolOp op [a] pos) t:=fun pins s σ H Q I hw=>BoolOp_one (h pins s σ H Q I hw)
theorem zeH (ha:PE X a ta) (hb:PE X (.BoolOp .And (b :: rest) pos) tb):PE X (.BoolOp .And (a :: b :: rest) pos) (tAndV ta tb):=by
 intro pins s σ H Q I h
 refine BoolOp_and (thn (ha pins s σ H _ I h) fun v s1 ⟨x,H1,I1,r1,q1⟩=>?_)
 obtain ⟨c,rfl,q1⟩:=q1
 cases r1
 refine Qy ?_
 cases c with
 | true=>exact hb pins s1 σ H1 Q I1 q1
 | false=>exact ⟨.bl false,H1,I1,rfl,q1⟩
theorem zeB (ha:PE X a ta):PE X (.UnaryOp .Not a pos) (tNotV ta):=by
 intro pins s σ H Q I h
 refine UnaryOp_ (thn (ha pins s σ H _ I h) fun v s1 ⟨x,H1,I1,r1,q1⟩=>?_)
 obtain ⟨c,rfl,q1⟩:=q1
 cases r1
 exact not_of (Qy ⟨.bl (!c),H1,I1,rfl,q1⟩)
end
def SqL (K:W0) (H:Hp) (a:Addr) (xs:List V):Prop :=
 Rd H a (.lst xs) ∨
  ∃ (o:Obj) (its:Array Value) (n:Nat),K.lookup a=some o∧o.cls = .type "list"∧o.dict=none∧o.data = .seq its n∧its.size≤W6∧Vals xs its.toList
def SqT (K:W0) (H:Hp) (a:Addr) (xs:List V):Prop :=
 Rd H a (.tup xs) ∨
  ∃ (o:Obj) (its:Array Value) (n:Nat),K.lookup a=some o∧o.cls = .type "tuple"∧o.data = .seq its n∧its.size≤W6∧Vals xs its.toList
def absV:Value→Option V
 | .none=>some .non
 | .bool b=>some (.bl b)
 | .int i _=>some (.int i)
 | .str x _=>some (.str x)
 | .bytes b _=>some (.byt b)
 | .float b _=>some (.flt b)
 | .ref a=>some (.ref a)
 | .type n=>some (.ty n)
 | _=>none
theorem RelV.abs (r:RelV x u):absV u=some x:=by
 cases x with
 | non=>cases r; rfl
 | bl _=>cases r; rfl
 | int _=>obtain ⟨t,rfl⟩:=r; rfl
 | str _=>obtain ⟨t,rfl⟩:=r; rfl
 | byt _=>obtain ⟨t,rfl⟩:=r; rfl
 | flt _=>obtain ⟨t,rfl⟩:=r; rfl
 | ref _=>cases r; rfl
 | ty _=>cases r; rfl
theorem RelV.inj (r:RelV x u) (q:RelV y u):x=y:=Ws (r.abs.symm.trans q.abs)
theorem Vals.inj:∀ {xs ys:List V} {us:List Value},Vals xs us→Vals ys us→xs=ys
 | _,_,_,.nil,.nil=>rfl
 | _,_,_,.cons r t,.cons r' t'=>by rw [r.inj r',Vals.inj t t']
section
variable {X:Cx} {pins:List (Addr×Obj)} {σ:St} {H:Hp} {s:W1} {a:Addr} {xs ys:List V}
theorem SqL.of {K:W0} (h:H a=some (.lst xs)):SqL K H a xs:=.inl (.inl h)
theorem SqT.of {K:W0} (h:H a=some (.tup xs)):SqT K H a xs:=.inl (.inl h)
theorem Inv.list (I:Inv X pins σ H s) (h:SqL X.K H a xs):∃ its:List Value,Vals xs its∧PlainL s.heap a its.toArray∧xs.length≤W6:=by
 rcases h with h | ⟨o,its,n,hk,hc,hd,hs,hz,r⟩
 ·obtain ⟨z,its,n,r,e⟩:=h.ok I.hok
  exact ⟨its,r,⟨_,n,e,rfl,rfl,rfl⟩,z⟩
 ·refine ⟨its.toList,r,⟨o,n,I.kIn a o hk,hc,hd,by simpa using hs⟩,?_⟩
  have e:=r.length
  simp only [Array.length_toList] at e
  omega
theorem Inv.tuple (I:Inv X pins σ H s) (h:SqT X.K H a xs):∃ its:List Value,Vals xs its∧IsTup s.heap a its.toArray∧xs.length≤W6:=by
 rcases h with h | ⟨o,its,n,hk,hc,hs,hz,r⟩
 ·obtain ⟨z,its,r,p⟩:=h.ok I.hok
  exact ⟨its,r,p.tup,z⟩
 ·refine ⟨its.toList,r,⟨o,I.kIn a o hk,hc,n,by simpa using hs⟩,?_⟩
  have e:=r.length
  simp only [Array.length_toList] at e
  omega
theorem Inv.list_inj (I:Inv X pins σ H s) (h:SqL X.K H a xs) (h':SqL X.K H a ys):xs=ys:=by
 obtain ⟨its,r,⟨o,n,e,_,_,d⟩,_⟩:=I.list h
 obtain ⟨its',r',⟨o',n',e',_,_,d'⟩,_⟩:=I.list h'
 rw [e] at e'; cases e'
 rw [d] at d'
 injection d' with d1 _
 have:its=its':=by simpa using congrArg Array.toList d1
 subst this
 exact r.inj r'
theorem Inv.tuple_inj (I:Inv X pins σ H s) (h:SqT X.K H a xs) (h':SqT X.K H a ys):xs=ys:=by
 obtain ⟨its,r,⟨o,e,_,n,d⟩,_⟩:=I.tuple h
 obtain ⟨its',r',⟨o',e',_,n',d'⟩,_⟩:=I.tuple h'
 rw [e] at e'; cases e'
 rw [d] at d'
 injection d' with d1 _
 have:its=its':=by simpa using congrArg Array.toList d1
 subst this
 exact r.inj r'
end
abbrev Cx.wish (X:Cx) (E:Value→W1→Prop):Cx:={ X with xe:=E }
abbrev Cx.nox (X:Cx):Cx:=X.wish fun _ _=>False
theorem Cx.Ok.wish {X:Cx} (ok:X.Ok) (E:Value→W1→Prop):(X.wish E).Ok :=
 ⟨ok.mod,ok.kind,ok.glob,ok.blt,ok.above,ok.inj,ok.has,ok.cab,ok.hd,ok.frames,ok.stk,ok.exf,ok.bs,ok.bsz,ok.noex,ok.exfs,ok.funs,ok.frf⟩
theorem Cx.Ok.unwish {X:Cx} {E:Value→W1→Prop} (ok:(X.wish E).Ok):X.Ok :=
 ⟨ok.mod,ok.kind,ok.glob,ok.blt,ok.above,ok.inj,ok.has,ok.cab,ok.hd,ok.frames,ok.stk,ok.exf,ok.bs,ok.bsz,ok.noex,ok.exfs,ok.funs,ok.frf⟩
section
variable {X:Cx} {pins:List (Addr×Obj)} {σ:St} {H:Hp} {s:W1} {E:Value→W1→Prop}
theorem Inv.wish (I:Inv X pins σ H s) (E:Value→W1→Prop):Inv (X.wish E) pins σ H s:=⟨I.ok.wish E,I.os,I.bare,I.base,I.loc,I.cell,I.free,I.freeC,I.pin,I.hok,I.len⟩
theorem Inv.unwish (I:Inv (X.wish E) pins σ H s):Inv X pins σ H s:=⟨I.ok.unwish,I.os,I.bare,I.base,I.loc,I.cell,I.free,I.freeC,I.pin,I.hok,I.len⟩
theorem SP.unwish (h:SP (X.wish E) pins D f s'):SP X pins D f s':=by
 cases f with
 | next=>obtain ⟨σ',H',I,q⟩:=h; exact ⟨σ',H',I.unwish,q⟩
 | brk=>obtain ⟨σ',H',I,q⟩:=h; exact ⟨σ',H',I.unwish,q⟩
 | cont=>obtain ⟨σ',H',I,q⟩:=h; exact ⟨σ',H',I.unwish,q⟩
 | ret u=>obtain ⟨v,σ',H',I,r,q⟩:=h; exact ⟨v,σ',H',I.unwish,r,q⟩
theorem PSs.nox {st:List Stmt} {t:TS} (h:PSs X.nox st t):PSs X st t:=fun pins s σ H D I hw =>
 WH (h pins s σ H D (I.wish _) hw) (fun _ _ q=>q.unwish) fun _ _ z=>False.elim z
end
section
variable {X:Cx} {st:Stmt} {rest:List Stmt} {t u:TS} {e:Expr} {te:TE} {pos:Pos}
def tNext:TS:=fun D σ H=>D.nx σ H
def tSeq (t u:TS):TS:=fun D σ H=>t { D with nx:=u D } σ H
theorem zcP:PSs X [] tNext:=fun _ _ σ H _ I h=>J1 ⟨σ,H,I,h⟩
theorem zb1 (h1:PS X st t) (h2:PSs X rest u):PSs X (st :: rest) (tSeq t u):=by
 intro pins s σ H D I h
 refine wpAny_execs_cons (thn (h1 pins s σ H { D with nx:=u D } I h) fun f s1 q=>?_)
 cases f with
 | next =>
  obtain ⟨σ',H',I',q⟩:=q
  exact h2 pins s1 σ' H' D I' q
 | ret v=>exact q
 | brk=>exact q
 | cont=>exact q
theorem z9m (h1:PS X st t):PSs X [st] t:=by
 intro pins s σ H D I h
 refine wpAny_execs_cons (thn (h1 pins s σ H D I h) fun f s1 q=>?_)
 cases f with
 | next=>exact J1 q
 | ret v=>exact q
 | brk=>exact q
 | cont=>exact q
theorem Inv.quiet (I:Inv X pins σ H s):interactive X.env=false:=by simp [interactive,I.ok.kind]
def zcm (te:TE):TS:=fun D σ H=>te σ H fun _ H1=>D.nx σ H1
theorem z9p (he:PE X e te) (hs:QB e none pos.line X.env=pure false:=by rfl):PS X (.Expr e pos) (zcm te):=by
 intro pins s σ H D I h
 exact wpAny_Expr_any (thn (he pins s σ H _ I h) fun v s1 ⟨x,H1,I1,r1,q1⟩=>⟨σ,H1,I1,q1⟩) I.quiet hs
def tRet (te:TE):TS:=fun D σ H=>te σ H D.rt
theorem zes (he:PE X e te):PS X (.Return (some e) pos) (tRet te):=by
 intro pins s σ H D I h
 exact wpAny_Return_some (thn (he pins s σ H _ I h) fun v s1 ⟨x,H1,I1,r1,q1⟩=>⟨x,σ,H1,I1,r1,q1⟩)
def tIfS (c:TT) (t u:TS):TS:=fun D σ H=>c σ H fun b H1=>if b=true then t D σ H1 else u D σ H1
theorem ps_if (hc:PT X c tc) (ha:PSs X a t) (hb:PSs X b u):PS X (.If c a b pos) (tIfS tc t u):=by
 intro pins s σ H D I h
 refine wpAny_If (thn (hc pins s σ H _ I h) fun d s1 ⟨H1,I1,q1⟩=>?_)
 cases d with
 | true=>exact ha pins s1 σ H1 D I1 q1
 | false=>exact hb pins s1 σ H1 D I1 q1
end
abbrev TG:=V→St→Hp→(St→Hp→Prop)→Prop
abbrev TGs:=List V→St→Hp→(St→Hp→Prop)→Prop
def PG (X:Cx) (target:Expr) (t:TG):Prop :=
 ∀ (pins:List (Addr×Obj)) (s:W1) (σ:St) (H:Hp) (v:V) (u:Value) (Q:St→Hp→Prop),Inv X pins σ H s→RelV v u→t v σ H Q →
  W9 (model X.prog X.w) X.A (assign target X.env u) (fun _ s'=>∃ σ' H',Inv X pins σ' H' s'∧Q σ' H') X.xe s
def PGs (X:Cx) (ts:List Expr) (t:TGs):Prop :=
 ∀ (pins:List (Addr×Obj)) (s:W1) (σ:St) (H:Hp) (vs:List V) (us:List Value) (Q:St→Hp→Prop),Inv X pins σ H s→Vals vs us→t vs σ H Q →
  W9 (model X.prog X.w) X.A (assignInOrder ((WV ts X.env).map (·.2)) us) (fun _ s'=>∃ σ' H',Inv X pins σ' H' s'∧Q σ' H') X.xe s
abbrev TSet:=V→V→V→Hp→(Hp→Prop)→Prop
def PSet (X:Cx) (t:TSet):Prop :=
 ∀ (pins:List (Addr×Obj)) (s:W1) (σ:St) (H:Hp) (o i v:V) (ov iv u:Value) (Q:Hp→Prop),Inv X pins σ H s→RelV o ov→RelV i iv→RelV v u→t o i v H Q →
  W9 (model X.prog X.w) X.A (setItem ov iv u) (fun _ s'=>∃ H',Inv X pins σ H' s'∧Q H') X.xe s
section
variable {X:Cx} {pos:Pos}
def zbt (i:Nat):TG:=fun v σ H Q=>Q (σ.set i (some v)) H
theorem z9t (hN:X.N.Nodup) (hi:X.N[i]? = some x) (hx:Loc X.env.scope x) (hf:X.fn x=true∨X.env.scope.names.lookup x=some .local:=by first | exact .inl rfl | exact .inr rfl | assumption):PG X (.Name x pos) (zbt i):=by
 intro pins s σ H v u Q I r h
 exact wpAny_assign_Name (z4i I hN hi hx r (fun s' I'=>⟨_,H,I',h⟩) hf)
def gNil:TGs:=fun vs σ H Q=>vs=[]∧Q σ H
def gCons (t:TG) (u:TGs):TGs:=fun vs σ H Q=>∃ v r,vs=v :: r∧t v σ H fun σ' H'=>u r σ' H' Q
theorem z9s:PGs X [] gNil:=by
 intro pins s σ H vs us Q I r h
 obtain ⟨e,h⟩:=h
 subst e
 cases r
 exact assignInOrder_nil ⟨σ,H,I,h⟩
theorem z7O (h1:PG X e t) (h2:PGs X es u)
  (hs:(WV (e :: es) X.env).map (·.2)=assign e X.env :: (WV es X.env).map (·.2):=by rfl):PGs X (e :: es) (gCons t u):=by
 intro pins s σ H vs us Q I r h
 obtain ⟨v,vr,e1,h⟩:=h
 subst e1
 cases r with
 | cons r rr =>
  rw [hs]
  refine assignInOrder_cons (thn (h1 pins s σ H _ _ _ I r h) fun _ s1 ⟨σ1,H1,I1,q1⟩=>?_)
  exact h2 pins s1 σ1 H1 _ _ Q I1 rr q1
def gTup (K:W0) (n:Nat) (t:TGs):TG:=fun v σ H Q=>∃ a xs,v = .ref a∧SqT K H a xs∧xs.length=n∧t xs σ H Q
theorem zbZ (hc:X.calm=true) (h:PGs X es t)
  (hn:(WV es X.env).length=n:=by rfl) (hst:(WV es X.env).findIdx? (·.1)=none:=by rfl):PG X (.Tuple es k pos) (gTup X.K n t):=by
 intro pins s σ H v u Q I r hw
 obtain ⟨a,xs,e1,hq,hl,hw⟩:=hw
 subst e1
 cases r
 obtain ⟨its,rv,ht,hz⟩:=I.tuple hq
 refine assign_Tuple_tuple (I.ok.hd hc) ht (by simp [hn,← hl,rv.length]) hst fun h' hx=>?_
 have I1:Inv X pins σ H { s with heap:=h' }:=I.kept (t':=s.toks) fun b o e=>hx b o (WK (Wl e)) e
 exact h pins _ σ H xs _ Q I1 (by simpa using rv) hw
def gSub (to ti:TE) (t:TSet):TG:=fun v σ H Q=>to σ H fun o H1=>ti σ H1 fun i H2=>t o i v H2 fun H3=>Q σ H3
theorem zev (ho:PE X o to) (hi:PE X i ti) (hs:PSet X t)
  (ha:∀ v,assign (.Subscript o i pos) X.env v=(do
   let ov ← holding [v] (eval o X.env)
   let iv ← holding [v,ov] (eval i X.env)
   standAt pos
   holding [v,ov,iv] (setItem ov iv v)
   release [v,ov,iv] []):=by intro _; rfl):PG X (.Subscript o i pos) (gSub to ti t):=by
 intro pins s σ H v u Q I r h
 rw [ha]
 refine W2 (Q8 (thn (ho pins s σ H _ I h) fun ov s1 ⟨x,H1,I1,r1,q1⟩=>?_))
 refine W2 (Q8 (thn (hi pins s1 σ H1 _ I1 q1) fun iv s2 ⟨y,H2,I2,r2,q2⟩=>?_))
 refine W2 (QY (W2 (Q8 (thn (hs pins s2 σ H2 x y v ov iv u _ I2 r1 r2 r q2) fun _ s3 ⟨H3,I3,q3⟩=>?_))))
 exact wpAny_release ⟨σ,H3,I3,q3⟩
def tAsg (te:TE) (g:TG):TS:=fun D σ H=>te σ H fun x H1=>g x σ H1 D.nx
theorem zbY (he:PE X e te) (hg:PG X tg g) (hs:swapsWithSole [tg] e pos.line X.env=pure false:=by rfl) (hw:swappedStores [tg] e X.env=pure none:=by rfl)
  (h1:(WV [tg] X.env).map (·.2)=[assign tg X.env]:=by rfl):PS X (.Assign [tg] e pos) (tAsg te g):=by
 intro pins s σ H D I h
 refine wpAny_Assign_stores (thn (he pins s σ H _ I h) fun v s1 ⟨x,H1,I1,r1,q1⟩=>?_) hs hw
 rw [h1]
 exact thn (hg pins s1 σ H1 x v _ I1 r1 q1) fun _ s2 q=>q
theorem zer (hN:X.N.Nodup) (hi:X.N[i]? = some x) (hx:Loc X.env.scope x) (he:PE X e te) (hs:QB e (some (.Name x pos')) pos.line X.env=pure false:=by rfl) (hf:X.fn x=true∨X.env.scope.names.lookup x=some .local:=by first | exact .inl rfl | exact .inr rfl | assumption) :
  PS X (.Assign [.Name x pos'] e pos) (tAsg te (zbt i)):=by
 intro pins s σ H D I h
 refine wpAny_Assign_Name (thn (he pins s σ H _ I h) fun v s1 ⟨y,H1,I1,r1,q1⟩=>?_) hs
 exact z4i I1 hN hi hx r1 (fun s2 I2=>⟨_,H1,I2,q1⟩) hf
def tPar (i j:Nat) (ta:TA):TS:=fun D σ H=>ta σ H fun vs H1=>∃ v w,vs=[v,w]∧D.nx ((σ.set i (some v)).set j (some w)) H1
theorem zet {kt k2 pt2} (hc:X.calm=true) (hN:X.N.Nodup) (hi:X.N[i]? = some x) (hj:X.N[j]? = some y) (hij:i≠j)
  (hx:X.env.scope.names.lookup x=some .local) (hy:X.env.scope.names.lookup y=some .local) (ha:PA X [a,b] ta)
  (hw:swappedStores [.Tuple [.Name x px,.Name y py] kt pt] (.Tuple [a,b] k2 pt2) X.env=pure (some [x,y]))
  (hs:swapsWithSole [.Tuple [.Name x px,.Name y py] kt pt] (.Tuple [a,b] k2 pt2) pos.line X.env=pure false:=by rfl) :
  PS X (.Assign [.Tuple [.Name x px,.Name y py] kt pt] (.Tuple [a,b] k2 pt2) pos) (tPar i j ta):=by
 intro pins s σ H D I h
 rw [exec_Assign_arm]
 refine W2 (QY ?_)
 rw [hs]
 refine W2 (Wc ?_)
 rw [if_neg (by decide)]
 refine W2 (Tuple_ (thn (ha _ pins s σ H _ I h) fun us s1 ⟨vs,H1,I1,r1,q1⟩=>?_))
 obtain ⟨v,w,e1,q1⟩:=q1
 subst e1
 obtain ⟨u1,u2,rfl,rv,rw'⟩:∃ u1 u2,us=[u1,u2]∧RelV v u1∧RelV w u2:=by
  cases r1 with
  | cons p q =>
   cases q with
   | cons p' q' =>
    cases q'
    exact ⟨_,_,rfl,p,p'⟩
 refine Qn ?_ (by show 2≤W6; decide)
 have I2:Inv X pins σ H1 { s1 with heap:=s1.heap.push { cls:=.type "tuple",data:=.seq [u1,u2].toArray } }:=I1.kept (t':=s1.toks) fun b o e=>W5 _ e
 rw [hw]
 refine W2 (Wc ?_)
 show W9 (model X.prog X.w) X.A (do rule "assign.swapped-stores"; let items ← unpackItems (.ref s1.heap.objs.size) 2 none; assignInOrder [fun v=>bindName X.env y v,fun v=>bindName X.env x v] items.reverse; pure Flow.next) _ _ _
 refine W2 (Jh (W2 (unpackItems_tuple (items:=#[u1,u2]) (I.ok.hd hc) (IsTup.new s1.heap _) fun h' hx'=>?_)))
 have I3:=I2.kept (h':=h') (t':=s1.toks) fun b o e=>hx' b o (WK (Wl e)) e
 show W9 _ _ (assignInOrder [fun v=>bindName X.env y v,fun v=>bindName X.env x v] [u2,u1] >>= fun _=>pure Flow.next) _ _ _
 refine W2 (assignInOrder_cons (wpAny_bindName (z4i I3 hN hj (.inl hy) rw' (fun s2 I4=>?_) (.inr hy))))
 refine assignInOrder_cons (wpAny_bindName (z4i I4 hN hi (.inl hx) rv (fun s3 I5=>assignInOrder_nil (Wc ?_)) (.inr hx)))
 rw [List.set_comm _ _ (Ne.symm hij)] at I5
 exact ⟨_,H1,I5,q1⟩
end
section
variable {X:Cx} {pos:Pos}
def zbR (c:TT) (tb:TS):TS:=fun D σ H=>∃ W:Nat→St→Hp→Prop,(∃ m,W m σ H)∧∀ m σ H,W m σ H →
 c σ H fun b H1=>if b=true then ∃ N:St→Hp→Prop,(∀ σ' H',N σ' H'→∃ m',m' < m∧W m' σ' H')∧tb { D with nx:=N,ct:=N,bk:=D.nx } σ H1 else D.nx σ H1
theorem z7N (hp:PassesOwn (model X.prog X.w) X.A X.env X.xe) (hc:PT X c tc) (hb:PSs X body tb):PS X (.While c body [] pos) (zbR tc tb):=by
 intro pins s σ H D I h
 obtain ⟨W,⟨m0,w0⟩,turn⟩:=h
 refine wpAny_While (codeAny_whileLoop (fun n s'=>∃ σ' H',Inv X pins σ' H' s'∧W n σ' H') ?_ m0 ⟨σ,H,I,w0⟩)
 rintro n s1 ⟨σ1,H1,I1,w1⟩
 refine Qr hp (thn (hc pins s1 σ1 H1 _ I1 (turn n σ1 H1 w1)) fun b s2 ⟨H2,I2,q2⟩=>?_)
 cases b with
 | true =>
  obtain ⟨N,hN,q2⟩:=q2
  rw [if_pos rfl]
  refine Qr hp (thn (hb pins s2 σ1 H2 _ I2 q2) fun f s3 q3=>?_)
  cases f with
  | next =>
   obtain ⟨σ3,H3,I3,n3⟩:=q3
   obtain ⟨m',hm,w3⟩:=hN σ3 H3 n3
   exact ⟨m',hm,σ3,H3,I3,w3⟩
  | cont =>
   obtain ⟨σ3,H3,I3,n3⟩:=q3
   obtain ⟨m',hm,w3⟩:=hN σ3 H3 n3
   exact ⟨m',hm,σ3,H3,I3,w3⟩
  | brk=>exact q3
  | ret v=>exact q3
 | false =>
  rw [if_neg WU]
  exact J1 ⟨σ1,H2,I2,q2⟩
end
structure It where
 go:Nat→Hp→Prop
 yld:Nat→Hp→V→Hp→Prop
 stop:Nat→Hp→Prop
def FpOk (X:Cx) (pins:List (Addr×Obj)) (H:Hp) (b:Addr):Prop :=
 H b=none∧b≠X.env.locals∧b ∉ X.fs∧(b ∈ X.ex∨X.s₀.heap.objs.size≤b)∧(∀ x c,X.env.cells.lookup x=some c→c≠b)∧∀ p ∈ X.pn ++ pins,p.1≠b
theorem Inv.fpOk (I:Inv X pins σ H s) (hb:s.heap.objs.size≤b) (hn:H' b=none):FpOk X pins H' b:=by
 refine ⟨hn,Nat.ne_of_gt (Wt I.lt hb),I.nofs hb,.inr (WP I.sz hb),fun x c e z=>?_,fun p hp z=>?_⟩
 ·obtain ⟨v,q⟩:=I.cell x c e
  exact absurd (Wt q.lt (by rw [z]; exact hb)) (WS _)
 ·exact absurd (Wt (Wl (I.pin p hp).1) (by rw [z]; exact hb)) (WS _)
structure Turn (P:Wd) (w:Wg) (K:W0) (tg:Expr) (J:It) (fp:List Addr) (it:Addr) (tn:Nat→Heap→Prop):Prop where
 mem:it ∈ fp
 obj:∀ i h,tn i h→∀ b ∈ fp,∃ o,h.get? b=some o∧∀ v,o.data≠.cell v
 keep:∀ i h h',tn i h→(∀ b ∈ fp,∀ o,h.get? b=some o→h'.get? b=some o)→tn i h'
 item:∀ (X:Cx),X.prog=P→X.w=w→X.K=K→X.calm=true→∀ (i:Nat) (pins:List (Addr×Obj)) (s:W1) (σ:St) (H:Hp) (E:Value→W1→Prop),Inv X pins σ H s→(∀ b ∈ fp,FpOk X pins H b)→tn i s.heap→J.go i H →
  W9 (model P w) X.A (pyNext (.ref it)) (fun r s1=>∃ u,r=some u ∧
   W9 (model P w) X.A (letOwnedTupleGo tg (.ref it) u) (fun _ s2=>∃ x H',Inv X pins σ H' s2∧RelV x u∧J.yld i H x H'∧tn (i + 1) s2.heap∧∀ b ∈ fp,H' b=none) E s1) E s
 done:∀ (X:Cx),X.prog=P→X.w=w→X.K=K→X.calm=true→∀ (i:Nat) (pins:List (Addr×Obj)) (s:W1) (σ:St) (H:Hp) (E:Value→W1→Prop),Inv X pins σ H s→(∀ b ∈ fp,FpOk X pins H b)→tn i s.heap→J.stop i H →
  W9 (model P w) X.A (pyNext (.ref it)) (fun r s1=>r=none∧Inv X pins σ H s1) E s
 self:∀ (A:Wf) (i:Nat) (s:W1) (Q:Value→W1→Prop) (E:Value→W1→Prop),tn i s.heap→Q (.ref it) s→W9 (model P w) A (pyIter (.ref it)) Q E s
abbrev TI:=St→Hp→(It→Hp→Prop)→Prop
def PIE (X:Cx) (pins:List (Addr×Obj)) (σ:St) (tg:Expr) (R:It→Hp→Prop) (itv:Value) (s2:W1):Prop :=
 ∃ (it:Addr) (fp:List Addr) (tn:Nat→Heap→Prop) (J:It) (H':Hp),itv = .ref it∧Inv X pins σ H' s2∧Turn X.prog X.w X.K tg J fp it tn∧tn 0 s2.heap∧(∀ b ∈ fp,FpOk X pins H' b)∧R J H'
def PI (X:Cx) (tg iter:Expr) (wi:TI):Prop :=
 ∀ (pins:List (Addr×Obj)) (s:W1) (σ:St) (H:Hp) (R:It→Hp→Prop),Inv X pins σ H s→wi σ H R →
  W9 (model X.prog X.w) X.A (eval iter X.env) (fun v s1=>W9 (model X.prog X.w) X.A (pyIter v) (PIE X pins σ tg R) X.xe s1) X.xe s
theorem zbs (ho:s.heap.get? it=some o) (hc:o.cls = .type n) (hd:o.data = .fields vs)
  (hn:["enumerate","zip","dict_itemiterator","dict_reverseitemiterator","odict_iterator","itertools.zip_longest","itertools.pairwise"].contains n=false) (hQ:Q () s):W9 M A (letOwnedTupleGo tg (.ref it) u) Q E s:=by
 unfold letOwnedTupleGo
 cases tg <;> first
  | exact Wc hQ
  | (cases u <;> first
    | exact Wc hQ
    | (refine W2 (wpAny_load ho ?_); rw [hc,hd]; show W9 M A (if (["enumerate","zip","dict_itemiterator","dict_reverseitemiterator","odict_iterator","itertools.zip_longest","itertools.pairwise"].contains n && vs[0]? == some (QL _))=true then _ else _) Q E s; rw [if_neg (by intro h; rw [hn,Bool.false_and] at h; cases h)]; exact Wc hQ))
def Itl (K:W0) (a:Addr):It :=
 ⟨fun i H=>∃ xs x,SqL K H a xs∧xs[i]? = some x,fun i H x H'=>H'=H∧∀ xs,SqL K H a xs→xs[i]? = some x,fun i H=>∃ xs,SqL K H a xs∧xs.length≤i⟩
def Itt (K:W0) (a:Addr):It :=
 ⟨fun i H=>∃ xs x,SqT K H a xs∧xs[i]? = some x,fun i H x H'=>H'=H∧∀ xs,SqT K H a xs→xs[i]? = some x,fun i H=>∃ xs,SqT K H a xs∧xs.length≤i⟩
def Itr (lo:Int) (n:Nat):It:=⟨fun i _=>i < n,fun i H x H'=>H'=H∧x = .int (lo + i),fun i _=>n≤i⟩
theorem z8N {P:Wd} {w:Wg} {K:W0} {tg:Expr} (a it:Addr):Turn P w K tg (Itl K a) [it] it (fun i h=>h.IsListIter it a i) where
 mem:=by simp
 obj:=fun i h st b hb=>by
  have e:b=it:=by simpa using hb
  subst e
  obtain ⟨o,e,c,d⟩:=st
  exact ⟨o,e,fun v z=>by rw [d] at z; cases z⟩
 keep:=fun i h h' st k=>st.at fun o e=>k it (by simp) o e
 item:=by
  intro X hP hw hK hc i pins s σ H E I hf st hg
  subst hP hw hK
  obtain ⟨xs,x,hq,hx⟩:=hg
  obtain ⟨its,rv,p,hz⟩:=I.list hq
  obtain ⟨u,hu,ru⟩:=rv.get hx
  obtain ⟨f0,f1,f2,f3,f4,f5⟩:=hf it (by simp)
  refine wpAny_pyNext_list_item st p.isList (x:=u) (by simpa using hu) fun h' st' sb=>?_
  have I1:Inv X pins σ H { s with heap:=h' }:=I.turned (t':=s.toks) (fun b o hb e=>(sb.2 b hb).trans e) f0 f1 f3 f4 f5
  obtain ⟨o,e,c,d⟩:=id st'
  exact ⟨u,rfl,zbs (s:={ s with heap:=h' }) e c d (by decide) ⟨x,H,I1,ru,⟨rfl,fun ys hy=>by rw [I.list_inj hy hq]; exact hx⟩,st',fun b hb=>(hf b hb).1⟩⟩
 done:=by
  intro X hP hw hK hc i pins s σ H E I hf st hg
  subst hP hw hK
  obtain ⟨xs,hq,hx⟩:=hg
  obtain ⟨its,rv,p,hz⟩:=I.list hq
  obtain ⟨f0,f1,f2,f3,f4,f5⟩:=hf it (by simp)
  have hl:=rv.length
  exact wpAny_pyNext_list_end (I.ok.hd hc) st p.isList (by simp; omega) fun h' eb=>⟨rfl,I.turned (t':=s.toks) (fun b o hb e=>eb b o hb e) f0 f1 f3 f4 f5⟩
 self:=fun _ _ _ _ _ st h=>wpAny_pyIter_listiter st h
theorem z8c {P:Wd} {w:Wg} {K:W0} {tg:Expr} (a it:Addr):Turn P w K tg (Itt K a) [it] it (fun i h=>h.IsTupleIter it a i) where
 mem:=by simp
 obj:=fun i h st b hb=>by
  have e:b=it:=by simpa using hb
  subst e
  obtain ⟨o,e,c,d⟩:=st
  exact ⟨o,e,fun v z=>by rw [d] at z; cases z⟩
 keep:=fun i h h' st k=>st.at fun o e=>k it (by simp) o e
 item:=by
  intro X hP hw hK hc i pins s σ H E I hf st hg
  subst hP hw hK
  obtain ⟨xs,x,hq,hx⟩:=hg
  obtain ⟨its,rv,p,hz⟩:=I.tuple hq
  obtain ⟨u,hu,ru⟩:=rv.get hx
  obtain ⟨f0,f1,f2,f3,f4,f5⟩:=hf it (by simp)
  refine wpAny_pyNext_tuple_item st (show s.heap.IsTuple a its.toArray from p) (x:=u) (by simpa using hu) fun h' st' sb=>?_
  have I1:Inv X pins σ H { s with heap:=h' }:=I.turned (t':=s.toks) (fun b o hb e=>(sb.2 b hb).trans e) f0 f1 f3 f4 f5
  obtain ⟨o,e,c,d⟩:=id st'
  exact ⟨u,rfl,zbs (s:={ s with heap:=h' }) e c d (by decide) ⟨x,H,I1,ru,⟨rfl,fun ys hy=>by rw [I.tuple_inj hy hq]; exact hx⟩,st',fun b hb=>(hf b hb).1⟩⟩
 done:=by
  intro X hP hw hK hc i pins s σ H E I hf st hg
  subst hP hw hK
  obtain ⟨xs,hq,hx⟩:=hg
  obtain ⟨its,rv,p,hz⟩:=I.tuple hq
  obtain ⟨f0,f1,f2,f3,f4,f5⟩:=hf it (by simp)
  have hl:=rv.length
  exact wpAny_pyNext_tuple_end (I.ok.hd hc) st (show s.heap.IsTuple a its.toArray from p) (by simp; omega) fun h' eb=>⟨rfl,I.turned (t':=s.toks) (fun b o hb e=>eb b o hb e) f0 f1 f3 f4 f5⟩
 self:=fun _ _ _ _ _ st h=>wpAny_pyIter_tupleiter st h
theorem z8d {P:Wd} {w:Wg} {K:W0} {tg:Expr} (it:Addr) (lo:Int) (n:Nat):Turn P w K tg (Itr lo n) [it] it (fun i h=>IsRangeIter h it (lo + (i:Nat) * 1) ((n:Int) - (i:Nat)) 1) where
 mem:=by simp
 obj:=fun i h st b hb=>by
  have e:b=it:=by simpa using hb
  subst e
  exact ⟨_,st,fun v z=>by
   have z':Data.fields _=Data.cell v:=z
   cases z'⟩
 keep:=fun i h h' st k=>k it (by simp) _ st
 item:=by
  intro X hP hw hK hc i pins s σ H E I hf st hg
  subst hP hw hK
  obtain ⟨f0,f1,f2,f3,f4,f5⟩:=hf it (by simp)
  have W:=Walks.range (prog:=X.prog) (w:=X.w) (I.ok.hd hc) it lo 1 n
  refine W.item i s _ _ hg st fun v h' tk hv st' kk=>?_
  obtain ⟨t,rfl⟩:=hv
  have I1:Inv X pins σ H { s with heap:=h',toks:=tk }:=I.turned (fun b o hb e=>kk b o (by simpa using hb) e) f0 f1 f3 f4 f5
  refine ⟨_,rfl,zbs (s:={ s with heap:=h',toks:=tk }) (n:="range_iterator") st' rfl rfl (by decide) ⟨.int (lo + i),H,I1,⟨t,?_⟩,⟨rfl,rfl⟩,st',fun b hb=>(hf b hb).1⟩⟩
  rw [Int.mul_one]
 done:=by
  intro X hP hw hK hc i pins s σ H E I hf st hg
  subst hP hw hK
  obtain ⟨f0,f1,f2,f3,f4,f5⟩:=hf it (by simp)
  exact wpAny_pyNext_range_end (I.ok.hd hc) st (by have:n≤i:=hg; omega) fun h' eb=>⟨rfl,I.turned (t':=s.toks) (fun b o hb e=>eb b o hb e) f0 f1 f3 f4 f5⟩
 self:=fun _ _ _ _ _ st h=>wpAny_pyIter_rangeiter st h
section
variable {X:Cx} {tg:Expr}
theorem zaV {pins:List (Addr×Obj)} {σ:St} {H:Hp} {s:W1} {R:It→Hp→Prop} {E:Value→W1→Prop} {lo hi:Int} {t u v:Tok} {tk:Nat} (I:Inv X pins σ H s) (h1 : -(2 ^ 62)≤lo) (h2:lo < 2 ^ 62) (h3 : -(2 ^ 62)≤hi) (h4:hi < 2 ^ 62)
  (q:R (Itr lo (hi - lo).toNat) H):W9 (model X.prog X.w) X.A (pyIter (.ref s.heap.objs.size)) (PIE X pins σ tg R) E { s with heap:=s.heap.push { cls:=.type "range",data:=.fields #[.int lo t,.int hi u,.int 1 v] },toks:=tk }:=by
 refine wpAny_pyIter_range (IsRange.new ..) (small_one h1 h2 h3 h4) ?_
 have I1:Inv X pins σ H { s with heap:=s.heap.push { cls:=.type "range",data:=.fields #[.int lo t,.int hi u,.int 1 v] },toks:=tk }:=I.kept fun b o e=>W5 _ e
 refine ⟨(s.heap.push { cls:=.type "range",data:=.fields #[.int lo t,.int hi u,.int 1 v] }).objs.size,[(s.heap.push { cls:=.type "range",data:=.fields #[.int lo t,.int hi u,.int 1 v] }).objs.size],_,_,H,rfl,
  I1.kept (t':=tk) fun b o e=>W5 _ e,z8d _ lo (hi - lo).toNat,?_,fun b hb=>?_,q⟩
 ·have e1:lo + ((0:Nat):Int) * 1=lo:=by simp
  have e2:(((hi - lo).toNat:Nat):Int) - ((0:Nat):Int)=Builtin.Range.rangeSize lo hi 1:=by rw [rangeSize_one]; split <;> omega
  show IsRangeIter _ _ (lo + ((0:Nat):Int) * 1) ((((hi - lo).toNat:Nat):Int) - ((0:Nat):Int)) 1
  rw [e1,e2]
  exact Wy _ rfl
 ·have e:b=(s.heap.push { cls:=.type "range",data:=.fields #[.int lo t,.int hi u,.int 1 v] }).objs.size:=by simpa using hb
  subst e
  exact I1.fpOk (We _) (I1.hok.fresh (We _))
def iRng1 (ta:TA):TI:=fun σ H R=>ta σ H fun vs H1=>∃ j:Int,vs=[.int j]∧-(2 ^ 62)≤j∧j < 2 ^ 62∧R (Itr 0 j.toNat) H1
theorem z9r {a:Expr} {ta:TA} {p pos:Pos} (hg:Gl X "range") (hm:X.mg "range" = none) (ha:PA X [a] ta) (hs:W3 [a] X.env=[(false,eval a X.env)]:=by rfl):PI X tg (.Call (.Name "range" p) [a] [] pos) (iRng1 ta):=by
 intro pins s σ H R I h
 refine Call_ (z7X I hg hm boot_range (PyProof.Rows.callWith_type1 (thn (ha pos pins s σ H _ I h) fun us s1 ⟨vs,H1,I1,r1,q1⟩=>?_) hs rfl))
 obtain ⟨j,e,q1,q2,q⟩:=q1
 subst e
 cases r1 with
 | cons r rr =>
  cases rr
  obtain ⟨t,rfl⟩:=r
  exact call_range_1 (zaV I1 (by omega) (by omega) q1 q2 (by simpa using q))
def tFor (wi:TI) (g:TG) (tb:TS):TS:=fun D σ H=>wi σ H fun J H1=>∃ W:Nat→Nat→St→Hp→Prop,(∃ m,W 0 m σ H1)∧∀ i m σ H,W i m σ H →
 (J.stop i H∧D.nx σ H)∨(J.go i H∧∃ N:St→Hp→Prop,(∀ σ' H',N σ' H'→∃ m',m' < m∧W (i + 1) m' σ' H')∧∀ x H',J.yld i H x H'→g x σ H' fun σ2 H2=>tb { D with nx:=N,ct:=N,bk:=D.nx } σ2 H2)
def z6m (fp:List Addr) (h:Heap):List (Addr×Obj):=fp.filterMap fun b=>(h.get? b).map fun o=>(b,o)
theorem z2O (hb:b ∈ fp) (e:h.get? b=some o):(b,o) ∈ z6m fp h:=List.mem_filterMap.mpr ⟨b,hb,by rw [e]; rfl⟩
theorem z9K (hp:p ∈ z6m fp h):p.1 ∈ fp∧h.get? p.1=some p.2:=by
 obtain ⟨b,hb,e⟩:=List.mem_filterMap.mp hp
 cases q:h.get? b with
 | none=>rw [q] at e; cases e
 | some o =>
  rw [q] at e
  have e':(b,o)=p:=Ws e
  subst e'
  exact ⟨hb,q⟩
theorem Inv.pinned (I:Inv X pins σ H s) (hf:∀ b ∈ fp,FpOk X pins H b) (ho:∀ b ∈ fp,∃ o,s.heap.get? b=some o∧∀ v,o.data≠.cell v):Inv X (pins ++ z6m fp s.heap) σ H s :=
 I.pins_of fun p hp=>(QK.mp hp).elim (fun z=>I.pin p (WI _ z)) fun z=>by
  obtain ⟨hb,e⟩:=z9K z
  obtain ⟨f0,f1,f2,_⟩:=hf p.1 hb
  obtain ⟨o,e',d⟩:=ho p.1 hb
  rw [e] at e'; cases e'
  exact ⟨e,f0,f1,f2,d⟩
theorem Inv.unpinned (I:Inv X (pins ++ pl) σ H s):Inv X pins σ H s:=I.pins_of fun p hp=>I.pin p (WI _ (QU _ hp))
theorem zeu (hp:PassesOwn (model X.prog X.w) X.A X.env X.xe) (hc:X.calm=true) (hi:PI X tg iter wi) (hg:PG X tg g) (hb:PSs X body tb)
  (hs:∀ x,Qz iter X.env x=pure x:=by intro _; rfl):PS X (.For tg iter body [] pos) (tFor wi g tb):=by
 intro pins s σ H D I h
 refine wpAny_For (thn (hi pins s σ H _ I h) fun v s1 h1=>thn h1 fun itv s2 h2=>?_) hs
 obtain ⟨it,fp,tn,J,H2,e,I2,T,st2,f2,W,⟨m0,w0⟩,turn⟩:=h2
 subst e
 -- what stays true of the iterator's objects through the loop
 have stat:∀ {H':Hp},(∀ b ∈ fp,H' b=none)→∀ b ∈ fp,FpOk X pins H' b:=fun hn b hb=>⟨hn b hb,(f2 b hb).2⟩
 refine codeAny_forLoop_any (fun n s'=>∃ i σ' H',Inv X pins σ' H' s'∧tn i s'.heap∧(∀ b ∈ fp,H' b=none)∧W i n σ' H') ?_ m0 ⟨0,σ,H2,I2,st2,fun b hb=>(f2 b hb).1,w0⟩
 rintro n s3 ⟨i,σ3,H3,I3,st3,fr3,w3⟩
 rcases turn i n σ3 H3 w3 with ⟨stop,qn⟩ | ⟨go,N,hN,step⟩
 ·refine Qr hp (thn (T.done X rfl rfl rfl hc i pins s3 σ3 H3 X.xe I3 (stat fr3) st3 stop) fun r s4 ⟨hr,I4⟩=>?_)
  subst hr
  exact J1 ⟨σ3,H3,I4,qn⟩
 ·refine Qr hp (thn (T.item X rfl rfl rfl hc i pins s3 σ3 H3 X.xe I3 (stat fr3) st3 go) fun r s4 ⟨u,hr,h4⟩=>?_)
  subst hr
  refine Qr hp (thn h4 fun _ s5 ⟨x,H5,I5,r5,y5,st5,fr5⟩=>?_)
  have I5':=I5.pinned (stat fr5) (T.obj _ _ st5)
  refine Qr hp (thn (hg _ s5 σ3 H5 x u _ I5' r5 (step x H5 y5)) fun _ s6 ⟨σ6,H6,I6,q6⟩=>?_)
  refine Qr hp (thn (hb _ s6 σ6 H6 _ I6 q6) fun f s7 q7=>?_)
  have again:∀ {σ7:St} {H7:Hp},Inv X (pins ++ z6m fp s5.heap) σ7 H7 s7→N σ7 H7→∃ m,m < n∧∃ i σ' H',Inv X pins σ' H' s7∧tn i s7.heap∧(∀ b ∈ fp,H' b=none)∧W i m σ' H':=fun {σ7 H7} I7 n7=>by
   obtain ⟨m',hm,w7⟩:=hN σ7 H7 n7
   refine ⟨m',hm,i + 1,σ7,H7,I7.unpinned,T.keep _ _ _ st5 fun b hb o e=>(I7.pin (b,o) (WI _ (WI _ (z2O hb e)))).1,fun b hb=>?_,w7⟩
   obtain ⟨o,e,d⟩:=T.obj _ _ st5 b hb
   exact (I7.pin (b,o) (WI _ (WI _ (z2O hb e)))).2.1
  cases f with
  | next=>obtain ⟨σ7,H7,I7,n7⟩:=q7; exact again I7 n7
  | cont=>obtain ⟨σ7,H7,I7,n7⟩:=q7; exact again I7 n7
  | brk=>obtain ⟨σ7,H7,I7,q7⟩:=q7; exact ⟨σ7,H7,I7.unpinned,q7⟩
  | ret v=>obtain ⟨x7,σ7,H7,I7,r7,q7⟩:=q7; exact ⟨x7,σ7,H7,I7.unpinned,r7,q7⟩
end
abbrev R2:=V→V→Hp→VK→Prop
def OpR (X:Cx) (f:Value→Value→Sem Value) (r:R2):Prop :=
 ∀ (pins:List (Addr×Obj)) (s:W1) (σ:St) (H:Hp) (x y:V) (v u:Value) (Q:VK),Inv X pins σ H s→RelV x v→RelV y u→r x y H Q →
  W9 (model X.prog X.w) X.A (f v u) (EP X pins σ Q) X.xe s
def UnR (X:Cx) (f:Value→Sem Value) (r:V→Hp→VK→Prop):Prop :=
 ∀ (pins:List (Addr×Obj)) (s:W1) (σ:St) (H:Hp) (x:V) (v:Value) (Q:VK),Inv X pins σ H s→RelV x v→r x H Q →
  W9 (model X.prog X.w) X.A (f v) (EP X pins σ Q) X.xe s
def CallR (X:Cx) (f:Value) (r:List V→Hp→VK→Prop):Prop :=
 ∀ (pins:List (Addr×Obj)) (s:W1) (σ:St) (H:Hp) (xs:List V) (us:List Value) (Q:VK),Inv X pins σ H s→Vals xs us→r xs H Q →
  W9 (model X.prog X.w) X.A (call f us) (EP X pins σ Q) X.xe s
def tOp (r:R2) (ta tb:TE):TE:=fun σ H Q=>ta σ H fun x H1=>tb σ H1 fun y H2=>r x y H2 Q
def tUn (r:V→Hp→VK→Prop) (ta:TE):TE:=fun σ H Q=>ta σ H fun x H1=>r x H1 Q
def rI (C:Int→Int→Prop) (g:Int→Int→V):R2:=fun x y H Q=>∃ i j,x = .int i∧y = .int j∧C i j∧Q (g i j) H
def rI0 (g:Int→Int→V):R2:=fun x y H Q=>∃ i j,x = .int i∧y = .int j∧Q (g i j) H
def rU (g:Int→V):V→Hp→VK→Prop:=fun x H Q=>∃ i,x = .int i∧Q (g i) H
section
variable {X:Cx} {a b c:Expr} {ta tb tc:TE} {pos:Pos}
theorem binT (ha:PE X a ta) (hb:PE X b tb) {pins:List (Addr×Obj)} {s:W1} {σ:St} {H:Hp} {R:V→V→Hp→Prop} (I:Inv X pins σ H s)
  (h:ta σ H fun x H1=>tb σ H1 fun y H2=>R x y H2) {Q:Value→W1→Prop} {f:Value→Value→Sem Value}
  (hf:∀ v u s2 x y H2,Inv X pins σ H2 s2→RelV x v→RelV y u→R x y H2→W9 (model X.prog X.w) X.A (f v u) Q X.xe s2) :
  W9 (model X.prog X.w) X.A (eval a X.env) (fun v s₁=>W9 (model X.prog X.w) X.A (eval b X.env) (fun u s₂=>W9 (model X.prog X.w) X.A (f v u) Q X.xe s₂) X.xe s₁) X.xe s:=by
 refine thn (ha pins s σ H _ I h) fun v s1 ⟨x,H1,I1,r1,q1⟩=>?_
 refine thn (hb pins s1 σ H1 _ I1 q1) fun u s2 ⟨y,H2,I2,r2,q2⟩=>?_
 exact hf v u s2 x y H2 I2 r1 r2 q2
theorem zez {op:Operator} {r:R2} (ho:OpR X (WZ op) r) (ha:PE X a ta) (hb:PE X b tb):PE X (.BinOp a op b pos) (tOp r ta tb):=by
 intro pins s σ H Q I h
 exact wpAny_BinOp (binT ha hb I h fun v u s2 x y H2 I2 rx ry q=>ho pins s2 σ H2 x y v u Q I2 rx ry q)
theorem pe_un (ho:UnR X (unaryOp op) r) (ha:PE X a ta):PE X (.UnaryOp op a pos) (tUn r ta):=by
 intro pins s σ H Q I h
 exact UnaryOp_ (thn (ha pins s σ H _ I h) fun v s1 ⟨x,H1,I1,r1,q1⟩=>ho pins s1 σ H1 x v Q I1 r1 q1)
theorem opI {f:Value→Value→Sem Value} {C:Int→Int→Prop} {g:Int→Int→Int}
  (rule:∀ (i j:Int) (t u:Tok) (s:W1) (Q:Value→W1→Prop) (E:Value→W1→Prop),C i j→Q (.int (g i j) s.toks) { s with toks:=s.toks + 1 }→W9 (model X.prog X.w) X.A (f (.int i t) (.int j u)) Q E s) :
  OpR X f (rI C fun i j=>.int (g i j)):=by
 intro pins s σ H x y v u Q I rx ry h
 obtain ⟨i,j,rfl,rfl,hc,q⟩:=h
 obtain ⟨t,rfl⟩:=rx
 obtain ⟨t',rfl⟩:=ry
 exact rule i j t t' s _ _ hc ⟨.int (g i j),H,I.tok _,⟨_,rfl⟩,q⟩
theorem opI0 {f:Value→Value→Sem Value} {g:Int→Int→Int}
  (rule:∀ (i j:Int) (t u:Tok) (s:W1) (Q:Value→W1→Prop) (E:Value→W1→Prop),Q (.int (g i j) s.toks) { s with toks:=s.toks + 1 }→W9 (model X.prog X.w) X.A (f (.int i t) (.int j u)) Q E s) :
  OpR X f (rI0 fun i j=>.int (g i j)):=by
 intro pins s σ H x y v u Q I rx ry h
 obtain ⟨i,j,rfl,rfl,q⟩:=h
 obtain ⟨t,rfl⟩:=rx
 obtain ⟨t',rfl⟩:=ry
 exact rule i j t t' s _ _ ⟨.int (g i j),H,I.tok _,⟨_,rfl⟩,q⟩
theorem opB0 {f:Value→Value→Sem Value} {g:Int→Int→Bool}
  (rule:∀ (i j:Int) (t u:Tok) (s:W1) (Q:Value→W1→Prop) (E:Value→W1→Prop),Q (.bool (g i j)) s→W9 (model X.prog X.w) X.A (f (.int i t) (.int j u)) Q E s) :
  OpR X f (rI0 fun i j=>.bl (g i j)):=by
 intro pins s σ H x y v u Q I rx ry h
 obtain ⟨i,j,rfl,rfl,q⟩:=h
 obtain ⟨t,rfl⟩:=rx
 obtain ⟨t',rfl⟩:=ry
 exact rule i j t t' s _ _ ⟨.bl (g i j),H,I,rfl,q⟩
def CDiv (i j:Int):Prop:=0 < j∧j < 1073741824
def CPow (i j:Int):Prop:=0≤j∧j≤1000000∧i.natAbs < 2 ^ 64
def CMul (i j:Int):Prop:=(-(2 ^ 64) < i∧i < 2 ^ 64)∨(-(2 ^ 64) < j∧j < 2 ^ 64)
theorem CMul.ok (h:CMul i j):IntMulOk i j:=by
 rcases h with ⟨h1,h2⟩ | ⟨h1,h2⟩
 ·exact .of_left (intBits_le_64 h1 h2)
 ·exact .of_right (intBits_le_64 h1 h2)
theorem op_add:OpR X (WZ .Add) (rI0 fun i j=>.int (i + j)):=opI0 fun _ _ _ _ _ _ _ q=>add_int q
theorem z2n:OpR X (WZ .Sub) (rI0 fun i j=>.int (i - j)):=opI0 fun _ _ _ _ _ _ _ q=>sub_int q
theorem op_mul:OpR X (WZ .Mult) (rI CMul fun i j=>.int (i * j)):=opI fun _ _ _ _ _ _ _ hc q=>mul_int q hc.ok
theorem z9H:OpR X (WZ .FloorDiv) (rI CDiv fun i j=>.int (i / j)):=opI fun i j _ _ _ _ _ hc q=>by
 have h1:(0:Int) < j:=hc.1
 have h2:j < 1073741824:=hc.2
 exact floordiv_int (by omega) (by rw [Int.fdiv_eq_ediv_of_nonneg i (by omega)]; exact q) (.inl (PyProof.noPylong_small (by omega)))
theorem z2Z:OpR X (WZ .Mod) (rI (fun _ j=>0 < j) fun i j=>.int (i % j)):=opI fun i j _ _ _ _ _ hc q=>by
 have h1:(0:Int) < j:=hc
 exact mod_int' (by omega) (by rw [Int.fmod_eq_emod_of_nonneg i (by omega)]; exact q)
theorem z9D:OpR X (WZ .Pow) (rI CPow fun i j=>.int (i ^ j.toNat)):=opI fun _ _ _ _ _ _ _ hc q=>pow_int_small hc.1 hc.2.1 hc.2.2 q
theorem unI {f:Value→Sem Value} {g:Int→Int}
  (rule:∀ (i:Int) (t:Tok) (s:W1) (Q:Value→W1→Prop) (E:Value→W1→Prop),Q (.int (g i) s.toks) { s with toks:=s.toks + 1 }→W9 (model X.prog X.w) X.A (f (.int i t)) Q E s) :
  UnR X f (rU fun i=>.int (g i)):=by
 intro pins s σ H x v Q I rx h
 obtain ⟨i,rfl,q⟩:=h
 obtain ⟨t,rfl⟩:=rx
 exact rule i t s _ _ ⟨.int (g i),H,I.tok _,⟨_,rfl⟩,q⟩
theorem zdM:UnR X (unaryOp .USub) (rU fun i=>.int (-i)):=unI fun _ _ _ _ _ q=>neg_int q
end
section
variable {X:Cx} {a b c:Expr} {ta tb tc:TE} {pos:Pos}
theorem za9 (I:Inv X pins σ H s) (q:Q (.bl k) H) (e:k=k'):EP X pins σ Q (.bool k') s:=by
 subst e
 exact ⟨.bl k,H,I,rfl,q⟩
theorem op_lt:OpR X (WB .Lt) (rI0 fun i j=>.bl (decide (i < j))):=opB0 fun _ _ _ _ _ _ _ q=>lt_int q
theorem op_gt:OpR X (WB .Gt) (rI0 fun i j=>.bl (decide (j < i))):=opB0 fun _ _ _ _ _ _ _ q=>gt_int q
theorem op_ge:OpR X (WB .GtE) (rI0 fun i j=>.bl (decide (j≤i))):=opB0 fun _ _ _ _ _ _ _ q=>ge_int q
theorem z9F:OpR X (WB .Lt) (fun x y H Q=>∃ i j,x = .str i∧y = .str j∧Q (.bl (decide (i.cps.toList < j.cps.toList))) H):=by
 intro pins s σ H x y v u Q I rx ry h
 obtain ⟨i,j,rfl,rfl,q⟩:=h
 obtain ⟨t,rfl⟩:=rx
 obtain ⟨t',rfl⟩:=ry
 exact lt_str (za9 I q rfl)
theorem z9G:OpR X (WB .In) (fun x y H Q=>∃ i j,x = .str i∧y = .str j∧Q (.bl (!(QG j i 0 j.length 1).isEmpty)) H):=by
 intro pins s σ H x y v u Q I rx ry h
 obtain ⟨i,j,rfl,rfl,q⟩:=h
 obtain ⟨t,rfl⟩:=rx
 obtain ⟨t',rfl⟩:=ry
 exact in_str (za9 I q rfl)
theorem z6o:OpR X (WB .NotIn) (fun x y H Q=>∃ i j,x = .str i∧y = .str j∧Q (.bl (!(!(QG j i 0 j.length 1).isEmpty))) H):=by
 intro pins s σ H x y v u Q I rx ry h
 obtain ⟨i,j,rfl,rfl,q⟩:=h
 obtain ⟨t,rfl⟩:=rx
 obtain ⟨t',rfl⟩:=ry
 exact notIn_str (za9 I q rfl)
theorem OpR.or (h:OpR X f r) (h':OpR X f r'):OpR X f (fun x y H Q=>r x y H Q∨r' x y H Q):=by
 intro pins s σ H x y v u Q I rx ry q
 rcases q with q | q
 ·exact h pins s σ H x y v u Q I rx ry q
 ·exact h' pins s σ H x y v u Q I rx ry q
theorem z1c (b:Expr) (h:op≠.In:=by decide) (h2:op≠.NotIn:=by decide):Q7 op b=false:=by
 have e1:(op == CmpOp.In)=false:=by cases op <;> first | rfl | exact absurd rfl h
 have e2:(op == CmpOp.NotIn)=false:=by cases op <;> first | rfl | exact absurd rfl h2
 cases b <;> simp [Q7,e1,e2]
theorem z9u {op:CmpOp} {r:R2} (ho:OpR X (WB op) r) (ha:PE X a ta) (hb:PE X b tb) (hm:Q7 op b=false):PE X (.Compare a [op] [b] pos) (tOp r ta tb):=by
 intro pins s σ H Q I h
 exact wpAny_Compare1 (binT ha hb I h fun v u s2 x y H2 I2 rx ry q=>ho pins s2 σ H2 x y v u Q I2 rx ry q) hm
def tTest (t:TE):TT:=fun σ H Q=>t σ H fun x H'=>∃ k,x = .bl k∧Q k H'
theorem z9l (ho:OpR X (WB op) r) (ha:PE X a ta) (hb:PE X b tb) (hm:Q7 op b=false):PT X (.Compare a [op] [b] pos) (tTest (tOp r ta tb)):=by
 intro pins s σ H Q I h
 refine wpAny_isTrue_Compare1 (thn (ha pins s σ H _ I h) fun v s1 ⟨x,H1,I1,r1,q1⟩=>thn (hb pins s1 σ H1 _ I1 q1) fun u s2 ⟨y,H2,I2,r2,q2⟩ =>
  thn (ho pins s2 σ H2 x y v u _ I2 r1 r2 q2) fun c s3 ⟨z,H3,I3,r3,k,e,q3⟩=>?_) hm
 subst e
 cases r3
 exact Qy ⟨H3,I3,q3⟩
theorem z5p:(W6:Nat) < 2 ^ 63:=by rw [sizeLine_eq]; decide
theorem op_add_str:OpR X (WZ .Add) (fun x y H Q=>∃ i j,x = .str i∧y = .str j∧i.length + j.length≤W6∧Q (.str (i ++ j)) H):=by
 intro pins s σ H x y v u Q I rx ry h
 obtain ⟨i,j,rfl,rfl,hz,q⟩:=h
 obtain ⟨t,rfl⟩:=rx
 obtain ⟨t',rfl⟩:=ry
 exact add_str (fun t' tk=>⟨.str (i ++ j),H,I.tok _,⟨_,rfl⟩,q⟩) hz
theorem z3L (r:Vals [x] us):∃ u,us=[u]∧RelV x u:=by
 cases r with
 | cons r1 r2=>cases r2; exact ⟨_,rfl,r1⟩
theorem zaJ (r:Vals [x,y] us):∃ u w',us=[u,w']∧RelV x u∧RelV y w':=by
 cases r with
 | cons r1 r2 =>
  cases r2 with
  | cons r3 r4=>cases r4; exact ⟨_,_,rfl,r1,r3⟩
theorem zax (hc:X.calm=true):CallR X (.builtin "max") (fun xs H Q=>∃ i j,xs=[.int i,.int j]∧Q (.int (if j > i then j else i)) H):=by
 intro pins s σ H xs us Q I r h
 obtain ⟨i,j,rfl,q⟩:=h
 obtain ⟨u,w',rfl,⟨t,rfl⟩,⟨t',rfl⟩⟩:=zaJ r
 refine max_two_ints (I.ok.hd hc) fun h' tk k=>⟨_,H,I.kept k,?_,q⟩
 by_cases hj:j > i
 ·rw [if_pos hj,if_pos hj]; exact ⟨_,rfl⟩
 ·rw [if_neg hj,if_neg hj]; exact ⟨_,rfl⟩
theorem zaw (hc:X.calm=true):CallR X (.builtin "min") (fun xs H Q=>∃ i j,xs=[.int i,.int j]∧Q (.int (if j < i then j else i)) H):=by
 intro pins s σ H xs us Q I r h
 obtain ⟨i,j,rfl,q⟩:=h
 obtain ⟨u,w',rfl,⟨t,rfl⟩,⟨t',rfl⟩⟩:=zaJ r
 refine min_two_ints (I.ok.hd hc) fun h' tk k=>⟨_,H,I.kept k,?_,q⟩
 by_cases hj:j < i
 ·rw [if_pos hj,if_pos hj]; exact ⟨_,rfl⟩
 ·rw [if_neg hj,if_neg hj]; exact ⟨_,rfl⟩
theorem zaz:CallR X (.type "int") (fun xs H Q=>(∃ i,xs=[.int i]∧Q (.int i) H)∨∃ k,xs=[.bl k]∧Q (.int (if k then 1 else 0)) H):=by
 intro pins s σ H xs us Q I r h
 rcases h with ⟨i,rfl,q⟩ | ⟨k,rfl,q⟩
 ·obtain ⟨u,rfl,t,rfl⟩:=z3L r
  exact call_int_int ⟨.int i,H,I,⟨_,rfl⟩,q⟩
 ·obtain ⟨u,rfl,r1⟩:=z3L r
  cases r1
  exact call_int_bool ⟨.int (if k then 1 else 0),H,I.tok _,⟨_,rfl⟩,q⟩
end
structure ObjM (h:Heap) (x dx C:Addr) (mA:Str→Option Value):Prop where
 obj:h.get? x=some (PySem.W.instObj C dx)
 ns:h.Ns1 dx mA
 ne:dx≠x
theorem z6z {h:Heap} {dx:Addr} {mA:Str→Option Value} (n:h.Ns1 dx mA):∃ od,h.get? dx=some od∧∀ name,PySem.W.lookIn name od=some (mA name):=by
 obtain ⟨o,es,ep,ho,hd,hk,_,hm⟩:=n
 refine ⟨o,ho,fun name=>?_⟩
 have e:=hm name
 unfold nsFind findBy at e
 rw [← Array.find?_toList] at e
 unfold PySem.W.lookIn
 rw [hd]
 dsimp only
 split
 ·rename_i y q
  rw [q] at e
  exact congrArg some e
 ·rename_i q
  rw [q] at e
  have a:es.toList.any (·.refKey)=false:=by
   rw [Jk]
   intro y hy
   obtain ⟨z,t,hkey⟩:=hk y (Array.mem_toList_iff.mp hy)
   simp [DictEntry.refKey,hkey]
  have a':¬ es.toList.any (·.refKey)=true:=by rw [a]; exact WU
  rw [if_neg a']
  exact congrArg some e
theorem ObjM.look (I:ObjM h x dx C mA):∃ od,PySem.W.InstAt h x (PySem.W.instObj C dx) C (some od)∧∀ name,PySem.W.lookIn name od=some (mA name) :=
 let ⟨od,ho,hl⟩:=z6z I.ns
 ⟨od,⟨I.obj,rfl,rfl,ho⟩,hl⟩
section
variable {prog:Wd} {w:Wg} {A:Wf} {E:Value→W1→Prop} {s:W1} {K:W0} {x dx C f:Addr} {mA:Str→Option Value} {name:Str} {v:Value}
end
theorem RelO.some_of (r:RelO (some v) o):∃ u,o=some u∧RelV v u:=by
 cases o with
 | none=>exact (show False from r).elim
 | some u=>exact ⟨u,rfl,r⟩
theorem za6 (r:RelV v u):PySem.W.handedIn u=true:=by
 cases v with
 | non=>cases (show u=Value.none from r); rfl
 | bl b=>cases (show u=Value.bool b from r); rfl
 | int i=>obtain ⟨t,e⟩:=(show ∃ t,u=Value.int i t from r); cases e; rfl
 | str x=>obtain ⟨t,e⟩:=(show ∃ t,u=Value.str x t from r); cases e; rfl
 | byt b=>obtain ⟨t,e⟩:=(show ∃ t,u=Value.bytes b t from r); cases e; rfl
 | flt b=>obtain ⟨t,e⟩:=(show ∃ t,u=Value.float b t from r); cases e; rfl
 | ref a=>cases (show u=Value.ref a from r); rfl
 | ty n=>cases (show u=Value.type n from r); rfl
section
variable {P:Wd} {w:Wg} {H H':Hp} {h h':Heap} {a C dx:Addr} {fs fs':List (Str×V)}
theorem zdi (hok:HOk P w H h) (e:H a=some (.ins C dx fs)):∃ mA,ObjM h a dx C mA∧(∀ f,RelO (fs.lookup f) (mA f))∧PySem.Within mA (fs.map (·.1))∧fs.length≤1000∧H dx=some (.own a):=by
 obtain ⟨d,z,ne,ob,mA,n,r,q⟩:=(show ObjOk P w H h a (.ins C dx fs) from hok a _ e)
 exact ⟨mA,⟨ob,n,ne⟩,r,q,z,d⟩
end
structure Cls (K:W0) (C:Addr):Prop where
 pg:PySem.W.plainGet K C Str.empty=true
 hd:Jl K C=true
 po:PySem.W.plainOver K C=true
 sa:QQ K (.ref C) "__setattr__" = some (some (.builtin "object.__setattr__"))
theorem Cls.get {K:W0} {C:Addr} (c:Cls K C) (f:Str):PySem.W.plainGet K C f=true:=c.pg
structure Con (K:W0) (C:Addr) (f:Str) (v:V) (u:Value):Prop where
 at_:QQ K (.ref C) f=some (some u)
 rel:RelV v u
 get:PySem.W.specialIn K u "__get__" = some none
 cp:PySem.W.copiedNames.contains f=false
structure Meth (K:W0) (C:Addr) (m:Str) (f:Addr):Prop where
 at_:QQ K (.ref C) m=some (some (.ref f))
 fn:PySem.W.isFn K (.ref f)=true
 kp:WN K (.ref f)=true
section
variable {X:Cx} {pins:List (Addr×Obj)} {σ:St} {H:Hp} {s:W1} {a C dx:Addr} {fs:List (Str×V)} {f:Str} {v:V} {A:Wf} {E:Value→W1→Prop}
theorem zdC (hb:Q9 e f env (eval e env)=eval e env)
  (h:W9 (model prog w) A (eval e env) (fun o s₁=>W9 (model prog w) A (getAttr o f true) Q E s₁) E s):W9 (model prog w) A (eval (.Attribute e f pos) env) Q E s :=
 Attribute_any_ h (by rw [arm_eval_Attribute,hb])
end
section
variable {X:Cx} {o e value:Expr} {f:Str} {pos pos' tpos:Pos} {ta tv:TE}
end
section
variable {X:Cx} {pins:List (Addr×Obj)} {σ:St} {H:Hp} {s:W1} {A:Wf} {E:Value→W1→Prop} {Q:Value→W1→Prop} {c:Value} {b:Bool}
inductive TyOf (K:W0) (H:Hp):V→Value→Prop where
 | non:TyOf K H .non (.type "NoneType")
 | bl (x:Bool):TyOf K H (.bl x) (.type "bool")
 | int (i:Int):TyOf K H (.int i) (.type "int")
 | str (x:Str):TyOf K H (.str x) (.type "str")
 | flt (x:UInt64):TyOf K H (.flt x) (.type "float")
 | lst {a:Addr} {xs:List V} (e:H a=some (.lst xs)):TyOf K H (.ref a) (.type "list")
 | frz {a:Addr} {o:Obj} {xs:List V} (e:H a=some (.frz o (.lst xs))):TyOf K H (.ref a) (.type "list")
 | tup {a:Addr} {xs:List V} (e:H a=some (.tup xs)):TyOf K H (.ref a) (.type "tuple")
 | dK {a:Addr} {kvs:List (Key×V)} (e:H a=some (.dK kvs)):TyOf K H (.ref a) (.type "dict")
 | dT {a:Addr} {kvs:List (List Key×V)} (e:H a=some (.dT kvs)):TyOf K H (.ref a) (.type "dict")
 | ins {a C dx:Addr} {fs:List (Str×V)} (e:H a=some (.ins C dx fs)) (cl:Cls K C) (ha:QQ K (.ref C) "__class__" = some (some (.builtin "object.__class__")))
   (hn:PySem.W.specialIn K (.builtin "object.__class__") "__get__" = some (some (.builtin "getset_descriptor.__get__"))) (htk:PySem.W.takesIn K (.builtin "object.__class__")=some true)
   (hm:PySem.W.mroIn K C (.type "object")=some true):TyOf K H (.ref a) (.ref C)
theorem z1z (I:Inv X pins σ H s) (rx:RelV x u) (ty:TyOf X.K H x t) (e:Qh X.K t c=some b) (h:∀ tk,Q (.bool b) { s with toks:=tk }) :
  W9 (model X.prog X.w) A (call (.builtin "isinstance") [u,c]) Q E s:=by
 cases ty with
 | non=>cases (show u=Value.none from rx); exact WQ PySem.W.kitx_none I.kIn True.intro e (fun z=>nomatch z) h
 | bl y=>cases (show u=Value.bool y from rx); exact WQ PySem.W.kitx_bool I.kIn True.intro e (fun z=>nomatch z) h
 | int i=>obtain ⟨t,q⟩:=(show ∃ t,u=Value.int i t from rx); cases q; exact WQ PySem.W.kitx_int I.kIn True.intro e (fun z=>nomatch z) h
 | str y=>obtain ⟨t,q⟩:=(show ∃ t,u=Value.str y t from rx); cases q; exact WQ PySem.W.kitx_str I.kIn True.intro e (fun z=>nomatch z) h
 | flt y=>obtain ⟨t,q⟩:=(show ∃ t,u=Value.float y t from rx); cases q; exact WQ PySem.W.kitx_float I.kIn True.intro e (fun z=>nomatch z) h
 | @lst a xs ea =>
  cases (show u=Value.ref a from rx)
  obtain ⟨_,_,n,_,h1⟩:=(show ObjOk X.prog X.w H s.heap a (.lst xs) from I.hok a _ ea)
  exact WQ PySem.W.kitx_list I.kIn ⟨_,h1,rfl⟩ e (fun z=>nomatch z) h
 | @frz a ob xs ea =>
  cases (show u=Value.ref a from rx)
  obtain ⟨_,_,_,n,_,h1⟩:=(show ObjOk X.prog X.w H s.heap a (.frz ob (.lst xs)) from I.hok a _ ea)
  exact WQ PySem.W.kitx_list I.kIn ⟨_,h1,rfl⟩ e (fun z=>nomatch z) h
 | @tup a xs ea =>
  cases (show u=Value.ref a from rx)
  obtain ⟨_,_,_,p⟩:=(show ObjOk X.prog X.w H s.heap a (.tup xs) from I.hok a _ ea)
  obtain ⟨o,h1,h2,_⟩:=p.tup
  exact WQ PySem.W.kitx_tuple I.kIn ⟨o,h1,h2⟩ e (fun z=>nomatch z) h
 | @dK a kvs ea =>
  cases (show u=Value.ref a from rx)
  obtain ⟨_,_,vs,_,p⟩:=(show ObjOk X.prog X.w H s.heap a (.dK kvs) from I.hok a _ ea)
  obtain ⟨o,es,ep,h1,h2,_⟩:=p
  exact WQ PySem.W.kitx_dict I.kIn ⟨o,h1,h2.1⟩ e (fun z=>nomatch z) h
 | @dT a kvs ea =>
  cases (show u=Value.ref a from rx)
  obtain ⟨_,_,xs,_,o,es,ep,h1,h2,_⟩:=(show ObjOk X.prog X.w H s.heap a (.dT kvs) from I.hok a _ ea)
  exact WQ PySem.W.kitx_dict I.kIn ⟨o,h1,h2.1⟩ e (fun z=>nomatch z) h
 | @ins a C dx fs ea cl ha hn htk hm =>
  cases (show u=Value.ref a from rx)
  obtain ⟨mA,O,_⟩:=zdi I.hok ea
  obtain ⟨od,J,_⟩:=O.look
  exact WQ (PySem.W.kitx_own (cl.get _) cl.hd ha hn htk hm) I.kIn J e (fun z=>nomatch z) h
end
structure Room (k:Nat) (A:Wf):Prop where
 hd:A.handled=none
 dp:A.depth + 3 * k + 5 < recursionLimit
 un:A.units + 16 * k + 200 < Qa
theorem Room.mono (r:Room k A) (h:j≤k):Room j A:=⟨r.hd,by have:=r.dp; omega,by have:=r.un; omega⟩
theorem Room.deeper (r:Room (k + 1) A) (env:Env):Room k (A.deeper env) :=
 ⟨r.hd,by have:=r.dp; show A.depth + 1 + 3 * k + 5 < _; omega,by have:=r.un; show A.units + 3 + 16 * k + 200 < _; omega⟩
theorem z8t {A:Wf} {C:Addr} {us:List Value} {kw:List (Str×Value)}:(A.under (.builtin "type.__call__" ⟨.ref C :: us,kw⟩)).depth=A.depth + 1:=by
 first | rfl | simp [Around.under,Code.weight,Code.isCreation,Code.isGuard,Code.isCaller,Code.frames,Code.isFrame,guardIds]
theorem z8s {A:Wf} {C:Addr} {us:List Value} {kw:List (Str×Value)}:(A.under (.builtin "type.__call__" ⟨.ref C :: us,kw⟩)).units=A.units + 1:=by
 first | rfl | simp [Around.under,Code.cUnits,Code.frames,Code.isFrame]
theorem Room.make (r:Room (k + 1) A) (C:Addr) (us:List Value) (kw:List (Str×Value)):Room k (A.under (.builtin "type.__call__" ⟨.ref C :: us,kw⟩)) :=
 ⟨r.hd,by have:=r.dp; rw [z8t]; omega,by have:=r.un; rw [z8s]; omega⟩
theorem Room.depth (r:Room k A):A.depth < recursionLimit:=by have:=r.dp; omega
def tNil:TA:=fun _ H Q=>Q [] H
def zdQ (ta:TE) (tr:TA):TA:=fun σ H Q=>ta σ H fun x H1=>tr σ H1 fun xs H2=>Q (x :: xs) H2
section
variable {X:Cx} {e:Expr} {es:List Expr} {te:TE} {t:TA} {pos:Pos}
theorem z1F:PA X [] tNil:=fun _ _ _ _ H Q I h=>Calls.spliced_nil ⟨[],H,I,.nil,h⟩
theorem z0M (ha:PE X e te) (hr:PA X es t) (hs:W3 (e :: es) X.env=(false,eval e X.env) :: W3 es X.env:=by rfl):PA X (e :: es) (zdQ te t):=by
 intro pos pins s σ H Q I h
 rw [hs]
 show W9 _ _ (spliced ((false,eval e X.env) :: WD pos (W3 es X.env))) _ _ s
 refine Calls.spliced_cons (thn (ha pins s σ H _ I h) fun u s1 ⟨x,H1,I1,r1,q1⟩=>?_)
 exact thn (hr pos pins s1 σ H1 _ I1 q1) fun us s2 ⟨xs,H2,I2,r2,q2⟩=>⟨x :: xs,H2,I2,.cons r1 r2,q2⟩
def tTup (t:TA):TE:=fun σ H Q=>t σ H fun xs H1=>xs.length≤W6∧∀ p,H1 p=none→Q (.ref p) (upd H1 p (.tup xs))
def tLst (t:TA):TE:=fun σ H Q=>t σ H fun xs H1=>xs.length≤W6∧∀ p,H1 p=none→Q (.ref p) (upd H1 p (.lst xs))
theorem zey {x1} (h:PA X es t):PE X (.Tuple es x1 pos) (tTup t):=by
 intro pins s σ H Q I hq
 refine wpAny_Tuple_spliced (thn (h pos pins s σ H _ I hq) fun us s1 ⟨xs,H1,I1,r,z,q⟩=>⟨by rw [← r.length]; exact z,?_⟩)
 have hf:H1 s1.heap.objs.size=none:=I1.hok.fresh (We _)
 refine ⟨.ref s1.heap.objs.size,upd H1 s1.heap.objs.size (.tup xs),I1.laid (t':=s1.toks) (fun b u e=>W5 _ e) (We _) ?_,rfl,q _ hf⟩
 exact ⟨z,us,r,⟨_,Wy _ rfl⟩⟩
theorem zeD (h:PA X es t):PE X (.List es pos) (tLst t):=by
 intro pins s σ H Q I hq
 refine wpAny_List_spliced (thn (h pos pins s σ H _ I hq) fun us s1 ⟨xs,H1,I1,r,z,q⟩=>⟨by rw [← r.length]; exact z,?_⟩)
 have hf:H1 s1.heap.objs.size=none:=I1.hok.fresh (We _)
 refine ⟨.ref s1.heap.objs.size,upd H1 s1.heap.objs.size (.lst xs),I1.laid (t':=s1.toks) (fun b u e=>W5 _ e) (We _) ?_,rfl,q _ hf⟩
 exact ⟨z,us,0,r,Wy _ rfl⟩
end
abbrev Sp:=List V→Hp→VK→XK→Prop
abbrev CXT:=List Env→Hp→W1→XK→Value→W1→Prop
structure Env0 (P:Wd) (w:Wg) (K:W0) (mg:Str→Option Value) (base:Heap) (A:Wf) (outer:List Env) (s:W1) (H:Hp):Prop where
 frames:A.frames=some outer
 mod:Mod K mg base
 bs:∀ b o,base.get? b=some o→s.heap.get? b=some o∧H b=none
 bsz:base.objs.size≤s.heap.objs.size
 funs:s.heap.FunFrames base outer
 frf:∀ b ∈ frs outer,H b=none
 hok:HOk P w H s.heap
 bare:AllBare s.gens
def CE (outer:List Env) (P:Wd) (w:Wg) (H:Hp) (s:W1) (Q:VK) (u:Value) (s':W1):Prop :=
 ∃ v H',s'.os=s.os∧AllBare s'.gens∧Un (frs outer) [] H H' s.heap s'.heap∧HOk P w H' s'.heap∧RelV v u∧Q v H'
def CR (CX:CXT) (outer:List Env) (P:Wd) (w:Wg) (H:Hp) (s:W1) (Q:VK) (E:XK) (r:Result) (s':W1):Prop :=
 match r with
 | .ok (.ret u)=>CE outer P w H s Q u s'
 | .ok _=>False
 | .error e=>CX outer H s E e s'
structure FnOk (P:Wd) (w:Wg) (K:W0) (mg:Str→Option Value) (base:Heap) (CX:CXT) (k:Nat) (f:Addr) (fd:Wx) (ps:List Str) (sp:Sp):Prop where
 len:∀ vs H Q E,sp vs H Q E→vs.length=ps.length
 run:∀ (A:Wf) (outer:List Env) (s:W1) (H:Hp) (args:Args) (us:List Value) (vs:List V) (Q:VK) (E:XK),Room k A→Env0 P w K mg base A outer s H→BindsTo s fd args (ps.zip us)→Vals vs us→sp vs H Q E →
  Qf (model P w) A (.call (.ref f) args) (CR CX outer P w H s Q E) s
theorem Env0.make {P:Wd} {w:Wg} {K:W0} {mg:Str→Option Value} {base:Heap} {A:Wf} {outer:List Env} {s:W1} {H:Hp} (e:Env0 P w K mg base A outer s H) (C:Addr) (us:List Value) (kw:List (Str×Value)) :
  Env0 P w K mg base (A.under (.builtin "type.__call__" ⟨.ref C :: us,kw⟩)) outer s H:=⟨by first | exact e.frames | (simpa [Around.under,Code.envs,Code.isFrame,pushEnvs] using e.frames),e.mod,e.bs,e.bsz,e.funs,e.frf,e.hok,e.bare⟩
section
variable {X:Cx} {pins:List (Addr×Obj)} {σ:St} {H:Hp} {s s':W1}
theorem Inv.env0 (I:Inv X pins σ H s):Env0 X.prog X.w X.K X.mg X.base X.A X.stack s H :=
 ⟨I.ok.frames,I.ok.mod,I.bs,WP I.ok.bsz I.sz,I.stack,I.stkFree,I.hok,I.bare⟩
theorem Inv.after (I:Inv X pins σ H s) (h:CE X.stack X.prog X.w H s Q u s'):EP X pins σ Q u s':=by
 obtain ⟨v,H',os,bare,un,hok,r,q⟩:=h
 obtain ⟨hh,g,d,t,os'⟩:=s'
 obtain rfl:os'=s.os:=os
 exact ⟨v,H',I.call (h':=hh) (g':=g) (d':=d) (t':=t) (ch:=[]) un hok bare (fun b z=>absurd z (by simp)),r,q⟩
end
def zco (sp:Sp) (dvs:List V) (E:XK) (t:TA):TE:=fun σ H Q=>t σ H fun vs H1=>sp (vs ++ dvs) H1 Q E
def Binds (K:W0) (fd:Wx) (ps:List Str) (ds:List Value):Prop :=
 ∀ (s:W1) (us:List Value),K.In s.heap→(us ++ ds).length=ps.length→BindsTo s fd ⟨us,[]⟩ (ps.zip (us ++ ds))
theorem Binds.all {K:W0} {fd:Wx} {ps:List Str} (h:∀ us:List Value,us.length=ps.length→bindArgs fd ⟨us,[]⟩=pure (ps.zip us)):Binds K fd ps []:=fun s us _ hl=>by
 rw [WJ] at hl ⊢
 exact .of_eq (h us hl)
def zaF (CX:CXT) (X:Cx) (E:XK):Prop:=∀ (pins:List (Addr×Obj)) (σ:St) (H:Hp) (s:W1) (e:Value) (s':W1),Inv X pins σ H s→CX X.stack H s E e s'→X.xe e s'
section
variable {X:Cx} {CX:CXT} {k:Nat} {f C:Addr} {fd:Wx} {ps:List Str} {sp:Sp} {dvs:List V} {ds:List Value} {E:XK} {x m:Str} {p pos apos:Pos} {e o:Expr} {es:List Expr} {ta:TE} {t:TA}
theorem ze1 (F:FnOk X.prog X.w X.K X.mg X.base CX k f fd ps sp) (hr:Room k X.A) (hb:Binds X.K fd ps ds) (hd:Vals dvs ds) (hx:zaF CX X E)
  (I:Inv X pins σ H s) (r:Vals vs us) (h:sp (vs ++ dvs) H Q E):W9 (model X.prog X.w) X.A (call (.ref f) us) (EP X pins σ Q) X.xe s:=by
 have r2:Vals (vs ++ dvs) (us ++ ds):=r.append hd
 have hl:(us ++ ds).length=ps.length:=by rw [← r2.length]; exact F.len _ _ _ _ h
 refine Ji (Qq (F.run X.A X.stack s H ⟨us,[]⟩ (us ++ ds) (vs ++ dvs) Q E hr I.env0 (hb s us I.kIn hl) r2 h) fun r s' hq=>?_)
 cases r with
 | error e=>exact hx pins σ H s e s' I hq
 | ok fl =>
  cases fl with
  | ret u=>exact I.after hq
  | next=>exact False.elim hq
  | brk=>exact False.elim hq
  | cont=>exact False.elim hq
theorem z9w (F:FnOk X.prog X.w X.K X.mg X.base CX k f fd ps sp) (hr:Room k X.A) (hg:Gl X x) (hm:X.mg x=some (.ref f)) (hk:WN X.K (.ref f)=true) (hb:Binds X.K fd ps ds) (hd:Vals dvs ds) (hx:zaF CX X E)
  (ha:PA X (e :: es) t) (hdb:(x == ("__debug__" : Str))=false:=by decide) (he:W3 (e :: es) X.env=(false,eval e X.env) :: W3 es X.env:=by rfl) (hpl:(WD pos (W3 es X.env)).any (·.1)=false:=by rfl) :
  PE X (.Call (.Name x p) (e :: es) [] pos) (zco sp dvs E t):=by
 intro pins s σ H Q I h
 refine Q1 (z39 I hg hm ?_ hdb)
 refine J9 (h₀:=X.base) I.ok.mod.kin hk (thn (ha pos pins s σ H _ I h) fun us s1 ⟨vs,H1,I1,r,q⟩=>⟨I1.kIn,?_⟩) he hpl
 exact ze1 F hr hb hd hx I1 r q
structure Mk (K:W0) (C f:Addr):Prop where
 makes:PySem.W.makesIn K C=true
 init:QQ K (.ref C) "__init__" = some (some (.ref f))
 fn:PySem.W.isFn K (.ref f)=true
 kp:WN K (.ref C)=true
end
section
variable {X:Cx} {CX:CXT} {k:Nat} {f C:Addr} {fd:Wx} {ps ks:List Str} {sp:Sp} {E:XK} {x m:Str} {p pos apos kpos:Pos} {e o:Expr} {es:List Expr} {kws:List Keyword} {te ta:TE} {t tk:TA} {nm:Option Str}
structure KBinds (K:W0) (fd:Wx) (ps ks:List Str) (g:List Value→List Value→List Value) (gV:List V→List V→List V):Prop where
 to:∀ (s:W1) (us ws:List Value),K.In s.heap→(g us ws).length=ps.length→BindsTo s fd ⟨us,ks.zip ws⟩ (ps.zip (g us ws))
 rel:∀ {vs:List V} {us:List Value} {zs:List V} {ws:List Value},Vals vs us→Vals zs ws→Vals (gV vs zs) (g us ws)
variable {g:List Value→List Value→List Value} {gV:List V→List V→List V}
end
structure FnScope (N P:List Str) (sc:Scope):Prop where
 kind:sc.kind = .function
 co:sc.isCoroutine=false
 gen:sc.isGenerator=false
 nd:N.Nodup
 pre:N.take P.length=P
 par:∀ x ∈ P,sc.names.lookup x=some .local∨sc.names.lookup x=some .cell
 nofree:∀ y ∈ sc.names,y.2≠.free
theorem z6W {kindOf:Str→Option NameKind} {x:Str}:∀ {binds:List (Str×Value)} {m:Str→Option Value},(∀ v,(x,v) ∉ binds)→bindL kindOf binds m x=m x
 | [],_,_=>rfl
 | (n,v) :: r,m,h=>by
  unfold bindL
  rw [z6W fun w hw=>h w (Wi _ hw)]
  split
  ·have:x≠n:=by rintro rfl; exact h v Wm
   simp [this]
  ·rfl
theorem z6Y {kindOf:Str→Option NameKind} {x:Str}:∀ {binds:List (Str×Value)} {m:Str→Option Value},(∀ v,(x,v) ∉ binds)→bindC kindOf binds m x=m x
 | [],_,_=>rfl
 | (n,v) :: r,m,h=>by
  unfold bindC
  rw [z6Y fun w hw=>h w (Wi _ hw)]
  split
  ·rfl
  ·have:x≠n:=by rintro rfl; exact h v Wm
   simp [this]
theorem z6X {kindOf:Str→Option NameKind} {x:Str} {v:Value}:∀ {P:List Str} {vs:List Value} {i:Nat} {m:Str→Option Value},P.Nodup→P[i]? = some x→vs[i]? = some v→kindOf x=some .local →
  bindL kindOf (P.zip vs) m x=some v
 | [],_,_,_,_,h,_,_=>by simp at h
 | _ :: _,[],_,_,_,_,h,_=>by simp at h
 | p :: P,w :: vs,0,m,nd,h1,h2,hk=>by
  simp at h1 h2; subst h1; subst h2
  show bindL kindOf ((p,w) :: P.zip vs) m p=_
  unfold bindL
  rw [z6W fun v hv=>(Qs.mp nd).1 (J3 hv).1,if_pos hk]
  simp
 | p :: P,w :: vs,i + 1,m,nd,h1,h2,hk=>by
  show bindL kindOf ((p,w) :: P.zip vs) m x=_
  unfold bindL
  exact z6X (i:=i) (Qs.mp nd).2 (by simpa using h1) (by simpa using h2) hk
theorem z6Z {kindOf:Str→Option NameKind} {x:Str} {v:Value}:∀ {P:List Str} {vs:List Value} {i:Nat} {m:Str→Option Value},P.Nodup→P[i]? = some x→vs[i]? = some v→kindOf x≠some .local →
  bindC kindOf (P.zip vs) m x=some v
 | [],_,_,_,_,h,_,_=>by simp at h
 | _ :: _,[],_,_,_,_,h,_=>by simp at h
 | p :: P,w :: vs,0,m,nd,h1,h2,hk=>by
  simp at h1 h2; subst h1; subst h2
  show bindC kindOf ((p,w) :: P.zip vs) m p=_
  unfold bindC
  rw [z6Y fun v hv=>(Qs.mp nd).1 (J3 hv).1,if_neg hk]
  simp
 | p :: P,w :: vs,i + 1,m,nd,h1,h2,hk=>by
  show bindC kindOf ((p,w) :: P.zip vs) m x=_
  unfold bindC
  exact z6Z (i:=i) (Qs.mp nd).2 (by simpa using h1) (by simpa using h2) hk
def start (N:List Str) (vs:List V):St:=vs.map some ++ W8 (N.length - vs.length) none
def cxOf (CX:CXT) (P:Wd) (w:Wg) (K:W0) (mg:Str→Option Value) (base:Heap) (N:List Str) (qual:Str) (scope:Scope) (f:Addr) (cd:Value) (A:Wf) (outer:List Env) (s:W1) (H:Hp) (E:XK):Cx where
 prog:=P
 w:=w
 K:=K
 mg:=mg
 base:=base
 A:=A.deeper (Qb qual scope s.heap.objs.size f cd)
 N:=N
 s₀:=s
 H₀:=H
 env:=Qb qual scope s.heap.objs.size f cd
 outer:=outer
 stack:=Qb qual scope s.heap.objs.size f cd :: outer
 ex:=[]
 calm:=true
 fn:=fun _=>true
 pn:=[]
 xe:=fun e s'=>W9 (model P w) (A.deeper (Qb qual scope s.heap.objs.size f cd)) (leaving (Qb qual scope s.heap.objs.size f cd) e) (fun _ s''=>CX outer H s E e s'') (fun e' s''=>CX outer H s E e' s'') s'
theorem z88 {sc:Scope} {n:Nat} {x:Str} (h:sc.names.lookup x=some .cell):∃ c,(Q2 n sc.names []).lookup x=some c:=by
 have q:=Qp sc.names n [] (.inl h)
 exact QD.mp q
theorem z4L {CX:CXT} {P:Wd} {w:Wg} {K:W0} {mg:Str→Option Value} {base:Heap} {N ps:List Str} {qual:Str} {scope:Scope} {f:Addr} {cd:Value} {A:Wf} {outer:List Env} {s s1:W1} {H:Hp} {E:XK} {us:List Value} {vs:List V}
  (S:FnScope N ps scope) (hd:A.handled=none) (e0:Env0 P w K mg base A outer s H) (hl:vs.length=ps.length) (r:Vals vs us)
  (x:InCallC s s.heap.objs.size (bindL (Qb qual scope s.heap.objs.size f cd).kindOf (ps.zip us) fun _=>none) (Q2 (s.heap.objs.size + 1) scope.names []) (bindC (Qb qual scope s.heap.objs.size f cd).kindOf (ps.zip us) fun _=>none) s1) :
  Inv (cxOf CX P w K mg base N qual scope f cd A outer s H E) [] (start N vs) H s1:=by
 have hpl:ps.length≤N.length:=by have:=congrArg List.length S.pre; rw [QV] at this; omega
 obtain ⟨h1,tk,rfl,hk⟩:=x.done
 have noA:∀ b:Addr,b ∉ (cxOf CX P w K mg base N qual scope f cd A outer s H E).ex:=fun b z=>absurd (show b ∈ ([]:List Addr) from z) (by simp)
 refine ⟨⟨e0.mod,S.kind,rfl,rfl,We _,fun y z c h1 h2=>?_,fun y hy=>?_,fun y c _ h=>?_,fun _=>hd,Around.frames_deeper e0.frames,.inr ⟨rfl,rfl⟩,fun b z=>absurd z (noA b),e0.bs,e0.bsz,fun b _ _=>noA b,fun b z=>absurd z (noA b),e0.funs,e0.frf⟩,
  rfl,e0.bare,Un.kept hk,⟨_,x.toInCall.ns,fun i y v h1 h2 h3=>?_⟩,fun y c h=>⟨_,x.cell y c h⟩,e0.hok.fresh (We _),fun y c h=>?_,fun p hp=>absurd (show p ∈ ([]:List (Addr×Obj)) from hp) (by simp),e0.hok.kept hk,?_⟩
 ·exact name_of_addr x.apart (Wr h1) (Wr h2)
 ·have hy:scope.names.lookup y=some .cell∨scope.names.lookup y=some .free:=hy
  rcases hy with hy | hy
  ·exact z88 hy
  ·exact absurd rfl (S.nofree _ (Wr hy))
 ·exact J5 (x.above y c (Wr h))
 ·have hi:i < vs.length:=by
   unfold start at h2
   by_cases hi:i < vs.length
   ·exact hi
   ·rw [List.getElem?_append_right (by simpa using hi)] at h2
    rw [List.getElem?_replicate] at h2
    split at h2 <;> cases h2
  have ha:vs[i]? = some v:=by
   unfold start at h2
   rw [Qi (by simpa using hi),Wv] at h2
   cases e:vs[i]? with
   | none=>rw [e] at h2; cases h2
   | some a=>rw [e] at h2; cases h2; rfl
  obtain ⟨u,hu,rv⟩:=r.get ha
  have hp:ps[i]? = some y:=by
   rw [← S.pre,List.getElem?_take_of_lt (by omega)]; exact h1
  have ndP:ps.Nodup:=by rw [← S.pre]; exact S.nd.sublist (List.take_sublist _ _)
  refine ⟨u,rv,?_⟩
  rcases S.par y (WC hp) with k | k
  ·exact .inl ⟨k,z6X ndP hp hu k⟩
  ·obtain ⟨c,e⟩:=z88 (n:=s.heap.objs.size + 1) k
   refine .inr ⟨.inl k,c,e,?_⟩
   have q:=x.cell y c e
   rw [z6Z ndP hp hu (by show scope.names.lookup y≠_; rw [k]; decide)] at q
   exact q
 ·exact e0.hok.fresh (J5 (x.above y c (Wr h)))
 ·unfold start
  show _=N.length
  rw [Q3,Wz,List.length_replicate]
  omega
theorem zbu {CX:CXT} {P:Wd} {w:Wg} {K:W0} {mg:Str→Option Value} {base:Heap} {k:Nat} {f:Addr} {name qual:Str} {params:Arguments} {body:List Stmt} {scope:Scope} {dV kV doc pm cdv ct oc:Value} {an od:Option Addr}
  {osl:Array (Option Value)} {N ps:List Str} {sp:Sp} (lk:K.lookup f=some ⟨oc,od,.func (WF name qual params body scope dV kV doc pm an cdv ct),osl⟩) (hcd:PySem.W.codeIn K cdv qual=true) (S:FnScope N ps scope)
  (len:∀ vs H Q E,sp vs H Q E→vs.length=ps.length)
  (hbody:∀ (A:Wf) (outer:List Env) (s:W1) (H:Hp) (vs:List V) (Q:VK) (E:XK),Room k (A.deeper (Qb qual scope s.heap.objs.size f cdv))→sp vs H Q E →
   ∃ t,PSs (cxOf CX P w K mg base N qual scope f cdv A outer s H E) body t∧t { nx:=fun _ H'=>Q .non H',rt:=Q } (start N vs) H) :
  FnOk P w K mg base CX (k + 1) f (WF name qual params body scope dV kV doc pm an cdv ct) ps sp:=by
 refine ⟨len,fun A outer s H args us vs Q E hr e0 hb r hsp=>?_⟩
 have hl:=len _ _ _ _ hsp
 have KX:K.In s.heap:=e0.mod.kin.keeps fun b o e=>(e0.bs b o e).1
 have lim:s.heap.NoLimit:=e0.mod.nolimit.keeps fun b o e=>(e0.bs b o e).1
 have hkind:∀ y ∈ ps.zip us,scope.names.lookup y.1=some .local∨(scope.names.lookup y.1=some .cell∧((Q2 (s.heap.objs.size + 1) scope.names []).lookup y.1).isSome=true):=fun ⟨n,v⟩ hy=>by
  rcases S.par n (J3 hy).1 with q | q
  ·exact .inl q
  ·exact .inr ⟨q,Qp _ _ _ (.inl q)⟩
 refine codeAny_call_function hr.depth (KX _ _ lk) rfl S.co S.gen rfl (PySem.W.codeRec_of KX hcd) (hb _ _ _ _ ?_)
 refine wpAny_newFunctionEnv_cells S.kind hkind fun env he s1 x=>?_
 subst he
 refine ⟨lim.keeps x.toInCall.keep,codeAny_func ?_⟩
 obtain ⟨t,ht,hq⟩:=hbody A outer s H vs Q E (hr.deeper _) hsp
 have I:Inv (cxOf CX P w K mg base N qual scope f cdv A outer s H E) [] (start N vs) H s1:=z4L S hr.hd e0 hl r x
 refine WH (ht [] s1 (start N vs) H _ I hq) (fun fl s' hs=>?_) fun e s' hs=>hs
 have fin:∀ {σ':St} {H':Hp} {v:V} {u:Value},Inv (cxOf CX P w K mg base N qual scope f cdv A outer s H E) [] σ' H' s'→RelV v u→Q v H'→CE outer P w H s Q u s' :=
  fun {σ' H' v u} J rv q=>⟨v,H',J.os,J.bare,J.base,J.hok,rv,q⟩
 cases fl with
 | ret u =>
  obtain ⟨v,σ',H',J,rv,q⟩:=hs
  exact fin J rv q
 | next =>
  obtain ⟨σ',H',J,q⟩:=hs
  exact fin (v:=V.non) (u:=Value.none) J rfl q
 | brk =>
  obtain ⟨_,_,_,q⟩:=hs
  exact False.elim q
 | cont =>
  obtain ⟨_,_,_,q⟩:=hs
  exact False.elim q
section
variable {X:Cx} {x:Str} {p pos:Pos} {e:Expr} {es:List Expr} {t:TA} {id T:String} {r:List V→Hp→VK→Prop}
def tCB (r:List V→Hp→VK→Prop) (t:TA):TE:=fun σ H Q=>t σ H fun vs H1=>r vs H1 Q
theorem z2M (hc:CallR X (.builtin id) r) (hg:Gl X x) (hm:X.mg x=none) (hv:WW x=some (.builtin id)) (ha:PA X (e :: es) t) (hn:x≠"__name__":=by decide) (hdb:(x == ("__debug__" : Str))=false:=by decide)
  (he:W3 (e :: es) X.env=(false,eval e X.env) :: W3 es X.env:=by rfl) (hpl:(WD pos (W3 es X.env)).any (·.1)=false:=by rfl):PE X (.Call (.Name x p) (e :: es) [] pos) (tCB r t):=by
 intro pins s σ H Q I h
 refine Q1 (z7X I hg hm hv ?_ hn hdb)
 exact PyProof.Rows.callWith_builtin1 (thn (ha pos pins s σ H _ I h) fun us s1 ⟨vs,H1,I1,r1,q1⟩=>hc pins s1 σ H1 vs us Q I1 r1 q1) he hpl
theorem z9v (hc:CallR X (.type T) r) (hg:Gl X x) (hm:X.mg x=none) (hv:WW x=some (.type T)) (ha:PA X (e :: es) t) (hn:x≠"__name__":=by decide) (hdb:(x == ("__debug__" : Str))=false:=by decide)
  (he:W3 (e :: es) X.env=(false,eval e X.env) :: W3 es X.env:=by rfl) (hpl:(WD pos (W3 es X.env)).any (·.1)=false:=by rfl):PE X (.Call (.Name x p) (e :: es) [] pos) (tCB r t):=by
 intro pins s σ H Q I h
 refine Q1 (z7X I hg hm hv ?_ hn hdb)
 exact PyProof.Rows.callWith_type1 (thn (ha pos pins s σ H _ I h) fun us s1 ⟨vs,H1,I1,r1,q1⟩=>hc pins s1 σ H1 vs us Q I1 r1 q1) he hpl
end
end L2
namespace HT
open PySem PyProof.Rows
section
open PySem.SeqAt
open PySem.AutoSeq1 (wpAny_loadPart')
open PySem.MeetsSeq PySem.MeetsSeq2 PySem.MeetsSeq3
end
section
variable {prog:Wd} {w:Wg} {A:Wf} {E:Value→W1→Prop} {s:W1}
theorem cat_tup (ht:IsTup s.heap t vs.toArray) (hb:IsTup s.heap b ws.toArray) (hv:vs≠[])
  (h1:ws=[]→Q (.ref t) s) (h2:ws≠[]→Q (.ref s.heap.objs.size) { s with heap:=s.heap.push { cls:=.type "tuple",data:=.seq (vs ++ ws).toArray } })
  (hsz:vs.length + ws.length≤W6):W9 (model prog w) A (WZ .Add (.ref t) (.ref b)) Q E s:=by
 obtain ⟨⟨cls,dd,data,sl⟩,ho,hc,n,hd⟩:=id ht
 obtain ⟨⟨cls2,dd2,data2,sl2⟩,ho2,hc2,n2,hd2⟩:=id hb
 simp only at hc hd hc2 hd2
 subst hc hd hc2 hd2
 have e:vs.toArray ++ ws.toArray=(vs ++ ws).toArray:=by simp
 by_cases hw:ws=[]
 ·exact concat_meets ⟨_,ho,rfl⟩ ⟨_,ho2,rfl⟩ noFill_tuple_add seq_tuple_add PySem.F.slot_tuple_add PySem.F.entry_tuple_add (PySem.F.args_tuple_add_2 _ _)
   (tuple_addW1 t b vs.toArray ws.toArray n n2 dd dd2 sl sl2 (by simpa using hv) (by simp [hw])) ⟨ho,ho2,h1 hw⟩
 ·refine concat_meets ⟨_,ho,rfl⟩ ⟨_,ho2,rfl⟩ noFill_tuple_add seq_tuple_add PySem.F.slot_tuple_add PySem.F.entry_tuple_add (PySem.F.args_tuple_add_2 _ _)
   (tuple_addW2 t b vs.toArray ws.toArray n n2 dd dd2 sl sl2 (by simpa using hv) (by simpa using hw) (by rw [Wo,Wo]; exact hsz)) ⟨ho,ho2,?_⟩
  rw [e]
  exact h2 hw
def sIx (n d:Nat):Option Int→Nat
 | none=>d
 | some v=>if v < 0 then (v + (n:Int)).toNat else min v.toNat n
theorem sIx_le (n d:Nat) (hd:d≤n) (o:Option Int):sIx n d o≤n:=by
 cases o with
 | none=>exact hd
 | some v =>
  show (if v < 0 then (v + (n:Int)).toNat else min v.toNat n)≤n
  by_cases hv:v < 0
  ·rw [if_pos hv]; omega
  ·rw [if_neg hv]; exact Nat.min_le_right _ _
theorem zat (v:Int) (n d:Nat):(if v < 0 then max (v + (n:Int)) 0 else min v (n:Int))=((sIx n d (some v):Nat):Int):=by
 show (if v < 0 then max (v + (n:Int)) 0 else min v (n:Int))=(((if v < 0 then (v + (n:Int)).toNat else min v.toNat n):Nat):Int)
 by_cases hv:v < 0
 ·simp only [if_pos hv]; omega
 ·simp only [if_neg hv]; omega
theorem z8H (lo hi:Option Int) (n:Nat):Builtin.Slice.sliceAdjust lo hi 1 (n:Int)=(((sIx n 0 lo:Nat):Int),((sIx n n hi:Nat):Int)):=by
 have h1:¬ ((1:Int) < 0):=by omega
 unfold Builtin.Slice.sliceAdjust
 simp only [h1,if_false]
 refine Prod.ext ?_ ?_
 ·cases lo with
  | none=>rfl
  | some v=>exact zat v n 0
 ·cases hi with
  | none=>rfl
  | some v=>exact zat v n n
theorem z8l (i j:Nat):QA (i:Int) (j:Int) 1=j - i:=by
 unfold QA
 have h1:(1:Int) > 0:=by omega
 simp only [h1,if_true,Int.ediv_one]
 split <;> omega
theorem z5j (p:IsPart v o) (h:Q o s):W9 (model prog w) A (Builtin.Slice.slicePartIndex v) Q E s:=by
 cases p with
 | none=>exact slicePart_none h
 | int i t=>exact slicePart_int h
theorem sliceApplied_gen {sl:Addr} {vl vu:Value} {lo hi:Option Int} {n:Nat} {Q:Int×Int×Nat→W1→Prop} (hs:s.heap.IsSliceOf sl vl vu .none) (pl:IsPart vl lo) (pu:IsPart vu hi)
  (h:Q (((sIx n 0 lo:Nat):Int),1,sIx n n hi - sIx n 0 lo) s):W9 (model prog w) A (Builtin.Slice.sliceApplied (.ref sl) (pure (n:Int))) Q E s:=by
 obtain ⟨os,hos,hcs,hds⟩:=id hs
 unfold Builtin.Slice.sliceApplied Builtin.Slice.sliceFields
 refine W2 (W2 (QC hos hds (x:=vl) rfl (W2 (QC hos hds (x:=vu) rfl (W2 (QC hos hds (x:=.none) rfl (Wc ?_)))))))
 refine W2 (slicePart_none ?_)
 show W9 _ _ (if ((1:Int) == 0)=true then _ else _) _ _ s
 rw [if_neg (by decide)]
 refine W2 (z5j pl (W2 (z5j pu (W2 (Wc ?_)))))
 show W9 _ _ (match Builtin.Slice.sliceAdjust lo hi 1 (n:Int) with | (lo,hi)=>pure (lo,(1:Int),QA lo hi 1)) _ _ s
 rw [z8H lo hi n]
 show W9 _ _ (pure (((sIx n 0 lo:Nat):Int),(1:Int),QA ((sIx n 0 lo:Nat):Int) ((sIx n n hi:Nat):Int) 1)) _ _ s
 rw [z8l]
 exact Wc h
theorem zb2 (xs:Array Value) (i k:Nat):((Qk k).filterMap fun (m:Nat)=>xs[((i:Int) + (m:Int) * 1).toNat]?).toArray=((xs.toList.drop i).take k).toArray:=by
 have e:(fun (m:Nat)=>xs[((i:Int) + (m:Int) * 1).toNat]?)=fun m=>xs[i + m]?:=by
  funext m
  have:((i:Int) + (m:Int) * 1).toNat=i + m:=by omega
  rw [this]
 rw [e]
 have:=pick_run xs i k
 rw [List.filterMap_map] at this
 have e2:((fun x=>xs[x]?) ∘ fun x=>i + x)=fun m=>xs[i + m]?:=rfl
 rw [e2] at this
 rw [this]
theorem getItem_tuple_cut {t sl:Addr} {items:Array Value} {vl vu:Value} {lo hi:Option Int} {Q:Value→W1→Prop} (ht:IsTup s.heap t items) (hs:s.heap.IsSliceOf sl vl vu .none) (pl:IsPart vl lo) (pu:IsPart vu hi)
  (hw:¬ (sIx items.size 0 lo=0∧sIx items.size items.size hi=items.size))
  (h:Q (.ref s.heap.objs.size) { s with heap:=s.heap.push { cls:=.type "tuple",data:=.seq ((items.toList.drop (sIx items.size 0 lo)).take (sIx items.size items.size hi - sIx items.size 0 lo)).toArray } })
  (hsz:items.size≤W6):W9 (model prog w) A (getItem (.ref t) (.ref sl)) Q E s:=by
 have htake:sizeOk (.seq ((items.toList.drop (sIx items.size 0 lo)).take (sIx items.size items.size hi - sIx items.size 0 lo)).toArray):=by
  show ((items.toList.drop (sIx items.size 0 lo)).take (sIx items.size items.size hi - sIx items.size 0 lo)).toArray.size≤W6
  rw [Wo,QV,List.length_drop,Array.length_toList]
  omega
 have hj:sIx items.size items.size hi≤items.size:=sIx_le _ _ (We _) hi
 obtain ⟨os,hos,hcs,hds⟩:=id hs
 have hTs:s.TypeIs (.ref sl) "slice":=⟨os,hos,hcs⟩
 unfold getItem
 try with_reducible refine Q8 ?_
 first | refine W2 (Wc ?_) | skip
 refine W2 (wpAny_sequenceKey ht.typeIs (by decide) ?_)
 refine W2 (wpAny_callSpecial?_slot (name:=Str.ofString "__getitem__") ht.typeIs Qj
  (wpAny_call_entry Qj ht.typeIs entry_tuple_getitem ?_ (args_tuple_getitem _ _)))
 show W9 _ _ (Builtin.Tuple.tupleItemsOf (.ref t) >>= _) _ _ s
 refine W2 (tupleItemsOf_ ht ?_)
 refine W2 (QR hTs ?_)
 rw [if_pos (by decide)]
 refine W2 (sliceApplied_gen hs pl pu ?_)
 have hno:¬ ((((sIx items.size 0 lo:Nat):Int) == 0 && (1:Int) == 1 && (sIx items.size items.size hi - sIx items.size 0 lo) == items.size)=true):=by
  intro q
  rw [Wn,Wn] at q
  have q1:((sIx items.size 0 lo:Nat):Int)=0:=eq_of_beq q.1.1
  have q2:sIx items.size items.size hi - sIx items.size 0 lo=items.size:=eq_of_beq q.2
  exact hw ⟨by omega,by omega⟩
 show W9 _ _ (if (((sIx items.size 0 lo:Nat):Int) == 0 && (1:Int) == 1 && (sIx items.size items.size hi - sIx items.size 0 lo) == items.size)=true then _ else _) _ _ s
 rw [if_neg hno,zb2]
 first
  | exact W2 (m:=QE _) (Qn (Wc ⟨_,rfl,Wc h⟩) htake)
  | exact W2 (m:=QE _) (Qn (W2 (Wc (Wc ⟨_,rfl,Wc h⟩))) htake)
  | exact W2 (W2 (m:=QE _) (Qn (Wc (Wc ⟨_,rfl,Wc h⟩)) htake))
  | exact W2 (W2 (m:=QE _) (Qn (Wc ⟨_,rfl,Wc h⟩) htake))
end
end HT
namespace L2
open PySem PySem.Spec PyProof.Rows
abbrev TO:=St→Hp→(Option Int→Hp→Prop)→Prop
def PO (X:Cx) (e:Option Expr) (t:TO):Prop :=
 ∀ (pins:List (Addr×Obj)) (s:W1) (σ:St) (H:Hp) (Q:Option Int→Hp→Prop),Inv X pins σ H s→t σ H Q →
  W9 (model X.prog X.w) X.A (evalPart e X.env) (fun u s'=>∃ o H',Inv X pins σ H' s'∧IsPart u o∧Q o H') X.xe s
def tPart (t:TE):TO:=fun σ H Q=>t σ H fun x H1=>∃ i,x = .int i∧Q (some i) H1
section
variable {X:Cx} {e:Expr} {te:TE} {lo hi:Option Expr} {tl th:TO} {pos p2:Pos}
theorem zcS (h:PE X e te):PO X (some e) (tPart te):=by
 intro pins s σ H Q I hw
 rw [evalPart_some]
 refine thn (h pins s σ H _ I hw) fun u s1 ⟨x,H1,I1,r1,q1⟩=>?_
 obtain ⟨i,rfl,q⟩:=q1
 obtain ⟨t,rfl⟩:=r1
 exact ⟨some i,H1,I1,.int i t,q⟩
def SlR (X:Cx) (r:V→Option Int→Option Int→Hp→VK→Prop):Prop :=
 ∀ (pins:List (Addr×Obj)) (s:W1) (σ:St) (H:Hp) (x:V) (v vl vu:Value) (lo hi:Option Int) (sl:Addr) (Q:VK),Inv X pins σ H s→RelV x v→s.heap.IsSliceOf sl vl vu .none→IsPart vl lo→IsPart vu hi→r x lo hi H Q →
  ∃ T id,typeLookup (.type T) "__getitem__" = pure (some (.builtin id))∧s.TypeIs v T∧W9 (model X.prog X.w) X.A (getItem v (.ref sl)) (EP X pins σ Q) X.xe s
theorem SlR.or (h:SlR X r) (h':SlR X r'):SlR X (fun x lo hi H Q=>r x lo hi H Q∨r' x lo hi H Q):=by
 intro pins s σ H x v vl vu lo hi sl Q I rx hs pl pu q
 rcases q with q | q
 ·exact h pins s σ H x v vl vu lo hi sl Q I rx hs pl pu q
 ·exact h' pins s σ H x v vl vu lo hi sl Q I rx hs pl pu q
def tSl (r:V→Option Int→Option Int→Hp→VK→Prop) (te:TE) (tl th:TO):TE:=fun σ H Q=>te σ H fun x H1=>tl σ H1 fun l H2=>th σ H2 fun u H3=>r x l u H3 Q
theorem zb3 (hr:SlR X r) (he:PE X e te) (hl:PO X lo tl) (hu:PO X hi th):PE X (.Subscript e (.Slice lo hi none p2) pos) (tSl r te tl th):=by
 intro pins s σ H Q I h
 refine Subscript_ (thn (he pins s σ H _ I h) fun v s1 ⟨x,H1,I1,r1,q1⟩=>?_)
 refine wpAny_Slice (thn (hl pins s1 σ H1 _ I1 q1) fun vl s2 ⟨l,H2,I2,pl,q2⟩=>thn (hu pins s2 σ H2 _ I2 q2) fun vu s3 ⟨u,H3,I3,pu,q3⟩=>?_)
 rw [evalPart_none]
 refine Wc ?_
 have I4:Inv X pins σ H3 { s3 with heap:=s3.heap.push { cls:=.type "slice",data:=.fields #[vl,vu,.none] } }:=I3.kept (t':=s3.toks) fun b ob q=>W5 _ q
 obtain ⟨T,id,hT,ht,hg⟩:=hr pins { s3 with heap:=s3.heap.push { cls:=.type "slice",data:=.fields #[vl,vu,.none] } } σ H3 x v vl vu l u s3.heap.objs.size Q I4 r1 (Heap.IsSliceOf.new ..) pl pu q3
 show W9 (model X.prog X.w) X.A (subscriptTail e (.Slice lo hi none p2) v (.ref s3.heap.objs.size)) (EP X pins σ Q) X.xe { s3 with heap:=s3.heap.push { cls:=.type "slice",data:=.fields #[vl,vu,.none] } }
 exact tail_any (ops:=[.ref s3.heap.objs.size,v]) ht hT hg (by with_unfolding_all rfl)
def cutV (xs:List V) (lo hi:Option Int):List V:=(xs.drop (HT.sIx xs.length 0 lo)).take (HT.sIx xs.length xs.length hi - HT.sIx xs.length 0 lo)
theorem z4S (xs:List V) (lo hi:Option Int):(cutV xs lo hi).length≤xs.length:=by
 unfold cutV
 rw [QV,List.length_drop]
 omega
def rSlT (K:W0):V→Option Int→Option Int→Hp→VK→Prop:=fun x lo hi H Q=>∃ a xs,x = .ref a∧SqT K H a xs ∧
 ¬ (HT.sIx xs.length 0 lo=0∧HT.sIx xs.length xs.length hi=xs.length)∧∀ p,H p=none→Q (.ref p) (upd H p (.tup (cutV xs lo hi)))
theorem zdV:SlR X (rSlT X.K):=by
 intro pins s σ H x v vl vu lo hi sl Q I rx hs pl pu h
 obtain ⟨a,xs,rfl,hx,hw,q⟩:=h
 cases rx
 obtain ⟨its,r,ht,hz⟩:=I.tuple hx
 have hlen:its.toArray.size=xs.length:=by rw [Wo]; exact r.length.symm
 refine ⟨"tuple",_,PyProof.Rows.slot_tuple_getitem.lookup,ht.typeIs,?_⟩
 refine HT.getItem_tuple_cut ht hs pl pu (by rw [hlen]; exact hw) ?_ (by rw [hlen]; exact hz)
 rw [hlen]
 refine ⟨.ref s.heap.objs.size,_,I.laid (t':=s.toks) (o:=.tup (cutV xs lo hi)) (fun b ob q=>W5 _ q) (We _) ?_,rfl,q _ (I.hok.fresh (We _))⟩
 exact ⟨WP (z4S xs lo hi) hz,_,(r.drop (HT.sIx xs.length 0 lo)).take (HT.sIx xs.length xs.length hi - HT.sIx xs.length 0 lo),IsTupN.new _ _⟩
def zeg (K:W0):R2:=fun x y H Q=>∃ a b xs ys,x = .ref a∧y = .ref b∧SqT K H a xs∧SqT K H b ys∧xs≠[]∧xs.length + ys.length≤W6 ∧
 (ys=[]→Q (.ref a) H)∧(ys≠[]→∀ p,H p=none→Q (.ref p) (upd H p (.tup (xs ++ ys))))
theorem Vals.nil_iff (r:Vals xs us):us=[] ↔ xs=[]:=by
 cases r with
 | nil=>simp
 | cons _ _=>simp
theorem op_catT:OpR X (WZ .Add) (zeg X.K):=by
 intro pins s σ H x y v u Q I rx ry h
 obtain ⟨a,b,xs,ys,rfl,rfl,ha,hb,hx,hz,q1,q2⟩:=h
 cases rx
 cases ry
 obtain ⟨its,r1,p1,_⟩:=I.tuple ha
 obtain ⟨its2,r2,p2,_⟩:=I.tuple hb
 refine HT.cat_tup p1 p2 (fun z=>hx (r1.nil_iff.mp z)) (fun z=>⟨.ref a,H,I,rfl,q1 (r2.nil_iff.mp z)⟩) (fun z=>?_) (by rw [← r1.length,← r2.length]; exact hz)
 refine ⟨.ref s.heap.objs.size,_,I.laid (t':=s.toks) (o:=.tup (xs ++ ys)) (fun b ob q=>W5 _ q) (We _) ?_,rfl,q2 (fun w=>z (r2.nil_iff.mpr w)) _ (I.hok.fresh (We _))⟩
 exact ⟨by rw [Q3]; exact hz,_,r1.append r2,IsTupN.new _ _⟩
end
def ixN (n:Nat) (i:Int):Option Nat:=if 0≤i then (if i < n then some i.toNat else none) else if -(n:Int)≤i then some (i + n).toNat else none
def atI {α:Type} (xs:List α) (i:Int):Option α:=(ixN xs.length i).bind fun j=>xs[j]?
theorem za0 (h:ixN n i=some j):seqIndex? i n=some j∧j < n∧-(n:Int)≤i∧i < n:=by
 unfold ixN at h
 by_cases h0:0≤i
 ·rw [if_pos h0] at h
  by_cases h1:i < n
  ·rw [if_pos h1] at h
   have e:i.toNat=j:=Ws h
   exact ⟨by rw [seqIndex_of h0 h1,e],by omega,by omega,h1⟩
  ·rw [if_neg h1] at h; cases h
 ·rw [if_neg h0] at h
  by_cases h1 : -(n:Int)≤i
  ·rw [if_pos h1] at h
   have e:(i + n).toNat=j:=Ws h
   exact ⟨by rw [seqIndex_neg (by omega) h1,e],by omega,h1,by omega⟩
  ·rw [if_neg h1] at h; cases h
theorem z7z (h:atI xs i=some v):∃ j,seqIndex? i xs.length=some j∧xs[j]? = some v∧j < xs.length∧-(xs.length:Int)≤i∧i < xs.length:=by
 unfold atI at h
 cases e:ixN xs.length i with
 | none=>rw [e] at h; cases h
 | some j =>
  rw [e] at h
  obtain ⟨h1,h2,h3,h4⟩:=za0 e
  exact ⟨j,h1,h,h2,h3,h4⟩
def z7A (b:Expr):Prop:=∀ o i,subscripted b false o i=operate [o,i] (getItem o i)
def IxR (X:Cx) (r:R2):Prop :=
 ∀ (value slice:Expr) (pins:List (Addr×Obj)) (s:W1) (σ:St) (H:Hp) (x y:V) (v u:Value) (Q:VK),Inv X pins σ H s→RelV x v→RelV y u→r x y H Q →
  subscripted slice false v u=operate [v,u] (getItem v u)→W9 (model X.prog X.w) X.A (subscriptTail value slice v u) (EP X pins σ Q) X.xe s
def MtR (X:Cx) (id:String) (r:V→List V→Hp→VK→Prop):Prop :=
 ∀ (pins:List (Addr×Obj)) (s:W1) (σ:St) (H:Hp) (x:V) (xs:List V) (v:Value) (us:List Value) (Q:VK),Inv X pins σ H s→RelV x v→Vals xs us→r x xs H Q →
  W9 (model X.prog X.w) X.A (call (.builtin id) (v :: us)) (EP X pins σ Q) X.xe s
section
variable {X:Cx} {a b:Expr} {ta tb:TE} {pos:Pos}
theorem IxR.or (h:IxR X r) (h':IxR X r'):IxR X (fun x y H Q=>r x y H Q∨r' x y H Q):=by
 intro value slice pins s σ H x y v u Q I rx ry q hs
 rcases q with q | q
 ·exact h value slice pins s σ H x y v u Q I rx ry q hs
 ·exact h' value slice pins s σ H x y v u Q I rx ry q hs
theorem zeE (hr:IxR X r) (ha:PE X a ta) (hb:PE X b tb) (hs:z7A b):PE X (.Subscript a b pos) (tOp r ta tb):=by
 intro pins s σ H Q I h
 exact Subscript_ (binT ha hb I h fun v u s2 x y H2 I2 rx ry q=>hr a b pins s2 σ H2 x y v u Q I2 rx ry q (hs _ _))
def rIxL (K:W0):R2:=fun x y H Q=>∃ p xs i v,x = .ref p∧y = .int i∧SqL K H p xs∧atI xs i=some v∧Q v H
def rIxT (K:W0):R2:=fun x y H Q=>∃ p xs i v,x = .ref p∧y = .int i∧SqT K H p xs∧atI xs i=some v∧Q v H
def rIxS:R2:=fun x y H Q=>∃ z i c,x = .str z∧y = .int i∧z.length≤W6∧atI z.cps.toList i=some c∧Q (.str ⟨#[c]⟩) H
theorem ix_list:IxR X (rIxL X.K):=by
 intro value slice pins s σ H x y v u Q I rx ry h hs
 obtain ⟨p,xs,i,z,rfl,rfl,hq,he,q⟩:=h
 cases rx
 obtain ⟨t,rfl⟩:=ry
 obtain ⟨its,r,pl,hz⟩:=I.list hq
 obtain ⟨j,h1,h2,h3,h4,h5⟩:=z7z he
 obtain ⟨w,ew,rw'⟩:=r.get h2
 have hl:=r.length
 have hn:=z5p
 have fin:EP X pins σ Q w s:=⟨z,H,I,rw',q⟩
 by_cases h0:0≤i
 ·have hj:i.toNat=j:=by
   rw [seqIndex_of h0 h5] at h1
   exact Ws h1
  exact item_listR pl.isList h0 (by omega) (by rw [hj]; simpa using ew) fin hs
 ·have hj:(i + (its.toArray.size:Int)).toNat=j:=by
   rw [seqIndex_neg (by omega) h4] at h1
   rw [Wo,← hl]
   exact Ws h1
  exact subscriptTail_builtinR (x:=w) pl.isList.typeIs slot_list_getitem.lookup
   (wpAny_getItem_list_neg (Q:=fun r s'=>r=w∧EP X pins σ Q r s') pl.isList (by omega) (by rw [Wo] <;> omega) (by omega) (by rw [hj]; simpa using ew) ⟨rfl,fin⟩) hs
theorem ix_tup:IxR X (rIxT X.K):=by
 intro value slice pins s σ H x y v u Q I rx ry h hs
 obtain ⟨p,xs,i,z,rfl,rfl,hq,he,q⟩:=h
 cases rx
 obtain ⟨t,rfl⟩:=ry
 obtain ⟨its,r,pl,hz⟩:=I.tuple hq
 obtain ⟨j,h1,h2,h3,h4,h5⟩:=z7z he
 obtain ⟨w,ew,rw'⟩:=r.get h2
 have hl:=r.length
 have hn:=z5p
 have fin:EP X pins σ Q w s:=⟨z,H,I,rw',q⟩
 exact subscriptTail_builtinR (x:=w) pl.typeIs slot_tuple_getitem.lookup
  (getItem_tuple (j:=j) (Q:=fun r s'=>r=w∧EP X pins σ Q r s') pl (by omega) (by omega) (by rw [Wo,← hl]; exact h1) (by simpa using ew) ⟨rfl,fin⟩) hs
theorem zf2:IxR X rIxS:=by
 intro value slice pins s σ H x y v u Q I rx ry h hs
 obtain ⟨z,i,c,rfl,rfl,hz,he,q⟩:=h
 obtain ⟨t,rfl⟩:=rx
 obtain ⟨t',rfl⟩:=ry
 obtain ⟨j,h1,h2,h3,h4,h5⟩:=z7z he
 have hl:z.cps.toList.length=z.length:=by simp [Str.length]
 rw [hl] at h1 h4 h5
 have hn:=z5p
 exact tail_any (typeIs_str s z t) slot_str_getitem.lookup (getItem_str (c:=c) (by
  have e1:decide (i < -(2 ^ 63:Int))=false:=decide_eq_false (by omega)
  have e2:decide (i ≥ 2 ^ 63)=false:=decide_eq_false (by omega)
  rw [e1,e2,Bool.or_false]) (by rw [h1]; simpa using h2) ⟨.str ⟨#[c]⟩,H,I.tok _,⟨_,rfl⟩,q⟩) hs
def rIx (K:W0):R2:=fun x y H Q=>rIxL K x y H Q∨rIxT K x y H Q∨rIxS x y H Q
theorem z0n:IxR X (rIx X.K):=ix_list.or (ix_tup.or zf2)
theorem z8r (its:List Value) (n j:Nat) (u:Value):Obj.mapSeq (·.setIfInBounds j u) { cls:=.type "list",data:=.seq its.toArray n } = { cls:=.type "list",data:=.seq (its.set j u).toArray n }:=by
 simp [Obj.mapSeq]
theorem Inv.lst (I:Inv X pins σ H s) (h:H p=some (.lst xs)) :
  ∃ (its:List Value) (n:Nat),Vals xs its∧s.heap.get? p=some { cls:=.type "list",data:=.seq its.toArray n }∧xs.length≤W6:=by
 obtain ⟨z,its,n,r,e⟩:=I.hok p _ h
 exact ⟨its,n,r,e,z⟩
theorem Inv.lstUpd {pins:List (Addr×Obj)} {σ:St} {H:Hp} {s:W1} {p:Addr} {xs ys:List V} {its its':List Value} {n n':Nat} {f:Obj→Obj} (I:Inv X pins σ H s) (h:H p=some (.lst xs))
  (ho:s.heap.get? p=some { cls:=.type "list",data:=.seq its.toArray n }) (hf:f { cls:=.type "list",data:=.seq its.toArray n } = { cls:=.type "list",data:=.seq its'.toArray n' }) (r:Vals ys its') (hz:ys.length≤W6) (t:Nat) :
  Inv X pins σ (upd H p (.lst ys)) { s with heap:=s.heap.update p f,toks:=t }:=by
 have e:(s.heap.update p f).get? p=some { cls:=.type "list",data:=.seq its'.toArray n' }:=by
  rw [Qu f ho (by rw [hf] <;> rfl),hf]
 refine I.write (x:=p) (e:=p) (by rw [h]; trivial) (.inl rfl) (fun b u hb q=>(WX _ _ (Ne.symm hb)).trans q) ⟨_,e⟩ ?_
 exact ⟨hz,its',n',r,e⟩
def rSetL:V→V→V→Hp→(Hp→Prop)→Prop:=fun o i v H Q=>∃ p xs k j,o = .ref p∧i = .int k∧H p=some (.lst xs)∧ixN xs.length k=some j∧Q (upd H p (.lst (xs.set j v)))
theorem zaO:PSet X rSetL:=by
 intro pins s σ H o i v ov iv u Q I ro ri rv h
 obtain ⟨p,xs,k,j,rfl,rfl,hp,hj,q⟩:=h
 cases ro
 obtain ⟨t,rfl⟩:=ri
 obtain ⟨its,n,r,ho,hz⟩:=I.lst hp
 obtain ⟨h1,h2,h3,h4⟩:=za0 hj
 have hl:=r.length
 have hn:=z5p
 have I':Inv X pins σ (upd H p (.lst (xs.set j v))) { s with heap:=s.heap.update p (Obj.mapSeq (·.setIfInBounds j u)) } :=
  I.lstUpd hp ho (z8r its n j u) (r.set rv j) (by rw [QM]; exact hz) s.toks
 by_cases h0:0≤k
 ·have hk:k.toNat=j:=by
   rw [seqIndex_of h0 h4] at h1
   exact Ws h1
  exact PySem.W.ki_setAt ho h0 (by omega) (by rw [Wo,← hl]; exact h4) (by rw [hk]; exact ⟨_,I',q⟩)
 ·have hk:(k + (its.toArray.size:Int)).toNat=j:=by
   rw [seqIndex_neg (by omega) h3] at h1
   rw [Wo,← hl]
   exact Ws h1
  exact PySem.W.ki_setBack ho (by omega) (by rw [Wo,← hl]; exact h3) (by omega) (by rw [hk]; exact ⟨_,I',q⟩)
theorem z6a (lo hi:Option Int) (n:Nat):(J0 lo hi none n).1=((HT.sIx n 0 lo:Nat):Int)∧(J0 lo hi none n).2.1=((HT.sIx n n hi:Nat):Int)∧(J0 lo hi none n).2.2=1:=by
 refine ⟨?_,?_,rfl⟩
 ·cases lo with
  | none=>simp [J0,HT.sIx]
  | some i =>
   simp only [J0,HT.sIx,Option.getD_none,show (1:Int) > 0 by decide,if_true]
   by_cases h:i < 0
   ·simp only [h,if_true] <;> omega
   ·simp only [h,if_false] <;> omega
 ·cases hi with
  | none=>simp [J0,HT.sIx]
  | some i =>
   simp only [J0,HT.sIx,Option.getD_none,show (1:Int) > 0 by decide,if_true]
   by_cases h:i < 0
   ·simp only [h,if_true] <;> omega
   ·simp only [h,if_false] <;> omega
theorem z5C (its:List Value) (lo hi:Option Int):slicePick its.toArray lo hi none=((its.drop (HT.sIx its.length 0 lo)).take (HT.sIx its.length its.length hi - HT.sIx its.length 0 lo)).toArray:=by
 obtain ⟨h1,h2,h3⟩:=z6a lo hi its.toArray.size
 unfold slicePick
 rw [h1,h2,h3]
 simp only [sliceRange_one,pick_run,Wo] <;> rfl
def rSlL (K:W0):V→Option Int→Option Int→Hp→VK→Prop:=fun x lo hi H Q=>∃ a xs,x = .ref a∧SqL K H a xs∧∀ p,H p=none→Q (.ref p) (upd H p (.lst (cutV xs lo hi)))
theorem zct:SlR X (rSlL X.K):=by
 intro pins s σ H x v vl vu lo hi sl Q I rx hs pl pu h
 obtain ⟨a,xs,rfl,hx,q⟩:=h
 cases rx
 obtain ⟨its,r,ht,hz⟩:=I.list hx
 have hlen:=r.length
 refine ⟨"list",_,slot_list_getitem.lookup,ht.isList.typeIs,?_⟩
 refine wpAny_getItem_list_slice ht.isList hs pl pu .none (by simp) ?_ (by rw [Wo] <;> omega)
 rw [z5C,← hlen]
 refine ⟨.ref s.heap.objs.size,_,I.laid (t':=s.toks) (o:=.lst (cutV xs lo hi)) (fun b ob q=>W5 _ q) (We _) ?_,rfl,q _ (I.hok.fresh (We _))⟩
 exact ⟨WP (z4S xs lo hi) hz,_,0,(r.drop (HT.sIx xs.length 0 lo)).take (HT.sIx xs.length xs.length hi - HT.sIx xs.length 0 lo),Wy _ rfl⟩
def z5Z:V→Bool
 | .non=>true
 | .bl _=>true
 | .int _=>true
 | .str _=>true
 | _=>false
def eqV:V→V→Bool
 | .non,.non=>true
 | .bl a,.bl b=>a == b
 | .bl a,.int b=>(if a then 1 else 0) == b
 | .int a,.bl b=>a == (if b then 1 else 0)
 | .int a,.int b=>a == b
 | .str a,.str b=>a == b
 | _,_=>false
theorem zfm (ry:RelV y u) (rx:RelV x v) (fy:z5Z y=true) (fx:z5Z x=true):SeqAt.EqAt A s u v (eqV y x):=by
 cases y with
 | non =>
  cases ry
  cases x with
  | non=>cases rx; exact SeqAt.EqAt.same _
  | bl b=>cases rx; exact SeqAt.EqAt.none_bool b
  | int b=>obtain ⟨t,rfl⟩:=rx; exact SeqAt.EqAt.none_int b t
  | str b=>obtain ⟨t,rfl⟩:=rx; exact SeqAt.EqAt.none_str b t
  | _=>exact absurd (show false=true from fx) WU
 | bl a =>
  cases ry
  cases x with
  | non=>cases rx; exact SeqAt.EqAt.bool_none a
  | bl b=>cases rx; exact SeqAt.EqAt.bool_bool a b
  | int b=>obtain ⟨t,rfl⟩:=rx; exact SeqAt.EqAt.bool_int a b t
  | str b=>obtain ⟨t,rfl⟩:=rx; exact SeqAt.EqAt.bool_str a b t
  | _=>exact absurd (show false=true from fx) WU
 | int a =>
  obtain ⟨t',rfl⟩:=ry
  cases x with
  | non=>cases rx; exact SeqAt.EqAt.int_none a t'
  | bl b=>cases rx; exact SeqAt.EqAt.int_bool a t' b
  | int b=>obtain ⟨t,rfl⟩:=rx; exact SeqAt.EqAt.int_int a t' b t
  | str b=>obtain ⟨t,rfl⟩:=rx; exact SeqAt.EqAt.int_str a t' b t
  | _=>exact absurd (show false=true from fx) WU
 | str a =>
  obtain ⟨t',rfl⟩:=ry
  cases x with
  | non=>cases rx; exact SeqAt.EqAt.str_none a t'
  | bl b=>cases rx; exact SeqAt.EqAt.str_bool a t' b
  | int b=>obtain ⟨t,rfl⟩:=rx; exact SeqAt.EqAt.str_int a t' b t
  | str b=>obtain ⟨t,rfl⟩:=rx; exact SeqAt.EqAt.str_str a t' b t
  | _=>exact absurd (show false=true from fx) WU
 | _=>exact absurd (show false=true from fy) WU
def eqU (x:V) (u:Value):Bool:=match u with
 | .none=>eqV .non x
 | .bool b=>eqV (.bl b) x
 | .int i _=>eqV (.int i) x
 | .str z _=>eqV (.str z) x
 | _=>false
theorem zcb (r:RelV y u) (f:z5Z y=true):eqU x u=eqV y x:=by
 cases y with
 | non=>cases r; rfl
 | bl b=>cases r; rfl
 | int i=>obtain ⟨t,rfl⟩:=r; rfl
 | str z=>obtain ⟨t,rfl⟩:=r; rfl
 | _=>exact absurd (show false=true from f) WU
theorem z51:∀ {xs:List V} {us:List Value},Vals xs us→xs.all z5Z=true→us.any (eqU x)=xs.any fun y=>eqV y x
 | _,_,.nil,_=>rfl
 | y :: xs,u :: us,.cons r t,f=>by
  rw [List.all_cons,Wn] at f
  rw [Qw,Qw,zcb r f.1,z51 t f.2]
theorem z3D (rx:RelV x v) (fx:z5Z x=true):∀ {xs:List V} {us:List Value},Vals xs us→xs.all z5Z=true→∀ u ∈ us,SeqAt.EqAt A s u v (eqU x u)
 | _,_,.nil,_=>fun u hu=>by cases hu
 | y :: xs,u :: us,.cons r t,f=>fun u' hu=>by
  rw [List.all_cons,Wn] at f
  rcases Wp.mp hu with rfl | hu
  ·rw [zcb r f.1]; exact zfm r rx f.1 fx
  ·exact z3D rx fx t f.2 u' hu
def inV (x:V) (xs:List V):Bool:=xs.any fun y=>eqV y x
def rIn (K:W0) (neg:Bool):R2:=fun x y H Q=>∃ p xs,y = .ref p∧(SqL K H p xs∨SqT K H p xs)∧z5Z x=true∧xs.all z5Z=true∧Q (.bl (if neg then !inV x xs else inV x xs)) H
theorem op_in_seq:OpR X (WB .In) (rIn X.K false):=by
 intro pins s σ H x y v u Q I rx ry h
 obtain ⟨p,xs,rfl,hq,fx,fs,q⟩:=h
 cases ry
 rcases hq with hq | hq
 ·obtain ⟨its,r,pl,hz⟩:=I.list hq
  refine SeqAt.in_listAt (eqU x) pl.isList (fun w hw=>z3D rx fx r fs w (by simpa using hw)) ⟨.bl _,H,I,rfl,?_⟩
  rw [show its.toArray.any (eqU x)=its.any (eqU x) by simp,z51 r fs]
  exact q
 ·obtain ⟨its,r,pl,hz⟩:=I.tuple hq
  refine SeqAt.in_tupleAt (eqU x) pl (fun w hw=>z3D rx fx r fs w (by simpa using hw)) ⟨.bl _,H,I,rfl,?_⟩
  rw [show its.toArray.any (eqU x)=its.any (eqU x) by simp,z51 r fs]
  exact q
theorem op_notIn_seq:OpR X (WB .NotIn) (rIn X.K true):=by
 intro pins s σ H x y v u Q I rx ry h
 obtain ⟨p,xs,rfl,hq,fx,fs,q⟩:=h
 cases ry
 rcases hq with hq | hq
 ·obtain ⟨its,r,pl,hz⟩:=I.list hq
  refine SeqAt.notIn_listAt (eqU x) pl.isList (fun w hw=>z3D rx fx r fs w (by simpa using hw)) ⟨.bl _,H,I,rfl,?_⟩
  rw [show its.toArray.any (eqU x)=its.any (eqU x) by simp,z51 r fs]
  exact q
 ·obtain ⟨its,r,pl,hz⟩:=I.tuple hq
  refine SeqAt.notIn_tupleAt (eqU x) pl (fun w hw=>z3D rx fx r fs w (by simpa using hw)) ⟨.bl _,H,I,rfl,?_⟩
  rw [show its.toArray.any (eqU x)=its.any (eqU x) by simp,z51 r fs]
  exact q
theorem call_len_seq:CallR X (.builtin "len") (fun xs H Q=>∃ p ys,xs=[.ref p]∧(SqL X.K H p ys∨SqT X.K H p ys)∧Q (.int ys.length) H):=by
 intro pins s σ H xs us Q I r h
 obtain ⟨p,ys,rfl,hq,q⟩:=h
 obtain ⟨u,rfl,rx⟩:=z3L r
 cases rx
 have hn:=z5p
 rcases hq with hq | hq
 ·obtain ⟨its,r',pl,hz⟩:=I.list hq
  have hlen:=r'.length
  exact Calls.call_len_list pl.isList (by simp only [Wo] <;> omega) ⟨.int ys.length,H,I.tok _,⟨s.toks + 1,by rw [Wo,hlen]⟩,q⟩
 ·obtain ⟨its,r',pl,hz⟩:=I.tuple hq
  have hlen:=r'.length
  exact len_tuple pl (by simp only [Wo] <;> omega) ⟨.int ys.length,H,I.tok _,⟨s.toks + 1,by rw [Wo,hlen]⟩,q⟩
theorem z6V:CallR X (.builtin "len") (fun xs H Q=>∃ z,xs=[.str z]∧z.length≤W6∧Q (.int z.length) H):=by
 intro pins s σ H xs us Q I r h
 obtain ⟨z,rfl,hz,q⟩:=h
 obtain ⟨u,rfl,t,rfl⟩:=z3L r
 have hn:=z5p
 exact len_str (by omega) ⟨.int z.length,H,I.tok _,⟨_,rfl⟩,q⟩
theorem CallR.or (h:CallR X f r) (h':CallR X f r'):CallR X f (fun xs H Q=>r xs H Q∨r' xs H Q):=by
 intro pins s σ H xs us Q I rs q
 rcases q with q | q
 ·exact h pins s σ H xs us Q I rs q
 ·exact h' pins s σ H xs us Q I rs q
theorem z64:CallR X (.type "tuple") (fun xs H Q=>∃ p ys,xs=[.ref p]∧((SqL X.K H p ys∧∀ l,H l=none→Q (.ref l) (upd H l (.tup ys)))∨(SqT X.K H p ys∧Q (.ref p) H))):=by
 intro pins s σ H xs us Q I r h
 obtain ⟨p,ys,rfl,h⟩:=h
 obtain ⟨u,rfl,rx⟩:=z3L r
 cases rx
 rcases h with ⟨hq,q⟩ | ⟨hq,q⟩
 ·obtain ⟨its,r',pl,hz⟩:=I.list hq
  have hlen:=r'.length
  refine call_tuple_list pl.isList (fun h' kp=>?_) (by simp only [Wo] <;> omega)
  have I1:Inv X pins σ H { s with heap:=h' }:=I.kept (t':=s.toks) kp
  have I2:Inv X pins σ (upd H h'.objs.size (.tup ys)) { s with heap:=h'.push { cls:=.type "tuple",data:=.seq its.toArray } } :=
   I1.laid (t':=s.toks) (fun b o e=>W5 _ e) (We _) (show ObjOk X.prog X.w _ _ _ (.tup ys) from ⟨hz,its,r',IsTupN.new _ _⟩)
  exact ⟨.ref h'.objs.size,_,I2,rfl,q _ (I1.hok.fresh (We _))⟩
 ·obtain ⟨its,r',pl,hz⟩:=I.tuple hq
  exact call_tuple_same pl ⟨.ref p,H,I,rfl,q⟩
def tyV (K:W0) (T:String) (x:V) (H:Hp):Prop:=match x with
 | .str _=>T = "str"
 | .int _=>T = "int"
 | .ref p=>(T = "list"∧∃ xs,SqL K H p xs)∨(T = "tuple"∧∃ o,K.lookup p=some o∧o.cls = .type "tuple"∧o.dict=none) ∨
   (T = "dict"∧((∃ kvs,H p=some (.dK kvs))∨∃ kvs,H p=some (.dT kvs)))∨(T = "set"∧∃ S n,H p=some (.set S n))
 | _=>False
theorem zdN (I:Inv X pins σ H s) (r:RelV x v) (ty:tyV X.K T x H) :
  s.TypeIs v T∧∀ a,v = .ref a→∃ ob,s.heap.get? a=some ob∧ob.dict=none:=by
 cases x with
 | str z =>
  obtain ⟨t,rfl⟩:=r
  cases (show T = "str" from ty)
  exact ⟨typeIs_str s z t,fun _ e=>nomatch e⟩
 | int i =>
  obtain ⟨t,rfl⟩:=r
  cases (show T = "int" from ty)
  exact ⟨Jj s i t,fun _ e=>nomatch e⟩
 | ref p =>
  cases r
  rcases ty with ⟨rfl,xs,hq⟩ | ⟨rfl,o,hk,hc,hd⟩ | ⟨rfl,hk⟩ | ⟨rfl,S,n,hk⟩
  ·obtain ⟨its,_,pl,_⟩:=I.list hq
   refine ⟨pl.isList.typeIs,fun a e=>?_⟩
   cases e
   obtain ⟨o,n,e,c,hd,_⟩:=pl
   exact ⟨o,e,hd⟩
  ·refine ⟨⟨o,I.kIn p o hk,hc⟩,fun a e=>?_⟩
   cases e
   exact ⟨o,I.kIn _ o hk,hd⟩
  ·have z:∃ o,s.heap.get? p=some o∧o.ExactDict:=by
    rcases hk with ⟨kvs,hk⟩ | ⟨kvs,hk⟩
    ·obtain ⟨_,_,_,_,o,_,_,e,ex,_⟩:=I.hok p _ hk
     exact ⟨o,e,ex⟩
    ·obtain ⟨_,_,_,_,o,_,_,e,ex,_⟩:=I.hok p _ hk
     exact ⟨o,e,ex⟩
   obtain ⟨o,e,ex⟩:=z
   refine ⟨⟨o,e,ex.1⟩,fun a e2=>?_⟩
   cases e2
   exact ⟨o,e,ex.2.1⟩
  ·obtain ⟨o,_,_,_,e,ex,_⟩:=I.hok p _ hk
   refine ⟨⟨o,e,ex.1⟩,fun a e2=>?_⟩
   cases e2
   exact ⟨o,e,ex.2.1⟩
 | _=>exact False.elim ty
def tBM (K:W0) (T:String) (r:V→List V→Hp→VK→Prop) (to:TE) (t:TA):TE:=fun σ H Q=>to σ H fun x H1=>tyV K T x H1∧t σ H1 fun xs H2=>r x xs H2 Q
variable {o e:Expr} {es:List Expr} {to:TE} {t:TA} {name:Str} {apos cpos:Pos} {T id:String} {r:V→List V→Hp→VK→Prop}
theorem z9x (pa:PlainAttrs T) (slot:Slot T name id) (hty:typeOf (.builtin id)=pure (.type "method_descriptor")) (hm:MtR X id r) (ho:PE X o to) (ha:PA X (e :: es) t)
  (hbase:Q9 o name X.env (eval o X.env)=eval o X.env:=by rfl)
  (hfew:((WD cpos (W3 (e :: es) X.env)).all (fun x=>!x.1) && (backToKw cpos (QO [] X.env)).all (fun x=>x.1.isSome)
   && decide ((e :: es).length + ([]:List Keyword).length + (if ([]:List Keyword).isEmpty then 0 else 1) < 30))=true:=by rfl)
  (hline:(apos.endLine == cpos.line)=true:=by rfl) (hs:W3 (e :: es) X.env=(false,eval e X.env) :: W3 es X.env:=by rfl) (hplain:(WD cpos (W3 es X.env)).any (·.1)=false:=by rfl) :
  PE X (.Call (.Attribute o name apos) (e :: es) [] cpos) (tBM X.K T r to t):=by
 intro pins s σ H Q I h
 refine wpAny_Call_method_late hbase hfew hline rfl (thn (ho pins s σ H _ I h) fun v s1 ⟨x,H1,I1,r1,ty,q1⟩=>?_)
 obtain ⟨h1,h2⟩:=zdN I1 r1 ty
 refine ⟨T,id,pa,slot,hty,h1,h2,?_⟩
 have hA:=ha cpos pins s1 σ H1 _ I1 q1
 rw [hs] at hA ⊢
 refine Calls.callWith_builtin (by show (false || (WD cpos (W3 es X.env)).any (·.1))=false; rw [hplain] <;> rfl) (Calls.evalArgs_plain ?_)
 exact thn hA fun us s2 ⟨vs,H2,I2,r2,q2⟩=>hm pins s2 σ H2 x vs v us Q I2 r1 r2 q2
end
def MtM (X:Cx) (id:String) (r:V→List V→Hp→VK→Prop):Prop :=
 ∀ (pins:List (Addr×Obj)) (s:W1) (σ:St) (H:Hp) (x:V) (xs:List V) (v:Value) (us:List Value) (Q:VK),Inv X pins σ H s→RelV x v→Vals xs us→r x xs H Q →
  W9 (model X.prog X.w) X.A (call (.builtin id) (v :: us)) (EP X pins σ Q) X.xe s
theorem Vals.one:∀ {x:V} {us:List Value},Vals [x] us→∃ u,us=[u]∧RelV x u
 | _,_,.cons r .nil=>⟨_,rfl,r⟩
theorem Vals.two:∀ {x y:V} {us:List Value},Vals [x,y] us→∃ u v,us=[u,v]∧RelV x u∧RelV y v
 | _,_,_,.cons r (.cons q .nil)=>⟨_,_,rfl,r,q⟩
theorem Vals.rep (h:Vals xs us):∀ k:Nat,Vals (W8 k xs).flatten (W8 k us).flatten
 | 0=>.nil
 | k + 1=>by
  rw [WR,WR,Qc,Qc]
  exact Vals.append h (Vals.rep h k)
theorem z6J (its:List Value):∀ (k:Nat) (acc:List Value),
  List.foldl (fun x1 x2=>x1 ++ x2) acc.toArray (W8 k its.toArray)=(acc ++ (W8 k its).flatten).toArray
 | 0,acc=>by simp
 | k + 1,acc=>by
  have e:acc.toArray ++ its.toArray=(acc ++ its).toArray:=by simp
  have e2:(acc ++ its) ++ (W8 k its).flatten=acc ++ (W8 (k + 1) its).flatten:=by
   rw [WR,Qc,List.append_assoc]
  rw [← e2,← z6J its k (acc ++ its),← e,WR,QN]
section
variable {X:Cx} {pins:List (Addr×Obj)} {σ:St} {H:Hp} {s:W1} {l b:Addr} {xs ys zs:List V}
theorem Inv.lset {its its':List Value} {n:Nat} {f:Array Value→Array Value} {t':Nat} (I:Inv X pins σ H s) (hH:H l=some (.lst xs))
  (e:s.heap.get? l=some { cls:=.type "list",data:=.seq its.toArray n }) (hf:f its.toArray=its'.toArray) (hv:Vals ys its') (hz:ys.length≤W6) :
  Inv X pins σ (upd H l (.lst ys)) { s with heap:=s.heap.update l (Obj.mapSeq f),toks:=t' }:=by
 have q:=PySem.IsL.update e f
 rw [hf] at q
 refine I.write (x:=l) (e:=l) (by rw [hH]; exact trivial) (.inl rfl) (fun b' u hb hu=>(WX s.heap (Obj.mapSeq f) (Ne.symm hb)).trans hu) ⟨_,q⟩ ?_
 exact ⟨hz,its',_,hv,q⟩
theorem Inv.lnew (I:Inv X pins σ H s) (hv:Vals ys its) (hz:ys.length≤W6) :
  Inv X pins σ (upd H s.heap.objs.size (.lst ys)) { s with heap:=s.heap.push { cls:=.type "list",data:=.seq its.toArray },toks:=t' } :=
 I.laid (fun _ _ q=>W5 _ q) (We _) ⟨hz,its,0,hv,Wy _ rfl⟩
theorem Inv.fresh (I:Inv X pins σ H s):H s.heap.objs.size=none:=I.hok.fresh (We _)
theorem Inv.lstM (I:Inv X pins σ H s) (hH:H l=some (.lst xs)):xs.length≤W6∧∃ (its:List Value) (n:Nat),Vals xs its∧xs.length=its.length∧s.heap.get? l=some { cls:=.type "list",data:=.seq its.toArray n }:=by
 obtain ⟨z,its,n,r,e⟩:=I.hok l _ hH
 exact ⟨z,its,n,r,r.length,e⟩
end
section
variable {X:Cx}
def z9k:V→List V→Hp→VK→Prop:=fun x vs H Q=>∃ l xs y,x = .ref l∧vs=[y]∧H l=some (.lst xs)∧xs.length < W6∧Q .non (upd H l (.lst (xs ++ [y])))
theorem z6x:MtM X "list.append" z9k:=by
 intro pins s σ H x vs v us Q I rx rv h
 obtain ⟨l,xs,y,rfl,rfl,hH,hz,q⟩:=h
 cases rx
 obtain ⟨u,rfl,ru⟩:=rv.one
 obtain ⟨z,its,n,r,hl,e⟩:=I.lstM hH
 refine QW F.slot_list_append ⟨_,e,rfl⟩ F.entry_list_append (F.args_list_append_2 _ _) (PySem.list_append l its.toArray n u (by rw [Wo]; omega)) ⟨e,?_⟩
 refine ⟨.non,_,I.lset (its':=its ++ [u]) hH e (by simp) (r.append (.cons ru .nil)) ?_,rfl,q⟩
 rw [Q3,List.length_singleton]
 omega
theorem z7j (xs:List α) (k:Nat):(W8 k xs).flatten.length=k * xs.length:=by
 induction k with
 | zero=>simp
 | succ k ih=>rw [WR,Qc,Q3,ih,Nat.succ_mul,Nat.add_comm]
end
section
variable {prog:Wd} {w:Wg} {A:Wf} {E:Value→W1→Prop} {s:W1}
set_option maxRecDepth 100000 in
end
section
variable {X:Cx}
end
section
variable {κ:Type} [DecidableEq κ]
def valV (kvs:List (κ×V)) (k:κ):Option V:=(kvs.find? fun kv=>decide (kv.1=k)).map (·.2)
def putK (kvs:List (κ×V)) (k:κ) (v:V):List (κ×V) :=
 if (kvs.any fun kv=>decide (kv.1=k))=true then kvs.map (fun kv=>if kv.1=k then (kv.1,v) else kv) else kvs ++ [(k,v)]
theorem z4g {p:κ×V} {r:List (κ×V)} {k:κ} (e:p.1=k):valV (p :: r) k=some p.2:=by simp [valV,Qd,e]
theorem z4h {p:κ×V} {r:List (κ×V)} {k:κ} (e:¬ p.1=k):valV (p :: r) k=valV r k:=by simp [valV,Qd,e]
theorem z7C (k:κ):∀ kvs:List (κ×V),(kvs.any fun kv=>decide (kv.1=k))=(valV kvs k).isSome
 | []=>rfl
 | p :: r=>by
  rw [Qw]
  by_cases e:p.1=k
  ·simp only [z4g e,decide_eq_true e,Bool.true_or,Option.isSome_some]
  ·rw [z4h e,decide_eq_false e,Bool.false_or]; exact z7C k r
theorem z2i (kvs:List (κ×V)) (k:κ) (v:V):(putK kvs k v).length≤kvs.length + 1:=by
 unfold putK
 split
 ·rw [Wz]; omega
 ·rw [Q3,WO,List.length_nil]; omega
theorem RelO.isSome_eq (r:RelO o u):o.isSome=u.isSome:=by
 cases o with
 | none=>cases u with
  | none=>rfl
  | some _=>exact (show False from r).elim
 | some _=>cases u with
  | none=>exact (show False from r).elim
  | some _=>rfl
theorem KV.val {kvs:List (κ×V)} {vs:List (κ×Value)} (r:KV kvs vs) (k:κ):RelO (valV kvs k) (valueAt vs k):=by
 unfold KV at r
 induction r with
 | nil=>exact True.intro
 | @cons p q ps qs h t ih =>
  obtain ⟨h1,h2⟩:=h
  by_cases e:p.1=k
  ·have e':q.1=k:=h1.symm.trans e
   have b:valueAt (q :: qs) k=some q.2:=by simp [valueAt,Qd,e']
   rw [z4g e,b]; exact h2
  ·have e':¬ q.1=k:=fun z=>e (h1.trans z)
   have b:valueAt (q :: qs) k=valueAt qs k:=by simp [valueAt,Qd,e']
   rw [z4h e,b]; exact ih
theorem KV.any (r:KV kvs vs) (k:κ):(kvs.any fun kv=>decide (kv.1=k))=vs.any fun kv=>decide (kv.1=k):=by
 unfold KV at r
 induction r with
 | nil=>rfl
 | cons h t ih=>rw [Qw,Qw,ih,h.1]
theorem KV.repl (r:KV kvs vs) (k:κ) (ry:RelV y u) :
  KV (kvs.map fun kv=>if kv.1=k then (kv.1,y) else kv) (vs.map fun kv=>if kv.1=k then (kv.1,u) else kv):=by
 unfold KV at r ⊢
 induction r with
 | nil=>exact .nil
 | @cons p q ps qs h t ih =>
  rw [Wu,Wu]
  refine .cons ?_ ih
  obtain ⟨h1,h2⟩:=h
  by_cases e:p.1=k
  ·rw [if_pos e,if_pos (h1.symm.trans e)]; exact ⟨h1,ry⟩
  ·rw [if_neg e,if_neg (fun z=>e (h1.trans z))]; exact ⟨h1,h2⟩
theorem KV.put (r:KV kvs vs) (k:κ) (ry:RelV y u):KV (putK kvs k y) (stored vs k u):=by
 unfold putK stored
 rw [r.any k]
 by_cases e:(vs.any fun kv=>decide (kv.1=k))=true
 ·rw [if_pos e,if_pos e]; exact r.repl k ry
 ·rw [if_neg e,if_neg e]; exact Paired.snoc r ⟨rfl,ry⟩
theorem KV.length (r:KV kvs vs):kvs.length=vs.length:=Paired.length r
end
theorem z8v (r:RelV (kV k) u):(z1b P w).is k u=true:=by
 cases k with
 | inl i=>obtain ⟨t,e⟩:=(show ∃ t,u=Value.int i t from r); subst e; exact z7i P w i t
 | inr x=>obtain ⟨t,e⟩:=(show ∃ t,u=Value.str x t from r); subst e; exact z7h P w x t
theorem z6D:∀ {ks:List Key} {us:List Value},Vals (ks.map kV) us→ItemsAre (z1b P w) ks us
 | [],_,r=>by rw [List.map_nil] at r; cases r; exact .nil
 | k :: ks,_,r=>by
  rw [Wu] at r
  cases r with
  | cons h t=>exact .cons (z8v h) (z6D t)
abbrev KT (H:Hp):List (List Key×V)→List (List Key×Addr×Value)→Prop:=Paired fun p q=>p.1=q.1∧H q.2.1=some (.tup (p.1.map kV))∧RelV p.2 q.2.2
theorem KT.val {H:Hp} {kvs:List (List Key×V)} {xs:List (List Key×Addr×Value)} (r:KT H kvs xs) (k:List Key):RelO (valV kvs k) ((atKey xs k).map (·.2)):=by
 induction r with
 | nil=>exact True.intro
 | @cons p q ps qs h t ih =>
  obtain ⟨h1,_,h2⟩:=h
  by_cases e:p.1=k
  ·have e':q.1=k:=h1.symm.trans e
   have b:atKey (q :: qs) k=some q.2:=by simp [atKey,Qd,e']
   rw [z4g e,b]; exact h2
  ·have e':¬ q.1=k:=fun z=>e (h1.trans z)
   have b:atKey (q :: qs) k=atKey qs k:=by simp [atKey,Qd,e']
   rw [z4h e,b]; exact ih
theorem KT.repl (r:KT H kvs xs) (k:List Key) (ry:RelV y u) :
  KT H (kvs.map fun kv=>if kv.1=k then (kv.1,y) else kv) (xs.map (putAt k u)):=by
 induction r with
 | nil=>exact .nil
 | @cons p q ps qs h t ih =>
  rw [Wu,Wu]
  refine .cons ?_ ih
  obtain ⟨h1,h2,h3⟩:=h
  unfold putAt
  by_cases e:p.1=k
  ·rw [if_pos e,if_pos (h1.symm.trans e)]; exact ⟨h1,h2,ry⟩
  ·rw [if_neg e,if_neg (fun z=>e (h1.trans z))]; exact ⟨h1,h2,h3⟩
theorem KT.put (r:KT H kvs xs) (k:List Key) (hb:H b=some (.tup (k.map kV))) (ry:RelV y u) :
  KT H (putK kvs k y) (storedH xs k b u):=by
 have e:(kvs.any fun kv=>decide (kv.1=k))=(atKey xs k).isSome:=by
  rw [z7C,(r.val k).isSome_eq,Option.isSome_map]
 unfold putK storedH
 rw [e]
 by_cases q:(atKey xs k).isSome=true
 ·rw [if_pos q,if_pos q]; exact r.repl k ry
 ·rw [if_neg q,if_neg q]; exact Paired.snoc r ⟨rfl,hb,ry⟩
theorem KT.keeps (r:KT H kvs xs) (ht:∀ b ys,H b=some (.tup ys)→H' b=some (.tup ys)):KT H' kvs xs :=
 Paired.mapP r fun _ _ z=>⟨z.1,ht _ _ z.2.1,z.2.2⟩
section
variable {P:Wd} {w:Wg} {H:Hp} {h:Heap} {a:Addr}
theorem ze4 (ok:HOk P w H h) (e:Rd H a u):ObjOk P w H h a u:=e.ok ok
theorem zaj (ok:HOk P w H h) (e:Rd H a (.dK kvs)):kvs.length≤W6∧(a == QJ)=false∧∃ vs,KV kvs vs∧h.DictOf (z1b P w) a vs :=
 show ObjOk P w H h a (.dK kvs) from ze4 ok e
theorem zdw (ok:HOk P w H h) (e:H a=some (.dK kvs)):kvs.length≤W6∧(a == QJ)=false∧∃ vs,KV kvs vs∧h.DictOf (z1b P w) a vs:=zaj ok (.inl e)
theorem z6C (ok:HOk P w H h) (e:H a=some (.tup (ks.map kV))):(tupleKind (z1b P w)).is h ks a:=by
 obtain ⟨_,its,r,p⟩:=(show ObjOk P w H h a (.tup (ks.map kV)) from ok a _ e)
 obtain ⟨o,h1,h2,n,h3⟩:=p.tup
 exact ⟨o,its.toArray,n,h1,h2,h3,by simpa using z6D r⟩
theorem zbA (ok:HOk P w H h) (e:Rd H a (.dT kvs)):kvs.length≤W6∧(a == QJ)=false ∧
  ∃ xs,KT H kvs xs∧h.DictOfH (tupleKind (z1b P w)) a xs:=by
 obtain ⟨z,y,xs,r,o,es,ep,h1,h2,h3,h4,h5⟩:=(show ObjOk P w H h a (.dT kvs) from ze4 ok e)
 refine ⟨z,y,xs,r,o,es,ep,h1,h2,h3,h4,fun x hx=>?_,h5⟩
 have all:∀ {l:List (List Key×V)} {m:List (List Key×Addr×Value)},KT H l m→∀ x ∈ m,(tupleKind (z1b P w)).is h x.1 x.2.1:=by
  intro l m q
  induction q with
  | nil=>intro x hx; exact nomatch hx
  | @cons p q ps qs hq t ih =>
   intro x hx
   rcases Wp.mp hx with e | hx
   ·subst e
    exact z6C ok (by rw [← hq.1]; exact hq.2.1)
   ·exact ih x hx
 exact all r x hx
theorem dt_of (ok:HOk P w H h) (e:H a=some (.dT kvs)):kvs.length≤W6∧(a == QJ)=false ∧
  ∃ xs,KT H kvs xs∧h.DictOfH (tupleKind (z1b P w)) a xs:=zbA ok (.inl e)
end
def DGet (H:Hp) (a:Addr) (y:V) (r:Option V):Prop :=
 (∃ kvs k,Rd H a (.dK kvs)∧y=kV k∧r=valV kvs k)∨∃ kvs k b,Rd H a (.dT kvs)∧y = .ref b∧H b=some (.tup (k.map kV))∧r=valV kvs k
def DPut (H:Hp) (a:Addr) (y v:V) (H':Hp):Prop :=
 (∃ kvs k,H a=some (.dK kvs)∧y=kV k∧kvs.length < W6∧H'=upd H a (.dK (putK kvs k v))) ∨
 ∃ kvs k b,H a=some (.dT kvs)∧y = .ref b∧H b=some (.tup (k.map kV))∧kvs.length < W6∧H'=upd H a (.dT (putK kvs k v))
theorem DGet.k {H:Hp} {a:Addr} {kvs:List (Key×V)} {k:Key} (e:H a=some (.dK kvs)):DGet H a (kV k) (valV kvs k):=.inl ⟨kvs,k,.inl e,rfl,rfl⟩
theorem DPut.k {H:Hp} {a:Addr} {kvs:List (Key×V)} {k:Key} {v:V} (e:H a=some (.dK kvs)) (hl:kvs.length < W6):DPut H a (kV k) v (upd H a (.dK (putK kvs k v))):=.inl ⟨kvs,k,e,rfl,hl,rfl⟩
section
variable {X:Cx} {pins:List (Addr×Obj)} {σ:St} {H:Hp} {s:W1} {a:Addr} {y v:V} {u r:Value} {o:Option V} {A:Wf} {E:Value→W1→Prop}
theorem Inv.big (I:Inv X pins σ H s):QJ < s.heap.objs.size:=by
 have h:Wj < s.heap.objs.size:=(I.mod.glob.keeps I.bk).lt
 exact Nat.lt_trans (by decide) h
theorem zao (hu:A.units + 1 < Qa) (I:Inv X pins σ H s) (g:DGet H a y (some v)) (ry:RelV y u) (h:∀ w' s',Inv X pins σ H s'→RelV v w'→Q w' s') :
  W9 (model X.prog X.w) A (getItem (.ref a) u) Q E s:=by
 rcases g with ⟨kvs,k,e,ey,l⟩ | ⟨kvs,k,b,e,ey,eb,l⟩
 ·subst ey
  obtain ⟨z,hd,vs,rel,dd⟩:=zaj I.hok e
  obtain ⟨w',hw,rw'⟩:=RelO.some_of (v:=v) (o:=valueAt vs k) (by rw [l]; exact rel.val k)
  exact wpAny_getItem_of (z8v ry) dd.mapOf hw (h w' _ (I.tok _) rw')
 ·subst ey
  cases (show u=Value.ref b from ry)
  obtain ⟨z,hd,xs,rel,dd⟩:=zbA I.hok e
  obtain ⟨w',hw,rw'⟩:=RelO.some_of (v:=v) (o:=(atKey xs k).map (·.2)) (by rw [l]; exact rel.val k)
  obtain ⟨p,hp,hp2⟩:=WM.mp hw
  refine wpAny_getItem_heap (Ja hu) (z6C I.hok eb) dd hp ?_
  rw [hp2]
  exact h w' _ (I.tok _) rw'
theorem d_in (hu:A.units + 1 < Qa) (I:Inv X pins σ H s) (g:DGet H a y o) (ry:RelV y u) (h:∀ s',Inv X pins σ H s'→Q (.bool o.isSome) s') :
  W9 (model X.prog X.w) A (WB .In u (.ref a)) Q E s:=by
 rcases g with ⟨kvs,k,e,ey,l⟩ | ⟨kvs,k,b,e,ey,eb,l⟩
 ·subst ey
  obtain ⟨z,hd,vs,rel,dd⟩:=zaj I.hok e
  refine wpAny_in_of (z8v ry) hd dd.mapOf ?_
  rw [← (rel.val k).isSome_eq,← l]
  exact h _ (I.tok _)
 ·subst ey
  cases (show u=Value.ref b from ry)
  obtain ⟨z,hd,xs,rel,dd⟩:=zbA I.hok e
  refine wpAny_in_heap (Ja hu) (z6C I.hok eb) hd dd ?_
  have q:=(rel.val k).isSome_eq
  rw [Option.isSome_map] at q
  rw [← q,← l]
  exact h _ (I.tok _)
theorem zdy (hu:A.units + 1 < Qa) (I:Inv X pins σ H s) (g:DGet H a y o) (ry:RelV y u) (h:∀ s',Inv X pins σ H s'→Q (.bool (!o.isSome)) s') :
  W9 (model X.prog X.w) A (WB .NotIn u (.ref a)) Q E s:=by
 rcases g with ⟨kvs,k,e,ey,l⟩ | ⟨kvs,k,b,e,ey,eb,l⟩
 ·subst ey
  obtain ⟨z,hd,vs,rel,dd⟩:=zaj I.hok e
  refine wpAny_notIn_of (z8v ry) hd dd.mapOf ?_
  rw [← (rel.val k).isSome_eq,← l]
  exact h _ (I.tok _)
 ·subst ey
  cases (show u=Value.ref b from ry)
  obtain ⟨z,hd,xs,rel,dd⟩:=zbA I.hok e
  refine wpAny_notIn_heap (Ja hu) (z6C I.hok eb) hd dd ?_
  have q:=(rel.val k).isSome_eq
  rw [Option.isSome_map] at q
  rw [← q,← l]
  exact h _ (I.tok _)
theorem z7r (I:Inv X pins σ H s) (mu:Mut (H a)) (hs:Heap.SameBut a s.heap h') (he:∃ q,h'.get? a=some q) (new:ObjOk X.prog X.w (upd H a ob) h' a ob) :
  Inv X pins σ (upd H a ob) { s with heap:=h',toks:=t' } :=
 I.write (x:=a) (e:=a) mu (.inl rfl) (fun b q hb z=>(hs.2 b hb).trans z) he new
theorem zcc (z:kvs.length≤W6) (hd:(a == QJ)=false) (rel:KV kvs vs) (dd:h'.DictOf (z1b P w) a vs) :
  ObjOk P w H' h' a (.dK kvs):=⟨z,hd,vs,rel,dd⟩
theorem zan (hu:A.units + 1 < Qa) (I:Inv X pins σ H s) (g:DPut H a y v H') (ry:RelV y u) (rv:RelV v r) (h:∀ s',Inv X pins σ H' s'→Q () s') :
  W9 (model X.prog X.w) A (setItem (.ref a) u r) Q E s:=by
 rcases g with ⟨kvs,k,e,ey,l,eH⟩ | ⟨kvs,k,b,e,ey,eb,l,eH⟩
 ·subst ey eH
  obtain ⟨z,hd,vs,rel,dd⟩:=zdw I.hok e
  have hz:vs.length≤W6:=by rw [← rel.length]; exact z
  have hl:(putK kvs k v).length≤W6:=by have:=z2i kvs k v; omega
  refine wpAny_setItem_pairs (hsz:=hz) (z8v ry) dd fun h' dd' hs=>h _ ?_
  have he:∃ q,h'.get? a=some q:=let ⟨q,_,_,hq,_⟩:=dd'; ⟨q,hq⟩
  exact z7r I (by rw [e]; exact True.intro) hs he (zcc hl hd (rel.put k rv) dd')
 ·subst ey eH
  cases (show u=Value.ref b from ry)
  obtain ⟨z,hd,xs,rel,dd⟩:=dt_of I.hok e
  have hz:xs.length≤W6:=by rw [← Paired.length rel]; exact z
  have hl:(putK kvs k v).length≤W6:=by have:=z2i kvs k v; omega
  refine wpAny_setItem_heap (hsz:=hz) (Ja hu) (z6C I.hok eb) dd fun h' dd' hs=>h _ ?_
  obtain ⟨q,es,ep,hq,h2,h3,h4,_,h5⟩:=dd'
  refine z7r I (by rw [e]; exact True.intro) hs ⟨q,hq⟩ ⟨hl,hd,_,(rel.put k eb rv).keeps fun c ys ec=>?_,q,es,ep,hq,h2,h3,h4,h5⟩
  rw [z0f (ne_of ec e (fun z=>nomatch z))]
  exact ec
end
section
variable {X:Cx} {pins:List (Addr×Obj)} {σ:St} {H:Hp} {s:W1} {a:Addr} {kvs:List (Key×V)} {k:Key} {u:Value} {A:Wf} {E:Value→W1→Prop}
theorem d_len (I:Inv X pins σ H s) (e:Rd H a (.dK kvs)) (h:∀ t s',Inv X pins σ H s'→Q (.int kvs.length t) s'):W9 (model X.prog X.w) A (call (.builtin "len") [.ref a]) Q E s:=by
 obtain ⟨z,hd,vs,rel,dd⟩:=zaj I.hok e
 refine call_len_dict hd dd (by rw [← rel.length]; rw [sizeLine_eq] at z; omega) ?_
 rw [← rel.length]
 exact h _ _ (I.tok _)
end
def sDPut (td ty tv:TE):TS:=fun D σ H=>tv σ H fun v H1=>td σ H1 fun x H2=>ty σ H2 fun y H3=>∃ a H4,x = .ref a∧DPut H3 a y v H4∧D.nx σ H4
section
variable {X:Cx} {o i e value:Expr} {pos pos' tpos:Pos} {td ty tv:TE}
theorem zcR (hu:X.A.units + 1 < Qa) (ho:PE X o td) (hi:PE X i ty) (hv:PE X value tv) (hs:QB value (some (.Subscript o i pos')) pos.line X.env=pure false) :
  PS X (.Assign [.Subscript o i pos'] value pos) (sDPut td ty tv):=by
 intro pins s σ H D I h
 refine wpAny_Assign_Subscript (thn (hv pins s σ H _ I h) fun r s1 ⟨v,H1,I1,rv,q1⟩=>thn (ho pins s1 σ H1 _ I1 q1) fun u s2 ⟨x,H2,I2,rx,q2⟩=>thn (hi pins s2 σ H2 _ I2 q2) fun iv s3 ⟨y,H3,I3,ry,a,H4,ex,g,q3⟩=>?_) hs
 subst ex
 obtain rfl:u=Value.ref a:=rx
 exact zan hu I3 g ry rv fun s4 I4=>⟨σ,H4,I4,q3⟩
end
theorem z86 (h:Heap) (hb:QJ < h.objs.size):ObjOk P w H (h.push { cls:=.type "dict",data:=.dict #[] }) h.objs.size (.dK []) :=
 ⟨QP _,beq_eq_false_iff_ne.mpr (Ne.symm (WK hb)),[],.nil,Heap.DictOf.new h⟩
def zdP:TE:=fun _ H Q=>∀ p,H p=none→Q (.ref p) (upd H p (.dK []))
section
variable {X:Cx} {pos:Pos}
theorem zb5:PE X (.Dict [] [] pos) zdP:=fun pins s σ H Q I h =>
 wpAny_Dict_empty ⟨.ref s.heap.objs.size,_,I.laid (a:=s.heap.objs.size) (o:=.dK []) (t':=s.toks) (fun _ _ q=>W5 _ q) (We _) (z86 s.heap I.big),rfl,h _ (I.hok.fresh (We _))⟩
end
structure M1 (X:Cx) (o:Expr) (m:Str) (apos:Pos) (e:Expr) (cpos:Pos):Prop where
 base:Q9 o m X.env (eval o X.env)=eval o X.env
 few:((WD cpos (W3 [e] X.env)).all (fun x=>!x.1) && (backToKw cpos (QO [] X.env)).all (fun x=>x.1.isSome)
  && decide (([e]:List Expr).length + ([]:List Keyword).length + (if ([]:List Keyword).isEmpty then 0 else 1) < 30))=true
 line:(apos.endLine == cpos.line)=true
 trees:WD cpos (W3 [e] X.env)=[(false,eval e X.env)]
structure M2 (X:Cx) (o:Expr) (m:Str) (apos:Pos) (e f:Expr) (cpos:Pos):Prop where
 base:Q9 o m X.env (eval o X.env)=eval o X.env
 few:((WD cpos (W3 [e,f] X.env)).all (fun x=>!x.1) && (backToKw cpos (QO [] X.env)).all (fun x=>x.1.isSome)
  && decide (([e,f]:List Expr).length + ([]:List Keyword).length + (if ([]:List Keyword).isEmpty then 0 else 1) < 30))=true
 line:(apos.endLine == cpos.line)=true
 trees:WD cpos (W3 [e,f] X.env)=[(false,eval e X.env),(false,eval f X.env)]
section
variable {X:Cx} {pins:List (Addr×Obj)} {σ:St} {H:Hp} {s:W1} {a:Addr} {y d:V} {u r:Value} {o:Option V} {A:Wf} {E:Value→W1→Prop}
end
section
variable {X:Cx} {o e f:Expr} {apos cpos:Pos} {td ty tx:TE}
end
section
variable {X:Cx} {pins:List (Addr×Obj)} {σ:St} {H:Hp} {s:W1} {a:Addr} {kvs:List (Key×V)} {A:Wf} {E:Value→W1→Prop}
end
section
variable {X:Cx} {pins:List (Addr×Obj)} {σ:St} {H:Hp} {s:W1} {a:Addr} {y:V} {u:Value} {A:Wf} {E:Value→W1→Prop}
end
end L2
namespace Att
open PySem PySem.W PySem.Calls PyProof.Rows
theorem z4M:∀ (ns:List Int) (vs:List Value),WellAll P h vs (ns.map WData.int)→IntsAre vs ns:=by
 intro ns
 induction ns with
 | nil =>
  intro vs w
  rw [List.map_nil] at w
  cases w
  exact .nil
 | cons n ns ih =>
  intro vs w
  rw [Wu] at w
  cases w with
  | cons a b =>
   cases a
   exact .cons _ _ (ih _ b)
theorem z97 {l:OpenLaw} {n:Nat} (hn:l.most=some n) {P:Params} {h:Heap} {args:List WData} {vals:List Value}
  (hpre:l.row.toRowW.claim.pre args=true) (hwl:WellAll P h vals args) :
  ∃ a vs ns,vals=[Value.ref a]∧args=[WData.list (ns.map WData.int)]∧h.get? a=some { cls:=.type "list",data:=.seq vs.toArray }∧IntsAre vs ns∧ns.length≤n:=by
 have hsh:WShape.hasAll [] args [.list .int]=true:=(pre_splitW hpre).1
 have hc:l.pre.holds [] { args:=args } = true:=(pre_splitW hpre).2
 obtain ⟨d,r,rfl,h1,h2⟩:=hasAllW_cons hsh
 obtain rfl:=hasAllW_nil h2
 obtain ⟨xs,rfl,h3⟩:=hasW_list h1
 obtain ⟨ns,rfl⟩:=items_int h3
 have hlen:ns.length≤n:=by
  unfold OpenLaw.pre at hc
  have h4:(WTm.not (.lt (.lit (.int (n:Int))) (.len (.arg 0)))).holds [] { args:=[.list (ns.map .int)] } = true:=by
   have h4:=(holds_andW hc).1
   rw [hn] at h4
   exact h4
  have h5:=condW_of h4 (w_not (w_lt w_lit (w_len_list (w_arg rfl))))
  rw [Wz] at h5
  refine Nat.le_of_not_lt fun q=>?_
  have q':(n:Int) < ((ns.length:Nat):Int):=by omega
  first
   | (rw [decide_eq_true q'] at h5; exact absurd h5 (by decide))
   | (simp at h5; omega)
 cases hwl with
 | cons w1 w2 =>
  cases w2
  cases w1 with
  | list ho hall=>exact ⟨_,_,ns,rfl,rfl,ho,z4M ns _ hall,hlen⟩
theorem z9q (l:OpenLaw) (args:List WData):l.row.toRowW.claim.post args (.bool true) args=true :=
 postW_of (r:=l.row.toRowW) (X:=(true == true))
  (show WShape.has [] (.bool true) .bool=true by first | rfl | decide | simp [WShape.has,WShape.arms,WShape.armsAll])
  (show (WTm.eq .res (.lit (.bool true))).value [] { args:=args,res:=some (.bool true),after:=args } = some (.bool (true == true)) from w_eq_bool (w_res rfl) w_lit) rfl
theorem attach_call {l:OpenLaw} {n:Nat} {q:Wd} {loose:List Str} {XP:(Str→Option Value)→Heap→Prop} {YP:Wg→Heap→Prop} {d:DefRec}
  (hn:l.most=some n) (hdf:d.params.defaults=[])
  (call:∀ (w:Wg) (s₀ s₁:W1) (mg mb:Str→Option Value) (fa:Addr) (o:Obj) (pm cd doc:Value) (a:Addr) (vs:List Value) (ns:List Int),
   Ground q loose [] XP w s₀ mg mb s₁.heap→YP w s₁.heap →
   s₁.heap.get? fa=some o→o.data = .func (docDef d.name d.params d.body d.scope pm cd doc)→s₁.heap.CodeRec cd d.name→mg d.name=some (.ref fa) →
   s₁.heap.get? a=some { cls:=.type "list",data:=.seq vs.toArray }→IntsAre vs ns→ns.length≤n→s₁.gens = #[] →
   Qf (model l.prog w) callerA (.call (.ref fa) ⟨[.ref a],[]⟩) (fun r s'=>r = .ok (.ret (.bool true))∧OldK s₁.heap s'.heap∧s'.os=s₁.os∧AllBare s'.gens) s₁) :
  WalkO q loose XP YP l.row.toRowW d [] (fun f vs=>PySem.call f vs):=by
 intro w s₀ s₁ mg mb G Y fa o pm cd doc dV kV ho hd hcd hD hmg hg args vals as hpre hlay hrd hwl hlo
 obtain rfl:dV = .none:=Dflts.none hD hdf
 obtain rfl:kV = .none:=Dflts.noKw hD
 obtain ⟨a,vs,ns,rfl,rfl,hobj,hints,hlen⟩:=z97 hn hpre hwl
 refine enter_call (Qq (call w s₀ s₁ mg mb fa o pm cd doc a vs ns G Y ho (fd_plain hd) hcd hmg hobj hints hlen hg) fun r s' hq=>?_)
 obtain ⟨rfl,h2,h3,h4⟩:=hq
 exact ⟨.inl ⟨.bool true,.bool true,[],rfl,fun _=>rfl,.bool true,z9q l _,fun _=>⟨List.Pairwise.nil,fun _ hm=>(nomatch hm)⟩⟩,h2,h3,h4⟩
section
variable {prog:Wd} {w:Wg} {A:Wf} {E:Value→W1→Prop} {s:W1} {K:Frag}
end
end Att
namespace L2
open PySem PySem.Spec PyProof.Rows
theorem vals_ints:∀ {vs:List Value} {ns:List Int},IntsAre vs ns→Vals (ns.map V.int) vs
 | _,_,.nil=>.nil
 | _,_,.cons n t h=>.cons ⟨t,rfl⟩ (vals_ints h)
def Only (H:Hp):Prop:=∀ b,H b=none∨∃ o xs,H b=some (.frz o (.lst xs))
theorem zbl {P:Wd} {w:Wg} {K:W0} {mg mb:Str→Option Value} {CX:CXT} {k:Nat} {fa a:Addr} {fd:Wx} {x:Str} {sp:Sp} {s₁:W1} {vs:List Value} {ns:List Int}
  (KX:K.In s₁.heap) (hns:s₁.heap.Ns Wj mg) (hb:s₁.heap.Ns builtinsNs mb) (hbb:∀ x:Str,x≠"__name__"→mb x=WW x) (hlim:s₁.heap.NoLimit) (hg:s₁.gens = #[])
  (ha:s₁.heap.get? a=some { cls:=.type "list",data:=.seq vs.toArray }) (hi:IntsAre vs ns) (hl:ns.length≤W6) (hr:Room k callerA)
  (F:∀ base:Heap,K.In base→base.Ns Wj mg→FnOk P w K mg base CX k fa fd [x] sp) (hbind:∀ (s:W1) (u:Value),BindsTo s fd ⟨[u],[]⟩ [(x,u)])
  (hsp:∀ H:Hp,Only H→SqL K H a (ns.map V.int)→sp [.ref a] H (fun v _=>v = .bl true) fun _ _ _=>False)
  (hCX:∀ H e s',CX [] H s₁ (fun _ _ _=>False) e s'→False) :
  Qf (model P w) callerA (.call (.ref fa) ⟨[.ref a],[]⟩) (fun r s'=>r = .ok (.ret (.bool true))∧OldK s₁.heap s'.heap∧s'.os=s₁.os∧AllBare s'.gens) s₁:=by
 have rv:=vals_ints hi
 have lenV:=hi.length
 -- from an abstract heap in which nothing but the script may be tracked
 have core:∀ H:Hp,Only H→SqL K H a (ns.map V.int)→HOk P w H s₁.heap→(∀ b,H b≠none→b=a)→(H a≠none→K.lookup a=none) →
   Qf (model P w) callerA (.call (.ref fa) ⟨[.ref a],[]⟩) (fun r s'=>r = .ok (.ret (.bool true))∧OldK s₁.heap s'.heap∧s'.os=s₁.os∧AllBare s'.gens) s₁:=by
  intro H hO hS hok hA hK
  have base_of:∀ {b:Addr} {o:Obj},s₁.heap.get? b=some o→H b=none→(hidT s₁.heap H).get? b=some o:=fun e n=>z82 e n
  have noA:∀ {b:Addr} {o:Obj} {es:Array DictEntry} {ep:Nat},s₁.heap.get? b=some o→o.data = .dict es ep→H b=none:=fun {b o es ep} e d=>by
   cases q:H b with
   | none=>rfl
   | some u =>
    have e':b=a:=hA b (by rw [q]; simp)
    subst e'
    rw [ha] at e; cases e
    have d':Data.seq vs.toArray _=Data.dict es ep:=d
    cases d'
  have nsK:∀ {b:Addr} {m:Str→Option Value},s₁.heap.Ns b m→(hidT s₁.heap H).Ns b m:=fun {b m} ⟨o,es,ep,e,d,r⟩=>⟨o,es,ep,base_of e (noA e d),d,r⟩
  have hKb:K.In (hidT s₁.heap H):=fun b o e=>base_of (KX b o e) (by
   cases q:H b with
   | none=>rfl
   | some u =>
    have e':b=a:=hA b (by rw [q]; simp)
    subst e'
    rw [hK (by rw [q]; simp)] at e; cases e)
  have hM:Mod K mg (hidT s₁.heap H):=⟨hKb,nsK hns,⟨mb,nsK hb,hbb⟩,let ⟨mc,h1,h2⟩:=hlim; ⟨mc,nsK h1,h2⟩⟩
  have e0:Env0 P w K mg (hidT s₁.heap H) callerA [] s₁ H:=⟨rfl,hM,fun b o e=>z9L e,Nat.le_of_eq (z6G _ _),trivial,fun b hb=>absurd (show b ∈ ([]:List Addr) from hb) (by simp),hok,.of_eq hg⟩
  refine Qq ((F _ hKb (nsK hns)).run callerA [] s₁ H ⟨[.ref a],[]⟩ [.ref a] [.ref a] _ _ hr e0 (hbind s₁ (.ref a)) (.cons rfl .nil) (hsp H hO hS)) fun r s' h=>?_
  cases r with
  | error e=>exact (hCX H e s' h).elim
  | ok fl =>
   cases fl with
   | next=>exact False.elim h
   | brk=>exact False.elim h
   | cont=>exact False.elim h
   | ret u =>
    obtain ⟨v,H',os,bare,un,hok',r',q⟩:=h
    have q':v = .bl true:=q
    subst q'
    obtain rfl:u=Value.bool true:=r'
    refine ⟨rfl,OldK.of_keep fun b o e=>?_,os,bare⟩
    cases q:H b with
    | none=>exact un.keep b o e q (by intro z; exact absurd (show b ∈ ([]:List Addr) from z) (by simp)) (by simp)
    | some u =>
     rcases hO b with z | ⟨ob,xs,z⟩
     ·rw [q] at z; cases z
     ·have z2:=un.frzs b ob _ z
      obtain ⟨e1,_⟩:=hok b _ z
      obtain ⟨e2,_⟩:=hok' b _ z2
      rw [e] at e1; cases e1
      exact e2
 cases hk:K.lookup a with
 | some o =>
  -- the script is one of the module's own objects
  have e:=KX a o hk
  rw [ha] at e
  cases e
  refine core (fun _=>none) (fun _=>.inl rfl) (.inr ⟨_,vs.toArray,_,hk,rfl,rfl,rfl,by rw [Wo,lenV]; exact hl,by simpa using rv⟩) (fun b u z=>by have z':(none:Option HO)=some u:=z; cases z') (fun b z=>absurd rfl z) fun z=>absurd rfl z
 | none =>
  refine core (fun b=>if b=a then some (.frz { cls:=.type "list",data:=.seq vs.toArray } (.lst (ns.map V.int))) else none) (fun b=>?_) (.inl (.inr ⟨{ cls:=.type "list",data:=.seq vs.toArray },if_pos rfl⟩)) (fun b u z=>?_) (fun b z=>?_) fun _=>hk
  ·by_cases hb:b=a
   ·exact .inr ⟨_,_,if_pos hb⟩
   ·exact .inl (if_neg hb)
  ·by_cases hb:b=a
   ·have z':=(if_pos hb).symm.trans z
    cases z'
    subst hb
    exact ⟨ha,by rw [Wz]; exact hl,vs,_,rv,ha⟩
   ·have z':=(if_neg hb).symm.trans z
    cases z'
  ·by_cases hb:b=a
   ·exact hb
   ·exact absurd (if_neg hb) z
abbrev KOf {K:W0} {h:Heap} (_:K.In h):W0:=K
theorem walk_of {l:PySem.W.OpenLaw} {n k:Nat} {q:Wd} {loose:List Str} {XP:(Str→Option Value)→Heap→Prop} {YP:Wg→Heap→Prop} {d:DefRec} {K:Params→W0} {CX:Wg→CXT} {sp:Wg→Sp} {x:Str}
  (hn:l.most=some n) (hn2:n≤W6) (hdf:d.params.defaults=[]) (hr:Room k callerA)
  (hY:∀ (w:Wg) (h:Heap),YP w h→(K w.params).In h)
  (F:∀ (w:Wg) (mg:Str→Option Value) (fa:Addr) (h:Heap),(K w.params).In h→h.Ns Wj mg→mg d.name=some (.ref fa) →
   ∃ fd:Wx,(∀ (s:W1) (u:Value),BindsTo s fd ⟨[u],[]⟩ [(x,u)]) ∧
    ∀ base:Heap,(K w.params).In base→base.Ns Wj mg→FnOk l.prog w (K w.params) mg base (CX w) k fa fd [x] (sp w))
  (hsp:∀ (w:Wg) (H:Hp) (a:Addr) (ns:List Int),ns.length≤n→Only H→SqL (K w.params) H a (ns.map V.int)→sp w [.ref a] H (fun v _=>v = .bl true) fun _ _ _=>False)
  (hCX:∀ (w:Wg) (H:Hp) (s:W1) (e:Value) (s':W1),CX w [] H s (fun _ _ _=>False) e s'→False) :
  PySem.W.WalkO q loose XP YP l.row.toRowW d [] (fun f vs=>PySem.call f vs):=by
 refine Att.attach_call hn hdf fun w s₀ s₁ mg mb fa o pm cd doc a vs ns G Y ho hd hcd hmg hobj hints hlen hg=>?_
 have KX:=hY w _ Y
 obtain ⟨fd,hb,hF⟩:=F w mg fa _ KX G.T.g hmg
 exact zbl KX G.T.g G.T.b G.T.builtins G.T.nolimit hg hobj hints (WP hlen hn2) hr hF hb (fun H hO hS=>hsp w H a ns hlen hO hS) fun H e s'=>hCX w H s₁ e s'
def z18 (s:Stmt):Arguments:=match s with
 | .FunctionDef _ a _ _ _ _ _ _ _ _=>a
 | _=>{ posonlyargs:=[],args:=[],vararg:=none,kwonlyargs:=[],kw_defaults:=[],kwarg:=none,defaults:=[] }
def z0q (s:Stmt):List Stmt:=match s with
 | .FunctionDef _ _ b _ _ _ _ _ _ _=>b
 | _=>[]
def z00 (s:Stmt):Scope:=match s with
 | .FunctionDef _ _ _ _ _ _ sc _ _ _=>sc
 | _=>{ kind:=.function,names:=[],isGenerator:=false,isCoroutine:=false }
abbrev CX0:CXT:=fun _ _ _ _ _ _=>False
abbrev E0:XK:=fun _ _ _=>False
theorem zeI:zaF CX0 X E0:=fun _ _ _ _ _ _ _ h=>h.elim
structure Fun (K:W0) (x qual:Str) (st:Stmt) (f:Addr) (fd:Wx):Prop where
 ex:∃ (oc:Value) (od:Option Addr) (kV doc pm:Value) (an:Option Addr) (cdv ct:Value) (osl:Array (Option Value)),
  fd=WF x qual (z18 st) (z0q st) (z00 st) .none kV doc pm an cdv ct∧K.lookup f=some ⟨oc,od,.func fd,osl⟩∧PySem.W.codeIn K cdv qual=true
 kp:WN K (.ref f)=true
section
variable {P:Wd} {w:Wg} {K:W0} {mg:Str→Option Value} {base:Heap}
theorem Fun.ok {x qual:Str} {st:Stmt} {f:Addr} {fd:Wx} {N ps:List Str} {k:Nat} {sp:Sp} (F:Fun K x qual st f fd) (S:FnScope N ps (z00 st)) (len:∀ vs H Q E,sp vs H Q E→vs.length=ps.length)
  (hbody:∀ (cdv:Value) (A:Wf) (outer:List Env) (s:W1) (H:Hp) (vs:List V) (Q:VK) (E:XK),Room k (A.deeper (Qb qual (z00 st) s.heap.objs.size f cdv))→sp vs H Q E →
   ∃ t,PSs (cxOf CX0 P w K mg base N qual (z00 st) f cdv A outer s H E).nox (z0q st) t∧t { nx:=fun _ H'=>Q .non H',rt:=Q } (start N vs) H):FnOk P w K mg base CX0 (k + 1) f fd ps sp:=by
 obtain ⟨oc,od,kV,doc,pm,an,cdv,ct,osl,rfl,lk,hcd⟩:=F.ex
 refine zbu lk hcd S len fun A outer s H vs Q E hr hsp=>?_
 obtain ⟨t,h,q⟩:=hbody cdv A outer s H vs Q E hr hsp
 exact ⟨t,h.nox,q⟩
theorem Fun.binds {x qual:Str} {st:Stmt} {f:Addr} {fd:Wx} {ps:List Str} (F:Fun K x qual st f fd)
  (h:∀ (kV doc pm:Value) (an:Option Addr) (cdv ct:Value) (us:List Value),us.length=ps.length→bindArgs (WF x qual (z18 st) (z0q st) (z00 st) .none kV doc pm an cdv ct) ⟨us,[]⟩=pure (ps.zip us)):Binds K fd ps []:=by
 obtain ⟨oc,od,kV,doc,pm,an,cdv,ct,osl,rfl,lk,hcd⟩:=F.ex
 exact .all (h kV doc pm an cdv ct)
theorem z84 {x qual:Str} {st:Stmt} {f:Addr} {oc:Value} {od an:Option Addr} {osl:Array (Option Value)} {kV doc pm cdv ct:Value} (l:K.lookup f=some ⟨oc,od,.func (WF x qual (z18 st) (z0q st) (z00 st) .none kV doc pm an cdv ct),osl⟩)
  (c:PySem.W.codeIn K cdv qual=true) (k:WN K (.ref f)=true):Fun K x qual st f (WF x qual (z18 st) (z0q st) (z00 st) .none kV doc pm an cdv ct):=⟨⟨oc,od,kV,doc,pm,an,cdv,ct,osl,rfl,l,c⟩,k⟩
end
theorem z8Y (h:n≤1000):n < W6:=Nat.lt_of_le_of_lt h (by decide)
section
variable {X:Cx}
theorem pv (i:Nat) (hN:X.N[i]? = some x:=by rfl) (hv:Vis X.env.scope x:=by first | exact Or.inl rfl | exact Or.inr (Or.inl rfl) | exact Or.inr (Or.inr rfl)) (hd:(x == ("__debug__" : Str))=false:=by decide)
  (hcd:(x == ("__classdict__" : Str))=false:=by decide):PE X (.Name x pos) (tVar i):=zex hN hv hd hcd
theorem zay:CallR X (.builtin "len") (fun xs H Q=>∃ a kvs,xs=[V.ref a]∧H a=some (.dK kvs)∧Q (.int kvs.length) H):=by
 intro pins s σ H xs us Q I r h
 obtain ⟨a,kvs,rfl,ha,q⟩:=h
 obtain ⟨u,rfl,ru⟩:=z3L r
 cases ru
 exact d_len I (.inl ha) fun t s' I'=>⟨.int kvs.length,H,I',⟨t,rfl⟩,q⟩
end
section
variable {κ:Type} [DecidableEq κ]
end
def z1A (cells:List (Str×Addr)):List (Str×NameKind)→List (Str×Addr)→List (Str×Addr)
 | [],acc=>acc
 | (n,k) :: r,acc=>z1A cells r (if k == .free then (match cells.lookup n with | some a=>(n,a) :: acc | none=>acc) else acc)
theorem z3g (f:Str×NameKind→List (Str×Addr)→Sem (ForInStep (List (Str×Addr))))
  (hf:∀ name kind cs,f (name,kind) cs=if kind == .free then (do let a ← cellOf env name; pure (.yield ((name,a) :: cs))) else pure (.yield cs)) :
  ∀ (names:List (Str×NameKind)) (acc:List (Str×Addr)),(∀ x ∈ names,x.2=NameKind.free→∃ c,env.cells.lookup x.1=some c)→(forIn names acc f:Sem (List (Str×Addr)))=pure (z1A env.cells names acc)
 | [],acc,_=>by rw [List.forIn_nil]; rfl
 | (n,k) :: r,acc,h=>by
  rw [List.forIn_cons,hf]
  unfold z1A
  by_cases hk:(k == NameKind.free)=true
  ·obtain ⟨c,hc⟩:=h (n,k) Wm (by simpa using hk)
   have hc':env.cells.lookup n=some c:=hc
   have e:cellOf env n=pure c:=by unfold cellOf; rw [hc']
   rw [if_pos hk,if_pos hk,e,hc']
   exact z3g f hf r _ fun x hx=>h x (Wi _ hx)
  ·rw [if_neg hk,if_neg hk]
   exact z3g f hf r _ fun x hx=>h x (Wi _ hx)
theorem z5v (h:∀ x ∈ scope.names,x.2=NameKind.free→∃ c,env.cells.lookup x.1=some c):closureFor scope env=pure (z1A env.cells scope.names []):=by
 unfold closureFor
 dsimp only
 rw [z3g (env:=env) _ (fun name kind cs=>by cases hkc:kind == NameKind.free <;> simp [hkc]) scope.names [] h]
 rfl
theorem z5u:∀ (names:List (Str×NameKind)) (acc:List (Str×Addr)),(n,c) ∈ z1A cells names acc→(n,c) ∈ acc∨((n,NameKind.free) ∈ names∧cells.lookup n=some c)
 | [],acc,h=>.inl h
 | (y,k) :: r,acc,h=>by
  unfold z1A at h
  rcases z5u r _ h with q | ⟨q,e⟩
  ·by_cases hk:(k == NameKind.free)=true
   ·rw [if_pos hk] at q
    have hk':k=NameKind.free:=by simpa using hk
    cases e:cells.lookup y with
    | none=>rw [e] at q; exact .inl q
    | some a =>
     rw [e] at q
     rcases Wp.mp q with z | z
     ·cases z
      exact .inr ⟨by rw [hk']; exact Wm,e⟩
     ·exact .inl z
   ·rw [if_neg hk] at q; exact .inl q
  ·exact .inr ⟨Wi _ q,e⟩
theorem z4W:∀ (names:List (Str×NameKind)) (acc:List (Str×Addr)),(acc.lookup n).isSome=true∨((n,NameKind.free) ∈ names∧(cells.lookup n).isSome=true)→((z1A cells names acc).lookup n).isSome=true
 | [],acc,h=>h.elim id fun z=>absurd z.1 (by simp)
 | (y,k) :: r,acc,h=>by
  unfold z1A
  apply z4W r
  by_cases hk:(k == NameKind.free)=true
  ·rw [if_pos hk]
   cases e:cells.lookup y with
   | none =>
    rcases h with h | ⟨h1,h2⟩
    ·exact .inl h
    ·rcases Wp.mp h1 with z | z
     ·cases z
      rw [e] at h2; cases h2
     ·exact .inr ⟨z,h2⟩
   | some a =>
    by_cases hn:(n == y)=true
    ·refine .inl ?_
     show (List.lookup n ((y,a) :: acc)).isSome=true
     rw [WG,hn]
     rfl
    ·rcases h with h | ⟨h1,h2⟩
     ·refine .inl ?_
      show (List.lookup n ((y,a) :: acc)).isSome=true
      have hn':(n == y)=false:=by simpa using hn
      rw [WG,hn']
      exact h
     ·rcases Wp.mp h1 with z | z
      ·cases z
       exact absurd (by simp) hn
      ·exact .inr ⟨z,h2⟩
  ·rw [if_neg hk]
   rcases h with h | ⟨h1,h2⟩
   ·exact .inl h
   ·rcases Wp.mp h1 with z | z
    ·cases z
     exact absurd rfl hk
    ·exact .inr ⟨z,h2⟩
theorem zau:∀ (names:List (Str×NameKind)) (h:Heap) (acc:List (Str×Addr)),(n,c) ∈ Q2 h.objs.size names acc →
  (n,c) ∈ acc∨((n,NameKind.cell) ∈ names∧h.objs.size≤c∧(Jb h names).IsCell c none)
 | [],_,_,h=>.inl h
 | (y,k) :: r,h,acc,hm=>by
  unfold Q2 at hm
  unfold Jb
  by_cases hk:(k == NameKind.cell)=true
  ·rw [if_pos hk] at hm
   rw [if_pos hk]
   have hk':k=NameKind.cell:=by simpa using hk
   have sz:(h.push { cls:=.type "cell",data:=.cell none }).objs.size=h.objs.size + 1:=Heap.size_push ..
   rw [← sz] at hm
   rcases zau r _ _ hm with q | ⟨q1,q2,q3⟩
   ·rcases Wp.mp q with z | z
    ·cases z
     refine .inr ⟨by rw [hk']; exact Wm,We _,?_⟩
     exact Heap.IsCell.keeps ⟨_,Wy _ rfl,rfl⟩ (pushCells_keeps r _)
    ·exact .inl z
   ·exact .inr ⟨Wi _ q1,by rw [sz] at q2; omega,q3⟩
  ·rw [if_neg hk] at hm
   rw [if_neg hk]
   rcases zau r _ _ hm with q | ⟨q1,q2,q3⟩
   ·exact .inl q
   ·exact .inr ⟨Wi _ q1,q2,q3⟩
theorem zav:∀ (names:List (Str×NameKind)) (k:Nat) (acc:List (Str×Addr)),(∀ n n' c,(n,c) ∈ acc→(n',c) ∈ acc→n=n')→(∀ n c,(n,c) ∈ acc→c < k) →
  ∀ n n' c,(n,c) ∈ Q2 k names acc→(n',c) ∈ Q2 k names acc→n=n'
 | [],_,_,h,_=>h
 | (y,kd) :: r,k,acc,h,hb=>by
  unfold Q2
  by_cases hk:(kd == NameKind.cell)=true
  ·rw [if_pos hk]
   refine zav r (k + 1) _ (fun n n' c h1 h2=>?_) fun n c hm=>?_
   ·rcases Wp.mp h1 with e | h1 <;> rcases Wp.mp h2 with e' | h2
    ·cases e; cases e'; rfl
    ·cases e; exact absurd (hb _ _ h2) (WS _)
    ·cases e'; exact absurd (hb _ _ h1) (WS _)
    ·exact h n n' c h1 h2
   ·rcases Wp.mp hm with e | hm
    ·cases e; exact Nat.lt_succ_self _
    ·exact Nat.lt_succ_of_lt (hb _ _ hm)
  ·rw [if_neg hk]
   exact zav r k acc h hb
theorem z0Q {env:Env} {x:Str}:∀ {names:List (Str×NameKind)} {k:NameKind},
  (names.map fun (y:Str×NameKind)=>if (y.2 == NameKind.free && env.scope.kind == .function && env.kindOf y.1 == some .cell) then (y.1,NameKind.cell) else (y.1,y.2)).lookup x=some k →
  names.lookup x=some k∨(k=NameKind.cell∧names.lookup x=some .free)
 | [],_,h=>by simp at h
 | (n,kd) :: r,k,h=>by
  rw [Wu] at h
  have ih:=@z0Q env x r k
  cases hx:x == n with
  | true =>
   by_cases hc:(kd == NameKind.free && env.scope.kind == .function && env.kindOf n == some .cell)=true
   ·rw [if_pos hc,WG,hx] at h
    cases h
    simp only [Wn] at hc
    have:kd=NameKind.free:=by simpa using hc.1.1
    exact .inr ⟨rfl,by rw [WG,hx,this]⟩
   ·rw [if_neg hc,WG,hx] at h
    cases h
    exact .inl (by rw [WG,hx])
  | false =>
   have h':(r.map fun (y:Str×NameKind)=>if (y.2 == NameKind.free && env.scope.kind == .function && env.kindOf y.1 == some .cell) then (y.1,NameKind.cell) else (y.1,y.2)).lookup x=some k:=by
    by_cases hc:(kd == NameKind.free && env.scope.kind == .function && env.kindOf n == some .cell)=true
    ·rw [if_pos hc,WG,hx] at h; exact h
    ·rw [if_neg hc,WG,hx] at h; exact h
   rw [WG,hx]
   exact ih h'
def z1m (X:Cx) (scope:Scope) (s₀:W1) (H₀:Hp) (ex:List Addr):Cx :=
 { X with
  env:={ scope:=relabel scope X.env,locals:=s₀.heap.objs.size,globals:=X.env.globals,cells:=Q2 (s₀.heap.objs.size + 1) scope.names (z1A X.env.cells scope.names []),qual:=X.env.qual,func:=none,code:=X.env.code,frame:=X.env.frame,builtins:=X.env.builtins }
  s₀:=s₀
  H₀:=H₀
  outer:=X.stack
  ex:=ex
  fn:=fun x=>scope.names.lookup x == some .cell
  pn:=[]
  xe:=fun _ _=>False }
structure CScope (X:Cx) (scope:Scope) (cs:List Nat):Prop where
 kind:scope.kind = .function
 names:∀ x ∈ scope.names,x.2 = .local→scope.names.lookup x.1=some .local
 free:∀ x ∈ scope.names,x.2 = .free→X.env.kindOf x.1=some .cell∨X.env.kindOf x.1=some .free
 nd:(scope.names.map (·.1)).Nodup
 own:∀ (i:Nat) x,X.N[i]? = some x→scope.names.lookup x=some .local∨scope.names.lookup x=some .cell→i ∈ cs
def clr (cs:List Nat) (σ:St):St:=cs.foldl (fun σ i=>σ.set i none) σ
theorem z63 (cs:List Nat):∀ σ:St,(clr cs σ).length=σ.length:=by
 induction cs with
 | nil=>intro σ; rfl
 | cons i r ih =>
  intro σ
  show (clr r (σ.set i none)).length=_
  rw [ih]; simp
theorem z2I:∀ (cs:List Nat) (σ:St) (i:Nat) (v:V),(clr cs σ)[i]? = some (some v)→σ[i]? = some (some v)∧i ∉ cs:=by
 intro cs
 induction cs with
 | nil=>intro σ i v h; exact ⟨h,by simp⟩
 | cons j r ih =>
  intro σ i v h
  have h':(clr r (σ.set j none))[i]? = some (some v):=h
  obtain ⟨h1,h2⟩:=ih _ i v h'
  by_cases e:j=i
  ·subst e
   rw [WL] at h1
   simp at h1
  ·rw [W4 e] at h1
   exact ⟨h1,by simp only [Wp,not_or]; exact ⟨Ne.symm e,h2⟩⟩
theorem z4D:∀ {l:List (Str×α)},(l.map (·.1)).Nodup→(x,k) ∈ l→(x,k') ∈ l→k=k'
 | (y,j) :: r,nd,h1,h2=>by
  rw [Wu,List.nodup_cons] at nd
  rcases Wp.mp h1 with e | g1 <;> rcases Wp.mp h2 with e' | g2
  ·cases e; cases e'; rfl
  ·cases e; exact absurd (Q0 (f:=(·.1)) g2) nd.1
  ·cases e'; exact absurd (Q0 (f:=(·.1)) g1) nd.1
  ·exact z4D nd.2 g1 g2
section
variable {X:Cx} {pins:List (Addr×Obj)} {σ:St} {H:Hp} {s:W1} {scope:Scope} {cs:List Nat} {fp:List Addr}
theorem z8C (I:Inv X pins σ H s) (S:CScope X scope cs) (hf:∀ b ∈ fp,FpOk X pins H b) (hlt:∀ b ∈ fp,b < s.heap.objs.size) :
  Inv (z1m X scope s H fp) [] (clr cs σ) H { s with heap:=Jb (s.heap.push { cls:=.type "dict",data:=.dict #[] }) scope.names }:=by
 have sz:(s.heap.push { cls:=.type "dict",data:=.dict #[] }).objs.size=s.heap.objs.size + 1:=Heap.size_push ..
 have kp:∀ b o,s.heap.get? b=some o→(Jb (s.heap.push { cls:=.type "dict",data:=.dict #[] }) scope.names).get? b=some o:=fun b o e=>pushCells_keeps _ _ b o (W5 _ e)
 have clo:∀ n c,(n,c) ∈ z1A X.env.cells scope.names []→(n,NameKind.free) ∈ scope.names∧X.env.cells.lookup n=some c:=fun n c h=>(z5u _ _ h).elim (fun z=>absurd z (by simp)) id
 have cltm:∀ n c,(n,c) ∈ z1A X.env.cells scope.names []→c < s.heap.objs.size:=fun n c h=>by
  obtain ⟨v,q⟩:=I.cell n c (clo n c h).2
  exact q.lt
 have cel:∀ n c,(n,c) ∈ Q2 (s.heap.objs.size + 1) scope.names (z1A X.env.cells scope.names []) →
   ((n,NameKind.free) ∈ scope.names∧X.env.cells.lookup n=some c)∨((n,NameKind.cell) ∈ scope.names∧s.heap.objs.size + 1≤c∧(Jb (s.heap.push { cls:=.type "dict",data:=.dict #[] }) scope.names).IsCell c none):=fun n c h=>by
  rw [← sz] at h
  rcases zau _ _ _ h with q | q
  ·exact .inl (clo n c q)
  ·rw [sz] at q; exact .inr q
 have cinj:=zav scope.names (s.heap.objs.size + 1) (z1A X.env.cells scope.names []) (fun n n' c h1 h2=>I.ok.inj n n' c (clo n c h1).2 (clo n' c h2).2) (fun n c h=>Nat.lt_succ_of_lt (cltm n c h))
 have hasC:∀ x ∈ scope.names,x.2 = .free→∃ c,X.env.cells.lookup x.1=some c:=fun x hx hk=>I.ok.has x.1 (S.free x hx hk)
 have fpn:∀ b ∈ fp,b ∉ frs X.stack:=fun b hb z=>by
  obtain ⟨_,f1,f2,_⟩:=hf b hb
  rcases Wp.mp (I.stkSub b z) with e | e
  ·exact f1 e
  ·exact f2 e
 have kindC:∀ x,(z1m X scope s H fp).env.kindOf x=some .cell∨(z1m X scope s H fp).env.kindOf x=some .free→scope.names.lookup x=some .cell∨scope.names.lookup x=some .free:=fun x h=>by
  rcases h with h | h
  ·have h':(relabel scope X.env).names.lookup x=some .cell:=h
   rcases z0Q (env:=X.env) (names:=scope.names) h' with q | ⟨_,q⟩
   ·exact .inl q
   ·exact .inr q
  ·have h':(relabel scope X.env).names.lookup x=some .free:=h
   rcases z0Q (env:=X.env) (names:=scope.names) h' with q | ⟨q,_⟩
   ·exact .inr q
   ·cases q
 have hasIt:∀ x,scope.names.lookup x=some .cell∨scope.names.lookup x=some .free→∃ c,(Q2 (s.heap.objs.size + 1) scope.names (z1A X.env.cells scope.names [])).lookup x=some c:=fun x h=>by
  refine QD.mp (Qp scope.names _ _ ?_)
  rcases h with h | h
  ·exact .inl h
  ·refine .inr (z4W _ _ (.inr ⟨Wr h,?_⟩))
   obtain ⟨c,hc⟩:=hasC _ (Wr h) rfl
   exact Option.isSome_iff_exists.mpr ⟨c,hc⟩
 have ns0:(Jb (s.heap.push { cls:=.type "dict",data:=.dict #[] }) scope.names).Ns s.heap.objs.size fun _=>none:=(Heap.Ns.new s.heap (.type "dict")).keeps (pushCells_keeps _ _)
 refine ⟨⟨I.ok.mod,S.kind,I.ok.glob,I.ok.blt,We _,fun y z c h1 h2=>cinj y z c (Wr h1) (Wr h2),fun x hx=>hasIt x (kindC x hx),fun x c hfn h=>?_,I.ok.hd,I.ok.frames,.inl rfl,
  fun b hb=>⟨WK (hlt b hb),fun x c h e=>?_⟩,I.bs,WP I.ok.bsz I.sz,fun b o e hb=>?_,fpn,I.stack,I.stkFree⟩,
  rfl,I.bare,Un.kept kp,⟨fun _=>none,ns0,fun i x v h1 h2 h3=>?_⟩,fun x c h=>?_,I.hok.fresh (We _),fun x c h=>?_,fun p hp=>absurd (show p ∈ ([]:List (Addr×Obj)) from hp) (by simp),I.hok.kept kp,(z63 cs σ).trans I.len⟩
 ·rcases cel x c (Wr h) with q | q
  ·have hfn':scope.names.lookup x=some .cell:=by
    have:(scope.names.lookup x == some .cell)=true:=hfn
    exact eq_of_beq this
   have:=z4D S.nd q.1 (Wr hfn')
   cases this
  ·exact Nat.le_of_succ_le q.2.1
 ·subst e
  rcases cel x c (Wr h) with q | q
  ·exact (hf c hb).2.2.2.2.1 x c q.2 rfl
  ·exact absurd (Wt (hlt c hb) (Nat.le_of_succ_le q.2.1)) (WS _)
 ·obtain ⟨_,_,_,f3,_⟩:=hf b hb
  rcases f3 with z | z
  ·exact I.ok.noex b o e z
  ·exact absurd (Wt (Wl (I.ok.bs b o e).1) z) (WS _)
 ·obtain ⟨h2',hni⟩:=z2I cs σ i v h2
  have hni':¬ (scope.names.lookup x=some .local∨scope.names.lookup x=some .cell):=fun z=>hni (S.own i x h1 z)
  have hfree:scope.names.lookup x=some .free:=by
   rcases h3 with h3 | h3 | h3
   ·rcases z0Q (env:=X.env) (names:=scope.names) h3 with q | ⟨q,_⟩
    ·exact absurd (.inl q) hni'
    ·cases q
   ·rcases z0Q (env:=X.env) (names:=scope.names) h3 with q | ⟨_,q⟩
    ·exact absurd (.inr q) hni'
    ·exact q
   ·rcases z0Q (env:=X.env) (names:=scope.names) h3 with q | ⟨q,_⟩
    ·exact q
    ·cases q
  have hk:=S.free _ (Wr hfree) rfl
  obtain ⟨m,hn,hl⟩:=I.loc
  have hvis:Vis X.env.scope x:=by
   rcases hk with hk | hk
   ·exact .inr (.inl hk)
   ·exact .inr (.inr hk)
  obtain ⟨u,r,l⟩:=hl i x v h1 h2' hvis
  refine ⟨u,r,?_⟩
  rcases l with ⟨k,_⟩ | ⟨_,c,hc,hcell⟩
  ·have k':X.env.kindOf x=some .local:=k
   rcases hk with hk | hk
   ·rw [show X.env.kindOf x=some .cell from hk] at k'; cases k'
   ·rw [show X.env.kindOf x=some .free from hk] at k'; cases k'
  ·obtain ⟨c',hc'⟩:=hasIt x (.inr hfree)
   have e:c'=c:=by
    rcases cel x c' (Wr hc') with q | q
    ·have q2:=q.2
     rw [hc] at q2; exact (Ws q2).symm
    ·have:=z4D S.nd q.1 (Wr hfree)
     cases this
   subst e
   refine .inr ⟨?_,c',hc',hcell.keeps kp⟩
   rcases h3 with h3 | h3 | h3
   ·rcases z0Q (env:=X.env) (names:=scope.names) h3 with q | ⟨q,_⟩
    ·rw [hfree] at q; cases q
    ·cases q
   ·exact .inl h3
   ·exact .inr h3
 ·rcases cel x c (Wr h) with q | q
  ·obtain ⟨v,z⟩:=I.cell x c q.2
   exact ⟨v,z.keeps kp⟩
  ·exact ⟨none,q.2.2⟩
 ·rcases cel x c (Wr h) with q | q
  ·exact I.freeC x c q.2
  ·exact I.hok.fresh (Nat.le_of_succ_le q.2.1)
end
abbrev NoX:Value→W1→Prop:=fun _ _=>False
def zce (ifs:List Expr) (env:Env):Sem Bool:=forIn ifs true fun c r=>if r=true then do let ok ← isTrue c env (eval c env); pure (ForInStep.yield ok) else pure (ForInStep.yield r)
theorem z6T (I:Nat→W1→Prop)
  (turn:∀ n s,I n s→W9 (model prog w) A (pyNext it) (fun r s₁=>match r with
   | none=>R (.ok .next) s₁
   | some v=>W9 (model prog w) A (letOwnedTupleGo target it v) (fun _ s₁'=>W9 (model prog w) A (assign target env v) (fun _ s₂ =>
     W9 (model prog w) A (zce ifs env) (fun ok s₃ =>
      if ok=true then W9 (model prog w) A (eval elt env) (fun x s₄ =>
       W9 (model prog w) A (call (.builtin "list.append") [acc,x]) (fun _ s₅=>∃ m,m < n∧I m s₅) NoX s₄) NoX s₃
      else ∃ m,m < n∧I m s₃) NoX s₂) NoX s₁') NoX s₁) NoX s)
  (n:Nat) (h:I n s) :
  Qf (model prog w) A (.compLoop (.ListComp elt [⟨target,iter,ifs,0⟩] scope pos) 0 it acc env) R s:=by
 refine codeAny_loop rfl I (fun n s hI=>?_) n h
 show W9 _ A ((compTurn (.ListComp elt [⟨target,iter,ifs,0⟩] scope pos) 0 it acc env).onRaise (fun x=>do Jc x env; theTreesLotGoes x)) _ _ s
 refine wpAny_noted ?_
 rw [compTurn_list]
 refine W2 (QY (W2 (WH (turn n s hI) (fun r s₁ h₁=>?_) fun _ _ h'=>h'.elim)))
 cases r with
 | none=>exact Wc h₁
 | some v =>
  refine W2 (WH h₁ (fun _ s₁' h₁'=>?_) fun _ _ h'=>h'.elim)
  refine W2 (WH h₁' (fun _ s₂ h₂=>W2 (WH h₂ (fun ok s₃ h₃=>?_) fun _ _ h'=>h'.elim)) fun _ _ h'=>h'.elim)
  cases ok with
  | false=>exact Wc ⟨rfl,h₃⟩
  | true =>
   exact W2 (W2 (WH h₃ (fun x s₄ h₄=>W2 (WH h₄ (fun _ s₅ h₅=>Wc (Wc ⟨rfl,h₅⟩)) fun _ _ h'=>h'.elim)) fun _ _ h'=>h'.elim))
theorem z8p
  (h:Q { scope,locals:=s.heap.objs.size,globals,cells:=Q2 (s.heap.objs.size + 1) scope.names cl,qual,func:=none,code:=env.code,frame:=env.frame,builtins:=env.builtins }
   { s with heap:=Jb (s.heap.push { cls:=.type "dict",data:=.dict #[] }) scope.names }):W9 M A (newFunctionEnv scope globals cl [] qual none .none (some env)) Q E s:=by
 simp only [newFunctionEnv,Option.isSome_some,if_true]
 refine W2 (wpAny_alloc ?_)
 refine W2 (wpAny_layCells _ (fun name kind cells=>by cases hkc:kind == NameKind.cell <;> simp [hkc]) _ _ _ _ ?_)
 rw [show ({ s with heap:=s.heap.push { cls:=.type "dict",data:=.dict #[] } }:W1).heap.objs.size=s.heap.objs.size + 1 from Heap.size_push ..]
 exact W2 (Wc (Wc h))
def PTs (X:Cx) (ifs:List Expr) (t:TT):Prop :=
 ∀ (pins:List (Addr×Obj)) (s:W1) (σ:St) (H:Hp) (Q:Bool→Hp→Prop),Inv X pins σ H s→t σ H Q→W9 (model X.prog X.w) X.A (zce ifs X.env) (TP X pins σ Q) X.xe s
def tYes:TT:=fun _ H Q=>Q true H
theorem zcO:PTs X [] tYes:=fun pins s σ H Q I h=>wpAny_tests_nil ⟨H,I,h⟩
theorem zcN (h:PT X c t):PTs X [c] t:=fun pins s σ H Q I q=>wpAny_tests_one (h pins s σ H Q I q)
def Le (σ σ':St):Prop:=σ'.length=σ.length∧∀ (i:Nat) (v:V),σ[i]? = some (some v)→σ'[i]? = some (some v)
def zcf (cs:List Nat) (g:TG) (tt:TT) (te:TE) (σ:St) (Q:VK) (J:It) (H1:Hp):Prop :=
 ∀ l,H1 l=none→∃ W:Nat→Nat→Hp→Prop,(∃ m,W 0 m (upd H1 l (.lst [])))∧∀ i m H2,W i m H2 →
  (J.stop i H2∧Q (.ref l) H2) ∨
  (J.go i H2∧∀ x H3,J.yld i H2 x H3→g x (clr cs σ) H3 fun σ4 H4=>Le (clr cs σ) σ4∧tt σ4 H4 fun b H5 =>
   if b=true then te σ4 H5 fun v H6=>∃ ys m',H6 l=some (.lst ys)∧ys.length < W6∧m' < m∧W (i + 1) m' (upd H6 l (.lst (ys ++ [v]))) else ∃ m',m' < m∧W (i + 1) m' H5)
def zcn (cs:List Nat) (wi:TI) (g:TG) (tt:TT) (te:TE):TE:=fun σ H Q=>wi σ H fun J H1=>zcf cs g tt te σ Q J H1
section
variable {X:Cx} {pins:List (Addr×Obj)} {σ:St} {H:Hp} {s:W1} {scope:Scope} {cs:List Nat} {elt tg iter:Expr} {ifs:List Expr} {pos:Pos} {g:TG} {tt:TT} {te:TE}
theorem z5s {it:Addr} {fp:List Addr} {tn:Nat→Heap→Prop} {J:It} {Q:VK} {E:Value→W1→Prop} {RR:Value→Addr→Result→W1→Prop} (hc:X.calm=true) (I:Inv X pins σ H s) (S:CScope X scope cs)
  (T:Turn X.prog X.w X.K tg J fp it tn) (st:tn 0 s.heap) (hf:∀ b ∈ fp,FpOk X pins H b)
  (hg:∀ s₀ H₀ ex,PG (z1m X scope s₀ H₀ ex) tg g) (ht:∀ s₀ H₀ ex,PTs (z1m X scope s₀ H₀ ex) ifs tt) (he:∀ s₀ H₀ ex,PE (z1m X scope s₀ H₀ ex) elt te) (q:zcf cs g tt te σ Q J H)
  (hRR:∀ l C s' H',Inv X pins σ H' s'→FpOk X pins H' C→(∃ m,s'.heap.Ns C m)→Q (.ref l) H'→RR (.ref l) C (.ok .next) s') :
  W9 (model X.prog X.w) X.A (newList []) (fun acc s₃=>W9 (model X.prog X.w) X.A (newFunctionEnv scope X.env.globals (z1A X.env.cells scope.names []) [] X.env.qual none .none (some X.env)) (fun cenv s₄ =>
   Qf (model X.prog X.w) X.A (.compStart (.ListComp elt [⟨tg,iter,ifs,0⟩] scope pos) 0 (.ref it) acc { cenv with scope:=relabel scope X.env }) (RR acc cenv.locals) s₄) E s₃) E s:=by
 refine Qn ?_
 have hfr:H s.heap.objs.size=none:=I.hok.fresh (We _)
 obtain ⟨W,⟨m0,w0⟩,turn⟩:=q s.heap.objs.size hfr
 generalize hl:s.heap.objs.size=l at *
 have I3:Inv X pins σ (upd H l (.lst [])) { s with heap:=s.heap.push { cls:=.type "list",dict:=none,data:=.seq ([]:List Value).toArray } } :=
  I.laid (t':=s.toks) (fun b u e=>W5 _ e) (Nat.le_of_eq hl) ⟨QP _,[],0,.nil,by rw [← hl]; exact Wy _ rfl⟩
 have kp3:∀ b o,s.heap.get? b=some o→(s.heap.push { cls:=.type "list",dict:=none,data:=.seq ([]:List Value).toArray }).get? b=some o:=fun b o e=>W5 _ e
 have hfl:∀ b ∈ fp,b≠l:=fun b hb e=>by
  obtain ⟨o,ho,_⟩:=T.obj 0 _ st b hb
  exact absurd (Wl ho) (by rw [e,hl]; exact WS _)
 have hf3:∀ b ∈ fp,FpOk X pins (upd H l (.lst [])) b:=fun b hb=>⟨by rw [z0f (hfl b hb)]; exact (hf b hb).1,(hf b hb).2⟩
 have st3:tn 0 (s.heap.push { cls:=.type "list",dict:=none,data:=.seq ([]:List Value).toArray }):=T.keep 0 _ _ st fun b _ o e=>kp3 b o e
 generalize hs3:({ s with heap:=s.heap.push { cls:=.type "list",dict:=none,data:=.seq ([]:List Value).toArray } }:W1)=s3 at I3
 have st3':tn 0 s3.heap:=by rw [← hs3]; exact st3
 have hlt3:∀ b ∈ fp,b < s3.heap.objs.size:=fun b hb=>by
  obtain ⟨o,ho,_⟩:=T.obj 0 _ st3' b hb
  exact Wl ho
 refine z8p ?_
 have I4:=z8C I3 S hf3 hlt3
 generalize hX:z1m X scope s3 (upd H l (.lst [])) fp=X' at I4
 generalize hs4:({ s3 with heap:=Jb (s3.heap.push { cls:=.type "dict",data:=.dict #[] }) scope.names }:W1)=s4 at I4 ⊢
 have hg':=hg s3 (upd H l (.lst [])) fp
 have ht':=ht s3 (upd H l (.lst [])) fp
 have he':=he s3 (upd H l (.lst [])) fp
 rw [hX] at hg' ht' he'
 have st4:tn 0 s4.heap:=T.keep 0 _ _ st3' fun b _ o e=>by rw [← hs4]; exact pushCells_keeps _ _ b o (W5 _ e)
 have hP:X'.prog=X.prog:=by rw [← hX]; rfl
 have hw:X'.w=X.w:=by rw [← hX]; rfl
 have hA:X'.A=X.A:=by rw [← hX]; rfl
 have hK:X'.K=X.K:=by rw [← hX]; rfl
 have hc':X'.calm=true:=by rw [← hX]; exact hc
 have hxe:X'.xe=NoX:=by rw [← hX]; rfl
 have hloc:X'.env.locals=s3.heap.objs.size:=by rw [← hX]; rfl
 have henv:({ scope:=relabel scope X.env,locals:=s3.heap.objs.size,globals:=X.env.globals,cells:=Q2 (s3.heap.objs.size + 1) scope.names (z1A X.env.cells scope.names []),qual:=X.env.qual,func:=none,code:=X.env.code,frame:=X.env.frame,builtins:=X.env.builtins }:Env)=X'.env:=by rw [← hX]; rfl
 have fpx:∀ {H':Hp},(∀ b ∈ fp,H' b=none)→∀ b ∈ fp,FpOk X' [] H' b:=fun {H'} hn b hb=>by
  have ex:X'.ex=fp:=by rw [← hX]; rfl
  have pn:X'.pn=[]:=by rw [← hX]; rfl
  refine ⟨hn b hb,(I4.ok.exf b (by rw [ex]; exact hb)).1,I4.ok.exfs b (by rw [ex]; exact hb),.inl (by rw [ex]; exact hb),(I4.ok.exf b (by rw [ex]; exact hb)).2,fun p hp=>?_⟩
  rw [pn] at hp
  simp at hp
 show Qf (model X.prog X.w) X.A (.compStart (.ListComp elt [⟨tg,iter,ifs,0⟩] scope pos) 0 (.ref it) (.ref l) ({ scope:=relabel scope X.env,locals:=s3.heap.objs.size,globals:=X.env.globals,cells:=Q2 (s3.heap.objs.size + 1) scope.names (z1A X.env.cells scope.names []),qual:=X.env.qual,func:=none,code:=X.env.code,frame:=X.env.frame,builtins:=X.env.builtins }:Env)) (RR (.ref l) s3.heap.objs.size) s4
 rw [henv]
 have loop:Qf (model X.prog X.w) X.A (.compLoop (.ListComp elt [⟨tg,iter,ifs,0⟩] scope pos) 0 (.ref it) (.ref l) X'.env) (RR (.ref l) s3.heap.objs.size) s4:=by
  refine z6T (fun n s'=>∃ i H',Inv X' [] (clr cs σ) H' s'∧tn i s'.heap∧(∀ b ∈ fp,H' b=none)∧W i n H') ?_ m0 ⟨0,_,I4,st4,fun b hb=>(hf3 b hb).1,w0⟩
  rintro n s5 ⟨i,H5,I5,st5,fr5,w5⟩
  rcases turn i n H5 w5 with ⟨stop,qn⟩ | ⟨go,step⟩
  ·have:=T.done X' hP hw hK hc' i [] s5 (clr cs σ) H5 NoX I5 (fpx fr5) st5 stop
   rw [hA] at this
   refine thn this fun r s6 ⟨hr,I6⟩=>?_
   subst hr
   have b6:=I6.base
   have e1:X'.fs=frs X.stack:=by rw [← hX]; rfl
   have e2:X'.ex=fp:=by rw [← hX]; rfl
   have e3:X'.H₀=upd H l (.lst []):=by rw [← hX]; rfl
   have e4:X'.s₀=s3:=by rw [← hX]; rfl
   rw [e1,e2,e3,e4] at b6
   have o6:s6.os=s3.os:=by rw [← e4]; exact I6.os
   have hok6:HOk X.prog X.w H5 s6.heap:=by rw [← hP,← hw]; exact I6.hok
   have J6:Inv X pins σ H5 s6:=I3.call' o6 b6 hok6 I6.bare fun b hb=>by
    obtain ⟨_,f1,_,f3,f4,f5⟩:=hf3 b hb
    exact ⟨f3,f1,f4,f5⟩
   obtain ⟨m6,n6,_⟩:=I6.loc
   rw [hloc] at n6
   refine hRR l s3.heap.objs.size s6 H5 J6 (I3.fpOk (We _) ?_) ⟨m6,n6⟩ qn
   rw [← hloc]
   exact I6.free
  ·have:=T.item X' hP hw hK hc' i [] s5 (clr cs σ) H5 NoX I5 (fpx fr5) st5 go
   rw [hA] at this
   refine thn this fun r s6 ⟨u,hr,h6⟩=>?_
   subst hr
   refine thn h6 fun _ s7 ⟨x,H7,I7,r7,y7,st7,fr7⟩=>?_
   have I7':=I7.pinned (fpx fr7) (T.obj _ _ st7)
   have a8:=hg' _ s7 (clr cs σ) H7 x u _ I7' r7 (step x H7 y7)
   rw [hP,hw,hA,hxe] at a8
   refine thn a8 fun _ s8 ⟨σ8,H8,I8,le8,q8⟩=>?_
   have a9:=ht' _ s8 σ8 H8 _ I8 q8
   rw [hP,hw,hA,hxe] at a9
   refine thn a9 fun ok s9 ⟨H9,I9,q9⟩=>?_
   have back:∀ {H':Hp} {s':W1},Inv X' ([] ++ z6m fp s7.heap) σ8 H' s'→Inv X' [] (clr cs σ) H' s'∧tn (i + 1) s'.heap∧∀ b ∈ fp,H' b=none:=fun {H' s'} J=>by
    refine ⟨J.unpinned.weak (le8.1.symm) le8.2,T.keep _ _ _ st7 fun b hb o e=>(J.pin (b,o) (WI _ (WI _ (z2O hb e)))).1,fun b hb=>?_⟩
    obtain ⟨o,e,d⟩:=T.obj _ _ st7 b hb
    exact (J.pin (b,o) (WI _ (WI _ (z2O hb e)))).2.1
   cases ok with
   | false =>
    rw [if_neg WU] at q9 ⊢
    obtain ⟨m',hm,w9⟩:=q9
    obtain ⟨b1,b2,b3⟩:=back I9
    exact ⟨m',hm,i + 1,H9,b1,b2,b3,w9⟩
   | true =>
    rw [if_pos rfl] at q9 ⊢
    have a10:=he' _ s9 σ8 H9 _ I9 q9
    rw [hP,hw,hA,hxe] at a10
    refine thn a10 fun x10 s10 ⟨v,H10,I10,r10,ys,m',hy,hz,hm,w10⟩=>?_
    have a11:=z6x (X:=X') _ s10 σ8 H10 (.ref l) [v] (.ref l) [x10] (fun _ H'=>W (i + 1) m' H') I10 rfl (.cons r10 .nil) ⟨l,ys,v,rfl,rfl,hy,hz,w10⟩
    rw [hP,hw,hA,hxe] at a11
    refine thn a11 fun _ s11 ⟨_,H11,I11,_,w11⟩=>?_
    obtain ⟨b1,b2,b3⟩:=back I11
    exact ⟨m',hm,i + 1,H11,b1,b2,b3,w11⟩
 exact codeAny_compStart_list loop (T.self X.A 0 s4 _ _ st4 loop)
theorem zcU (hc:X.calm=true) (S:CScope X scope cs) (hi:PI X tg iter wi) (hg:∀ s₀ H₀ ex,PG (z1m X scope s₀ H₀ ex) tg g) (ht:∀ s₀ H₀ ex,PTs (z1m X scope s₀ H₀ ex) ifs tt) (he:∀ s₀ H₀ ex,PE (z1m X scope s₀ H₀ ex) elt te)
  (hs:∀ x,Qz iter X.env x=pure x:=by intro _; rfl):PE X (.ListComp elt [⟨tg,iter,ifs,0⟩] scope pos) (zcn cs wi g tt te):=by
 intro pins s σ H Q I h
 have hasC:∀ x ∈ scope.names,x.2 = .free→∃ c,X.env.cells.lookup x.1=some c:=fun x hx hk=>I.ok.has x.1 (S.free x hx hk)
 rw [eval_ListComp]
 refine wpAny_comprehension_free (use:=none) rfl hs (z5v hasC) S.kind S.names (thn (hi pins s σ H _ I h) fun xv s1 h1=>thn h1 fun itv s2 h2=>?_)
 obtain ⟨it,fp,tn,J,H2,e,I2,T,st2,f2,q2⟩:=h2
 subst e
 refine z5s (RR:=fun acc C=>compPost (model X.prog X.w) X.A X.xe none (EP X pins σ Q) acc C) hc I2 S T st2 f2 hg ht he q2 ?_
 intro l C s' H' I' fC ⟨m,n⟩ q
 exact ⟨m,n,fun h' hs'=>⟨.ref l,H',I'.turned (t':=s'.toks) (fun b o hb e=>(hs'.2 b hb).trans e) fC.1 fC.2.1 fC.2.2.2.1 fC.2.2.2.2.1 fC.2.2.2.2.2,rfl,q⟩⟩
theorem z8k (hc:X.calm=true) (S:CScope X scope cs) (hN:X.N.Nodup) (hi':X.N[i]? = some y) (hy:X.env.scope.names.lookup y=some .local)
  (hi:PI X tg iter wi) (hg:∀ s₀ H₀ ex,PG (z1m X scope s₀ H₀ ex) tg g) (ht:∀ s₀ H₀ ex,PTs (z1m X scope s₀ H₀ ex) ifs tt) (he:∀ s₀ H₀ ex,PE (z1m X scope s₀ H₀ ex) elt te)
  (hsw:QB (.ListComp elt [⟨tg,iter,ifs,0⟩] scope pos) (some (.Name y py)) spos.line X.env=pure true:=by rfl)
  (hs:∀ x,Qz iter X.env x=pure x:=by intro _; rfl):PS X (.Assign [.Name y py] (.ListComp elt [⟨tg,iter,ifs,0⟩] scope pos) spos) (tAsg (zcn cs wi g tt te) (zbt i)):=by
 intro pins s σ H D I h
 have hasC:∀ x ∈ scope.names,x.2 = .free→∃ c,X.env.cells.lookup x.1=some c:=fun x hx hk=>I.ok.has x.1 (S.free x hx hk)
 rw [exec_Assign_Name_used _ _ _ _ hsw]
 refine W2 (QY (W2 ?_))
 show W9 _ X.A (do let _ ← comprehension (.ListComp elt [⟨tg,iter,ifs,0⟩] scope pos) scope X.env _ (newList []) false (eval iter X.env) (some (assign (.Name y py) X.env))) _ _ s
 refine W2 (WH (wpAny_comprehension_free (use:=some (assign (.Name y py) X.env)) (Q:=fun _ s'=>SP X pins D .next s') rfl hs (z5v hasC) S.kind S.names
  (thn (hi pins s σ H _ I h) fun xv s1 h1=>thn h1 fun itv s2 h2=>?_)) (fun _ s' hq=>Wc (Wc hq)) fun _ _ e=>e)
 obtain ⟨it,fp,tn,J,H2,e,I2,T,st2,f2,q2⟩:=h2
 subst e
 refine z5s (RR:=fun acc C=>compPost (model X.prog X.w) X.A X.xe (some (assign (.Name y py) X.env)) (fun _ s'=>SP X pins D .next s') acc C) hc I2 S T st2 f2 hg ht he q2 ?_
 intro l C s' H' I' fC ⟨m,n⟩ q
 show W9 _ X.A (assign (.Name y py) X.env (.ref l)) _ _ _
 refine wpAny_assign_Name (z3n I' hN hi' (.inl hy) (v:=.ref l) rfl (fun s'' I'' ⟨a,hsb,ha⟩=>?_) (.inr hy))
 have hne:C≠a:=by
  rcases ha with rfl | ha
  ·exact fC.2.1
  ·exact fun e=>fC.2.2.2.2.1 y a ha e.symm
 refine ⟨m,n.sameBut hsb hne,fun h' hs'=>⟨_,H',I''.turned (t':=s''.toks) (fun b o hb e=>(hs'.2 b hb).trans e) fC.1 fC.2.1 fC.2.2.2.1 fC.2.2.2.2.1 fC.2.2.2.2.2,q⟩⟩
end
end L2
set_option maxHeartbeats 4000000
namespace DV
open PySem PySem.Spec PyProof.Rows L2
abbrev Tx:=List Nat
def toS (x:Tx):Str:=⟨x.toArray⟩
theorem z5z (x:Tx):(toS x).cps.toList=x:=by simp [toS]
theorem z1Y (x:Tx):(toS x).length=x.length:=by simp [toS,Str.length]
theorem z5y (h:toS x=toS y):x=y:=by
 have:=congrArg (fun z:Str=>z.cps.toList) h
 simpa [toS] using this
theorem zbP (z:Str):z=toS z.cps.toList:=by simp [toS]
abbrev DKey:=Sum Int Tx
def kOf:DKey→Key
 | .inl i=>.inl i
 | .inr x=>.inr (toS x)
inductive D where
 | non | bl (b:Bool) | int (i:Int) | str (x:Tx) | tup (xs:List D) | lst (xs:List D) | dct (kvs:List (DKey×D)) | exc (n:Nat) (fl:D) | xd (fs:List (Tx×D)) | fn (a:Nat)
def excAt (C:Addr) (v:V) (a:Addr):Heap→Prop:=fun h=>∃ o,h.get? a=some o∧o.cls = .ref C∧(∀ x,v = .ref x→o.dict=some x)∧∃ vs,o.data = .fields vs
def xdAt (fs:List (Str×V)) (x:Addr):Heap→Prop:=fun h=>∃ mA,h.Ns1 x mA∧∀ f,RelO (fs.lookup f) (mA f)
inductive S where
 | pure (d:D)
 | own (d:D)
def S.d:S→D
 | .pure d=>d
 | .own d=>d
abbrev Dl:=List (Option S)
abbrev St:=L2.St
inductive Rep (H:Hp) (O:Addr→Prop):V→D→Prop
 | non:Rep H O .non .non
 | bl (b:Bool):Rep H O (.bl b) (.bl b)
 | int (i:Int):Rep H O (.int i) (.int i)
 | str (x:Tx):Rep H O (.str (toS x)) (.str x)
 | tup {a:Addr} {vs:List V} {ds:List D}:¬ O a→H a=some (.tup vs)→vs.length=ds.length→(∀ (i:Nat) v d,vs[i]? = some v→ds[i]? = some d→Rep H O v d)→Rep H O (.ref a) (.tup ds)
 | lst {a:Addr} {vs:List V} {ds:List D}:¬ O a→Rd H a (.lst vs)→vs.length=ds.length→(∀ (i:Nat) v d,vs[i]? = some v→ds[i]? = some d→Rep H O v d)→Rep H O (.ref a) (.lst ds)
 | dct {a:Addr} {ws:List (Key×V)} {ds:List (DKey×D)}:¬ O a→H a=some (.dK ws)→ws.map (·.1)=ds.map (fun p=>kOf p.1)→(∀ (i:Nat) p q,ws[i]? = some p→ds[i]? = some q→Rep H O p.2 q.2)→Rep H O (.ref a) (.dct ds)
 | exc {a:Addr} {n:Nat} {v:V} {fl:D}:¬ O a→H a=some (.ext (excAt n v a))→Rep H O v fl→Rep H O (.ref a) (.exc n fl)
 | xd {x:Addr} {fs:List (Str×V)} {ds:List (Tx×D)}:¬ O x→H x=some (.ext (xdAt fs x))→fs.map (·.1)=ds.map (fun p=>toS p.1)→(∀ (i:Nat) p q,fs[i]? = some p→ds[i]? = some q→Rep H O p.2 q.2)→Rep H O (.ref x) (.xd ds)
 | fn (a:Addr):Rep H O (.ref a) (.fn a)
abbrev Reps (H:Hp) (O:Addr→Prop) (vs:List V) (ds:List D):Prop:=vs.length=ds.length∧∀ (i:Nat) v d,vs[i]? = some v→ds[i]? = some d→Rep H O v d
def OwnAt (H:Hp) (O:Addr→Prop) (a:Addr):D→Prop
 | .lst ds=>∃ vs,H a=some (.lst vs)∧Reps H O vs ds
 | .dct ds=>∃ ws:List (Key×V),H a=some (.dK ws)∧ws.map (·.1)=ds.map (fun p=>kOf p.1)∧∀ (i:Nat) p q,ws[i]? = some p→ds[i]? = some q→Rep H O p.2 q.2
 | _=>False
section
variable {H H':Hp} {O O':Addr→Prop} {v:V} {d:D} {vs:List V} {ds:List D} {a:Addr}
theorem Rd.keep (h:Rd H a u) (k:∀ o,H a=some o→H' a=some o):Rd H' a u:=by
 rcases h with h | ⟨o,h⟩
 ·exact .inl (k _ h)
 ·exact .inr ⟨o,k _ h⟩
theorem Rd.some (h:Rd H a u):∃ o,H a=some o:=by
 rcases h with h | ⟨o,h⟩
 ·exact ⟨_,h⟩
 ·exact ⟨_,h⟩
theorem Rep.keep (h:Rep H O v d) (k:∀ a o,H a=some o→¬ O a→H' a=some o):Rep H' O v d:=by
 induction h with
 | non=>exact .non
 | bl b=>exact .bl b
 | int i=>exact .int i
 | str x=>exact .str x
 | tup h1 h2 h3 _ ih=>exact .tup h1 (k _ _ h2 h1) h3 ih
 | lst h1 h2 h3 _ ih=>exact .lst h1 (Rd.keep h2 fun o e=>k _ o e h1) h3 ih
 | dct h1 h2 h3 _ ih=>exact .dct h1 (k _ _ h2 h1) h3 ih
 | exc h1 h2 _ ih=>exact .exc h1 (k _ _ h2 h1) ih
 | xd h1 h2 h3 _ ih=>exact .xd h1 (k _ _ h2 h1) h3 ih
 | fn a=>exact .fn a
theorem Rep.anti (h:Rep H O v d) (k:∀ a,O' a→O a∨H a=none):Rep H O' v d:=by
 have no:∀ {a:Addr} {u:HO},¬ O a→Rd H a u→¬ O' a:=fun {a u} h1 h2 z=>by
  rcases k a z with q | q
  ·exact h1 q
  ·obtain ⟨o,e⟩:=Rd.some h2
   rw [q] at e; cases e
 induction h with
 | non=>exact .non
 | bl b=>exact .bl b
 | int i=>exact .int i
 | str x=>exact .str x
 | tup h1 h2 h3 _ ih=>exact .tup (no h1 (.inl h2)) h2 h3 ih
 | lst h1 h2 h3 _ ih=>exact .lst (no h1 h2) h2 h3 ih
 | dct h1 h2 h3 _ ih=>exact .dct (no h1 (.inl h2)) h2 h3 ih
 | exc h1 h2 _ ih=>exact .exc (no h1 (.inl h2)) h2 ih
 | xd h1 h2 h3 _ ih=>exact .xd (no h1 (.inl h2)) h2 h3 ih
 | fn a=>exact .fn a
theorem Reps.keep (h:Reps H O vs ds) (k:∀ a o,H a=some o→¬ O a→H' a=some o):Reps H' O vs ds:=⟨h.1,fun i v d e1 e2=>(h.2 i v d e1 e2).keep k⟩
theorem Reps.anti (h:Reps H O vs ds) (k:∀ a,O' a→O a∨H a=none):Reps H O' vs ds:=⟨h.1,fun i v d e1 e2=>(h.2 i v d e1 e2).anti k⟩
theorem Reps.nil:Reps H O [] []:=⟨rfl,fun i v d e _=>by simp at e⟩
theorem Reps.cons (h:Rep H O v d) (r:Reps H O vs ds):Reps H O (v :: vs) (d :: ds):=by
 refine ⟨by simp [r.1],fun i v' d' e1 e2=>?_⟩
 cases i with
 | zero=>simp at e1 e2; subst e1; subst e2; exact h
 | succ i=>exact r.2 i v' d' (by simpa using e1) (by simpa using e2)
theorem Reps.head (r:Reps H O (v :: vs) (d :: ds)):Rep H O v d:=r.2 0 v d rfl rfl
theorem Reps.tail (r:Reps H O (v :: vs) (d :: ds)):Reps H O vs ds:=⟨by simpa using r.1,fun i v' d' e1 e2=>r.2 (i + 1) v' d' (by simpa using e1) (by simpa using e2)⟩
theorem Reps.append (h:Reps H O vs ds) (h':Reps H O vs' ds'):Reps H O (vs ++ vs') (ds ++ ds'):=by
 induction vs generalizing ds with
 | nil =>
  cases ds with
  | nil=>exact h'
  | cons d r=>have:=h.1; simp at this
 | cons v r ih =>
  cases ds with
  | nil=>have:=h.1; simp at this
  | cons d q=>exact .cons h.head (ih h.tail)
theorem Reps.get {i:Nat} (h:Reps H O vs ds) (e:ds[i]? = some d):∃ v,vs[i]? = some v∧Rep H O v d:=by
 have hi:i < ds.length:=(Wb.mp e).1
 have hv:i < vs.length:=by rw [h.1]; exact hi
 exact ⟨vs[i],by simp [hv],h.2 i _ d (by simp [hv]) e⟩
theorem Reps.take (n:Nat) (h:Reps H O vs ds):Reps H O (vs.take n) (ds.take n):=by
 refine ⟨by simp [h.1],fun i v d e1 e2=>?_⟩
 by_cases hi:i < n
 ·rw [List.getElem?_take_of_lt hi] at e1 e2
  exact h.2 i v d e1 e2
 ·rw [List.getElem?_take_eq_none (by omega)] at e1; cases e1
theorem Reps.drop (n:Nat) (h:Reps H O vs ds):Reps H O (vs.drop n) (ds.drop n):=by
 refine ⟨by simp [h.1],fun i v d e1 e2=>?_⟩
 rw [List.getElem?_drop] at e1 e2
 exact h.2 (n + i) v d e1 e2
theorem Reps.set (h:Reps H O vs ds) (r:Rep H O v d) (j:Nat):Reps H O (vs.set j v) (ds.set j d):=by
 refine ⟨by simp [h.1],fun i v' d' e1 e2=>?_⟩
 by_cases hi:j=i
 ·subst hi
  rw [WL] at e1 e2
  simp at e1 e2
  obtain ⟨_,rfl⟩:=e1
  obtain ⟨_,rfl⟩:=e2
  exact r
 ·rw [W4 hi] at e1 e2
  exact h.2 i v' d' e1 e2
theorem OwnAt.keep (h:OwnAt H O a d) (hk:∀ b o,H b=some o→¬ O b→H' b=some o) (ha:∀ o,H a=some o→H' a=some o):OwnAt H' O a d:=by
 cases d <;> first
  | exact h.elim
  | (obtain ⟨vs,e,r⟩:=h; exact ⟨vs,ha _ e,Reps.keep r hk⟩)
  | (obtain ⟨ws,e,r,q⟩:=h; exact ⟨ws,ha _ e,r,fun i p p' e1 e2=>(q i p p' e1 e2).keep hk⟩)
theorem OwnAt.anti (h:OwnAt H O a d) (k:∀ a,O' a→O a∨H a=none):OwnAt H O' a d:=by
 cases d <;> first
  | exact h.elim
  | (obtain ⟨vs,e,r⟩:=h; exact ⟨vs,e,Reps.anti r k⟩)
  | (obtain ⟨ws,e,r,q⟩:=h; exact ⟨ws,e,r,fun i p p' e1 e2=>(q i p p' e1 e2).anti k⟩)
theorem OwnAt.some (h:OwnAt H O a d):∃ o,H a=some o:=by
 cases d <;> first
  | exact h.elim
  | (obtain ⟨vs,e,r⟩:=h; exact ⟨_,e⟩)
theorem OwnAt.rep (h:OwnAt H O a d) (ho:¬ O a):Rep H O (.ref a) d:=by
 cases d with
 | lst ds=>obtain ⟨vs,e,r⟩:=h; exact .lst ho (.inl e) r.1 r.2
 | dct ds=>obtain ⟨ws,e,r,q⟩:=h; exact .dct ho e r q
 | _=>exact h.elim
end
structure Xc where
 cls:Tx
 flds:D
structure Fc where
 H₀:Hp
 B:Addr→Prop
 pin:List (Nat×Addr)
 xc:Xc→Dl→Prop:=fun _ _=>False
def Fc.plus (c:Fc) (p:Addr):Fc:={ c with B:=fun a=>c.B a∨a=p }
def Fc.I (c:Fc) (a:Addr):Prop:=∃ i,(i,a) ∈ c.pin
def Own (σ:St) (δ:Dl) (a:Addr):Prop:=∃ (i:Nat) (d:D),δ[i]? = some (some (.own d))∧σ[i]? = some (some (.ref a))
def Av (c:Fc) (σ:St) (δ:Dl) (a:Addr):Prop:=c.B a∨Own σ δ a
structure Ok (c:Fc) (σ:St) (δ:Dl) (H:Hp):Prop where
 keep:∀ a o,c.H₀ a=some o→¬ c.I a→H a=some o
 bd:∀ a,c.B a→∃ o,H a=some o
 ith:∀ a,c.I a→∃ o,H a=some o
 len:δ.length=σ.length
 slot:∀ (i:Nat) d,δ[i]? = some (some (.pure d))→∃ v,σ[i]? = some (some v)∧Rep H (Av c σ δ) v d
 own:∀ (i:Nat) d,δ[i]? = some (some (.own d))→∃ a,σ[i]? = some (some (.ref a))∧OwnAt H (Av c σ δ) a d∧(c.I a∨c.H₀ a=none)∧¬ c.B a
 inj:∀ (i j:Nat) a d d',δ[i]? = some (some (.own d))→δ[j]? = some (some (.own d'))→σ[i]? = some (some (.ref a))→σ[j]? = some (some (.ref a))→i=j
 pinned:∀ p ∈ c.pin,σ[p.1]? = some (some (.ref p.2))
structure Aft (c:Fc) (σ:St) (δ:Dl) (H:Hp) (σ':St) (δ':Dl) (H':Hp):Prop where
 ok:Ok c σ' δ' H'
 keep:∀ a o,H a=some o→¬ Own σ δ a→H' a=some o
 own:∀ a,Own σ' δ' a→Own σ δ a∨H a=none
 there:∀ a o,H a=some o→∃ o',H' a=some o'
section
variable {c:Fc} {σ σ' σ'':St} {δ δ' δ'':Dl} {H H' H'':Hp} {v:V} {d:D} {a p:Addr}
theorem Ok.bthere (k:Ok c σ δ H) (h:c.B a):∃ o,H a=some o:=k.bd a h
theorem Ok.othere (k:Ok c σ δ H) (h:Own σ δ a):∃ o,H a=some o:=by
 obtain ⟨i,d,e1,e2⟩:=h
 obtain ⟨b,e3,q,_⟩:=k.own i d e1
 rw [e2] at e3; cases e3
 exact q.some
theorem Ok.avthere (k:Ok c σ δ H) (h:Av c σ δ a):∃ o,H a=some o:=h.elim k.bthere k.othere
theorem Ok.nav (k:Ok c σ δ H) (h:H a=none):¬ Av c σ δ a:=fun z=>by
 obtain ⟨o,e⟩:=k.avthere z
 rw [h] at e; cases e
theorem Aft.refl (k:Ok c σ δ H):Aft c σ δ H σ δ H:=⟨k,fun _ _ e _=>e,fun _ h=>.inl h,fun _ o e=>⟨o,e⟩⟩
theorem Aft.trans (x:Aft c σ δ H σ' δ' H') (y:Aft c σ' δ' H' σ'' δ'' H''):Aft c σ δ H σ'' δ'' H'':=by
 refine ⟨y.ok,fun a o e n=>?_,fun a h=>?_,fun a o e=>?_⟩
 ·refine y.keep a o (x.keep a o e n) fun z=>?_
  rcases x.own a z with q | q
  ·exact n q
  ·rw [q] at e; cases e
 ·rcases y.own a h with q | q
  ·exact x.own a q
  ·right
   cases e:H a with
   | none=>rfl
   | some o =>
    obtain ⟨o',e'⟩:=x.there a o e
    rw [q] at e'; cases e'
 ·obtain ⟨o',e'⟩:=x.there a o e
  exact y.there a o' e'
theorem Aft.av (x:Aft c σ δ H σ' δ' H'):∀ a,Av c σ' δ' a→Av c σ δ a∨H a=none:=fun a h=>by
 rcases h with h | h
 ·exact .inl (.inl h)
 ·rcases x.own a h with q | q
  ·exact .inl (.inr q)
  ·exact .inr q
theorem Rep.aft (h:Rep H (Av c σ δ) v d) (x:Aft c σ δ H σ' δ' H'):Rep H' (Av c σ' δ') v d:=by
 have h1:Rep H (fun a=>Av c σ δ a∨Av c σ' δ' a) v d:=Rep.anti h fun a z=>z.elim .inl (x.av a)
 exact (h1.keep fun a o e n=>x.keep a o e fun z=>n (.inl (.inr z))).anti fun a z=>.inl (.inr z)
theorem Reps.aft (h:Reps H (Av c σ δ) vs ds) (x:Aft c σ δ H σ' δ' H'):Reps H' (Av c σ' δ') vs ds:=⟨h.1,fun i v d e1 e2=>Rep.aft (h.2 i v d e1 e2) x⟩
def RepS (c:Fc) (σ:St) (δ:Dl) (Hs H:Hp) (v:V):S→Prop
 | .pure d=>Rep H (Av c σ δ) v d
 | .own d=>∃ a,v = .ref a∧OwnAt H (Av (c.plus a) σ δ) a d∧¬ c.B a∧c.H₀ a=none∧Ok (c.plus a) σ δ H∧Hs a=none
theorem z3z (k:Ok (c.plus a) σ δ H):¬ Own σ δ a:=fun ⟨i,d,e1,e2⟩=>by
 obtain ⟨b,e3,_,_,n⟩:=k.own i d e1
 rw [e2] at e3; cases e3
 exact n (.inr rfl)
theorem RepS.rep (h:RepS c σ δ Hs H v r):Rep H (Av c σ δ) v r.d:=by
 cases r with
 | pure d=>exact h
 | own d =>
  obtain ⟨a,rfl,o,n,f,k,_⟩:=h
  refine (o.anti fun b z=>.inl ?_).rep fun z=>z.elim n (z3z k)
  exact z.elim (fun z=>.inl (.inl z)) .inr
theorem RepS.back (h:RepS c σ δ Hs H v r) (x:Aft c σ₀ δ₀ H' σ' δ' Hs):RepS c σ δ H' H v r:=by
 cases r with
 | pure d=>exact h
 | own d =>
  obtain ⟨a,e,o,n,f,k,hs⟩:=h
  refine ⟨a,e,o,n,f,k,?_⟩
  cases q:H' a with
  | none=>rfl
  | some o =>
   obtain ⟨o',e'⟩:=x.there a o q
   rw [hs] at e'; cases e'
theorem RepS.home (h:RepS c σ δ Hs H v r):RepS c σ δ c.H₀ H v r:=by
 cases r with
 | pure d=>exact h
 | own d =>
  obtain ⟨a,e,o,n,f,k,hs⟩:=h
  exact ⟨a,e,o,n,f,k,f⟩
theorem Ok.alloc (k:Ok c σ δ H) (hp:H p=none) (o:HO):Ok c σ δ (upd H p o):=by
 have up:∀ a w,H a=some w→upd H p o a=some w:=fun a w e=>by
  rw [z0f (z0v e hp)]; exact e
 refine ⟨fun a w e n=>up a w (k.keep a w e n),fun a z=>(k.bd a z).elim fun w e=>⟨w,up a w e⟩,fun a z=>(k.ith a z).elim fun w e=>⟨w,up a w e⟩,k.len,fun i d e=>?_,fun i d e=>?_,k.inj,k.pinned⟩
 ·obtain ⟨v,e1,r⟩:=k.slot i d e
  exact ⟨v,e1,r.keep fun a w q _=>up a w q⟩
 ·obtain ⟨a,e1,r,q⟩:=k.own i d e
  exact ⟨a,e1,r.keep (fun b w q _=>up b w q) fun w q=>up a w q,q⟩
theorem Aft.alloc (k:Ok c σ δ H) (hp:H p=none) (o:HO):Aft c σ δ H σ δ (upd H p o):=by
 have up:∀ a w,H a=some w→upd H p o a=some w:=fun a w e=>by
  rw [z0f (z0v e hp)]; exact e
 exact ⟨k.alloc hp o,fun a w e _=>up a w e,fun a h=>.inl h,fun a w e=>⟨w,up a w e⟩⟩
theorem Ok.fresh₀ (k:Ok c σ δ H) (hp:H p=none):c.H₀ p=none:=by
 cases e:c.H₀ p with
 | none=>rfl
 | some o =>
  by_cases q:c.I p
  ·obtain ⟨w,e'⟩:=k.ith p q
   rw [hp] at e'; cases e'
  ·have:=k.keep p o e q
   rw [hp] at this; cases this
theorem Ok.plus (k:Ok c σ δ H) (hp:H p=none) (o:HO):Ok (c.plus p) σ δ (upd H p o):=by
 have k':=k.alloc hp o
 have sub:∀ b,Av (c.plus p) σ δ b→Av c σ δ b∨b=p:=fun b z=>by
  rcases z with (z | z) | z
  ·exact .inl (.inl z)
  ·exact .inr z
  ·exact .inl (.inr z)
 have sub2:∀ b,Av (c.plus p) σ δ b→Av c σ δ b∨H b=none:=fun b z=>(sub b z).elim .inl fun e=>.inr (by rw [e]; exact hp)
 have up:∀ a w,H a=some w→upd H p o a=some w:=fun a w e=>by
  rw [z0f (z0v e hp)]; exact e
 refine ⟨k'.keep,fun a z=>?_,k'.ith,k.len,fun i d e=>?_,fun i d e=>?_,k.inj,k.pinned⟩
 ·rcases z with z | z
  ·exact k'.bd a z
  ·exact ⟨o,by rw [z]; exact z0l⟩
 ·obtain ⟨v,e1,r⟩:=k.slot i d e
  exact ⟨v,e1,(r.anti sub2).keep fun a w q _=>up a w q⟩
 ·obtain ⟨a,e1,r,q,nb⟩:=k.own i d e
  refine ⟨a,e1,(r.anti sub2).keep (fun b w q _=>up b w q) (fun w q=>up a w q),q,fun z=>?_⟩
  rcases z with z | z
  ·exact nb z
  ·obtain ⟨w,ew⟩:=r.some
   rw [z,hp] at ew; cases ew
theorem RepS.newL (k:Ok c σ δ H) (r:Reps H (Av c σ δ) vs ds) (hp:H p=none):RepS c σ δ H (upd H p (.lst vs)) (.ref p) (.own (.lst ds)):=by
 have up:∀ a w,H a=some w→upd H p (.lst vs) a=some w:=fun a w e=>by
  rw [z0f (z0v e hp)]; exact e
 refine ⟨p,rfl,⟨vs,z0l,?_⟩,fun z=>k.nav hp (.inl z),k.fresh₀ hp,k.plus hp _,hp⟩
 have r1:Reps H (Av (c.plus p) σ δ) vs ds:=Reps.anti r fun b z=>by
  rcases z with (z | z) | z
  ·exact .inl (.inl z)
  ·exact .inr (by rw [z]; exact hp)
  ·exact .inl (.inr z)
 exact Reps.keep r1 fun b w e _=>up b w e
theorem RepS.newT (k:Ok c σ δ H) (r:Reps H (Av c σ δ) vs ds) (hp:H p=none):RepS c σ δ H (upd H p (.tup vs)) (.ref p) (.pure (.tup ds)):=by
 have up:∀ a w,H a=some w→upd H p (.tup vs) a=some w:=fun a w e=>by
  rw [z0f (z0v e hp)]; exact e
 have r1:=Reps.keep r (H':=upd H p (.tup vs)) fun b w e _=>up b w e
 exact .tup (k.nav hp) z0l r1.1 r1.2
end
inductive Rs (α:Type) where
 | ok (a:α) (δ:Dl)
 | exc (x:Xc) (δ:Dl)
 | stuck
def Rs.bind {α β:Type} (r:Rs α) (f:α→Dl→Rs β):Rs β:=match r with
 | .ok a δ=>f a δ
 | .exc x δ=>.exc x δ
 | .stuck=>.stuck
abbrev DE:=Dl→Rs S
def XC (c:Fc) (x:Xc) (δ:Dl):Prop:=c.xc x δ
def post {α:Type} (c:Fc) (r:Rs α) (k:α→Dl→Prop):Prop:=match r with
 | .ok a δ=>k a δ
 | .exc x δ=>XC c x δ
 | .stuck=>False
theorem z02:post c (r.bind f) k ↔ post c r fun a δ=>post c (f a δ) k:=by
 cases r <;> exact Iff.rfl
theorem z01 (h:post c r k) (m:∀ a δ,k a δ→k' a δ):post c r k':=by
 cases r with
 | ok a δ=>exact m a δ h
 | exc x δ=>exact h
 | stuck=>exact h
def tD (c:Fc) (f:DE):TE:=fun σ H Q=>∃ δ,Ok c σ δ H∧post c (f δ) fun r δ'=>∀ v H',Aft c σ δ H σ δ' H'→RepS c σ δ' H H' v r→Q v H'
abbrev SE (X:Cx) (c:Fc) (e:Expr) (f:DE):Prop:=PE X e (tD c f)
def RepB (c:Fc) (σ:St) (δ:Dl) (H:Hp) (v:V) (d:D):Prop:=Rep H (Av c σ δ) v d∨∃ a,v = .ref a∧OwnAt H (Av c σ δ) a d
abbrev BE:=Dl→Rs D
def tB (c:Fc) (f:BE):TE:=fun σ H Q=>∃ δ,Ok c σ δ H∧post c (f δ) fun d δ'=>∀ v H',Aft c σ δ H σ δ' H'→RepB c σ δ' H' v d→Q v H'
abbrev SB (X:Cx) (c:Fc) (e:Expr) (f:BE):Prop:=PE X e (tB c f)
theorem PE.weak (h:PE X e t) (w:∀ σ H Q,t' σ H Q→t σ H Q):PE X e t':=fun pins s σ H Q I q=>h pins s σ H Q I (w σ H Q q)
def bOf (f:DE):BE:=fun δ=>(f δ).bind fun r δ'=>.ok r.d δ'
theorem RepS.b (h:RepS c σ δ Hs H v r):RepB c σ δ H v r.d:=.inl h.rep
theorem z0e {X:Cx} {c:Fc} {e:Expr} {f:DE} (h:SE X c e f):SB X c e (bOf f):=PE.weak h fun σ H Q ⟨δ,k,p⟩=>⟨δ,k,by
 unfold bOf at p
 rw [z02] at p
 exact z01 p fun r δ' q v H' a s=>q v H' a s.b⟩
def bVar (i:Nat):BE:=fun δ=>match δ[i]? with
 | some (some r)=>.ok r.d δ
 | _=>.stuck
def eVar (i:Nat):DE:=fun δ=>match δ[i]? with
 | some (some (.pure d))=>.ok (.pure d) δ
 | some (some (.own d))=>.ok (.pure d) (δ.set i (some (.pure d)))
 | _=>.stuck
def eD (d:D):DE:=fun δ=>.ok (.pure d) δ
section
variable {X:Cx} {c:Fc}
theorem z0b {i:Nat} {e:Expr} (h:PE X e (tVar i)):SB X c e (bVar i):=PE.weak h fun σ H Q ⟨δ,k,p⟩=>by
 unfold bVar at p
 cases e:δ[i]? with
 | none=>rw [e] at p; exact p.elim
 | some o =>
  cases o with
  | none=>rw [e] at p; exact p.elim
  | some r =>
   rw [e] at p
   cases r with
   | pure d =>
    obtain ⟨v,e1,r⟩:=k.slot i d e
    exact ⟨v,e1,p v H (.refl k) (.inl r)⟩
   | own d =>
    obtain ⟨a,e1,r,_⟩:=k.own i d e
    exact ⟨.ref a,e1,p _ H (.refl k) (.inr ⟨a,rfl,r⟩)⟩
theorem Own.sub (h:Own σ (δ.set i (some (.pure d))) a):Own σ δ a:=by
 obtain ⟨j,d',e1,e2⟩:=h
 by_cases hj:i=j
 ·subst hj
  rw [WL] at e1
  simp at e1
 ·rw [W4 hj] at e1
  exact ⟨j,d',e1,e2⟩
theorem Ok.give (k:Ok c σ δ H) (e:δ[i]? = some (some (.own d))) :
  ∃ a,σ[i]? = some (some (.ref a))∧Aft c σ δ H σ (δ.set i (some (.pure d))) H∧Rep H (Av c σ (δ.set i (some (.pure d)))) (.ref a) d:=by
 obtain ⟨a,e1,r,q,nb⟩:=k.own i d e
 have hi:i < δ.length:=(Wb.mp e).1
 have sub:∀ b,Av c σ (δ.set i (some (.pure d))) b→Av c σ δ b:=fun b z=>z.elim .inl fun z=>.inr z.sub
 have na:¬ Av c σ (δ.set i (some (.pure d))) a:=by
  rintro (z | ⟨j,d',f1,f2⟩)
  ·exact nb z
  ·by_cases hj:i=j
   ·subst hj
    rw [WL] at f1
    simp at f1
   ·rw [W4 hj] at f1
    exact hj (k.inj i j a d d' e f1 e1 f2)
 have rep:Rep H (Av c σ (δ.set i (some (.pure d)))) (.ref a) d:=(r.anti fun b z=>.inl (sub b z)).rep na
 refine ⟨a,e1,⟨⟨k.keep,k.bd,k.ith,by rw [QM]; exact k.len,fun j d' f=>?_,fun j d' f=>?_,fun j l b d1 d2 f1 f2=>?_,k.pinned⟩,fun _ _ w _=>w,fun b z=>.inl z.sub,fun _ o w=>⟨o,w⟩⟩,rep⟩
 ·by_cases hj:i=j
  ·subst hj
   rw [Wq hi] at f
   cases f
   exact ⟨.ref a,e1,rep⟩
  ·rw [W4 hj] at f
   obtain ⟨v,g1,g2⟩:=k.slot j d' f
   exact ⟨v,g1,g2.anti fun b z=>.inl (sub b z)⟩
 ·by_cases hj:i=j
  ·subst hj
   rw [Wq hi] at f
   cases f
  ·rw [W4 hj] at f
   obtain ⟨b,g1,g2,g3⟩:=k.own j d' f
   exact ⟨b,g1,g2.anti fun b z=>.inl (sub b z),g3⟩
 ·have h1:δ[j]? = some (some (.own d1)):=by
   by_cases hj:i=j
   ·subst hj; rw [Wq hi] at f1; cases f1
   ·rw [W4 hj] at f1; exact f1
  have h2:δ[l]? = some (some (.own d2)):=by
   by_cases hj:i=l
   ·subst hj; rw [Wq hi] at f2; cases f2
   ·rw [W4 hj] at f2; exact f2
  exact k.inj j l b d1 d2 h1 h2
theorem z06 {i:Nat} {e:Expr} (h:PE X e (tVar i)):SE X c e (eVar i):=PE.weak h fun σ H Q ⟨δ,k,p⟩=>by
 unfold eVar at p
 cases e:δ[i]? with
 | none=>rw [e] at p; exact p.elim
 | some o =>
  cases o with
  | none=>rw [e] at p; exact p.elim
  | some r =>
   rw [e] at p
   cases r with
   | pure d =>
    obtain ⟨v,e1,r⟩:=k.slot i d e
    exact ⟨v,e1,p v H (.refl k) r⟩
   | own d =>
    obtain ⟨a,e1,x,r⟩:=k.give e
    exact ⟨.ref a,e1,p _ H x r⟩
theorem z04 {i j pos}:SE X c (.Constant (.int i) j pos) (eD (.int i)):=PE.weak zeF fun σ H Q ⟨δ,k,p⟩=>p _ H (.refl k) (.int i)
theorem z53 {b j pos}:SE X c (.Constant (.bool b) j pos) (eD (.bl b)):=PE.weak zcV fun σ H Q ⟨δ,k,p⟩=>p _ H (.refl k) (.bl b)
theorem zbT {j pos}:SE X c (.Constant .none j pos) (eD .non):=PE.weak zeC fun σ H Q ⟨δ,k,p⟩=>p _ H (.refl k) .non
theorem z4r {x j pos} (y:Tx) (h:x=toS y:=by decide +kernel):SE X c (.Constant (.str x) j pos) (eD (.str y)):=by
 subst h
 exact PE.weak zc0 fun σ H Q ⟨δ,k,p⟩=>p _ H (.refl k) (.str y)
end
open PySem PySem.Spec PyProof.Rows L2 PySem.SeqAt
mutual
def eqD:D→D→Bool
 | .non,.non=>true
 | .bl a,.bl b=>a == b
 | .int a,.int b=>a == b
 | .bl a,.int b=>(if a then 1 else 0) == b
 | .int a,.bl b=>a == (if b then 1 else 0)
 | .str a,.str b=>a == b
 | .tup xs,.tup ys=>eqDs xs ys
 | .lst xs,.lst ys=>eqDs xs ys
 | _,_=>false
def eqDs:List D→List D→Bool
 | [],[]=>true
 | x :: xs,y :: ys=>eqD x y && eqDs xs ys
 | _,_=>false
end
mutual
def flat:Nat→D→Bool
 | _,.non=>true
 | _,.bl _=>true
 | _,.int _=>true
 | _,.str _=>true
 | 0,.tup _=>false
 | n + 1,.tup xs=>z4e n xs
 | 0,.lst _=>false
 | n + 1,.lst xs=>z4e n xs
 | _,.dct _=>false
 | _,.exc _ _=>false
 | _,.xd _=>false
 | _,.fn _=>false
def z4e:Nat→List D→Bool
 | _,[]=>true
 | n,x :: xs=>flat n x && z4e n xs
end
example:eqD (.tup [.int 1,.str [2]]) (.tup [.int 1,.str [2]])=true:=by decide +kernel
theorem z1P:∀ {xs:List D} {x:D},z4e n xs=true→x ∈ xs→flat n x=true
 | [],_,_,h=>by simp at h
 | y :: ys,x,h,hm=>by
  simp only [z4e,Wn] at h
  rcases Wp.mp hm with e | hm
  ·rw [e]; exact h.1
  ·exact z1P h.2 hm
theorem z4n:∀ {xs ys:List D} {f:Nat→Bool},xs.length=ys.length→(∀ (j:Nat) x y,xs[j]? = some x→ys[j]? = some y→f j=eqD x y)→(Qk xs.length).all f=eqDs xs ys
 | [],[],f,_,_=>rfl
 | [],y :: ys,f,h,_=>by simp at h
 | x :: xs,[],f,h,_=>by simp at h
 | x :: xs,y :: ys,f,h,hf=>by
  simp only [eqDs]
  rw [WO,List.range_succ_eq_map,List.all_cons,hf 0 x y rfl rfl,List.all_map]
  rw [← z4n (f:=fun j=>f (j + 1)) (by simpa using h) (fun j a b e1 e2=>hf (j + 1) a b (by simpa using e1) (by simpa using e2))]
  rfl
theorem z4m:∀ {xs ys:List D},xs.length≠ys.length→eqDs xs ys=false
 | [],[],h=>absurd rfl h
 | [],y :: ys,_=>rfl
 | x :: xs,[],_=>rfl
 | x :: xs,y :: ys,h=>by
  simp only [eqDs]
  rw [z4m (xs:=xs) (ys:=ys) (by intro e; exact h (by simp [e]))]
  simp
mutual
theorem z2R:∀ {n:Nat} {d:D},flat n d=true→eqD d d=true
 | _,.non,_=>rfl
 | _,.bl b,_=>by simp [eqD]
 | _,.int i,_=>by simp [eqD]
 | _,.str x,_=>by simp [eqD]
 | 0,.tup xs,h=>by simp [flat] at h
 | n + 1,.tup xs,h=>by simp only [eqD]; exact z4Q (n:=n) (by simpa [flat] using h)
 | 0,.lst xs,h=>by simp [flat] at h
 | n + 1,.lst xs,h=>by simp only [eqD]; exact z4Q (n:=n) (by simpa [flat] using h)
 | _,.dct xs,h=>by simp [flat] at h
 | _,.exc n _,h=>by simp [flat] at h
 | _,.xd n,h=>by simp [flat] at h
theorem z4Q:∀ {n:Nat} {ds:List D},z4e n ds=true→eqDs ds ds=true
 | _,[],_=>rfl
 | n,x :: xs,h=>by
  simp only [z4e,Wn] at h
  simp only [eqDs]
  rw [z2R h.1,z4Q h.2]
  rfl
end
abbrev NoO:Addr→Prop:=fun _=>False
theorem Rep.un (h:Rep H O v d):Rep H NoO v d:=Rep.anti h fun _ z=>z.elim
theorem RepB.un (h:RepB c σ δ H v d):Rep H NoO v d:=by
 rcases h with h | ⟨a,rfl,o⟩
 ·exact Rep.un h
 ·exact (o.anti (O':=NoO) fun _ z=>z.elim).rep fun z=>z
section
variable {X:Cx} {pins:List (Addr×Obj)} {σ:St} {H:Hp} {s:W1}
theorem Inv.rdL (I:Inv X pins σ H s) (h:Rd H a (.lst vs)):∃ its:List Value,Vals vs its∧s.heap.IsList a its.toArray:=by
 obtain ⟨its,r,p,_⟩:=I.list (.inl h)
 exact ⟨its,r,p.isList⟩
theorem Inv.rdT (I:Inv X pins σ H s) (h:H a=some (.tup vs)):∃ its:List Value,Vals vs its∧s.heap.IsTuple a its.toArray:=by
 obtain ⟨its,r,p,_⟩:=I.tuple (.of h)
 exact ⟨its,r,p⟩
theorem z5A (x y:Tx):((toS x:Str) == toS y)=(x == y):=by
 rw [Bool.eq_iff_iff]
 simp only [beq_iff_eq]
 exact ⟨z5y,fun e=>by rw [e]⟩
theorem za5 (A:Wf):A.in1.units=A.units + 1:=rfl
theorem Rd.inj (h:Rd H a u) (k:Rd H a w) (hu:∀ o z,u≠.frz o z) (hw:∀ o z,w≠.frz o z):u=w:=by
 rcases h with h | ⟨o,h⟩ <;> rcases k with k | ⟨o',k⟩
 ·rw [h] at k; exact Ws k
 ·rw [h] at k; exact absurd (Ws k) (hu _ _)
 ·rw [h] at k; exact absurd (Ws k).symm (hw _ _)
 ·rw [h] at k
  have:=Ws k
  injection this
theorem Reps.inj {vs:List V}:∀ {ds es:List D},vs.length=ds.length→vs.length=es.length→(∀ (i:Nat) v d e,vs[i]? = some v→ds[i]? = some d→es[i]? = some e→d=e)→ds=es:=by
 intro ds es h1 h2 h
 apply List.ext_getElem?
 intro i
 by_cases hi:i < vs.length
 ·have a1:i < ds.length:=by omega
  have a2:i < es.length:=by omega
  rw [Wh a1,Wh a2]
  rw [h i vs[i] ds[i] es[i] (by simp [hi]) (by simp [a1]) (by simp [a2])]
 ·rw [WT (by omega),WT (by omega)]
theorem Rep.inj {O:Addr→Prop} {v:V} {d:D} (h:Rep H O v d):∀ {n:Nat} {e:D},flat n d=true→flat n e=true→Rep H O v e→d=e:=by
 induction h with
 | non=>intro n e _ _ k; cases k; rfl
 | bl b=>intro n e _ _ k; cases k; rfl
 | int i=>intro n e _ _ k; cases k; rfl
 | str x =>
  intro n e _ _ k
  generalize hz:V.str (toS x)=z at k
  cases k with
  | str y=>injection hz with hz; rw [z5y hz]
  | _=>cases hz
 | @tup a vs ds h1 h2 h3 h4 ih =>
  intro n e fd fe k
  cases n with
  | zero=>simp [flat] at fd
  | succ n =>
   simp only [flat] at fd
   cases k with
   | @tup _ ws es k1 k2 k3 k4 =>
    simp only [flat] at fe
    have e1:=Rd.inj (.inl h2) (.inl k2) (fun _ _ z=>by cases z) (fun _ _ z=>by cases z)
    injection e1 with e1
    subst e1
    rw [Reps.inj h3 k3 fun i v d e q1 q2 q3=>ih i v d q1 q2 (z1P fd (WC q2)) (z1P fe (WC q3)) (k4 i v e q1 q3)]
   | lst k1 k2=>exact absurd (Rd.inj (.inl h2) k2 (fun _ _ z=>by cases z) (fun _ _ z=>by cases z)) (fun z=>by cases z)
   | dct k1 k2=>exact absurd (Rd.inj (.inl h2) (.inl k2) (fun _ _ z=>by cases z) (fun _ _ z=>by cases z)) (fun z=>by cases z)
   | exc k1 k2=>simp [flat] at fe
   | xd k1 k2=>simp [flat] at fe
   | fn _=>simp [flat] at fe
 | @lst a vs ds h1 h2 h3 h4 ih =>
  intro n e fd fe k
  cases n with
  | zero=>simp [flat] at fd
  | succ n =>
   simp only [flat] at fd
   cases k with
   | @lst _ ws es k1 k2 k3 k4 =>
    simp only [flat] at fe
    have e1:=Rd.inj h2 k2 (fun _ _ z=>by cases z) (fun _ _ z=>by cases z)
    injection e1 with e1
    subst e1
    rw [Reps.inj h3 k3 fun i v d e q1 q2 q3=>ih i v d q1 q2 (z1P fd (WC q2)) (z1P fe (WC q3)) (k4 i v e q1 q3)]
   | tup k1 k2=>exact absurd (Rd.inj h2 (.inl k2) (fun _ _ z=>by cases z) (fun _ _ z=>by cases z)) (fun z=>by cases z)
   | dct k1 k2=>exact absurd (Rd.inj h2 (.inl k2) (fun _ _ z=>by cases z) (fun _ _ z=>by cases z)) (fun z=>by cases z)
   | exc k1 k2=>simp [flat] at fe
   | xd k1 k2=>simp [flat] at fe
   | fn _=>simp [flat] at fe
 | dct h1 h2 h3 h4 ih =>
  intro n e fd _ _
  cases n <;> simp [flat] at fd
 | exc h1 h2 =>
  intro n e fd _ _
  cases n <;> simp [flat] at fd
 | xd h1 h2 =>
  intro n e fd _ _
  cases n <;> simp [flat] at fd
 | fn _ =>
  intro n e fd _ _
  cases n <;> simp [flat] at fd
def EqIt (H:Hp) (s:W1) (n:Nat):Prop:=∀ (A:Wf) (x y:V) (u w:Value) (d e:D),A.units + n + 1 < Qa→flat n d=true→flat n e=true→Rep H NoO x d→Rep H NoO y e→RelV x u→RelV y w→EqAt A s u w (eqD d e)
def z7B (H:Hp) (s:W1) (A:Wf) (n:Nat):Prop:=match n with
 | 0=>True
 | m + 1=>A.units + m + 2 < Qa∧EqIt H s m
def itE (ds es:List D) (j:Nat):Bool:=match ds[j]?,es[j]? with
 | some p,some q=>eqD p q
 | _,_=>false
theorem z7Z (j:Nat) (p q:D) (e1:ds[j]? = some p) (e2:es[j]? = some q):itE ds es j=eqD p q:=by unfold itE; rw [e1,e2]
theorem z4k {n:Nat} {A:Wf} {vs ws:List V} {ds es:List D} {its jts:List Value} (hu:A.units + n + 2 < Qa) (ih:EqIt H s n) (r1:Vals vs its) (r2:Vals ws jts) (l1:vs.length=ds.length) (l2:ws.length=es.length)
  (g1:∀ (i:Nat) v d,vs[i]? = some v→ds[i]? = some d→Rep H NoO v d) (g2:∀ (i:Nat) v d,ws[i]? = some v→es[i]? = some d→Rep H NoO v d) (f1:z4e n ds=true) (f2:z4e n es=true) :
  ∀ j (h1:j < its.toArray.size) (h2:j < jts.toArray.size),EqAt A.in1 s its.toArray[j] jts.toArray[j] (itE ds es j):=by
 intro j h1 h2
 have e1:=r1.length
 have e2:=r2.length
 simp at h1 h2
 have hd:j < ds.length:=by omega
 have he:j < es.length:=by omega
 have hv:j < vs.length:=by omega
 have hw:j < ws.length:=by omega
 obtain ⟨u',hu',ru'⟩:=r1.get (i:=j) (x:=vs[j]) (by simp [hv])
 obtain ⟨w',hw',rw''⟩:=r2.get (i:=j) (x:=ws[j]) (by simp [hw])
 have eu:its.toArray[j]=u':=by simpa [h1] using hu'
 have ew:jts.toArray[j]=w':=by simpa [h2] using hw'
 rw [eu,ew,z7Z j ds[j] es[j] (by simp [hd]) (by simp [he])]
 exact ih A.in1 vs[j] ws[j] u' w' ds[j] es[j] (by rw [za5]; omega) (z1P f1 (Q4 hd)) (z1P f2 (Q4 he)) (g1 j _ _ (by simp [hv]) (by simp [hd])) (g2 j _ _ (by simp [hw]) (by simp [he])) ru' rw''
theorem zaE (h1:n=ds.length) (h2:m=es.length):((Qk (min n m)).all (itE ds es) && n == m)=eqDs ds es:=by
 subst h1 h2
 by_cases hl:ds.length=es.length
 ·rw [← hl,Nat.min_self,z4n hl z7Z]
  simp
 ·rw [z4m hl]
  simp [hl]
theorem rcT (I:Inv X pins σ H s) (n:Nat) (A:Wf) (hu0:A.units < Qa) (t1:s.heap.IsTuple a its.toArray) (t2:s.heap.IsTuple b jts.toArray) (r1:Vals vs its) (r2:Vals ws jts) (l1:vs.length=ds.length) (l2:ws.length=es.length)
  (g1:∀ (i:Nat) v d,vs[i]? = some v→ds[i]? = some d→Rep H NoO v d) (g2:∀ (i:Nat) v d,ws[i]? = some v→es[i]? = some d→Rep H NoO v d) (f1:flat n (.tup ds)=true) (f2:flat n (.tup es)=true) (ih:z7B H s A n) :
  RcAt A s (.ref a) (.ref b) (eqDs ds es):=by
 cases n with
 | zero=>simp [flat] at f1
 | succ n =>
  simp only [flat] at f1 f2
  obtain ⟨hu,ih⟩:=ih
  have q:=RcAt.tuples (A:=A) (s:=s) t1 t2 hu0 (z4k hu ih r1 r2 l1 l2 g1 g2 f1 f2)
  rw [zaE (by have:=r1.length; simp; omega) (by have:=r2.length; simp; omega)] at q
  exact q
theorem rnT (I:Inv X pins σ H s) (n:Nat) (A:Wf) (hu0:A.units < Qa) (t1:s.heap.IsTuple a its.toArray) (t2:s.heap.IsTuple b jts.toArray) (r1:Vals vs its) (r2:Vals ws jts) (l1:vs.length=ds.length) (l2:ws.length=es.length)
  (g1:∀ (i:Nat) v d,vs[i]? = some v→ds[i]? = some d→Rep H NoO v d) (g2:∀ (i:Nat) v d,ws[i]? = some v→es[i]? = some d→Rep H NoO v d) (f1:flat n (.tup ds)=true) (f2:flat n (.tup es)=true) (ih:z7B H s A n) :
  RcNeAt A s (.ref a) (.ref b) (!eqDs ds es):=by
 cases n with
 | zero=>simp [flat] at f1
 | succ n =>
  simp only [flat] at f1 f2
  obtain ⟨hu,ih⟩:=ih
  have q:=RcNeAt.tuples (A:=A) (s:=s) t1 t2 hu0 (z4k hu ih r1 r2 l1 l2 g1 g2 f1 f2)
  rw [zaE (by have:=r1.length; simp; omega) (by have:=r2.length; simp; omega)] at q
  exact q
theorem rcL (I:Inv X pins σ H s) (n:Nat) (A:Wf) (hu0:A.units < Qa) (t1:s.heap.IsList a its.toArray) (t2:s.heap.IsList b jts.toArray) (r1:Vals vs its) (r2:Vals ws jts) (l1:vs.length=ds.length) (l2:ws.length=es.length)
  (g1:∀ (i:Nat) v d,vs[i]? = some v→ds[i]? = some d→Rep H NoO v d) (g2:∀ (i:Nat) v d,ws[i]? = some v→es[i]? = some d→Rep H NoO v d) (f1:flat n (.lst ds)=true) (f2:flat n (.lst es)=true) (ih:z7B H s A n) :
  RcAt A s (.ref a) (.ref b) (eqDs ds es):=by
 cases n with
 | zero=>simp [flat] at f1
 | succ n =>
  simp only [flat] at f1 f2
  obtain ⟨hu,ih⟩:=ih
  have z1:its.toArray.size=ds.length:=by have:=r1.length; simp; omega
  have z2:jts.toArray.size=es.length:=by have:=r2.length; simp; omega
  by_cases hl:ds.length=es.length
  ·have q:=RcAt.lists (A:=A) (s:=s) t1 t2 (by rw [z1,z2]; exact hl) hu0 (z4k hu ih r1 r2 l1 l2 g1 g2 f1 f2)
   rw [z1,z4n hl z7Z] at q
   exact q
  ·rw [z4m hl]
   exact RcAt.lists_lengths (A:=A) (s:=s) t1 t2 (by rw [z1,z2]; simpa using hl) hu0
theorem rnL (I:Inv X pins σ H s) (n:Nat) (A:Wf) (hu0:A.units < Qa) (t1:s.heap.IsList a its.toArray) (t2:s.heap.IsList b jts.toArray) (r1:Vals vs its) (r2:Vals ws jts) (l1:vs.length=ds.length) (l2:ws.length=es.length)
  (g1:∀ (i:Nat) v d,vs[i]? = some v→ds[i]? = some d→Rep H NoO v d) (g2:∀ (i:Nat) v d,ws[i]? = some v→es[i]? = some d→Rep H NoO v d) (f1:flat n (.lst ds)=true) (f2:flat n (.lst es)=true) (ih:z7B H s A n) :
  RcNeAt A s (.ref a) (.ref b) (!eqDs ds es):=by
 cases n with
 | zero=>simp [flat] at f1
 | succ n =>
  simp only [flat] at f1 f2
  obtain ⟨hu,ih⟩:=ih
  have z1:its.toArray.size=ds.length:=by have:=r1.length; simp; omega
  have z2:jts.toArray.size=es.length:=by have:=r2.length; simp; omega
  by_cases hl:ds.length=es.length
  ·have q:=RcNeAt.lists (A:=A) (s:=s) t1 t2 (by rw [z1,z2]; exact hl) hu0 (z4k hu ih r1 r2 l1 l2 g1 g2 f1 f2)
   rw [z1,z4n hl z7Z] at q
   exact q
  ·rw [z4m hl]
   exact RcNeAt.lists_lengths (A:=A) (s:=s) t1 t2 (by rw [z1,z2]; simpa using hl) hu0
theorem rcD (I:Inv X pins σ H s) (n:Nat) (A:Wf) (x y:V) (u w:Value) (d e:D) (hu0:A.units < Qa) (fd:flat n d=true) (fe:flat n e=true) (ih:z7B H s A n) (rx:Rep H NoO x d) (ry:Rep H NoO y e) (ru:RelV x u) (rw':RelV y w):RcAt A s u w (eqD d e):=by
 cases rx with
 | non =>
  cases ru
  cases ry with
  | non =>
   cases rw'
   simp only [eqD]; exact RcAt.none_none
  | bl q =>
   cases rw'
   simp only [eqD]; exact RcAt.none_bool _
  | int q =>
   obtain ⟨t2,rfl⟩:=rw'
   simp only [eqD]; exact RcAt.none_int _ _
  | str q =>
   obtain ⟨t2,rfl⟩:=rw'
   simp only [eqD]; exact RcAt.none_str _ _
  | tup k1 k2 k3 k4 =>
   cases rw'; obtain ⟨its2,r2,t2⟩:=Inv.rdT I k2
   simp only [eqD]; exact RcAt.none_tuple t2 hu0
  | lst k1 k2 k3 k4 =>
   cases rw'; obtain ⟨its2,r2,t2⟩:=Inv.rdL I k2
   simp only [eqD]; exact RcAt.none_list t2 hu0
  | dct k1 k2 k3 k4=>(cases n <;> simp [flat] at fe)
  | exc k1 k2=>(cases n <;> simp [flat] at fe)
  | xd k1 k2=>(cases n <;> simp [flat] at fe)
  | fn _=>(cases n <;> simp [flat] at fe)
 | bl p =>
  cases ru
  cases ry with
  | non =>
   cases rw'
   simp only [eqD]; exact RcAt.bool_none _
  | bl q =>
   cases rw'
   simp only [eqD]; exact RcAt.bool_bool _ _
  | int q =>
   obtain ⟨t2,rfl⟩:=rw'
   simp only [eqD]; exact RcAt.bool_int _ _ _
  | str q =>
   obtain ⟨t2,rfl⟩:=rw'
   simp only [eqD]; exact RcAt.bool_str _ _ _
  | tup k1 k2 k3 k4 =>
   cases rw'; obtain ⟨its2,r2,t2⟩:=Inv.rdT I k2
   simp only [eqD]; exact RcAt.bool_tuple _ t2 hu0
  | lst k1 k2 k3 k4 =>
   cases rw'; obtain ⟨its2,r2,t2⟩:=Inv.rdL I k2
   simp only [eqD]; exact RcAt.bool_list _ t2 hu0
  | dct k1 k2 k3 k4=>(cases n <;> simp [flat] at fe)
  | exc k1 k2=>(cases n <;> simp [flat] at fe)
  | xd k1 k2=>(cases n <;> simp [flat] at fe)
  | fn _=>(cases n <;> simp [flat] at fe)
 | int p =>
  obtain ⟨t1,rfl⟩:=ru
  cases ry with
  | non =>
   cases rw'
   simp only [eqD]; exact RcAt.int_none _ _
  | bl q =>
   cases rw'
   simp only [eqD]; exact RcAt.int_bool _ _ _
  | int q =>
   obtain ⟨t2,rfl⟩:=rw'
   simp only [eqD]; exact RcAt.int_int _ _ _ _
  | str q =>
   obtain ⟨t2,rfl⟩:=rw'
   simp only [eqD]; exact RcAt.int_str _ _ _ _
  | tup k1 k2 k3 k4 =>
   cases rw'; obtain ⟨its2,r2,t2⟩:=Inv.rdT I k2
   simp only [eqD]; exact RcAt.int_tuple _ _ t2 hu0
  | lst k1 k2 k3 k4 =>
   cases rw'; obtain ⟨its2,r2,t2⟩:=Inv.rdL I k2
   simp only [eqD]; exact RcAt.int_list _ _ t2 hu0
  | dct k1 k2 k3 k4=>(cases n <;> simp [flat] at fe)
  | exc k1 k2=>(cases n <;> simp [flat] at fe)
  | xd k1 k2=>(cases n <;> simp [flat] at fe)
  | fn _=>(cases n <;> simp [flat] at fe)
 | str p =>
  obtain ⟨t1,rfl⟩:=ru
  cases ry with
  | non =>
   cases rw'
   simp only [eqD]; exact RcAt.str_none _ _
  | bl q =>
   cases rw'
   simp only [eqD]; exact RcAt.str_bool _ _ _
  | int q =>
   obtain ⟨t2,rfl⟩:=rw'
   simp only [eqD]; exact RcAt.str_int _ _ _ _
  | str q =>
   obtain ⟨t2,rfl⟩:=rw'
   simp only [eqD]; rw [← z5A]; exact RcAt.str_str _ _ _ _
  | tup k1 k2 k3 k4 =>
   cases rw'; obtain ⟨its2,r2,t2⟩:=Inv.rdT I k2
   simp only [eqD]; exact RcAt.str_tuple _ _ t2 hu0
  | lst k1 k2 k3 k4 =>
   cases rw'; obtain ⟨its2,r2,t2⟩:=Inv.rdL I k2
   simp only [eqD]; exact RcAt.str_list _ _ t2 hu0
  | dct k1 k2 k3 k4=>(cases n <;> simp [flat] at fe)
  | exc k1 k2=>(cases n <;> simp [flat] at fe)
  | xd k1 k2=>(cases n <;> simp [flat] at fe)
  | fn _=>(cases n <;> simp [flat] at fe)
 | tup h1 h2 h3 h4 =>
  cases ru; obtain ⟨its1,r1,t1⟩:=Inv.rdT I h2
  cases ry with
  | non =>
   cases rw'
   simp only [eqD]; exact RcAt.tuple_none t1 hu0
  | bl q =>
   cases rw'
   simp only [eqD]; exact RcAt.tuple_bool _ t1 hu0
  | int q =>
   obtain ⟨t2,rfl⟩:=rw'
   simp only [eqD]; exact RcAt.tuple_int _ _ t1 hu0
  | str q =>
   obtain ⟨t2,rfl⟩:=rw'
   simp only [eqD]; exact RcAt.tuple_str _ _ t1 hu0
  | tup k1 k2 k3 k4 =>
   cases rw'; obtain ⟨its2,r2,t2⟩:=Inv.rdT I k2
   simp only [eqD]; exact rcT I n A hu0 t1 t2 r1 r2 h3 k3 h4 k4 fd fe ih
  | lst k1 k2 k3 k4 =>
   cases rw'; obtain ⟨its2,r2,t2⟩:=Inv.rdL I k2
   simp only [eqD]; exact RcAt.tuple_list t1 t2 hu0
  | dct k1 k2 k3 k4=>(cases n <;> simp [flat] at fe)
  | exc k1 k2=>(cases n <;> simp [flat] at fe)
  | xd k1 k2=>(cases n <;> simp [flat] at fe)
  | fn _=>(cases n <;> simp [flat] at fe)
 | lst h1 h2 h3 h4 =>
  cases ru; obtain ⟨its1,r1,t1⟩:=Inv.rdL I h2
  cases ry with
  | non =>
   cases rw'
   simp only [eqD]; exact RcAt.list_none t1 hu0
  | bl q =>
   cases rw'
   simp only [eqD]; exact RcAt.list_bool _ t1 hu0
  | int q =>
   obtain ⟨t2,rfl⟩:=rw'
   simp only [eqD]; exact RcAt.list_int _ _ t1 hu0
  | str q =>
   obtain ⟨t2,rfl⟩:=rw'
   simp only [eqD]; exact RcAt.list_str _ _ t1 hu0
  | tup k1 k2 k3 k4 =>
   cases rw'; obtain ⟨its2,r2,t2⟩:=Inv.rdT I k2
   simp only [eqD]; exact RcAt.list_tuple t1 t2 hu0
  | lst k1 k2 k3 k4 =>
   cases rw'; obtain ⟨its2,r2,t2⟩:=Inv.rdL I k2
   simp only [eqD]; exact rcL I n A hu0 t1 t2 r1 r2 h3 k3 h4 k4 fd fe ih
  | dct k1 k2 k3 k4=>(cases n <;> simp [flat] at fe)
  | exc k1 k2=>(cases n <;> simp [flat] at fe)
  | xd k1 k2=>(cases n <;> simp [flat] at fe)
  | fn _=>(cases n <;> simp [flat] at fe)
 | dct h1 h2 h3 h4=>(cases n <;> simp [flat] at fd)
 | exc h1 h2=>(cases n <;> simp [flat] at fd)
 | xd h1 h2=>(cases n <;> simp [flat] at fd)
 | fn _=>(cases n <;> simp [flat] at fd)
theorem rnD (I:Inv X pins σ H s) (n:Nat) (A:Wf) (x y:V) (u w:Value) (d e:D) (hu0:A.units < Qa) (fd:flat n d=true) (fe:flat n e=true) (ih:z7B H s A n) (rx:Rep H NoO x d) (ry:Rep H NoO y e) (ru:RelV x u) (rw':RelV y w):RcNeAt A s u w (!eqD d e):=by
 cases rx with
 | non =>
  cases ru
  cases ry with
  | non =>
   cases rw'
   simp only [eqD]; exact RcNeAt.none_none
  | bl q =>
   cases rw'
   simp only [eqD]; exact RcNeAt.none_bool _
  | int q =>
   obtain ⟨t2,rfl⟩:=rw'
   simp only [eqD]; exact RcNeAt.none_int _ _
  | str q =>
   obtain ⟨t2,rfl⟩:=rw'
   simp only [eqD]; exact RcNeAt.none_str _ _
  | tup k1 k2 k3 k4 =>
   cases rw'; obtain ⟨its2,r2,t2⟩:=Inv.rdT I k2
   simp only [eqD]; exact RcNeAt.none_tuple t2 hu0
  | lst k1 k2 k3 k4 =>
   cases rw'; obtain ⟨its2,r2,t2⟩:=Inv.rdL I k2
   simp only [eqD]; exact RcNeAt.none_list t2 hu0
  | dct k1 k2 k3 k4=>(cases n <;> simp [flat] at fe)
  | exc k1 k2=>(cases n <;> simp [flat] at fe)
  | xd k1 k2=>(cases n <;> simp [flat] at fe)
  | fn _=>(cases n <;> simp [flat] at fe)
 | bl p =>
  cases ru
  cases ry with
  | non =>
   cases rw'
   simp only [eqD]; exact RcNeAt.bool_none _
  | bl q =>
   cases rw'
   simp only [eqD]; exact RcNeAt.bool_bool _ _
  | int q =>
   obtain ⟨t2,rfl⟩:=rw'
   simp only [eqD]; exact RcNeAt.bool_int _ _ _
  | str q =>
   obtain ⟨t2,rfl⟩:=rw'
   simp only [eqD]; exact RcNeAt.bool_str _ _ _
  | tup k1 k2 k3 k4 =>
   cases rw'; obtain ⟨its2,r2,t2⟩:=Inv.rdT I k2
   simp only [eqD]; exact RcNeAt.bool_tuple _ t2 hu0
  | lst k1 k2 k3 k4 =>
   cases rw'; obtain ⟨its2,r2,t2⟩:=Inv.rdL I k2
   simp only [eqD]; exact RcNeAt.bool_list _ t2 hu0
  | dct k1 k2 k3 k4=>(cases n <;> simp [flat] at fe)
  | exc k1 k2=>(cases n <;> simp [flat] at fe)
  | xd k1 k2=>(cases n <;> simp [flat] at fe)
  | fn _=>(cases n <;> simp [flat] at fe)
 | int p =>
  obtain ⟨t1,rfl⟩:=ru
  cases ry with
  | non =>
   cases rw'
   simp only [eqD]; exact RcNeAt.int_none _ _
  | bl q =>
   cases rw'
   simp only [eqD]; exact RcNeAt.int_bool _ _ _
  | int q =>
   obtain ⟨t2,rfl⟩:=rw'
   simp only [eqD]; exact RcNeAt.int_int _ _ _ _
  | str q =>
   obtain ⟨t2,rfl⟩:=rw'
   simp only [eqD]; exact RcNeAt.int_str _ _ _ _
  | tup k1 k2 k3 k4 =>
   cases rw'; obtain ⟨its2,r2,t2⟩:=Inv.rdT I k2
   simp only [eqD]; exact RcNeAt.int_tuple _ _ t2 hu0
  | lst k1 k2 k3 k4 =>
   cases rw'; obtain ⟨its2,r2,t2⟩:=Inv.rdL I k2
   simp only [eqD]; exact RcNeAt.int_list _ _ t2 hu0
  | dct k1 k2 k3 k4=>(cases n <;> simp [flat] at fe)
  | exc k1 k2=>(cases n <;> simp [flat] at fe)
  | xd k1 k2=>(cases n <;> simp [flat] at fe)
  | fn _=>(cases n <;> simp [flat] at fe)
 | str p =>
  obtain ⟨t1,rfl⟩:=ru
  cases ry with
  | non =>
   cases rw'
   simp only [eqD]; exact RcNeAt.str_none _ _
  | bl q =>
   cases rw'
   simp only [eqD]; exact RcNeAt.str_bool _ _ _
  | int q =>
   obtain ⟨t2,rfl⟩:=rw'
   simp only [eqD]; exact RcNeAt.str_int _ _ _ _
  | str q =>
   obtain ⟨t2,rfl⟩:=rw'
   simp only [eqD]; rw [← z5A]; exact RcNeAt.str_str _ _ _ _
  | tup k1 k2 k3 k4 =>
   cases rw'; obtain ⟨its2,r2,t2⟩:=Inv.rdT I k2
   simp only [eqD]; exact RcNeAt.str_tuple _ _ t2 hu0
  | lst k1 k2 k3 k4 =>
   cases rw'; obtain ⟨its2,r2,t2⟩:=Inv.rdL I k2
   simp only [eqD]; exact RcNeAt.str_list _ _ t2 hu0
  | dct k1 k2 k3 k4=>(cases n <;> simp [flat] at fe)
  | exc k1 k2=>(cases n <;> simp [flat] at fe)
  | xd k1 k2=>(cases n <;> simp [flat] at fe)
  | fn _=>(cases n <;> simp [flat] at fe)
 | tup h1 h2 h3 h4 =>
  cases ru; obtain ⟨its1,r1,t1⟩:=Inv.rdT I h2
  cases ry with
  | non =>
   cases rw'
   simp only [eqD]; exact RcNeAt.tuple_none t1 hu0
  | bl q =>
   cases rw'
   simp only [eqD]; exact RcNeAt.tuple_bool _ t1 hu0
  | int q =>
   obtain ⟨t2,rfl⟩:=rw'
   simp only [eqD]; exact RcNeAt.tuple_int _ _ t1 hu0
  | str q =>
   obtain ⟨t2,rfl⟩:=rw'
   simp only [eqD]; exact RcNeAt.tuple_str _ _ t1 hu0
  | tup k1 k2 k3 k4 =>
   cases rw'; obtain ⟨its2,r2,t2⟩:=Inv.rdT I k2
   simp only [eqD]; exact rnT I n A hu0 t1 t2 r1 r2 h3 k3 h4 k4 fd fe ih
  | lst k1 k2 k3 k4 =>
   cases rw'; obtain ⟨its2,r2,t2⟩:=Inv.rdL I k2
   simp only [eqD]; exact RcNeAt.tuple_list t1 t2 hu0
  | dct k1 k2 k3 k4=>(cases n <;> simp [flat] at fe)
  | exc k1 k2=>(cases n <;> simp [flat] at fe)
  | xd k1 k2=>(cases n <;> simp [flat] at fe)
  | fn _=>(cases n <;> simp [flat] at fe)
 | lst h1 h2 h3 h4 =>
  cases ru; obtain ⟨its1,r1,t1⟩:=Inv.rdL I h2
  cases ry with
  | non =>
   cases rw'
   simp only [eqD]; exact RcNeAt.list_none t1 hu0
  | bl q =>
   cases rw'
   simp only [eqD]; exact RcNeAt.list_bool _ t1 hu0
  | int q =>
   obtain ⟨t2,rfl⟩:=rw'
   simp only [eqD]; exact RcNeAt.list_int _ _ t1 hu0
  | str q =>
   obtain ⟨t2,rfl⟩:=rw'
   simp only [eqD]; exact RcNeAt.list_str _ _ t1 hu0
  | tup k1 k2 k3 k4 =>
   cases rw'; obtain ⟨its2,r2,t2⟩:=Inv.rdT I k2
   simp only [eqD]; exact RcNeAt.list_tuple t1 t2 hu0
  | lst k1 k2 k3 k4 =>
   cases rw'; obtain ⟨its2,r2,t2⟩:=Inv.rdL I k2
   simp only [eqD]; exact rnL I n A hu0 t1 t2 r1 r2 h3 k3 h4 k4 fd fe ih
  | dct k1 k2 k3 k4=>(cases n <;> simp [flat] at fe)
  | exc k1 k2=>(cases n <;> simp [flat] at fe)
  | xd k1 k2=>(cases n <;> simp [flat] at fe)
  | fn _=>(cases n <;> simp [flat] at fe)
 | dct h1 h2 h3 h4=>(cases n <;> simp [flat] at fd)
 | exc h1 h2=>(cases n <;> simp [flat] at fd)
 | xd h1 h2=>(cases n <;> simp [flat] at fd)
 | fn _=>(cases n <;> simp [flat] at fd)
theorem zaf (h:RcAt A s u w k) (hs:u=w→k=true) (hf:∀ b t,u≠Value.float b t):EqAt A s u w k:=fun prog w' E Q hq=>by
 unfold eqBool
 refine Q8 ?_
 refine wpAny_ite_split (fun hab=>?_) (fun _=>?_)
 ·have e:=eq_of_beq hab
  rw [hs e] at hq
  exact W2 (Jh (Wc hq))
 ·cases u with
  | float b t=>exact absurd rfl (hf b t)
  | _=>exact W2 (h prog w' E _ (Qy hq))
theorem z9P (r:Rep H NoO x d) (ru:RelV x u) (b:UInt64) (t:Tok):u≠Value.float b t:=by
 intro e
 subst e
 cases r <;> first | (cases ru; done) | (obtain ⟨t',e⟩:=ru; cases e)
theorem eqAtD (I:Inv X pins σ H s) (n:Nat):EqIt H s n:=by
 induction n with
 | zero =>
  intro A x y u w d e hu fd fe rx ry ru rw'
  refine zaf (rcD I 0 A x y u w d e (by omega) fd fe trivial rx ry ru rw') (fun h=>?_) (z9P rx ru)
  subst h
  have:=ru.inj rw'
  subst this
  rw [Rep.inj rx fd fe ry]
  exact z2R fe
 | succ n ih =>
  intro A x y u w d e hu fd fe rx ry ru rw'
  refine zaf (rcD I (n + 1) A x y u w d e (by omega) fd fe ⟨by omega,ih⟩ rx ry ru rw') (fun h=>?_) (z9P rx ru)
  subst h
  have:=ru.inj rw'
  subst this
  rw [Rep.inj rx fd fe ry]
  exact z2R fe
theorem zfl (I:Inv X pins σ H s):∀ n:Nat,A.units + n + 1 < Qa→z7B H s A n
 | 0,_=>trivial
 | n + 1,h=>⟨by omega,eqAtD I n⟩
def rEqD:R2:=fun x y H Q=>∃ d e,Rep H NoO x d∧Rep H NoO y e∧flat 50 d=true∧flat 50 e=true∧Q (.bl (eqD d e)) H
def rNeD:R2:=fun x y H Q=>∃ d e,Rep H NoO x d∧Rep H NoO y e∧flat 50 d=true∧flat 50 e=true∧Q (.bl (!eqD d e)) H
theorem z2o (hu:X.A.units + 64 < Qa):OpR X (WB .Eq) rEqD:=by
 intro pins s σ H x y v u Q I rx ry h
 obtain ⟨d,e,r1,r2,f1,f2,q⟩:=h
 exact rcD I 50 X.A x y v u d e (by omega) f1 f2 (zfl I 50 (by omega)) r1 r2 rx ry X.prog X.w X.xe _ ⟨.bl _,H,I,rfl,q⟩
theorem z7T (hu:X.A.units + 64 < Qa):OpR X (WB .NotEq) rNeD:=by
 intro pins s σ H x y v u Q I rx ry h
 obtain ⟨d,e,r1,r2,f1,f2,q⟩:=h
 exact rnD I 50 X.A x y v u d e (by omega) f1 f2 (zfl I 50 (by omega)) r1 r2 rx ry X.prog X.w X.xe _ ⟨.bl _,H,I,rfl,q⟩
end
def cutL {α:Type} (xs:List α) (lo hi:Option Int):List α:=(xs.drop (HT.sIx xs.length 0 lo)).take (HT.sIx xs.length xs.length hi - HT.sIx xs.length 0 lo)
theorem zcd (xs:List V) (lo hi:Option Int):cutL xs lo hi=cutV xs lo hi:=rfl
theorem zbC (xs:List α) (lo hi:Option Int):(cutL xs lo hi).length≤xs.length:=by
 unfold cutL
 rw [QV,List.length_drop]
 omega
theorem Reps.cut (lo hi:Option Int) (h:Reps H O vs ds):Reps H O (cutL vs lo hi) (cutL ds lo hi):=by
 unfold cutL
 rw [h.1]
 exact Reps.take _ (Reps.drop _ h)
theorem zaq {α:Type} {xs:List α} {lo hi:Option Int} (h:HT.sIx xs.length 0 lo=0∧HT.sIx xs.length xs.length hi=xs.length):cutL xs lo hi=xs:=by
 unfold cutL
 rw [h.1,h.2]
 simp
section
variable {prog:Wd} {w:Wg} {A:Wf} {E:Value→W1→Prop} {s:W1}
theorem z3d {t sl:Addr} {items:Array Value} {vl vu:Value} {lo hi:Option Int} {Q:Value→W1→Prop} (ht:IsTup s.heap t items) (hs:s.heap.IsSliceOf sl vl vu .none) (pl:IsPart vl lo) (pu:IsPart vu hi)
  (hw:HT.sIx items.size 0 lo=0∧HT.sIx items.size items.size hi=items.size) (h:Q (.ref t) s):W9 (model prog w) A (getItem (.ref t) (.ref sl)) Q E s:=by
 obtain ⟨os,hos,hcs,hds⟩:=id hs
 have hTs:s.TypeIs (.ref sl) "slice":=⟨os,hos,hcs⟩
 unfold getItem
 try with_reducible refine Q8 ?_
 first | refine W2 (Wc ?_) | skip
 refine W2 (wpAny_sequenceKey ht.typeIs (by decide) ?_)
 refine W2 (wpAny_callSpecial?_slot (name:=Str.ofString "__getitem__") ht.typeIs Qj
  (wpAny_call_entry Qj ht.typeIs entry_tuple_getitem ?_ (args_tuple_getitem _ _)))
 show W9 _ _ (Builtin.Tuple.tupleItemsOf (.ref t) >>= _) _ _ s
 refine W2 (tupleItemsOf_ ht ?_)
 refine W2 (QR hTs ?_)
 rw [if_pos (by decide)]
 refine W2 (HT.sliceApplied_gen hs pl pu ?_)
 show W9 _ _ (if (((HT.sIx items.size 0 lo:Nat):Int) == 0 && (1:Int) == 1 && (HT.sIx items.size items.size hi - HT.sIx items.size 0 lo) == items.size)=true then _ else _) _ _ s
 rw [hw.1,hw.2]
 rw [if_pos (by simp)]
 refine W2 (m:=Builtin.Tuple.tupleIsExact (.ref t)) ?_
 unfold Builtin.Tuple.tupleIsExact
 refine W2 (QR ht.typeIs (Wc ?_))
 rw [if_pos (by decide)]
 exact W2 (Jh (W2 (Wc (Wc ⟨_,rfl,Wc h⟩))))
end
section
variable {X:Cx}
def zeb (K:W0):V→Option Int→Option Int→Hp→VK→Prop:=fun x lo hi H Q=>∃ a xs,x = .ref a∧SqT K H a xs ∧
 ((HT.sIx xs.length 0 lo=0∧HT.sIx xs.length xs.length hi=xs.length)→Q (.ref a) H)∧(¬ (HT.sIx xs.length 0 lo=0∧HT.sIx xs.length xs.length hi=xs.length)→∀ p,H p=none→Q (.ref p) (upd H p (.tup (cutV xs lo hi))))
theorem sl_tup2:SlR X (zeb X.K):=by
 intro pins s σ H x v vl vu lo hi sl Q I rx hs pl pu h
 obtain ⟨a,xs,rfl,hx,q1,q2⟩:=h
 by_cases hw:HT.sIx xs.length 0 lo=0∧HT.sIx xs.length xs.length hi=xs.length
 ·cases rx
  obtain ⟨its,r,ht,hz⟩:=I.tuple hx
  have hlen:its.toArray.size=xs.length:=by rw [Wo]; exact r.length.symm
  refine ⟨"tuple",_,PyProof.Rows.slot_tuple_getitem.lookup,ht.typeIs,?_⟩
  exact z3d ht hs pl pu (by rw [hlen]; exact hw) ⟨.ref a,H,I,rfl,q1 hw⟩
 ·exact zdV pins s σ H (.ref a) v vl vu lo hi sl Q I rx hs pl pu ⟨a,xs,rfl,hx,hw,q2 hw⟩
theorem z9e (a b:Nat):sliceRange (a:Int) (b:Int) 1=(Qk (b - a)).map (fun k=>a + k):=by
 have h0:((1:Int) > 0)=True:=by simp
 unfold sliceRange
 simp only [h0,if_true]
 by_cases hlt:(a:Int) < (b:Int)
 ·rw [if_pos hlt]
  have e3:(((b:Int) - (a:Int) + 1 - 1) / 1).toNat=b - a:=by
   rw [Int.ediv_one]; omega
  rw [e3]
  refine List.map_congr_left fun k _=>?_
  omega
 ·rw [if_neg hlt]
  have:b - a=0:=by omega
  rw [this]
  rfl
theorem z5e (lo hi:Option Int) (n:Nat):Qe lo hi 1 n=(Qk (HT.sIx n n hi - HT.sIx n 0 lo)).map (fun k=>HT.sIx n 0 lo + k):=by
 have c:∀ (i:Int) (d:Nat),max 0 (min (if i < 0 then i + (n:Int) else i) (n:Int))=((HT.sIx n d (some i):Nat):Int):=by
  intro i d
  show max 0 (min (if i < 0 then i + (n:Int) else i) (n:Int))=(((if i < 0 then (i + (n:Int)).toNat else min i.toNat n):Nat):Int)
  by_cases hi:i < 0
  ·simp only [if_pos hi]; omega
  ·simp only [if_neg hi]; omega
 have h0:((1:Int) > 0)=True:=by simp
 rw [← z9e]
 unfold Qe
 simp only [h0,if_true]
 cases lo with
 | none =>
  cases hi with
  | none=>rfl
  | some j=>show sliceRange 0 (max 0 (min (if j < 0 then j + (n:Int) else j) (n:Int))) 1=_; rw [c j n]; rfl
 | some i =>
  cases hi with
  | none=>show sliceRange (max 0 (min (if i < 0 then i + (n:Int) else i) (n:Int))) (n:Int) 1=_; rw [c i 0]; rfl
  | some j=>show sliceRange (max 0 (min (if i < 0 then i + (n:Int) else i) (n:Int))) (max 0 (min (if j < 0 then j + (n:Int) else j) (n:Int))) 1=_; rw [c i 0,c j n]
theorem zcq (x:Tx) (lo hi:Option Int):(⟨((Qe lo hi 1 (toS x).length).filterMap ((toS x).cps[·]?)).toArray⟩:Str)=toS (cutL x lo hi):=by
 unfold toS
 congr 1
 rw [z5e]
 have:=pick_run (x.toArray) (HT.sIx x.length 0 lo) (HT.sIx x.length x.length hi - HT.sIx x.length 0 lo)
 have hl:({ cps:=x.toArray }:Str).length=x.length:=by simp [Str.length]
 rw [hl]
 rw [this]
 rfl
def rSlS:V→Option Int→Option Int→Hp→VK→Prop:=fun x lo hi H Q=>∃ z:Tx,x = .str (toS z)∧z.length≤W6∧Q (.str (toS (cutL z lo hi))) H
theorem z9z (p:IsPart v o):∃ q:Option (Int×Tok),v=partValue q∧q.map (·.1)=o:=by
 cases p with
 | none=>exact ⟨none,rfl,rfl⟩
 | int i t=>exact ⟨some (i,t),rfl,rfl⟩
theorem sl_str:SlR X rSlS:=by
 intro pins s σ H x v vl vu lo hi sl Q I rx hs pl pu h
 obtain ⟨z,rfl,hz,q⟩:=h
 obtain ⟨t,rfl⟩:=rx
 obtain ⟨l,rfl,el⟩:=z9z pl
 obtain ⟨u,rfl,eu⟩:=z9z pu
 obtain ⟨o,ho,hc,hd⟩:=hs
 refine ⟨"str",_,F.slot_str_getitem.lookup,typeIs_str s _ t,?_⟩
 refine wpAny_getItem_str_slice (l:=l) (u:=u) (st:=none) ⟨o,ho,hc,hd⟩ rfl ?_
 unfold sliceMade
 have e:(slicePicked (toS z) l u none)=Qe lo hi 1 (toS z).length:=by
  unfold slicePicked
  rw [el,eu]
  rfl
 rw [e]
 by_cases hw:(((none:Option (Int×Tok)).map (·.1)).getD 1 == 1 && (Qe lo hi 1 (toS z).length).length == (toS z).length)=true
 ·rw [if_pos hw]
  refine ⟨.str (toS (cutL z lo hi)),H,I,⟨t,?_⟩,q⟩
  congr 1
  rw [Wn] at hw
  have hw2:=eq_of_beq hw.2
  rw [z5e,Wz,List.length_range,z1Y] at hw2
  have h1:=HT.sIx_le z.length 0 (QP _) lo
  have h2:=HT.sIx_le z.length z.length (We _) hi
  unfold cutL
  congr 1
  by_cases h0:z.length=0
  ·have:z=[]:=List.eq_nil_of_length_eq_zero h0
   subst this
   simp
  ·have a1:HT.sIx z.length 0 lo=0:=by omega
   rw [a1] at hw2 ⊢
   rw [hw2]
   simp
 ·rw [if_neg hw]
  show Made.post (.str _) _ _
  rw [zcq]
  exact ⟨by rw [z1Y]; exact WP (zbC z lo hi) hz,.str (toS (cutL z lo hi)),H,I.tok _,⟨_,rfl⟩,q⟩
theorem op_catT0:OpR X (WZ .Add) (fun x y H Q=>∃ a b ys,x = .ref a∧y = .ref b∧SqT X.K H a []∧SqT X.K H b ys∧Q (.ref b) H):=by
 intro pins s σ H x y v u Q I rx ry h
 obtain ⟨a,b,ys,rfl,rfl,ha,hb,q⟩:=h
 cases rx
 cases ry
 obtain ⟨its,r1,p1,_⟩:=I.tuple ha
 obtain ⟨its2,r2,p2,_⟩:=I.tuple hb
 cases r1
 obtain ⟨⟨cls,dd,data,sl⟩,ho,hc,n,hd⟩:=id p1
 obtain ⟨⟨cls2,dd2,data2,sl2⟩,ho2,hc2,n2,hd2⟩:=id p2
 simp only at hc hd hc2 hd2
 subst hc hd hc2 hd2
 exact concat_meets ⟨_,ho,rfl⟩ ⟨_,ho2,rfl⟩ noFill_tuple_add seq_tuple_add PySem.F.slot_tuple_add PySem.F.entry_tuple_add (PySem.F.args_tuple_add_2 _ _)
   (tuple_addW0 a b #[] its2.toArray n n2 dd dd2 sl sl2 rfl) ⟨ho,ho2,.ref b,H,I,rfl,q⟩
def zeh (K:W0):R2:=fun x y H Q=>∃ l b xs zs,x = .ref l∧y = .ref b∧SqL K H l xs∧SqL K H b zs∧xs.length + zs.length≤W6∧∀ p,H p=none→Q (.ref p) (upd H p (.lst (xs ++ zs)))
theorem zd0:OpR X (WZ .Add) (zeh X.K):=by
 intro pins s σ H x y v u Q I rx ry h
 obtain ⟨l,b,xs,zs,rfl,rfl,hH,hB,hz,q⟩:=h
 cases rx
 cases ry
 obtain ⟨its,r,⟨⟨cls,dd,data,sl⟩,n,e,hc,hdd,hd⟩,z⟩:=I.list hH
 obtain ⟨its2,r2,⟨⟨cls2,dd2,data2,sl2⟩,n2,e2,hc2,hdd2,hd2⟩,z2⟩:=I.list hB
 simp only at hc hd hdd hc2 hd2 hdd2
 subst hc hd hdd hc2 hd2 hdd2
 have hl:=r.length
 have hl2:=r2.length
 refine concat_meets ⟨_,e,rfl⟩ ⟨_,e2,rfl⟩ noFill_list_add seq_list_add PySem.F.slot_list_add PySem.F.entry_list_add (PySem.F.args_list_add_2 _ _)
   (list_addW l b its.toArray its2.toArray n n2 none none sl sl2 (by rw [Wo,Wo]; omega)) ⟨e,e2,?_⟩
 have ea:its.toArray ++ its2.toArray=(its ++ its2).toArray:=by simp
 rw [ea]
 exact ⟨.ref _,_,I.lnew (t':=s.toks) (r.append r2) (by rw [Q3]; omega),rfl,q _ I.fresh⟩
theorem z2L:∀ {ys:List Str} {us:List Value},Vals (ys.map V.str) us→StrsAre us ys
 | [],us,r=>by cases r; exact .nil
 | y :: ys,us,r=>by
  cases r with
  | cons r1 r2 =>
   obtain ⟨t,rfl⟩:=r1
   exact .cons y t (z2L r2)
theorem vals_strs:∀ {ys:List Str} {us:List Value},StrsAre us ys→Vals (ys.map V.str) us
 | _,_,.nil=>.nil
 | _,_,.cons y t h=>.cons ⟨t,rfl⟩ (vals_strs h)
def zb0 (K:W0):V→List V→Hp→VK→Prop:=fun x vs H Q=>∃ (z:Str) (a:Addr) (ys:List Str),x = .str z∧vs=[.ref a]∧(SqL K H a (ys.map V.str)∨SqT K H a (ys.map V.str)) ∧
 (ys.map (·.length)).sum + ys.length * z.length≤16777216∧Q (.str (Txt.join z ys)) H
theorem zd7:MtR X "str.join" (zb0 X.K):=by
 intro pins s σ H x vs v us Q I rx rv h
 obtain ⟨z,a,ys,rfl,rfl,hq,hz,q⟩:=h
 obtain ⟨t,rfl⟩:=rx
 obtain ⟨u,rfl,ru⟩:=rv.one
 cases ru
 rcases hq with hq | hq
 ·obtain ⟨its,r,p,_⟩:=I.list hq
  exact join_list p.isList (by simpa using z2L r) hz fun t' k=>⟨.str _,H,I.tok _,⟨t',rfl⟩,q⟩
 ·obtain ⟨its,r,p,_⟩:=I.tuple hq
  exact join_tuple p (by simpa using z2L r) hz fun t' k=>⟨.str _,H,I.tok _,⟨t',rfl⟩,q⟩
def insT (x:Tx):List Tx→List Tx
 | []=>[x]
 | y :: r=>if y < x then y :: insT x r else x :: y :: r
def z3P:List Tx→List Tx
 | []=>[]
 | x :: r=>insT x (z3P r)
theorem z4O (x:Tx):∀ l:List Tx,(insT x l).Perm (x :: l)
 | []=>.refl _
 | y :: r=>by
  unfold insT
  split
  ·exact ((z4O x r).cons y).trans (.swap x y r)
  ·exact .refl _
theorem z3O:∀ l:List Tx,(z3P l).Perm l
 | []=>.refl _
 | x :: r=>(z4O x _).trans ((z3O r).cons x)
abbrev leT (a b:Tx):Prop:=¬ b < a
theorem z6A (h1:leT a b) (h2:leT b c):leT a c:=List.not_lt.mpr (List.le_trans (List.not_lt.mp h1) (List.not_lt.mp h2))
theorem zbk (h1:leT a b) (h2:leT b a):a=b:=List.le_antisymm (List.not_lt.mp h1) (List.not_lt.mp h2)
theorem z4N (x:Tx):∀ l:List Tx,l.Pairwise leT→(insT x l).Pairwise leT
 | [],_=>by simp [insT]
 | y :: r,h=>by
  unfold insT
  obtain ⟨h1,h2⟩:=List.pairwise_cons.mp h
  split
  ·rename_i hlt
   refine Jd.mpr ⟨fun z hz=>?_,z4N x r h2⟩
   rcases Wp.mp ((z4O x r).mem_iff.mp hz) with e | hz
   ·subst e
    intro q
    exact absurd (List.lt_trans hlt q) (List.lt_irrefl _)
   ·exact h1 z hz
  ·rename_i hge
   refine Jd.mpr ⟨fun z hz=>?_,h⟩
   rcases Wp.mp hz with e | hz
   ·subst e; exact hge
   ·exact z6A hge (h1 z hz)
theorem z45:∀ l:List Tx,(z3P l).Pairwise leT
 | []=>.nil
 | x :: r=>z4N x _ (z45 r)
theorem zaN (hp:l'.Perm l) (hs:l'.Pairwise leT):l'=z3P l :=
 List.Perm.eq_of_pairwise (fun _ _ _ _ h1 h2=>zbk h1 h2) hs (z45 l) (hp.trans (z3O l).symm)
theorem z6f:∀ (x:Str) (r:List Str),risingS x r=true→((x :: r).map fun z:Str=>z.cps.toList).Pairwise leT
 | x,[],_=>by simp
 | x,y :: r,h=>by
  have h':(!ltCps y.cps.toList x.cps.toList && risingS y r)=true:=h
  rw [Wn] at h'
  have ih:=z6f y r h'.2
  have hxy:leT x.cps.toList y.cps.toList:=by
   have:=h'.1
   rw [ltCps_eq] at this
   simpa using this
  rw [Wu]
  refine Jd.mpr ⟨fun z hz=>?_,ih⟩
  rw [Wu] at hz ih
  rcases Wp.mp hz with e | hz
  ·subst e; exact hxy
  ·exact z6A hxy ((List.pairwise_cons.mp ih).1 z hz)
theorem z6U:CallR X (.builtin "sorted") (fun xs H Q=>∃ (a:Addr) (ts:List Tx),xs=[.ref a]∧SqL X.K H a (ts.map fun z=>V.str (toS z))∧ts.length < 64∧∀ p,H p=none→Q (.ref p) (upd H p (.lst ((z3P ts).map fun z=>V.str (toS z))))):=by
 intro pins s σ H xs us Q I r h
 obtain ⟨a,ts,rfl,hq,hz,q⟩:=h
 obtain ⟨u,rfl,ru⟩:=z3L r
 cases ru
 obtain ⟨its,r',p,_⟩:=I.list hq
 have r2:Vals ((ts.map toS).map V.str) its:=by rw [Ql]; exact r'
 have hlen:=r'.length
 rw [Wz] at hlen
 refine sorted_strs p.isList (z2L r2) (by omega) fun out ss hS hp hs=>?_
 have e:ss=(z3P ts).map toS:=by
  have hpw:(ss.map fun z:Str=>z.cps.toList).Pairwise leT:=by
   cases ss with
   | nil=>simp
   | cons x r=>exact z6f x r hs
  have hpp:(ss.map fun z:Str=>z.cps.toList).Perm ts:=by
   have:=hp.map fun z:Str=>z.cps.toList
   rw [Ql] at this
   have e2:ts.map ((fun z:Str=>z.cps.toList) ∘ toS)=ts:=by
    rw [show ((fun z:Str=>z.cps.toList) ∘ toS)=id from funext fun z=>z5z z,List.map_id]
   rw [e2] at this
   exact this
  rw [← zaN hpp hpw,Ql]
  have:(toS ∘ fun z:Str=>z.cps.toList)=id:=funext fun z=>(zbP z).symm
  rw [this,List.map_id]
 obtain ⟨ep,he⟩:=sortedAll_at s.heap its out
 have hv:Vals ((z3P ts).map fun z=>V.str (toS z)) out.toList:=by
  have:=vals_strs hS
  rw [e,Ql] at this
  exact this
 have hl2:((z3P ts).map fun z=>V.str (toS z)).length≤W6:=by
  rw [Wz,(z3O ts).length_eq]
  exact WP (J5 hz) (by rw [sizeLine_eq]; decide)
 refine ⟨.ref (s.heap.objs.size + 1),_,I.laid (a:=s.heap.objs.size + 1) (o:=.lst ((z3P ts).map fun z=>V.str (toS z))) (t':=s.toks) (fun b u e=>sortedAll_old e) (Nat.le_succ _) ?_,rfl,q _ (I.hok.fresh (Nat.le_succ _))⟩
 exact ⟨hl2,out.toList,ep,hv,by simpa [seqObj] using he⟩
end
def p2 (p:D→D→Option S) (x y:D) (δ:Dl):Rs S:=match p x y with
 | some s=>.ok s δ
 | none=>.stuck
def eOp (p:D→D→Option S) (fa:DE) (fb:BE):DE:=fun δ=>(fa δ).bind fun x δ1=>(fb δ1).bind fun y δ2=>p2 p x.d y δ2
def eOpN (p:D→D→Option S) (i:Nat) (fb:BE):DE:=fun δ=>(fb δ).bind fun y δ1=>(bVar i δ1).bind fun x δ2=>p2 p x y δ2
def Op2 (r:R2) (p:D→D→Option S):Prop:=∀ (c:Fc) (σ:St) (δ:Dl) (H:Hp) (x y:V) (d e:D) (s:S) (Q:VK),Ok c σ δ H→RepB c σ δ H x d→RepB c σ δ H y e→p d e=some s →
 (∀ v H',Aft c σ δ H σ δ H'→RepS c σ δ H H' v s→Q v H')→r x y H Q
section
variable {X:Cx} {c:Fc} {a b:Expr} {fa:DE} {fb:BE} {r:R2} {p:D→D→Option S} {pos:Pos}
theorem z7d (hp:Op2 r p) (k:Ok c σ δ H) (rx:RepB c σ δ H x d) (ry:RepB c σ δ H y e)
  (h:post c (p2 p d e δ) fun s δ'=>∀ v H',Aft c σ δ H σ δ' H'→RepS c σ δ' H H' v s→Q v H'):r x y H Q:=by
 unfold p2 at h
 cases e1:p d e with
 | none=>rw [e1] at h; exact h.elim
 | some s=>rw [e1] at h; exact hp c σ δ H x y d e s Q k rx ry e1 h
theorem z5O (hp:Op2 r p) (h:tD c (eOp p fa fb) σ H Q):tOp r (tD c fa) (tB c fb) σ H Q:=by
 obtain ⟨δ,k,q⟩:=h
 refine ⟨δ,k,?_⟩
 unfold eOp at q
 rw [z02] at q
 refine z01 q fun x δ1 q1 v H1 a1 r1=>⟨δ1,a1.ok,?_⟩
 rw [z02] at q1
 refine z01 q1 fun y δ2 q2 u H2 a2 r2=>?_
 exact z7d hp a2.ok (.inl (Rep.aft r1.rep a2)) r2 (z01 q2 fun s δ3 q3 v' H3 a3 r3=>q3 v' H3 (a1.trans (a2.trans a3)) (RepS.back r3 (a1.trans a2)))
theorem zbb (hp:Op2 r p) (h:tD c (eOpN p i fb) σ H Q) (hv:∀ δ,Ok c σ δ H→post c (fb δ) (fun _ _=>True)→∃ v,σ[i]? = some (some v)):tOp r (tVar i) (tB c fb) σ H Q:=by
 obtain ⟨δ,k,q⟩:=h
 unfold eOpN at q
 rw [z02] at q
 obtain ⟨v,ev⟩:=hv δ k (z01 q fun _ _ _=>trivial)
 refine ⟨v,ev,δ,k,z01 q fun y δ1 q1 u H1 a1 r1=>?_⟩
 rw [z02] at q1
 unfold bVar at q1
 cases e:δ1[i]? with
 | none=>rw [e] at q1; exact q1.elim
 | some o =>
  cases o with
  | none=>rw [e] at q1; exact q1.elim
  | some w =>
   rw [e] at q1
   have q1':post c (p2 p w.d y δ1) fun s δ'=>∀ v H',Aft c σ δ H σ δ' H'→RepS c σ δ' H H' v s→Q v H':=q1
   have rb:RepB c σ δ1 H1 v w.d:=by
    cases w with
    | pure d =>
     obtain ⟨v',e1,r⟩:=a1.ok.slot i d e
     rw [ev] at e1; cases e1
     exact .inl r
    | own d =>
     obtain ⟨a,e1,r,_⟩:=a1.ok.own i d e
     rw [ev] at e1; cases e1
     exact .inr ⟨a,rfl,r⟩
   exact z7d hp a1.ok rb r1 (z01 q1' fun s δ3 q3 v' H3 a3 r3=>q3 v' H3 (a1.trans a3) (RepS.back r3 a1))
theorem z1J {i:Nat} {σ:St} {δ:Dl} {H:Hp} (k:Ok c σ δ H) {w:S} (e:δ[i]? = some (some w)):∃ v,σ[i]? = some (some v):=by
 cases w with
 | pure d=>obtain ⟨v,e1,_⟩:=k.slot i d e; exact ⟨v,e1⟩
 | own d=>obtain ⟨a,e1,_⟩:=k.own i d e; exact ⟨_,e1⟩
end
def eOpF (p:D→D→Option S) (i:Nat) (fb:BE):DE:=fun δ=>match δ[i]? with
 | some (some _)=>eOpN p i fb δ
 | _=>.stuck
section
variable {X:Cx} {c:Fc} {a b:Expr} {fa:DE} {fb:BE} {r:R2} {p:D→D→Option S} {pos:Pos}
theorem z4j (hp:Op2 r p) {i:Nat} {σ:St} {H:Hp} {Q:VK} (h:tD c (eOpF p i fb) σ H Q):tOp r (tVar i) (tB c fb) σ H Q:=by
 obtain ⟨δ,k,q⟩:=h
 unfold eOpF at q
 cases e:δ[i]? with
 | none=>rw [e] at q; exact q.elim
 | some o =>
  cases o with
  | none=>rw [e] at q; exact q.elim
  | some w =>
   rw [e] at q
   obtain ⟨v,ev⟩:=z1J k e
   exact zbb hp (i:=i) ⟨δ,k,q⟩ fun _ _ _=>⟨v,ev⟩
theorem z1k {op:Operator} (ho:OpR X (WZ op) r) (hp:Op2 r p) (ha:SE X c a fa) (hb:SB X c b fb):SE X c (.BinOp a op b pos) (eOp p fa fb):=PE.weak (zez ho ha hb) fun _ _ _ h=>z5O hp h
theorem z1o {op:Operator} {i:Nat} (ho:OpR X (WZ op) r) (hp:Op2 r p) (ha:PE X a (tVar i)) (hb:SB X c b fb):SE X c (.BinOp a op b pos) (eOpF p i fb):=PE.weak (zez ho ha hb) fun _ _ _ h=>z4j hp h
theorem z95 {op:CmpOp} (ho:OpR X (WB op) r) (hp:Op2 r p) (ha:SE X c a fa) (hb:SB X c b fb) (hm:Q7 op b=false):SE X c (.Compare a [op] [b] pos) (eOp p fa fb):=PE.weak (z9u ho ha hb hm) fun _ _ _ h=>z5O hp h
theorem zcz {op:CmpOp} {i:Nat} (ho:OpR X (WB op) r) (hp:Op2 r p) (ha:PE X a (tVar i)) (hb:SB X c b fb) (hm:Q7 op b=false):SE X c (.Compare a [op] [b] pos) (eOpF p i fb):=PE.weak (z9u ho ha hb hm) fun _ _ _ h=>z4j hp h
theorem z3r (hr:IxR X r) (hp:Op2 r p) (ha:SE X c a fa) (hb:SB X c b fb) (hs:z7A b):SE X c (.Subscript a b pos) (eOp p fa fb):=PE.weak (zeE hr ha hb hs) fun _ _ _ h=>z5O hp h
theorem z0w {i:Nat} (hr:IxR X r) (hp:Op2 r p) (ha:PE X a (tVar i)) (hb:SB X c b fb) (hs:z7A b):SE X c (.Subscript a b pos) (eOpF p i fb):=PE.weak (zeE hr ha hb hs) fun _ _ _ h=>z4j hp h
end
abbrev DT:=Dl→Rs Bool
def tT (c:Fc) (f:DT):TT:=fun σ H Q=>∃ δ,Ok c σ δ H∧post c (f δ) fun b δ'=>∀ H',Aft c σ δ H σ δ' H'→Q b H'
abbrev ST (X:Cx) (c:Fc) (e:Expr) (f:DT):Prop:=PT X e (tT c f)
theorem PT.weak (h:PT X e t) (w:∀ σ H Q,t' σ H Q→t σ H Q):PT X e t':=fun pins s σ H Q I q=>h pins s σ H Q I (w σ H Q q)
def dTr (f:DE):DT:=fun δ=>(f δ).bind fun r δ'=>match r with
 | .pure (.bl b)=>.ok b δ'
 | _=>.stuck
section
variable {X:Cx} {c:Fc} {a b:Expr} {fa f:DE} {fb:BE} {r:R2} {p:D→D→Option S} {pos:Pos}
theorem z73 (h:tT c (dTr f) σ H Q):tD c f σ H fun x H'=>∃ k,x = .bl k∧Q k H':=by
 obtain ⟨δ,k,q⟩:=h
 refine ⟨δ,k,?_⟩
 unfold dTr at q
 rw [z02] at q
 refine z01 q fun r δ1 q1 v H1 a1 r1=>?_
 cases r with
 | own d=>exact q1.elim
 | pure d =>
  cases d <;> first | exact q1.elim | skip
  rename_i b
  cases r1
  exact ⟨b,rfl,q1 H1 a1⟩
theorem z2W {op:CmpOp} (ho:OpR X (WB op) r) (hp:Op2 r p) (ha:SE X c a fa) (hb:SB X c b fb) (hm:Q7 op b=false):ST X c (.Compare a [op] [b] pos) (dTr (eOp p fa fb)) :=
 PT.weak (z9l ho ha hb hm) fun σ H Q h=>z5O hp (z73 h)
theorem z1Z {op:CmpOp} {i:Nat} (ho:OpR X (WB op) r) (hp:Op2 r p) (ha:PE X a (tVar i)) (hb:SB X c b fb) (hm:Q7 op b=false):ST X c (.Compare a [op] [b] pos) (dTr (eOpF p i fb)) :=
 PT.weak (z9l ho ha hb hm) fun σ H Q h=>z4j hp (z73 h)
theorem z2V {e:Expr} (h:SE X c e f) (he:∀ whole,isTrue e X.env whole=(do let v ← whole; standAt e.pos; holding [v] (truthy v)):=by intro _; rfl):ST X c e (dTr f) :=
 PT.weak (zep h he) fun σ H Q h=>z73 h
def dAnd (t u:DT):DT:=fun δ=>(t δ).bind fun b δ1=>if b then u δ1 else .ok false δ1
def dOr (t u:DT):DT:=fun δ=>(t δ).bind fun b δ1=>if b then .ok true δ1 else u δ1
def dNot (t:DT):DT:=fun δ=>(t δ).bind fun b δ1=>.ok (!b) δ1
abbrev SW (X:Cx) (c:Fc) (e:Expr) (f:DT):Prop:=PW X e (tT c f)
theorem PW.weak (h:PW X e t) (w:∀ σ H Q,t' σ H Q→t σ H Q):PW X e t':=fun wh pins s σ H Q I q=>h wh pins s σ H Q I (w σ H Q q)
variable {t u:DT} {rest:List Expr}
theorem zcp (ha:ST X c a t):SW X c (.BoolOp .And [a] pos) t:=zcM ha
theorem z5c (ha:ST X c a t):SW X c (.BoolOp .Or [a] pos) t:=zem ha
theorem zdS (ha:ST X c a t) (hb:SW X c (.BoolOp .And (b :: rest) pos) u):SW X c (.BoolOp .And (a :: b :: rest) pos) (dAnd t u):=PW.weak (zen ha hb) fun σ H Q ⟨δ,k,q⟩=>by
 unfold dAnd at q
 rw [z02] at q
 refine ⟨δ,k,z01 q fun x δ1 q1 H1 a1=>?_⟩
 cases x with
 | true=>exact ⟨δ1,a1.ok,z01 q1 fun y δ2 q2 H2 a2=>q2 H2 (a1.trans a2)⟩
 | false=>exact q1 H1 a1
theorem z8f (ha:ST X c a t) (hb:SW X c (.BoolOp .Or (b :: rest) pos) u):SW X c (.BoolOp .Or (a :: b :: rest) pos) (dOr t u):=PW.weak (pw_or ha hb) fun σ H Q ⟨δ,k,q⟩=>by
 unfold dOr at q
 rw [z02] at q
 refine ⟨δ,k,z01 q fun x δ1 q1 H1 a1=>?_⟩
 cases x with
 | false=>exact ⟨δ1,a1.ok,z01 q1 fun y δ2 q2 H2 a2=>q2 H2 (a1.trans a2)⟩
 | true=>exact q1 H1 a1
theorem z75 (h:SW X c a t):ST X c a t:=PW.pt h
theorem z3o (ha:ST X c a t):ST X c (.UnaryOp .Not a pos) (dNot t):=PT.weak (zeq ha) fun σ H Q ⟨δ,k,q⟩=>by
 unfold dNot at q
 rw [z02] at q
 exact ⟨δ,k,q⟩
def eAnd (f g:DE):DE:=fun δ=>(f δ).bind fun r δ1=>match r with
 | .pure (.bl true)=>g δ1
 | .pure (.bl false)=>.ok (.pure (.bl false)) δ1
 | _=>.stuck
def eNot (f:DE):DE:=fun δ=>(f δ).bind fun r δ1=>match r with
 | .pure (.bl b)=>.ok (.pure (.bl (!b))) δ1
 | _=>.stuck
def eIf (t:DT) (f g:DE):DE:=fun δ=>(t δ).bind fun b δ1=>if b then f δ1 else g δ1
variable {g:DE}
theorem z93 {op} (h:SE X c a f):SE X c (.BoolOp op [a] pos) f:=zeA h
theorem z96 (ha:SE X c a f) (hb:SE X c (.BoolOp .And (b :: rest) pos) g):SE X c (.BoolOp .And (a :: b :: rest) pos) (eAnd f g):=PE.weak (zeH ha hb) fun σ H Q ⟨δ,k,q⟩=>by
 unfold eAnd at q
 rw [z02] at q
 refine ⟨δ,k,z01 q fun r δ1 q1 v H1 a1 r1=>?_⟩
 cases r with
 | own d=>exact q1.elim
 | pure d =>
  cases d <;> first | exact q1.elim | skip
  rename_i b
  cases r1
  refine ⟨b,rfl,?_⟩
  cases b with
  | true=>exact ⟨δ1,a1.ok,z01 q1 fun y δ2 q2 v H2 a2 r2=>q2 v H2 (a1.trans a2) (RepS.back r2 a1)⟩
  | false=>exact q1 _ H1 a1 (.bl false)
theorem zdX (ha:SE X c a f):SE X c (.UnaryOp .Not a pos) (eNot f):=PE.weak (zeB ha) fun σ H Q ⟨δ,k,q⟩=>by
 unfold eNot at q
 rw [z02] at q
 refine ⟨δ,k,z01 q fun r δ1 q1 v H1 a1 r1=>?_⟩
 cases r with
 | own d=>exact q1.elim
 | pure d =>
  cases d <;> first | exact q1.elim | skip
  rename_i b
  cases r1
  exact ⟨b,rfl,q1 _ H1 a1 (.bl _)⟩
end
section
variable {c:Fc} {σ:St} {δ:Dl} {H:Hp} {x:V}
theorem RepB.int (h:RepB c σ δ H x (.int i)):x = .int i:=by
 rcases h with h | ⟨_,_,h⟩
 ·cases h; rfl
 ·exact h.elim
theorem RepB.bl (h:RepB c σ δ H x (.bl b)):x = .bl b:=by
 rcases h with h | ⟨_,_,h⟩
 ·cases h; rfl
 ·exact h.elim
theorem RepB.str (h:RepB c σ δ H x (.str z)):x = .str (toS z):=by
 rcases h with h | ⟨_,_,h⟩
 ·cases h; rfl
 ·exact h.elim
theorem RepB.tup (h:RepB c σ δ H x (.tup ds)):∃ a vs,x = .ref a∧H a=some (.tup vs)∧Reps H (Av c σ δ) vs ds:=by
 rcases h with h | ⟨_,_,h⟩
 ·cases h with
  | tup h1 h2 h3 h4=>exact ⟨_,_,rfl,h2,h3,h4⟩
 ·exact h.elim
theorem RepB.lst (h:RepB c σ δ H x (.lst ds)):∃ a vs,x = .ref a∧Rd H a (.lst vs)∧Reps H (Av c σ δ) vs ds:=by
 rcases h with h | ⟨a,e,h⟩
 ·cases h with
  | lst h1 h2 h3 h4=>exact ⟨_,_,rfl,h2,h3,h4⟩
 ·obtain ⟨vs,h1,h2⟩:=h
  exact ⟨a,vs,e,.inl h1,h2⟩
theorem RepB.dct (h:RepB c σ δ H x (.dct ds)):∃ a ws,x = .ref a∧H a=some (.dK ws)∧ws.map (·.1)=ds.map (fun p=>kOf p.1)∧∀ (i:Nat) p q,ws[i]? = some p→ds[i]? = some q→Rep H (Av c σ δ) p.2 q.2:=by
 rcases h with h | ⟨a,e,h⟩
 ·cases h with
  | dct h1 h2 h3 h4=>exact ⟨_,_,rfl,h2,h3,h4⟩
 ·obtain ⟨ws,h1,h2,h3⟩:=h
  exact ⟨a,ws,e,h1,h2,h3⟩
end
theorem z5d (h:z.length≤W6):(toS z).length≤W6:=by rw [z1Y]; exact h
theorem zcl (x y:Tx):toS x ++ toS y=toS (x ++ y):=by
 show Str.append (toS x) (toS y)=_
 simp [toS,Str.append]
def pAdd:D→D→Option S
 | .int i,.int j=>some (.pure (.int (i + j)))
 | .str x,.str y=>if x.length + y.length≤W6 then some (.pure (.str (x ++ y))) else none
 | .tup xs,.tup ys=>if xs.length + ys.length≤W6 then some (.pure (.tup (xs ++ ys))) else none
 | .lst xs,.lst ys=>if xs.length + ys.length≤W6 then some (.own (.lst (xs ++ ys))) else none
 | _,_=>none
def zei (K:W0):R2:=fun x y H Q=>rI0 (fun i j=>V.int (i + j)) x y H Q∨(∃ i j,x = .str i∧y = .str j∧i.length + j.length≤W6∧Q (.str (i ++ j)) H) ∨
 (∃ a b ys,x = .ref a∧y = .ref b∧SqT K H a []∧SqT K H b ys∧Q (.ref b) H)∨zeg K x y H Q∨zeh K x y H Q
theorem z1g:OpR X (WZ .Add) (zei X.K):=op_add.or (op_add_str.or (op_catT0.or (op_catT.or zd0)))
theorem z1O {K:W0}:Op2 (zei K) pAdd:=by
 intro c σ δ H x y d e s Q k rx ry hp q
 cases d <;> cases e <;> first
  | (simp [pAdd] at hp; done)
  | skip
 ·rename_i i j
  simp only [pAdd,W7] at hp
  subst hp
  exact .inl ⟨i,j,rx.int,ry.int,q _ H (.refl k) (.int _)⟩
 ·rename_i u w
  simp only [pAdd] at hp
  split at hp
  ·rename_i hz
   simp only [W7] at hp
   subst hp
   refine .inr (.inl ⟨toS u,toS w,rx.str,ry.str,by rw [z1Y,z1Y]; exact hz,?_⟩)
   rw [zcl]
   exact q _ H (.refl k) (.str _)
  ·cases hp
 ·rename_i us ws
  simp only [pAdd] at hp
  split at hp
  ·rename_i hz
   simp only [W7] at hp
   subst hp
   obtain ⟨a,vs,ea,ha,ra⟩:=rx.tup
   obtain ⟨b,zs,eb,hb,rb⟩:=ry.tup
   cases vs with
   | nil =>
    have:us=[]:=by have:=ra.1; simpa using this.symm
    subst this
    refine .inr (.inr (.inl ⟨a,b,zs,ea,eb,.of ha,.of hb,?_⟩))
    rw [eb] at ry
    rcases ry with ry | ⟨_,_,ry⟩
    ·exact q _ H (.refl k) ry
    ·exact ry.elim
   | cons v0 vr =>
    refine .inr (.inr (.inr (.inl ⟨a,b,_,zs,ea,eb,.of ha,.of hb,by simp,by rw [ra.1,rb.1]; exact hz,fun e0=>?_,fun _ p hp=>?_⟩)))
    ·subst e0
     have:ws=[]:=by have:=rb.1; simpa using this.symm
     subst this
     rw [ea] at rx
     rcases rx with rx | ⟨_,_,rx⟩
     ·rw [WJ] at q
      exact q _ H (.refl k) rx
     ·exact rx.elim
    ·exact q _ _ (.alloc k hp _) (RepS.newT k (ra.append rb) hp)
  ·cases hp
 ·rename_i us ws
  simp only [pAdd] at hp
  split at hp
  ·rename_i hz
   simp only [W7] at hp
   subst hp
   obtain ⟨a,vs,ea,ha,ra⟩:=rx.lst
   obtain ⟨b,zs,eb,hb,rb⟩:=ry.lst
   exact .inr (.inr (.inr (.inr ⟨a,b,vs,zs,ea,eb,.inl ha,.inl hb,by rw [ra.1,rb.1]; exact hz,fun p hp=>q _ _ (.alloc k hp _) (RepS.newL k (ra.append rb) hp)⟩)))
  ·cases hp
def pII (C:Int→Int→Bool) (g:Int→Int→D):D→D→Option S
 | .int i,.int j=>if C i j then some (.pure (g i j)) else none
 | _,_=>none
theorem z9N (hC:∀ i j,C' i j=true→C i j) (hg:∀ i j H O,Rep H O (g i j) (g' i j)):Op2 (rI C g) (pII C' g'):=by
 intro c σ δ H x y d e s Q k rx ry hp q
 cases d <;> cases e <;> first
  | (simp [pII] at hp; done)
  | skip
 rename_i i j
 simp only [pII] at hp
 split at hp
 ·rename_i hc
  simp only [W7] at hp
  subst hp
  exact ⟨i,j,rx.int,ry.int,hC i j hc,q _ H (.refl k) (hg i j H _)⟩
 ·cases hp
theorem zeO (hg:∀ i j H O,Rep H O (g i j) (g' i j)):Op2 (rI0 g) (pII (fun _ _=>true) g'):=by
 intro c σ δ H x y d e s Q k rx ry hp q
 cases d <;> cases e <;> first
  | (simp [pII] at hp; done)
  | skip
 rename_i i j
 simp only [pII,if_true,W7] at hp
 subst hp
 exact ⟨i,j,rx.int,ry.int,q _ H (.refl k) (hg i j H _)⟩
def pSub:=pII (fun _ _=>true) fun i j=>.int (i - j)
theorem z2p:Op2 (rI0 fun i j=>V.int (i - j)) pSub:=zeO fun _ _ _ _=>.int _
def cMul (i j:Int):Bool:=(decide (-(2 ^ 64) < i) && decide (i < 2 ^ 64)) || (decide (-(2 ^ 64) < j) && decide (j < 2 ^ 64))
def pMul:=pII cMul fun i j=>.int (i * j)
theorem zeM:Op2 (rI CMul fun i j=>V.int (i * j)) pMul:=z9N (fun i j h=>by
 unfold cMul at h
 simp only [Bool.or_eq_true,Wn,decide_eq_true_eq] at h
 exact h) fun _ _ _ _=>.int _
def cDiv (_ j:Int):Bool:=decide (0 < j) && decide (j < 1073741824)
def pDiv:=pII cDiv fun i j=>.int (i / j)
theorem zc3:Op2 (rI CDiv fun i j=>V.int (i / j)) pDiv:=z9N (fun i j h=>by
 unfold cDiv at h
 simp only [Wn,decide_eq_true_eq] at h
 exact h) fun _ _ _ _=>.int _
def pMod:=pII (fun _ j=>decide (0 < j)) fun i j=>.int (i % j)
theorem z30:Op2 (rI (fun _ j=>0 < j) fun i j=>V.int (i % j)) pMod:=z9N (fun i j h=>by simpa using h) fun _ _ _ _=>.int _
def cPow (i j:Int):Bool:=decide (0≤j) && decide (j≤1000000) && decide (i.natAbs < 2 ^ 64)
def pPow:=pII cPow fun i j=>.int (i ^ j.toNat)
theorem z9M:Op2 (rI CPow fun i j=>V.int (i ^ j.toNat)) pPow:=z9N (fun i j h=>by
 unfold cPow at h
 simp only [Wn,decide_eq_true_eq] at h
 exact ⟨h.1.1,h.1.2,h.2⟩) fun _ _ _ _=>.int _
def pEq (d e:D):Option S:=if flat 50 d && flat 50 e then some (.pure (.bl (eqD d e))) else none
def pNe (d e:D):Option S:=if flat 50 d && flat 50 e then some (.pure (.bl (!eqD d e))) else none
theorem z4c:Op2 rEqD pEq:=by
 intro c σ δ H x y d e s Q k rx ry hp q
 unfold pEq at hp
 split at hp
 ·rename_i hf
  rw [Wn] at hf
  simp only [W7] at hp
  subst hp
  exact ⟨d,e,rx.un,ry.un,hf.1,hf.2,q _ H (.refl k) (.bl _)⟩
 ·cases hp
theorem zbc:Op2 rNeD pNe:=by
 intro c σ δ H x y d e s Q k rx ry hp q
 unfold pNe at hp
 split at hp
 ·rename_i hf
  rw [Wn] at hf
  simp only [W7] at hp
  subst hp
  exact ⟨d,e,rx.un,ry.un,hf.1,hf.2,q _ H (.refl k) (.bl _)⟩
 ·cases hp
def pCmp (f:Int→Int→Bool) (g:Tx→Tx→Bool):D→D→Option S
 | .int i,.int j=>some (.pure (.bl (f i j)))
 | .str x,.str y=>some (.pure (.bl (g x y)))
 | _,_=>none
def rCmp (f:Int→Int→Bool) (g:List Nat→List Nat→Bool):R2:=fun x y H Q=>rI0 (fun i j=>V.bl (f i j)) x y H Q∨∃ i j,x = .str i∧y = .str j∧Q (.bl (g i.cps.toList j.cps.toList)) H
theorem z7V:Op2 (rCmp f g) (pCmp f g):=by
 intro c σ δ H x y d e s Q k rx ry hp q
 cases d <;> cases e <;> first
  | (simp [pCmp] at hp; done)
  | skip
 ·rename_i i j
  simp only [pCmp,W7] at hp
  subst hp
  exact .inl ⟨i,j,rx.int,ry.int,q _ H (.refl k) (.bl _)⟩
 ·rename_i i j
  simp only [pCmp,W7] at hp
  subst hp
  refine .inr ⟨toS i,toS j,rx.str,ry.str,?_⟩
  rw [z5z,z5z]
  exact q _ H (.refl k) (.bl _)
theorem z9C {X:Cx} {op:CmpOp} {g:List Nat→List Nat→Bool} (rule:∀ (i j:Str) (t u:Tok) (Q:Value→W1→Prop) (s:W1),Q (.bool (g i.cps.toList j.cps.toList)) s→W9 (model X.prog X.w) X.A (WB op (.str i t) (.str j u)) Q X.xe s) :
  OpR X (WB op) (fun x y H Q=>∃ i j,x = .str i∧y = .str j∧Q (.bl (g i.cps.toList j.cps.toList)) H):=by
 intro pins s σ H x y v u Q I rx ry h
 obtain ⟨i,j,rfl,rfl,q⟩:=h
 obtain ⟨t,rfl⟩:=rx
 obtain ⟨t',rfl⟩:=ry
 exact rule i j t t' _ s ⟨.bl _,H,I,rfl,q⟩
def pLt:=pCmp (fun i j=>decide (i < j)) fun x y=>decide (x < y)
theorem zc1:OpR X (WB .Lt) (rCmp (fun i j=>decide (i < j)) fun x y=>decide (x < y)):=op_lt.or z9F
theorem zeN:Op2 (rCmp (fun i j=>decide (i < j)) fun x y=>decide (x < y)) pLt:=z7V
def pIx:D→D→Option S
 | .lst ds,.int i=>(atI ds i).map .pure
 | .tup ds,.int i=>(atI ds i).map .pure
 | .str x,.int i=>if x.length≤W6 then (atI x i).map fun n=>.pure (.str [n]) else none
 | _,_=>none
theorem z7J (r:Reps H O vs ds) (h:atI ds i=some d):∃ v,atI vs i=some v∧Rep H O v d:=by
 unfold atI at h ⊢
 rw [r.1]
 cases e:ixN ds.length i with
 | none=>rw [e] at h; cases h
 | some j =>
  rw [e] at h
  exact r.get h
theorem z0J {K:W0}:Op2 (rIx K) pIx:=by
 intro c σ δ H x y d e s Q k rx ry hp q
 cases d <;> cases e <;> first
  | (simp [pIx] at hp; done)
  | skip
 ·rename_i z i
  simp only [pIx] at hp
  split at hp
  ·rename_i hz
   cases e1:atI z i with
   | none=>rw [e1] at hp; cases hp
   | some n =>
    rw [e1] at hp
    simp only [WA,W7] at hp
    subst hp
    refine .inr (.inr ⟨toS z,i,n,rx.str,ry.int,z5d hz,by rw [z5z]; exact e1,?_⟩)
    exact q (.str (toS [n])) H (.refl k) (.str [n])
  ·cases hp
 ·rename_i ds i
  simp only [pIx] at hp
  cases e1:atI ds i with
  | none=>rw [e1] at hp; cases hp
  | some n =>
   rw [e1] at hp
   simp only [WA,W7] at hp
   subst hp
   obtain ⟨a,vs,ea,ha,ra⟩:=rx.tup
   obtain ⟨v,e2,r2⟩:=z7J ra e1
   exact .inr (.inl ⟨a,vs,i,v,ea,ry.int,.of ha,e2,q v H (.refl k) r2⟩)
 ·rename_i ds i
  simp only [pIx] at hp
  cases e1:atI ds i with
  | none=>rw [e1] at hp; cases hp
  | some n =>
   rw [e1] at hp
   simp only [WA,W7] at hp
   subst hp
   obtain ⟨a,vs,ea,ha,ra⟩:=rx.lst
   obtain ⟨v,e2,r2⟩:=z7J ra e1
   exact .inl ⟨a,vs,i,v,ea,ry.int,.inl ha,e2,q v H (.refl k) r2⟩
def pGt:=pCmp (fun i j=>decide (j < i)) fun x y=>decide (y < x)
def pGe:=pCmp (fun i j=>decide (j≤i)) fun x y=>!decide (x < y)
theorem zeK:OpR X (WB .Gt) (rCmp (fun i j=>decide (j < i)) fun x y=>decide (y < x)):=op_gt.or (z9C (g:=fun x y=>decide (y < x)) fun _ _ _ _ _ _ h=>PySem.P.gt_str h)
theorem zc2:OpR X (WB .GtE) (rCmp (fun i j=>decide (j≤i)) fun x y=>!decide (x < y)):=op_ge.or (z9C (g:=fun x y=>!decide (x < y)) fun _ _ _ _ _ _ h=>PySem.P.ge_str h)
abbrev DA:=Dl→Rs (List D)
def tAD (c:Fc) (f:DA):TA:=fun σ H Q=>∃ δ,Ok c σ δ H∧post c (f δ) fun ds δ'=>∀ vs H',Aft c σ δ H σ δ' H'→Reps H' (Av c σ δ') vs ds→Q vs H'
structure SA (X:Cx) (c:Fc) (es:List Expr) (f:DA):Prop where
 pa:PA X es (tAD c f)
 len:∀ δ ds δ',f δ = .ok ds δ'→ds.length=es.length
theorem PA.weak (h:PA X es t) (w:∀ σ H Q,t' σ H Q→t σ H Q):PA X es t':=fun pos pins s σ H Q I q=>h pos pins s σ H Q I (w σ H Q q)
def aNil:DA:=fun δ=>.ok [] δ
def z0a (f:DE) (g:DA):DA:=fun δ=>(f δ).bind fun x δ1=>(g δ1).bind fun xs δ2=>.ok (x.d :: xs) δ2
section
variable {X:Cx} {c:Fc} {e:Expr} {es:List Expr} {f:DE} {g:DA} {pos:Pos}
theorem z0X:SA X c [] aNil:=⟨PA.weak z1F fun σ H Q ⟨δ,k,q⟩=>q [] H (.refl k) .nil,fun δ ds δ' h=>by cases h; rfl⟩
theorem z98 (ha:SE X c e f) (hr:SA X c es g) (hs:W3 (e :: es) X.env=(false,eval e X.env) :: W3 es X.env:=by rfl):SA X c (e :: es) (z0a f g):=by
 refine ⟨PA.weak (z0M ha hr.pa hs) fun σ H Q ⟨δ,k,q⟩=>?_,fun δ ds δ' h=>?_⟩
 ·unfold z0a at q
  rw [z02] at q
  refine ⟨δ,k,z01 q fun x δ1 q1 v H1 a1 r1=>⟨δ1,a1.ok,?_⟩⟩
  rw [z02] at q1
  exact z01 q1 fun xs δ2 q2 vs H2 a2 r2=>q2 (v :: vs) H2 (a1.trans a2) (.cons (Rep.aft r1.rep a2) r2)
 ·unfold z0a at h
  cases h1:f δ with
  | ok x δ1 =>
   rw [h1] at h
   cases h2:g δ1 with
   | ok xs δ2 =>
    simp only [Rs.bind,h2] at h
    cases h
    simp [hr.len _ _ _ h2]
   | exc x δx=>simp only [Rs.bind,h2] at h; cases h
   | stuck=>simp only [Rs.bind,h2] at h; cases h
  | exc x δx=>rw [h1] at h; cases h
  | stuck=>rw [h1] at h; cases h
def eTup (f:DA):DE:=fun δ=>(f δ).bind fun ds δ'=>.ok (.pure (.tup ds)) δ'
def eLst (f:DA):DE:=fun δ=>(f δ).bind fun ds δ'=>.ok (.own (.lst ds)) δ'
theorem z5h (h:n≤1000):n≤W6:=J5 (z8Y h)
theorem z6l (h:post c r k):post c r fun a δ=>r = .ok a δ∧k a δ:=by
 cases r with
 | ok a δ=>exact ⟨rfl,h⟩
 | exc x δx=>exact h
 | stuck=>exact h
theorem z3q {x1} (h:SA X c es g) (hz:es.length≤1000:=by decide):SE X c (.Tuple es x1 pos) (eTup g):=PE.weak (zey h.pa) fun σ H Q ⟨δ,k,q⟩=>by
 unfold eTup at q
 rw [z02] at q
 refine ⟨δ,k,z01 (z6l q) fun ds δ1 ⟨e1,q1⟩ vs H1 a1 r1=>?_⟩
 have hl:=h.len _ _ _ e1
 exact ⟨by rw [r1.1,hl]; exact z5h hz,fun p hp=>q1 _ _ (a1.trans (.alloc a1.ok hp _)) (RepS.back (RepS.newT a1.ok r1 hp) a1)⟩
theorem z1E (h:SA X c es g) (hz:es.length≤1000:=by decide):SE X c (.List es pos) (eLst g):=PE.weak (zeD h.pa) fun σ H Q ⟨δ,k,q⟩=>by
 unfold eLst at q
 rw [z02] at q
 refine ⟨δ,k,z01 (z6l q) fun ds δ1 ⟨e1,q1⟩ vs H1 a1 r1=>?_⟩
 have hl:=h.len _ _ _ e1
 exact ⟨by rw [r1.1,hl]; exact z5h hz,fun p hp=>q1 _ _ (a1.trans (.alloc a1.ok hp _)) (RepS.back (RepS.newL a1.ok r1 hp) a1)⟩
end
def p1 (p:D→Option S) (x:D) (δ:Dl):Rs S:=match p x with
 | some s=>.ok s δ
 | none=>.stuck
def eC1 (p:D→Option S) (fb:BE):DE:=fun δ=>(fb δ).bind fun x δ1=>p1 p x δ1
def Op1 (r:V→Hp→VK→Prop) (p:D→Option S):Prop:=∀ (c:Fc) (σ:St) (δ:Dl) (H:Hp) (x:V) (d:D) (s:S) (Q:VK),Ok c σ δ H→RepB c σ δ H x d→p d=some s →
 (∀ v H',Aft c σ δ H σ δ H'→RepS c σ δ H H' v s→Q v H')→r x H Q
section
variable {X:Cx} {c:Fc} {e:Expr} {fb:BE} {r:V→Hp→VK→Prop} {p:D→Option S} {x:Str} {id T:String} {pp pos:Pos}
theorem z9A (hp:Op1 r p) (k:Ok c σ δ H) (rx:RepB c σ δ H v d)
  (h:post c (p1 p d δ) fun s δ'=>∀ v H',Aft c σ δ H σ δ' H'→RepS c σ δ' H H' v s→Q v H'):r v H Q:=by
 unfold p1 at h
 cases e1:p d with
 | none=>rw [e1] at h; exact h.elim
 | some s=>rw [e1] at h; exact hp c σ δ H v d s Q k rx e1 h
theorem z3M (hp:Op1 r p) (h:tD c (eC1 p fb) σ H Q):tUn r (tB c fb) σ H Q:=by
 obtain ⟨δ,k,q⟩:=h
 unfold eC1 at q
 rw [z02] at q
 exact ⟨δ,k,z01 q fun y δ1 q1 v H1 a1 r1=>z9A hp a1.ok r1 (z01 q1 fun s δ2 q2 w H2 a2 r2=>q2 w H2 (a1.trans a2) (RepS.back r2 a1))⟩
theorem z7I (hc:CallR X (.builtin id) rl) (hl:∀ v H Q,r v H Q→rl [v] H Q) (hp:Op1 r p) (hg:Gl X x) (hm:X.mg x=none) (hv:WW x=some (.builtin id)) (he:SB X c e fb)
  (hn:x≠"__name__":=by decide) (hdb:(x == ("__debug__" : Str))=false:=by decide) (hs:W3 [e] X.env=(false,eval e X.env) :: W3 [] X.env:=by rfl) (hpl:(WD pos (W3 [] X.env)).any (·.1)=false:=by rfl) :
  SE X c (.Call (.Name x pp) [e] [] pos) (eC1 p fb):=PE.weak (z2M hc hg hm hv (z0M he z1F hs) hn hdb hs hpl) fun σ H Q h=>by
 obtain ⟨δ,k,q⟩:=z3M hp h
 exact ⟨δ,k,z01 q fun y δ1 q1 v H1 a1 r1=>hl _ _ _ (q1 v H1 a1 r1)⟩
theorem z3w (hc:CallR X (.type T) rl) (hl:∀ v H Q,r v H Q→rl [v] H Q) (hp:Op1 r p) (hg:Gl X x) (hm:X.mg x=none) (hv:WW x=some (.type T)) (he:SB X c e fb)
  (hn:x≠"__name__":=by decide) (hdb:(x == ("__debug__" : Str))=false:=by decide) (hs:W3 [e] X.env=(false,eval e X.env) :: W3 [] X.env:=by rfl) (hpl:(WD pos (W3 [] X.env)).any (·.1)=false:=by rfl) :
  SE X c (.Call (.Name x pp) [e] [] pos) (eC1 p fb):=PE.weak (z9v hc hg hm hv (z0M he z1F hs) hn hdb hs hpl) fun σ H Q h=>by
 obtain ⟨δ,k,q⟩:=z3M hp h
 exact ⟨δ,k,z01 q fun y δ1 q1 v H1 a1 r1=>hl _ _ _ (q1 v H1 a1 r1)⟩
def pLen:D→Option S
 | .lst ds=>some (.pure (.int ds.length))
 | .tup ds=>some (.pure (.int ds.length))
 | .str z=>if z.length≤W6 then some (.pure (.int z.length)) else none
 | .dct ds=>some (.pure (.int ds.length))
 | _=>none
def rLen (K:W0):V→Hp→VK→Prop:=fun v H Q=>((∃ p ys,v = .ref p∧(SqL K H p ys∨SqT K H p ys)∧Q (.int ys.length) H)∨∃ z,v = .str z∧z.length≤W6∧Q (.int z.length) H)∨∃ a kvs,v=V.ref a∧H a=some (.dK kvs)∧Q (.int kvs.length) H
theorem zeP {K:W0}:Op1 (rLen K) pLen:=by
 intro c σ δ H x d s Q k rx hp q
 cases d with
 | lst ds =>
  simp only [pLen,W7] at hp
  subst hp
  obtain ⟨a,vs,ea,ha,ra⟩:=rx.lst
  exact .inl (.inl ⟨a,vs,ea,.inl (.inl ha),by rw [ra.1]; exact q _ H (.refl k) (.int _)⟩)
 | tup ds =>
  simp only [pLen,W7] at hp
  subst hp
  obtain ⟨a,vs,ea,ha,ra⟩:=rx.tup
  exact .inl (.inl ⟨a,vs,ea,.inr (.of ha),by rw [ra.1]; exact q _ H (.refl k) (.int _)⟩)
 | str z =>
  simp only [pLen] at hp
  split at hp
  ·rename_i hz
   simp only [W7] at hp
   subst hp
   exact .inl (.inr ⟨toS z,rx.str,z5d hz,by rw [z1Y]; exact q _ H (.refl k) (.int _)⟩)
  ·cases hp
 | dct ds =>
  simp only [pLen,W7] at hp
  subst hp
  obtain ⟨a,ws,ea,ha,h1,h2⟩:=rx.dct
  have hl:ws.length=ds.length:=by have:=congrArg List.length h1; simpa using this
  exact .inr ⟨a,ws,ea,ha,by rw [hl]; exact q _ H (.refl k) (.int _)⟩
 | _=>simp [pLen] at hp
theorem z2X (hg:Gl X "len") (hm:X.mg "len" = none) (he:SB X c e fb) (hs:W3 [e] X.env=(false,eval e X.env) :: W3 [] X.env:=by rfl):SE X c (.Call (.Name "len" pp) [e] [] pos) (eC1 pLen fb) :=
 z7I ((call_len_seq.or z6V).or zay) (fun v H Q h=>by
  rcases h with (⟨p,ys,e,h⟩ | ⟨z,e,h⟩) | ⟨a,kvs,e,h⟩
  ·exact .inl (.inl ⟨p,ys,by rw [e],h⟩)
  ·exact .inl (.inr ⟨z,by rw [e],h⟩)
  ·exact .inr ⟨a,kvs,by rw [e],h⟩) (zeP (K:=X.K)) hg hm PySem.boot_len he (by decide) (by decide) hs
def z29:D→Option S
 | .lst ds=>some (.pure (.tup ds))
 | .tup ds=>some (.pure (.tup ds))
 | _=>none
def zea (K:W0):V→Hp→VK→Prop:=fun v H Q=>∃ p ys,v = .ref p∧((SqL K H p ys∧∀ l,H l=none→Q (.ref l) (upd H l (.tup ys)))∨(SqT K H p ys∧Q (.ref p) H))
theorem zbd {K:W0}:Op1 (zea K) z29:=by
 intro c σ δ H x d s Q k rx hp q
 cases d with
 | lst ds =>
  simp only [z29,W7] at hp
  subst hp
  obtain ⟨a,vs,ea,ha,ra⟩:=rx.lst
  exact ⟨a,vs,ea,.inl ⟨.inl ha,fun l hl=>q _ _ (.alloc k hl _) (RepS.newT k ra hl)⟩⟩
 | tup ds =>
  simp only [z29,W7] at hp
  subst hp
  obtain ⟨a,vs,ea,ha,ra⟩:=rx.tup
  refine ⟨a,vs,ea,.inr ⟨.of ha,?_⟩⟩
  rw [ea] at rx
  rcases rx with rx | ⟨_,_,rx⟩
  ·exact q _ H (.refl k) rx
  ·exact rx.elim
 | _=>simp [z29] at hp
theorem z5E (hg:Gl X "tuple") (hm:X.mg "tuple" = none) (he:SB X c e fb) (hs:W3 [e] X.env=(false,eval e X.env) :: W3 [] X.env:=by rfl):SE X c (.Call (.Name "tuple" pp) [e] [] pos) (eC1 z29 fb) :=
 z3w z64 (fun v H Q ⟨p,ys,e,h⟩=>⟨p,ys,by rw [e],h⟩) (zbd (K:=X.K)) hg hm PyProof.Rows.boot_tuple he (by decide) (by decide) hs
def pInt:D→Option S
 | .int i=>some (.pure (.int i))
 | .bl b=>some (.pure (.int (if b then 1 else 0)))
 | _=>none
theorem zcx (hg:Gl X "int") (hm:X.mg "int" = none) (he:SB X c e fb) (hs:W3 [e] X.env=(false,eval e X.env) :: W3 [] X.env:=by rfl):SE X c (.Call (.Name "int" pp) [e] [] pos) (eC1 pInt fb) :=
 z3w (r:=fun v H Q=>(∃ i,v = .int i∧Q (.int i) H)∨∃ k,v = .bl k∧Q (.int (if k then 1 else 0)) H) zaz (fun v H Q h=>by
  rcases h with ⟨i,e,q⟩ | ⟨k,e,q⟩
  ·exact .inl ⟨i,by rw [e],q⟩
  ·exact .inr ⟨k,by rw [e],q⟩) (fun c σ δ H x d s Q k rx hp q=>by
  cases d with
  | int i =>
   simp only [pInt,W7] at hp
   subst hp
   exact .inl ⟨i,rx.int,q _ H (.refl k) (.int _)⟩
  | bl b =>
   simp only [pInt,W7] at hp
   subst hp
   exact .inr ⟨b,rx.bl,q _ H (.refl k) (.int _)⟩
  | _=>simp [pInt] at hp) hg hm PyProof.Rows.boot_int he (by decide) (by decide) hs
def z50:List D→Option (List Bool)
 | []=>some []
 | .bl b :: r=>(z50 r).map (b :: ·)
 | _ :: _=>none
def z2b:List D→Option (List Tx)
 | []=>some []
 | .str x :: r=>(z2b r).map (x :: ·)
 | _ :: _=>none
theorem z3S:∀ {ds:List D} {vs:List V} {bs:List Bool},z50 ds=some bs→Reps H O vs ds→vs=bs.map V.bl
 | [],vs,bs,h,r=>by
  simp only [z50,W7] at h
  subst h
  have:=r.1
  simpa using this
 | d :: ds,[],bs,h,r=>by have:=r.1; simp at this
 | d :: ds,v :: vs,bs,h,r=>by
  cases d with
  | bl b =>
   simp only [z50] at h
   cases e:z50 ds with
   | none=>rw [e] at h; cases h
   | some bs' =>
    rw [e] at h
    simp only [WA,W7] at h
    subst h
    have:=r.head
    cases this
    rw [z3S e r.tail]
    rfl
  | _=>simp [z50] at h
theorem z1K:∀ {ds:List D} {vs:List V} {bs:List Tx},z2b ds=some bs→Reps H O vs ds→vs=bs.map fun z=>V.str (toS z)
 | [],vs,bs,h,r=>by
  simp only [z2b,W7] at h
  subst h
  have:=r.1
  simpa using this
 | d :: ds,[],bs,h,r=>by have:=r.1; simp at this
 | d :: ds,v :: vs,bs,h,r=>by
  cases d with
  | str b =>
   simp only [z2b] at h
   cases e:z2b ds with
   | none=>rw [e] at h; cases h
   | some bs' =>
    rw [e] at h
    simp only [WA,W7] at h
    subst h
    have:=r.head
    cases this
    rw [z1K e r.tail]
    rfl
  | _=>simp [z2b] at h
theorem z3x:∀ ts:List Tx,Reps H O (ts.map fun z=>V.str (toS z)) (ts.map D.str)
 | []=>.nil
 | t :: ts=>.cons (.str t) (z3x ts)
def pAll:D→Option S
 | .lst ds=>(z50 ds).map fun bs=>.pure (.bl (bs.all (fun b=>b)))
 | _=>none
def z3T:D→Option S
 | .lst ds=>match z2b ds with
  | some ts=>if ts.length < 64 then some (.own (.lst ((z3P ts).map D.str))) else none
  | none=>none
 | _=>none
theorem z92 (hg:Gl X "sorted") (hm:X.mg "sorted" = none) (he:SB X c e fb) (hs:W3 [e] X.env=(false,eval e X.env) :: W3 [] X.env:=by rfl):SE X c (.Call (.Name "sorted" pp) [e] [] pos) (eC1 z3T fb) :=
 z7I (r:=fun v H Q=>∃ (a:Addr) (ts:List Tx),v = .ref a∧SqL X.K H a (ts.map fun z=>V.str (toS z))∧ts.length < 64∧∀ p,H p=none→Q (.ref p) (upd H p (.lst ((z3P ts).map fun z=>V.str (toS z))))) z6U (fun v H Q ⟨a,bs,e,h⟩=>⟨a,bs,by rw [e],h⟩) (fun c σ δ H x d s Q k rx hp q=>by
  cases d with
  | lst ds =>
   simp only [z3T] at hp
   cases e:z2b ds with
   | none=>rw [e] at hp; cases hp
   | some ts =>
    rw [e] at hp
    simp only at hp
    split at hp
    ·rename_i hz
     simp only [W7] at hp
     subst hp
     obtain ⟨a,vs,ea,ha,ra⟩:=rx.lst
     have:=z1K e ra
     subst this
     exact ⟨a,ts,ea,.inl ha,hz,fun p hp=>q _ _ (.alloc k hp _) (RepS.newL k (z3x _) hp)⟩
    ·cases hp
  | _=>simp [z3T] at hp) hg hm PyProof.Rows.boot_sorted he (by decide) (by decide) hs
def pMax:D→D→Option S
 | .int i,.int j=>some (.pure (.int (if j > i then j else i)))
 | _,_=>none
def eMax (f g:DE):DE:=fun δ=>(f δ).bind fun x δ1=>(g δ1).bind fun y δ2=>p2 pMax x.d y.d δ2
theorem zbU {a b:Expr} {f g:DE} (hc:X.calm=true) (hg:Gl X "max") (hm:X.mg "max" = none) (ha:SE X c a f) (hb:SE X c b g) (hs:W3 [a,b] X.env=(false,eval a X.env) :: W3 [b] X.env:=by rfl)
  (hs2:W3 [b] X.env=(false,eval b X.env) :: W3 [] X.env:=by rfl) (hpl:(WD pos (W3 [b] X.env)).any (·.1)=false:=by rfl):SE X c (.Call (.Name "max" pp) [a,b] [] pos) (eMax f g) :=
 PE.weak (z2M (zax hc) hg hm PyProof.Rows.boot_max (z0M ha (z0M hb z1F hs2) hs) (by decide) (by decide) hs hpl) fun σ H Q ⟨δ,k,q⟩=>by
  unfold eMax at q
  rw [z02] at q
  refine ⟨δ,k,z01 q fun x δ1 q1 v H1 a1 r1=>⟨δ1,a1.ok,?_⟩⟩
  rw [z02] at q1
  refine z01 q1 fun y δ2 q2 u H2 a2 r2=>?_
  unfold p2 at q2
  have hx:RepB c σ δ2 H2 v x.d:=.inl (Rep.aft r1.rep a2)
  have hy:=r2.b
  generalize x.d=dx at q2 hx
  generalize y.d=dy at q2 hy
  cases dx <;> cases dy <;> first
   | exact q2.elim
   | skip
  rename_i i j
  exact ⟨i,j,by rw [hx.int,hy.int],q2 _ H2 (a1.trans a2) (.int _)⟩
def isTy (T:String):D→Option Bool
 | .non=>some (T == "NoneType")
 | .bl _=>some (T == "bool" || T == "int")
 | .int _=>some (T == "int")
 | .str _=>some (T == "str")
 | .tup _=>some (T == "tuple")
 | .lst _=>some (T == "list")
 | .dct _=>some (T == "dict")
 | .exc _ _=>none
 | .xd _=>none
 | .fn _=>none
structure TyK (K:W0) (T:String):Prop where
 non:Qh K (.type "NoneType") (.type T)=some (T == "NoneType")
 bl:Qh K (.type "bool") (.type T)=some (T == "bool" || T == "int")
 int:Qh K (.type "int") (.type T)=some (T == "int")
 str:Qh K (.type "str") (.type T)=some (T == "str")
 tup:Qh K (.type "tuple") (.type T)=some (T == "tuple")
 lst:Qh K (.type "list") (.type T)=some (T == "list")
 dct:Qh K (.type "dict") (.type T)=some (T == "dict")
def eIsi (T:String) (fb:BE):DE:=fun δ=>(fb δ).bind fun d δ'=>match isTy T d with
 | some b=>.ok (.pure (.bl b)) δ'
 | none=>.stuck
theorem zbq (ty:TyK X.K T) (I:Inv X pins σ H s) (ru:RelV v u) (r:Rep H NoO v d) (e:isTy T d=some b) (q:Q (.bl b) H) :
  W9 (model X.prog X.w) X.A (call (.builtin "isinstance") [u,.type T]) (EP X pins σ Q) X.xe s:=by
 have fin:∀ tk,EP X pins σ Q (.bool b) { s with toks:=tk }:=fun tk=>⟨.bl b,H,I.tok tk,rfl,q⟩
 cases r with
 | non=>exact z1z I ru .non (ty.non.trans e) fin
 | bl x=>exact z1z I ru (.bl x) (ty.bl.trans e) fin
 | int x=>exact z1z I ru (.int x) (ty.int.trans e) fin
 | str x=>exact z1z I ru (.str _) (ty.str.trans e) fin
 | tup _ h2 _ _=>exact z1z I ru (.tup h2) (ty.tup.trans e) fin
 | lst _ h2 _ _ =>
  rcases h2 with h2 | ⟨o,h2⟩
  ·exact z1z I ru (.lst h2) (ty.lst.trans e) fin
  ·exact z1z I ru (.frz h2) (ty.lst.trans e) fin
 | dct _ h2 _ _=>exact z1z I ru (.dK h2) (ty.dct.trans e) fin
 | exc _ _=>cases e
 | xd _ _=>cases e
 | fn _=>cases e
theorem zbG (ty:TyK X.K T):CallR X (.builtin "isinstance") (fun xs H Q=>∃ v d b,xs=[v,.ty T]∧Rep H NoO v d∧isTy T d=some b∧Q (.bl b) H):=by
 intro pins s σ H xs us Q I r h
 obtain ⟨v,d,b,rfl,rp,e,q⟩:=h
 obtain ⟨u,w',rfl,r1,r2⟩:=zaJ r
 cases r2
 exact zbq ty I r1 rp e q
theorem z5k {y:Str} {py:Pos} (ty:TyK X.K T) (hg:Gl X "isinstance") (hm:X.mg "isinstance" = none) (hgy:Gl X y) (hmy:X.mg y=none) (hvy:WW y=some (.type T)) (he:SB X c e fb)
  (hny:y≠"__name__":=by decide) (hdy:(y == ("__debug__" : Str))=false:=by decide)
  (hs:W3 [e,.Name y py] X.env=(false,eval e X.env) :: W3 [.Name y py] X.env:=by rfl) (hpl:(WD pos (W3 [.Name y py] X.env)).any (·.1)=false:=by rfl) :
  SE X c (.Call (.Name "isinstance" pp) [e,.Name y py] [] pos) (eIsi T fb) :=
 PE.weak (z2M (zbG ty) hg hm PyProof.Rows.boot_isinstance (z0M he (z0M (z9y (v:=.ty T) hgy hmy hvy rfl hny hdy) z1F) hs) (by decide) (by decide) hs hpl) fun σ H Q ⟨δ,k,q⟩=>by
  unfold eIsi at q
  rw [z02] at q
  refine ⟨δ,k,z01 q fun d δ1 q1 v H1 a1 r1=>?_⟩
  cases e1:isTy T d with
  | none=>rw [e1] at q1; exact q1.elim
  | some b =>
   rw [e1] at q1
   exact ⟨v,d,b,rfl,r1.un,e1,q1 _ H1 a1 (.bl _)⟩
end
abbrev DOp:=Dl→Rs (Option Int)
def tOD (c:Fc) (f:DOp):TO:=fun σ H Q=>∃ δ,Ok c σ δ H∧post c (f δ) fun o δ'=>∀ H',Aft c σ δ H σ δ' H'→Q o H'
abbrev SO (X:Cx) (c:Fc) (e:Option Expr) (f:DOp):Prop:=PO X e (tOD c f)
theorem PO.weak (h:PO X e t) (w:∀ σ H Q,t' σ H Q→t σ H Q):PO X e t':=fun pins s σ H Q I q=>h pins s σ H Q I (w σ H Q q)
def oNone:DOp:=fun δ=>.ok none δ
def z7e (f:DE):DOp:=fun δ=>(f δ).bind fun r δ'=>match r with
 | .pure (.int i)=>.ok (some i) δ'
 | _=>.stuck
section
variable {X:Cx} {c:Fc} {e:Expr} {f:DE} {fb:BE} {fl fh:DOp} {lo hi:Option Expr} {pos p2:Pos}
theorem z8W (h:SE X c e f):SO X c (some e) (z7e f):=PO.weak (zcS h) fun σ H Q ⟨δ,k,q⟩=>by
 unfold z7e at q
 rw [z02] at q
 refine ⟨δ,k,z01 q fun r δ1 q1 v H1 a1 r1=>?_⟩
 cases r with
 | own d=>exact q1.elim
 | pure d =>
  cases d <;> first | exact q1.elim | skip
  rename_i i
  cases r1
  exact ⟨i,rfl,q1 H1 a1⟩
def pSl (lo hi:Option Int):D→Option S
 | .str x=>if x.length≤W6 then some (.pure (.str (cutL x lo hi))) else none
 | .tup ds=>some (.pure (.tup (cutL ds lo hi)))
 | .lst ds=>some (.own (.lst (cutL ds lo hi)))
 | _=>none
def rSlD (K:W0):V→Option Int→Option Int→Hp→VK→Prop:=fun x lo hi H Q=>rSlS x lo hi H Q∨zeb K x lo hi H Q∨rSlL K x lo hi H Q
theorem sl_D:SlR X (rSlD X.K):=sl_str.or (sl_tup2.or zct)
theorem o1_sl {K:W0} (lo hi:Option Int):Op1 (fun x H Q=>rSlD K x lo hi H Q) (pSl lo hi):=by
 intro c σ δ H x d s Q k rx hp q
 cases d with
 | str z =>
  simp only [pSl] at hp
  split at hp
  ·rename_i hz
   simp only [W7] at hp
   subst hp
   exact .inl ⟨z,rx.str,hz,q _ H (.refl k) (.str _)⟩
  ·cases hp
 | tup ds =>
  simp only [pSl,W7] at hp
  subst hp
  obtain ⟨a,vs,ea,ha,ra⟩:=rx.tup
  refine .inr (.inl ⟨a,vs,ea,.of ha,fun hw=>?_,fun _ p hp=>?_⟩)
  ·rw [ra.1] at hw
   rw [zaq hw] at q
   rw [ea] at rx
   rcases rx with rx | ⟨_,_,rx⟩
   ·exact q _ H (.refl k) rx
   ·exact rx.elim
  ·rw [← zcd]
   exact q _ _ (.alloc k hp _) (RepS.newT k (ra.cut lo hi) hp)
 | lst ds =>
  simp only [pSl,W7] at hp
  subst hp
  obtain ⟨a,vs,ea,ha,ra⟩:=rx.lst
  refine .inr (.inr ⟨a,vs,ea,.inl ha,fun p hp=>?_⟩)
  rw [← zcd]
  exact q _ _ (.alloc k hp _) (RepS.newL k (ra.cut lo hi) hp)
 | _=>simp [pSl] at hp
def eSl (f:DE) (fl fh:DOp):DE:=fun δ=>(f δ).bind fun x δ1=>(fl δ1).bind fun l δ2=>(fh δ2).bind fun h δ3=>p1 (pSl l h) x.d δ3
def eSlN (i:Nat) (fl fh:DOp):DE:=fun δ=>match δ[i]? with
 | some (some _)=>(fl δ).bind fun l δ2=>(fh δ2).bind fun h δ3=>(bVar i δ3).bind fun x δ4=>p1 (pSl l h) x δ4
 | _=>.stuck
theorem z76 {i:Nat} {σ:St} {δ:Dl} {H:Hp} {v:V} {w:S} (k:Ok c σ δ H) (e:δ[i]? = some (some w)) (ev:σ[i]? = some (some v)):RepB c σ δ H v w.d:=by
 cases w with
 | pure d =>
  obtain ⟨v',e1,r⟩:=k.slot i d e
  rw [ev] at e1; cases e1
  exact .inl r
 | own d =>
  obtain ⟨a,e1,r,_⟩:=k.own i d e
  rw [ev] at e1; cases e1
  exact .inr ⟨a,rfl,r⟩
theorem zaC (h:post c ((bVar i δ).bind g) kk):∃ w,δ[i]? = some (some w)∧post c (g w.d δ) kk:=by
 unfold bVar at h
 cases e:δ[i]? with
 | none=>rw [e] at h; exact h.elim
 | some o =>
  cases o with
  | none=>rw [e] at h; exact h.elim
  | some w=>rw [e] at h; exact ⟨w,rfl,h⟩
theorem zdW {i:Nat} (he:PE X e (tVar i)) (hl:SO X c lo fl) (hh:SO X c hi fh):SE X c (.Subscript e (.Slice lo hi none p2) pos) (eSlN i fl fh):=PE.weak (zb3 sl_D he hl hh) fun σ H Q ⟨δ,k,q⟩=>by
 unfold eSlN at q
 cases e:δ[i]? with
 | none=>rw [e] at q; exact q.elim
 | some o =>
  cases o with
  | none=>rw [e] at q; exact q.elim
  | some w =>
   rw [e] at q
   obtain ⟨v,ev⟩:=z1J k e
   have q':post c ((fl δ).bind fun l δ2=>(fh δ2).bind fun h δ3=>(bVar i δ3).bind fun x δ4=>p1 (pSl l h) x δ4) fun r δ'=>∀ v H',Aft c σ δ H σ δ' H'→RepS c σ δ' H H' v r→Q v H':=q
   rw [z02] at q'
   refine ⟨v,ev,δ,k,z01 q' fun l δ2 q2 H2 a2=>⟨δ2,a2.ok,?_⟩⟩
   rw [z02] at q2
   refine z01 q2 fun h δ3 q3 H3 a3=>?_
   obtain ⟨w3,e3,q4⟩:=zaC q3
   exact z9A (o1_sl l h) a3.ok (z76 a3.ok e3 ev) (z01 q4 fun s δ4 q4 w H4 a4 r4=>q4 w H4 (a2.trans (a3.trans a4)) (RepS.back r4 (a2.trans a3)))
def z4J (z:Tx):List Tx→Tx
 | []=>[]
 | [x]=>x
 | x :: y :: r=>x ++ z ++ z4J z (y :: r)
theorem z83 (z:Tx):∀ (r:List Tx) (acc:Tx),((r.map toS).foldl (fun (acc:Array Nat) p=>acc ++ (toS z).cps ++ p.cps) acc.toArray)=(match r with | []=>acc | x :: r'=>acc ++ z ++ z4J z (x :: r')).toArray
 | [],acc=>rfl
 | x :: r,acc=>by
  rw [Wu,QN]
  have e:acc.toArray ++ (toS z).cps ++ (toS x).cps=(acc ++ z ++ x).toArray:=by simp [toS]
  rw [e,z83 z r (acc ++ z ++ x)]
  cases r with
  | nil=>simp [z4J]
  | cons y r'=>simp [z4J]
theorem zda (z:Tx) (ts:List Tx):Txt.join (toS z) (ts.map toS)=toS (z4J z ts):=by
 show Builtin.Str.glued _ _=_
 unfold Builtin.Str.glued
 cases ts with
 | nil=>rfl
 | cons x r =>
  rw [Wu]
  show (⟨(List.foldl _ (toS x).cps (r.map toS))⟩:Str)=_
  have:=z83 z r x
  have e:(toS x).cps=x.toArray:=rfl
  rw [e,this]
  cases r with
  | nil=>rfl
  | cons y r'=>rfl
def z2z (ts:List Tx):Nat:=(ts.map (·.length)).sum
def z2y (z:Tx):D→Option S
 | .lst ds=>match z2b ds with
  | some ts=>if z2z ts + ts.length * z.length≤16777216 then some (.pure (.str (z4J z ts))) else none
  | none=>none
 | .tup ds=>match z2b ds with
  | some ts=>if z2z ts + ts.length * z.length≤16777216 then some (.pure (.str (z4J z ts))) else none
  | none=>none
 | _=>none
theorem zd3 {K:W0} (z:Tx):Op1 (fun x H Q=>zb0 K (.str (toS z)) [x] H Q) (z2y z):=by
 intro c σ δ H x d s Q k rx hp q
 have key:∀ (a:Addr) (vs:List V) (ds:List D),x = .ref a→(SqL K H a vs∨SqT K H a vs)→Reps H (Av c σ δ) vs ds→(match z2b ds with | some ts=>if z2z ts + ts.length * z.length≤16777216 then some (S.pure (.str (z4J z ts))) else none | none=>none)=some s→zb0 K (.str (toS z)) [x] H Q:=by
  intro a vs ds ea ha ra hp
  cases e:z2b ds with
  | none=>rw [e] at hp; cases hp
  | some ts =>
   rw [e] at hp
   simp only at hp
   split at hp
   ·rename_i hz
    simp only [W7] at hp
    subst hp
    have:=z1K e ra
    subst this
    refine ⟨toS z,a,ts.map toS,rfl,by rw [ea],?_,?_,?_⟩
    ·rw [Ql]; exact ha
    ·rw [Ql,Wz,z1Y]
     have:((fun x:Str=>x.length) ∘ toS)=fun x:Tx=>x.length:=funext fun x=>z1Y x
     rw [this]
     exact hz
    ·rw [zda]
     exact q _ H (.refl k) (.str _)
   ·cases hp
 cases d with
 | lst ds =>
  obtain ⟨a,vs,ea,ha,ra⟩:=rx.lst
  exact key a vs ds ea (.inl (.inl ha)) ra hp
 | tup ds =>
  obtain ⟨a,vs,ea,ha,ra⟩:=rx.tup
  exact key a vs ds ea (.inr (.of ha)) ra hp
 | _=>simp [z2y] at hp
theorem z94 {x:Str} {j} {p0 apos cpos:Pos} (z:Tx) (he:SB X c e fb) (hx:x=toS z:=by decide +kernel)
  (hbase:Q9 (.Constant (.str x) j p0) "join" X.env (eval (.Constant (.str x) j p0) X.env)=eval (.Constant (.str x) j p0) X.env:=by rfl)
  (hfew:((WD cpos (W3 [e] X.env)).all (fun x=>!x.1) && (backToKw cpos (QO [] X.env)).all (fun x=>x.1.isSome)
   && decide ([e].length + ([]:List Keyword).length + (if ([]:List Keyword).isEmpty then 0 else 1) < 30))=true:=by rfl)
  (hline:(apos.endLine == cpos.line)=true:=by rfl) (hs:W3 [e] X.env=(false,eval e X.env) :: W3 [] X.env:=by rfl) :
  SE X c (.Call (.Attribute (.Constant (.str x) j p0) "join" apos) [e] [] cpos) (eC1 (z2y z) fb):=by
 subst hx
 refine PE.weak (z9x PySem.F.plainAttrs_str PySem.F.slot_str_join PySem.F.type_str_join zd7 zc0 (z0M he z1F hs) hbase hfew hline hs rfl) fun σ H Q h=>?_
 obtain ⟨δ,k,q⟩:=z3M (r:=fun x H Q=>zb0 X.K (.str (toS z)) [x] H Q) (zd3 z) h
 refine ⟨?_,δ,k,q⟩
 show ("str" : String) = "str"
 rfl
end
inductive Fl where
 | next | ret (r:S) | brk | cont
abbrev DS:=Dl→Rs Fl
def fin (c:Fc) (D:Ends) (σ:St) (δ:Dl) (H:Hp):Fl→Prop
 | .next=>D.nx σ H
 | .ret r=>∀ v,RepS c σ δ c.H₀ H v r→D.rt v H
 | .brk=>D.bk σ H
 | .cont=>D.ct σ H
def z1x (c:Fc) (D:Ends) (σ:St) (δ:Dl) (H:Hp) (r:Rs Fl):Prop:=post c r fun fl δ'=>∀ σ' H',Aft c σ δ H σ' δ' H'→fin c D σ' δ' H' fl
def tDS (c:Fc) (f:DS):TS:=fun D σ H=>∃ δ,Ok c σ δ H∧z1x c D σ δ H (f δ)
abbrev SS (X:Cx) (c:Fc) (st:Stmt) (f:DS):Prop:=PS X st (tDS c f)
abbrev SSs (X:Cx) (c:Fc) (st:List Stmt) (f:DS):Prop:=PSs X st (tDS c f)
theorem PS.weak {X:Cx} {st:Stmt} {t t':TS} (h:PS X st t) (w:∀ D σ H,t' D σ H→t D σ H):PS X st t':=fun pins s σ H D I q=>h pins s σ H D I (w D σ H q)
theorem PSs.weak {X:Cx} {st:List Stmt} {t t':TS} (h:PSs X st t) (w:∀ D σ H,t' D σ H→t D σ H):PSs X st t':=fun pins s σ H D I q=>h pins s σ H D I (w D σ H q)
def z19:DS:=fun δ=>.ok .next δ
def dSeq (f g:DS):DS:=fun δ=>(f δ).bind fun fl δ1=>match fl with
 | .next=>g δ1
 | .ret r=>.ok (.ret r) δ1
 | .brk=>.ok .brk δ1
 | .cont=>.ok .cont δ1
def z43 (f:DE):DS:=fun δ=>(f δ).bind fun _ δ1=>.ok .next δ1
def dRet (f:DE):DS:=fun δ=>(f δ).bind fun r δ1=>.ok (.ret r) δ1
def dIf (t:DT) (f g:DS):DS:=fun δ=>(t δ).bind fun b δ1=>if b then f δ1 else g δ1
def eRetN (np:List Nat) (i:Nat):DE:=fun δ=>match δ[i]? with
 | some (some (.own d))=>if np.contains i then .ok (.pure d) (δ.set i (some (.pure d))) else .ok (.own d) (δ.set i none)
 | some (some (.pure d))=>.ok (.pure d) δ
 | _=>.stuck
section
variable {X:Cx} {c:Fc} {st:Stmt} {sts:List Stmt} {e a:Expr} {f g:DS} {fe:DE} {t:DT} {pos pos':Pos}
theorem z1n:SSs X c [] z19:=PSs.weak zcP fun D σ H ⟨δ,k,q⟩=>q σ H (.refl k)
theorem z05 (h1:SS X c st f) (h2:SSs X c sts g):SSs X c (st :: sts) (dSeq f g):=PSs.weak (zb1 h1 h2) fun D σ H ⟨δ,k,q⟩=>by
 unfold dSeq z1x at q
 rw [z02] at q
 refine ⟨δ,k,z01 q fun fl δ1 q1 σ1 H1 a1=>?_⟩
 cases fl with
 | next=>exact ⟨δ1,a1.ok,z01 q1 fun fl2 δ2 q2 σ2 H2 a2=>q2 σ2 H2 (a1.trans a2)⟩
 | ret r=>exact q1 σ1 H1 a1
 | brk=>exact q1 σ1 H1 a1
 | cont=>exact q1 σ1 H1 a1
theorem z0j (h1:SS X c st f):SSs X c [st] f:=PSs.weak (z9m h1) fun D σ H h=>h
theorem z0B (he:SE X c e fe):SS X c (.Return (some e) pos) (dRet fe):=PS.weak (zes he) fun D σ H ⟨δ,k,q⟩=>by
 unfold dRet z1x at q
 rw [z02] at q
 exact ⟨δ,k,z01 q fun r δ1 q1 v H1 a1 r1=>q1 σ H1 a1 v r1.home⟩
theorem z2c {b1 b2:List Stmt} (ht:ST X c e t) (h1:SSs X c b1 f) (h2:SSs X c b2 g):SS X c (.If e b1 b2 pos) (dIf t f g):=PS.weak (ps_if ht h1 h2) fun D σ H ⟨δ,k,q⟩=>by
 unfold dIf z1x at q
 rw [z02] at q
 refine ⟨δ,k,z01 q fun b δ1 q1 H1 a1=>?_⟩
 cases b with
 | true=>exact ⟨δ1,a1.ok,z01 q1 fun fl δ2 q2 σ2 H2 a2=>q2 σ2 H2 (a1.trans a2)⟩
 | false=>exact ⟨δ1,a1.ok,z01 q1 fun fl δ2 q2 σ2 H2 a2=>q2 σ2 H2 (a1.trans a2)⟩
theorem Own.of_set (h:Own (σ.set i (some v)) (δ.set i (some r)) b):Own σ δ b∨(v = .ref b∧∃ d,r = .own d):=by
 obtain ⟨j,d,e1,e2⟩:=h
 by_cases hj:i=j
 ·subst hj
  right
  rw [WL] at e1 e2
  simp at e1 e2
  obtain ⟨_,h1⟩:=e1
  obtain ⟨_,h2⟩:=e2
  exact ⟨h2,d,h1⟩
 ·rw [W4 hj] at e1 e2
  exact .inl ⟨j,d,e1,e2⟩
theorem Ok.set (x:Aft c σ₀ δ₀ H₁ σ δ H) (hr:RepS c σ δ H₁ H v r) (hp:∀ p ∈ c.pin,p.1≠i):Aft c σ₀ δ₀ H₁ (σ.set i (some v)) (δ.set i (some r)) H:=by
 have k:=x.ok
 -- all slots avoid the new address,too
 have all:∃ c':Fc,c'.H₀=c.H₀∧c'.pin=c.pin∧Ok c' σ δ H∧(∀ b,Av c (σ.set i (some v)) (δ.set i (some r)) b→Av c' σ δ b):=by
  cases r with
  | pure d =>
   refine ⟨c,rfl,rfl,k,fun b z=>?_⟩
   rcases z with z | z
   ·exact .inl z
   ·rcases z.of_set with z | ⟨_,d',e⟩
    ·exact .inr z
    ·cases e
  | own d =>
   obtain ⟨a,ea,o,n,f,k2,_⟩:=hr
   refine ⟨c.plus a,rfl,rfl,k2,fun b z=>?_⟩
   rcases z with z | z
   ·exact .inl (.inl z)
   ·rcases z.of_set with z | ⟨e,_⟩
    ·exact .inr z
    ·rw [ea] at e; cases e
     exact .inl (.inr rfl)
 obtain ⟨c',eH,eP,k2,sub⟩:=all
 have eI:∀ a,c'.I a ↔ c.I a:=fun a=>by unfold Fc.I; rw [eP]
 have hrep:Rep H (Av c (σ.set i (some v)) (δ.set i (some r))) v r.d∨∃ d,r = .own d:=by
  cases r with
  | pure d =>
   left
   refine Rep.anti hr fun b z=>?_
   rcases z with z | z
   ·exact .inl (.inl z)
   ·rcases z.of_set with z | ⟨_,d',e⟩
    ·exact .inl (.inr z)
    ·cases e
  | own d=>exact .inr ⟨d,rfl⟩
 refine ⟨⟨k.keep,k.bd,k.ith,by rw [QM,QM]; exact k.len,fun j d e=>?_,fun j d e=>?_,fun j l a d d' e1 e2 e3 e4=>?_,fun p hm=>?_⟩,x.keep,fun b z=>?_,x.there⟩
 ·by_cases hj:i=j
  ·subst hj
   rw [WL] at e
   simp at e
   obtain ⟨hi,rfl⟩:=e
   have hi':i < σ.length:=by rw [← k.len]; exact hi
   rcases hrep with h | ⟨_,h⟩
   ·exact ⟨v,by rw [Wq hi'],h⟩
   ·cases h
  ·rw [W4 hj] at e
   obtain ⟨w,e1,q⟩:=k2.slot j d e
   exact ⟨w,by rw [W4 hj]; exact e1,q.anti fun b z=>.inl (sub b z)⟩
 ·by_cases hj:i=j
  ·subst hj
   rw [WL] at e
   simp at e
   obtain ⟨hi,rfl⟩:=e
   have hi':i < σ.length:=by rw [← k.len]; exact hi
   obtain ⟨a,ea,o,n,f,k3,_⟩:=hr
   refine ⟨a,by rw [Wq hi',ea],o.anti fun b z=>.inl ?_,.inr f,n⟩
   rcases z with z | z
   ·exact .inl (.inl z)
   ·rcases z.of_set with z | ⟨e,_⟩
    ·exact .inr z
    ·rw [ea] at e; cases e
     exact .inl (.inr rfl)
  ·rw [W4 hj] at e
   obtain ⟨a,e1,q,q2,q3⟩:=k.own j d e
   obtain ⟨a',e1',q',_,_⟩:=k2.own j d e
   rw [e1] at e1'; cases e1'
   exact ⟨a,by rw [W4 hj]; exact e1,q'.anti fun b z=>.inl (sub b z),q2,q3⟩
 ·by_cases hj:i=j
  ·subst hj
   by_cases hl:i=l
   ·exact hl
   ·rw [W4 hl] at e2 e4
    rw [WL] at e1 e3
    simp at e1 e3
    obtain ⟨_,rfl⟩:=e1
    obtain ⟨_,rfl⟩:=e3
    obtain ⟨a',ea,o,n,f,k3,_⟩:=hr
    cases ea
    exact absurd ⟨l,d',e2,e4⟩ (z3z k3)
  ·rw [W4 hj] at e1 e3
   by_cases hl:i=l
   ·subst hl
    rw [WL] at e2 e4
    simp at e2 e4
    obtain ⟨_,rfl⟩:=e2
    obtain ⟨_,rfl⟩:=e4
    obtain ⟨a',ea,o,n,f,k3,_⟩:=hr
    cases ea
    exact absurd ⟨j,d,e1,e3⟩ (z3z k3)
   ·rw [W4 hl] at e2 e4
    exact k.inj j l a d d' e1 e2 e3 e4
 ·rw [W4 (Ne.symm (hp p hm))]
  exact k.pinned p hm
 ·rcases z.of_set with z | ⟨e,d,ed⟩
  ·exact x.own b z
  ·subst ed
   obtain ⟨a,ea,_,_,_,_,hs⟩:=hr
   rw [ea] at e; cases e
   exact .inr hs
abbrev DG:=S→Dl→Option Dl
def tGD (c:Fc) (g:DG):TG:=fun v σ H Q=>∃ σ₀ δ₀ H₁ δ r δ',Aft c σ₀ δ₀ H₁ σ δ H∧RepS c σ δ H₁ H v r∧g r δ=some δ'∧∀ σ',Aft c σ₀ δ₀ H₁ σ' δ' H→Q σ' H
abbrev SG (X:Cx) (c:Fc) (tg:Expr) (g:DG):Prop:=PG X tg (tGD c g)
def gNm (np:List Nat) (i:Nat):DG:=fun r δ=>if np.contains i then none else some (δ.set i (some r))
def Np (c:Fc) (np:List Nat):Prop:=∀ p ∈ c.pin,np.contains p.1=true
theorem z5W (hp:Np c np) (h:tGD c (gNm np i) v σ H Q):zbt i v σ H Q:=by
 obtain ⟨σ₀,δ₀,H₁,δ,r,δ',x,rr,e,q⟩:=h
 unfold gNm at e
 split at e
 ·cases e
 ·rename_i hn
  cases e
  exact q _ (Ok.set x rr fun p hm e=>hn (by rw [← e]; exact hp p hm))
theorem PG.weak {tg:Expr} {t t':TG} (h:PG X tg t) (w:∀ v σ H Q,t' v σ H Q→t v σ H Q):PG X tg t':=fun pins s σ H v u Q I r q=>h pins s σ H v u Q I r (w v σ H Q q)
theorem PGs.weak {tg:List Expr} {t t':TGs} (h:PGs X tg t) (w:∀ v σ H Q,t' v σ H Q→t v σ H Q):PGs X tg t':=fun pins s σ H v u Q I r q=>h pins s σ H v u Q I r (w v σ H Q q)
theorem z0C {np:List Nat} {i:Nat} {x:Str} (hp:Np c np) (hN:X.N.Nodup) (hi:X.N[i]? = some x) (hx:Loc X.env.scope x) (hf:X.fn x=true∨X.env.scope.names.lookup x=some .local):SG X c (.Name x pos) (gNm np i) :=
 PG.weak (z9t hN hi hx hf) fun v σ H Q h=>z5W hp h
abbrev DGs:=List D→Dl→Option Dl
def tGDs (c:Fc) (g:DGs):TGs:=fun vs σ H Q=>∃ δ ds δ',Ok c σ δ H∧Reps H (Av c σ δ) vs ds∧g ds δ=some δ'∧∀ σ',Aft c σ δ H σ' δ' H→Q σ' H
abbrev SGs (X:Cx) (c:Fc) (tg:List Expr) (g:DGs):Prop:=PGs X tg (tGDs c g)
def z0Z:DGs:=fun ds δ=>match ds with
 | []=>some δ
 | _=>none
def z0c (g:DG) (gs:DGs):DGs:=fun ds δ=>match ds with
 | []=>none
 | d :: r=>(g (.pure d) δ).bind fun δ1=>gs r δ1
theorem z2v:SGs X c [] z0Z:=PGs.weak z9s fun vs σ H Q ⟨δ,ds,δ',k,r,e,q⟩=>by
 cases ds with
 | nil =>
  cases e
  have:vs=[]:=by have:=r.1; simpa using this
  exact ⟨this,q σ (.refl k)⟩
 | cons d r=>cases e
theorem z0O {es:List Expr} {g:DG} {gs:DGs} (h1:SG X c e g) (h2:SGs X c es gs) (hs:(WV (e :: es) X.env).map (·.2)=assign e X.env :: (WV es X.env).map (·.2):=by rfl):SGs X c (e :: es) (z0c g gs) :=
 PGs.weak (z7O h1 h2 hs) fun vs σ H Q ⟨δ,ds,δ',k,r,e,q⟩=>by
  cases ds with
  | nil=>cases e
  | cons d ds =>
   cases vs with
   | nil=>have:=r.1; simp at this
   | cons v vs =>
    simp only [z0c] at e
    cases e1:g (.pure d) δ with
    | none=>rw [e1] at e; cases e
    | some δ1 =>
     rw [e1] at e
     refine ⟨v,vs,rfl,σ,δ,H,δ,.pure d,δ1,.refl k,r.head,e1,fun σ1 a1=>?_⟩
     exact ⟨δ1,ds,δ',a1.ok,Reps.aft r.tail a1,e,fun σ2 a2=>q σ2 (a1.trans a2)⟩
def gTp (n:Nat) (gs:DGs):DG:=fun r δ=>match r.d with
 | .tup ds=>if ds.length=n then gs ds δ else none
 | _=>none
theorem z46 {es:List Expr} {k:Nat} {gs:DGs} {n:Nat} (hc:X.calm=true) (h:SGs X c es gs) (hn:(WV es X.env).length=n:=by rfl) (hst:(WV es X.env).findIdx? (·.1)=none:=by rfl) :
  SG X c (.Tuple es k pos) (gTp n gs):=PG.weak (zbZ hc h hn hst) fun v σ H Q hw=>by
 obtain ⟨σ₀,δ₀,H₁,δ,r,δ',x,rr,e,q⟩:=hw
 have hb:=rr.b
 unfold gTp at e
 generalize r.d=d at e hb
 cases d <;> first | (cases e; done) | skip
 rename_i ds
 simp only at e
 split at e
 ·rename_i hl
  obtain ⟨a,vs,ea,ha,ra⟩:=hb.tup
  exact ⟨a,vs,ea,.of ha,by rw [ra.1]; exact hl,δ,ds,δ',x.ok,ra,e,fun σ' a1=>q σ' (x.trans a1)⟩
 ·cases e
def dAsg (f:DE) (g:DG):DS:=fun δ=>(f δ).bind fun r δ1=>match g r δ1 with
 | some δ2=>.ok .next δ2
 | none=>.stuck
theorem z67 {g:DG} {D:Ends} {σ:St} {H:Hp} {te:TE} {tg:TG} (he:∀ σ H Q,tD c fe σ H Q→te σ H Q) (hg:∀ v σ H Q,tGD c g v σ H Q→tg v σ H Q) (h:tDS c (dAsg fe g) D σ H):tAsg te tg D σ H:=by
 obtain ⟨δ,k,q⟩:=h
 unfold dAsg z1x at q
 rw [z02] at q
 refine he _ _ _ ⟨δ,k,z01 q fun r δ1 q1 v H1 a1 r1=>hg _ _ _ _ ?_⟩
 cases e:g r δ1 with
 | none=>rw [e] at q1; exact q1.elim
 | some δ2 =>
  rw [e] at q1
  exact ⟨σ,δ,H,δ1,r,δ2,a1,r1,e,fun σ' a2=>q1 σ' H1 a2⟩
theorem z5g {tg:Expr} {g:DG} (he:SE X c e fe) (hg:SG X c tg g) (hs:swapsWithSole [tg] e pos.line X.env=pure false:=by rfl) (hw:swappedStores [tg] e X.env=pure none:=by rfl)
  (h1:(WV [tg] X.env).map (·.2)=[assign tg X.env]:=by rfl):SS X c (.Assign [tg] e pos) (dAsg fe g):=PS.weak (zbY he hg hs hw h1) fun D σ H h=>z67 (fun _ _ _ h=>h) (fun _ _ _ _ h=>h) h
theorem z0u {np:List Nat} {i:Nat} {x:Str} (hp:Np c np) (hN:X.N.Nodup) (hi:X.N[i]? = some x) (hx:Loc X.env.scope x) (he:SE X c e fe) (hs:QB e (some (.Name x pos')) pos.line X.env=pure false) (hf:X.fn x=true∨X.env.scope.names.lookup x=some .local) :
  SS X c (.Assign [.Name x pos'] e pos) (dAsg fe (gNm np i)):=PS.weak (zer hN hi hx he hs hf) fun D σ H h=>z67 (fun _ _ _ h=>h) (fun _ _ _ _ h=>z5W hp h) h
theorem zcs (he:SE X c e fe) (hs:∀ (x:Value),QB e none pos.line X.env=pure false:=by intro _; rfl) (hd:True:=trivial) (h:PS X (.Expr e pos) (zcm (tD c fe))):SS X c (.Expr e pos) (z43 fe):=PS.weak h fun D σ H ⟨δ,k,q⟩=>by
 unfold z43 z1x at q
 rw [z02] at q
 exact ⟨δ,k,z01 q fun r δ1 q1 v H1 a1 r1=>q1 σ H1 a1⟩
theorem Ok.mutL {σ:St} {δ:Dl} {H:Hp} {i:Nat} {ds ds':List D} {a:Addr} {vs':List V} (k:Ok c σ δ H) (e:δ[i]? = some (some (.own (.lst ds)))) (ea:σ[i]? = some (some (.ref a))) (r:Reps H (Av c σ δ) vs' ds') :
  Aft c σ δ H σ (δ.set i (some (.own (.lst ds')))) (upd H a (.lst vs')):=by
 have hi:i < δ.length:=(Wb.mp e).1
 obtain ⟨a',ea',oa,ia,nb⟩:=k.own i _ e
 rw [ea] at ea'; cases ea'
 obtain ⟨vs,ha,_⟩:=oa
 have ownA:Own σ δ a:=⟨i,_,e,ea⟩
 have avA:Av c σ δ a:=.inr ownA
 have own_iff:∀ b,Own σ (δ.set i (some (.own (.lst ds')))) b ↔ Own σ δ b:=fun b=>by
  constructor
  ·rintro ⟨j,d,e1,e2⟩
   by_cases hj:i=j
   ·subst hj
    exact ⟨i,_,e,e2⟩
   ·rw [W4 hj] at e1
    exact ⟨j,d,e1,e2⟩
  ·rintro ⟨j,d,e1,e2⟩
   by_cases hj:i=j
   ·subst hj
    exact ⟨i,_,by rw [Wq hi],e2⟩
   ·exact ⟨j,d,by rw [W4 hj]; exact e1,e2⟩
 have av_iff:∀ b,Av c σ (δ.set i (some (.own (.lst ds')))) b→Av c σ δ b:=fun b z=>z.elim .inl fun z=>.inr ((own_iff b).mp z)
 have ne:∀ b,¬ Av c σ δ b→b≠a:=fun b n z=>n (by rw [z]; exact avA)
 have kp:∀ b o,H b=some o→¬ Av c σ δ b→upd H a (.lst vs') b=some o:=fun b o h n=>by rw [z0f (ne b n)]; exact h
 have hup:∀ b o,H b=some o→∃ o',upd H a (.lst vs') b=some o':=fun b o h=>by
  by_cases hb:b=a
  ·exact ⟨_,by rw [hb]; exact z0l⟩
  ·exact ⟨o,by rw [z0f hb]; exact h⟩
 refine ⟨⟨fun b o h n=>?_,fun b z=>?_,fun b z=>?_,by rw [QM]; exact k.len,fun j d h=>?_,fun j d h=>?_,fun j l b d d' h1 h2 h3 h4=>?_,k.pinned⟩,fun b o h n=>?_,fun b z=>.inl ((own_iff b).mp z),hup⟩
 ·have hb:b≠a:=fun z=>by
   subst z
   rcases ia with z | z
   ·exact n z
   ·rw [z] at h; cases h
  rw [z0f hb]
  exact k.keep b o h n
 ·obtain ⟨o,h⟩:=k.bd b z
  exact hup b o h
 ·obtain ⟨o,h⟩:=k.ith b z
  exact hup b o h
 ·have hj:i≠j:=fun z=>by subst z; rw [Wq hi] at h; cases h
  rw [W4 hj] at h
  obtain ⟨v,h1,h2⟩:=k.slot j d h
  exact ⟨v,h1,(h2.keep kp).anti fun b z=>.inl (av_iff b z)⟩
 ·by_cases hj:i=j
  ·subst hj
   rw [Wq hi] at h
   cases h
   exact ⟨a,ea,⟨vs',z0l,Reps.anti (Reps.keep r kp) fun b z=>.inl (av_iff b z)⟩,ia,nb⟩
  ·rw [W4 hj] at h
   obtain ⟨b,h1,h2,h3,h4⟩:=k.own j d h
   have hb:b≠a:=fun z=>by subst z; exact hj (k.inj i j b _ d e h ea h1)
   exact ⟨b,h1,(h2.keep kp fun o q=>by rw [z0f hb]; exact q).anti fun b z=>.inl (av_iff b z),h3,h4⟩
 ·have f1:∃ d,δ[j]? = some (some (.own d)):=by
   by_cases hj:i=j
   ·subst hj; exact ⟨_,e⟩
   ·rw [W4 hj] at h1; exact ⟨d,h1⟩
  have f2:∃ d,δ[l]? = some (some (.own d)):=by
   by_cases hj:i=l
   ·subst hj; exact ⟨_,e⟩
   ·rw [W4 hj] at h2; exact ⟨d',h2⟩
  obtain ⟨_,f1⟩:=f1
  obtain ⟨_,f2⟩:=f2
  exact k.inj j l b _ _ f1 f2 h3 h4
 ·have hb:b≠a:=fun z=>n (by rw [z]; exact ownA)
  rw [z0f hb]; exact h
def z2r (δ:Dl) (i:Nat):Bool:=match δ[i]? with
 | some (some (.own (.lst _)))=>true
 | _=>false
def putL (δ:Dl) (i:Nat) (f:List D→Option (List D)):Rs Fl:=match δ[i]? with
 | some (some (.own (.lst ds)))=>match f ds with
  | some ds'=>.ok .next (δ.set i (some (.own (.lst ds'))))
  | none=>.stuck
 | _=>.stuck
theorem z6E (h:z2r δ i=true):∃ ds,δ[i]? = some (some (.own (.lst ds))):=by
 unfold z2r at h
 split at h
 ·rename_i ds e; exact ⟨ds,e⟩
 ·cases h
theorem z6j {δ:Dl} {i:Nat} {g:List D→Option (List D)} {kk:Fl→Dl→Prop} (h:post c (putL δ i g) kk):∃ ds ds',δ[i]? = some (some (.own (.lst ds)))∧g ds=some ds'∧kk .next (δ.set i (some (.own (.lst ds')))):=by
 unfold putL at h
 split at h
 ·rename_i ds e
  split at h
  ·rename_i ds' e2
   exact ⟨ds,ds',e,e2,h⟩
  ·exact h.elim
 ·exact h.elim
def z0F (i:Nat) (f:DE):DS:=fun δ=>if z2r δ i then (f δ).bind fun r δ1=>putL δ1 i fun ds=>if ds.length < W6 then some (ds ++ [r.d]) else none else .stuck
theorem z8V {i:Nat} {o:Expr} {p0 apos cpos:Pos} (ho:PE X o (tVar i)) (he:SE X c e fe)
  (h:PS X (.Expr (.Call (.Attribute o "append" apos) [e] [] cpos) pos) (zcm (tBM X.K "list" z9k (tVar i) (zdQ (tD c fe) tNil)))):SS X c (.Expr (.Call (.Attribute o "append" apos) [e] [] cpos) pos) (z0F i fe) :=
 PS.weak h fun D σ H ⟨δ,k,q⟩=>by
  unfold z0F z1x at q
  split at q
  ·rename_i hown
   obtain ⟨ds0,e0⟩:=z6E hown
   rw [z02] at q
   obtain ⟨a,ea,oa,_⟩:=k.own i _ e0
   refine ⟨.ref a,ea,?_,δ,k,z01 q fun r δ1 q1 v H1 a1 r1=>?_⟩
   ·obtain ⟨vs,ha,_⟩:=oa
    exact .inl ⟨rfl,vs,.of ha⟩
   ·obtain ⟨ds,ds',e1,e2,q2⟩:=z6j q1
    split at e2
    ·rename_i hz
     cases e2
     obtain ⟨a',ea',oa1,_⟩:=a1.ok.own i _ e1
     rw [ea] at ea'; cases ea'
     obtain ⟨vs,ha,ra⟩:=id oa1
     refine ⟨a,vs,v,rfl,rfl,ha,by rw [ra.1]; exact hz,?_⟩
     exact q2 σ _ (a1.trans (Ok.mutL a1.ok e1 ea (ra.append (.cons r1.rep .nil))))
    ·cases e2
  ·exact q.elim
def z8A (i:Nat) (fi:DE) (fe:DE):DS:=fun δ=>if z2r δ i then (fe δ).bind fun r δ1=>(fi δ1).bind fun k δ2=>match k with
 | .pure (.int j)=>putL δ2 i fun ds=>(ixN ds.length j).map fun n=>ds.set n r.d
 | _=>.stuck else .stuck
theorem z8R {i:Nat} {o ix:Expr} {fi:DE} {sp:Pos} (ho:PE X o (tVar i)) (hi:SE X c ix fi) (he:SE X c e fe)
  (ha:∀ v,assign (.Subscript o ix sp) X.env v=(do
   let ov ← holding [v] (eval o X.env)
   let iv ← holding [v,ov] (eval ix X.env)
   standAt sp
   holding [v,ov,iv] (setItem ov iv v)
   release [v,ov,iv] []):=by intro _; rfl)
  (hs:swapsWithSole [.Subscript o ix sp] e pos.line X.env=pure false:=by rfl) (hw:swappedStores [.Subscript o ix sp] e X.env=pure none:=by rfl)
  (h1:(WV [.Subscript o ix sp] X.env).map (·.2)=[assign (.Subscript o ix sp) X.env]:=by rfl):SS X c (.Assign [.Subscript o ix sp] e pos) (z8A i fi fe) :=
 PS.weak (zbY he (zev ho hi zaO ha) hs hw h1) fun D σ H ⟨δ,k,q⟩=>by
  unfold z8A z1x at q
  split at q
  ·rename_i hown
   obtain ⟨ds0,e0⟩:=z6E hown
   rw [z02] at q
   obtain ⟨a,ea,_,_⟩:=k.own i _ e0
   refine ⟨δ,k,z01 q fun r δ1 q1 v H1 a1 r1=>⟨.ref a,ea,δ1,a1.ok,?_⟩⟩
   rw [z02] at q1
   refine z01 q1 fun kx δ2 q2 u H2 a2 r2=>?_
   cases kx with
   | own d=>exact q2.elim
   | pure d =>
    cases d <;> first | exact q2.elim | skip
    rename_i j
    cases r2
    obtain ⟨ds,ds',e1,e2,q3⟩:=z6j q2
    cases e3:ixN ds.length j with
    | none=>rw [e3] at e2; cases e2
    | some n =>
     rw [e3] at e2
     cases e2
     obtain ⟨a',ea',oa1,_⟩:=a2.ok.own i _ e1
     rw [ea] at ea'; cases ea'
     obtain ⟨vs,ha,ra⟩:=id oa1
     refine ⟨a,vs,j,n,rfl,rfl,ha,by rw [ra.1]; exact e3,?_⟩
     exact q3 σ _ (a1.trans (a2.trans (Ok.mutL a2.ok e1 ea (ra.set (Rep.aft r1.rep a2) n))))
  ·exact q.elim
end
abbrev DI:=Dl→Rs (List D)
def ItOk (c:Fc) (σ:St) (δ:Dl) (H:Hp) (J:It) (ds:List D):Prop:=∀ H2,(∀ a o,H a=some o→¬ Own σ δ a→H2 a=some o)→J.stop ds.length H2 ∧
 ∀ (i:Nat) d,ds[i]? = some d→J.go i H2∧∀ x H3,J.yld i H2 x H3→(H3=H2∧Rep H (Av c σ δ) x d) ∨
  ∃ p vs es,H2 p=none∧H3=upd H2 p (.tup vs)∧x = .ref p∧d = .tup es∧Reps H (Av c σ δ) vs es
def tI (c:Fc) (f:DI):TI:=fun σ H R=>∃ δ,Ok c σ δ H∧post c (f δ) fun ds δ'=>∀ J H',Aft c σ δ H σ δ' H'→ItOk c σ δ' H' J ds→R J H'
abbrev SI (X:Cx) (c:Fc) (tg iter:Expr) (f:DI):Prop:=PI X tg iter (tI c f)
theorem PI.weak (h:PI X tg iter t) (w:∀ σ H R,t' σ H R→t σ H R):PI X tg iter t':=fun pins s σ H R I q=>h pins s σ H R I (w σ H R q)
section
variable {X:Cx} {c:Fc} {tg e:Expr} {fe:DE} {pos pp:Pos}
theorem zf5 (K:W0) (h:H a=some (.tup vs)) (n:¬ Own σ δ a) (r:Reps H (Av c σ δ) vs ds):ItOk c σ δ H (Itt K a) ds:=by
 intro H2 kp
 have h2:=kp a _ h n
 refine ⟨⟨vs,.of h2,by rw [r.1]; exact We _⟩,fun i d e=>?_⟩
 obtain ⟨v,ev,rv⟩:=r.get e
 refine ⟨⟨vs,v,.of h2,ev⟩,fun x H3 ⟨e3,y⟩=>.inl ⟨e3,?_⟩⟩
 have:=y vs (.of h2)
 rw [ev] at this
 cases this
 exact rv
def z0G (lo:Int) (n:Nat):List D:=(Qk n).map fun k:Nat=>D.int (lo + k)
theorem z5m {lo:Int} {n i:Nat} {d:D} (h:(z0G lo n)[i]? = some d):i < n∧d = .int (lo + i):=by
 unfold z0G at h
 rw [Wv] at h
 by_cases hi:i < n
 ·rw [List.getElem?_range hi] at h
  simp at h
  exact ⟨hi,h.symm⟩
 ·rw [WT (by simpa using hi)] at h
  cases h
theorem zbp (lo:Int) (n:Nat):ItOk c σ δ H (Itr lo n) (z0G lo n):=by
 intro H2 kp
 refine ⟨by show n≤(z0G lo n).length; simp [z0G],fun i d e=>?_⟩
 obtain ⟨hi,rfl⟩:=z5m e
 exact ⟨hi,fun x H3 ⟨e3,ex⟩=>.inl ⟨e3,by rw [ex]; exact .int _⟩⟩
def z5i (j:Int):Bool:=decide (-(2 ^ 62)≤j) && decide (j < 2 ^ 62)
def z12 (f:DE):DI:=fun δ=>(f δ).bind fun r δ1=>match r with
 | .pure (.int j)=>if z5i j then .ok (z0G 0 j.toNat) δ1 else .stuck
 | _=>.stuck
theorem z1M (hg:Gl X "range") (hm:X.mg "range" = none) (he:SE X c e fe) (hs:W3 [e] X.env=[(false,eval e X.env)]:=by rfl):SI X c tg (.Call (.Name "range" pp) [e] [] pos) (z12 fe) :=
 PI.weak (z9r hg hm (z0M he z1F hs) hs) fun σ H R ⟨δ,k,q⟩=>by
  unfold z12 at q
  rw [z02] at q
  refine ⟨δ,k,z01 q fun r δ1 q1 v H1 a1 r1=>?_⟩
  cases r with
  | own d=>exact q1.elim
  | pure d =>
   cases d <;> first | exact q1.elim | skip
   rename_i j
   cases r1
   simp only at q1
   split at q1
   ·rename_i hj
    unfold z5i at hj
    simp only [Wn,decide_eq_true_eq] at hj
    exact ⟨j,rfl,hj.1,hj.2,q1 _ H1 a1 (zbp 0 j.toNat)⟩
   ·exact q1.elim
def forL (g:DG) (b:DS):List D→DS
 | [],δ=>.ok .next δ
 | d :: r,δ=>match g (.pure d) δ with
  | none=>.stuck
  | some δ1=>(b δ1).bind fun fl δ2=>match fl with
   | .next=>forL g b r δ2
   | .cont=>forL g b r δ2
   | .brk=>.ok .next δ2
   | .ret v=>.ok (.ret v) δ2
def dFor (it:DI) (g:DG) (b:DS):DS:=fun δ=>(it δ).bind fun ds δ1=>forL g b ds δ1
theorem z7D (io:ItOk c σ δ H J ds) (a:Aft c σ δ H σ2 δ2 H2) (e:ds[i]? = some d) (y:J.yld i H2 x H3):Aft c σ2 δ2 H2 σ2 δ2 H3∧Rep H3 (Av c σ2 δ2) x d:=by
 obtain ⟨_,t⟩:=io H2 a.keep
 rcases (t i d e).2 x H3 y with ⟨e3,r⟩ | ⟨p,vs,es,hp,e3,ex,ed,r⟩
 ·subst e3
  exact ⟨.refl a.ok,Rep.aft r a⟩
 ·subst e3 ex ed
  have:=RepS.newT a.ok (Reps.aft r a) hp
  exact ⟨.alloc a.ok hp _,this⟩
theorem z2u {iter:Expr} {body:List Stmt} {it:DI} {g:DG} {b:DS} (hp:PassesOwn (model X.prog X.w) X.A X.env X.xe) (hc:X.calm=true) (hi:SI X c tg iter it) (hg:SG X c tg g) (hb:SSs X c body b)
  (hs:∀ x,Qz iter X.env x=pure x:=by intro _; rfl):SS X c (.For tg iter body [] pos) (dFor it g b):=PS.weak (zeu hp hc hi hg hb hs) fun D σ H ⟨δ,k,q⟩=>by
 unfold dFor z1x at q
 rw [z02] at q
 refine ⟨δ,k,z01 q fun ds δ1 q1 J H1 a1 io=>?_⟩
 refine ⟨fun i m σ2 H2=>∃ δ2,m=ds.length - i∧i≤ds.length∧Aft c σ δ1 H1 σ2 δ2 H2∧z1x c D σ2 δ2 H2 (forL g b (ds.drop i) δ2),⟨ds.length,δ1,by simp,QP _,.refl a1.ok,?_⟩,?_⟩
 ·rw [List.drop_zero]
  exact z01 q1 fun fl δ2 q2 σ2 H2 a2=>q2 σ2 H2 (a1.trans a2)
 ·rintro i m σ2 H2 ⟨δ2,rfl,hil,a2,p2⟩
  by_cases hlt:i < ds.length
  ·right
   have e:ds[i]? = some ds[i]:=by simp [hlt]
   rw [List.drop_eq_getElem_cons hlt] at p2
   refine ⟨((io H2 a2.keep).2 i _ e).1,fun σ4 H4=>∃ δ4,Aft c σ δ1 H1 σ4 δ4 H4∧z1x c D σ4 δ4 H4 (forL g b (ds.drop (i + 1)) δ4),fun σ4 H4 ⟨δ4,a4,p4⟩=>⟨ds.length - (i + 1),by omega,δ4,rfl,hlt,a4,p4⟩,fun x H3 y=>?_⟩
   obtain ⟨a3,r3⟩:=z7D io a2 e y
   simp only [forL,z1x] at p2
   cases eg:g (.pure ds[i]) δ2 with
   | none=>rw [eg] at p2; exact p2.elim
   | some δ3 =>
    rw [eg] at p2
    refine ⟨σ2,δ2,H3,δ2,.pure ds[i],δ3,.refl a3.ok,r3,eg,fun σ3 a3'=>?_⟩
    have p3:post c ((b δ3).bind fun fl δ2=>match fl with
     | .next=>forL g b (ds.drop (i + 1)) δ2
     | .cont=>forL g b (ds.drop (i + 1)) δ2
     | .brk=>.ok .next δ2
     | .ret v=>.ok (.ret v) δ2) fun fl δ'=>∀ σ' H',Aft c σ2 δ2 H2 σ' δ' H'→fin c D σ' δ' H' fl:=p2
    rw [z02] at p3
    have a23:Aft c σ2 δ2 H2 σ3 δ3 H3:=a3.trans a3'
    refine ⟨δ3,a3'.ok,z01 p3 fun fl δ4 p4 σ4 H4 a4=>?_⟩
    have a24:=a23.trans a4
    cases fl with
    | next=>exact ⟨δ4,a2.trans a24,z01 p4 fun fl δ5 p5 σ5 H5 a5=>p5 σ5 H5 (a24.trans a5)⟩
    | cont=>exact ⟨δ4,a2.trans a24,z01 p4 fun fl δ5 p5 σ5 H5 a5=>p5 σ5 H5 (a24.trans a5)⟩
    | brk=>exact p4 σ4 H4 a24
    | ret r=>exact p4 σ4 H4 a24
  ·left
   have hi2:i=ds.length:=by omega
   subst hi2
   rw [List.drop_length] at p2
   exact ⟨(io H2 a2.keep).1,p2 σ2 H2 (.refl a2.ok)⟩
def z1L (t:DT) (b:DS):Nat→DS
 | 0,_=>.stuck
 | n + 1,δ=>(t δ).bind fun x δ1=>if x then (b δ1).bind fun fl δ2=>match fl with
   | .next=>z1L t b n δ2
   | .cont=>z1L t b n δ2
   | .brk=>.ok .next δ2
   | .ret v=>.ok (.ret v) δ2
  else .ok .next δ1
theorem z7E {e:Expr} {body:List Stmt} {t:DT} {b:DS} (n:Nat) (hw:∀ {tt:TT} {tb:TS},PT X e tt→PSs X body tb→PS X (.While e body [] pos) (zbR tt tb)) (ht:ST X c e t) (hb:SSs X c body b):SS X c (.While e body [] pos) (z1L t b n) :=
 PS.weak (hw ht hb) fun D σ H ⟨δ,k,q⟩=>by
  refine ⟨fun m σ2 H2=>∃ δ2,Ok c σ2 δ2 H2∧z1x c D σ2 δ2 H2 (z1L t b m δ2),⟨n,δ,k,q⟩,?_⟩
  rintro m σ2 H2 ⟨δ2,k2,q2⟩
  cases m with
  | zero=>exact q2.elim
  | succ m =>
   simp only [z1L,z1x] at q2
   rw [z02] at q2
   refine ⟨δ2,k2,z01 q2 fun x δ3 q3 H3 a3=>?_⟩
   cases x with
   | false=>exact q3 σ2 H3 a3
   | true =>
    have p3:post c ((b δ3).bind fun fl δ2=>match fl with
     | .next=>z1L t b m δ2
     | .cont=>z1L t b m δ2
     | .brk=>.ok .next δ2
     | .ret v=>.ok (.ret v) δ2) fun fl δ'=>∀ σ' H',Aft c σ2 δ2 H2 σ' δ' H'→fin c D σ' δ' H' fl:=q3
    rw [z02] at p3
    refine ⟨fun σ4 H4=>∃ δ4,Ok c σ4 δ4 H4∧z1x c D σ4 δ4 H4 (z1L t b m δ4),fun σ4 H4 w=>⟨m,Nat.lt_succ_self _,w⟩,δ3,a3.ok,z01 p3 fun fl δ4 p4 σ4 H4 a4=>?_⟩
    have a24:=a3.trans a4
    cases fl with
    | next=>exact ⟨δ4,a4.ok,z01 p4 fun fl δ5 p5 σ5 H5 a5=>p5 σ5 H5 (a24.trans a5)⟩
    | cont=>exact ⟨δ4,a4.ok,z01 p4 fun fl δ5 p5 σ5 H5 a5=>p5 σ5 H5 (a24.trans a5)⟩
    | brk=>exact p4 σ4 H4 a24
    | ret r=>exact p4 σ4 H4 a24
end
def clrD (cs:List Nat) (δ:Dl):Dl:=cs.foldl (fun δ i=>δ.set i none) δ
def z24 (cs:List Nat) (δ₁ δ:Dl):Dl:=cs.foldl (fun δ i=>match δ₁[i]? with | some o=>δ.set i o | none=>δ) δ
def z0Y (δ:Dl) (i:Nat):Bool:=match δ[i]? with
 | some (some (.own _))=>true
 | _=>false
theorem z87 (cs:List Nat):∀ δ:Dl,(clrD cs δ).length=δ.length:=by
 induction cs with
 | nil=>intro δ; rfl
 | cons i r ih =>
  intro δ
  show (clrD r (δ.set i none)).length=_
  rw [ih]; simp
theorem z1d:∀ (cs:List Nat) (δ:Dl) (i:Nat) (v:S),(clrD cs δ)[i]? = some (some v)→δ[i]? = some (some v)∧i ∉ cs:=by
 intro cs
 induction cs with
 | nil=>intro δ i v h; exact ⟨h,by simp⟩
 | cons j r ih =>
  intro δ i v h
  have h':(clrD r (δ.set j none))[i]? = some (some v):=h
  obtain ⟨h1,h2⟩:=ih _ i v h'
  by_cases e:j=i
  ·subst e
   rw [WL] at h1
   simp at h1
  ·rw [W4 e] at h1
   exact ⟨h1,by simp only [Wp,not_or]; exact ⟨Ne.symm e,h2⟩⟩
theorem z2k:∀ (cs:List Nat) (σ:St) (i:Nat),i ∉ cs→(clr cs σ)[i]? = σ[i]?:=by
 intro cs
 induction cs with
 | nil=>intro σ i _; rfl
 | cons j r ih =>
  intro σ i h
  simp only [Wp,not_or] at h
  show (clr r (σ.set j none))[i]? = _
  rw [ih _ _ h.2,W4 (Ne.symm h.1)]
theorem zbE:∀ (cs:List Nat) (δ:Dl) (i:Nat),i ∉ cs→(clrD cs δ)[i]? = δ[i]?:=by
 intro cs
 induction cs with
 | nil=>intro σ i _; rfl
 | cons j r ih =>
  intro σ i h
  simp only [Wp,not_or] at h
  show (clrD r (σ.set j none))[i]? = _
  rw [ih _ _ h.2,W4 (Ne.symm h.1)]
theorem zaD (cs:List Nat) (δ₁:Dl):∀ δ:Dl,(z24 cs δ₁ δ).length=δ.length:=by
 induction cs with
 | nil=>intro δ; rfl
 | cons i r ih =>
  intro δ
  unfold z24
  rw [QN]
  have:=ih (match δ₁[i]? with | some o=>δ.set i o | none=>δ)
  unfold z24 at this
  rw [this]
  cases δ₁[i]? <;> simp
theorem z3K:∀ (cs:List Nat) (δ₁ δ:Dl) (i:Nat),i ∉ cs→(z24 cs δ₁ δ)[i]? = δ[i]?:=by
 intro cs δ₁
 induction cs with
 | nil=>intro δ i _; rfl
 | cons j r ih =>
  intro δ i h
  simp only [Wp,not_or] at h
  unfold z24
  rw [QN]
  have:=ih (match δ₁[j]? with | some o=>δ.set j o | none=>δ) i h.2
  unfold z24 at this
  rw [this]
  cases δ₁[j]? with
  | none=>rfl
  | some o=>simp only; rw [W4 (Ne.symm h.1)]
theorem z66:∀ (cs:List Nat) (δ₁ δ:Dl) (i:Nat),δ₁.length=δ.length→i ∈ cs→(z24 cs δ₁ δ)[i]? = δ₁[i]?:=by
 intro cs δ₁
 induction cs with
 | nil=>intro δ i _ h; simp at h
 | cons j r ih =>
  intro δ i hl h
  unfold z24
  rw [QN]
  have hl2:δ₁.length=(match δ₁[j]? with | some o=>δ.set j o | none=>δ).length:=by cases δ₁[j]? <;> simp [hl]
  by_cases hr:i ∈ r
  ·have:=ih (match δ₁[j]? with | some o=>δ.set j o | none=>δ) i hl2 hr
   unfold z24 at this
   exact this
  ·have e:i=j:=by
    rcases Wp.mp h with e | e
    ·exact e
    ·exact absurd e hr
   subst e
   have:=z3K r δ₁ (match δ₁[i]? with | some o=>δ.set i o | none=>δ) i hr
   unfold z24 at this
   rw [this]
   cases e:δ₁[i]? with
   | none =>
    simp only
    have:=List.getElem?_eq_none_iff.mp e
    exact WT (by omega)
   | some o =>
    simp only
    have:=(Wb.mp e).1
    rw [Wq (by omega)]
section
variable {c:Fc} {σ:St} {δ δ':Dl} {H H':Hp} {l:Addr} {cs:List Nat}
theorem Ok.less (k:Ok (c.plus l) σ δ H):Ok c σ δ H:=by
 have sub:∀ b,Av c σ δ b→Av (c.plus l) σ δ b:=fun b z=>z.elim (fun z=>.inl (.inl z)) .inr
 refine ⟨k.keep,fun a z=>k.bd a (.inl z),k.ith,k.len,fun i d e=>?_,fun i d e=>?_,k.inj,k.pinned⟩
 ·obtain ⟨v,h1,h2⟩:=k.slot i d e
  exact ⟨v,h1,h2.anti fun b z=>.inl (sub b z)⟩
 ·obtain ⟨a,h1,h2,h3,h4⟩:=k.own i d e
  exact ⟨a,h1,h2.anti fun b z=>.inl (sub b z),h3,fun z=>h4 (.inl z)⟩
theorem Ok.updB (k:Ok c σ δ H) (hb:c.B l) (h0:c.H₀ l=none) (o:HO):Ok c σ δ (upd H l o):=by
 have kp:∀ b w,H b=some w→¬ Av c σ δ b→upd H l o b=some w:=fun b w e n=>by
  rw [z0f (fun z=>n (by rw [z]; exact .inl hb))]; exact e
 have hup:∀ b w,H b=some w→∃ w',upd H l o b=some w':=fun b w h=>by
  by_cases hb:b=l
  ·exact ⟨_,by rw [hb]; exact z0l⟩
  ·exact ⟨w,by rw [z0f hb]; exact h⟩
 refine ⟨fun a w e n=>?_,fun a z=>?_,fun a z=>?_,k.len,fun i d e=>?_,fun i d e=>?_,k.inj,k.pinned⟩
 ·have:a≠l:=fun z=>by rw [z,h0] at e; cases e
  rw [z0f this]; exact k.keep a w e n
 ·obtain ⟨w,e⟩:=k.bd a z; exact hup a w e
 ·obtain ⟨w,e⟩:=k.ith a z; exact hup a w e
 ·obtain ⟨v,h1,h2⟩:=k.slot i d e
  exact ⟨v,h1,h2.keep kp⟩
 ·obtain ⟨a,h1,h2,h3,h4⟩:=k.own i d e
  have:a≠l:=fun z=>h4 (by rw [z]; exact hb)
  exact ⟨a,h1,h2.keep kp fun w q=>by rw [z0f this]; exact q,h3,h4⟩
theorem Own.clr (h:Own (clr cs σ) (clrD cs δ) l):Own σ δ l:=by
 obtain ⟨i,d,e1,e2⟩:=h
 exact ⟨i,d,(z1d cs δ i _ e1).1,(z2I cs σ i _ e2).1⟩
theorem Ok.clr (k:Ok c σ δ H) (hp:∀ p ∈ c.pin,p.1 ∉ cs):Ok c (L2.clr cs σ) (clrD cs δ) H:=by
 have sub:∀ b,Av c (L2.clr cs σ) (clrD cs δ) b→Av c σ δ b:=fun b z=>z.elim .inl fun z=>.inr z.clr
 refine ⟨k.keep,k.bd,k.ith,by rw [z87,z63]; exact k.len,fun i d e=>?_,fun i d e=>?_,fun i j a d d' e1 e2 e3 e4=>?_,fun p hm=>?_⟩
 ·obtain ⟨e',hi⟩:=z1d cs δ i _ e
  obtain ⟨v,h1,h2⟩:=k.slot i d e'
  exact ⟨v,by rw [z2k cs σ i hi]; exact h1,h2.anti fun b z=>.inl (sub b z)⟩
 ·obtain ⟨e',hi⟩:=z1d cs δ i _ e
  obtain ⟨a,h1,h2,h3⟩:=k.own i d e'
  exact ⟨a,by rw [z2k cs σ i hi]; exact h1,h2.anti fun b z=>.inl (sub b z),h3⟩
 ·exact k.inj i j a d d' (z1d cs δ i _ e1).1 (z1d cs δ j _ e2).1 (z2I cs σ i _ e3).1 (z2I cs σ j _ e4).1
 ·rw [z2k cs σ _ (hp p hm)]; exact k.pinned p hm
theorem Aft.back (k:Ok c₀ σ δ H) (hpin:c.pin=c₀.pin) (hB:∀ b,c.B b→c₀.B b∨H b=none) (hno:cs.any (z0Y δ)=false) (x:Aft c (L2.clr cs σ) (clrD cs δ) H (L2.clr cs σ) δ' H'):Aft c σ δ H σ (z24 cs δ δ') H':=by
 have len:δ.length=δ'.length:=by
  have:=x.ok.len
  rw [z63] at this
  rw [this]; exact k.len
 have nown:∀ i d,i ∈ cs→δ[i]?≠some (some (.own d)):=fun i d hi e=>by
  have:=List.any_eq_false.mp hno i hi
  unfold z0Y at this
  rw [e] at this
  simp at this
 have ownOut:∀ i d,(z24 cs δ δ')[i]? = some (some (.own d))→i ∉ cs∧δ'[i]? = some (some (.own d)):=fun i d e=>by
  by_cases hi:i ∈ cs
  ·rw [z66 cs δ δ' i len hi] at e
   exact absurd e (nown i d hi)
  ·rw [z3K cs δ δ' i hi] at e
   exact ⟨hi,e⟩
 have sub:∀ b,Own σ (z24 cs δ δ') b→Own (L2.clr cs σ) δ' b:=fun b ⟨i,d,e1,e2⟩=>by
  obtain ⟨hi,e⟩:=ownOut i d e1
  exact ⟨i,d,e,by rw [z2k cs σ i hi]; exact e2⟩
 have subA:∀ b,Av c σ (z24 cs δ δ') b→Av c (L2.clr cs σ) δ' b:=fun b z=>z.elim .inl fun z=>.inr (sub b z)
 have ownEq:∀ b,Own σ δ b→Own (L2.clr cs σ) (clrD cs δ) b:=fun b ⟨i,d,e1,e2⟩=>by
  have hi:i ∉ cs:=fun z=>nown i d z e1
  exact ⟨i,d,by rw [zbE cs δ i hi]; exact e1,by rw [z2k cs σ i hi]; exact e2⟩
 refine ⟨⟨x.ok.keep,x.ok.bd,x.ok.ith,by rw [zaD,← len]; exact k.len,fun i d e=>?_,fun i d e=>?_,fun i j a d d' e1 e2 e3 e4=>?_,by rw [hpin]; exact k.pinned⟩,fun a o e n=>?_,fun a z=>?_,x.there⟩
 ·by_cases hi:i ∈ cs
  ·rw [z66 cs δ δ' i len hi] at e
   obtain ⟨v,h1,h2⟩:=k.slot i d e
   have h3:Rep H (Av c (L2.clr cs σ) (clrD cs δ)) v d:=h2.anti fun b z=>by
    rcases z with z | z
    ·exact (hB b z).elim (fun z=>.inl (.inl z)) .inr
    ·exact .inl (.inr z.clr)
   exact ⟨v,h1,(Rep.aft h3 x).anti fun b z=>.inl (subA b z)⟩
  ·rw [z3K cs δ δ' i hi] at e
   obtain ⟨v,h1,h2⟩:=x.ok.slot i d e
   exact ⟨v,(z2I cs σ i v h1).1,h2.anti fun b z=>.inl (subA b z)⟩
 ·obtain ⟨hi,e'⟩:=ownOut i d e
  obtain ⟨a,h1,h2,h3⟩:=x.ok.own i d e'
  exact ⟨a,(z2I cs σ i _ h1).1,h2.anti fun b z=>.inl (subA b z),h3⟩
 ·obtain ⟨hi,f1⟩:=ownOut i d e1
  obtain ⟨hj,f2⟩:=ownOut j d' e2
  exact x.ok.inj i j a d d' f1 f2 (by rw [z2k cs σ i hi]; exact e3) (by rw [z2k cs σ j hj]; exact e4)
 ·exact x.keep a o e fun z=>n z.clr
 ·rcases x.own a (sub a z) with q | q
  ·exact .inl q.clr
  ·exact .inr q
end
def z1s (cs:List Nat) (g:DG) (t:DT) (el:DE):List D→Dl→List D→Rs (List D)
 | [],δ,acc=>.ok acc δ
 | d :: r,δ,acc=>match g (.pure d) δ with
  | none=>.stuck
  | some δ1=>(t δ1).bind fun b δ2=>if b then (el δ2).bind fun x δ3=>if acc.length < W6 then z1s cs g t el r (clrD cs δ3) (acc ++ [x.d]) else .stuck
   else z1s cs g t el r (clrD cs δ2) acc
def z2t (cs:List Nat) (it:DI) (g:DG) (t:DT) (el:DE):DE:=fun δ=>(it δ).bind fun ds δ1=>if cs.any (z0Y δ1) then .stuck else
 (z1s cs g t el ds (clrD cs δ1) []).bind fun acc δ2=>.ok (.own (.lst acc)) (z24 cs δ1 δ2)
def dYes:DT:=fun δ=>.ok true δ
abbrev STs (X:Cx) (c:Fc) (ifs:List Expr) (t:DT):Prop:=PTs X ifs (tT c t)
theorem z74 {X:Cx} {c:Fc}:STs X c [] dYes:=fun pins s σ H Q I ⟨δ,k,q⟩=>zcO pins s σ H Q I (q H (.refl k))
theorem z8P {X:Cx} {c:Fc} {e:Expr} {t:DT} (h:ST X c e t):STs X c [e] t:=zcN h
section
variable {X:Cx} {c:Fc} {cs:List Nat} {tg iter elt:Expr} {ifs:List Expr} {scope:Scope} {pos:Pos} {it:DI} {g:DG} {t:DT} {el:DE}
theorem Aft.clear (x:Aft c (L2.clr cs σ) δ H σ4 δ4 H4) (le:Le (L2.clr cs σ) σ4) (hp:∀ p ∈ c.pin,p.1 ∉ cs) (hs:∀ (i:Nat) v,σ4[i]? = some (some v)→i ∉ cs→σ[i]? = some (some v)):Aft c (L2.clr cs σ) δ H (L2.clr cs σ) (clrD cs δ4) H4:=by
 have eq:∀ i,i ∉ cs→∀ v,σ4[i]? = some (some v)→(L2.clr cs σ)[i]? = some (some v):=fun i hi v e=>by rw [z2k cs σ i hi]; exact hs i v e hi
 have own:∀ b,Own (L2.clr cs σ) (clrD cs δ4) b→Own σ4 δ4 b:=fun b ⟨i,d,e1,e2⟩=>by
  exact ⟨i,d,(z1d cs δ4 i _ e1).1,le.2 i _ e2⟩
 have sub:∀ b,Av c (L2.clr cs σ) (clrD cs δ4) b→Av c σ4 δ4 b:=fun b z=>z.elim .inl fun z=>.inr (own b z)
 have k:=x.ok
 refine ⟨⟨k.keep,k.bd,k.ith,by rw [z87,k.len]; exact le.1,fun i d e=>?_,fun i d e=>?_,fun i j a d d' e1 e2 e3 e4=>?_,fun p hm=>?_⟩,x.keep,fun a z=>x.own a (own a z),x.there⟩
 ·obtain ⟨e',hi⟩:=z1d cs δ4 i _ e
  obtain ⟨v,h1,h2⟩:=k.slot i d e'
  exact ⟨v,eq i hi v h1,h2.anti fun b z=>.inl (sub b z)⟩
 ·obtain ⟨e',hi⟩:=z1d cs δ4 i _ e
  obtain ⟨a,h1,h2,h3⟩:=k.own i d e'
  exact ⟨a,eq i hi _ h1,h2.anti fun b z=>.inl (sub b z),h3⟩
 ·exact k.inj i j a d d' (z1d cs δ4 i _ e1).1 (z1d cs δ4 j _ e2).1 (le.2 i _ e3) (le.2 j _ e4)
 ·exact eq p.1 (hp p hm) _ (k.pinned p hm)
def Out (cs:List Nat) (σ σ':St):Prop:=σ'.length=σ.length∧∀ i,i ∉ cs→σ'[i]? = σ[i]?
theorem Out.trans (a:Out cs σ σ') (b:Out cs σ' σ''):Out cs σ σ'':=⟨b.1.trans a.1,fun i h=>(b.2 i h).trans (a.2 i h)⟩
def tGC (cs:List Nat) (c:Fc) (g:DG):TG:=fun v σ H Q=>∃ σ₀ δ₀ H₁ δ r δ',Aft c σ₀ δ₀ H₁ σ δ H∧RepS c σ δ H₁ H v r∧g r δ=some δ'∧∀ σ',Aft c σ₀ δ₀ H₁ σ' δ' H→Out cs σ σ'→Q σ' H
abbrev SGC (X:Cx) (c:Fc) (cs:List Nat) (tg:Expr) (g:DG):Prop:=PG X tg (tGC cs c g)
theorem z2d {np:List Nat} {i:Nat} {x:Str} (hp:Np c np) (hN:X.N.Nodup) (hi:X.N[i]? = some x) (hx:Loc X.env.scope x) (hf:X.fn x=true∨X.env.scope.names.lookup x=some .local) (hc:i ∈ cs):SGC X c cs (.Name x pos) (gNm np i) :=
 PG.weak (z9t hN hi hx hf) fun v σ H Q ⟨σ₀,δ₀,H₁,δ,r,δ',x,rr,e,q⟩=>by
  unfold gNm at e
  split at e
  ·cases e
  ·rename_i hn
   cases e
   refine q _ (Ok.set x rr fun p hm e=>hn (by rw [← e]; exact hp p hm)) ⟨by simp,fun j hj=>?_⟩
   rw [W4 (fun z=>hj (by rw [← z]; exact hc))]
def tGCs (cs:List Nat) (c:Fc) (g:DGs):TGs:=fun vs σ H Q=>∃ δ ds δ',Ok c σ δ H∧Reps H (Av c σ δ) vs ds∧g ds δ=some δ'∧∀ σ',Aft c σ δ H σ' δ' H→Out cs σ σ'→Q σ' H
abbrev SGCs (X:Cx) (c:Fc) (cs:List Nat) (tg:List Expr) (g:DGs):Prop:=PGs X tg (tGCs cs c g)
theorem z7G:SGCs X c cs [] z0Z:=PGs.weak z9s fun vs σ H Q ⟨δ,ds,δ',k,r,e,q⟩=>by
 cases ds with
 | nil =>
  cases e
  have:vs=[]:=by have:=r.1; simpa using this
  exact ⟨this,q σ (.refl k) ⟨rfl,fun _ _=>rfl⟩⟩
 | cons d r=>cases e
theorem z3p {e:Expr} {es:List Expr} {g:DG} {gs:DGs} (h1:SGC X c cs e g) (h2:SGCs X c cs es gs) (hs:(WV (e :: es) X.env).map (·.2)=assign e X.env :: (WV es X.env).map (·.2):=by rfl):SGCs X c cs (e :: es) (z0c g gs) :=
 PGs.weak (z7O h1 h2 hs) fun vs σ H Q ⟨δ,ds,δ',k,r,e,q⟩=>by
  cases ds with
  | nil=>cases e
  | cons d ds =>
   cases vs with
   | nil=>have:=r.1; simp at this
   | cons v vs =>
    simp only [z0c] at e
    cases e1:g (.pure d) δ with
    | none=>rw [e1] at e; cases e
    | some δ1 =>
     rw [e1] at e
     refine ⟨v,vs,rfl,σ,δ,H,δ,.pure d,δ1,.refl k,r.head,e1,fun σ1 a1 o1=>?_⟩
     exact ⟨δ1,ds,δ',a1.ok,Reps.aft r.tail a1,e,fun σ2 a2 o2=>q σ2 (a1.trans a2) (o1.trans o2)⟩
theorem z90 {es:List Expr} {k:Nat} {gs:DGs} {n:Nat} (hc:X.calm=true) (h:SGCs X c cs es gs) (hn:(WV es X.env).length=n:=by rfl) (hst:(WV es X.env).findIdx? (·.1)=none:=by rfl) :
  SGC X c cs (.Tuple es k pos) (gTp n gs):=PG.weak (zbZ hc h hn hst) fun v σ H Q hw=>by
 obtain ⟨σ₀,δ₀,H₁,δ,r,δ',x,rr,e,q⟩:=hw
 have hb:=rr.b
 unfold gTp at e
 generalize r.d=d at e hb
 cases d <;> first | (cases e; done) | skip
 rename_i ds
 simp only at e
 split at e
 ·rename_i hl
  obtain ⟨a,vs,ea,ha,ra⟩:=hb.tup
  exact ⟨a,vs,ea,.of ha,by rw [ra.1]; exact hl,δ,ds,δ',x.ok,ra,e,fun σ' a1 o1=>q σ' (x.trans a1) o1⟩
 ·cases e
theorem Aft.less (x:Aft (c.plus l) σ δ H σ' δ' H'):Aft c σ δ H σ' δ' H':=⟨x.ok.less,x.keep,x.own,x.there⟩
theorem z6S (hwi:∀ σ H R,tI c it σ H R→wi σ H R) (hg:∀ l v σ H Q,tGC cs (c.plus l) g v σ H Q→gt v σ H Q) (ht:∀ l σ H Q,tT (c.plus l) t σ H Q→tt σ H Q) (he:∀ l σ H Q,tD (c.plus l) el σ H Q→te σ H Q)
  (hp:∀ p ∈ c.pin,p.1 ∉ cs) (h:tD c (z2t cs it g t el) σ H Q):zcn cs wi gt tt te σ H Q:=by
 obtain ⟨δ,k,q⟩:=h
 unfold z2t at q
 rw [z02] at q
 refine hwi _ _ _ ⟨δ,k,z01 q fun ds δ1 q1 J H1 a1 io=>?_⟩
 intro l hl
 split at q1
 ·exact q1.elim
 ·rename_i hno
  have hno':cs.any (z0Y δ1)=false:=by simpa using hno
  rw [z02] at q1
  have k1:=a1.ok
  have kp:=k1.plus hl (.lst [])
  have k0:Ok (c.plus l) (L2.clr cs σ) (clrD cs δ1) (upd H1 l (.lst [])):=kp.clr hp
  have up:∀ a w,H1 a=some w→upd H1 l (.lst []) a=some w:=fun a w e=>by
   rw [z0f (z0v e hl)]; exact e
  have h0:c.H₀ l=none:=k1.fresh₀ hl
  -- the walked things,as the block sees them
  have io':ItOk (c.plus l) (L2.clr cs σ) (clrD cs δ1) H1 J ds:=by
   intro H2 kp2
   obtain ⟨s1,s2⟩:=io H2 fun a o e n=>kp2 a o e fun z=>n z.clr
   have cv:∀ {x:V} {d:D},Rep H1 (Av c σ δ1) x d→Rep H1 (Av (c.plus l) (L2.clr cs σ) (clrD cs δ1)) x d:=fun {x d} r =>
    r.anti fun b z=>by
     rcases z with (z | z) | z
     ·exact .inl (.inl z)
     ·exact .inr (by rw [z]; exact hl)
     ·exact .inl (.inr z.clr)
   refine ⟨s1,fun i d e=>⟨(s2 i d e).1,fun x H3 y=>?_⟩⟩
   rcases (s2 i d e).2 x H3 y with ⟨e3,r⟩ | ⟨p,vs,es,hp,e3,ex,ed,r⟩
   ·exact .inl ⟨e3,cv r⟩
   ·exact .inr ⟨p,vs,es,hp,e3,ex,ed,r.1,fun i v d e1 e2=>cv (r.2 i v d e1 e2)⟩
  let Fin:List D→Dl→Prop:=fun acc δ'=>∀ H' vs,Aft (c.plus l) (L2.clr cs σ) (clrD cs δ1) H1 (L2.clr cs σ) δ' H'→H' l=some (.lst vs)→Reps H' (Av (c.plus l) (L2.clr cs σ) δ') vs acc→Q (.ref l) H'
  have q2:post c (z1s cs g t el ds (clrD cs δ1) []) Fin:=z01 q1 fun acc δ2 q2 H' vs x hv r=>by
   have b1:Aft (c.plus l) σ δ1 H1 σ (z24 cs δ1 δ2) H':=Aft.back k1 rfl (fun b z=>z.elim .inl fun z=>.inr (by rw [z]; exact hl)) hno' x
   have b2:Aft c σ δ1 H1 σ (z24 cs δ1 δ2) H':=b1.less
   have len:δ1.length=δ2.length:=by
    have:=x.ok.len
    rw [z63] at this
    rw [this]; exact k1.len
   have hlH:H l=none:=by
    cases e:H l with
    | none=>rfl
    | some o =>
     obtain ⟨o',e'⟩:=a1.there l o e
     rw [hl] at e'; cases e'
   refine q2 _ H' (a1.trans b2) ⟨l,rfl,⟨vs,hv,Reps.anti r fun b z=>.inl ?_⟩,fun z=>k1.nav hl (.inl z),h0,b1.ok,hlH⟩
   rcases z with z | ⟨i,d,e1,e2⟩
   ·exact .inl z
   ·have hi:i ∉ cs:=fun hi=>by
     rw [z66 cs δ1 δ2 i len hi] at e1
     have:=List.any_eq_false.mp hno' i hi
     unfold z0Y at this
     rw [e1] at this
     simp at this
    rw [z3K cs δ1 δ2 i hi] at e1
    exact .inr ⟨i,d,e1,by rw [z2k cs σ i hi]; exact e2⟩
  refine ⟨fun i m H2=>∃ δ2 acc vs,m=ds.length - i∧i≤ds.length∧Aft (c.plus l) (L2.clr cs σ) (clrD cs δ1) H1 (L2.clr cs σ) δ2 H2∧H2 l=some (.lst vs)∧Reps H2 (Av (c.plus l) (L2.clr cs σ) δ2) vs acc ∧
   post c (z1s cs g t el (ds.drop i) δ2 acc) Fin,⟨ds.length,clrD cs δ1,[],[],by simp,QP _,⟨k0,fun a w e _=>up a w e,fun a z=>.inl z,fun a w e=>⟨w,up a w e⟩⟩,z0l,.nil,by rw [List.drop_zero]; exact q2⟩,?_⟩
  rintro i m H2 ⟨δ2,acc,vs,rfl,hil,a2,hv,rv,p2⟩
  by_cases hlt:i < ds.length
  ·right
   have e:ds[i]? = some ds[i]:=by simp [hlt]
   rw [List.drop_eq_getElem_cons hlt] at p2
   refine ⟨((io' H2 a2.keep).2 i _ e).1,fun x H3 y=>hg l _ _ _ _ ?_⟩
   obtain ⟨a3,r3⟩:=z7D io' a2 e y
   simp only [z1s] at p2
   cases eg:g (.pure ds[i]) δ2 with
   | none=>rw [eg] at p2; exact p2.elim
   | some δ3 =>
    rw [eg] at p2
    have p3:post c ((t δ3).bind fun b δ2=>if b then (el δ2).bind fun x δ3=>if acc.length < W6 then z1s cs g t el (ds.drop (i + 1)) (clrD cs δ3) (acc ++ [x.d]) else .stuck
     else z1s cs g t el (ds.drop (i + 1)) (clrD cs δ2) acc) Fin:=p2
    refine ⟨L2.clr cs σ,δ2,H3,δ2,.pure ds[i],δ3,.refl a3.ok,r3,eg,fun σ4 a4 o4=>?_⟩
    have le:Le (L2.clr cs σ) σ4:=⟨o4.1,fun j v ej=>by
     rw [o4.2 j (z2I cs σ j v ej).2]; exact ej⟩
    have hs:∀ (j:Nat) v,σ4[j]? = some (some v)→j ∉ cs→σ[j]? = some (some v):=fun j v ej hj=>by
     rw [o4.2 j hj] at ej
     exact (z2I cs σ j v ej).1
    refine ⟨le,ht l _ _ _ ⟨δ3,a4.ok,?_⟩⟩
    rw [z02] at p3
    have pinp:∀ p ∈ (c.plus l).pin,p.1 ∉ cs:=hp
    have a24:=a2.trans (a3.trans a4)
    have ln:∀ {σ':St} {δ':Dl} {H':Hp},Ok (c.plus l) σ' δ' H'→¬ Own σ' δ' l:=fun {σ' δ' H'} k=>z3z k
    have p3':post (c.plus l) (t δ3) fun b δ5=>post c (if b then (el δ5).bind fun x δ3=>if acc.length < W6 then z1s cs g t el (ds.drop (i + 1)) (clrD cs δ3) (acc ++ [x.d]) else .stuck
     else z1s cs g t el (ds.drop (i + 1)) (clrD cs δ5) acc) Fin:=p3
    refine z01 p3' fun b δ5 p5 H5 a5=>?_
    have a25:=a24.trans a5
    have hv3:H3 l=some (.lst vs):=a3.keep l _ hv (ln a2.ok)
    have hv5:H5 l=some (.lst vs):=a5.keep l _ hv3 (ln a4.ok)
    have rv3:=Reps.aft (Reps.aft (Reps.aft rv a3) a4) a5
    cases b with
    | false =>
     have c5:=a25.clear le pinp hs
     refine ⟨ds.length - (i + 1),by omega,clrD cs δ5,acc,vs,rfl,hlt,c5,hv5,Reps.anti rv3 fun b z=>.inl ?_,p5⟩
     exact z.elim .inl fun ⟨j,d,e1,e2⟩=>.inr ⟨j,d,(z1d cs δ5 j _ e1).1,le.2 j _ e2⟩
    | true =>
     have p5':post c ((el δ5).bind fun x δ3=>if acc.length < W6 then z1s cs g t el (ds.drop (i + 1)) (clrD cs δ3) (acc ++ [x.d]) else .stuck) Fin:=p5
     rw [z02] at p5'
     refine he l _ _ _ ⟨δ5,a5.ok,?_⟩
     have p6:post (c.plus l) (el δ5) fun x δ6=>post c (if acc.length < W6 then z1s cs g t el (ds.drop (i + 1)) (clrD cs δ6) (acc ++ [x.d]) else .stuck) Fin:=p5'
     refine z01 p6 fun x δ6 p7 v H6 a6 r6=>?_
     split at p7
     ·rename_i hz
      have a26:=a25.trans a6
      have hv6:H6 l=some (.lst vs):=a6.keep l _ hv5 (ln a5.ok)
      have rv6:=Reps.aft rv3 a6
      have rr:Reps H6 (Av (c.plus l) σ4 δ6) (vs ++ [v]) (acc ++ [x.d]):=rv6.append (.cons r6.rep .nil)
      have c6:=a26.clear le pinp hs
      have kpl:∀ b o,H6 b=some o→¬ Av (c.plus l) σ4 δ6 b→upd H6 l (.lst (vs ++ [v])) b=some o:=fun b o e n=>by
       rw [z0f (fun z=>n (by rw [z]; exact .inl (.inr rfl)))]; exact e
      have sub6:∀ b,Av (c.plus l) (L2.clr cs σ) (clrD cs δ6) b→Av (c.plus l) σ4 δ6 b:=fun b z=>z.elim .inl fun ⟨j,d,e1,e2⟩=>.inr ⟨j,d,(z1d cs δ6 j _ e1).1,le.2 j _ e2⟩
      refine ⟨vs,ds.length - (i + 1),hv6,by rw [rv6.1]; exact hz,by omega,clrD cs δ6,acc ++ [x.d],vs ++ [v],rfl,hlt,?_,z0l,Reps.anti (Reps.keep rr kpl) fun b z=>.inl (sub6 b z),p7⟩
      -- the list that is built has grown
      refine ⟨c6.ok.updB (.inr rfl) h0 _,fun a o ea n=>?_,fun a z=>c6.own a z,fun a o ea=>?_⟩
      ·have hal:a≠l:=fun z=>by rw [z,hl] at ea; cases ea
       rw [z0f hal]; exact c6.keep a o ea n
      ·by_cases hal:a=l
       ·exact ⟨_,by rw [hal]; exact z0l⟩
       ·obtain ⟨o',e'⟩:=c6.there a o ea
        exact ⟨o',by rw [z0f hal]; exact e'⟩
     ·exact p7.elim
  ·left
   have hi2:i=ds.length:=by omega
   subst hi2
   rw [List.drop_length] at p2
   exact ⟨(io' H2 a2.keep).1,p2 H2 vs a2 hv rv⟩
theorem z5F (hc:X.calm=true) (S:CScope X scope cs) (hi:SI X c tg iter it) (hg:∀ l s₀ H₀ ex,SGC (z1m X scope s₀ H₀ ex) (c.plus l) cs tg g) (ht:∀ l s₀ H₀ ex,STs (z1m X scope s₀ H₀ ex) (c.plus l) ifs t)
  (he:∀ l s₀ H₀ ex,SE (z1m X scope s₀ H₀ ex) (c.plus l) elt el) (hp:∀ p ∈ c.pin,p.1 ∉ cs) (hs:∀ x,Qz iter X.env x=pure x:=by intro _; rfl) :
  SE X c (.ListComp elt [⟨tg,iter,ifs,0⟩] scope pos) (z2t cs it g t el) :=
 PE.weak (zcU (g:=fun v σ H Q=>∃ l,tGC cs (c.plus l) g v σ H Q) (tt:=fun σ H Q=>∃ l,tT (c.plus l) t σ H Q) (te:=fun σ H Q=>∃ l,tD (c.plus l) el σ H Q) hc S hi
  (fun s₀ H₀ ex pins s σ H v u Q I r ⟨l,q⟩=>hg l s₀ H₀ ex pins s σ H v u Q I r q) (fun s₀ H₀ ex pins s σ H Q I ⟨l,q⟩=>ht l s₀ H₀ ex pins s σ H Q I q) (fun s₀ H₀ ex pins s σ H Q I ⟨l,q⟩=>he l s₀ H₀ ex pins s σ H Q I q) hs)
  fun σ H Q h=>z6S (fun _ _ _ h=>h) (fun l _ _ _ _ h=>⟨l,h⟩) (fun l _ _ _ h=>⟨l,h⟩) (fun l _ _ _ h=>⟨l,h⟩) hp h
theorem z8g {np:List Nat} {i:Nat} {y:Str} {py spos:Pos} (hnp:Np c np) (hc:X.calm=true) (S:CScope X scope cs) (hN:X.N.Nodup) (hi':X.N[i]? = some y) (hy:X.env.scope.names.lookup y=some .local)
  (hi:SI X c tg iter it) (hg:∀ l s₀ H₀ ex,SGC (z1m X scope s₀ H₀ ex) (c.plus l) cs tg g) (ht:∀ l s₀ H₀ ex,STs (z1m X scope s₀ H₀ ex) (c.plus l) ifs t)
  (he:∀ l s₀ H₀ ex,SE (z1m X scope s₀ H₀ ex) (c.plus l) elt el) (hp:∀ p ∈ c.pin,p.1 ∉ cs)
  (hsw:QB (.ListComp elt [⟨tg,iter,ifs,0⟩] scope pos) (some (.Name y py)) spos.line X.env=pure true:=by rfl) (hs:∀ x,Qz iter X.env x=pure x:=by intro _; rfl) :
  SS X c (.Assign [.Name y py] (.ListComp elt [⟨tg,iter,ifs,0⟩] scope pos) spos) (dAsg (z2t cs it g t el) (gNm np i)) :=
 PS.weak (z8k (g:=fun v σ H Q=>∃ l,tGC cs (c.plus l) g v σ H Q) (tt:=fun σ H Q=>∃ l,tT (c.plus l) t σ H Q) (te:=fun σ H Q=>∃ l,tD (c.plus l) el σ H Q) hc S hN hi' hy hi
  (fun s₀ H₀ ex pins s σ H v u Q I r ⟨l,q⟩=>hg l s₀ H₀ ex pins s σ H v u Q I r q) (fun s₀ H₀ ex pins s σ H Q I ⟨l,q⟩=>ht l s₀ H₀ ex pins s σ H Q I q) (fun s₀ H₀ ex pins s σ H Q I ⟨l,q⟩=>he l s₀ H₀ ex pins s σ H Q I q) hsw hs)
  fun D σ H h=>z67 (fun σ H Q h=>z6S (fun _ _ _ h=>h) (fun l _ _ _ _ h=>⟨l,h⟩) (fun l _ _ _ h=>⟨l,h⟩) (fun l _ _ _ h=>⟨l,h⟩) hp h) (fun _ _ _ _ h=>z5W hnp h) h
end
abbrev DF:=List S→Option (S×List S)
def z0g:Nat→List S→List V→List (Nat×Addr)
 | n,.own _ :: ss,.ref a :: vs=>(n,a) :: z0g (n + 1) ss vs
 | n,_ :: ss,_ :: vs=>z0g (n + 1) ss vs
 | _,_,_=>[]
theorem z0N:∀ {n:Nat} {ss:List S} {vs:List V} {i:Nat} {a:Addr},(i,a) ∈ z0g n ss vs→∃ j d,i=n + j∧ss[j]? = some (.own d)∧vs[j]? = some (.ref a)
 | n,[],vs,i,a,h=>by simp [z0g] at h
 | n,s :: ss,[],i,a,h=>by cases s <;> simp [z0g] at h
 | n,s :: ss,v :: vs,i,a,h=>by
  have rec':(i,a) ∈ z0g (n + 1) ss vs→∃ j d,i=n + j∧(s :: ss)[j]? = some (.own d)∧(v :: vs)[j]? = some (.ref a):=fun h=>by
   obtain ⟨j,d,e,h1,h2⟩:=z0N h
   exact ⟨j + 1,d,by omega,by simpa using h1,by simpa using h2⟩
  cases s with
  | pure d=>exact rec' h
  | own d =>
   cases v with
   | ref b =>
    rcases Wp.mp h with e | h
    ·cases e
     exact ⟨0,d,rfl,rfl,rfl⟩
    ·exact rec' h
   | _=>exact rec' h
theorem z3C:∀ {n:Nat} {ss:List S} {vs:List V} {j:Nat} {d:D} {a:Addr},ss[j]? = some (.own d)→vs[j]? = some (.ref a)→(n + j,a) ∈ z0g n ss vs
 | n,[],vs,j,d,a,h,_=>by simp at h
 | n,s :: ss,[],j,d,a,_,h=>by simp at h
 | n,s :: ss,v :: vs,0,d,a,h1,h2=>by
  simp at h1 h2
  subst h1 h2
  exact Wm
 | n,s :: ss,v :: vs,j + 1,d,a,h1,h2=>by
  have ih:=z3C (n:=n + 1) (ss:=ss) (vs:=vs) (j:=j) (d:=d) (a:=a) (by simpa using h1) (by simpa using h2)
  have e:n + 1 + j=n + (j + 1):=by omega
  rw [e] at ih
  cases s with
  | pure d=>exact ih
  | own d =>
   cases v with
   | ref b=>exact Wi _ ih
   | _=>exact ih
abbrev z0I (vs:List V):St:=vs.map some
abbrev z0P (ss:List S):Dl:=ss.map some
theorem someS_get {ss:List S} {i:Nat} {r:S}:(z0P ss)[i]? = some (some r) ↔ ss[i]? = some r:=by
 rw [Wv]
 cases ss[i]? <;> simp
theorem some'_get {vs:List V} {i:Nat} {v:V}:(z0I vs)[i]? = some (some v) ↔ vs[i]? = some v:=by
 rw [Wv]
 cases vs[i]? <;> simp
def spD (n:Nat) (G:DF):Sp:=fun vs H Q _=>∃ ss B,vs.length=n∧Ok ⟨H,B,z0g 0 ss vs,fun _ _=>False⟩ (z0I vs) (z0P ss) H∧∃ r outs,G ss=some (r,outs) ∧
 ∀ v H',Aft ⟨H,B,z0g 0 ss vs,fun _ _=>False⟩ (z0I vs) (z0P ss) H (z0I vs) (z0P outs) H'→RepS ⟨H,B,z0g 0 ss vs,fun _ _=>False⟩ (z0I vs) (z0P outs) H H' v r→Q v H'
def KFn (P:Wd) (w:Wg) (K:W0) (mg:Str→Option Value) (base:Heap) (k:Nat) (x:Str) (n:Nat) (G:DF):Prop :=
 ∃ (f:Addr) (fd:Wx) (ps:List Str),mg x=some (.ref f)∧WN K (.ref f)=true∧Binds K fd ps []∧FnOk P w K mg base CX0 k f fd ps (spD n G)
def z09 (n:Nat) (ss:List S):Dl:=z0P ss ++ W8 (n - ss.length) none
def z0h:Nat→List S→Dl→Option (List S)
 | _,[],_=>some []
 | n,.pure d :: ss,δ=>(z0h (n + 1) ss δ).map (.pure d :: ·)
 | n,.own _ :: ss,δ=>match δ[n]? with
  | some (some (.own d'))=>(z0h (n + 1) ss δ).map (.own d' :: ·)
  | _=>none
def z0V:Fl→Option S
 | .next=>some (.pure .non)
 | .ret r=>some r
 | _=>none
def runD (f:DS) (n:Nat) (ss:List S):Option (S×List S):=match f (z09 n ss) with
 | .ok fl δ=>(z0V fl).bind fun r=>(z0h 0 ss δ).map fun outs=>(r,outs)
 | _=>none
def ioOk (np:List Nat):Nat→List S→Bool
 | _,[]=>true
 | n,.own _ :: ss=>np.contains n && ioOk np (n + 1) ss
 | n,.pure _ :: ss=>ioOk np (n + 1) ss
theorem z40:∀ {n:Nat} {ss:List S} {j:Nat} {d:D},ioOk np n ss=true→ss[j]? = some (.own d)→np.contains (n + j)=true
 | n,[],j,d,_,h=>by simp at h
 | n,s :: ss,0,d,h,e=>by
  simp at e
  subst e
  simp only [ioOk,Wn] at h
  exact h.1
 | n,s :: ss,j + 1,d,h,e=>by
  have h':ioOk np (n + 1) ss=true:=by
   cases s with
   | pure d=>exact h
   | own d=>simp only [ioOk,Wn] at h; exact h.2
  have:=z40 (n:=n + 1) (j:=j) h' (by simpa using e)
  rw [show n + (j + 1)=n + 1 + j by omega]
  exact this
theorem z4w:∀ {n:Nat} {ss outs:List S} {δ:Dl},z0h n ss δ=some outs→outs.length=ss.length∧∀ (i:Nat) s,ss[i]? = some s→(∃ d,s = .pure d∧outs[i]? = some (.pure d))∨∃ d d',s = .own d∧δ[n + i]? = some (some (.own d'))∧outs[i]? = some (.own d')
 | n,[],outs,δ,h=>by
  simp only [z0h,W7] at h
  subst h
  exact ⟨rfl,fun i s e=>by simp at e⟩
 | n,.pure d :: ss,outs,δ,h=>by
  simp only [z0h] at h
  cases e:z0h (n + 1) ss δ with
  | none=>rw [e] at h; cases h
  | some os =>
   rw [e] at h
   simp only [WA,W7] at h
   subst h
   obtain ⟨h1,h2⟩:=z4w e
   refine ⟨by simp [h1],fun i s es=>?_⟩
   cases i with
   | zero=>simp at es; subst es; exact .inl ⟨d,rfl,rfl⟩
   | succ i =>
    rcases h2 i s (by simpa using es) with ⟨d,z1,z2⟩ | ⟨d,d',z1,z2,z3⟩
    ·exact .inl ⟨d,z1,by simpa using z2⟩
    ·exact .inr ⟨d,d',z1,by rw [show n + (i + 1)=n + 1 + i by omega]; exact z2,by simpa using z3⟩
 | n,.own d :: ss,outs,δ,h=>by
  simp only [z0h] at h
  split at h
  ·rename_i d' ed
   cases e:z0h (n + 1) ss δ with
   | none=>rw [e] at h; cases h
   | some os =>
    rw [e] at h
    simp only [WA,W7] at h
    subst h
    obtain ⟨h1,h2⟩:=z4w e
    refine ⟨by simp [h1],fun i s es=>?_⟩
    cases i with
    | zero=>simp at es; subst es; exact .inr ⟨d,d',rfl,ed,rfl⟩
    | succ i =>
     rcases h2 i s (by simpa using es) with ⟨d,z1,z2⟩ | ⟨d,d',z1,z2,z3⟩
     ·exact .inl ⟨d,z1,by simpa using z2⟩
     ·exact .inr ⟨d,d',z1,by rw [show n + (i + 1)=n + 1 + i by omega]; exact z2,by simpa using z3⟩
  ·cases h
section
variable {c:Fc} {H H':Hp} {vs:List V} {ss outs:List S} {σ':St} {δ':Dl}
theorem z2x {α:Type} {l:List (Option α)} {k i:Nat} {v:α} (h:(l ++ W8 k none)[i]? = some (some v)):l[i]? = some (some v):=by
 by_cases hi:i < l.length
 ·rw [Qi hi] at h; exact h
 ·rw [List.getElem?_append_right (by omega),List.getElem?_replicate] at h
  split at h <;> cases h
theorem z2h {α:Type} {l:List (Option α)} {k i:Nat} {v:α} (h:l[i]? = some (some v)):(l ++ W8 k none)[i]? = some (some v):=by
 have hi:i < l.length:=(Wb.mp h).1
 rw [Qi hi]; exact h
theorem Own.ext {σ:St} {δ:Dl} {k:Nat} {a:Addr}:Own (σ ++ W8 k none) (δ ++ W8 k none) a ↔ Own σ δ a :=
 ⟨fun ⟨i,d,e1,e2⟩=>⟨i,d,z2x e1,z2x e2⟩,fun ⟨i,d,e1,e2⟩=>⟨i,d,z2h e1,z2h e2⟩⟩
theorem Ok.ext {σ:St} {δ:Dl} (k:Ok c σ δ H) (n:Nat):Ok c (σ ++ W8 n none) (δ ++ W8 n none) H:=by
 have sub:∀ b,Av c (σ ++ W8 n none) (δ ++ W8 n none) b→Av c σ δ b:=fun b z=>z.elim .inl fun z=>.inr (Own.ext.mp z)
 refine ⟨k.keep,k.bd,k.ith,by simp [k.len],fun i d e=>?_,fun i d e=>?_,fun i j a d d' e1 e2 e3 e4=>k.inj i j a d d' (z2x e1) (z2x e2) (z2x e3) (z2x e4),fun p hm=>z2h (k.pinned p hm)⟩
 ·obtain ⟨v,h1,h2⟩:=k.slot i d (z2x e)
  exact ⟨v,z2h h1,h2.anti fun b z=>.inl (sub b z)⟩
 ·obtain ⟨a,h1,h2,h3⟩:=k.own i d (z2x e)
  exact ⟨a,z2h h1,h2.anti fun b z=>.inl (sub b z),h3⟩
theorem z2T {B:Addr→Prop} {n:Nat} (hc:c = ⟨H,B,z0g 0 ss vs,fun _ _=>False⟩) (k:Ok c (z0I vs) (z0P ss) H) (x:Aft c (z0I vs ++ W8 n none) (z0P ss ++ W8 n none) H σ' δ' H') (ho:z0h 0 ss δ'=some outs) :
  Aft c (z0I vs) (z0P ss) H (z0I vs) (z0P outs) H'∧∀ v r,RepS c σ' δ' H H' v r→RepS c (z0I vs) (z0P outs) H H' v r:=by
 obtain ⟨hlen,hat⟩:=z4w ho
 have hvs:ss.length=vs.length:=by have:=k.len; simpa using this
 have pin:∀ (i:Nat) (a:Addr) (d:D),ss[i]? = some (.own d)→vs[i]? = some (.ref a)→σ'[i]? = some (some (.ref a)):=fun i a d h1 h2=>by
  have:=z3C (n:=0) h1 h2
  rw [Q5] at this
  exact x.ok.pinned (i,a) (by rw [hc]; exact this)
 have ownS:∀ (i:Nat) (d:D),outs[i]? = some (.own d)→(∃ d₀,ss[i]? = some (.own d₀))∧δ'[i]? = some (some (.own d)):=fun i d e=>by
  have hi:i < ss.length:=by rw [← hlen]; exact (Wb.mp e).1
  rcases hat i ss[i] (by simp [hi]) with ⟨d₁,z1,z2⟩ | ⟨d₁,d',z1,z2,z3⟩
  ·rw [e] at z2; cases z2
  ·rw [e] at z3; cases z3
   rw [Q5] at z2
   exact ⟨⟨d₁,by rw [Wh hi,z1]⟩,z2⟩
 have sub:∀ b,Own (z0I vs) (z0P outs) b→Own σ' δ' b:=fun b ⟨i,d,e1,e2⟩=>by
  obtain ⟨⟨d₀,h0⟩,h1⟩:=ownS i d (someS_get.mp e1)
  exact ⟨i,d,h1,pin i b d₀ h0 (some'_get.mp e2)⟩
 have subA:∀ b,Av c (z0I vs) (z0P outs) b→Av c σ' δ' b:=fun b z=>z.elim .inl fun z=>.inr (sub b z)
 have okO:∀ {c':Fc},c'.pin=c.pin→Ok c' σ' δ' H'→(∀ b,c.B b→c'.B b)→(∀ (i:Nat) d v,ss[i]? = some (.pure d)→vs[i]? = some v→Rep H' (Av c' σ' δ') v d)→Ok c' (z0I vs) (z0P outs) H':=fun {c'} ep k' hB hsl=>by
  have subA':∀ b,Av c' (z0I vs) (z0P outs) b→Av c' σ' δ' b:=fun b z=>z.elim .inl fun z=>.inr (sub b z)
  refine ⟨k'.keep,k'.bd,k'.ith,by simp [hlen,hvs],fun i d e=>?_,fun i d e=>?_,fun i j a d d' e1 e2 e3 e4=>?_,fun p hm=>?_⟩
  ·have e':=someS_get.mp e
   have hi:i < ss.length:=by rw [← hlen]; exact (Wb.mp e').1
   have hv:i < vs.length:=by omega
   rcases hat i ss[i] (by simp [hi]) with ⟨d₁,z1,z2⟩ | ⟨d₁,d',z1,z2,z3⟩
   ·rw [e'] at z2; cases z2
    exact ⟨vs[i],by simp [hv],(hsl i d vs[i] (by rw [Wh hi,z1]) (by simp [hv])).anti fun b z=>.inl (subA' b z)⟩
   ·rw [e'] at z3; cases z3
  ·have e':=someS_get.mp e
   obtain ⟨⟨d₀,h0⟩,h1⟩:=ownS i d e'
   obtain ⟨a₀,h2,_⟩:=k.own i d₀ (someS_get.mpr h0)
   obtain ⟨a,h3,h4,h5⟩:=k'.own i d h1
   rw [pin i a₀ d₀ h0 (some'_get.mp h2)] at h3
   cases h3
   exact ⟨a₀,h2,h4.anti fun b z=>.inl (subA' b z),h5⟩
  ·obtain ⟨⟨d₀,h0⟩,h1⟩:=ownS i d (someS_get.mp e1)
   obtain ⟨⟨d₁,h2⟩,h3⟩:=ownS j d' (someS_get.mp e2)
   exact k'.inj i j a d d' h1 h3 (pin i a d₀ h0 (some'_get.mp e3)) (pin j a d₁ h2 (some'_get.mp e4))
  ·exact k.pinned p (by rw [← ep]; exact hm)
 have slots:∀ (i:Nat) d v,ss[i]? = some (.pure d)→vs[i]? = some v→Rep H' (Av c σ' δ') v d:=fun i d v h1 h2=>by
  obtain ⟨w,e1,r⟩:=(k.ext n).slot i d (z2h (someS_get.mpr h1))
  rw [z2h (some'_get.mpr h2)] at e1
  cases e1
  exact Rep.aft r x
 refine ⟨⟨okO rfl x.ok (fun _ z=>z) slots,fun a o e m=>x.keep a o e fun z=>m (Own.ext.mp z),fun a z=>(x.own a (sub a z)).elim (fun z=>.inl (Own.ext.mp z)) .inr,x.there⟩,fun v r hr=>?_⟩
 cases r with
 | pure d=>exact Rep.anti hr fun b z=>.inl (subA b z)
 | own d =>
  obtain ⟨a,ea,o,nb,h0,kp,hs⟩:=hr
  refine ⟨a,ea,o.anti fun b z=>.inl (z.elim .inl fun z=>.inr (sub b z)),nb,h0,okO rfl kp (fun _ z=>.inl z) fun i d v h1 h2=>?_,hs⟩
  obtain ⟨w,e1,r⟩:=(k.ext n).slot i d (z2h (someS_get.mpr h1))
  rw [z2h (some'_get.mpr h2)] at e1
  cases e1
  have hHa:H a=none:=hs
  have r1:Rep H (Av c (z0I vs ++ W8 n none) (z0P ss ++ W8 n none)) v d:=r
  have r2:Rep H (fun b=>Av c (z0I vs ++ W8 n none) (z0P ss ++ W8 n none) b∨Av (c.plus a) σ' δ' b) v d:=r1.anti fun b z=>by
   rcases z with z | (z | z) | z
   ·exact .inl z
   ·exact .inl (.inl z)
   ·exact .inr (by rw [z]; exact hHa)
   ·rcases x.own b z with q | q
    ·exact .inl (.inr q)
    ·exact .inr q
  exact (r2.keep fun b o e m=>x.keep b o e fun z=>m (.inl (.inr z))).anti fun b z=>.inl (.inr z)
end
section
variable {P:Wd} {w:Wg} {K:W0} {mg:Str→Option Value} {base:Heap}
theorem fn_ok {x qual:Str} {st:Stmt} {f:Addr} {fd:Wx} {N ps:List Str} {k:Nat} {np:List Nat} {fb:DS} {G:DF} (F:Fun K x qual st f fd) (S:FnScope N ps (z00 st))
  (hbody:∀ (c:Fc) (cdv:Value) (A:Wf) (outer:List Env) (s:W1) (H:Hp) (E:XK),Room k (A.deeper (Qb qual (z00 st) s.heap.objs.size f cdv))→Np c np→SSs (cxOf CX0 P w K mg base N qual (z00 st) f cdv A outer s H E).nox c (z0q st) fb)
  (hG:∀ ss y,G ss=some y→ioOk np 0 ss=true∧runD fb N.length ss=some y):FnOk P w K mg base CX0 (k + 1) f fd ps (spD ps.length G):=by
 refine F.ok S (fun vs H Q E h=>?_) fun cdv A outer s H vs Q E hr h=>?_
 ·obtain ⟨ss,B,hl,_⟩:=h
  exact hl
 ·obtain ⟨ss,B,hl,ok,r,outs,hg,q⟩:=h
  obtain ⟨hio,hrun⟩:=hG ss _ hg
  have hvs:ss.length=vs.length:=by have:=ok.len; simpa using this
  have np':Np ⟨H,B,z0g 0 ss vs,fun _ _=>False⟩ np:=fun p hp=>by
   obtain ⟨j,d,e,h1,_⟩:=z0N (i:=p.1) (a:=p.2) hp
   rw [e]
   exact z40 hio h1
  refine ⟨tDS ⟨H,B,z0g 0 ss vs,fun _ _=>False⟩ fb,hbody ⟨H,B,z0g 0 ss vs,fun _ _=>False⟩ cdv A outer s H E hr np',?_⟩
  have hst:start N vs=z0I vs ++ W8 (N.length - ss.length) none:=by rw [hvs]; rfl
  refine ⟨z09 N.length ss,by rw [hst]; exact ok.ext _,?_⟩
  unfold runD at hrun
  unfold z1x
  cases e:fb (z09 N.length ss) with
  | exc x δx=>rw [e] at hrun; cases hrun
  | stuck=>rw [e] at hrun; cases hrun
  | ok fl δ' =>
   rw [e] at hrun
   show ∀ σ' H',Aft _ (start N vs) (z09 N.length ss) H σ' δ' H'→fin _ _ σ' δ' H' fl
   intro σ' H' a
   rw [hst] at a
   simp only at hrun
   cases fl with
   | brk=>cases hrun
   | cont=>cases hrun
   | next =>
    simp only [z0V,Ww] at hrun
    cases eo:z0h 0 ss δ' with
    | none=>rw [eo] at hrun; cases hrun
    | some os =>
     rw [eo] at hrun
     cases hrun
     obtain ⟨l1,l2⟩:=z2T rfl ok a eo
     exact q .non H' l1 .non
   | ret r' =>
    simp only [z0V,Ww] at hrun
    cases eo:z0h 0 ss δ' with
    | none=>rw [eo] at hrun; cases hrun
    | some os =>
     rw [eo] at hrun
     cases hrun
     obtain ⟨l1,l2⟩:=z2T rfl ok a eo
     exact fun v rv=>q v H' l1 (l2 v _ rv)
theorem z2s {x qual:Str} {st:Stmt} {f:Addr} {fd:Wx} {N ps:List Str} {k:Nat} {np:List Nat} {fb:DS} {G:DF} (F:Fun K x qual st f fd) (hm:mg x=some (.ref f)) (hb:Binds K fd ps []) (S:FnScope N ps (z00 st))
  (hbody:∀ (c:Fc) (cdv:Value) (A:Wf) (outer:List Env) (s:W1) (H:Hp) (E:XK),Room k (A.deeper (Qb qual (z00 st) s.heap.objs.size f cdv))→Np c np→SSs (cxOf CX0 P w K mg base N qual (z00 st) f cdv A outer s H E).nox c (z0q st) fb)
  (hG:∀ ss y,G ss=some y→ioOk np 0 ss=true∧runD fb N.length ss=some y):KFn P w K mg base (k + 1) x ps.length G:=⟨f,fd,ps,hm,F.kp,hb,fn_ok F S hbody hG⟩
end
inductive Ak where
 | val (f:DE)
 | io (i:Nat)
def evX:List Ak→Dl→Rs (List (Option D))
 | [],δ=>.ok [] δ
 | .val f :: r,δ=>(f δ).bind fun x δ1=>(evX r δ1).bind fun xs δ2=>.ok (some x.d :: xs) δ2
 | .io _ :: r,δ=>(evX r δ).bind fun xs δ2=>.ok (none :: xs) δ2
inductive ArgR (c:Fc) (σ:St) (δ:Dl) (H:Hp):List V→List Ak→List (Option D)→Prop
 | nil:ArgR c σ δ H [] [] []
 | val {v:V} {d:D} {f:DE} {vs:List V} {as:List Ak} {ds:List (Option D)}:Rep H (Av c σ δ) v d→ArgR c σ δ H vs as ds→ArgR c σ δ H (v :: vs) (.val f :: as) (some d :: ds)
 | io {v:V} {i:Nat} {vs:List V} {as:List Ak} {ds:List (Option D)}:σ[i]? = some (some v)→ArgR c σ δ H vs as ds→ArgR c σ δ H (v :: vs) (.io i :: as) (none :: ds)
def tX (c:Fc) (as:List Ak):TA:=fun σ H Q=>∃ δ,Ok c σ δ H∧(∀ i,Ak.io i ∈ as→∃ v,σ[i]? = some (some v))∧post c (evX as δ) fun ds δ'=>∀ vs H',Aft c σ δ H σ δ' H'→ArgR c σ δ' H' vs as ds→Q vs H'
abbrev SX (X:Cx) (c:Fc) (es:List Expr) (as:List Ak):Prop:=PA X es (tX c as)
section
variable {X:Cx} {c:Fc} {e:Expr} {es:List Expr} {fe:DE} {as:List Ak} {pos pp:Pos}
theorem z0t:SX X c [] []:=PA.weak z1F fun σ H Q ⟨δ,k,_,q⟩=>q [] H (.refl k) .nil
theorem zdR (ha:SE X c e fe) (hr:SX X c es as) (hs:W3 (e :: es) X.env=(false,eval e X.env) :: W3 es X.env:=by rfl):SX X c (e :: es) (.val fe :: as):=PA.weak (z0M ha hr hs) fun σ H Q ⟨δ,k,hio,q⟩=>by
 unfold evX at q
 rw [z02] at q
 refine ⟨δ,k,z01 q fun x δ1 q1 v H1 a1 r1=>⟨δ1,a1.ok,fun i hi=>hio i (Wi _ hi),?_⟩⟩
 rw [z02] at q1
 exact z01 q1 fun xs δ2 q2 vs H2 a2 r2=>q2 (v :: vs) H2 (a1.trans a2) (.val (Rep.aft r1.rep a2) r2)
theorem sx_io (ha:PE X e (tVar i)) (hr:SX X c es as) (hs:W3 (e :: es) X.env=(false,eval e X.env) :: W3 es X.env:=by rfl):SX X c (e :: es) (.io i :: as):=PA.weak (z0M ha hr hs) fun σ H Q ⟨δ,k,hio,q⟩=>by
 obtain ⟨v,ev⟩:=hio i Wm
 unfold evX at q
 rw [z02] at q
 exact ⟨v,ev,δ,k,fun i hi=>hio i (Wi _ hi),z01 q fun xs δ2 q2 vs H2 a2 r2=>q2 (v :: vs) H2 a2 (.io ev r2)⟩
end
def mkA:List Ak→List (Option D)→Dl→Option (List S)
 | [],[],_=>some []
 | .val _ :: as,some d :: ds,δ=>(mkA as ds δ).map (.pure d :: ·)
 | .io i :: as,none :: ds,δ=>match δ[i]? with
  | some (some (.own d))=>(mkA as ds δ).map (.own d :: ·)
  | _=>none
 | _,_,_=>none
def ios:List Ak→List Nat
 | []=>[]
 | .val _ :: as=>ios as
 | .io i :: as=>i :: ios as
def putA:List Ak→List S→Dl→Dl
 | .io i :: as,r :: rs,δ=>putA as rs (δ.set i (some r))
 | .val _ :: as,_ :: rs,δ=>putA as rs δ
 | _,_,δ=>δ
def ndup:List Nat→Bool
 | []=>true
 | i :: r=>!r.contains i && ndup r
def z0d (G:DF) (as:List Ak):DE:=fun δ=>if (ios as).all (z0Y δ) && ndup (ios as) then (evX as δ).bind fun ds δ1=>match mkA as ds δ1 with
  | none=>.stuck
  | some ss=>match G ss with
   | none=>.stuck
   | some (r,outs)=>.ok r (putA as outs δ1)
 else .stuck
theorem z2N:∀ {l:List Nat},ndup l=true→l.Nodup
 | [],_=>.nil
 | i :: r,h=>by
  simp only [ndup,Wn,Jm] at h
  exact List.nodup_cons.mpr ⟨fun hm=>by have:=h.1; simp at this; exact this hm,z2N h.2⟩
theorem ios_mem:∀ {as:List Ak} {i:Nat},i ∈ ios as ↔ Ak.io i ∈ as
 | [],i=>by simp [ios]
 | .val f :: as,i=>by simp [ios,ios_mem (as:=as)]
 | .io j :: as,i=>by simp [ios,ios_mem (as:=as)]
theorem za2:∀ {as:List Ak} {i j k:Nat},(ios as).Nodup→as[j]? = some (.io i)→as[k]? = some (.io i)→j=k
 | [],i,j,k,_,h,_=>by simp at h
 | .val f :: as,i,j,k,nd,h1,h2=>by
  cases j with
  | zero=>simp at h1
  | succ j =>
   cases k with
   | zero=>simp at h2
   | succ k=>exact congrArg (· + 1) (za2 (as:=as) nd (by simpa using h1) (by simpa using h2))
 | .io n :: as,i,j,k,nd,h1,h2=>by
  have nd':=Qs.mp nd
  cases j with
  | zero =>
   simp at h1
   subst h1
   cases k with
   | zero=>rfl
   | succ k=>exact absurd (ios_mem.mpr (WC (by simpa using h2))) nd'.1
  | succ j =>
   cases k with
   | zero =>
    simp at h2
    subst h2
    exact absurd (ios_mem.mpr (WC (by simpa using h1))) nd'.1
   | succ k=>exact congrArg (· + 1) (za2 (as:=as) nd'.2 (by simpa using h1) (by simpa using h2))
section
variable {c:Fc} {σ:St} {δ:Dl} {H:Hp} {vs:List V} {as:List Ak} {ds:List (Option D)} {ss:List S}
theorem z6y (h:ArgR c σ δ H vs as ds):∀ {ss:List S},mkA as ds δ=some ss→ss.length=vs.length∧as.length=vs.length∧∀ (j:Nat) s v,ss[j]? = some s→vs[j]? = some v →
  (∃ d f,s = .pure d∧as[j]? = some (.val f)∧Rep H (Av c σ δ) v d)∨∃ d i,s = .own d∧as[j]? = some (.io i)∧σ[i]? = some (some v)∧δ[i]? = some (some (.own d)):=by
 induction h with
 | nil =>
  intro ss h
  simp only [mkA,W7] at h
  subst h
  exact ⟨rfl,rfl,fun j s v e _=>by simp at e⟩
 | @val v d f vs as ds r _ ih =>
  intro ss h
  simp only [mkA] at h
  cases e:mkA as ds δ with
  | none=>rw [e] at h; cases h
  | some rs =>
   rw [e] at h
   simp only [WA,W7] at h
   subst h
   obtain ⟨h1,h2,h3⟩:=ih e
   refine ⟨by simp [h1],by simp [h2],fun j s v' e1 e2=>?_⟩
   cases j with
   | zero=>simp at e1 e2; subst e1 e2; exact .inl ⟨d,f,rfl,rfl,r⟩
   | succ j=>simpa using h3 j s v' (by simpa using e1) (by simpa using e2)
 | @io v i vs as ds ev _ ih =>
  intro ss h
  simp only [mkA] at h
  split at h
  ·rename_i d ed
   cases e:mkA as ds δ with
   | none=>rw [e] at h; cases h
   | some rs =>
    rw [e] at h
    simp only [WA,W7] at h
    subst h
    obtain ⟨h1,h2,h3⟩:=ih e
    refine ⟨by simp [h1],by simp [h2],fun j s v' e1 e2=>?_⟩
    cases j with
    | zero=>simp at e1 e2; subst e1 e2; exact .inr ⟨d,i,rfl,rfl,ev,ed⟩
    | succ j=>simpa using h3 j s v' (by simpa using e1) (by simpa using e2)
  ·cases h
theorem z5K:∀ (as:List Ak) (rs:List S) (δ:Dl),(putA as rs δ).length=δ.length
 | [],rs,δ=>by simp [putA]
 | .val f :: as,[],δ=>by simp [putA]
 | .io i :: as,[],δ=>by simp [putA]
 | .val f :: as,r :: rs,δ=>by simp [putA,z5K as rs δ]
 | .io i :: as,r :: rs,δ=>by simp [putA,z5K as rs]
theorem z3y:∀ (as:List Ak) (rs:List S) (δ:Dl) (i:Nat),i ∉ ios as→(putA as rs δ)[i]? = δ[i]?
 | [],rs,δ,i,_=>by simp [putA]
 | .val f :: as,[],δ,i,_=>by simp [putA]
 | .io j :: as,[],δ,i,_=>by simp [putA]
 | .val f :: as,r :: rs,δ,i,h=>by rw [putA]; exact z3y as rs δ i h
 | .io j :: as,r :: rs,δ,i,h=>by
  simp only [ios,Wp,not_or] at h
  rw [putA,z3y as rs _ i h.2,W4 (Ne.symm h.1)]
theorem z5L:∀ (as:List Ak) (rs:List S) (δ:Dl) (i j:Nat) (r:S),(ios as).Nodup→as[j]? = some (.io i)→rs[j]? = some r→i < δ.length→(putA as rs δ)[i]? = some (some r)
 | [],rs,δ,i,j,r,_,h,_,_=>by simp at h
 | a :: as,[],δ,i,j,r,_,_,h,_=>by simp at h
 | .val f :: as,r0 :: rs,δ,i,j,r,nd,h1,h2,hi=>by
  cases j with
  | zero=>simp at h1
  | succ j=>rw [putA]; exact z5L as rs δ i j r nd (by simpa using h1) (by simpa using h2) hi
 | .io k :: as,r0 :: rs,δ,i,j,r,nd,h1,h2,hi=>by
  have nd':=Qs.mp nd
  cases j with
  | zero =>
   simp at h1 h2
   subst h1 h2
   rw [putA,z3y as rs _ k nd'.1,Wq hi]
  | succ j=>rw [putA]; exact z5L as rs _ i j r nd'.2 (by simpa using h1) (by simpa using h2) (by simpa using hi)
theorem z7w (k:Ok c σ δ H) (hr:ArgR c σ δ H vs as ds) (hm:mkA as ds δ=some ss) (nd:(ios as).Nodup) :
  Ok ⟨H,fun a=>Av c σ δ a∧¬ ∃ (j:Nat) (d:D),ss[j]? = some (S.own d)∧vs[j]? = some (V.ref a),z0g 0 ss vs,fun _ _=>False⟩ (z0I vs) (z0P ss) H:=by
 obtain ⟨h1,h2,h3⟩:=z6y hr hm
 have at':∀ (j:Nat) s,ss[j]? = some s→∃ v,vs[j]? = some v:=fun j s e=>by
  have:j < vs.length:=by rw [← h1]; exact (Wb.mp e).1
  exact ⟨vs[j],by simp [this]⟩
 have ownE:∀ a,Own (z0I vs) (z0P ss) a ↔ ∃ (j:Nat) (d:D),ss[j]? = some (S.own d)∧vs[j]? = some (V.ref a):=fun a =>
  ⟨fun ⟨j,d,e1,e2⟩=>⟨j,d,someS_get.mp e1,some'_get.mp e2⟩,fun ⟨j,d,e1,e2⟩=>⟨j,d,someS_get.mpr e1,some'_get.mpr e2⟩⟩
 have own2:∀ a,Own (z0I vs) (z0P ss) a→Own σ δ a:=fun a z=>by
  obtain ⟨j,d,e1,e2⟩:=(ownE a).mp z
  rcases h3 j _ _ e1 e2 with ⟨d',f,e,_⟩ | ⟨d',i,e,_,es,ed⟩
  ·cases e
  ·exact ⟨i,d',ed,es⟩
 have sub:∀ a,Av ⟨H,fun a=>Av c σ δ a∧¬ ∃ (j:Nat) (d:D),ss[j]? = some (S.own d)∧vs[j]? = some (V.ref a),z0g 0 ss vs,fun _ _=>False⟩ (z0I vs) (z0P ss) a→Av c σ δ a:=fun a z=>z.elim (fun z=>z.1) fun z=>.inr (own2 a z)
 refine ⟨fun a o e _=>e,fun a z=>k.avthere z.1,fun a ⟨i,hi⟩=>?_,by simp [h1],fun j d e=>?_,fun j d e=>?_,fun i j a d d' e1 e2 e3 e4=>?_,fun p hp=>?_⟩
 ·obtain ⟨j,d,_,e1,e2⟩:=z0N hi
  exact k.othere (own2 a ((ownE a).mpr ⟨j,d,e1,e2⟩))
 ·have e':=someS_get.mp e
  obtain ⟨v,ev⟩:=at' j _ e'
  rcases h3 j _ v e' ev with ⟨d',f,e,_,r⟩ | ⟨d',i,e,_⟩
  ·cases e
   exact ⟨v,some'_get.mpr ev,r.anti fun b z=>.inl (sub b z)⟩
  ·cases e
 ·have e':=someS_get.mp e
  obtain ⟨v,ev⟩:=at' j _ e'
  rcases h3 j _ v e' ev with ⟨d',f,e,_,r⟩ | ⟨d',i,e,_,es,ed⟩
  ·cases e
  ·cases e
   obtain ⟨a,g1,g2,g3⟩:=k.own i d ed
   rw [es] at g1
   cases g1
   refine ⟨a,some'_get.mpr ev,g2.anti fun b z=>.inl (sub b z),.inl ⟨0 + j,z3C e' ev⟩,fun z=>z.2 ⟨j,d,e',ev⟩⟩
 ·have f1:=someS_get.mp e1
  have f2:=someS_get.mp e2
  rcases h3 i _ _ f1 (some'_get.mp e3) with ⟨_,_,e,_⟩ | ⟨d1,i1,e,a1,s1,x1⟩
  ·cases e
  ·rcases h3 j _ _ f2 (some'_get.mp e4) with ⟨_,_,e',_⟩ | ⟨d2,i2,e',a2,s2,x2⟩
   ·cases e'
   ·have:=k.inj i1 i2 a d1 d2 x1 x2 s1 s2
    subst this
    exact za2 nd a1 a2
 ·obtain ⟨j,d,e,e1,e2⟩:=z0N (i:=p.1) (a:=p.2) hp
  rw [Q5] at e
  rw [e]
  exact some'_get.mpr e2
theorem z4o (k:Ok c σ δ H) (hr:ArgR c σ δ H vs as ds) (hm:mkA as ds δ=some ss) (nd:(ios as).Nodup) (hB:B=fun a=>Av c σ δ a∧¬ ∃ (j:Nat) (d:D),ss[j]? = some (S.own d)∧vs[j]? = some (V.ref a))
  (x:Aft ⟨H,B,z0g 0 ss vs,fun _ _=>False⟩ (z0I vs) (z0P ss) H (z0I vs) (z0P outs) H') (hio:∀ (j:Nat) d,ss[j]? = some (.own d)→∃ d',outs[j]? = some (.own d')) (hpo:∀ (j:Nat) d,ss[j]? = some (.pure d)→∃ d',outs[j]? = some (.pure d')) :
  Aft c σ δ H σ (putA as outs δ) H'∧∀ v r,RepS ⟨H,B,z0g 0 ss vs,fun _ _=>False⟩ (z0I vs) (z0P outs) H H' v r→RepS c σ (putA as outs δ) H H' v r:=by
 obtain ⟨h1,h2,h3⟩:=z6y hr hm
 have inIdx:∀ i,i ∈ ios as→∃ (j:Nat) (d:D) (a:Addr),as[j]? = some (.io i)∧ss[j]? = some (.own d)∧vs[j]? = some (.ref a)∧σ[i]? = some (some (.ref a))∧δ[i]? = some (some (.own d)):=fun i hi=>by
  obtain ⟨j,hj,ej⟩:=List.mem_iff_getElem.mp (ios_mem.mp hi)
  have hv:j < vs.length:=by omega
  have hs:j < ss.length:=by omega
  have ej':as[j]? = some (.io i):=by rw [Wh hj,ej]
  rcases h3 j ss[j] vs[j] (by simp [hs]) (by simp [hv]) with ⟨d,f,e,a1,_⟩ | ⟨d,i',e,a1,s1,x1⟩
  ·rw [ej'] at a1; cases a1
  ·rw [ej'] at a1; cases a1
   obtain ⟨a,g1,_⟩:=k.own i d x1
   rw [s1] at g1
   have g2:vs[j] = .ref a:=by
    have:=Ws g1
    exact Ws this
   exact ⟨j,d,a,ej',by rw [Wh hs,e],by rw [Wh hv,g2],by rw [s1,g2],x1⟩
 have passed:∀ a,(∃ (j:Nat) (d:D),ss[j]? = some (S.own d)∧vs[j]? = some (V.ref a))→Own σ δ a:=fun a ⟨j,d,e1,e2⟩=>by
  rcases h3 j _ _ e1 e2 with ⟨d',f,e,_⟩ | ⟨d',i,e,_,es,ed⟩
  ·cases e
  ·exact ⟨i,d',ed,es⟩
 have Iiff:∀ a,(⟨H,B,z0g 0 ss vs,fun _ _=>False⟩:Fc).I a ↔ ∃ (j:Nat) (d:D),ss[j]? = some (S.own d)∧vs[j]? = some (V.ref a):=fun a =>
  ⟨fun ⟨i,hi⟩=>by obtain ⟨j,d,_,e1,e2⟩:=z0N hi; exact ⟨j,d,e1,e2⟩,fun ⟨j,d,e1,e2⟩=>⟨0 + j,z3C e1 e2⟩⟩
 have ownIn:∀ a,Own (z0I vs) (z0P ss) a→∃ (j:Nat) (d:D),ss[j]? = some (S.own d)∧vs[j]? = some (V.ref a):=fun a ⟨j,d,e1,e2⟩=>⟨j,d,someS_get.mp e1,some'_get.mp e2⟩
 -- the owned addresses are the same
 have slotP:∀ (i:Nat) (d:D),(putA as outs δ)[i]? = some (some (.own d))→(i ∉ ios as∧δ[i]? = some (some (.own d)))∨(i ∈ ios as∧∃ (j:Nat) (d0:D) (a:Addr),as[j]? = some (.io i)∧ss[j]? = some (.own d0)∧vs[j]? = some (.ref a)∧σ[i]? = some (some (.ref a))∧outs[j]? = some (.own d)):=fun i d e=>by
  by_cases hi:i ∈ ios as
  ·right
   obtain ⟨j,d0,a,a1,a2,a3,a4,a5⟩:=inIdx i hi
   obtain ⟨d',ed'⟩:=hio j d0 a2
   have hlt:i < δ.length:=(Wb.mp a5).1
   have:=z5L as outs δ i j (.own d') nd a1 ed' hlt
   rw [e] at this
   cases this
   exact ⟨hi,j,d0,a,a1,a2,a3,a4,ed'⟩
  ·rw [z3y as outs δ i hi] at e
   exact .inl ⟨hi,e⟩
 have own_sub:∀ b,Own σ (putA as outs δ) b→Own σ δ b:=fun b ⟨i,d,e1,e2⟩=>by
  rcases slotP i d e1 with ⟨_,e⟩ | ⟨hi,j,d0,a,_,a2,a3,a4,_⟩
  ·exact ⟨i,d,e,e2⟩
  ·rw [e2] at a4
   have:b=a:=by injection (Ws (Ws a4))
   subst this
   exact passed b ⟨j,d0,a2,a3⟩
 have pureP:∀ (i:Nat) (d:D),(putA as outs δ)[i]? = some (some (.pure d))→i ∉ ios as∧δ[i]? = some (some (.pure d)):=fun i d e=>by
  by_cases hi:i ∈ ios as
  ·obtain ⟨j,d0,a,a1,a2,a3,a4,a5⟩:=inIdx i hi
   obtain ⟨d',ed'⟩:=hio j d0 a2
   have hlt:i < δ.length:=(Wb.mp a5).1
   have:=z5L as outs δ i j (.own d') nd a1 ed' hlt
   rw [e] at this
   cases this
  ·rw [z3y as outs δ i hi] at e
   exact ⟨hi,e⟩
 have kpAv:∀ a o,H a=some o→¬ Av c σ δ a→H' a=some o:=fun a o e n=>x.keep a o e fun z=>n (.inr (passed a (ownIn a z)))
 have subA:∀ b,Av c σ (putA as outs δ) b→Av c σ δ b:=fun b z=>z.elim .inl fun z=>.inr (own_sub b z)
 -- the callee's set holds ours
 have big:∀ {c':Fc},c'.B=B→∀ b,Av c σ δ b→Av c' (z0I vs) (z0P outs) b:=fun {c'} hB' b z=>by
  by_cases hp:∃ (j:Nat) (d:D),ss[j]? = some (S.own d)∧vs[j]? = some (V.ref b)
  ·obtain ⟨j,d,e1,e2⟩:=hp
   obtain ⟨d',ed'⟩:=hio j d e1
   exact .inr ⟨j,d',someS_get.mpr ed',some'_get.mpr e2⟩
  ·exact .inl (by rw [hB',hB]; exact ⟨z,hp⟩)
 have okc:∀ (c1 c2:Fc),c1.H₀=c.H₀→c1.pin=c.pin→(∀ b,c1.B b→c.B b∨(c2.B b∧H b=none))→c2.pin=z0g 0 ss vs→(∀ b,B b→c2.B b)→Ok c2 (z0I vs) (z0P outs) H'→(∀ b,c1.B b→∃ o,H' b=some o)→Ok c1 σ (putA as outs δ) H':=fun c1 c2 e0 e1 e2 e3 e4 k2 hex=>by
  have sub1:∀ b,Av c1 σ (putA as outs δ) b→Av c σ δ b∨H b=none:=fun b z=>by
   rcases z with z | z
   ·rcases e2 b z with z | ⟨_,z⟩
    ·exact .inl (.inl z)
    ·exact .inr z
   ·exact .inl (.inr (own_sub b z))
  have sub2:∀ b,Av c1 σ (putA as outs δ) b→Av c2 (z0I vs) (z0P outs) b:=fun b z=>by
   have bg:∀ b,Av c σ δ b→Av c2 (z0I vs) (z0P outs) b:=fun b z=>by
    by_cases hp:∃ (j:Nat) (d:D),ss[j]? = some (S.own d)∧vs[j]? = some (V.ref b)
    ·obtain ⟨j,d,e1,e2⟩:=hp
     obtain ⟨d',ed'⟩:=hio j d e1
     exact .inr ⟨j,d',someS_get.mpr ed',some'_get.mpr e2⟩
    ·exact .inl (e4 b (by rw [hB]; exact ⟨z,hp⟩))
   rcases z with z | z
   ·rcases e2 b z with z | ⟨z,_⟩
    ·exact bg b (.inl z)
    ·exact .inl z
   ·exact bg b (.inr (own_sub b z))
  have kp':∀ {v:V} {d:D},Rep H (Av c σ δ) v d→Rep H' (Av c1 σ (putA as outs δ)) v d:=fun {v d} r=>by
   have r1:Rep H (fun b=>Av c σ δ b∨Av c1 σ (putA as outs δ) b) v d:=r.anti fun b z=>z.elim .inl (sub1 b)
   exact (r1.keep fun b o e n=>kpAv b o e fun z=>n (.inl z)).anti fun b z=>.inl (.inr z)
  refine ⟨fun a o e n=>?_,hex,fun a z=>?_,by rw [z5K]; exact k.len,fun i d e=>?_,fun i d e=>?_,fun i j a d d' f1 f2 f3 f4=>?_,by rw [e1]; exact k.pinned⟩
  ·rw [e0] at e
   have n':¬ c.I a:=fun z=>n (by unfold Fc.I at z ⊢; rw [e1]; exact z)
   refine x.keep a o (k.keep a o e n') fun z=>?_
   obtain ⟨i,d,g1,g2⟩:=passed a (ownIn a z)
   obtain ⟨a',g3,_,g4,_⟩:=k.own i d g1
   rw [g2] at g3; cases g3
   rcases g4 with g4 | g4
   ·exact n' g4
   ·rw [g4] at e; cases e
  ·have z':c.I a:=by unfold Fc.I at z ⊢; rw [← e1]; exact z
   obtain ⟨o,e⟩:=k.ith a z'
   exact x.there a o e
  ·obtain ⟨hi,e'⟩:=pureP i d e
   obtain ⟨v,g1,g2⟩:=k.slot i d e'
   exact ⟨v,g1,kp' g2⟩
  ·rcases slotP i d e with ⟨hi,e'⟩ | ⟨hi,j,d0,a,b1,b2,b3,b4,b5⟩
   ·obtain ⟨a,g1,g2,g3,g4⟩:=k.own i d e'
    have na:¬ Own (z0I vs) (z0P ss) a:=fun z=>by
     obtain ⟨j,d1,q1,q2⟩:=ownIn a z
     rcases h3 j _ _ q1 q2 with ⟨d',f,ee,_⟩ | ⟨d',i',ee,ai,es,ed⟩
     ·cases ee
     ·have:=k.inj i i' a d d' e' ed g1 es
      subst this
      exact hi (ios_mem.mpr (WC ai))
    have g2':OwnAt H' (Av c1 σ (putA as outs δ)) a d:=by
     have o1:OwnAt H (fun b=>Av c σ δ b∨Av c1 σ (putA as outs δ) b) a d:=g2.anti fun b z=>z.elim .inl (sub1 b)
     exact (o1.keep (fun b o e n=>kpAv b o e fun z=>n (.inl z)) fun o e=>x.keep a o e na).anti fun b z=>.inl (.inr z)
    refine ⟨a,g1,g2',by unfold Fc.I at g3 ⊢; rw [e0,e1]; exact g3,fun z=>?_⟩
    rcases e2 a z with z | ⟨_,z⟩
    ·exact g4 z
    ·obtain ⟨o,eo⟩:=g2.some
     rw [z] at eo; cases eo
   ·obtain ⟨a',g1,g2,g3,g4⟩:=k2.own j d (someS_get.mpr b5)
    rw [some'_get.mpr b3] at g1
    cases g1
    obtain ⟨i0,d1,q1,q2⟩:=passed a ⟨j,d0,b2,b3⟩
    obtain ⟨a'',q3,q4,q5,q6⟩:=k.own i0 d1 q1
    rw [q2] at q3; cases q3
    refine ⟨a,b4,g2.anti fun b z=>.inl (sub2 b z),by unfold Fc.I at q5 ⊢; rw [e0,e1]; exact q5,fun z=>?_⟩
    rcases e2 a z with z | ⟨_,z⟩
    ·exact q6 z
    ·obtain ⟨o,eo⟩:=q4.some
     rw [z] at eo; cases eo
  ·obtain ⟨d1,g1⟩:∃ d1,δ[i]? = some (some (.own d1)):=by
    rcases slotP i d f1 with ⟨_,e'⟩ | ⟨hi,_⟩
    ·exact ⟨d,e'⟩
    ·obtain ⟨_,d1,_,_,_,_,_,a5⟩:=inIdx i hi
     exact ⟨d1,a5⟩
   obtain ⟨d2,g2⟩:∃ d2,δ[j]? = some (some (.own d2)):=by
    rcases slotP j d' f2 with ⟨_,e'⟩ | ⟨hi,_⟩
    ·exact ⟨d',e'⟩
    ·obtain ⟨_,d1,_,_,_,_,_,a5⟩:=inIdx j hi
     exact ⟨d1,a5⟩
   exact k.inj i j a d1 d2 g1 g2 f3 f4
 have ok1:Ok c σ (putA as outs δ) H':=okc c ⟨H,B,z0g 0 ss vs,fun _ _=>False⟩ rfl rfl (fun b z=>.inl z) rfl (fun b z=>z) x.ok fun b z=>by
  obtain ⟨o,e⟩:=k.bd b z
  exact x.there b o e
 refine ⟨⟨ok1,fun a o e n=>x.keep a o e fun z=>n (passed a (ownIn a z)),fun a z=>.inl (own_sub a z),x.there⟩,fun v r hr=>?_⟩
 cases r with
 | pure d=>exact Rep.anti hr fun b z=>.inl (big rfl b (subA b z))
 | own d =>
  obtain ⟨a,ea,o,nb,h0,kp,hs⟩:=hr
  have hHa:H a=none:=hs
  have nav:¬ Av c σ δ a:=k.nav hHa
  refine ⟨a,ea,o.anti fun b z=>.inl ?_,fun z=>nav (.inl z),k.fresh₀ hHa,?_,hHa⟩
  ·rcases z with (z | z) | z
   ·exact (big rfl b (.inl z)).elim (fun z=>.inl (.inl z)) .inr
   ·exact .inl (.inr z)
   ·exact (big rfl b (.inr (own_sub b z))).elim (fun z=>.inl (.inl z)) .inr
  ·refine okc (c.plus a) (Fc.plus ⟨H,B,z0g 0 ss vs,fun _ _=>False⟩ a) rfl rfl (fun b z=>?_) rfl (fun b z=>.inl z) kp fun b z=>?_
   ·rcases z with z | z
    ·exact .inl z
    ·exact .inr ⟨.inr z,by rw [z]; exact hHa⟩
   ·rcases z with z | z
    ·obtain ⟨o,e⟩:=k.bd b z
     exact x.there b o e
    ·rw [z]; exact o.some
end
def z1R (G:DF):Prop:=∀ ss r outs,G ss=some (r,outs)→outs.length=ss.length∧∀ (j:Nat),(∀ d,ss[j]? = some (.own d)→∃ d',outs[j]? = some (.own d'))∧∀ d,ss[j]? = some (.pure d)→∃ d',outs[j]? = some (.pure d')
theorem z8h (hG:∀ ss y,G ss=some y→runD fb n ss=some y):z1R G:=fun ss r outs h=>by
 have:=hG ss _ h
 unfold runD at this
 cases e:fb (z09 n ss) with
 | exc x δx=>rw [e] at this; cases this
 | stuck=>rw [e] at this; cases this
 | ok fl δ =>
  rw [e] at this
  simp only at this
  cases e1:z0V fl with
  | none=>rw [e1] at this; cases this
  | some r' =>
   rw [e1] at this
   simp only [Ww] at this
   cases e2:z0h 0 ss δ with
   | none=>rw [e2] at this; cases this
   | some os =>
    rw [e2] at this
    cases this
    obtain ⟨h1,h2⟩:=z4w e2
    refine ⟨h1,fun j=>⟨fun d ed=>?_,fun d ed=>?_⟩⟩
    ·rcases h2 j _ ed with ⟨d',z,_⟩ | ⟨d',d'',_,_,z⟩
     ·cases z
     ·exact ⟨d'',z⟩
    ·rcases h2 j _ ed with ⟨d',z,z'⟩ | ⟨d',d'',z,_⟩
     ·exact ⟨d',z'⟩
     ·cases z
section
variable {X:Cx} {c:Fc} {e:Expr} {es:List Expr} {as:List Ak} {k n:Nat} {x:Str} {G:DF} {pp pos:Pos}
theorem z4X {ps:List Str} (hK:z1R G) {σ:St} {H:Hp} {Q:VK} (hl:as.length=n) (h:tD c (z0d G as) σ H Q):zco (spD n G) [] E0 (tX c as) σ H Q:=by
 obtain ⟨δ,kk,q⟩:=h
 unfold z0d at q
 split at q
 ·rename_i hc
  rw [Wn] at hc
  have nd:=z2N hc.2
  rw [z02] at q
  refine ⟨δ,kk,fun i hi=>?_,z01 q fun ds δ1 q1 vs H1 a1 r1=>?_⟩
  ·have:=Q6.mp hc.1 i (ios_mem.mpr hi)
   unfold z0Y at this
   split at this
   ·rename_i d ed
    exact z1J kk ed
   ·cases this
  ·cases em:mkA as ds δ1 with
   | none=>rw [em] at q1; exact q1.elim
   | some ss =>
    rw [em] at q1
    simp only at q1
    cases eg:G ss with
    | none=>rw [eg] at q1; exact q1.elim
    | some y =>
     obtain ⟨r,outs⟩:=y
     rw [eg] at q1
     have hin:=z7w a1.ok r1 em nd
     obtain ⟨m1,m2,_⟩:=z6y r1 em
     obtain ⟨g1,g2⟩:=hK ss r outs eg
     refine ⟨ss,_,by rw [WJ,← m2]; exact hl,by rw [WJ]; exact hin,r,outs,eg,fun v H2 a2 r2=>?_⟩
     rw [WJ] at a2 r2
     obtain ⟨o1,o2⟩:=z4o a1.ok r1 em nd rfl a2 (fun j d ed=>(g2 j).1 d ed) fun j d ed=>(g2 j).2 d ed
     exact q1 v H2 (a1.trans o1) (RepS.back (o2 v r r2) a1)
 ·exact q.elim
theorem z0x (F:KFn X.prog X.w X.K X.mg X.base k x n G) (hK:z1R G) (hr:Room k X.A) (hg:Gl X x) (ha:SX X c (e :: es) as) (hl:as.length=n) (hdb:(x == ("__debug__" : Str))=false:=by decide)
  (he:W3 (e :: es) X.env=(false,eval e X.env) :: W3 es X.env:=by rfl) (hpl:(WD pos (W3 es X.env)).any (·.1)=false:=by rfl):SE X c (.Call (.Name x pp) (e :: es) [] pos) (z0d G as):=by
 obtain ⟨f,fd,ps,hm,hk,hb,ok⟩:=F
 exact PE.weak (z9w ok hr hg hm hk hb .nil zeI ha hdb he hpl) fun σ H Q h=>z4X (ps:=ps) hK hl h
end
def gOf (np:List Nat) (n:Nat) (b:DS):DF:=fun ss=>if ioOk np 0 ss then runD b n ss else none
theorem z13 (h:gOf np n b ss=some y):ioOk np 0 ss=true∧runD b n ss=some y:=by
 unfold gOf at h
 split at h
 ·rename_i hi; exact ⟨hi,h⟩
 ·cases h
theorem z0D:z1R (gOf np n b):=z8h fun _ _ h=>(z13 h).2
theorem z1T (r:Room k A):A.units + 64 < Qa:=by have:=r.un; omega
theorem z6v {c:Fc} {np cs:List Nat} (h:Np c np) (hc:cs.all (fun i=>!np.contains i)=true):∀ p ∈ c.pin,p.1 ∉ cs:=fun p hp z=>by
 have h1:=h p hp
 have h2:=Q6.mp hc p.1 z
 rw [h1] at h2
 cases h2
def ndS:List Str→Bool
 | []=>true
 | x :: r=>!r.contains x && ndS r
theorem zc4:∀ {l:List Str},ndS l=true→l.Nodup
 | [],_=>.nil
 | x :: r,h=>by
  simp only [ndS,Wn,Jm] at h
  exact List.nodup_cons.mpr ⟨fun hm=>by have:=h.1; simp at this; exact this hm,zc4 h.2⟩
def z3X (names:List (Str×NameKind)) (x:Str) (k:NameKind):Bool:=match names.lookup x with
 | some j=>j == k
 | none=>false
theorem z5T (h:z3X names x k=true):names.lookup x=some k:=by
 unfold z3X at h
 split at h
 ·rename_i j e; rw [e,eq_of_beq h]
 ·cases h
def cscB (names:List (Str×NameKind)) (N:List Str) (sc:List (Str×NameKind)) (cs:List Nat):Bool :=
 sc.all (fun x=>!(x.2 == .local) || z3X sc x.1 .local) && sc.all (fun x=>!(x.2 == .free) || (z3X names x.1 .cell || z3X names x.1 .free)) && ndS (sc.map (·.1)) &&
 (Qk N.length).all fun i=>match N[i]? with
  | some x=>!(z3X sc x .local || z3X sc x .cell) || cs.contains i
  | none=>true
theorem z7Y (h:names.lookup x=some k):z3X names x k=true:=by
 unfold z3X; rw [h]; simp
theorem z2G {X:Cx} {scope:Scope} {cs:List Nat} (hk:scope.kind = .function) (h:cscB X.env.scope.names X.N scope.names cs=true):CScope X scope cs:=by
 unfold cscB at h
 simp only [Wn] at h
 obtain ⟨⟨⟨h1,h2⟩,h3⟩,h4⟩:=h
 refine ⟨hk,fun x hx hl=>?_,fun x hx hf=>?_,zc4 h3,fun i x hi hl=>?_⟩
 ·have:=Q6.mp h1 x hx
  rw [hl] at this
  exact z5T (by simpa using this)
 ·have:=Q6.mp h2 x hx
  rw [hf] at this
  have:z3X X.env.scope.names x.1 .cell=true∨z3X X.env.scope.names x.1 .free=true:=by simpa using this
  exact this.elim (fun z=>.inl (z5T z)) fun z=>.inr (z5T z)
 ·have hil:i < X.N.length:=(Wb.mp hi).1
  have:=Q6.mp h4 i (List.mem_range.mpr hil)
  rw [hi] at this
  have hl':(z3X scope.names x .local || z3X scope.names x .cell)=true:=by
   rcases hl with z | z
   ·rw [z7Y z]; rfl
   ·rw [z7Y z]; simp
  simp only [hl',Bool.not_true,Bool.false_or] at this
  simpa using this
theorem zck {K:W0}:TyK K "int":=⟨rfl,rfl,rfl,rfl,rfl,rfl,rfl⟩
theorem zaL {K:W0}:TyK K "bool":=⟨rfl,rfl,rfl,rfl,rfl,rfl,rfl⟩
theorem zcj {K:W0}:TyK K "str":=⟨rfl,rfl,rfl,rfl,rfl,rfl,rfl⟩
theorem z8M {K:W0}:TyK K "tuple":=⟨rfl,rfl,rfl,rfl,rfl,rfl,rfl⟩
theorem zaK {K:W0}:TyK K "list":=⟨rfl,rfl,rfl,rfl,rfl,rfl,rfl⟩
def z38:Expr→Bool
 | .Starred ..=>false
 | _=>true
theorem z3N (h:z38 e=true):W3 (e :: es) env=(false,eval e env) :: W3 es env:=by
 cases e <;> first | (cases h; done) | rw [W3] | rfl
 all_goals (intros; contradiction)
section
variable {X:Cx} {c:Fc} {e:Expr} {es:List Expr} {f fe:DE} {g:DA} {as:List Ak}
theorem z07 (ha:SE X c e f) (hr:SA X c es g) (hs:z38 e=true:=by rfl):SA X c (e :: es) (z0a f g):=z98 ha hr (z3N hs)
theorem z03 (ha:SE X c e fe) (hr:SX X c es as) (hs:z38 e=true:=by rfl):SX X c (e :: es) (.val fe :: as):=zdR ha hr (z3N hs)
theorem z1w {i:Nat} (ha:PE X e (tVar i)) (hr:SX X c es as) (hs:z38 e=true:=by rfl):SX X c (e :: es) (.io i :: as):=sx_io ha hr (z3N hs)
end
mutual
def z2H:Nat→Expr→Option D
 | _,.Constant (.int i) _ _=>some (.int i)
 | _,.Constant (.bool b) _ _=>some (.bl b)
 | _,.Constant .none _ _=>some .non
 | _,.Constant (.str x) _ _=>some (.str x.cps.toList)
 | n + 1,.Tuple es _ _=>if es.length≤1000 then (z3f n es).map .tup else none
 | _,_=>none
def z3f:Nat→List Expr→Option (List D)
 | _,[]=>some []
 | n,e :: es=>match z2H n e,z3f n es with
  | some d,some ds=>some (d :: ds)
  | _,_=>none
end
theorem z8B:∀ {n:Nat} {e:Expr} {d:D},z2H n e=some d→z38 e=true:=fun {n e d} h=>by
 cases e <;> first | rfl | (cases n <;> simp [z2H] at h)
mutual
theorem z6c:∀ {n:Nat} {e:Expr} {d:D},z2H n e=some d→SE X c e (eD d)
 | _,.Constant (.int i) _ _,d,h=>by
  simp only [z2H,W7] at h; subst h; exact z04
 | _,.Constant (.bool b) _ _,d,h=>by
  simp only [z2H,W7] at h; subst h; exact z53
 | _,.Constant .none _ _,d,h=>by
  simp only [z2H,W7] at h; subst h; exact zbT
 | _,.Constant (.str x) _ _,d,h=>by
  simp only [z2H,W7] at h; subst h; exact z4r _ (zbP x)
 | 0,.Tuple es k pos,d,h=>by simp [z2H] at h
 | n + 1,.Tuple es k pos,d,h=>by
  simp only [z2H] at h
  split at h
  ·rename_i hl
   cases e:z3f n es with
   | none=>rw [e] at h; cases h
   | some ds =>
    rw [e] at h
    simp only [WA,W7] at h
    subst h
    exact z3q (z4v e) hl
  ·cases h
theorem z4v:∀ {n:Nat} {es:List Expr} {ds:List D},z3f n es=some ds→SA X c es (fun δ=>.ok ds δ)
 | _,[],ds,h=>by
  simp only [z3f,W7] at h; subst h; exact z0X
 | n,e :: es,ds,h=>by
  simp only [z3f] at h
  split at h
  ·rename_i d ds' h1 h2
   cases h
   exact z98 (z6c h1) (z4v h2) (z3N (z8B h1))
  ·cases h
end
def z4f (ds:List D):DE:=fun δ=>.ok (.own (.lst ds)) δ
theorem zaS {X:Cx} {c:Fc} {e:Expr} {d:D} (h:z2H 9 e=some d):SE X c e (eD d):=z6c h
theorem z3t {X:Cx} {c:Fc} {es:List Expr} {ds:List D} {pos:Pos} (h:z3f 9 es=some ds) (hl:es.length≤1000):SE X c (.List es pos) (z4f ds):=z1E (z4v h) hl
section
variable {X:Cx} {c:Fc} {e:Expr} {fe:DE} {pos:Pos} {tg:Expr}
theorem z5B (he:SE X c e fe) (hs:QB e none pos.line X.env=pure false:=by rfl):SS X c (.Expr e pos) (z43 fe) :=
 zcs he (fun _=>hs) trivial (z9p he hs)
theorem z28 {i:Nat} {o:Expr} {apos cpos:Pos} (ho:PE X o (tVar i)) (he:SE X c e fe)
  (hbase:Q9 o "append" X.env (eval o X.env)=eval o X.env:=by rfl)
  (hfew:((WD cpos (W3 [e] X.env)).all (fun x=>!x.1) && (backToKw cpos (QO [] X.env)).all (fun x=>x.1.isSome)
   && decide ([e].length + ([]:List Keyword).length + (if ([]:List Keyword).isEmpty then 0 else 1) < 30))=true:=by rfl)
  (hline:(apos.endLine == cpos.line)=true:=by rfl) (hs:W3 [e] X.env=(false,eval e X.env) :: W3 [] X.env:=by rfl)
  (hsw:QB (.Call (.Attribute o "append" apos) [e] [] cpos) none pos.line X.env=pure false:=by rfl):SS X c (.Expr (.Call (.Attribute o "append" apos) [e] [] cpos) pos) (z0F i fe) :=
 z8V (p0:=apos) ho he (z9p (z9x QH PySem.F.slot_list_append PySem.F.type_list_append z6x ho (z0M he z1F hs) hbase hfew hline hs rfl) hsw)
end
def noL (K:W0):Bool:=K.all fun p=>match p.2.cls with
 | .type t=>!(t == "list")
 | _=>true
theorem zc5 [BEq α] [LawfulBEq α]:∀ {K:List (α×β)} {a:α} {o:β},K.lookup a=some o→(a,o) ∈ K
 | [],a,o,e=>by simp at e
 | (b,o') :: r,a,o,e=>by
  rw [WG] at e
  cases hb:a == b with
  | true =>
   rw [hb] at e
   have h1:o'=o:=Ws e
   have h2:a=b:=eq_of_beq hb
   rw [h1,h2]
   exact Wm
  | false =>
   rw [hb] at e
   exact Wi _ (zc5 e)
theorem zeS {K:W0} {a:Addr} {o:Obj} (h:noL K=true) (e:K.lookup a=some o) (hc:o.cls = .type "list"):False:=by
 have hm:(a,o) ∈ (K:List (Addr×Obj)):=zc5 e
 have h1:=Q6.mp h (a,o) hm
 have h2:(match o.cls with | .type t=>!(t == "list") | _=>true)=true:=h1
 rw [hc] at h2
 have h3:(!(("list" : String) == "list"))=true:=h2
 rw [beq_self_eq_true] at h3
 cases h3
end DV
set_option maxHeartbeats 400000
namespace L2
open PySem PySem.Spec PyProof.Rows
def Its (x:Str):It:=⟨fun i _=>i < x.cps.size,fun i H y H'=>H'=H∧∃ c,x.cps[i]? = some c∧y = .str ⟨#[c]⟩,fun i _=>i=x.cps.size⟩
theorem zaM {P:Wd} {w:Wg} {K:W0} {tg:Expr} (x:Str) (t:Tok) (it:Addr) (T:String) (hT:T = "str_ascii_iterator"∨T = "str_iterator"):Turn P w K tg (Its x) [it] it (fun i h=>h.IsStrIter it T x t i):=by
 have W:∀ A:Wf,A.handled=none→Walks P w A it [it] [it] x.cps.size (SignAt x) (fun i h=>h.IsStrIter it T x t i):=fun A hh=>by
  rcases hT with rfl | rfl
  ·exact Walks.strAscii hh it x t
  ·exact Walks.strWide hh it x t
 refine ⟨by simp,fun i h st b hb=>?_,fun i h h' st k=>?_,?_,?_,fun A i s Q E st h=>?_⟩
 ·have e:b=it:=by simpa using hb
  subst e
  obtain ⟨o,e,c,d⟩:=st
  exact ⟨o,e,fun v z=>by rw [d] at z; cases z⟩
 ·obtain ⟨o,e,r⟩:=st
  exact ⟨o,k it (by simp) o e,r⟩
 ·intro X hP hw hK hc i pins s σ H E I hf st hg
  subst hP hw hK
  obtain ⟨f0,f1,f2,f3,f4,f5⟩:=hf it (by simp)
  refine (W X.A (I.ok.hd hc)).item i s _ _ hg st fun v h' tk hv st' kk=>?_
  obtain ⟨c,u,hx,rfl⟩:=hv
  have I1:Inv X pins σ H { s with heap:=h',toks:=tk }:=I.turned (fun b o hb e=>kk b o (by simpa using hb) e) f0 f1 f3 f4 f5
  obtain ⟨o,e,c',d⟩:=id st'
  refine ⟨_,rfl,zbs (s:={ s with heap:=h',toks:=tk }) e c' d (by rcases hT with rfl | rfl <;> decide) ⟨.str ⟨#[c]⟩,H,I1,⟨u,rfl⟩,⟨rfl,c,hx,rfl⟩,st',fun b hb=>(hf b hb).1⟩⟩
 ·intro X hP hw hK hc i pins s σ H E I hf st hg
  subst hP hw hK
  have hg':i=x.cps.size:=hg
  subst hg'
  obtain ⟨f0,f1,f2,f3,f4,f5⟩:=hf it (by simp)
  exact (W X.A (I.ok.hd hc)).done s _ _ st fun h' tk eb=>⟨rfl,I.turned (fun b o hb e=>eb b o (by simpa using hb) e) f0 f1 f3 f4 f5⟩
 ·rcases hT with rfl | rfl
  ·exact wpAny_pyIter_striter_ascii st h
  ·exact wpAny_pyIter_striter_wide st h
end L2
namespace DV
open PySem PySem.Spec PyProof.Rows L2
section
variable {X:Cx} {c:Fc} {tg e:Expr} {fe:DE} {pos pp:Pos}
def iSeqS (K:W0) (tl:TE):TI:=fun σ H R=>tl σ H fun x H1=>(∃ a,x = .ref a∧(∃ xs,SqL K H1 a xs)∧R (Itl K a) H1)∨(∃ a,x = .ref a∧(∃ xs,SqT K H1 a xs)∧R (Itt K a) H1)∨∃ z,x = .str z∧R (Its z) H1
theorem zcT {l:Expr} {tl:TE} (hl:PE X l tl):PI X tg l (iSeqS X.K tl):=by
 intro pins s σ H R I h
 refine thn (hl pins s σ H _ I h) fun v s1 ⟨x,H1,I1,r1,q1⟩=>?_
 rcases q1 with q1 | q1 | ⟨z,e,q⟩
 ·obtain ⟨a,e,⟨xs,hq⟩,q⟩:=q1
  subst e
  cases r1
  obtain ⟨its,rv,p,hz⟩:=I1.list hq
  refine wpAny_pyIter_list p.isList ?_
  refine ⟨s1.heap.objs.size,[s1.heap.objs.size],_,_,H1,rfl,I1.kept (t':=s1.toks) fun b o e=>W5 _ e,z8N a _,⟨_,Wy _ rfl,rfl,rfl⟩,fun b hb=>?_,q⟩
  have e:b=s1.heap.objs.size:=by simpa using hb
  subst e
  exact I1.fpOk (We _) (I1.hok.fresh (We _))
 ·obtain ⟨a,e,⟨xs,hq⟩,q⟩:=q1
  subst e
  cases r1
  obtain ⟨its,rv,p,hz⟩:=I1.tuple hq
  refine wpAny_pyIter_tuple (show s1.heap.IsTuple a its.toArray from p) ?_
  refine ⟨s1.heap.objs.size,[s1.heap.objs.size],_,_,H1,rfl,I1.kept (t':=s1.toks) fun b o e=>W5 _ e,z8c a _,⟨_,Wy _ rfl,rfl,rfl⟩,fun b hb=>?_,q⟩
  have e:b=s1.heap.objs.size:=by simpa using hb
  subst e
  exact I1.fpOk (We _) (I1.hok.fresh (We _))
 ·subst e
  obtain ⟨t,rfl⟩:=r1
  refine wpAny_pyIter_strU ?_
  have hT:strIterType z = "str_ascii_iterator"∨strIterType z = "str_iterator":=by
   unfold strIterType
   split
   ·exact .inl rfl
   ·exact .inr rfl
  refine ⟨s1.heap.objs.size,[s1.heap.objs.size],_,_,H1,rfl,I1.kept (t':=s1.toks) fun b o e=>W5 _ e,zaM z t _ _ hT,⟨_,Wy _ rfl,rfl,rfl⟩,fun b hb=>?_,q⟩
  have e:b=s1.heap.objs.size:=by simpa using hb
  subst e
  exact I1.fpOk (We _) (I1.hok.fresh (We _))
theorem zf6 (z:Tx):ItOk c σ δ H (Its (toS z)) (z.map fun n=>D.str [n]):=by
 intro H2 kp
 have hsz:(toS z).cps.size=z.length:=by simp [toS]
 refine ⟨by show (z.map _).length=_; rw [hsz]; simp,fun i d e=>?_⟩
 rw [Wv] at e
 cases ez:z[i]? with
 | none=>rw [ez] at e; cases e
 | some n =>
  rw [ez] at e
  cases e
  have hi:i < z.length:=(Wb.mp ez).1
  refine ⟨by show i < _; rw [hsz]; exact hi,fun x H3 ⟨e3,cc,hc,hx⟩=>.inl ⟨e3,?_⟩⟩
  have:(toS z).cps[i]? = z[i]?:=by simp [toS]
  rw [this,ez] at hc
  cases hc
  rw [hx]
  exact .str [n]
def iSq (f:DE):DI:=fun δ=>(f δ).bind fun r δ1=>match r.d with
 | .lst ds=>.ok ds δ1
 | .tup ds=>.ok ds δ1
 | .str x=>.ok (x.map fun n=>.str [n]) δ1
 | _=>.stuck
theorem z5D (he:SE X c e fe):SI X c tg e (iSq fe):=PI.weak (zcT he) fun σ H R ⟨δ,k,q⟩=>by
 unfold iSq at q
 rw [z02] at q
 refine ⟨δ,k,z01 q fun r δ1 q1 v H1 a1 r1=>?_⟩
 have rr:=r1.rep
 generalize r.d=d at q1 rr
 cases d <;> first | exact q1.elim | skip
 ·cases rr
  exact .inr (.inr ⟨_,rfl,q1 _ H1 a1 (zf6 _)⟩)
 ·cases rr with
  | tup h1 h2 h3 h4=>exact .inr (.inl ⟨_,rfl,⟨_,.of h2⟩,q1 _ H1 a1 (zf5 _ h2 (fun z=>h1 (.inr z)) ⟨h3,h4⟩)⟩)
 ·cases rr with
  | lst h1 h2 h3 h4 =>
   refine .inl ⟨_,rfl,⟨_,.inl h2⟩,q1 _ H1 a1 ?_⟩
   intro H2 kp
   rename_i a vs
   have h5:Rd H2 a (.lst vs):=Rd.keep h2 fun o e=>kp a o e fun z=>h1 (.inr z)
   have r':Reps H1 (Av c σ δ1) vs _:=⟨h3,h4⟩
   refine ⟨⟨vs,.inl h5,by rw [r'.1]; exact We _⟩,fun i d e=>?_⟩
   obtain ⟨v,ev,rv⟩:=r'.get e
   refine ⟨⟨vs,v,.inl h5,ev⟩,fun x H3 ⟨e3,y⟩=>.inl ⟨e3,?_⟩⟩
   have:=y vs (.inl h5)
   rw [ev] at this
   cases this
   exact rv
end
end DV
namespace L2
open PySem PySem.Spec PyProof.Rows
theorem z5b (a:Int) (t:Tok) (l:Addr) (dd:Option Addr) (items:Array Value) (n:Nat) (sl:Array (Option Value)) :
  Meets (Builtin.«int.__rmul__» ⟨[.int a t,.ref l],[]⟩) (fun _ R s=>s.heap.get? l=some { cls:=.type "tuple",dict:=dd,data:=.seq items n,slots:=sl }∧R (.ok (.ret Value.notImplemented)) s) :=
 .of_wp fun prog w A R s h=>by obtain ⟨hp,g,d,tk,os⟩:=s; obtain ⟨hl,h⟩:=h; wp_walk; exact ⟨_,rfl,h⟩
theorem z4d:fillsNumberSlot (.type "tuple") "mul" = pure false :=
 PySem.fillsNumberSlot_seq (id:="tuple.__mul__") (r:=some (.builtin "tuple.__rmul__")) F.slot_tuple_mul.lookup (by decide +kernel) F.slot_tuple_rmul.lookup (by decide +kernel)
theorem z6h:seqRepeat? (.type "tuple")=pure (some (.builtin "tuple.__mul__")):=by
 unfold seqRepeat?
 rw [PySem.seqSlot_of (T:="tuple") (name:="__mul__") (id:="tuple.__mul__") F.slot_tuple_mul.lookup (by decide +kernel),PySem.seqSlot_of (T:="tuple") (name:="__rmul__") (id:="tuple.__rmul__") F.slot_tuple_rmul.lookup (by decide +kernel)]
 rfl
theorem z52 (l:Addr) (dd:Option Addr) (items:Array Value) (n:Nat) (sl:Array (Option Value)) (x:Int) (u:Tok) (h1:¬ (decide (x < -(2 ^ 63)) || decide (x ≥ 2 ^ 63))=true) (h2:¬ (items.isEmpty || x == 1)=true) (h3:¬ (decide (x≤0) || items.isEmpty)=true) (h4:¬ items.size * x > (2 ^ 63 - 1) / 8) (h5:¬ Builtin.Tuple.tupleTooMany (items.size * x)=true) (h6:((W8 x.toNat items).foldl (· ++ ·) #[]).size≤W6) :
  Meets (Builtin.«tuple.__mul__» ⟨[.ref l,.int x u],[]⟩) (fun _ R s=>s.heap.get? l=some { cls:=.type "tuple",dict:=dd,data:=.seq items n,slots:=sl } ∧
   R (.ok (.ret (.ref s.heap.objs.size))) { s with heap:=s.heap.push { cls:=.type "tuple",data:=.seq ((W8 x.toNat items).foldl (· ++ ·) #[]) } }) :=
 .of_wp fun prog w A R s h=>by
  obtain ⟨hp,g,d,tk,os⟩:=s; obtain ⟨hl,h⟩:=h
  wp_walk
  rw [if_neg h1]
  wp_walk
  try rw [if_neg h2]
  try wp_walk
  try rw [if_neg h3]
  try wp_walk
  try rw [if_neg h4]
  try wp_walk
  try rw [if_neg h5]
  try wp_walk
  exact ⟨_,rfl,h⟩
theorem z5X (its:List α):∀ (k:Nat) (acc:List α),List.foldl (fun x1 x2:Array α=>x1 ++ x2) acc.toArray (W8 k its.toArray)=(acc ++ (W8 k its).flatten).toArray
 | 0,acc=>by simp
 | k + 1,acc=>by
  rw [WR,QN,show acc.toArray ++ its.toArray=(acc ++ its).toArray by simp,z5X its k]
  simp [WR]
section
variable {X:Cx}
def zec (K:W0):R2:=fun x y H Q=>∃ l k xs,x = .ref l∧y = .int k∧SqT K H l xs∧xs≠[]∧2≤k∧k≤1000000∧xs.length * k.toNat≤W6∧∀ p,H p=none→Q (.ref p) (upd H p (.tup (W8 k.toNat xs).flatten))
theorem zcZ:OpR X (WZ .Mult) (zec X.K):=by
 intro pins s σ H x y v u Q I rx ry h
 obtain ⟨l,k,xs,rfl,rfl,hH,hne,h1,h2,hz,q⟩:=h
 cases rx
 obtain ⟨t,rfl⟩:=ry
 obtain ⟨its,r,pl,hl⟩:=I.tuple hH
 obtain ⟨⟨cls,dd,data,sl⟩,ho,hc,n,hd⟩:=id pl
 simp only at hc hd
 subst hc hd
 have hlen:its.toArray.size=xs.length:=by rw [Wo]; exact r.length.symm
 have hem:its.toArray.isEmpty=false:=by
  cases its with
  | nil=>exact absurd (r.nil_iff.mp rfl) hne
  | cons a b=>rfl
 have hline:W6=16777216:=rfl
 have hk:(k.toNat:Int)=k:=by omega
 have hmul:((its.toArray.size:Nat):Int) * k=((xs.length * k.toNat:Nat):Int):=by rw [hlen,Int.natCast_mul,hk]
 have hfold:List.foldl (fun x1 x2=>x1 ++ x2) #[] (W8 k.toNat its.toArray)=(W8 k.toNat its).flatten.toArray:=by
  have:=z6J its k.toNat []
  rw [Qv] at this
  exact this
 refine wpAny_binaryOp_repeat_ref (T:="tuple") (U:="int") (by decide) ⟨_,ho,rfl⟩ (fun s'=>Jj s' k t) z4d F.fills_int_mul F.slot_int_rmul z6h F.slot_int_index.lookup
  (QW F.slot_int_rmul (Jj s k t) F.entry_int_rmul (F.args_int_rmul_2 _ _) (z5b k t l dd its.toArray n sl)
   ⟨ho,rfl,⟨_,ho,rfl⟩,QW F.slot_tuple_mul ⟨_,ho,rfl⟩ F.entry_tuple_mul (F.args_tuple_mul_2 _ _) (z52 l dd its.toArray n sl k t ?_ ?_ ?_ ?_ ?_ ?_) ⟨ho,?_⟩⟩)
 ·simp; omega
 ·rw [hem]; simp; omega
 ·rw [hem]; simp; omega
 ·rw [hmul]; omega
 ·rw [hmul]
  unfold Builtin.Tuple.tupleTooMany
  rw [hline] at hz
  generalize xs.length * k.toNat=m at hz
  simp only [hline,decide_eq_true_eq]
  omega
 ·rw [hfold,Wo,z7j,← r.length,Nat.mul_comm]; exact hz
 ·rw [hfold]
  have I1:Inv X pins σ (upd H s.heap.objs.size (.tup (W8 k.toNat xs).flatten)) { s with heap:=s.heap.push { cls:=.type "tuple",data:=.seq (W8 k.toNat its).flatten.toArray } } :=
   I.laid (t':=s.toks) (fun b o e=>W5 _ e) (We _) (show ObjOk X.prog X.w _ _ _ (.tup (W8 k.toNat xs).flatten) from ⟨by rw [z7j,Nat.mul_comm]; exact hz,(W8 k.toNat its).flatten,r.rep k.toNat,IsTupN.new _ _⟩)
  exact ⟨.ref _,_,I1,rfl,q _ (I.hok.fresh (We _))⟩
def zed:R2:=fun x y H Q=>∃ z k,x = .str z∧y = .int k∧2≤k∧k≤1000000∧0 < z.length∧z.length * k.toNat≤W6∧Q (.str ⟨(W8 k.toNat z.cps).foldl (· ++ ·) #[]⟩) H
theorem op_repS:OpR X (WZ .Mult) zed:=by
 intro pins s σ H x y v u Q I rx ry h
 obtain ⟨z,k,rfl,rfl,h1,h2,h0,hz,q⟩:=h
 obtain ⟨t,rfl⟩:=rx
 obtain ⟨t',rfl⟩:=ry
 have hline:W6=16777216:=rfl
 have c1:¬ k < 1:=by omega
 have c2:(k == 1 || z.length == 0)=false:=by
  simp
  omega
 refine PySem.P.mul_str (by simp; omega) (fun _ _=>?_) (fun _ _=>?_) ?_
 ·have hm:(z.length:Int) * k≤16777216:=by
   have:(z.length:Int) * k=((z.length * k.toNat:Nat):Int):=by rw [Int.natCast_mul,show (k.toNat:Int)=k by omega]
   rw [this]
   rw [hline] at hz
   omega
  have:(z.length:Int)≤(2 ^ 63 - 1) / k:=(Int.le_ediv_iff_mul_le (by omega)).mpr (by omega)
  omega
 ·unfold Builtin.Str.tooLong
  rw [hline] at hz
  generalize z.length * k.toNat=m at hz
  simp only [hline,decide_eq_false_iff_not]
  omega
 ·rw [if_neg c1,if_neg (by rw [c2]; simp)]
  have hsz:((W8 k.toNat z.cps).foldl (· ++ ·) #[]).size=k.toNat * z.length:=by
   have h:=z5X z.cps.toList k.toNat []
   simp only [Qv,Array.toArray_toList] at h
   rw [h,Wo,z7j]
   simp [Str.length]
  exact ⟨by show ((W8 k.toNat z.cps).foldl (· ++ ·) #[]).size≤_; rw [hsz,Nat.mul_comm]; exact hz,.str _,H,I.tok _,⟨_,rfl⟩,q⟩
end
end L2
namespace DV
open PySem PySem.Spec PyProof.Rows L2
def z1S:D→D→Option S
 | .int i,.int j=>pMul (.int i) (.int j)
 | .str x,.int k=>if 2≤k∧k≤1000000∧0 < x.length∧x.length * k.toNat≤W6 then some (.pure (.str (W8 k.toNat x).flatten)) else none
 | .tup xs,.int k=>if 2≤k∧k≤1000000∧0 < xs.length∧xs.length * k.toNat≤W6 then some (.pure (.tup (W8 k.toNat xs).flatten)) else none
 | _,_=>none
def zee (K:W0):R2:=fun x y H Q=>rI CMul (fun i j=>V.int (i * j)) x y H Q∨zed x y H Q∨zec K x y H Q
theorem z4y:OpR X (WZ .Mult) (zee X.K):=op_mul.or (op_repS.or zcZ)
theorem Reps.rep (h:Reps H O vs ds):∀ k:Nat,Reps H O (W8 k vs).flatten (W8 k ds).flatten
 | 0=>.nil
 | k + 1=>by rw [WR,WR,Qc,Qc]; exact h.append (Reps.rep h k)
theorem z4C {K:W0}:Op2 (zee K) z1S:=by
 intro c σ δ H x y d e s Q k rx ry hp q
 cases d <;> cases e <;> first | (simp [z1S] at hp; done) | skip
 ·exact .inl (zeM c σ δ H x y _ _ s Q k rx ry hp q)
 ·rename_i z n
  simp only [z1S] at hp
  split at hp
  ·rename_i h
   cases hp
   refine .inr (.inl ⟨toS z,n,rx.str,ry.int,h.1,h.2.1,by rw [z1Y]; exact h.2.2.1,by rw [z1Y]; exact h.2.2.2,?_⟩)
   have e:(⟨(W8 n.toNat (toS z).cps).foldl (· ++ ·) #[]⟩:Str)=toS (W8 n.toNat z).flatten:=by
    unfold toS
    congr 1
    have:=z5X z n.toNat []
    rw [Qv] at this
    exact this
   rw [e]
   exact q _ H (.refl k) (.str _)
  ·cases hp
 ·rename_i ds n
  simp only [z1S] at hp
  split at hp
  ·rename_i h
   cases hp
   obtain ⟨a,vs,ex,ha,r⟩:=rx.tup
   refine .inr (.inr ⟨a,n,vs,ex,ry.int,.of ha,?_,h.1,h.2.1,by rw [r.1]; exact h.2.2.2,fun p hp'=>?_⟩)
   ·intro z
    rw [z] at r
    have:=r.1
    simp at this
    omega
   ·exact q _ _ (.alloc k hp' _) (RepS.newT k (Reps.rep r _) hp')
  ·cases hp
theorem RepS.newD (k:Ok c σ δ H) (hp:H p=none):RepS c σ δ H (upd H p (.dK [])) (.ref p) (.own (.dct [])):=by
 refine ⟨p,rfl,⟨[],z0l,rfl,fun i p q e=>by simp at e⟩,fun z=>k.nav hp (.inl z),k.fresh₀ hp,k.plus hp _,hp⟩
def z6P:DE:=fun δ=>.ok (.own (.dct [])) δ
theorem z7H {X:Cx} {c:Fc} {pos:Pos}:SE X c (.Dict [] [] pos) z6P:=PE.weak zb5 fun σ H Q ⟨δ,k,q⟩=>fun p hp=>q _ _ (.alloc k hp _) (RepS.newD k hp)
section
variable {X:Cx} {c:Fc} {e a x y:Expr} {fb:BE} {f g fa:DE} {pos pp p p2:Pos}
def eInR (neg:Bool) (fa f g:DE):DE:=fun δ=>(fa δ).bind fun v δ1=>(f δ1).bind fun lo δ2=>(g δ2).bind fun hi δ3=>match v.d,lo.d,hi.d with
 | .int i,.int l,.int h=>.ok (.pure (.bl (if neg then !(decide (l≤i) && decide (i < h)) else (decide (l≤i) && decide (i < h))))) δ3
 | _,_,_=>.stuck
end
end DV
set_option maxHeartbeats 1000000
namespace L2
open PySem PySem.Spec PyProof.Rows
theorem z2F:entryFor table "dict.update.loop" = some Builtin.«dict.update.loop»:=entryFor_of_tree (by kernel_rfl)
theorem z17:plainId "dict.update.loop" = true:=by decide +kernel
theorem z4E:typeLookup (.type "tuple") "keys" = pure none:=by rw [typeLookup_type,builtinLookup_eq_fast]; kernel_rfl
theorem z59:typeLookup (.type "list") "keys" = pure none:=by rw [typeLookup_type,builtinLookup_eq_fast]; kernel_rfl
set_option maxRecDepth 8000 in
theorem z6w
  (hx:s.heap.get? a=some o) (hc:o.cls = .type "tuple") (hdat:o.data = .seq xs k) (hd:o.dict=none) (hA:A.handled=none)
  (h:∀ h' tk,(∀ b ob,s.heap.get? b=some ob→h'.get? b=some ob)→Q none { s with heap:=h',toks:=tk }) :
  W9 (model prog w) A (getAttr? (.ref a) "keys") Q E s:=by
 obtain ⟨c,dct,dat,sl⟩:=o
 simp only at hc hdat hd
 subst hc hdat hd
 obtain ⟨hp,g,d,tk,os⟩:=s
 have hT:∀ tk',(⟨hp,g,d,tk',os⟩:W1).TypeIs (.ref a) "tuple":=fun _=>⟨_,hx,rfl⟩
 have f1:=sub_AttributeError
 have f3:=F.slot_tuple_getattribute.lookup
 have f4:=F.slot_tuple_getattribute.bind (.ref a)
 have f5:=am_tuple_getattr_none
 have hmiss:=z4E
 unfold getAttr? getAttrBy? getAttrBy
 repeat (any_goals (first | assumption | exact hT _ | ((with_reducible show W9 _ _ (call (Value.builtin "tuple.__getattribute__") _ _) _ _ _); refine QW F.slot_tuple_getattribute (hT _) am_entry_tuple_getattribute (F.args_tuple_getattribute_2 _ _) (meets_getattribute_miss_tuple a xs k sl "keys" _ hmiss (by decide +kernel)) ⟨hx,hA,fun h' tk' e hx'=>?_⟩) | wp_step))
 obtain ⟨t',u',he⟩:=hx'.there
 show W9 _ _ (Je _ _ _ _ _ _ _) _ _ _
 unfold Je
 repeat (any_goals (first | assumption | wp_step))
 exact h _ _ hx'.keeps
set_option maxRecDepth 8000 in
theorem z7f
  (hx:s.heap.get? a=some o) (hc:o.cls = .type "list") (hdat:o.data = .seq xs k) (hd:o.dict=none) (hA:A.handled=none)
  (h:∀ h' tk,(∀ b ob,s.heap.get? b=some ob→h'.get? b=some ob)→Q none { s with heap:=h',toks:=tk }) :
  W9 (model prog w) A (getAttr? (.ref a) "keys") Q E s:=by
 obtain ⟨c,dct,dat,sl⟩:=o
 simp only at hc hdat hd
 subst hc hdat hd
 obtain ⟨hp,g,d,tk,os⟩:=s
 have hT:∀ tk',(⟨hp,g,d,tk',os⟩:W1).TypeIs (.ref a) "list":=fun _=>⟨_,hx,rfl⟩
 have f1:=sub_AttributeError
 have f3:=F.slot_list_getattribute.lookup
 have f4:=F.slot_list_getattribute.bind (.ref a)
 have f5:=am_list_getattr_none
 have hmiss:=z59
 unfold getAttr? getAttrBy? getAttrBy
 repeat (any_goals (first | assumption | exact hT _ | ((with_reducible show W9 _ _ (call (Value.builtin "list.__getattribute__") _ _) _ _ _); refine QW F.slot_list_getattribute (hT _) am_entry_list_getattribute (F.args_list_getattribute_2 _ _) (meets_getattribute_miss_list a xs k sl "keys" _ hmiss (by decide +kernel)) ⟨hx,hA,fun h' tk' e hx'=>?_⟩) | wp_step))
 obtain ⟨t',u',he⟩:=hx'.there
 show W9 _ _ (Je _ _ _ _ _ _ _) _ _ _
 unfold Je
 repeat (any_goals (first | assumption | wp_step))
 exact h _ _ hx'.keeps
def z1y (kps:List (Key×V)) (acc:List (Key×V)):List (Key×V):=kps.foldl (fun a kv=>putK a kv.1 kv.2) acc
theorem zal {prog:Wd} {w:Wg} {A:Wf} {R:Result→W1→Prop} {s:W1} {dl it:Addr} {i:Int} {t0:Tok}
  (hn:W9 (model prog w) A.in1 (pyNext (.ref it)) (fun r s1=>∃ (q:Addr) (k v:Value) (n:Nat),r=some (.ref q)∧s1.heap.get? q=some { cls:=.type "tuple",dict:=none,data:=.seq #[k,v] n,slots:=#[] } ∧
   W9 (model prog w) A.in1 (dictSet dl k v) (fun _ s2=>Qf (model prog w) A (.builtin "dict.update.loop" ⟨[.ref dl,.ref it,QL (i + 1),.none],[]⟩) R s2) (fun _ _=>False) s1) (fun _ _=>False) s) :
  Qf (model prog w) A (.builtin "dict.update.loop" ⟨[.ref dl,.ref it,.int i t0,.none],[]⟩) R s:=by
 refine codeAny_builtin z2F ?_
 rw [Around.under_plainId z17 _]
 show W9 _ A.in1 (pyNext (.ref it) >>= _) _ _ s
 refine W2 (WH hn (fun r s1 hr=>?_) fun _ _ z=>z.elim)
 obtain ⟨q,k,v,n,rfl,hq,hd⟩:=hr
 dsimp only
 refine W2 ?_
 try with_reducible refine Q8 ?_
 refine W2 (wpAny_tryCatch ?_)
 have hT:s1.TypeIs (.ref q) "tuple":=⟨_,hq,rfl⟩
 unfold Builtin.Dict.pairItems
 refine W2 (QR hT ?_)
 rw [if_pos (by decide)]
 refine W2 ?_
 unfold seqItems?
 refine W2 (wpAny_load hq (Wc ?_))
 refine Wc ?_
 show W9 _ A.in1 (holding [k,v] (dictSet dl k v)) _ _ s1
 try with_reducible refine Q8 ?_
 refine WH hd (fun _ s2 h2=>?_) fun _ _ z=>z.elim
 exact Wc ⟨plainId_quiet z17 _,h2⟩
theorem zam {prog:Wd} {w:Wg} {A:Wf} {R:Result→W1→Prop} {s:W1} {dl it:Addr} {i:Int} {t0:Tok}
  (hn:W9 (model prog w) A.in1 (pyNext (.ref it)) (fun r s1=>r=none∧R (.ok (.ret .none)) s1) (fun _ _=>False) s) :
  Qf (model prog w) A (.builtin "dict.update.loop" ⟨[.ref dl,.ref it,.int i t0,.none],[]⟩) R s:=by
 refine codeAny_builtin z2F ?_
 rw [Around.under_plainId z17 _]
 show W9 _ A.in1 (pyNext (.ref it) >>= _) _ _ s
 refine W2 (WH hn (fun r s1 hr=>?_) fun _ _ z=>z.elim)
 obtain ⟨rfl,hd⟩:=hr
 dsimp only
 show W9 _ A.in1 (Builtin.Dict.addKeywords dl [] >>= _) _ _ s1
 exact W2 (Wc (Wc hd))
section
variable {X:Cx} {pins:List (Addr×Obj)} {σ:St} {H:Hp}
theorem Rd.sub (h:Rd H a u) (k:∀ b o,H b=some o→H' b=some o):Rd H' a u:=by
 rcases h with h | ⟨o,h⟩
 ·exact .inl (k _ _ h)
 ·exact .inr ⟨o,k _ _ h⟩
def z68 (H:Hp) (ys:List V) (kps:List (Key×V)):Prop:=ys.length=kps.length∧∀ (i:Nat) y kv,ys[i]? = some y→kps[i]? = some kv→∃ q,y = .ref q∧H q=some (.tup [kV kv.1,kv.2])
theorem z3E:∀ (kps acc:List (Key×V)),(z1y kps acc).length≤acc.length + kps.length
 | [],acc=>We _
 | kv :: r,acc=>by
  have h1:=z3E r (putK acc kv.1 kv.2)
  have h2:=z2i acc kv.1 kv.2
  show (z1y r (putK acc kv.1 kv.2)).length≤_
  simp only [WO]
  omega
theorem z7c (kps:List (Key×V)) (kv:Key×V) (acc:List (Key×V)):z1y (kps ++ [kv]) acc=putK (z1y kps acc) kv.1 kv.2:=by
 unfold z1y
 rw [List.foldl_append]
 rfl
theorem z6Q {A:Wf} {R:Result→W1→Prop} {dl it:Addr} {ys:List V} {kps:List (Key×V)} {tn:Nat→Heap→Prop} (hP:z68 H ys kps) (hdl:H dl=none) (hz:kps.length≤W6)
  (item:∀ (i:Nat) (y:V) (H':Hp) (s:W1) (Q:Option Value→W1→Prop),(∀ b o,H b=some o→H' b=some o)→H' it=none→Inv X pins σ H' s→tn i s.heap→ys[i]? = some y→(∀ u s',RelV y u→Inv X pins σ H' s'→tn (i + 1) s'.heap→Q (some u) s')→W9 (model X.prog X.w) A.in1 (pyNext (.ref it)) Q (fun _ _=>False) s)
  (done:∀ (H':Hp) (s:W1) (Q:Option Value→W1→Prop),(∀ b o,H b=some o→H' b=some o)→H' it=none→Inv X pins σ H' s→tn ys.length s.heap→(∀ s',Inv X pins σ H' s'→Q none s')→W9 (model X.prog X.w) A.in1 (pyNext (.ref it)) Q (fun _ _=>False) s)
  (keep:∀ (i:Nat) (h h':Heap),tn i h→(∀ o,h.get? it=some o→h'.get? it=some o)→tn i h') (hit:H it=none) (hne:it≠dl) (hR:∀ s',Inv X pins σ (upd H dl (.dK (z1y kps []))) s'→R (.ok (.ret .none)) s') :
  ∀ (k i:Nat) (s:W1) (j:Int) (t0:Tok),ys.length - i=k→i≤ys.length→Inv X pins σ (upd H dl (.dK (z1y (kps.take i) []))) s→tn i s.heap →
   Qf (model X.prog X.w) A (.builtin "dict.update.loop" ⟨[.ref dl,.ref it,.int j t0,.none],[]⟩) R s:=by
 have up:∀ (acc:List (Key×V)) b o,H b=some o→upd H dl (.dK acc) b=some o:=fun acc b o e=>by rw [z0f (z0v e hdl)]; exact e
 have nit:∀ acc:List (Key×V),upd H dl (.dK acc) it=none:=fun acc=>by rw [z0f hne]; exact hit
 intro k
 induction k with
 | zero =>
  intro i s j t0 hk hi I st
  have e:i=ys.length:=by omega
  subst e
  rw [hP.1,List.take_of_length_le (We _)] at I
  refine zam (done _ s _ (up _) (nit _) I st fun s' I'=>⟨rfl,hR s' I'⟩)
 | succ k ih =>
  intro i s j t0 hk hi I st
  have hlt:i < ys.length:=by omega
  have hlk:i < kps.length:=by rw [← hP.1]; exact hlt
  obtain ⟨q,ey,hq⟩:=hP.2 i ys[i] kps[i] (by simp [hlt]) (by simp [hlk])
  -- the item is a tuple of two
  have main:∀ s1,Inv X pins σ (upd H dl (.dK (z1y (kps.take i) []))) s1→tn (i + 1) s1.heap→∃ (kk vv:Value) (n:Nat),s1.heap.get? q=some { cls:=.type "tuple",dict:=none,data:=.seq #[kk,vv] n,slots:=#[] }∧RelV (kV kps[i].1) kk∧RelV kps[i].2 vv:=fun s1 I1 _=>by
   obtain ⟨_,its,r,n,e⟩:=(show ObjOk X.prog X.w _ s1.heap q (.tup [kV kps[i].1,kps[i].2]) from I1.hok q _ (up _ q _ hq))
   obtain ⟨u,v,rfl,r1,r2⟩:=Vals.two r
   exact ⟨u,v,n,e,r1,r2⟩
  refine zal (item i ys[i] _ s _ (up _) (nit _) I st (by simp [hlt]) fun u s' ru I' st'=>?_)
  rw [ey] at ru
  cases ru
  obtain ⟨kk,vv,n,e,r1,r2⟩:=main s' I' st'
  refine ⟨q,kk,vv,n,rfl,e,?_⟩
  obtain ⟨z,hd,vs,rel,dd⟩:=zdw I'.hok z0l
  have hvs:vs.length≤W6:=by rw [← rel.length]; exact z
  have hl:(putK (z1y (kps.take i) []) kps[i].1 kps[i].2).length≤W6:=by
   have h1:=z2i (z1y (kps.take i) []) kps[i].1 kps[i].2
   have h2:=z3E (kps.take i) []
   simp at h2
   omega
  refine wpAny_dictSet_pairs (hsz:=hvs) (z8v r1) dd fun h' dd' hs=>?_
  have he:∃ q,h'.get? dl=some q:=let ⟨q,_,_,hq,_⟩:=dd'; ⟨q,hq⟩
  have I2:=z7r (t':=s'.toks + 1) I' (by rw [z0l]; exact True.intro) hs he (zcc hl hd (rel.put kps[i].1 r2) dd')
  rw [zci] at I2
  have et:kps.take (i + 1)=kps.take i ++ [kps[i]]:=by rw [Jn]; simp [hlk]
  rw [show putK (z1y (kps.take i) []) kps[i].1 kps[i].2=z1y (kps.take (i + 1)) [] by rw [et,z7c]] at I2
  exact ih (i + 1) _ (j + 1) _ (by omega) hlt I2 (keep (i + 1) _ _ st' fun o eo=>(hs.2 it hne).trans eo)
theorem z4Y (hc:X.calm=true):CallR X (.type "dict") (fun xs H Q=>∃ p ys kps,xs=[.ref p]∧(H p=some (.tup ys)∨Rd H p (.lst ys))∧z68 H ys kps∧kps.length≤W6∧∀ l,H l=none→Q (.ref l) (upd H l (.dK (z1y kps [])))):=by
 intro pins s σ H xs us Q I r h
 obtain ⟨p,ys,kps,rfl,hp,hP,hz,q⟩:=h
 obtain ⟨u,rfl,rx⟩:=z3L r
 cases rx
 have hA:X.A.handled=none:=I.ok.hd hc
 refine callType_codes (Q₁:=fun obj s₁=>obj = .ref s.heap.objs.size∧s₁ = { s with heap:=s.heap.push { cls:=.type "dict",data:=.dict #[] } }) F.kt_called_dict (F.kt_typeCall_dict_1 _) F.entry_dict_init (kt_code_dict_new _ ⟨rfl,rfl⟩) ?_
 rintro obj s₁ ⟨rfl,rfl⟩
 have hdl:H s.heap.objs.size=none:=I.hok.fresh (We _)
 have I1:Inv X pins σ (upd H s.heap.objs.size (.dK [])) { s with heap:=s.heap.push { cls:=.type "dict",data:=.dict #[] } }:=I.laid (t':=s.toks) (fun _ _ q=>W5 _ q) (We _) (z86 s.heap I.big)
 generalize hdd:s.heap.objs.size=dl at hdl I1
 have up:∀ (acc:List (Key×V)) b o,H b=some o→upd H dl (.dK acc) b=some o:=fun acc b o e=>by rw [z0f (z0v e hdl)]; exact e
 have hTd:({ s with heap:=s.heap.push { cls:=.type "dict",data:=.dict #[] } }:W1).TypeIs (.ref dl) "dict":=⟨_,by rw [← hdd]; exact Wy _ rfl,rfl⟩
 refine ⟨hTd,F.args_dict_init_2 _ _,?_⟩
 unfold Builtin.«dict.__init__»
 refine W2 ?_
 unfold Builtin.Dict.selfAndRest
 refine W2 (wpAny_notOrdered_dict hTd ?_)
 show W9 _ _ (pure (dl,[Value.ref p])) _ _ _
 refine Wc ?_
 show W9 _ _ (Builtin.Dict.updateFrom "dict.__init__" dl (.ref p) [] .none) _ _ _
 unfold Builtin.Dict.updateFrom
 have fin:∀ s',Inv X pins σ (upd H dl (.dK (z1y kps []))) s'→EP X pins σ Q (.ref dl) s':=fun s' I'=>⟨.ref dl,_,I',rfl,q dl hdl⟩
 rcases hp with hp | hp
 ·obtain ⟨_,its,r,n,e⟩:=(show ObjOk X.prog X.w _ (s.heap.push { cls:=.type "dict",data:=.dict #[] }) p (.tup ys) from I1.hok p _ (up _ p _ hp))
  refine W2 (QR ⟨_,e,rfl⟩ ?_)
  rw [if_pos (by decide)]
  refine W2 (z6w e rfl rfl rfl hA fun h' tk kp=>?_)
  rw [if_pos (show (none:Option Value).isNone=true from rfl)]
  refine W2 (Jh ?_)
  have I2:Inv X pins σ (upd H dl (.dK [])) { s with heap:=h',toks:=tk }:=I1.kept kp
  have isT:h'.IsTuple p its.toArray:=⟨_,kp _ _ e,rfl,n,rfl⟩
  refine W2 (wpAny_pyIter_tuple (s:={ s with heap:=h',toks:=tk }) isT ?_)
  refine Wc ⟨plainId_quiet z17 _,?_⟩
  have hfr:upd H dl (.dK []) h'.objs.size=none:=I2.hok.fresh (We _)
  have hne:h'.objs.size≠dl:=fun z=>by rw [z,z0l] at hfr; cases hfr
  have hit:H h'.objs.size=none:=by rw [z0f hne] at hfr; exact hfr
  have fp:∀ H':Hp,H' h'.objs.size=none→FpOk X pins H' h'.objs.size:=fun H' hn=>I2.fpOk (We _) hn
  refine z6Q (X:=X) (pins:=pins) (σ:=σ) (H:=H) (dl:=dl) (it:=h'.objs.size) (ys:=ys) (kps:=kps) (tn:=fun i h=>h.IsTupleIter h'.objs.size p i) hP hdl hz ?_ ?_ (fun i h h2 st k=>st.at k) hit hne (fun s' I'=>⟨rfl,fin s' I'⟩) ys.length 0 _ 0 _ (Nat.sub_zero _) (QP _) ?_ ?_
  ·intro i y H' s' Q' sub hn I' st hy k
   obtain ⟨_,its2,r2,n2,e2⟩:=(show ObjOk X.prog X.w _ s'.heap p (.tup ys) from I'.hok p _ (sub p _ hp))
   obtain ⟨v,hv,rv⟩:=r2.get hy
   obtain ⟨f0,f1,f2,f3,f4,f5⟩:=fp H' hn
   refine wpAny_pyNext_tuple_item st (items:=its2.toArray) ⟨_,e2,rfl,n2,rfl⟩ (x:=v) (by simpa using hv) fun h3 st3 sb=>?_
   exact k v { s' with heap:=h3 } rv (I'.turned (t':=s'.toks) (fun b o hb e=>(sb.2 b hb).trans e) f0 f1 f3 f4 f5) st3
  ·intro H' s' Q' sub hn I' st k
   obtain ⟨_,its2,r2,n2,e2⟩:=(show ObjOk X.prog X.w _ s'.heap p (.tup ys) from I'.hok p _ (sub p _ hp))
   obtain ⟨f0,f1,f2,f3,f4,f5⟩:=fp H' hn
   have hl2:=r2.length
   exact wpAny_pyNext_tuple_end (show X.A.in1.in1.handled=none from hA) st (items:=its2.toArray) ⟨_,e2,rfl,n2,rfl⟩ (by simp; omega) fun h3 eb=>k { s' with heap:=h3 } (I'.turned (t':=s'.toks) (fun b o hb e=>eb b o hb e) f0 f1 f3 f4 f5)
  ·exact I2.kept (t':=tk) fun b o e=>W5 _ e
  ·exact ⟨_,Wy _ rfl,rfl,rfl⟩
 ·obtain ⟨_,its,n,r,e⟩:=(show ObjOk X.prog X.w _ (s.heap.push { cls:=.type "dict",data:=.dict #[] }) p (.lst ys) from (Rd.sub hp (up _)).ok I1.hok)
  refine W2 (QR ⟨_,e,rfl⟩ ?_)
  rw [if_pos (by decide)]
  refine W2 (z7f e rfl rfl rfl hA fun h' tk kp=>?_)
  rw [if_pos (show (none:Option Value).isNone=true from rfl)]
  refine W2 (Jh ?_)
  have I2:Inv X pins σ (upd H dl (.dK [])) { s with heap:=h',toks:=tk }:=I1.kept kp
  have isT:h'.IsList p its.toArray:=⟨_,kp _ _ e,rfl,n,rfl⟩
  refine W2 (wpAny_pyIter_list (s:={ s with heap:=h',toks:=tk }) isT ?_)
  refine Wc ⟨plainId_quiet z17 _,?_⟩
  have hfr:upd H dl (.dK []) h'.objs.size=none:=I2.hok.fresh (We _)
  have hne:h'.objs.size≠dl:=fun z=>by rw [z,z0l] at hfr; cases hfr
  have hit:H h'.objs.size=none:=by rw [z0f hne] at hfr; exact hfr
  have fp:∀ H':Hp,H' h'.objs.size=none→FpOk X pins H' h'.objs.size:=fun H' hn=>I2.fpOk (We _) hn
  refine z6Q (X:=X) (pins:=pins) (σ:=σ) (H:=H) (dl:=dl) (it:=h'.objs.size) (ys:=ys) (kps:=kps) (tn:=fun i h=>h.IsListIter h'.objs.size p i) hP hdl hz ?_ ?_ (fun i h h2 st k=>st.at k) hit hne (fun s' I'=>⟨rfl,fin s' I'⟩) ys.length 0 _ 0 _ (Nat.sub_zero _) (QP _) ?_ ?_
  ·intro i y H' s' Q' sub hn I' st hy k
   obtain ⟨_,its2,n2,r2,e2⟩:=(show ObjOk X.prog X.w _ s'.heap p (.lst ys) from (Rd.sub hp sub).ok I'.hok)
   obtain ⟨v,hv,rv⟩:=r2.get hy
   obtain ⟨f0,f1,f2,f3,f4,f5⟩:=fp H' hn
   refine wpAny_pyNext_list_item st (items:=its2.toArray) ⟨_,e2,rfl,n2,rfl⟩ (x:=v) (by simpa using hv) fun h3 st3 sb=>?_
   exact k v { s' with heap:=h3 } rv (I'.turned (t':=s'.toks) (fun b o hb e=>(sb.2 b hb).trans e) f0 f1 f3 f4 f5) st3
  ·intro H' s' Q' sub hn I' st k
   obtain ⟨_,its2,n2,r2,e2⟩:=(show ObjOk X.prog X.w _ s'.heap p (.lst ys) from (Rd.sub hp sub).ok I'.hok)
   obtain ⟨f0,f1,f2,f3,f4,f5⟩:=fp H' hn
   have hl2:=r2.length
   exact wpAny_pyNext_list_end (show X.A.in1.in1.handled=none from hA) st (items:=its2.toArray) ⟨_,e2,rfl,n2,rfl⟩ (by simp; omega) fun h3 eb=>k { s' with heap:=h3 } (I'.turned (t':=s'.toks) (fun b o hb e=>eb b o hb e) f0 f1 f3 f4 f5)
  ·exact I2.kept (t':=tk) fun b o e=>W5 _ e
  ·exact ⟨_,Wy _ rfl,rfl,rfl⟩
end
end L2
set_option maxHeartbeats 400000
namespace DV
open PySem PySem.Spec PyProof.Rows L2
def valD (kvs:List (DKey×D)) (k:DKey):Option D:=(kvs.find? fun kv=>decide (kv.1=k)).map (·.2)
def putD (kvs:List (DKey×D)) (k:DKey) (v:D):List (DKey×D) :=
 if (kvs.any fun kv=>decide (kv.1=k))=true then kvs.map (fun kv=>if kv.1=k then (kv.1,v) else kv) else kvs ++ [(k,v)]
def z7b (kps acc:List (DKey×D)):List (DKey×D):=kps.foldl (fun a kv=>putD a kv.1 kv.2) acc
theorem zd9 (h:kOf k=kOf j):k=j:=by
 cases k <;> cases j <;> simp [kOf] at h
 ·rw [h]
 ·rw [z5y h]
def DR (H:Hp) (O:Addr→Prop):List (Key×V)→List (DKey×D)→Prop
 | [],[]=>True
 | p :: ws,q :: ds=>p.1=kOf q.1∧Rep H O p.2 q.2∧DR H O ws ds
 | _,_=>False
section
variable {H H':Hp} {O O':Addr→Prop}
theorem DR.of:∀ {ws:List (Key×V)} {ds:List (DKey×D)},ws.map (·.1)=ds.map (fun p=>kOf p.1)→(∀ (i:Nat) p q,ws[i]? = some p→ds[i]? = some q→Rep H O p.2 q.2)→DR H O ws ds
 | [],[],_,_=>trivial
 | [],_ :: _,h,_=>by simp at h
 | _ :: _,[],h,_=>by simp at h
 | p :: ws,q :: ds,h,k=>by
  simp only [Wu,Jp] at h
  exact ⟨h.1,k 0 p q rfl rfl,DR.of h.2 fun i p' q' e1 e2=>k (i + 1) p' q' (by simpa using e1) (by simpa using e2)⟩
theorem DR.keys:∀ {ws:List (Key×V)} {ds:List (DKey×D)},DR H O ws ds→ws.map (·.1)=ds.map (fun p=>kOf p.1)
 | [],[],_=>rfl
 | [],_ :: _,h=>h.elim
 | _ :: _,[],h=>h.elim
 | p :: ws,q :: ds,h=>by simp only [Wu,h.1,DR.keys h.2.2]
theorem DR.vals:∀ {ws:List (Key×V)} {ds:List (DKey×D)},DR H O ws ds→∀ (i:Nat) p q,ws[i]? = some p→ds[i]? = some q→Rep H O p.2 q.2
 | [],[],_,i,p,q,e,_=>by simp at e
 | [],_ :: _,h,_,_,_,_,_=>h.elim
 | _ :: _,[],h,_,_,_,_,_=>h.elim
 | p :: ws,q :: ds,h,i,p',q',e1,e2=>by
  cases i with
  | zero=>simp at e1 e2; subst e1 e2; exact h.2.1
  | succ i=>exact DR.vals h.2.2 i p' q' (by simpa using e1) (by simpa using e2)
theorem DR.map:∀ {ws:List (Key×V)} {ds:List (DKey×D)},DR H O ws ds→(∀ v d,Rep H O v d→Rep H' O' v d)→DR H' O' ws ds
 | [],[],_,_=>trivial
 | [],_ :: _,h,_=>h.elim
 | _ :: _,[],h,_=>h.elim
 | p :: ws,q :: ds,h,k=>⟨h.1,k _ _ h.2.1,DR.map h.2.2 k⟩
theorem z3a (h:p=kOf q):(p=kOf k) ↔ q=k:=⟨fun e=>zd9 (by rw [← h]; exact e),fun e=>by rw [h,e]⟩
theorem DR.any:∀ {ws:List (Key×V)} {ds:List (DKey×D)} (k:DKey),DR H O ws ds→(ws.any fun kv=>decide (kv.1=kOf k))=ds.any fun kv=>decide (kv.1=k)
 | [],[],_,_=>rfl
 | [],_ :: _,_,h=>h.elim
 | _ :: _,[],_,h=>h.elim
 | p :: ws,q :: ds,k,h=>by
  rw [Qw,Qw,DR.any k h.2.2]
  congr 1
  exact decide_eq_decide.mpr (z3a h.1)
theorem DR.val:∀ {ws:List (Key×V)} {ds:List (DKey×D)} (k:DKey),DR H O ws ds→(valD ds k=none∧valV ws (kOf k)=none)∨∃ v d,valD ds k=some d∧valV ws (kOf k)=some v∧Rep H O v d
 | [],[],_,_=>.inl ⟨rfl,rfl⟩
 | [],_ :: _,_,h=>h.elim
 | _ :: _,[],_,h=>h.elim
 | p :: ws,q :: ds,k,h=>by
  by_cases e:q.1=k
  ·have e':=(z3a h.1).mpr e
   exact .inr ⟨p.2,q.2,by simp [valD,Qd,e],z4g e',h.2.1⟩
  ·have e':¬ p.1=kOf k:=fun z=>e ((z3a h.1).mp z)
   have ev:valD (q :: ds) k=valD ds k:=by simp [valD,Qd,e]
   rw [ev,z4h e']
   exact DR.val k h.2.2
theorem DR.append:∀ {ws ws':List (Key×V)} {ds ds':List (DKey×D)},DR H O ws ds→DR H O ws' ds'→DR H O (ws ++ ws') (ds ++ ds')
 | [],_,[],_,_,h'=>h'
 | [],_,_ :: _,_,h,_=>h.elim
 | _ :: _,_,[],_,h,_=>h.elim
 | p :: ws,_,q :: ds,_,h,h'=>⟨h.1,h.2.1,DR.append h.2.2 h'⟩
theorem DR.store:∀ {ws:List (Key×V)} {ds:List (DKey×D)} {k:DKey} {v:V} {d:D},DR H O ws ds→Rep H O v d→DR H O (ws.map fun kv=>if kv.1=kOf k then (kv.1,v) else kv) (ds.map fun kv=>if kv.1=k then (kv.1,d) else kv)
 | [],[],_,_,_,_,_=>trivial
 | [],_ :: _,_,_,_,h,_=>h.elim
 | _ :: _,[],_,_,_,h,_=>h.elim
 | p :: ws,q :: ds,k,v,d,h,r=>by
  refine ⟨?_,?_,DR.store h.2.2 r⟩
  ·by_cases e:q.1=k
   ·dsimp only; rw [if_pos ((z3a h.1).mpr e),if_pos e]; exact h.1
   ·dsimp only; rw [if_neg fun z=>e ((z3a h.1).mp z),if_neg e]; exact h.1
  ·by_cases e:q.1=k
   ·dsimp only; rw [if_pos ((z3a h.1).mpr e),if_pos e]; exact r
   ·dsimp only; rw [if_neg fun z=>e ((z3a h.1).mp z),if_neg e]; exact h.2.1
theorem DR.put (h:DR H O ws ds) (r:Rep H O v d):DR H O (putK ws (kOf k) v) (putD ds k d):=by
 unfold putK putD
 rw [DR.any k h]
 split
 ·exact DR.store h r
 ·exact DR.append h ⟨rfl,r,trivial⟩
theorem DR.puts:∀ {kps:List (Key×V)} {dps:List (DKey×D)} {ws:List (Key×V)} {ds:List (DKey×D)},DR H O kps dps→DR H O ws ds→DR H O (z1y kps ws) (z7b dps ds)
 | [],[],_,_,_,h=>h
 | [],_ :: _,_,_,h,_=>h.elim
 | _ :: _,[],_,_,h,_=>h.elim
 | p :: kps,q :: dps,ws,ds,h,h'=>by
  show DR H O (z1y kps (putK ws p.1 p.2)) (z7b dps (putD ds q.1 q.2))
  rw [h.1]
  exact DR.puts h.2.2 (DR.put h' h.2.1)
end
def keyD:D→Option DKey
 | .int i=>some (.inl i)
 | .str x=>some (.inr x)
 | _=>none
theorem z9c (h:keyD d=some k) (r:Rep H O v d):v=kV (kOf k):=by
 cases d <;> simp [keyD] at h <;> subst h <;> cases r <;> rfl
theorem z5J (h:keyD d=some k) (r:RepB c σ δ H v d):v=kV (kOf k):=by
 rcases r with r | ⟨a,rfl,r⟩
 ·exact z9c h r
 ·cases d <;> simp [keyD] at h <;> exact r.elim
def z2Y:List D→Option (List (DKey×D))
 | []=>some []
 | .tup [k,v] :: r=>match keyD k,z2Y r with
  | some k',some r'=>some ((k',v) :: r')
  | _,_=>none
 | _ :: _=>none
def z1D:D→Option S
 | .lst ds=>(z2Y ds).bind fun ps=>if ps.length≤W6 then some (.own (.dct (z7b ps []))) else none
 | .tup ds=>(z2Y ds).bind fun ps=>if ps.length≤W6 then some (.own (.dct (z7b ps []))) else none
 | _=>none
theorem z5N:∀ {ds:List D} {vs:List V} {ps:List (DKey×D)},z2Y ds=some ps→Reps H O vs ds→∃ kps,z68 H vs kps∧DR H O kps ps∧kps.length=ps.length
 | [],[],ps,h,_=>by
  simp [z2Y] at h
  subst h
  exact ⟨[],⟨rfl,fun i y kv e=>by simp at e⟩,trivial,rfl⟩
 | [],_ :: _,_,_,r=>by have:=r.1; simp at this
 | _ :: _,[],_,_,r=>by have:=r.1; simp at this
 | d :: ds,v :: vs,ps,h,r=>by
  unfold z2Y at h
  split at h
  ·rename_i heq; cases heq
  ·rename_i k w r' heq
   cases heq
   split at h
   ·rename_i k' r'' hk hr
    cases h
    obtain ⟨kps,hP,hD,hL⟩:=z5N hr r.tail
    have rp:=r.head
    cases rp with
    | tup h1 h2 h3 h4 =>
     rename_i a us
     match us,h3,h4,h2 with
     | [x,y],_,h4,h2 =>
      have rk:=h4 0 x k rfl rfl
      have rv:=h4 1 y w rfl rfl
      have ek:=z9c hk rk
      subst ek
      refine ⟨(kOf k',y) :: kps,⟨by simp [hP.1],fun i z kv e1 e2=>?_⟩,⟨rfl,rv,hD⟩,by simp [hL]⟩
      cases i with
      | zero=>simp at e1 e2; subst e1 e2; exact ⟨a,rfl,h2⟩
      | succ i=>exact hP.2 i z kv (by simpa using e1) (by simpa using e2)
   ·cases h
  ·cases h
theorem RepS.newDk (k:Ok c σ δ H) (hp:H p=none) (r:DR H (Av c σ δ) ws ds):RepS c σ δ H (upd H p (.dK ws)) (.ref p) (.own (.dct ds)):=by
 have up:∀ a w,H a=some w→upd H p (.dK ws) a=some w:=fun a w e=>by rw [z0f (z0v e hp)]; exact e
 have r1:DR (upd H p (.dK ws)) (Av (c.plus p) σ δ) ws ds:=r.map fun v d h=>(h.anti fun b z=>by
  rcases z with (z | z) | z
  ·exact .inl (.inl z)
  ·exact .inr (by rw [z]; exact hp)
  ·exact .inl (.inr z)).keep fun b w e _=>up b w e
 exact ⟨p,rfl,⟨ws,z0l,r1.keys,r1.vals⟩,fun z=>k.nav hp (.inl z),k.fresh₀ hp,k.plus hp _,hp⟩
section
variable {X:Cx} {c:Fc} {e:Expr} {fb:BE} {pos pp:Pos}
theorem z8G:WW "dict" = some (.type "dict"):=by decide +kernel
theorem z4s (hc:X.calm=true) (hg:Gl X "dict") (hm:X.mg "dict" = none) (he:SB X c e fb) (hs:z38 e=true:=by rfl):SE X c (.Call (.Name "dict" pp) [e] [] pos) (eC1 z1D fb) :=
 z3w (r:=fun v H Q=>∃ p ys kps,v = .ref p∧(H p=some (.tup ys)∨Rd H p (.lst ys))∧z68 H ys kps∧kps.length≤W6∧∀ l,H l=none→Q (.ref l) (upd H l (.dK (z1y kps []))))
  (z4Y hc) (fun v H Q ⟨p,ys,kps,e,h⟩=>⟨p,ys,kps,by rw [e],h⟩)
  (fun c σ δ H x d s Q k rx hp q=>by
   cases d with
   | lst ds =>
    simp only [z1D] at hp
    cases hps:z2Y ds with
    | none=>rw [hps] at hp; cases hp
    | some ps =>
     rw [hps] at hp
     simp only [Ww] at hp
     split at hp
     ·rename_i hz
      cases hp
      obtain ⟨a,vs,ex,ha,r⟩:=rx.lst
      obtain ⟨kps,hP,hD,hL⟩:=z5N hps r
      exact ⟨a,vs,kps,ex,.inr ha,hP,by rw [hL]; exact hz,fun l hl=>q _ _ (.alloc k hl _) (RepS.newDk k hl (DR.puts hD (ws:=[]) (ds:=[]) trivial))⟩
     ·cases hp
   | tup ds =>
    simp only [z1D] at hp
    cases hps:z2Y ds with
    | none=>rw [hps] at hp; cases hp
    | some ps =>
     rw [hps] at hp
     simp only [Ww] at hp
     split at hp
     ·rename_i hz
      cases hp
      obtain ⟨a,vs,ex,ha,r⟩:=rx.tup
      obtain ⟨kps,hP,hD,hL⟩:=z5N hps r
      exact ⟨a,vs,kps,ex,.inl ha,hP,by rw [hL]; exact hz,fun l hl=>q _ _ (.alloc k hl _) (RepS.newDk k hl (DR.puts hD (ws:=[]) (ds:=[]) trivial))⟩
     ·cases hp
   | _=>simp [z1D] at hp) hg hm z8G he (by decide) (by decide) (z3N hs)
end
theorem z7K (r:RepB c σ δ H v (.dct ds)):∃ a ws,v = .ref a∧H a=some (.dK ws)∧DR H (Av c σ δ) ws ds:=by
 obtain ⟨a,ws,e,h,k1,k2⟩:=r.dct
 exact ⟨a,ws,e,h,DR.of k1 k2⟩
def rInD (neg:Bool):R2:=fun x y H Q=>∃ a kvs k,y = .ref a∧H a=some (.dK kvs)∧x=kV k∧Q (.bl (if neg then !(valV kvs k).isSome else (valV kvs k).isSome)) H
theorem zeJ (hu:X.A.units + 64 < Qa):OpR X (WB .In) (rInD false):=by
 intro pins s σ H x y v u Q I rx ry h
 obtain ⟨a,kvs,k,rfl,ha,rfl,q⟩:=h
 cases ry
 exact d_in (by omega) I (DGet.k ha) rx fun s' I'=>⟨.bl _,H,I',rfl,q⟩
theorem z9E (hu:X.A.units + 64 < Qa):OpR X (WB .NotIn) (rInD true):=by
 intro pins s σ H x y v u Q I rx ry h
 obtain ⟨a,kvs,k,rfl,ha,rfl,q⟩:=h
 cases ry
 exact zdy (by omega) I (DGet.k ha) rx fun s' I'=>⟨.bl _,H,I',rfl,q⟩
def z9j (K:W0) (neg:Bool):R2:=fun x y H Q=>rInD neg x y H Q∨rIn K neg x y H Q∨∃ i j,x = .str i∧y = .str j∧Q (.bl (if neg then !(!(QG j i 0 j.length 1).isEmpty) else !(QG j i 0 j.length 1).isEmpty)) H
theorem zb9 {X:Cx} (hu:X.A.units + 64 < Qa):OpR X (WB .In) (z9j X.K false):=(zeJ hu).or (op_in_seq.or z9G)
theorem z4x {X:Cx} (hu:X.A.units + 64 < Qa):OpR X (WB .NotIn) (z9j X.K true):=(z9E hu).or (op_notIn_seq.or z6o)
def pIn (neg:Bool) (x y:D):Option S:=match y with
 | .dct ds=>(keyD x).map fun k=>.pure (.bl (if neg then !(valD ds k).isSome else (valD ds k).isSome))
 | .str y=>match x with
  | .str [n]=>some (.pure (.bl (if neg then !decide (n ∈ y) else decide (n ∈ y))))
  | _=>none
 | .lst ds=>match x,z2b ds with
  | .str z,some ts=>some (.pure (.bl (if neg then !ts.contains z else ts.contains z)))
  | _,_=>none
 | .tup ds=>match x,z2b ds with
  | .str z,some ts=>some (.pure (.bl (if neg then !ts.contains z else ts.contains z)))
  | _,_=>none
 | _=>none
theorem z6F (z:Tx) (ts:List Tx):inV (V.str (toS z)) (ts.map fun z=>V.str (toS z))=ts.contains z:=by
 unfold inV
 rw [List.any_map]
 induction ts with
 | nil=>rfl
 | cons t r ih =>
  rw [Qw,Jf,ih]
  congr 1
  show (toS t == toS z)=(z == t)
  rw [z5A,Bool.beq_comm]
theorem z5r (ts:List Tx):(ts.map fun z=>V.str (toS z)).all z5Z=true:=by
 rw [List.all_map]
 exact List.all_eq_true.mpr fun _ _=>rfl
theorem z5Q {K:W0} (neg:Bool):Op2 (z9j K neg) (pIn neg):=by
 intro c σ δ H x y d e s Q k rx ry hp q
 cases e <;> first | (simp [pIn] at hp; done) | skip
 ·rename_i z
  simp only [pIn] at hp
  split at hp <;> first | (cases hp; done) | skip
  rename_i n
  cases hp
  refine .inr (.inr ⟨toS [n],toS z,rx.str,ry.str,?_⟩)
  rw [show toS [n] = ⟨#[n]⟩ from rfl,PySem.StrLaws.found_one,show (toS z).cps.toList=z by simp [toS]]
  exact q _ H (.refl k) (.bl _)
 ·rename_i ds
  simp only [pIn] at hp
  split at hp <;> first | (cases hp; done) | skip
  rename_i z ts ht
  cases hp
  obtain ⟨a,vs,ea,ha,r⟩:=ry.tup
  have ev:=z1K ht r
  refine .inr (.inl ⟨a,vs,ea,.inr (.of ha),by rw [rx.str]; rfl,by rw [ev]; exact z5r ts,?_⟩)
  rw [rx.str,ev,z6F]
  exact q _ H (.refl k) (.bl _)
 ·rename_i ds
  simp only [pIn] at hp
  split at hp <;> first | (cases hp; done) | skip
  rename_i z ts ht
  cases hp
  obtain ⟨a,vs,ea,ha,r⟩:=ry.lst
  have ev:=z1K ht r
  refine .inr (.inl ⟨a,vs,ea,.inl (.inl ha),by rw [rx.str]; rfl,by rw [ev]; exact z5r ts,?_⟩)
  rw [rx.str,ev,z6F]
  exact q _ H (.refl k) (.bl _)
 ·rename_i ds
  simp only [pIn] at hp
  cases hk:keyD d with
  | none=>rw [hk] at hp; cases hp
  | some kk =>
   rw [hk] at hp
   cases hp
   obtain ⟨a,ws,ea,ha,dr⟩:=z7K ry
   refine .inl ⟨a,ws,kOf kk,ea,ha,z5J hk rx,?_⟩
   have:(valV ws (kOf kk)).isSome=(valD ds kk).isSome:=by
    rcases dr.val kk with ⟨e1,e2⟩ | ⟨v,d,e1,e2,_⟩
    ·rw [e1,e2]; rfl
    ·rw [e1,e2]; rfl
   rw [this]
   exact q _ H (.refl k) (.bl _)
def rIxD:R2:=fun x y H Q=>∃ a kvs k v,x = .ref a∧H a=some (.dK kvs)∧y=kV k∧valV kvs k=some v∧Q v H
def pIxX:D→D→Option S
 | .dct ds,k=>(keyD k).bind fun k=>(valD ds k).map .pure
 | x,y=>pIx x y
theorem zde (hu:X.A.units + 64 < Qa):IxR X rIxD:=by
 intro value slice pins s σ H x y v u Q I rx ry h hs
 obtain ⟨a,kvs,k,w,rfl,ha,rfl,hv,q⟩:=h
 cases rx
 obtain ⟨_,_,vs,_,dd⟩:=zdw I.hok ha
 have hT:s.TypeIs (.ref a) "dict":=dd.typeIs
 exact tail_any hT F.slot_dict_getitem.lookup (zao (v:=w) (by omega) I (by rw [← hv]; exact DGet.k ha) ry fun w' s' I' rw'=>⟨w,H,I',rw',q⟩) hs
theorem z7U {K:W0}:Op2 (fun x y H Q=>rIxD x y H Q∨rIx K x y H Q) pIxX:=by
 intro c σ δ H x y d e s Q k rx ry hp q
 cases d with
 | dct ds =>
  simp only [pIxX] at hp
  cases hk:keyD e with
  | none=>rw [hk] at hp; cases hp
  | some kk =>
   rw [hk] at hp
   simp only [Ww,WM] at hp
   obtain ⟨dv,hv,rfl⟩:=hp
   obtain ⟨a,ws,ea,ha,dr⟩:=z7K rx
   rcases dr.val kk with ⟨e1,e2⟩ | ⟨v,d',e1,e2,r⟩
   ·rw [e1] at hv; cases hv
   ·rw [e1] at hv; cases hv
    exact .inl ⟨a,ws,kOf kk,v,ea,ha,z5J hk ry,e2,q v H (.refl k) r⟩
 | _=>exact .inr (z0J c σ δ H x y _ e s Q k rx ry hp q)
end DV
namespace PySem
open Sem (wp)
open AutoSeq1 (wpAny_loadPart')
section
variable {prog:Wd} {w:Wg} {A:Wf} {E:Value→W1→Prop} {s:W1}
end
end PySem
namespace L2
open PySem PySem.Spec PyProof.Rows
section
variable {X:Cx} {pins:List (Addr×Obj)} {σ:St} {H:Hp} {s:W1} {h':Heap}
end
end L2
namespace DV
open PySem PySem.Spec PyProof.Rows L2
section
variable {X:Cx} {c:Fc} {tg e:Expr} {fe:DE} {pos pp:Pos}
end
end DV
namespace HT
open PySem PySem.Spec PyProof.Rows
section
variable {prog:Wd} {w:Wg} {A:Wf} {E:Value→W1→Prop} {s:W1}
end
end HT
namespace DV
open PySem PySem.Spec PyProof.Rows L2
section
variable {X:Cx} {c:Fc} {e:Expr} {fb:BE} {pos p2:Pos}
def pNeg:D→Option S
 | .int i=>some (.pure (.int (-i)))
 | _=>none
theorem z6b (he:SB X c e fb):SE X c (.UnaryOp .USub e pos) (eC1 pNeg fb) :=
 PE.weak (pe_un zdM he) fun σ H Q h=>z3M (fun c σ δ H x d s Q k rx hp q=>by
  cases d with
  | int i =>
   simp only [pNeg,W7] at hp
   subst hp
   exact ⟨i,rx.int,q _ H (.refl k) (.int _)⟩
  | _=>simp [pNeg] at hp) h
end
def Fc.park (c:Fc) (i:Nat) (a:Addr):Fc:=⟨c.H₀,fun b=>c.B b∨b=a,(i,a) :: c.pin,c.xc⟩
section
variable {c:Fc} {σ σ':St} {δ δ':Dl} {H H':Hp} {i:Nat} {a:Addr} {ds:List D}
end
section
variable {X:Cx} {c:Fc} {tg iter:Expr} {body:List Stmt} {g:DG} {b:DS} {i:Nat} {pos:Pos}
end
theorem ix_X (hu:X.A.units + 64 < Qa):IxR X (fun x y H Q=>rIxD x y H Q∨rIx X.K x y H Q):=(zde hu).or z0n
end DV
namespace L2
open PySem PySem.Spec PyProof.Rows
section
variable {X:Cx}
end
end L2
namespace DV
open PySem PySem.Spec PyProof.Rows L2
section
variable {X:Cx} {c:Fc} {e:Expr} {fe:DE} {pos:Pos}
end
section
variable {c:Fc} {σ:St} {δ δ':Dl} {H H':Hp} {i:Nat} {a p:Addr} {ds:List D}
end
open Classical in
noncomputable def itAt (δ₀:Dl) (ds:List D):DI:=fun δ=>if δ=δ₀ then .ok ds δ else .stuck
section
variable {X:Cx} {c:Fc} {cs:List Nat} {tg iter elt:Expr} {ifs:List Expr} {scope:Scope} {pos:Pos} {g:DG} {t:DT} {el:DE} {i:Nat}
end
section
variable {X:Cx} {c:Fc} {e:Expr} {fe:DE} {pos pos':Pos}
end
section
variable {X:Cx} {c:Fc} {pp pos:Pos}
def pMin:D→D→Option S
 | .int i,.int j=>some (.pure (.int (if j < i then j else i)))
 | _,_=>none
def eMin (f g:DE):DE:=fun δ=>(f δ).bind fun x δ1=>(g δ1).bind fun y δ2=>p2 pMin x.d y.d δ2
theorem zdY {a b:Expr} {f g:DE} (hc:X.calm=true) (hg:Gl X "min") (hm:X.mg "min" = none) (ha:SE X c a f) (hb:SE X c b g) (hs:W3 [a,b] X.env=(false,eval a X.env) :: W3 [b] X.env:=by rfl)
  (hs2:W3 [b] X.env=(false,eval b X.env) :: W3 [] X.env:=by rfl) (hpl:(WD pos (W3 [b] X.env)).any (·.1)=false:=by rfl):SE X c (.Call (.Name "min" pp) [a,b] [] pos) (eMin f g) :=
 PE.weak (z2M (zaw hc) hg hm PyProof.Rows.boot_min (z0M ha (z0M hb z1F hs2) hs) (by decide) (by decide) hs hpl) fun σ H Q ⟨δ,k,q⟩=>by
  unfold eMin at q
  rw [z02] at q
  refine ⟨δ,k,z01 q fun x δ1 q1 v H1 a1 r1=>⟨δ1,a1.ok,?_⟩⟩
  rw [z02] at q1
  refine z01 q1 fun y δ2 q2 u H2 a2 r2=>?_
  unfold p2 at q2
  have hx:RepB c σ δ2 H2 v x.d:=.inl (Rep.aft r1.rep a2)
  have hy:=r2.b
  generalize x.d=dx at q2 hx
  generalize y.d=dy at q2 hy
  cases dx <;> first | exact q2.elim | skip
  cases dy <;> first | exact q2.elim | skip
  rename_i i j
  obtain ⟨i',e1⟩:∃ i',v = .int i':=hx.elim (fun h=>by cases h; exact ⟨_,rfl⟩) fun ⟨_,_,h⟩=>h.elim
  subst e1
  have e2:i'=i:=hx.elim (fun h=>by cases h; rfl) fun ⟨_,_,h⟩=>h.elim
  obtain ⟨j',e3⟩:∃ j',u = .int j':=hy.elim (fun h=>by cases h; exact ⟨_,rfl⟩) fun ⟨_,_,h⟩=>h.elim
  subst e3
  have e4:j'=j:=hy.elim (fun h=>by cases h; rfl) fun ⟨_,_,h⟩=>h.elim
  subst e2 e4
  exact ⟨i',j',rfl,q2 _ H2 (a1.trans a2) (.int _)⟩
end
section
variable {c:Fc} {σ:St} {δ:Dl} {H:Hp} {a:Addr} {d:D}
end
section
variable {X:Cx} {c:Fc} {e:Expr} {es:List Expr} {as:List Ak} {f0:DE} {k n:Nat} {x:Str} {G:DF} {pp pos:Pos}
end
section
variable {X:Cx} {c:Fc} {e:Expr} {fe:DE} {pos:Pos}
theorem Ok.mutD (k:Ok c σ δ H) (e:δ[i]? = some (some (.own (.dct ds)))) (ea:σ[i]? = some (some (.ref a))) (r:DR H (Av c σ δ) vs' ds') :
  Aft c σ δ H σ (δ.set i (some (.own (.dct ds')))) (upd H a (.dK vs')):=by
 have hi:i < δ.length:=(Wb.mp e).1
 obtain ⟨a',ea',oa,ia,nb⟩:=k.own i _ e
 rw [ea] at ea'; cases ea'
 obtain ⟨vs,ha,_⟩:=oa
 have ownA:Own σ δ a:=⟨i,_,e,ea⟩
 have avA:Av c σ δ a:=.inr ownA
 have own_iff:∀ b,Own σ (δ.set i (some (.own (.dct ds')))) b ↔ Own σ δ b:=fun b=>by
  constructor
  ·rintro ⟨j,d,e1,e2⟩
   by_cases hj:i=j
   ·subst hj
    exact ⟨i,_,e,e2⟩
   ·rw [W4 hj] at e1
    exact ⟨j,d,e1,e2⟩
  ·rintro ⟨j,d,e1,e2⟩
   by_cases hj:i=j
   ·subst hj
    exact ⟨i,_,by rw [Wq hi],e2⟩
   ·exact ⟨j,d,by rw [W4 hj]; exact e1,e2⟩
 have av_iff:∀ b,Av c σ (δ.set i (some (.own (.dct ds')))) b→Av c σ δ b:=fun b z=>z.elim .inl fun z=>.inr ((own_iff b).mp z)
 have ne:∀ b,¬ Av c σ δ b→b≠a:=fun b n z=>n (by rw [z]; exact avA)
 have kp:∀ b o,H b=some o→¬ Av c σ δ b→upd H a (.dK vs') b=some o:=fun b o h n=>by rw [z0f (ne b n)]; exact h
 have hup:∀ b o,H b=some o→∃ o',upd H a (.dK vs') b=some o':=fun b o h=>by
  by_cases hb:b=a
  ·exact ⟨_,by rw [hb]; exact z0l⟩
  ·exact ⟨o,by rw [z0f hb]; exact h⟩
 refine ⟨⟨fun b o h n=>?_,fun b z=>?_,fun b z=>?_,by rw [QM]; exact k.len,fun j d h=>?_,fun j d h=>?_,fun j l b d d' h1 h2 h3 h4=>?_,k.pinned⟩,fun b o h n=>?_,fun b z=>.inl ((own_iff b).mp z),hup⟩
 ·have hb:b≠a:=fun z=>by
   subst z
   rcases ia with z | z
   ·exact n z
   ·rw [z] at h; cases h
  rw [z0f hb]
  exact k.keep b o h n
 ·obtain ⟨o,h⟩:=k.bd b z
  exact hup b o h
 ·obtain ⟨o,h⟩:=k.ith b z
  exact hup b o h
 ·have hj:i≠j:=fun z=>by subst z; rw [Wq hi] at h; cases h
  rw [W4 hj] at h
  obtain ⟨v,h1,h2⟩:=k.slot j d h
  exact ⟨v,h1,(h2.keep kp).anti fun b z=>.inl (av_iff b z)⟩
 ·by_cases hj:i=j
  ·subst hj
   rw [Wq hi] at h
   cases h
   exact ⟨a,ea,(let r':=r.map fun v d h=>(Rep.keep h kp).anti fun b z=>.inl (av_iff b z); ⟨vs',z0l,r'.keys,r'.vals⟩),ia,nb⟩
  ·rw [W4 hj] at h
   obtain ⟨b,h1,h2,h3,h4⟩:=k.own j d h
   have hb:b≠a:=fun z=>by subst z; exact hj (k.inj i j b _ d e h ea h1)
   exact ⟨b,h1,(h2.keep kp fun o q=>by rw [z0f hb]; exact q).anti fun b z=>.inl (av_iff b z),h3,h4⟩
 ·have f1:∃ d,δ[j]? = some (some (.own d)):=by
   by_cases hj:i=j
   ·subst hj; exact ⟨_,e⟩
   ·rw [W4 hj] at h1; exact ⟨d,h1⟩
  have f2:∃ d,δ[l]? = some (some (.own d)):=by
   by_cases hj:i=l
   ·subst hj; exact ⟨_,e⟩
   ·rw [W4 hj] at h2; exact ⟨d',h2⟩
  obtain ⟨_,f1⟩:=f1
  obtain ⟨_,f2⟩:=f2
  exact k.inj j l b _ _ f1 f2 h3 h4
 ·have hb:b≠a:=fun z=>n (by rw [z]; exact ownA)
  rw [z0f hb]; exact h
def z5q (δ:Dl) (i:Nat):Bool:=match δ[i]? with
 | some (some (.own (.dct _)))=>true
 | _=>false
def z4R (i:Nat) (fi fe:DE):DS:=fun δ=>if z5q δ i then (fe δ).bind fun r δ1=>if z5q δ1 i then (fi δ1).bind fun k δ2=>match δ2[i]? with
  | some (some (.own (.dct ds)))=>match keyD k.d with
   | some kk=>if ds.length < W6 then .ok .next (δ2.set i (some (.own (.dct (putD ds kk r.d))))) else .stuck
   | none=>.stuck
  | _=>.stuck else .stuck else .stuck
theorem za1 (h:z5q δ i=true):∃ ds,δ[i]? = some (some (.own (.dct ds))):=by
 unfold z5q at h
 split at h
 ·rename_i ds e; exact ⟨ds,e⟩
 ·cases h
theorem z8S {i:Nat} {o ix:Expr} {fi:DE} {sp:Pos} (hu:X.A.units + 64 < Qa) (ho:PE X o (tVar i)) (hi:SE X c ix fi) (he:SE X c e fe)
  (hs:QB e (some (.Subscript o ix sp)) pos.line X.env=pure false:=by rfl):SS X c (.Assign [.Subscript o ix sp] e pos) (z4R i fi fe) :=
 PS.weak (zcR (by omega) ho hi he hs) fun D σ H ⟨δ,k,q⟩=>by
  unfold z4R z1x at q
  split at q
  case isFalse=>exact q.elim
  rename_i hown
  rw [z02] at q
  refine ⟨δ,k,z01 q fun r δ1 q1 v H1 a1 r1=>?_⟩
  split at q1
  case isFalse=>exact q1.elim
  rename_i hown1
  obtain ⟨ds1,e1⟩:=za1 hown1
  obtain ⟨a,ea,_,_⟩:=a1.ok.own i _ e1
  refine ⟨.ref a,ea,δ1,a1.ok,?_⟩
  rw [z02] at q1
  refine z01 q1 fun kx δ2 q2 u H2 a2 r2=>?_
  split at q2
  ·rename_i ds e2
   split at q2
   ·rename_i kk hk
    split at q2
    ·rename_i hz
     obtain ⟨a',ea',oa,_⟩:=a2.ok.own i _ e2
     rw [ea] at ea'; cases ea'
     obtain ⟨ws,ha,hk1,hk2⟩:=id oa
     have dr:DR H2 (Av c σ δ2) ws ds:=DR.of hk1 hk2
     have hu':=z5J hk r2.b
     subst hu'
     have hlen:ws.length=ds.length:=by have:=congrArg List.length hk1; simpa using this
     have rv:Rep H2 (Av c σ δ2) v r.d:=Rep.aft r1.rep a2
     refine ⟨a,_,rfl,DPut.k ha (by rw [hlen]; exact hz),?_⟩
     exact q2 σ _ (a1.trans (a2.trans (Ok.mutD a2.ok e2 ea (dr.put rv))))
    ·exact q2.elim
   ·exact q2.elim
  ·exact q2.elim
end
section
variable {X:Cx} {c:Fc} {o e f:Expr} {fe ff:DE} {i:Nat} {apos cpos:Pos}
end
def bigB:Int:=2 ^ 1000
def zfo (_ j:Int):Prop:=0 < j∧j < bigB
theorem zbH (h0:0 < j) (h1:j < bigB):j.natAbs.log2 < 9000:=by
 have e:j.natAbs < 2 ^ 1000:=by
  unfold bigB at h1
  have:((2 ^ 1000:Nat):Int)=(2:Int) ^ 1000:=by exact_mod_cast rfl
  omega
 have:=(Nat.log2_lt (by omega:j.natAbs≠0)).mpr e
 omega
section
variable {X:Cx}
theorem zba:OpR X (WZ .FloorDiv) (rI zfo fun i j=>.int (i / j)):=opI fun i j _ _ _ _ _ hc q=>by
 have h1:(0:Int) < j:=hc.1
 exact floordiv_int (by omega) (by rw [Int.fdiv_eq_ediv_of_nonneg i (by omega)]; exact q) (.inl (PyProof.noPylong_of_log2 (zbH h1 hc.2)))
end
def zaB (_ j:Int):Bool:=decide (0 < j) && decide (j < bigB)
def zcW:=pII zaB fun i j=>.int (i / j)
theorem zd2:Op2 (rI zfo fun i j=>V.int (i / j)) zcW:=z9N (fun i j h=>by
 unfold zaB at h
 simp only [Wn,decide_eq_true_eq] at h
 exact h) fun _ _ _ _=>.int _
theorem zb7 (i j:Int) (h0:0 < j) (h1:j < bigB):zcW (.int i) (.int j)=some (.pure (.int (i / j))):=by
 show (if zaB i j then some (S.pure (.int (i / j))) else none)=_
 have:zaB i j=true:=by unfold zaB; simp only [h0,h1,decide_true,Bool.and_self]
 rw [this]; rfl
end DV
namespace L2
open PySem PySem.Spec PyProof.Rows
section
variable {X:Cx} {tg:Expr}
end
end L2
namespace DV
open PySem PySem.Spec PyProof.Rows L2
variable {X:Cx} {c:Fc} {tg e:Expr} {fe:DE} {pp pos:Pos}
section
variable {X:Cx}
end
theorem vals_ints:∀ {ns:List Int} {us:List Value},Vals (ns.map V.int) us→∃ ys:List (Int×Tok),us=(ys.map fun p=>Value.int p.1 p.2)∧ns=ys.map (·.1)
 | [],us,r=>by cases r; exact ⟨[],rfl,rfl⟩
 | n :: ns,us,r=>by
  cases r with
  | cons r1 r2 =>
   obtain ⟨ys,e1,e2⟩:=vals_ints r2
   obtain ⟨t,rfl⟩:=r1
   exact ⟨(n,t) :: ys,by rw [e1]; rfl,by rw [e2]; rfl⟩
section
variable {X:Cx}
end
def z5a:List D→Option (List Int)
 | []=>some []
 | .int i :: r=>(z5a r).map (i :: ·)
 | _ :: _=>none
theorem ints_map (ns:List Int):z5a (ns.map D.int)=some ns:=by
 induction ns with
 | nil=>rfl
 | cons n r ih=>simp [z5a,ih]
section
variable {X:Cx} {c:Fc} {e:Expr} {fb:BE} {pos pp:Pos}
end
end DV
namespace L2
open PySem PySem.Spec PyProof.Rows
section
variable {prog:Wd} {w:Wg} {A:Wf} {E:Value→W1→Prop} {s:W1}
end
section
variable {X:Cx} {pos:Pos}
end
end L2
namespace DV
open PySem PySem.Spec PyProof.Rows L2
section
variable {X:Cx} {c:Fc} {pos:Pos}
end
open PySem PySem.Builtin PySem.Builtin.Str PySem.StrLaws
section
variable {X:Cx}
end
section
variable {X:Cx} {c:Fc} {e:Expr} {fb:BE}
end
end DV
set_option maxHeartbeats 1000000
namespace PySem
open Sem (wp)
open AutoSeq1 (wpAny_loadPart')
section
variable {prog:Wd} {w:Wg} {A:Wf} {E:Value→W1→Prop} {s:W1}
end
end PySem
namespace PyProof.Rows
open PySem
section
variable {M:Model} {A:Wf} {E:Value→W1→Prop} {s:W1} {env:Env}
end
end PyProof.Rows
set_option maxHeartbeats 400000
namespace L2
open PySem PySem.Spec PyProof.Rows
end L2
namespace DV
open PySem PySem.Spec PyProof.Rows L2
section
variable {X:Cx} {c:Fc} {tg e:Expr} {fe:DE} {pos pp:Pos}
end
end DV
namespace L2
open PySem PySem.Spec PyProof.Rows
def Fly (h:Heap) (a C T:Addr) (dx:Option Addr) (fl:Value):Prop :=
 ∃ vs sl oT ts a0,h.get? a=some ⟨.ref C,dx,.fields vs,sl⟩∧vs[0]? = some a0∧vs[1]? = some (.ref T)∧T≠a∧h.get? T=some oT∧oT.data = .fields ts∧ts[3]? = some fl
structure Noted (h h':Heap) (fs:List Addr) (a T:Addr) (old:Value):Prop where
 new:h.get? T=none
 keep:∀ b o,h.get? b=some o→b≠a→old≠.ref b→b ∉ fs→h'.get? b=some o
 frame:∀ b o,h.get? b=some o→(∀ vs,o.data≠.fields vs)→∃ sl,h'.get? b=some { o with slots:=sl }
section
variable {M:Model} {A:Wf} {E:Value→W1→Prop} {s:W1}
theorem z6O
  (hfr:A.frames=some (env :: outer)) (hl:s.heap.FunFrames base (env :: outer)) (hf:env.frame=some L)
  (he:s.heap.get? a=some ⟨.ref C,dx,.fields vs,sl⟩) (h0:vs[0]? = some a0) (h1:1 < vs.size)
  (q:∀ h' T,Fly h' a C T dx (QL L)→Noted s.heap h' ((env :: outer).filterMap (·.frame)) a T .none→Q () { s with heap:=h' }) :
  W9 M A (do let x ← frameOf env; let pl ← entryPlaceOf L b0; let y ← EntryCells.newEntry head x .none (QL L) .none pl; setField (.ref a) 1 y) Q E s:=by
 have na:a ∉ (env :: outer).filterMap (·.frame):=fun z=>by
  obtain ⟨_,o,g1,g2⟩:=hl.mem z
  rw [he] at g1
  cases g1
  exact g2 vs rfl
 refine W2 (wpAny_frameOf_fun hfr hl hf fun hA k=>W2 (wpAny_entryPlaceOf fun pl hpl=>?_))
 unfold EntryCells.newEntry newFields
 refine W2 (Qn ?_ (hpl.sizeOk5 _ _ _ _ _))
 have eA:hA.get? a=some ⟨.ref C,dx,.fields vs,sl⟩:=(k.2.1 a na).trans he
 generalize hts:([head,.ref L,.none,QL L,.none] ++ (if pl.isEmpty then W8 6 Value.none else pl)).toArray=ts
 have t3:ts[3]? = some (QL L):=by
  rw [← hts]
  rcases hpl with rfl | ⟨_,_,_,_,_,_,_,rfl⟩ <;> simp
 have eB:=W5 (h:=hA) { cls:=.type "traceback",dict:=none,data:=.fields ts } eA
 have nT:hA.objs.size≠a:=Nat.ne_of_gt (Wl eA)
 refine wpAny_setField eB rfl h1 (q _ hA.objs.size ⟨vs.setIfInBounds 1 (.ref hA.objs.size),sl,{ cls:=.type "traceback",dict:=none,data:=.fields ts },ts,a0,?_,?_,?_,nT,?_,rfl,t3⟩ ⟨?_,fun b o e n _ nf=>?_,fun b o e d=>?_⟩)
 ·exact (Qu _ eB rfl)
 ·rw [Array.getElem?_setIfInBounds_ne (by decide)]; exact h0
 ·simp [h1]
 ·rw [WX _ _ (Ne.symm nT)]; exact Wy hA rfl
 ·cases z:s.heap.get? hA.objs.size with
  | none=>rfl
  | some o =>
   obtain ⟨sl',z'⟩:=k.2.2 _ o z
   exact absurd (Wl z') (WS _)
 ·rw [WX _ _ (Ne.symm n)]
  exact W5 _ ((k.2.1 b nf).trans e)
 ·have nb:b≠a:=fun z=>by
   rw [z,he] at e
   cases e
   exact d vs rfl
  obtain ⟨sl',z⟩:=k.2.2 b o e
  exact ⟨sl',by rw [WX _ _ (Ne.symm nb)]; exact W5 _ z⟩
theorem z8n
  (hfr:A.frames=some (env :: outer)) (hl:s.heap.FunFrames base (env :: outer)) (hf:env.frame=some L)
  (he:s.heap.get? a=some ⟨.ref C,dx,.fields vs,sl⟩) (h0:vs[0]? = some a0) (h1:vs[1]? = some .none)
  (q:∀ h' T,Fly h' a C T dx (QL L)→Noted s.heap h' ((env :: outer).filterMap (·.frame)) a T .none→Q () { s with heap:=h' }):W9 M A (Jc (.ref a) env) Q E s:=by
 unfold Jc
 simp only [hf]
 refine W2 (QC he rfl h1 ?_)
 rw [if_neg (by decide)]
 exact z6O hfr hl hf he h0 (Qx.mp h1).1 q
theorem z9O
  (hfr:A.frames=some (env :: outer)) (hl:s.heap.FunFrames base (env :: outer)) (hf:env.frame=some L) (hx:Fly s.heap a C T₀ dx .none)
  (q:∀ h' T,Fly h' a C T dx (QL L)→Noted s.heap h' ((env :: outer).filterMap (·.frame)) a T (.ref T₀)→Q () { s with heap:=h' }):W9 M A (Jc (.ref a) env) Q E s:=by
 obtain ⟨vs,sl,oT,ts,a0,e1,e2,e3,e4,e5,e6,e7⟩:=hx
 unfold Jc
 simp only [hf]
 refine W2 (QC e1 rfl e3 ?_)
 rw [if_pos (by simp)]
 refine W2 (QC e5 e6 e7 ?_)
 rw [if_neg (by simp [QL])]
 refine W2 (wpAny_setField e5 e6 (Qx.mp e7).1 ?_)
 have oth:∀ b,b≠T₀→(s.heap.update T₀ (Obj.mapFields (·.setIfInBounds 3 Value.none))).get? b=s.heap.get? b:=fun b n=>WX _ _ (Ne.symm n)
 have nrec:∀ b o,s.heap.get? b=some o→(∀ us,o.data≠.fields us)→b≠T₀:=fun b o e d z=>by
  rw [z,e5] at e
  cases e
  exact d ts e6
 refine z6O (s:={ s with heap:=s.heap.update T₀ (Obj.mapFields (·.setIfInBounds 3 Value.none)) }) hfr (hl.of_keeps fun b o e d=>⟨o,(oth b (nrec b o e d)).trans e,rfl⟩) hf ((oth a (Ne.symm e4)).trans e1) e2 (Qx.mp e3).1 fun h' T f n=>q h' T f ⟨?_,fun b o e n1 n2 n3=>?_,fun b o e d=>n.frame b o ((oth b (nrec b o e d)).trans e) d⟩
 ·have:=n.new
  by_cases z:T=T₀
  ·exfalso
   rw [z] at this
   have g:=Qu (h:=s.heap) (Obj.mapFields (·.setIfInBounds 3 Value.none)) e5 (Obj.isFreed_of_fields (Obj.data_mapFields e6 _))
   rw [this] at g
   cases g
  ·exact (oth T z).symm.trans this
 ·exact n.keep b o ((oth b fun z=>n2 (by rw [z])).trans e) n1 (by simp) n3
theorem z8o {env:Env} {L a C T:Addr} {dx:Option Addr} {Q:Unit→W1→Prop} (hf:env.frame=some L) (hx:Fly s.heap a C T dx (QL L)) (q:Q () s):W9 M A (Jc (.ref a) env) Q E s:=by
 obtain ⟨vs,sl,oT,ts,a0,e1,e2,e3,e4,e5,e6,e7⟩:=hx
 unfold Jc
 simp only [hf]
 refine W2 (QC e1 rfl e3 ?_)
 rw [if_pos (by simp)]
 refine W2 (QC e5 e6 e7 ?_)
 rw [if_pos (by simp)]
 exact Wc q
theorem z8x (hx:Fly s.heap a C T dx fl)
  (q:∀ h',Fly h' a C T dx (o.elim .none fun f=>QL f)→(∀ b,b≠T→h'.get? b=s.heap.get? b)→Q () { s with heap:=h' }):W9 M A (setFlight (.ref a) o) Q E s:=by
 obtain ⟨vs,sl,oT,ts,a0,e1,e2,e3,e4,e5,e6,e7⟩:=hx
 have hi:=(Qx.mp e7).1
 have oth:∀ b,b≠T→(s.heap.update T (Obj.mapFields (·.setIfInBounds 3 (o.elim Value.none fun f=>QL f)))).get? b=s.heap.get? b:=fun b n=>WX _ _ (Ne.symm n)
 unfold setFlight
 refine W2 (QC e1 rfl e3 ?_)
 rw [if_pos (by simp)]
 exact wpAny_setField e5 e6 hi (q _ ⟨vs,sl,_,_,a0,(oth a (Ne.symm e4)).trans e1,e2,e3,e4,Qu _ e5 (Obj.isFreed_of_fields (Obj.data_mapFields e6 _)),Obj.data_mapFields e6 _,by simp [hi]⟩ oth)
end
abbrev vErr:List Value:=[.type "ValueError",.type "Exception",.type "BaseException",.type "object"]
def ExcC (K:W0) (C:Addr):Prop:=PySem.W.excIn K C vErr "ValueError.__new__" = true
theorem ExcC.obj {K:W0} {C:Addr} {h:Heap} (q:ExcC K C) (X:K.In h):∃ (bm:List Value) (N:Addr) (nm qn:Str) (bs:List Value) (hdct:Bool) (sn:List Str) (sub:List Value) (ab:Bool) (col:Option Bool) (dd:Option Addr) (k0 k1 k2 k3 k5:Option Value) (mN:Str→Option Value),
  h.get? C=some (excClassObj nm qn C N bs bm hdct sn sub ab col dd k0 k1 k2 k3 k5 "ValueError.__new__")∧h.Ns N mN∧mN "__init__" = none∧OwnTail h vErr bm:=by
 unfold ExcC PySem.W.excIn at q
 split at q
 next dd cd sl lk =>
  split at q
  next C' bm k0 k1 k2 k3 n k5 e1 e2 =>
   simp only [Wn,beq_iff_eq,Jm] at q
   obtain ⟨⟨⟨⟨⟨c1,c2⟩,c3⟩,c4⟩,c5⟩,c6⟩:=q
   subst c1; subst c2
   have e3:sl = #[k0,k1,k2,k3,some (.builtin "ValueError.__new__"),k5]:=by
    cases sl; simp only at e2; rw [e2]
   subst e3
   cases cd
   simp only at e1 c3 c4 c5 c6 lk
   subst e1; subst c3
   exact ⟨bm,_,_,_,_,_,_,_,_,_,dd,k0,k1,k2,k3,k5,_,X _ _ lk,.of_isNs (PySem.W.isNs_of_in X c5),PySem.W.nsMap_none_of_in X c5 c6,PySem.W.tail_of_in X c4⟩
  next=>cases q
 next=>cases q
def CXe (P:Wd) (w:Wg):CXT:=fun outer H s E v s' =>
 ∃ (a C T:Addr) (dx:Option Addr) (H':Hp),v = .ref a∧s'.os=s.os∧AllBare s'.gens∧Un (frs outer) [] H H' s.heap s'.heap∧HOk P w H' s'.heap∧Fly s'.heap a C T dx .none∧s.heap.get? a=none∧s.heap.get? T=none∧H' a=none∧H' T=none∧E (.ref C) dx H'
section
variable {X:Cx} {x:Str} {C:Addr} {np cpos pos:Pos}
end
section
variable {X:Cx} {pins:List (Addr×Obj)} {σ:St} {H:Hp} {s:W1} {h':Heap}
theorem Inv.gone (I:Inv X pins σ H s) (hx:X.ex=[]) (e:s.heap.get? b=none):H b=none∧X.s₀.heap.get? b=none:=by
 constructor
 ·cases q:H b with
  | none=>rfl
  | some o =>
   exfalso
   have:∃ u,s.heap.get? b=some u:=by
    have z:=I.hok b o q
    clear q
    induction o with
    | lst xs=>obtain ⟨_,_,_,_,e⟩:=z; exact ⟨_,e⟩
    | tup xs=>obtain ⟨_,_,_,_,e⟩:=z; exact ⟨_,e⟩
    | dK kvs=>obtain ⟨_,_,_,_,_,_,_,e,_⟩:=z; exact ⟨_,e⟩
    | dT kvs=>obtain ⟨_,_,_,_,_,_,_,e,_⟩:=z; exact ⟨_,e⟩
    | set S n=>obtain ⟨_,_,_,_,e,_⟩:=z; exact ⟨_,e⟩
    | ins C dx fs=>obtain ⟨_,_,_,e,_⟩:=z; exact ⟨_,e⟩
    | own y=>exact z
    | xd fs=>obtain ⟨_,⟨_,_,_,e,_⟩,_⟩:=z; exact ⟨_,e⟩
    | rng lo hi=>obtain ⟨_,_,_,e⟩:=z; exact ⟨_,e⟩
    | frz ob u ih=>exact ⟨_,z.1⟩
    | tbl ps=>exact ⟨_,z⟩
    | ctab pos q=>obtain ⟨_,e,_⟩:=z; exact ⟨_,e⟩
    | met f y=>exact ⟨_,z⟩
    | ext φ=>exact z.2.1
   obtain ⟨u,q⟩:=this
   rw [e] at q; cases q
 ·cases q:X.s₀.heap.get? b with
  | none=>rfl
  | some o =>
   obtain ⟨o',q'⟩:=I.base.there b o q (by rw [hx]; simp)
   rw [e] at q'; cases q'
end
structure Apart (X:Cx) (pins:List (Addr×Obj)) (H:Hp) (b:Addr):Prop where
 old:X.s₀.heap.get? b=none
 free:H b=none
 loc:b≠X.env.locals
 cel:∀ x c,X.env.cells.lookup x=some c→c≠b
 pin:∀ p ∈ X.pn ++ pins,p.1≠b
section
variable {X:Cx} {pins:List (Addr×Obj)} {σ:St} {H:Hp} {s:W1} {h':Heap} {a T:Addr}
theorem Inv.neL (I:Inv X pins σ H s) (e:X.s₀.heap.get? b=some o):b≠X.env.locals:=WK (Wt (Wl e) I.ok.above)
theorem Inv.noted2 (I:Inv X pins σ H s) (ha:Apart X pins H a) (hT:Apart X pins H T) (k1:∀ b o,s.heap.get? b=some o→b ∉ frs X.stack→b≠a→b≠T→h'.get? b=some o)
  (k2:∀ b o,s.heap.get? b=some o→b ∈ frs X.stack→∃ sl,h'.get? b=some { o with slots:=sl }):Inv X pins σ H { s with heap:=h' }:=by
 have any:∀ b o,s.heap.get? b=some o→b≠a→b≠T→∃ sl,h'.get? b=some { o with slots:=sl }:=fun b o e n1 n2=>by
  by_cases hb:b ∈ frs X.stack
  ·exact k2 b o e hb
  ·exact ⟨o.slots,k1 b o e hb n1 n2⟩
 have ne:∀ b o,X.s₀.heap.get? b=some o→b≠a∧b≠T:=fun b o e=>⟨fun z=>(by rw [z,ha.old] at e; cases e),fun z=>(by rw [z,hT.old] at e; cases e)⟩
 have nst:∀ b,b≠X.env.locals→b ∉ X.fs→b ∉ frs X.stack:=fun b n1 n2 z=>(Wp.mp (I.stkSub b z)).elim n1 n2
 have cellK:∀ y c,X.env.cells.lookup y=some c→∀ v,s.heap.IsCell c v→h'.IsCell c v:=fun y c e v ⟨o,ho,hd⟩=>by
  obtain ⟨sl,q⟩:=any c o ho (ha.cel y c e) (hT.cel y c e)
  exact ⟨_,q,hd⟩
 refine ⟨I.ok,I.os,I.bare,⟨fun b o e n hb hx=>?_,fun b o e n hb hx=>?_,I.base.free,fun b o e hx=>?_,I.base.tups,I.base.frzs,I.base.tbls⟩,?_,fun y c e=>?_,I.free,I.freeC,fun p hp=>?_,fun b o e=>?_,I.len⟩
 ·exact k1 b o (I.base.keep b o e n hb hx) (nst b (I.neL e) hb) (ne b o e).1 (ne b o e).2
 ·obtain ⟨sl,q⟩:=I.base.slot b o e n hb hx
  obtain ⟨sl',q'⟩:=any b _ q (ne b o e).1 (ne b o e).2
  exact ⟨sl',q'⟩
 ·obtain ⟨o',q⟩:=I.base.there b o e hx
  obtain ⟨sl',q'⟩:=any b _ q (ne b o e).1 (ne b o e).2
  exact ⟨_,q'⟩
 ·obtain ⟨m,⟨o,es,ep,ho,hd,r⟩,hl⟩:=I.loc
  obtain ⟨sl,q⟩:=any _ o ho (fun z=>ha.loc z.symm) (fun z=>hT.loc z.symm)
  refine ⟨m,⟨_,es,ep,q,hd,r⟩,fun i y v e1 e2 e3=>?_⟩
  obtain ⟨u,ru,lk⟩:=hl i y v e1 e2 e3
  refine ⟨u,ru,lk.elim .inl fun ⟨k,c,e,z⟩=>.inr ⟨k,c,e,cellK y c e _ z⟩⟩
 ·obtain ⟨v,z⟩:=I.cell y c e
  exact ⟨v,cellK y c e v z⟩
 ·obtain ⟨e,n,nl,nf,d⟩:=I.pin p hp
  exact ⟨k1 p.1 p.2 e (nst _ nl nf) (ha.pin p hp) (hT.pin p hp),n,nl,nf,d⟩
 ·refine (I.hok b o e).stay (fun c u hc q=>k1 c u q (fun z=>?_) (fun z=>?_) (fun z=>?_)) (fun _ q=>q) (fun _ _ q=>q) fun _ _ _ q=>q
  ·have:=I.stkFree c z
   rcases hc with rfl | hc
   ·rw [e] at this; cases this
   ·rw [hc] at this; cases this
  ·subst z
   rcases hc with rfl | hc
   ·rw [ha.free] at e; cases e
   ·rw [ha.free] at hc; cases hc
  ·subst z
   rcases hc with rfl | hc
   ·rw [hT.free] at e; cases e
   ·rw [hT.free] at hc; cases hc
theorem Inv.track (I:Inv X pins σ H s) (ha:Apart X pins H a) (ob:ObjOk X.prog X.w (upd H a o) s.heap a o):Inv X pins σ (upd H a o) s:=by
 have ne:∀ {b:Addr} {u:HO},H b=some u→b≠a:=fun {b u} e z=>by rw [z,ha.free] at e; cases e
 have up:∀ {b:Addr} {u:HO},H b=some u→upd H a o b=some u:=fun {b u} e=>by rw [z0f (ne e)]; exact e
 have no:∀ {b:Addr},b≠a→H b=none→upd H a o b=none:=fun {b} n e=>by rw [z0f n]; exact e
 refine ⟨I.ok,I.os,I.bare,⟨I.base.keep,I.base.slot,fun b u e n hx=>no (fun z=>by rw [z,ha.old] at e; cases e) (I.base.free b u e n hx),I.base.there,fun b xs e=>up (I.base.tups b xs e),fun b u z e=>up (I.base.frzs b u z e),fun b ps e=>?_⟩,I.loc,I.cell,no (Ne.symm ha.loc) I.free,fun x c e=>no (ha.cel x c e) (I.freeC x c e),fun p hp=>?_,fun b u e=>?_,I.len⟩
 ·obtain ⟨m,q⟩:=I.base.tbls b ps e
  exact ⟨m,up q⟩
 ·obtain ⟨e,n,nl,nf,d⟩:=I.pin p hp
  exact ⟨e,no (ha.pin p hp) n,nl,nf,d⟩
 ·by_cases hb:b=a
  ·subst hb
   rw [z0l] at e
   cases e
   exact ob
  ·rw [z0f hb] at e
   exact (I.hok b u e).stay (fun _ _ _ q=>q) (fun c q=>up q) (fun c xs q=>up q) fun _ _ _ q=>up q
theorem z8b (I:Inv X pins σ H s) (hN:X.N.Nodup) (hi:X.N[i]? = some x) (hk:X.env.scope.names.lookup x=some .local)
  (h:∀ s',Inv X pins (σ.set i none) H s'→Q () s'):W9 M A (do bindName X.env x .none; unbindBehindTheSuite X.env x pos) Q E s:=by
 have hiσ:i < σ.length:=by rw [I.len]; exact (Wb.mp hi).1
 refine W2 (wpAny_bindName (z3n (v:=.non) (u:=.none) I hN hi (.inl hk) rfl (fun s1 I1 _=>?_) (.inr hk)))
 obtain ⟨m,hn,hl⟩:=id I1.loc
 obtain ⟨u,ru,lk⟩:=hl i x .non hi (Wq hiσ) (.inl hk)
 have hv:m x=some u:=by
  rcases lk with ⟨_,e⟩ | ⟨z,_⟩
  ·exact e
  ·have:X.env.kindOf x=some .local:=hk
   rw [this] at z
   rcases z with z | z <;> cases z
 refine wpAny_onRaise (wpAny_unbindName_local hk hn hv (by rw [I.ok.kind]; rfl) fun h' w' hn' hs=>h _ ?_)
 obtain ⟨oL,_,_,hoL,_⟩:=id hn
 have cne:=I1.cne
 refine ⟨I1.ok,I1.os,I1.bare,⟨fun b o e n hb hx=>?_,fun b o e n hb hx=>?_,I1.base.free,fun b o e hx=>?_,I1.base.tups,I1.base.frzs,I1.base.tbls⟩,⟨_,hn',fun j y v' e1 e2 e3=>?_⟩,fun y c e=>?_,I1.free,I1.freeC,fun p hp=>?_,fun b ob e=>?_,by simpa using I.len⟩
 ·exact (hs.2 b (I1.neL e)).trans (I1.base.keep b o e n hb hx)
 ·obtain ⟨sl,q⟩:=I1.base.slot b o e n hb hx
  exact ⟨sl,(hs.2 b (I1.neL e)).trans q⟩
 ·obtain ⟨o',q⟩:=I1.base.there b o e hx
  exact ⟨o',(hs.2 b (I1.neL e)).trans q⟩
 ·by_cases hj:j=i
  ·subst hj
   rw [Wq hiσ] at e2
   cases e2
  ·rw [W4 (Ne.symm hj)] at e2
   obtain ⟨u',r',q⟩:=hl j y v' e1 (by rw [W4 (Ne.symm hj)]; exact e2) e3
   have hyx:y≠x:=fun z=>hj (z5R hN e1 (z ▸ hi))
   refine ⟨u',r',?_⟩
   rcases q with ⟨k,e⟩ | ⟨k,c,e,z⟩
   ·exact .inl ⟨k,by simp [hyx,e]⟩
   ·exact .inr ⟨k,c,e,z.sameBut hs (cne y c e)⟩
 ·obtain ⟨w2,z⟩:=I1.cell y c e
  exact ⟨w2,z.sameBut hs (cne y c e)⟩
 ·obtain ⟨e,n,nl,nf,d⟩:=I1.pin p hp
  exact ⟨(hs.2 p.1 nl).trans e,n,nl,nf,d⟩
 ·refine (I1.hok b ob e).stay (fun c u' hc q=>(hs.2 c fun z=>?_).trans q) (fun _ q=>q) (fun _ _ q=>q) fun _ _ _ q=>q
  subst z
  have:=I1.free
  rcases hc with rfl | hc
  ·rw [e] at this; cases this
  ·rw [hc] at this; cases this
end
section
variable {prog:Wd} {w:Wg} {A:Wf} {E:Value→W1→Prop} {K:W0}
theorem zaa {C B e:Addr} {oe:Obj} {h:Heap} {g:Array GenState} {d:Drawn} {t:Nat} {os:OsState} {Q:Bool→W1→Prop} (X:K.In h) (qB:ExcC K B) (qm:PySem.W.mroIn K C (.ref B)=some true) (he:h.get? e=some oe) (hc:oe.cls = .ref C)
  (hq:Q true ⟨h,g,d,t,os⟩):W9 (model prog w) A (excMatches (.ref e) (.ref B)) Q E ⟨h,g,d,t,os⟩:=by
 obtain ⟨bm,N,nm,qn,bs,hdct,sn,sub,ab,col,dd,k0,k1,k2,k3,k5,mN,hB,_,_,hT⟩:=qB.obj X
 have cB:(Value.ref B :: bm).contains (.type "BaseException")=true:=by rw [Jf,hT.hasType (X:="BaseException") (b:=true) rfl,Bool.or_true]
 have lk:=PySem.W.looks_mroIn (M:=model prog w) X qm
 have f:=tc_notTuple
 unfold excMatches
 repeat (first | with_reducible refine PySem.W.Looks.at lk ?_ | (with_reducible refine WY he ?_; rw [hc]) | with_reducible refine WY hB ?_ | (with_reducible refine wpAny_isSubtype_exc hB ?_; rw [cB]) | wp_step)
 exact hq
end
def Cx.wt (X:Cx) (pn:List (Addr×Obj)) (xe:Value→W1→Prop):Cx:={ X with pn:=pn,xe:=xe }
def Cx.hand (X:Cx) (a:Addr):Cx:={ X with A:=X.A.mark (some (.ref a)),calm:=false,xe:=fun _ _=>False }
section
variable {X:Cx} {pins ps:List (Addr×Obj)} {σ:St} {H:Hp} {s:W1} {a:Addr} {xe:Value→W1→Prop} {pn:List (Addr×Obj)}
theorem Cx.Ok.wt (o:X.Ok):(X.wt pn xe).Ok:=⟨o.mod,o.kind,o.glob,o.blt,o.above,o.inj,o.has,o.cab,o.hd,o.frames,o.stk,o.exf,o.bs,o.bsz,o.noex,o.exfs,o.funs,o.frf⟩
theorem Cx.Ok.hand (o:X.Ok):(X.hand a).Ok:=⟨o.mod,o.kind,o.glob,o.blt,o.above,o.inj,o.has,o.cab,fun z=>(by cases z),o.frames,o.stk,o.exf,o.bs,o.bsz,o.noex,o.exfs,o.funs,o.frf⟩
theorem Inv.wt (I:Inv X pins σ H s):Inv (X.wt (X.pn ++ pins) xe) [] σ H s:=⟨I.ok.wt,I.os,I.bare,I.base,I.loc,I.cell,I.free,I.freeC,fun p hp=>I.pin p (by simpa [Cx.wt] using hp),I.hok,I.len⟩
theorem Inv.unwt (o:X.Ok) (J:Inv (X.wt (X.pn ++ pins) xe) ps σ H s):Inv X pins σ H s:=⟨o,J.os,J.bare,J.base,J.loc,J.cell,J.free,J.freeC,fun p hp=>J.pin p (QU _ hp),J.hok,J.len⟩
theorem Inv.hand (I:Inv X pins σ H s):Inv (X.hand a) pins σ H s:=⟨I.ok.hand,I.os,I.bare,I.base,I.loc,I.cell,I.free,I.freeC,I.pin,I.hok,I.len⟩
theorem Inv.unhand (o:X.Ok) (J:Inv (X.hand a) pins σ H s):Inv X pins σ H s:=⟨o,J.os,J.bare,J.base,J.loc,J.cell,J.free,J.freeC,J.pin,J.hok,J.len⟩
theorem Apart.unwt (h:Apart (X.wt (X.pn ++ pins) xe) ps H a):Apart X pins H a:=⟨h.old,h.free,h.loc,h.cel,fun p hp=>h.pin p (QU _ hp)⟩
theorem SP.unwt (o:X.Ok) (h:SP (X.wt (X.pn ++ pins) xe) ps D f s):SP X pins D f s:=by
 cases f with
 | next=>obtain ⟨σ',H',J,q⟩:=h; exact ⟨σ',H',Inv.unwt o J,q⟩
 | brk=>obtain ⟨σ',H',J,q⟩:=h; exact ⟨σ',H',Inv.unwt o J,q⟩
 | cont=>obtain ⟨σ',H',J,q⟩:=h; exact ⟨σ',H',Inv.unwt o J,q⟩
 | ret u=>obtain ⟨v,σ',H',J,r,q⟩:=h; exact ⟨v,σ',H',Inv.unwt o J,r,q⟩
def zaG (X:Cx) (pins:List (Addr×Obj)) (H:Hp) (s:W1) (a C:Addr) (dx:Option Addr):Prop:=∃ T fl,Fly s.heap a C T dx fl∧(fl = .none∨∃ L,X.env.frame=some L∧fl=QL L)∧Apart X pins H a∧Apart X pins H T
def zbJ (X:Cx) (ps:List (Addr×Obj)) (H:Hp) (s:W1) (a C:Addr) (dx:Option Addr):Prop:=(∃ vs sl a0,s.heap.get? a=some ⟨.ref C,dx,.fields vs,sl⟩∧vs[0]? = some a0∧vs[1]? = some .none)∧Apart X ps H a
theorem Inv.apart (I:Inv X pins σ H s) (hx:X.ex=[]) (e:s.heap.get? b=none) (f:H' b=none):Apart X pins H' b:=by
 refine ⟨(I.gone hx e).2,f,fun z=>?_,fun x c hc z=>?_,fun p hp z=>?_⟩
 ·obtain ⟨m,⟨o,_,_,ho,_⟩,_⟩:=I.loc
  rw [← z,e] at ho; cases ho
 ·obtain ⟨v,o,ho,_⟩:=I.cell x c hc
  rw [z,e] at ho; cases ho
 ·have:=(I.pin p hp).1
  rw [z,e] at this; cases this
section
variable {M:Model} {E:Value→W1→Prop} {C L:Addr} {dx:Option Addr} {Q:Unit→W1→Prop}
theorem Inv.noting (I:Inv X pins σ H s) (hst:X.stack=X.env :: X.outer) (hf:X.env.frame=some L) (hex:X.ex=[]) (hc:zaG X pins H s a C dx∨zbJ X pins H s a C dx)
  (q:∀ h' T,Inv X pins σ H { s with heap:=h' }→Fly h' a C T dx (QL L)→Apart X pins H a→Apart X pins H T→Q () { s with heap:=h' }):W9 M X.A (Jc (.ref a) X.env) Q E s:=by
 have hfr:X.A.frames=some (X.env :: X.outer):=by rw [← hst]; exact I.ok.frames
 have hl:s.heap.FunFrames X.base (X.env :: X.outer):=by rw [← hst]; exact I.stack
 have mem:∀ {b},b ∈ frs X.stack→∃ o,s.heap.get? b=some o∧∀ vs,o.data≠.fields vs:=fun {b} z=>let ⟨_,o,g1,g2⟩:=I.stack.mem z; ⟨o,g1,g2⟩
 rcases hc with ⟨T,fl,f,hfl,pa,pT⟩ | ⟨⟨vs,sl,a0,e1,e2,e3⟩,pa⟩
 ·rcases hfl with rfl | ⟨L',e,rfl⟩
  ·refine z9O hfr hl hf f fun h' T' f' n=>?_
   refine q h' T' (I.noted2 pa pT (fun b o z m n1 n2=>n.keep b o z n1 (fun w=>n2 (by cases w; rfl)) (by rw [← hst]; exact m)) fun b o z m=>?_) f' pa (I.apart hex n.new (I.gone hex n.new).1)
   obtain ⟨o',g1,g2⟩:=mem m
   rw [z] at g1; cases g1
   exact n.frame b o z g2
  ·rw [hf] at e; cases e
   exact z8o hf f (q s.heap T I f pa pT)
 ·refine z8n hfr hl hf e1 e2 e3 fun h' T' f' n=>?_
  refine q h' T' (I.noted2 pa pa (fun b o z m n1 n2=>n.keep b o z n1 (fun w=>by cases w) (by rw [← hst]; exact m)) fun b o z m=>?_) f' pa (I.apart hex n.new (I.gone hex n.new).1)
  obtain ⟨o',g1,g2⟩:=mem m
  rw [z] at g1; cases g1
  exact n.frame b o z g2
theorem Inv.flight {A:Wf} {o:Option Addr} {fl:Value} (I:Inv X pins σ H s) (f:Fly s.heap a C T dx fl) (pT:Apart X pins H T)
  (q:∀ h',Inv X pins σ H { s with heap:=h' }→Fly h' a C T dx (o.elim .none fun f=>QL f)→Q () { s with heap:=h' }):W9 M A (setFlight (.ref a) o) Q E s :=
 z8x f fun h' f' k=>q h' (I.noted2 pT pT (fun b u z _ n _=>(k b n).trans z) fun b u z _=>by
  by_cases n:b=T
  ·subst n
   obtain ⟨vs,sl,oT,ts,a0,e1,e2,e3,e4,e5,e6,e7⟩:=f
   have:=I.stkFree b ‹_›
   obtain ⟨_,o',g1,g2⟩:=I.stack.mem ‹b ∈ frs X.stack›
   rw [e5] at g1; cases g1
   exact absurd e6 (g2 ts)
  ·exact ⟨u.slots,(k b n).trans z⟩) f'
end
def Ends.hand (D:Ends) (i:Nat):Ends where
 nx:=fun σ H=>D.nx (σ.set i none) H
 rt:=D.rt
 bk:=fun σ H=>D.bk (σ.set i none) H
 ct:=fun σ H=>D.ct (σ.set i none) H
theorem z9n {body:List Stmt} {x n:Str} {b₀:Stmt} {suite:List Stmt} {np hpos pos:Pos} {B:Addr} {i:Nat} {tb:(Addr→Option Addr→St→Hp→Prop)→TS} {th:Addr→Addr→TS} (hex:X.ex=[]) (hst:X.stack=X.env :: X.outer) (hf:X.env.frame=some X.env.locals)
  (hN:X.N.Nodup) (hi:X.N[i]? = some n) (hl:X.env.scope.names.lookup n=some .local) (hg:Gl X x) (hm:X.mg x=some (.ref B)) (qB:ExcC X.K B) (hdb:(x == ("__debug__" : Str))=false)
  (hbody:∀ (W:Addr→Option Addr→St→Hp→Prop) (pn:List (Addr×Obj)) (xe:Value→W1→Prop),(∀ ps σ H s a C dx,Inv (X.wt pn xe) ps σ H s→zaG (X.wt pn xe) ps H s a C dx∨zbJ (X.wt pn xe) ps H s a C dx→W C dx σ H→xe (.ref a) s)→PSs (X.wt pn xe) body (tb W))
  (hhand:∀ C a,PSs (X.hand a) (b₀ :: suite) (th C a)) :
  PS X (.Try body [.ExceptHandler (some (.Name x np)) (some n) (b₀ :: suite) hpos] [] [] pos)
   (fun D σ H=>tb (fun C dx σ' H'=>PySem.W.mroIn X.K C (.ref B)=some true∧∃ v,(∀ x,v = .ref x→dx=some x)∧∀ a,H' a=none→th C a (D.hand i) (σ'.set i (some (.ref a))) (upd H' a (.ext (DV.excAt C v a)))) D σ H):=by
 intro pins s σ H D I hw
 refine wpAny_Try_except (WH (hbody _ (X.pn ++ pins) _ (fun ps σ1 H1 s1 a C dx J hc hW=>?_) [] s σ H D I.wt hw) (fun f s1 hs=>?_) fun e s1 he=>he)
 ·have J:Inv X pins σ1 H1 s1:=Inv.unwt I.ok J
  have hc:zaG X pins H1 s1 a C dx∨zbJ X pins H1 s1 a C dx:=by
   rcases hc with ⟨T,fl,f,hfl,pa,pT⟩ | ⟨y,pa⟩
   ·exact .inl ⟨T,fl,f,hfl,pa.unwt,pT.unwt⟩
   ·exact .inr ⟨y,pa.unwt⟩
  refine J.noting hst hf hex hc fun h2 T J2 f2 pa pT=>?_
  refine J2.flight f2 pT fun h3 I3 f3=>?_
  obtain ⟨vs3,sl3,_,_,_,u3,_⟩:=id f3
  obtain ⟨qm,v,hv,qh⟩:=hW
  refine wpAny_handleBy_cons (codeAny_handlers_test ?_) (by intro z; cases z)
  have I3h:Inv (X.hand a) pins σ1 H1 { s1 with heap:=h3 }:=I3.hand
  refine z39 (X:=X.hand a) I3h hg hm ?_ hdb
  refine zaa I3.kIn qB qm u3 rfl ?_
  refine codeAny_handlers_suite_as (I3.flight f3 pT fun h4 I4 f4=>?_)
  obtain ⟨vs4,sl4,_,_,_,u1,_⟩:=f4
  have I5:Inv X pins σ1 (upd H1 a (.ext (DV.excAt C v a))) { s1 with heap:=h4 }:=I4.track pa ⟨⟨_,u1,rfl,fun x z=>hv x z,vs4,rfl⟩,⟨_,u1⟩,fun h1 h2 ⟨o,e1,e2⟩ k=>⟨o,k o e1,e2⟩⟩
  refine z3n (v:=.ref a) (u:=.ref a) (X:=X.hand a) I5.hand hN hi (.inl hl) rfl (fun s6 I6 _=>?_) (.inr hl)
  refine WH (hhand C a pins s6 _ _ (D.hand i) I6 (qh a pa.free)) (fun f s7 hs=>?_) (fun e s7 he=>he.elim)
  have un:∀ {σ':St} {H':Hp} {Q:Flow→W1→Prop},Inv (X.hand a) pins σ' H' s7→(∀ s8,Inv X pins (σ'.set i none) H' s8→Q f s8)→W9 (model X.prog X.w) X.A (do bindName X.env n .none; unbindBehindTheSuite X.env n hpos) (fun _ s8=>Q f s8) X.xe s7 :=
   fun {σ' H' Q} J7 k=>z8b (Inv.unhand I.ok J7) hN hi hl fun s8 J8=>k s8 J8
  cases f with
  | next=>obtain ⟨σ',H',J7,q⟩:=hs; exact un J7 fun s8 J8=>⟨_,_,J8,q⟩
  | brk=>obtain ⟨σ',H',J7,q⟩:=hs; exact un J7 fun s8 J8=>⟨_,_,J8,q⟩
  | cont=>obtain ⟨σ',H',J7,q⟩:=hs; exact un J7 fun s8 J8=>⟨_,_,J8,q⟩
  | ret u=>obtain ⟨v,σ',H',J7,r,q⟩:=hs; exact un J7 fun s8 J8=>⟨v,_,_,J8,r,q⟩
 ·have hs:=SP.unwt I.ok hs
  cases f with
  | next=>exact J1 hs
  | brk=>exact hs
  | cont=>exact hs
  | ret u=>exact hs
end
def XOk (X:Cx) (W:Addr→Option Addr→St→Hp→Prop):Prop:=∀ ps σ H s a C dx,Inv X ps σ H s→zaG X ps H s a C dx∨zbJ X ps H s a C dx→W C dx σ H→X.xe (.ref a) s
section
variable {X:Cx} {pins:List (Addr×Obj)} {σ:St} {H:Hp} {s:W1} {b:Addr}
theorem Inv.afterX (I:Inv X pins σ H s) (hx:X.ex=[]) (h:CXe X.prog X.w X.stack H s E v s'):∃ a C dx H',v = .ref a∧Inv X pins σ H' s'∧zaG X pins H' s' a C dx∧E (.ref C) dx H':=by
 obtain ⟨a,C,T,dx,H',rfl,ho,hb,un,hok,fl,na,nT,fa,fT,q⟩:=h
 exact ⟨a,C,dx,H',rfl,I.call' (ch:=[]) ho un hok hb (fun b z=>absurd z (by simp)),⟨T,.none,fl,.inl rfl,I.apart hx na fa,I.apart hx nT fT⟩,q⟩
end
section
variable {X:Cx} {k:Nat} {f:Addr} {fd:Wx} {ps:List Str} {sp:Sp} {x:Str} {p pos:Pos} {e:Expr} {es:List Expr} {t:TA} {W:Addr→Option Addr→St→Hp→Prop}
theorem z5M (F:FnOk X.prog X.w X.K X.mg X.base (CXe X.prog X.w) k f fd ps sp) (hr:Room k X.A) (hex:X.ex=[]) (hg:Gl X x) (hm:X.mg x=some (.ref f)) (hk:WN X.K (.ref f)=true) (hb:Binds X.K fd ps []) (hx:XOk X W)
  (ha:PA X (e :: es) t) (hdb:(x == ("__debug__" : Str))=false:=by decide) (he:W3 (e :: es) X.env=(false,eval e X.env) :: W3 es X.env:=by rfl) (hpl:(WD pos (W3 es X.env)).any (·.1)=false:=by rfl) :
  PE X (.Call (.Name x p) (e :: es) [] pos) (fun σ H Q=>t σ H fun vs H1=>sp vs H1 Q (fun c dx H'=>∃ C,c = .ref C∧W C dx σ H')):=by
 intro pins s σ H Q I h
 refine Q1 (z39 I hg hm ?_ hdb)
 refine J9 (h₀:=X.base) I.ok.mod.kin hk (thn (ha pos pins s σ H _ I h) fun us s1 ⟨vs,H1,I1,r,q⟩=>⟨I1.kIn,?_⟩) he hpl
 have hl:(us ++ []).length=ps.length:=by rw [WJ,← r.length]; exact F.len _ _ _ _ q
 refine Ji (Qq (F.run X.A X.stack s1 H1 ⟨us,[]⟩ us vs Q _ hr I1.env0 (by have:=hb s1 us I1.kIn hl; rwa [WJ] at this) r q) fun r s' hq=>?_)
 cases r with
 | error e =>
  obtain ⟨a,C,dx,H',ea,I2,co,C',hC,hW⟩:=I1.afterX (E:=fun c dx H'=>∃ C,c = .ref C∧W C dx σ H') (v:=e) (s':=s') hex hq
  cases hC
  subst ea
  exact hx pins σ H' s' a C dx I2 (.inl co) hW
 | ok fl =>
  cases fl with
  | ret u=>exact I1.after hq
  | next=>exact False.elim hq
  | brk=>exact False.elim hq
  | cont=>exact False.elim hq
end
section
variable {P:Wd} {w:Wg} {K:W0} {mg:Str→Option Value} {base:Heap} {N:List Str} {qual:Str} {scope:Scope} {f:Addr} {cd:Value} {A:Wf} {outer:List Env} {s₀:W1} {H₀:Hp} {E:XK}
theorem z8J {W:Addr→Option Addr→St→Hp→Prop} (hW:∀ C dx σ H,W C dx σ H→E (.ref C) dx H):XOk (cxOf (CXe P w) P w K mg base N qual scope f cd A outer s₀ H₀ E) W:=fun ps σ H s a C dx I hc q=>by
 show W9 _ _ (leaving _ _) _ _ _
 unfold leaving
 refine W2 (I.noting rfl rfl rfl hc fun h2 T I2 f2 pa pT=>I2.flight f2 pT fun h3 I3 f3=>?_)
 exact ⟨a,C,T,dx,H,rfl,I3.os,I3.bare,I3.base,I3.hok,f3,pa.old,pT.old,pa.free,pT.free,hW C dx σ H q⟩
end
def Cx.loop (X:Cx):Cx:={ X with xe:=notedBy (model X.prog X.w) X.A X.env (cameBackBy (model X.prog X.w) X.A X.env X.xe) }
section
variable {X:Cx} {pins ps:List (Addr×Obj)} {σ:St} {H:Hp} {s:W1}
end
end L2
namespace DV
open PySem PySem.Spec PyProof.Rows L2
section
variable {c:Fc} {σ σ':St} {δ δ':Dl} {H H':Hp} {g:Xc→Dl→Prop}
theorem Ok.since (h0:c.H₀=H) (k:Ok c σ δ H) (hI:∀ a,c.I a→Own σ δ a) (k':Ok c σ' δ' H'):Aft c σ δ H σ' δ' H':=by
 refine ⟨k',fun a o e n=>k'.keep a o (by rw [h0]; exact e) fun z=>n (hI a z),fun a ⟨i,d,e1,e2⟩=>?_,fun a o e=>?_⟩
 ·obtain ⟨b,e3,_,q,_⟩:=k'.own i d e1
  rw [e2] at e3; cases e3
  rcases q with q | q
  ·exact .inl (hI a q)
  ·rw [h0] at q; exact .inr q
 ·by_cases z:c.I a
  ·exact k'.ith a z
  ·exact ⟨o,k'.keep a o (by rw [h0]; exact e) z⟩
end
def wD (mg:Str→Option Value) (c:Fc) (C:Addr) (dx:Option Addr) (σ:St) (H:Hp):Prop:=∃ (x:Xc) (δ:Dl) (v:V),mg (toS x.cls)=some (.ref C)∧Ok c σ δ H∧Rep H (Av c σ δ) v x.flds∧(∀ y,v = .ref y→dx=some y)∧c.xc x δ
abbrev DX:=List S→Option ((S×List S) ⊕ (Xc×List S))
def runX (f:DS) (n:Nat) (ss:List S):Option ((S×List S) ⊕ (Xc×List S)):=match f (z09 n ss) with
 | .ok fl δ=>(z0V fl).bind fun r=>(z0h 0 ss δ).map fun outs=>.inl (r,outs)
 | .exc x δ=>(z0h 0 ss δ).map fun outs=>.inr (x,outs)
 | .stuck=>none
def spX (mg:Str→Option Value) (n:Nat) (G:DX):Sp:=fun vs H Q E=>∃ ss B,vs.length=n∧Ok ⟨H,B,z0g 0 ss vs,fun _ _=>False⟩ (z0I vs) (z0P ss) H∧∃ y,G ss=some y∧match y with
 | .inl (r,outs)=>∀ v H',Aft ⟨H,B,z0g 0 ss vs,fun _ _=>False⟩ (z0I vs) (z0P ss) H (z0I vs) (z0P outs) H'→RepS ⟨H,B,z0g 0 ss vs,fun _ _=>False⟩ (z0I vs) (z0P outs) H H' v r→Q v H'
 | .inr (x,outs)=>∀ C dx v H',mg (toS x.cls)=some (.ref C)→Aft ⟨H,B,z0g 0 ss vs,fun _ _=>False⟩ (z0I vs) (z0P ss) H (z0I vs) (z0P outs) H'→Rep H' (Av ⟨H,B,z0g 0 ss vs,fun _ _=>False⟩ (z0I vs) (z0P outs)) v x.flds→(∀ y,v = .ref y→dx=some y)→E (.ref C) dx H'
def KFnX (P:Wd) (w:Wg) (K:W0) (mg:Str→Option Value) (base:Heap) (k:Nat) (x:Str) (n:Nat) (G:DX):Prop :=
 ∃ (f:Addr) (fd:Wx) (ps:List Str),mg x=some (.ref f)∧WN K (.ref f)=true∧Binds K fd ps []∧FnOk P w K mg base (CXe P w) k f fd ps (spX mg n G)
theorem z7R (h:(⟨H,B,z0g 0 ss vs,g⟩:Fc).I a):Own (z0I vs) (z0P ss) a:=by
 obtain ⟨i,hi⟩:=h
 obtain ⟨j,d,_,e1,e2⟩:=z0N hi
 exact ⟨j,d,someS_get.mpr e1,some'_get.mpr e2⟩
section
variable {P:Wd} {w:Wg} {K:W0} {mg:Str→Option Value} {base:Heap}
theorem RepS.unxc (h:RepS { c with xc:=g } σ δ Hs H v r):RepS c σ δ Hs H v r:=by
 cases r with
 | pure d=>exact h
 | own d =>
  obtain ⟨a,e,o,n,f,k,q⟩:=h
  exact ⟨a,e,o,n,f,⟨k.keep,k.bd,k.ith,k.len,k.slot,k.own,k.inj,k.pinned⟩,q⟩
theorem zfd {x qual:Str} {st:Stmt} {f:Addr} {fd:Wx} {N ps:List Str} {k:Nat} {np:List Nat} {fb:DS} {G:DX} (F:Fun K x qual st f fd) (S:FnScope N ps (z00 st))
  (hbody:∀ (c:Fc) (cdv:Value) (A:Wf) (outer:List Env) (s:W1) (H:Hp) (E:XK),Room k (A.deeper (Qb qual (z00 st) s.heap.objs.size f cdv))→Np c np →
   XOk (cxOf (CXe P w) P w K mg base N qual (z00 st) f cdv A outer s H E) (wD mg c)→SSs (cxOf (CXe P w) P w K mg base N qual (z00 st) f cdv A outer s H E) c (z0q st) fb)
  (hG:∀ ss y,G ss=some y→ioOk np 0 ss=true∧runX fb N.length ss=some y):FnOk P w K mg base (CXe P w) (k + 1) f fd ps (spX mg ps.length G):=by
 obtain ⟨oc,od,kV,doc,pm,an,cdv,ct,osl,rfl,lk,hcd⟩:=F.ex
 refine zbu lk hcd S (fun vs H Q E h=>?_) fun A outer s H vs Q E hr h=>?_
 ·obtain ⟨ss,B,hl,_⟩:=h
  exact hl
 ·obtain ⟨ss,B,hl,ok,y,hg,q⟩:=h
  obtain ⟨hio,hrun⟩:=hG ss _ hg
  have hvs:ss.length=vs.length:=by have:=ok.len; simpa using this
  let g:Xc→Dl→Prop:=fun x δ'=>∃ outs,z0h 0 ss δ'=some outs∧y = .inr (x,outs)
  have np':Np ⟨H,B,z0g 0 ss vs,g⟩ np:=fun p hp=>by
   obtain ⟨j,d,e,h1,_⟩:=z0N (i:=p.1) (a:=p.2) hp
   rw [e]
   exact z40 hio h1
  have hst:start N vs=z0I vs ++ W8 (N.length - ss.length) none:=by rw [hvs]; rfl
  have ok0:Ok ⟨H,B,z0g 0 ss vs,fun _ _=>False⟩ (start N vs) (z09 N.length ss) H:=by rw [hst]; exact ok.ext _
  have wish:∀ C dx σ' H',wD mg ⟨H,B,z0g 0 ss vs,g⟩ C dx σ' H'→E (.ref C) dx H':=fun C dx σ' H' ⟨z,δ',v,hm,k',rv,hv,outs,ho,hy⟩=>by
   rw [hy] at q
   have k1:Ok ⟨H,B,z0g 0 ss vs,fun _ _=>False⟩ σ' δ' H':=⟨k'.keep,k'.bd,k'.ith,k'.len,k'.slot,k'.own,k'.inj,k'.pinned⟩
   have a:Aft ⟨H,B,z0g 0 ss vs,fun _ _=>False⟩ (z0I vs ++ W8 (N.length - ss.length) none) (z0P ss ++ W8 (N.length - ss.length) none) H σ' δ' H' :=
    Ok.since rfl (by rw [hst] at ok0; exact ok0) (fun a z=>Own.ext.mpr (z7R z)) k1
   exact q C dx v H' hm (z2T rfl ok a ho).1 ((z2T rfl ok a ho).2 v (.pure z.flds) rv) hv
  refine ⟨tDS ⟨H,B,z0g 0 ss vs,g⟩ fb,hbody ⟨H,B,z0g 0 ss vs,g⟩ cdv A outer s H E hr np' (z8J wish),z09 N.length ss,⟨ok0.keep,ok0.bd,ok0.ith,ok0.len,ok0.slot,ok0.own,ok0.inj,ok0.pinned⟩,?_⟩
  unfold runX at hrun
  unfold z1x
  cases e:fb (z09 N.length ss) with
  | stuck=>rw [e] at hrun; cases hrun
  | exc x δx =>
   rw [e] at hrun
   simp only at hrun
   cases eo:z0h 0 ss δx with
   | none=>rw [eo] at hrun; cases hrun
   | some os =>
    rw [eo] at hrun
    cases hrun
    exact ⟨os,eo,rfl⟩
  | ok fl δ' =>
   rw [e] at hrun
   show ∀ σ' H',Aft _ (start N vs) (z09 N.length ss) H σ' δ' H'→fin _ _ σ' δ' H' fl
   intro σ' H' a
   rw [hst] at a
   have k1:=a.ok
   have a1:Aft ⟨H,B,z0g 0 ss vs,fun _ _=>False⟩ (z0I vs ++ W8 (N.length - ss.length) none) (z09 N.length ss) H σ' δ' H':=⟨⟨k1.keep,k1.bd,k1.ith,k1.len,k1.slot,k1.own,k1.inj,k1.pinned⟩,a.keep,a.own,a.there⟩
   simp only at hrun
   cases fl with
   | brk=>cases hrun
   | cont=>cases hrun
   | next =>
    simp only [z0V,Ww] at hrun
    cases eo:z0h 0 ss δ' with
    | none=>rw [eo] at hrun; cases hrun
    | some os =>
     rw [eo] at hrun
     cases hrun
     obtain ⟨l1,l2⟩:=z2T rfl ok a1 eo
     exact q .non H' l1 .non
   | ret r' =>
    simp only [z0V,Ww] at hrun
    cases eo:z0h 0 ss δ' with
    | none=>rw [eo] at hrun; cases hrun
    | some os =>
     rw [eo] at hrun
     cases hrun
     obtain ⟨l1,l2⟩:=z2T rfl ok a1 eo
     exact fun v rv=>q v H' l1 (l2 v _ (RepS.unxc (c:=⟨H,B,z0g 0 ss vs,fun _ _=>False⟩) (g:=g) rv))
theorem zdm {x qual:Str} {st:Stmt} {f:Addr} {fd:Wx} {N ps:List Str} {k:Nat} {np:List Nat} {fb:DS} {G:DX} (F:Fun K x qual st f fd) (hm:mg x=some (.ref f)) (hb:Binds K fd ps []) (S:FnScope N ps (z00 st))
  (hbody:∀ (c:Fc) (cdv:Value) (A:Wf) (outer:List Env) (s:W1) (H:Hp) (E:XK),Room k (A.deeper (Qb qual (z00 st) s.heap.objs.size f cdv))→Np c np →
   XOk (cxOf (CXe P w) P w K mg base N qual (z00 st) f cdv A outer s H E) (wD mg c)→SSs (cxOf (CXe P w) P w K mg base N qual (z00 st) f cdv A outer s H E) c (z0q st) fb)
  (hG:∀ ss y,G ss=some y→ioOk np 0 ss=true∧runX fb N.length ss=some y):KFnX P w K mg base (k + 1) x ps.length G:=⟨f,fd,ps,hm,F.kp,hb,zfd F S hbody hG⟩
end
def zcX:(S×List S) ⊕ (Xc×List S)→List S
 | .inl y=>y.2
 | .inr y=>y.2
def z31 (G:DX):Prop:=∀ ss y,G ss=some y→∀ (j:Nat),(∀ d,ss[j]? = some (.own d)→∃ d',(zcX y)[j]? = some (.own d'))∧∀ d,ss[j]? = some (.pure d)→∃ d',(zcX y)[j]? = some (.pure d')
theorem z9B {ss os:List S} {δ:Dl} (e:z0h 0 ss δ=some os) (j:Nat):(∀ d,ss[j]? = some (.own d)→∃ d',os[j]? = some (.own d'))∧∀ d,ss[j]? = some (.pure d)→∃ d',os[j]? = some (.pure d'):=by
 obtain ⟨h1,h2⟩:=z4w e
 refine ⟨fun d ed=>?_,fun d ed=>?_⟩
 ·rcases h2 j _ ed with ⟨d',z,_⟩ | ⟨d',d'',_,_,z⟩
  ·cases z
  ·exact ⟨d'',z⟩
 ·rcases h2 j _ ed with ⟨d',z,z'⟩ | ⟨d',d'',z,_⟩
  ·exact ⟨d',z'⟩
  ·cases z
theorem z9a (h:runX fb n ss=some y):∃ δ,z0h 0 ss δ=some (zcX y):=by
 unfold runX at h
 cases e:fb (z09 n ss) with
 | stuck=>rw [e] at h; cases h
 | exc x δ =>
  rw [e] at h
  simp only at h
  cases e2:z0h 0 ss δ with
  | none=>rw [e2] at h; cases h
  | some os=>rw [e2] at h; cases h; exact ⟨δ,e2⟩
 | ok fl δ =>
  rw [e] at h
  simp only at h
  cases e1:z0V fl with
  | none=>rw [e1] at h; cases h
  | some r =>
   rw [e1] at h
   simp only [Ww] at h
   cases e2:z0h 0 ss δ with
   | none=>rw [e2] at h; cases h
   | some os=>rw [e2] at h; cases h; exact ⟨δ,e2⟩
def gOfX (np:List Nat) (n:Nat) (b:DS):DX:=fun ss=>if ioOk np 0 ss then runX b n ss else none
theorem z3I (h:gOfX np n b ss=some y):ioOk np 0 ss=true∧runX b n ss=some y:=by
 unfold gOfX at h
 split at h
 ·exact ⟨by assumption,h⟩
 ·cases h
theorem z2P {np:List Nat} {n:Nat} {b:DS}:z31 (gOfX np n b):=fun ss y h j=>by
 obtain ⟨δ,e⟩:=z9a (z3I h).2
 exact z9B e j
def z14 (G:DX) (as:List Ak):DE:=fun δ=>if (ios as).all (z0Y δ) && ndup (ios as) then (evX as δ).bind fun ds δ1=>match mkA as ds δ1 with
  | none=>.stuck
  | some ss=>match G ss with
   | none=>.stuck
   | some (.inl (r,outs))=>.ok r (putA as outs δ1)
   | some (.inr (x,outs))=>.exc x (putA as outs δ1)
 else .stuck
section
variable {X:Cx} {c:Fc} {e:Expr} {es:List Expr} {as:List Ak} {k n:Nat} {x:Str} {G:DX} {pp pos:Pos}
theorem z5w (hK:z31 G) (hl:as.length=n) (h:tD c (z14 G as) σ H Q):tX c as σ H fun vs H1=>spX X.mg n G vs H1 Q (fun c' dx H'=>∃ C,c' = .ref C∧wD X.mg c C dx σ H'):=by
 obtain ⟨δ,kk,q⟩:=h
 unfold z14 at q
 split at q
 ·rename_i hc
  rw [Wn] at hc
  have nd:=z2N hc.2
  rw [z02] at q
  refine ⟨δ,kk,fun i hi=>?_,z01 q fun ds δ1 q1 vs H1 a1 r1=>?_⟩
  ·have:=Q6.mp hc.1 i (ios_mem.mpr hi)
   unfold z0Y at this
   split at this
   ·rename_i d ed
    exact z1J kk ed
   ·cases this
  ·cases em:mkA as ds δ1 with
   | none=>rw [em] at q1; exact q1.elim
   | some ss =>
    rw [em] at q1
    simp only at q1
    cases eg:G ss with
    | none=>rw [eg] at q1; exact q1.elim
    | some y =>
     rw [eg] at q1
     have hin:=z7w a1.ok r1 em nd
     obtain ⟨m1,m2,_⟩:=z6y r1 em
     have g2:=hK ss y eg
     refine ⟨ss,_,by rw [← m2]; exact hl,hin,y,eg,?_⟩
     cases y with
     | inl y =>
      obtain ⟨r,outs⟩:=y
      intro v H2 a2 r2
      obtain ⟨o1,o2⟩:=z4o a1.ok r1 em nd rfl a2 (fun j d ed=>(g2 j).1 d ed) fun j d ed=>(g2 j).2 d ed
      exact q1 v H2 (a1.trans o1) (RepS.back (o2 v r r2) a1)
     | inr y =>
      obtain ⟨z,outs⟩:=y
      intro C dx v H2 hm a2 rv hv
      obtain ⟨o1,o2⟩:=z4o a1.ok r1 em nd rfl a2 (fun j d ed=>(g2 j).1 d ed) fun j d ed=>(g2 j).2 d ed
      exact ⟨C,rfl,z,putA as outs δ1,v,hm,o1.ok,o2 v (.pure z.flds) rv,hv,q1⟩
 ·exact q.elim
theorem zaT (F:KFnX X.prog X.w X.K X.mg X.base k x n G) (hK:z31 G) (hr:Room k X.A) (hex:X.ex=[]) (hx:XOk X (wD X.mg c)) (hg:Gl X x) (ha:SX X c (e :: es) as) (hl:as.length=n) (hdb:(x == ("__debug__" : Str))=false:=by decide)
  (he:W3 (e :: es) X.env=(false,eval e X.env) :: W3 es X.env:=by rfl) (hpl:(WD pos (W3 es X.env)).any (·.1)=false:=by rfl):SE X c (.Call (.Name x pp) (e :: es) [] pos) (z14 G as):=by
 obtain ⟨f,fd,ps,hm,hk,hb,ok⟩:=F
 exact PE.weak (z5M ok hr hex hg hm hk hb hx ha hdb he hpl) fun σ H Q h=>z5w hK hl h
end
def zbh (δ:Dl):Bool:=δ.all fun
 | some (.own _)=>false
 | _=>true
def unset (i:Nat):Rs Fl→Rs Fl
 | .ok fl δ=>.ok fl (δ.set i none)
 | r=>r
def dTry (ce:Tx→Nat) (ys:List Tx) (i:Nat) (fb fh:DS):DS:=fun δ=>if zbh δ then match fb δ with
  | .exc x δ'=>if ys.contains x.cls && decide (i < δ'.length) then unset i (fh (δ'.set i (some (.pure (.exc (ce x.cls) x.flds))))) else .stuck
  | r=>r
 else .stuck
section
variable {c:Fc} {σ σ':St} {δ δ':Dl} {H H':Hp}
theorem zeQ (h:Np c []):c.pin=[]:=by
 cases e:c.pin with
 | nil=>rfl
 | cons p r =>
  have:=h p (by rw [e]; exact Wm)
  simp at this
theorem Aft.unset (x:Aft c σ₀ δ₀ H₀ σ δ H) (hp:c.pin=[]) (i:Nat):Aft c σ₀ δ₀ H₀ (σ.set i none) (δ.set i none) H:=by
 have k:=x.ok
 have back:∀ {α:Type} {l:List (Option α)} {j:Nat} {v:α},(l.set i none)[j]? = some (some v)→l[j]? = some (some v)∧i≠j:=fun {α l j v} e=>by
  by_cases hj:i=j
  ·subst hj
   rw [WL] at e
   simp at e
  ·rw [W4 hj] at e
   exact ⟨e,hj⟩
 have own:∀ a,Own (σ.set i none) (δ.set i none) a→Own σ δ a:=fun a ⟨j,d,e1,e2⟩=>⟨j,d,(back e1).1,(back e2).1⟩
 have av:∀ a,Av c (σ.set i none) (δ.set i none) a→Av c σ δ a:=fun a z=>z.elim .inl fun z=>.inr (own a z)
 refine ⟨⟨k.keep,k.bd,k.ith,by simp [k.len],fun j d e=>?_,fun j d e=>?_,fun j1 j2 a d d' e1 e2 e3 e4=>k.inj j1 j2 a d d' (back e1).1 (back e2).1 (back e3).1 (back e4).1,fun p hm=>by rw [hp] at hm; simp at hm⟩,x.keep,fun a z=>x.own a (own a z),x.there⟩
 ·obtain ⟨e',n⟩:=back e
  obtain ⟨v,e1,r⟩:=k.slot j d e'
  exact ⟨v,by rw [W4 n]; exact e1,r.anti fun a z=>.inl (av a z)⟩
 ·obtain ⟨e',n⟩:=back e
  obtain ⟨a,e1,r,q⟩:=k.own j d e'
  exact ⟨a,by rw [W4 n]; exact e1,r.anti fun a z=>.inl (av a z),q⟩
end
section
variable {c:Fc} {σ σ':St} {δ δ':Dl} {H H':Hp} {B':Addr→Prop} {g:Xc→Dl→Prop}
theorem Ok.inTry (k:Ok c σ δ H) (h:zbh δ=true):Ok ⟨H,c.B,[],g⟩ σ δ H :=
 ⟨fun _ _ e _=>e,k.bd,fun a ⟨i,z⟩=>(by simp at z),k.len,k.slot,fun i d e=>((by have:=Q6.mp h _ (WC e); cases this)),k.inj,fun p z=>(by simp at z)⟩
theorem Ok.outTry (k:Ok c σ δ H) (hp:c.pin=[]) (k':Ok ⟨H,B',[],g⟩ σ' δ' H'):Ok { c with B:=B' } σ' δ' H':=by
 have nI:∀ a,¬ c.I a:=fun a ⟨i,z⟩=>by rw [hp] at z; simp at z
 have nI':∀ a,¬ (⟨H,B',[],g⟩:Fc).I a:=fun a ⟨i,z⟩=>by simp at z
 refine ⟨fun a o e n=>k'.keep a o (k.keep a o e n) (nI' a),k'.bd,fun a z=>absurd z (nI a),k'.len,k'.slot,fun i d e=>?_,k'.inj,fun p z=>by rw [show ({ c with B:=B' }:Fc).pin=c.pin from rfl,hp] at z; simp at z⟩
 obtain ⟨a,e1,r,q,nb⟩:=k'.own i d e
 refine ⟨a,e1,r,.inr ?_,nb⟩
 rcases q with q | q
 ·exact absurd q (nI' a)
 ·exact k.fresh₀ q
theorem Aft.outTry (k:Ok c σ δ H) (hp:c.pin=[]) (x:Aft ⟨H,c.B,[],g⟩ σ δ H σ' δ' H'):Aft c σ δ H σ' δ' H':=⟨k.outTry hp x.ok,x.keep,x.own,x.there⟩
theorem RepS.outTry (k:Ok c σ δ H) (hp:c.pin=[]) (h:RepS ⟨H,c.B,[],g⟩ σ' δ' H H' v r):RepS c σ' δ' c.H₀ H' v r:=by
 cases r with
 | pure d=>exact h
 | own d =>
  obtain ⟨a,e,o,n,f,k',q⟩:=h
  exact ⟨a,e,o,n,k.fresh₀ f,k.outTry hp k',k.fresh₀ f⟩
theorem RepS.unset (hp:c.pin=[]) (i:Nat) (h:RepS c σ δ Hs H v r):RepS c (σ.set i none) (δ.set i none) Hs H v r:=by
 have own:∀ a,Own (σ.set i none) (δ.set i none) a→Own σ δ a:=fun a ⟨j,d,e1,e2⟩=>by
  have back:∀ {α:Type} {l:List (Option α)} {v:α},(l.set i none)[j]? = some (some v)→l[j]? = some (some v):=fun {α l v} e=>by
   by_cases hj:i=j
   ·subst hj; rw [WL] at e; simp at e
   ·rw [W4 hj] at e; exact e
  exact ⟨j,d,back e1,back e2⟩
 cases r with
 | pure d=>exact Rep.anti h fun a z=>.inl (z.elim .inl fun z=>.inr (own a z))
 | own d =>
  obtain ⟨a,e,o,n,f,k,q⟩:=h
  exact ⟨a,e,o.anti fun b z=>.inl (z.elim .inl fun z=>.inr (own b z)),n,f,(Aft.unset (Aft.refl k) hp i).ok,q⟩
end
end DV
namespace L2
open PySem PySem.Spec PyProof.Rows PySem.W Builtin Builtin.ObjectAttr Builtin.Getset_descriptor
section
variable {prog:Wd} {w:Wg} {A:Wf} {E:Value→W1→Prop} {K:W0} {C e:Addr} {oe:Obj} {h:Heap} {g:Array GenState} {d:Drawn} {t:Nat} {os:OsState}
structure ExcK (K:W0) (C:Addr):Prop where
 ga:QZ K (.ref C) "__getattribute__" = some (some (.builtin "BaseException.__getattribute__"))
 gt:QZ K (.ref C) "__getattr__" = some none
 cl:QZ K (.ref C) "__class__" = some (some (.builtin "object.__class__"))
 sp:specialIn K (.builtin "object.__class__") "__get__" = some (some (.builtin "getset_descriptor.__get__"))
 tk:takesIn K (.builtin "object.__class__")=some true
 mo:mroIn K C (.type "object")=some true
 mb:mroIn K C (.type "BaseException")=some true
theorem zdp (X:K.In h) (k:ExcK K C) (he:h.get? e=some oe) (hc:oe.cls = .ref C) (q:R (.ok (.ret (.ref C))) ⟨h,g,d,t,os⟩) :
  Qf (model prog w) A (.call (.builtin "getset_descriptor.__get__") ⟨[.builtin "object.__class__",.ref e,tp],[]⟩) R ⟨h,g,d,t,os⟩:=by
 have l1:Looks (model prog w) h (typeOf (.ref e)) (.ref C):=hc ▸ (Looks.ld he).andThen .now
 have l2:=looks_mroIn (M:=model prog w) X k.mo
 refine QX
  KF.slot_gs.plain KF.entry_gs
  (KF.slot_gs.check _ _ _ _ _ _ _ _
   KF.type_class (KF.args_gs _ _ _) ?_)
 unfold Builtin.«getset_descriptor.__get__» descrGet; rw [dga_obj]
 refine W2 (Wc ?_)
 unfold descrGetter descrCheckInstance descrNameAndClass isInstance; simp only [KF.owner_class]
 repeat lk
 refine ⟨Code.quiet_builtin _ (by decide +kernel),
  codeAny_builtin KF.entry_class ?_⟩
 unfold Builtin.«object.__class__» shownTypeOf; repeat lk
 exact q
theorem zab (X:K.In h) (k:ExcK K C) (he:h.get? e=some oe) (hc:oe.cls = .ref C) (q:Q (.done (.ret (.ref C))) ⟨h,g,d,t,os⟩) :
  W9 (model prog w) A (Builtin.«object.__getattribute__» ⟨[.ref e,.str "__class__" tk],[]⟩) Q E ⟨h,g,d,t,os⟩:=by
 have l0:Looks (model prog w) h (typeOf (.ref e)) (.ref C):=hc ▸ (Looks.ld he).andThen .now
 have l1:=Jg (M:=model prog w) X k.cl
 have l2:=KF.type_class
 have l3:=F.slot_gs_get.lookup
 have l4:=F.slot_gs_set.lookup
 repeat (any_goals (first | assumption | with_reducible refine Looks.at l0 ?_ | with_reducible refine Looks.at l1 ?_ | (with_reducible refine WY he ?_; rw [hc]) | wp_step))
 refine zdp X k he hc ?_
 repeat (any_goals (first | assumption | wp_step))
theorem z6L (X:K.In h) (k:ExcK K C) (he:h.get? e=some oe) (hc:oe.cls = .ref C) (q:Q () ⟨h,g,d,t,os⟩) :
  W9 (model prog w) A (checkBuiltinCall "BaseException.__getattribute__" ⟨[.ref e,nv],[]⟩) Q E ⟨h,g,d,t,os⟩:=by
 have l0:Looks (model prog w) h (typeOf (.ref e)) (.ref C):=hc ▸ (Looks.ld he).andThen .now
 have l1:=looks_mroIn (M:=model prog w) X k.mb
 have b1:builtinKind "BaseException.__getattribute__" = some .slot:=by decide +kernel
 have b2:splitId "BaseException.__getattribute__" = some ("BaseException","__getattribute__"):=by decide +kernel
 have b3:=F.args_bexc_ga (.ref e) nv
 simp only [checkBuiltinCall,b1,b2]
 refine W2 ?_
 unfold isInstance
 repeat (first | with_reducible refine Looks.at l0 ?_ | with_reducible refine Looks.at l1 ?_ | (with_reducible refine WY he ?_; rw [hc]) | wp_step)
 exact q
theorem zac (X:K.In h) (k:ExcK K C) (he:h.get? e=some oe) (hc:oe.cls = .ref C) (q:Q (some (.ref C)) ⟨h,g,d,t + 1,os⟩):W9 (model prog w) A (getAttr? (.ref e) "__class__") Q E ⟨h,g,d,t,os⟩:=by
 have L0:Looks (model prog w) h (typeOf (.ref e)) (.ref C):=hc ▸ (Looks.ld he).andThen .now
 have L1:=Jg (M:=model prog w) X k.ga
 have L2:=Jg (M:=model prog w) X k.gt
 have L3:=looks_mroIn (M:=model prog w) X k.mb
 have hx0:(false && onTheHeap (Value.builtin "BaseException.__getattribute__"))=false:=rfl
 have hx2:(Value.builtin "BaseException.__getattribute__" == Value.builtin "object.__getattribute__")=false:=by decide +kernel
 have f3:=F.attrBase_ValueError.ga.bind (.ref e)
 unfold getAttr? getAttrBy? getAttrBy
 refine W2 (wpAny_mkText (W2 (wpAny_attempt (Q8 (W2 (L0.at (W2 (L1.at ?_))))))))
 dsimp only
 rw [hx2,Bool.and_false]
 simp only [Bool.false_eq_true,if_false]
 unfold getAttrByItsOwn hookBefore
 repeat (any_goals (first | assumption | with_reducible refine Looks.at L2 ?_ | wp_step))
 refine QX F.attrBase_ValueError.ga.plain F.entry_bexc_ga (z6L X k he hc (zab X k he hc ?_))
 repeat (any_goals (first | assumption | wp_step))
theorem zbn {v:V} (k:ExcK K C) (hk:(clsIn K C).isSome=true):KitX K (.ref e) (.ref C) (DV.excAt C v e) where
 ty:=fun M h X ⟨o,h1,h2,_⟩=>h2 ▸ (Looks.ld h1).andThen .now
 it:=fun M h X _=>by
  obtain ⟨cd,hcd⟩:=QD.mp hk
  unfold clsIn at hcd
  split at hcd
  next c' d' cd' sl' ho=>exact fun A' Q' E' s' kk q=>by unfold isType loadHead; exact W2 (wpAny_loadPart (kk _ _ (X _ _ ho)) (Wc q))
  next=>cases hcd
 ne:=fun h tp dd its n sl X htp=>by
  obtain ⟨cd,hcd⟩:=QD.mp hk
  refine Bool.eq_false_iff.mpr fun q=>?_
  obtain rfl:C=tp:=Value.ref.inj (beq_iff_eq.mp q)
  unfold clsIn at hcd
  split at hcd
  next c' d' cd' sl' ho=>have z:=(X _ _ ho).symm.trans htp; cases z
  next=>cases hcd
 ca:=fun {prog w A E Q s} X ⟨o,h1,h2,_⟩ q=>by
  obtain ⟨hh,gg,dd,tt,oo⟩:=s
  exact zac X k h1 h2 q
end
section
variable {X:Cx} {y:Str} {D:Addr} {pos:Pos}
theorem zeG (hg:Gl X y) (hm:X.mg y=some (.ref D)) (hd:(y == ("__debug__" : Str))=false:=by decide):PE X (.Name y pos) (fun σ H Q=>Q (.ref D) H):=fun pins s σ H Q I h=>z39 I hg hm ⟨.ref D,H,I,rfl,h⟩ hd
structure IsT (K:W0) (ce:DV.Tx→Nat) (ys:List DV.Tx) (cv:Value) (tab:DV.Tx→Bool):Prop where
 k:∀ z ∈ ys,ExcK K (ce z)
 c:∀ z ∈ ys,(PySem.W.clsIn K (ce z)).isSome=true
 one:∀ z ∈ ys,Qh K (.ref (ce z)) cv=some (tab z)
theorem z89 (hcv:∀ u,RelV cV u→u=cv) (T:IsT X.K ce ys cv tab) :
  CallR X (.builtin "isinstance") (fun xs H Q=>∃ (a:Addr) (z:DV.Tx) (v:V),xs=[.ref a,cV]∧H a=some (.ext (DV.excAt (ce z) v a))∧z ∈ ys∧Q (.bl (tab z)) H):=by
 intro pins s σ H xs us Q I r h
 obtain ⟨a,z,v,rfl,ha,hz,q⟩:=h
 obtain ⟨u,w',rfl,r1,r2⟩:=zaJ r
 cases r1
 have e:=hcv _ r2
 subst e
 obtain ⟨p,_,_⟩:=I.hok a _ ha
 exact WQ (zbn (T.k z hz) (T.c z hz)) I.kIn p (T.one z hz) (fun z=>nomatch z) fun tk=>⟨.bl (tab z),H,I.tok tk,rfl,q⟩
end
structure RoomH (k:Nat) (A:Wf):Prop where
 dp:A.depth + 3 * k + 5 < recursionLimit
 un:A.units + 16 * k + 200 < Qa
theorem RoomH.deeper (r:RoomH (k + 1) A) (env:Env):RoomH k (A.deeper env) :=
 ⟨by have:=r.dp; show A.depth + 1 + 3 * k + 5 < _; omega,by have:=r.un; show A.units + 3 + 16 * k + 200 < _; omega⟩
theorem Room.h (r:Room k A):RoomH k A:=⟨r.dp,r.un⟩
theorem RoomH.mono (r:RoomH k A) (h:j≤k):RoomH j A:=⟨by have:=r.dp; omega,by have:=r.un; omega⟩
theorem RoomH.mark (r:RoomH k A) (v:Option Value):RoomH k (A.mark v):=⟨r.dp,r.un⟩
def Cx.cold (X:Cx):Cx:={ X with calm:=false,xe:=fun _ _=>False }
structure FnOkH (P:Wd) (w:Wg) (K:W0) (mg:Str→Option Value) (base:Heap) (k:Nat) (f:Addr) (fd:Wx) (ps:List Str) (sp:Sp):Prop where
 len:∀ vs H Q E,sp vs H Q E→vs.length=ps.length
 run:∀ (A:Wf) (outer:List Env) (s:W1) (H:Hp) (args:Args) (us:List Value) (vs:List V) (Q:VK),RoomH k A→Env0 P w K mg base A outer s H→BindsTo s fd args (ps.zip us)→Vals vs us→sp vs H Q E0 →
  Qf (model P w) A (.call (.ref f) args) (CR CX0 outer P w H s Q E0) s
section
variable {P:Wd} {w:Wg} {K:W0} {mg:Str→Option Value} {base:Heap} {k:Nat} {f:Addr}
theorem zff {x qual:Str} {st:Stmt} {fd:Wx} {N ps:List Str} {sp:Sp} (F:Fun K x qual st f fd) (S:FnScope N ps (z00 st)) (len:∀ vs H Q E,sp vs H Q E→vs.length=ps.length)
  (hbody:∀ (cdv:Value) (A:Wf) (outer:List Env) (s:W1) (H:Hp) (vs:List V) (Q:VK),RoomH k (A.deeper (Qb qual (z00 st) s.heap.objs.size f cdv))→sp vs H Q E0 →
   ∃ t,PSs (cxOf CX0 P w K mg base N qual (z00 st) f cdv A outer s H E0).cold (z0q st) t∧t { nx:=fun _ H'=>Q .non H',rt:=Q } (start N vs) H):FnOkH P w K mg base (k + 1) f fd ps sp:=by
 obtain ⟨oc,od,kV,doc,pm,an,cdv,ct,osl,rfl,lk,hcd⟩:=F.ex
 refine ⟨len,fun A outer s H args us vs Q hr e0 hb r hsp=>?_⟩
 have hl:=len _ _ _ _ hsp
 have KX:K.In s.heap:=e0.mod.kin.keeps fun b o e=>(e0.bs b o e).1
 have lim:s.heap.NoLimit:=e0.mod.nolimit.keeps fun b o e=>(e0.bs b o e).1
 have hkind:∀ y ∈ ps.zip us,(z00 st).names.lookup y.1=some .local∨((z00 st).names.lookup y.1=some .cell∧((Q2 (s.heap.objs.size + 1) (z00 st).names []).lookup y.1).isSome=true):=fun ⟨n,v⟩ hy=>by
  rcases S.par n (J3 hy).1 with q | q
  ·exact .inl q
  ·exact .inr ⟨q,Qp _ _ _ (.inl q)⟩
 have hdep:A.depth < recursionLimit:=by have:=hr.dp; omega
 refine codeAny_call_function hdep (KX _ _ lk) rfl S.co S.gen rfl (PySem.W.codeRec_of KX hcd) (hb _ _ _ _ ?_)
 refine wpAny_newFunctionEnv_cells S.kind hkind fun env he s1 x=>?_
 subst he
 refine ⟨lim.keeps x.toInCall.keep,codeAny_func ?_⟩
 obtain ⟨t,ht,hq⟩:=hbody cdv A outer s H vs Q (hr.deeper _) hsp
 have e1:Env0 P w K mg base { A with handled:=none } outer s H:=⟨e0.frames,e0.mod,e0.bs,e0.bsz,e0.funs,e0.frf,e0.hok,e0.bare⟩
 have J:=z4L (CX:=CX0) (E:=E0) (qual:=qual) (f:=f) (cd:=cdv) (A:={ A with handled:=none }) S rfl e1 hl r x
 have I:Inv (cxOf CX0 P w K mg base N qual (z00 st) f cdv A outer s H E0).cold [] (start N vs) H s1:=by
  have o:=J.ok
  exact ⟨⟨o.mod,o.kind,o.glob,o.blt,o.above,o.inj,o.has,o.cab,fun z=>(by cases z),Around.frames_deeper e0.frames,o.stk,o.exf,o.bs,o.bsz,o.noex,o.exfs,o.funs,o.frf⟩,J.os,J.bare,J.base,J.loc,J.cell,J.free,J.freeC,J.pin,J.hok,J.len⟩
 refine WH (ht [] s1 (start N vs) H _ I hq) (fun fl s' hs=>?_) fun e s' hs=>hs.elim
 cases fl with
 | ret u =>
  obtain ⟨v,σ',H',J2,rv,q⟩:=hs
  exact ⟨v,H',J2.os,J2.bare,J2.base,J2.hok,rv,q⟩
 | next =>
  obtain ⟨σ',H',J2,q⟩:=hs
  exact ⟨V.non,H',J2.os,J2.bare,J2.base,J2.hok,rfl,q⟩
 | brk =>
  obtain ⟨_,_,_,q⟩:=hs
  exact False.elim q
 | cont =>
  obtain ⟨_,_,_,q⟩:=hs
  exact False.elim q
end
section
variable {X:Cx} {k:Nat} {f:Addr} {fd:Wx} {ps:List Str} {sp:Sp} {x:Str} {p pos:Pos} {e:Expr} {es:List Expr} {t:TA}
theorem zb6 (F:FnOkH X.prog X.w X.K X.mg X.base k f fd ps sp) (hr:RoomH k X.A) (hg:Gl X x) (hm:X.mg x=some (.ref f)) (hk:WN X.K (.ref f)=true) (hb:Binds X.K fd ps [])
  (ha:PA X (e :: es) t) (hdb:(x == ("__debug__" : Str))=false:=by decide) (he:W3 (e :: es) X.env=(false,eval e X.env) :: W3 es X.env:=by rfl) (hpl:(WD pos (W3 es X.env)).any (·.1)=false:=by rfl) :
  PE X (.Call (.Name x p) (e :: es) [] pos) (zco sp [] E0 t):=by
 intro pins s σ H Q I h
 refine Q1 (z39 I hg hm ?_ hdb)
 refine J9 (h₀:=X.base) I.ok.mod.kin hk (thn (ha pos pins s σ H _ I h) fun us s1 ⟨vs,H1,I1,r,q⟩=>⟨I1.kIn,?_⟩) he hpl
 have q:sp vs H1 Q E0:=by have q':sp (vs ++ []) H1 Q E0:=q; rwa [WJ] at q'
 have hl:(us ++ []).length=ps.length:=by rw [WJ,← r.length]; exact F.len _ _ _ _ q
 refine Ji (Qq (F.run X.A X.stack s1 H1 ⟨us,[]⟩ us vs Q hr I1.env0 (by have:=hb s1 us I1.kIn hl; rwa [WJ] at this) r q) fun r s' hq=>?_)
 cases r with
 | error e=>exact False.elim hq
 | ok fl =>
  cases fl with
  | ret u=>exact I1.after hq
  | next=>exact False.elim hq
  | brk=>exact False.elim hq
  | cont=>exact False.elim hq
end
end L2
namespace DV
open PySem PySem.Spec PyProof.Rows L2
def eIsC (ce:Tx→Nat) (ys:List Tx) (tab:Tx→Bool) (fb:BE):DE:=fun δ=>(fb δ).bind fun d δ'=>match d with
 | .exc n _=>match ys.find? fun z=>ce z == n with
  | some z=>.ok (.pure (.bl (tab z))) δ'
  | none=>.stuck
 | _=>.stuck
section
variable {X:Cx} {c:Fc} {e:Expr} {fb:BE} {pp py pos:Pos} {y:Str} {ce:Tx→Nat} {ys:List Tx} {tab:Tx→Bool}
theorem z80 (h:tD c (eIsC ce ys tab fb) σ H Q):tB c fb σ H fun v H1=>∃ (a:Addr) (z:Tx) (w:V),[v,cV]=[.ref a,cV]∧H1 a=some (.ext (excAt (ce z) w a))∧z ∈ ys∧Q (.bl (tab z)) H1:=by
 obtain ⟨δ,k,q⟩:=h
 unfold eIsC at q
 rw [z02] at q
 refine ⟨δ,k,z01 q fun d δ1 q1 v H1 a1 r1=>?_⟩
 cases d <;> first | exact q1.elim | skip
 rename_i n fl
 simp only at q1
 split at q1
 ·rename_i z hz
  have h1:=List.find?_some hz
  have h2:=List.mem_of_find?_eq_some hz
  have e:ce z=n:=by simpa using h1
  subst e
  rcases r1 with r1 | ⟨a,_,o⟩
  ·cases r1 with
   | exc _ ha _=>exact ⟨_,z,_,rfl,ha,h2,q1 _ H1 a1 (.bl _)⟩
  ·exact o.elim
 ·exact q1.elim
theorem z3s {D:Addr} (T:IsT X.K ce ys (.ref D) tab) (hg:Gl X "isinstance") (hm:X.mg "isinstance" = none) (hgy:Gl X y) (hmy:X.mg y=some (.ref D)) (he:SB X c e fb) (hdy:(y == ("__debug__" : Str))=false:=by decide)
  (hs:W3 [e,.Name y py] X.env=(false,eval e X.env) :: W3 [.Name y py] X.env:=by rfl) (hpl:(WD pos (W3 [.Name y py] X.env)).any (·.1)=false:=by rfl) :
  SE X c (.Call (.Name "isinstance" pp) [e,.Name y py] [] pos) (eIsC ce ys tab fb) :=
 PE.weak (z2M (z89 (cV:=.ref D) (fun u r=>by cases r; rfl) T) hg hm PyProof.Rows.boot_isinstance (z0M he (z0M (zeG hgy hmy hdy) z1F) hs) (by decide) (by decide) hs hpl) fun σ H Q h=>z80 h
theorem zdZ {T':String} (T:IsT X.K ce ys (.type T') tab) (hg:Gl X "isinstance") (hm:X.mg "isinstance" = none) (hgy:Gl X y) (hmy:X.mg y=none) (hvy:WW y=some (.type T')) (he:SB X c e fb)
  (hny:y≠"__name__":=by decide) (hdy:(y == ("__debug__" : Str))=false:=by decide)
  (hs:W3 [e,.Name y py] X.env=(false,eval e X.env) :: W3 [.Name y py] X.env:=by rfl) (hpl:(WD pos (W3 [.Name y py] X.env)).any (·.1)=false:=by rfl) :
  SE X c (.Call (.Name "isinstance" pp) [e,.Name y py] [] pos) (eIsC ce ys tab fb) :=
 PE.weak (z2M (z89 (cV:=.ty T') (fun u r=>by cases r; rfl) T) hg hm PyProof.Rows.boot_isinstance (z0M he (z0M (z9y (v:=.ty T') hgy hmy hvy rfl hny hdy) z1F) hs) (by decide) (by decide) hs hpl) fun σ H Q h=>z80 h
end
def KFnH (P:Wd) (w:Wg) (K:W0) (mg:Str→Option Value) (base:Heap) (k:Nat) (x:Str) (n:Nat) (G:DF):Prop :=
 ∃ (f:Addr) (fd:Wx) (ps:List Str),mg x=some (.ref f)∧WN K (.ref f)=true∧Binds K fd ps []∧FnOkH P w K mg base k f fd ps (spD n G)
theorem zfa (r:RoomH k A):A.units + 64 < Qa:=by have:=r.un; omega
section
variable {P:Wd} {w:Wg} {K:W0} {mg:Str→Option Value} {base:Heap}
theorem zdn {x qual:Str} {st:Stmt} {f:Addr} {fd:Wx} {N ps:List Str} {k:Nat} {np:List Nat} {fb:DS} {G:DF} (F:Fun K x qual st f fd) (hm:mg x=some (.ref f)) (hb:Binds K fd ps []) (S:FnScope N ps (z00 st))
  (hbody:∀ (c:Fc) (cdv:Value) (A:Wf) (outer:List Env) (s:W1) (H:Hp) (E:XK),RoomH k (A.deeper (Qb qual (z00 st) s.heap.objs.size f cdv))→Np c np→SSs (cxOf CX0 P w K mg base N qual (z00 st) f cdv A outer s H E).cold c (z0q st) fb)
  (hG:∀ ss y,G ss=some y→ioOk np 0 ss=true∧runD fb N.length ss=some y):KFnH P w K mg base (k + 1) x ps.length G:=by
 refine ⟨f,fd,ps,hm,F.kp,hb,zff F S (fun vs H Q E h=>?_) fun cdv A outer s H vs Q hr h=>?_⟩
 ·obtain ⟨ss,B,hl,_⟩:=h
  exact hl
 ·obtain ⟨ss,B,hl,ok,r,outs,hg,q⟩:=h
  obtain ⟨hio,hrun⟩:=hG ss _ hg
  have hvs:ss.length=vs.length:=by have:=ok.len; simpa using this
  have np':Np ⟨H,B,z0g 0 ss vs,fun _ _=>False⟩ np:=fun p hp=>by
   obtain ⟨j,d,e,h1,_⟩:=z0N (i:=p.1) (a:=p.2) hp
   rw [e]
   exact z40 hio h1
  refine ⟨tDS ⟨H,B,z0g 0 ss vs,fun _ _=>False⟩ fb,hbody ⟨H,B,z0g 0 ss vs,fun _ _=>False⟩ cdv A outer s H E0 hr np',?_⟩
  have hst:start N vs=z0I vs ++ W8 (N.length - ss.length) none:=by rw [hvs]; rfl
  refine ⟨z09 N.length ss,by rw [hst]; exact ok.ext _,?_⟩
  unfold runD at hrun
  unfold z1x
  cases e:fb (z09 N.length ss) with
  | exc x δx=>rw [e] at hrun; cases hrun
  | stuck=>rw [e] at hrun; cases hrun
  | ok fl δ' =>
   rw [e] at hrun
   show ∀ σ' H',Aft _ (start N vs) (z09 N.length ss) H σ' δ' H'→fin _ _ σ' δ' H' fl
   intro σ' H' a
   rw [hst] at a
   simp only at hrun
   cases fl with
   | brk=>cases hrun
   | cont=>cases hrun
   | next =>
    simp only [z0V,Ww] at hrun
    cases eo:z0h 0 ss δ' with
    | none=>rw [eo] at hrun; cases hrun
    | some os =>
     rw [eo] at hrun
     cases hrun
     obtain ⟨l1,l2⟩:=z2T rfl ok a eo
     exact q .non H' l1 .non
   | ret r' =>
    simp only [z0V,Ww] at hrun
    cases eo:z0h 0 ss δ' with
    | none=>rw [eo] at hrun; cases hrun
    | some os =>
     rw [eo] at hrun
     cases hrun
     obtain ⟨l1,l2⟩:=z2T rfl ok a eo
     exact fun v rv=>q v H' l1 (l2 v _ rv)
end
section
variable {X:Cx} {c:Fc} {e:Expr} {es:List Expr} {as:List Ak} {k n:Nat} {x:Str} {G:DF} {pp pos:Pos}
theorem zaU (F:KFnH X.prog X.w X.K X.mg X.base k x n G) (hK:z1R G) (hr:RoomH k X.A) (hg:Gl X x) (ha:SX X c (e :: es) as) (hl:as.length=n) (hdb:(x == ("__debug__" : Str))=false:=by decide)
  (he:W3 (e :: es) X.env=(false,eval e X.env) :: W3 es X.env:=by rfl) (hpl:(WD pos (W3 es X.env)).any (·.1)=false:=by rfl):SE X c (.Call (.Name x pp) (e :: es) [] pos) (z0d G as):=by
 obtain ⟨f,fd,ps,hm,hk,hb,ok⟩:=F
 exact PE.weak (zb6 ok hr hg hm hk hb ha hdb he hpl) fun σ H Q h=>z4X (ps:=ps) hK hl h
end
end DV
namespace L2
open PySem PySem.Spec PyProof.Rows PySem.SeqAt
theorem z5x:∀ {bs:List Bool} {us:List Value},Vals (bs.map V.bl) us→us=bs.map Value.bool
 | [],us,r=>by cases r; rfl
 | b :: bs,us,r=>by
  cases r with
  | cons r1 r2 =>
   cases r1
   rw [z5x r2]
   rfl
def z4K:Value→Bool
 | .bool b=>b
 | _=>false
theorem z4T:∀ bs:List Bool,(bs.map Value.bool).countP z4K=bs.count true
 | []=>rfl
 | b :: bs=>by
  rw [Wu,List.countP_cons,z4T bs,List.count_cons]
  cases b <;> rfl
def zbX (K:W0):V→List V→Hp→VK→Prop:=fun x xs H Q=>∃ (a:Addr) (bs:List Bool),x = .ref a∧xs=[.bl true]∧SqL K H a (bs.map V.bl)∧Q (.int (bs.count true:Nat)) H
def zbW (K:W0):V→List V→Hp→VK→Prop:=fun x xs H Q=>∃ (a:Addr) (bs:List Bool),x = .ref a∧xs=[.bl true]∧SqL K H a (bs.map V.bl)∧true ∈ bs∧bs.length≤1000∧Q (.int (bs.idxOf true:Nat)) H
section
variable {X:Cx}
theorem zbj:MtR X "list.count" (zbX X.K):=by
 intro pins s σ H x xs v us Q I rx rs h
 obtain ⟨a,bs,rfl,rfl,hq,q⟩:=h
 obtain ⟨u,rfl,ru⟩:=z3L rs
 cases ru
 cases rx
 obtain ⟨its,r',p,_⟩:=I.list hq
 obtain rfl:=z5x r'
 obtain ⟨⟨cls,dd,data,sl⟩,ho,hc,n,hd⟩:=p.isList
 simp only at hc hd
 subst hc; subst hd
 refine QW PySem.F.slot_list_count ⟨_,ho,rfl⟩ PySem.F.entry_list_count (PySem.F.args_list_count_2 _ _) (list_countAt a _ n dd sl (.bool true) z4K) ⟨ho,fun y hy=>?_,?_⟩
 ·have hy':y ∈ bs.map Value.bool:=by simpa using hy
  obtain ⟨b,_,rfl⟩:=Qm.mp hy'
  have:=EqAt.bool_bool (A:=X.A.in1) (s:=s) b true
  cases b <;> exact this
 ·rw [show (bs.map Value.bool).toArray.toList=bs.map Value.bool from rfl,z4T]
  exact ⟨.int (bs.count true:Nat),H,I.tok _,⟨_,rfl⟩,q⟩
theorem zbi:MtR X "list.index" (zbW X.K):=by
 intro pins s σ H x xs v us Q I rx rs h
 obtain ⟨a,bs,rfl,rfl,hq,hm,hl,q⟩:=h
 obtain ⟨u,rfl,ru⟩:=z3L rs
 cases ru
 cases rx
 obtain ⟨its,r',p,_⟩:=I.list hq
 obtain rfl:=z5x r'
 obtain ⟨⟨cls,dd,data,sl⟩,ho,hc,n,hd⟩:=p.isList
 simp only at hc hd
 subst hc; subst hd
 have hj:bs.idxOf true < bs.length:=List.idxOf_lt_length_iff.mpr hm
 refine QW QI ⟨_,ho,rfl⟩ PySem.F.entry_list_index (PySem.F.args_list_index_2 _ _) (list_indexAt a _ n dd sl (.bool true) z4K (bs.idxOf true) (by simpa using hj) (by omega) ?_ ?_) ⟨ho,fun y hy=>?_,⟨.int (bs.idxOf true:Nat),H,I.tok _,⟨_,rfl⟩,q⟩⟩
 ·have:=List.getElem_idxOf hj
  simp [z4K,this]
 ·intro m hm' hlt
  have hm2:m < bs.length:=by simpa using hm'
  have:bs[m]≠true:=fun z=>by
   have z2:=List.not_of_lt_findIdx (p:=(· == true)) (xs:=bs) (i:=m) hlt
   rw [z] at z2
   cases z2
  simp [z4K,this]
 ·have hy':y ∈ bs.map Value.bool:=by simpa using hy
  obtain ⟨b,_,rfl⟩:=Qm.mp hy'
  have:=EqAt.bool_bool (A:=X.A.in1) (s:=s) b true
  cases b <;> exact this
end
end L2
namespace DV
open PySem PySem.Spec PyProof.Rows L2
def z5n:D→Option S
 | .lst ds=>(z50 ds).map fun bs=>.pure (.int (bs.count true:Nat))
 | _=>none
def z3U:D→Option S
 | .lst ds=>match z50 ds with
  | some bs=>if true ∈ bs∧bs.length≤1000 then some (.pure (.int (bs.idxOf true:Nat))) else none
  | none=>none
 | _=>none
section
variable {X:Cx} {c:Fc} {e:Expr} {fb:BE}
theorem zbf {K:W0}:Op1 (fun x H Q=>tyV K "list" x H∧zbX K x [.bl true] H Q) z5n:=by
 intro c σ δ H x d s Q k rx hp q
 cases d with
 | lst ds =>
  simp only [z5n] at hp
  cases e:z50 ds with
  | none=>rw [e] at hp; cases hp
  | some bs =>
   rw [e] at hp
   cases hp
   obtain ⟨a,vs,ea,ha,ra⟩:=rx.lst
   obtain rfl:=z3S e ra
   subst ea
   exact ⟨.inl ⟨rfl,_,.inl ha⟩,a,bs,rfl,rfl,.inl ha,q _ H (.refl k) (.int _)⟩
 | _=>simp [z5n] at hp
theorem zbe {K:W0}:Op1 (fun x H Q=>tyV K "list" x H∧zbW K x [.bl true] H Q) z3U:=by
 intro c σ δ H x d s Q k rx hp q
 cases d with
 | lst ds =>
  simp only [z3U] at hp
  cases e:z50 ds with
  | none=>rw [e] at hp; cases hp
  | some bs =>
   rw [e] at hp
   simp only at hp
   split at hp
   ·rename_i hz
    cases hp
    obtain ⟨a,vs,ea,ha,ra⟩:=rx.lst
    obtain rfl:=z3S e ra
    subst ea
    exact ⟨.inl ⟨rfl,_,.inl ha⟩,a,bs,rfl,rfl,.inl ha,hz.1,hz.2,q _ H (.refl k) (.int _)⟩
   ·cases hp
 | _=>simp [z3U] at hp
theorem zaR {j} {p0 apos cpos:Pos} (he:SB X c e fb)
  (hbase:Q9 e "count" X.env (eval e X.env)=eval e X.env:=by rfl)
  (hfew:((WD cpos (W3 [.Constant (.bool true) j p0] X.env)).all (fun x=>!x.1) && (backToKw cpos (QO [] X.env)).all (fun x=>x.1.isSome)
   && decide ([Expr.Constant (.bool true) j p0].length + ([]:List Keyword).length + (if ([]:List Keyword).isEmpty then 0 else 1) < 30))=true:=by rfl)
  (hline:(apos.endLine == cpos.line)=true:=by rfl) (hs:W3 [.Constant (.bool true) j p0] X.env=(false,eval (.Constant (.bool true) j p0) X.env) :: W3 [] X.env:=by rfl) :
  SE X c (.Call (.Attribute e "count" apos) [.Constant (.bool true) j p0] [] cpos) (eC1 z5n fb):=by
 refine PE.weak (z9x QH PySem.F.slot_list_count PySem.F.type_list_count zbj he (z0M zcV z1F hs) hbase hfew hline hs rfl) fun σ H Q h=>?_
 obtain ⟨δ,k,q⟩:=z3M (zbf (K:=X.K)) h
 exact ⟨δ,k,z01 q fun y δ1 q1 v H1 a1 r1=>q1 v H1 a1 r1⟩
theorem zaQ {j} {p0 apos cpos:Pos} (he:SB X c e fb)
  (hbase:Q9 e "index" X.env (eval e X.env)=eval e X.env:=by rfl)
  (hfew:((WD cpos (W3 [.Constant (.bool true) j p0] X.env)).all (fun x=>!x.1) && (backToKw cpos (QO [] X.env)).all (fun x=>x.1.isSome)
   && decide ([Expr.Constant (.bool true) j p0].length + ([]:List Keyword).length + (if ([]:List Keyword).isEmpty then 0 else 1) < 30))=true:=by rfl)
  (hline:(apos.endLine == cpos.line)=true:=by rfl) (hs:W3 [.Constant (.bool true) j p0] X.env=(false,eval (.Constant (.bool true) j p0) X.env) :: W3 [] X.env:=by rfl) :
  SE X c (.Call (.Attribute e "index" apos) [.Constant (.bool true) j p0] [] cpos) (eC1 z3U fb):=by
 refine PE.weak (z9x QH QI PySem.F.type_list_index zbi he (z0M zcV z1F hs) hbase hfew hline hs rfl) fun σ H Q h=>?_
 obtain ⟨δ,k,q⟩:=z3M (zbe (K:=X.K)) h
 exact ⟨δ,k,z01 q fun y δ1 q1 v H1 a1 r1=>q1 v H1 a1 r1⟩
end
theorem z4Z:WW "ValueError" = some (.type "ValueError"):=by decide +kernel
def ceOf:List (Tx×Nat)→Tx→Nat
 | [],_=>0
 | p :: r,x=>bif p.1 == x then p.2 else ceOf r x
end DV
namespace L2
open PySem PySem.Spec PyProof.Rows
section
variable {X:Cx}
end
end L2
namespace DV
open PySem PySem.Spec PyProof.Rows L2
end DV
namespace PySem
open Sem (wp)
structure ZA (z TI TO i1 i2:Addr) (f1 f2:List Addr):Prop where
 m1:i1 ∈ f1
 m2:i2 ∈ f2
 z1:z ∉ f1
 z2:z ∉ f2
 t1:TO ∉ f1
 t2:TO ∉ f2
 k1:i1 ∉ f2
 k2:i2 ∉ f1
 tz:TO≠z
 iz:TI≠z
 io:TI≠TO
 n1:TI≠i1
 n2:TI≠i2
section
variable {prog:Wd} {w:Wg} {A:Wf} {E:Value→W1→Prop} {s:W1}
end
end PySem
namespace L2
open PySem PySem.Spec PyProof.Rows
section
variable {X:Cx} {pins:List (Addr×Obj)} {σ:St} {H:Hp} {s:W1} {h':Heap}
end
end L2
namespace DV
open PySem PySem.Spec PyProof.Rows L2
section
variable {X:Cx} {c:Fc} {tg e:Expr} {fe:DE} {pos pp:Pos}
end
def z1W (G:DX) (as:List Ak):DE:=fun δ=>if (ios as).all (z0Y δ) && ndup (ios as) then (evX as δ).bind fun ds δ1=>match mkA as ds δ1 with
  | none=>.stuck
  | some ss=>match G ss with
   | some (.inl (r,outs))=>.ok r (putA as outs δ1)
   | _=>.stuck
 else .stuck
section
variable {X:Cx} {c:Fc} {e:Expr} {es:List Expr} {as:List Ak} {k n:Nat} {x:Str} {G:DX} {pp pos:Pos}
theorem z8F (hK:z31 G) (hl:as.length=n) (h:tD c (z1W G as) σ H Q):tX c as σ H fun vs H1=>spX X.mg n G vs H1 Q (fun c' _ H'=>∃ C,c' = .ref C∧False):=by
 obtain ⟨δ,kk,q⟩:=h
 unfold z1W at q
 split at q
 ·rename_i hc
  rw [Wn] at hc
  have nd:=z2N hc.2
  rw [z02] at q
  refine ⟨δ,kk,fun i hi=>?_,z01 q fun ds δ1 q1 vs H1 a1 r1=>?_⟩
  ·have:=Q6.mp hc.1 i (ios_mem.mpr hi)
   unfold z0Y at this
   split at this
   ·rename_i d ed
    exact z1J kk ed
   ·cases this
  ·cases em:mkA as ds δ1 with
   | none=>rw [em] at q1; exact q1.elim
   | some ss =>
    rw [em] at q1
    simp only at q1
    cases eg:G ss with
    | none=>rw [eg] at q1; exact q1.elim
    | some y =>
     rw [eg] at q1
     have hin:=z7w a1.ok r1 em nd
     obtain ⟨m1,m2,_⟩:=z6y r1 em
     have g2:=hK ss y eg
     cases y with
     | inl y =>
      refine ⟨ss,_,by rw [← m2]; exact hl,hin,.inl y,eg,?_⟩
      obtain ⟨r,outs⟩:=y
      intro v H2 a2 r2
      obtain ⟨o1,o2⟩:=z4o a1.ok r1 em nd rfl a2 (fun j d ed=>(g2 j).1 d ed) fun j d ed=>(g2 j).2 d ed
      exact q1 v H2 (a1.trans o1) (RepS.back (o2 v r r2) a1)
     | inr y=>exact q1.elim
 ·exact q.elim
end
end DV
namespace PySem
open Sem (wp)
section
variable {prog:Wd} {w:Wg} {A:Wf} {E:Value→W1→Prop} {hp:Heap} {g:Array GenState} {d:Drawn} {t:Nat} {os:OsState}
variable {nm qn:Str} {C N:Addr} {bs bm bmB:List Value} {hdct:Bool} {sn:List Str} {sub:List Value} {ab:Bool} {col:Option Bool} {dd:Option Addr} {k0 k1 k2 k3 k5:Option Value} {B newId initId:String}
theorem z8e (F:ExcBaseFacts B newId initId bmB) (T:OwnTail hp bmB bm)
  (hC:hp.get? C=some (excClassObj nm qn C N bs bm hdct sn sub ab col dd k0 k1 k2 k3 k5 newId)) (hN:hp.Ns N mN) (hi:mN "__init__" = some (.ref f)) (hf:hp.get? f=some o) (hfc:o.cls = .type "function")
  (q:∀ h' e,Heap.MadeExcOf hp h' e (.ref C) vs→W9 (model prog w) A (call (.ref f) (.ref e :: vs)) (fun r s'=>r = .none∧Q (.done (.ret (.ref e))) s') E ⟨h',g,d,t,os⟩) (hl:vs.length≤W6) :
  W9 (model prog w) A (Builtin.«type.__call__» ⟨.ref C :: vs,[]⟩) Q E ⟨hp,g,d,t,os⟩:=by
 repeat (first | with_reducible refine WY hC ?_ | with_reducible refine wpAny_madeBy_exc hC ?_ | wp_step)
 refine codeAny_call_builtin_code (Code.quiet_builtin _ F.quiet) (wpAny_check_new_subT F T hC (codeAny_exc_new_subT F T hC ?_ hl))
 show W9 _ _ _ _ _ _
 have up:∀ {o1 o2:Obj} {b:Addr} {u:Obj},hp.get? b=some u→((hp.push o1).push o2).get? b=some u:=fun e=>W5 _ (W5 _ e)
 have hC1:=up (o1:={ cls:=.type "tuple",data:=.seq vs.toArray }) (o2:={ cls:=.ref C,data:=.fields #[.ref hp.objs.size,.none,.none,.none,.bool false,.none] }) hC
 have hf1:=up (o1:={ cls:=.type "tuple",data:=.seq vs.toArray }) (o2:={ cls:=.ref C,data:=.fields #[.ref hp.objs.size,.none,.none,.none,.bool false,.none] }) hf
 have hN1:((hp.push { cls:=.type "tuple",data:=.seq vs.toArray }).push { cls:=.ref C,data:=.fields #[.ref hp.objs.size,.none,.none,.none,.bool false,.none] }).Ns N mN:=let ⟨o,es,ep,e,r⟩:=hN; ⟨o,es,ep,up e,r⟩
 have he:((hp.push { cls:=.type "tuple",data:=.seq vs.toArray }).push { cls:=.ref C,data:=.fields #[.ref hp.objs.size,.none,.none,.none,.bool false,.none] }).get? (hp.objs.size + 1)=some { cls:=.ref C,data:=.fields #[.ref hp.objs.size,.none,.none,.none,.bool false,.none] }:=by heap_get
 have hc:(Value.ref C :: bm).contains (.ref C)=true:=by simp
 have T1:=T.keeps (h':=(hp.push { cls:=.type "tuple",data:=.seq vs.toArray }).push { cls:=.ref C,data:=.fields #[.ref hp.objs.size,.none,.none,.none,.bool false,.none] }) fun b o e=>up e
 unfold isInstance
 repeat (first | with_reducible refine WY he ?_ | (with_reducible refine wpAny_isSubtype_exc hC1 ?_; rw [hc]) | wp_step)
 show W9 _ _ (typeLookup (.ref C) _) _ _ _
 refine wpAny_typeLookup_tail hC1 hN1 T1 F.mroIs F.init.lookup ?_
 rw [hi]
 refine Q8 (W2 ?_)
 unfold bindSpecial
 refine W2 (QR (T:="function") ⟨_,hf1,hfc⟩ ?_)
 rw [if_pos (by decide)]
 refine Wc (W2 (WH (q _ (hp.objs.size + 1) ⟨fun b o hb=>up hb,QT (Nat.le_succ _),hp.objs.size,he,QT (We _),W5 _ (Heap.get?_push_at rfl rfl)⟩) (fun r s' hr=>?_) fun _ _ x=>x))
 obtain ⟨rfl,hQ⟩:=hr
 wp_walk
 exact hQ
theorem zaA (F:ExcBaseFacts B newId initId bmB) (T:OwnTail hp bmB bm)
  (hC:hp.get? C=some (excClassObj nm qn C N bs bm hdct sn sub ab col dd k0 k1 k2 k3 k5 newId)) (hN:hp.Ns N mN) (hi:mN "__init__" = some (.ref f)) (hf:hp.get? f=some o) (hfc:o.cls = .type "function")
  (q:∀ h' e,Heap.MadeExcOf hp h' e (.ref C) vs→W9 (model prog w) (A.under (.builtin "type.__call__" ⟨.ref C :: vs,[]⟩)) (call (.ref f) (.ref e :: vs)) (fun r s'=>r = .none∧Q (.ref e) s') E ⟨h',g,d,t,os⟩) (hl:vs.length≤W6) :
  W9 (model prog w) A (call (.ref C) vs) Q E ⟨hp,g,d,t,os⟩:=by
 have f1:=tc_lookup
 have f2:=tc_bind (.ref C)
 have hT:(⟨hp,g,d,t,os⟩:W1).TypeIs (.ref C) "type":=⟨_,hC,rfl⟩
 refine Ji (codeAny_of_tree ?_); show W9 _ _ (callAny (.ref C) _) _ _ _
 repeat (any_goals (first | assumption | with_reducible refine WY hC ?_ | wp_step))
 exact ⟨rfl,codeAny_call_builtin_at (Code.quiet_builtin _ (by decide +kernel)) entry_typeCall (wpAny_check_type_call_sub hC (z8e F T hC hN hi hf hfc (fun h' e hm=>q h' e hm) hl))⟩
theorem zaW (hh:A.handled=none)
  (h:W9 M A x (fun v s1=>∃ (e C N:Addr) (dx:Option Addr) (vs:Array Value) (sl:Array (Option Value)) (nm qn:Str) (bs bm:List Value) (hdct:Bool) (sn:List Str) (sub:List Value) (ab:Bool) (col:Option Bool) (dd:Option Addr) (k0 k1 k2 k3 k5:Option Value) (newId:String),
   v = .ref e∧bm.contains (.type "BaseException")=true∧s1.heap.get? C=some (excClassObj nm qn C N bs bm hdct sn sub ab col dd k0 k1 k2 k3 k5 newId)∧s1.heap.get? e=some ⟨.ref C,dx,.fields vs,sl⟩∧vs[1]? = some .none∧E (.ref e) s1) E s) :
  W9 M A (raiseStmt env (some x) none) Q E s:=by
 unfold raiseStmt
 refine W2 (WH h (fun v s1 h1=>?_) fun _ _ x=>x)
 obtain ⟨e,C,N,dx,vs,sl,nm,qn,bs,bm,hdct,sn,sub,ab,col,dd,k0,k1,k2,k3,k5,newId,rfl,hb,hC,he,hv,hE⟩:=h1
 have hc:(Value.ref C :: bm).contains (.type "BaseException")=true:=by rw [Jf,hb,Bool.or_true]
 obtain ⟨hp,g,d,tk,os⟩:=s1
 repeat (first | with_reducible refine WY he ?_ | with_reducible refine WY hC ?_ | (with_reducible refine wpAny_isSubtype_exc hC ?_; rw [hc]) | wp_step)
 rw [hv]
 repeat (first | wp_step)
 exact wpAny_raiseNew_none hh hE
end
end PySem
namespace L2
open PySem PySem.Spec PyProof.Rows PySem.W PySem.Builtin PySem.Builtin.ObjectAttr
def zb8:List Value→Bool
 | .ref _ :: r=>zb8 r
 | l=>l == vErr
theorem z3V (self:Value):∀ {l:List Value},zb8 l=true→refuseLoop self "__setattr__" l=pure ()
 | [],e=>by cases e
 | .ref c :: r,e=>by rw [refuseLoop_ref]; exact z3V self e
 | .none :: r,e=>by cases e
 | .type n :: r,e=>by
  have:(Value.type n :: r)=vErr:=beq_iff_eq.mp e
  rw [this]; exact PySem.F.store_ValueError.passes self
 | .bool b :: r,e=>by cases (beq_iff_eq.mp (show ((Value.bool b :: r) == vErr)=true from e))
 | v :: r,e=>by
  cases v <;> first
   | (rw [refuseLoop_ref]; exact z3V self e)
   | (rw [show _=vErr from beq_iff_eq.mp e]; exact PySem.F.store_ValueError.passes self)
theorem z6n:∀ {l:List Value},zb8 l=true→l.contains (.type "object")=true
 | [],e=>by cases e
 | v :: r,e=>by
  cases v <;> first
   | (rw [Jf,z6n (l:=r) e,Bool.or_true])
   | (rw [show _=vErr from beq_iff_eq.mp e]; decide)
def z7S (K:W0) (C:Addr):Bool:=(clsIn K C).any fun cd=>zb8 cd.mro
section
variable {prog:Wd} {w:Wg} {A:Wf} {E:Value→W1→Prop} {s:W1} {K:W0} {x C:Addr} {name:Str} {v:Value} {R:Result→W1→Prop}
theorem zcY (X:K.In s.heap) (I:InstAt s.heap x ox C od) (hp:z7S K C=true) (ht:takerIn K C name=some none)
  (q:∀ b,W9 (model prog w) A.in1 (storeInOwnDict (.ref x) (.ref C) (.str name tk) name v b) (fun fin s'=>match fin with | .done f=>R (.ok f) s' | .again c'=>c'.quiet=true∧Qf (model prog w) A c' R s') (fun e s'=>R (.error e) s') s) :
  Qf (model prog w) A (.call (.builtin "object.__setattr__") ⟨[.ref x,.str name tk,v],[]⟩) R s:=by
 have SF:=PySem.F.store_object
 obtain ⟨cd,hc,ho⟩:=any_some hp
 have ne:cd.mro.isEmpty=false:=by
  cases z:cd.mro with
  | nil=>rw [z] at ho; cases ho
  | cons _ _=>rfl
 have sub:Looks (model prog w) s.heap (isInstance (.ref x) (.type "object")) true:=I.type.andThen (looks_mroIn X (by unfold mroIn; rw [hc,Ww,if_neg (by rw [ne]; decide),z6n ho]))
 refine QX SF.slot.plain SF.entry (@check_slot (model prog w) _ _ s "object.__setattr__" "object" "__setattr__" (.ref x) [.str name tk,v] [] _ SF.kind SF.split sub (SF.args (.ref x) (.str name tk) v) ?_)
 obtain ⟨attr,ha,hr⟩:=Option.bind_eq_some_iff.mp ht
 have hm:Looks (model prog w) s.heap (mroOf (.ref C)) cd.mro:=(looks_clsIn X hc).andThen .now
 have L3:Looks (model prog w) s.heap (storeTaker? attr) none:=by
  cases attr with
  | none=>exact .now
  | some a =>
   obtain ⟨b,hb,hn⟩:=WM.mp hr
   refine (looks_takesIn X hb).andThen ?_
   cases b
   ·exact .now
   ·cases hn
 rw [osa_eq,refuse_eq]
 refine W2 (W2 (I.type.here (W2 (hm.here ?_))))
 rw [z3V _ ho]
 exact Wc (W2 (I.type.here (W2 ((Jg X ha).here (W2 (L3.here (q _)))))))
theorem zcu (X:K.In s.heap) (hx:s.heap.get? x=some ⟨.ref C,none,.fields vs,sl⟩)
  (hs:QZ K (.ref C) "__setattr__" = some (some (.builtin "object.__setattr__"))) (hp:z7S K C=true) (ht:takerIn K C name=some none) (hh:hasDictIn K C=true)
  (q:∀ h' tk,h'.get? x=some ⟨.ref C,some s.heap.objs.size,.fields vs,sl⟩→(∀ b o,b≠x→s.heap.get? b=some o→h'.get? b=some o)→h'.Ns1 s.heap.objs.size (fun z=>if z=name then some v else none)→Q () { s with heap:=h',toks:=tk }) :
  W9 (model prog w) A (setAttr (.ref x) name v) Q E s:=by
 have J:InstAt s.heap x ⟨.ref C,none,.fields vs,sl⟩ C none:=⟨hx,rfl,rfl,trivial⟩
 refine set_plain X J hs (zcY (s:={ s with toks:=s.toks + 1 }) X J hp ht fun b=>?_)
 obtain ⟨cd,hc,hd'⟩:=any_some hh
 have hx1:(s.heap.push { cls:=.type "dict",data:=.dict #[] }).get? x=some ⟨.ref C,none,.fields vs,sl⟩:=W5 _ hx
 have hxs:x≠s.heap.objs.size:=WK (Wl hx)
 refine W2 (Wc (W2 (W2 (wpAny_loadPart hx (W2 (PySem.W.Looks.here (s:={ s with toks:=s.toks + 1 }) (PySem.W.looks_clsIn X hc) ?_))))))
 rw [hd']
 show W9 _ _ (alloc { cls:=.type "dict",data:=.dict #[] } >>= fun d=>(update x fun o=>{ cls:=o.cls,dict:=some d,data:=o.data,slots:=o.slots }) >>= fun _=>dictMade (.ref C) x d) _ _ _
 refine W2 (wpAny_alloc' (W2 (wpAny_update' hx1 (Wc ?_))))
 have gd:((s.heap.push { cls:=.type "dict",data:=.dict #[] }).update x fun o=>{ cls:=o.cls,dict:=some s.heap.objs.size,data:=o.data,slots:=o.slots }).get? s.heap.objs.size=some { cls:=.type "dict",data:=.dict #[] }:=(Heap.get?_update_ne _ _ _ _ hxs.symm).trans (Heap.get?_push_at rfl rfl)
 have nd:((s.heap.push { cls:=.type "dict",data:=.dict #[] }).update x fun o=>{ cls:=o.cls,dict:=some s.heap.objs.size,data:=o.data,slots:=o.slots }).Ns s.heap.objs.size (fun _=>none):=⟨_,#[],_,gd,rfl,fun e he=>absurd he (by simp),fun _=>rfl⟩
 show W9 _ _ (storeInDict s.heap.objs.size (.str name _) name v) _ _ _
 unfold storeInDict newKeyGuard
 refine W2 (Wc (W2 (wpAny_nsSet1 (Heap.Ns1.of_empty nd) fun h' hn' sb=>?_)))
 obtain ⟨oD,esD,epD,hoD,hdD,hcD⟩:=hn'.count (Within.cons name v Within.nil)
 refine W2 (wpAny_lookBehind hoD (by rw [hdD]; exact pastItsLine_dict (WP hcD (by rw [WO,List.length_nil,sizeLine_eq]; omega))) ?_)
 refine Wc (q h' _ ((sb.2 x hxs).trans (Qu _ hx1 rfl)) (fun b o hb e=>?_) hn')
 exact (sb.2 b (WK (Wl e))).trans ((Heap.get?_update_ne _ _ _ _ hb).trans (W5 _ e))
theorem zdj {vs:Array Value} {sl:Array (Option Value)} {dx:Addr} {mA:Str→Option Value} {expr:Bool} {Q:Value→W1→Prop} (X:K.In s.heap) (hx:s.heap.get? x=some ⟨.ref C,some dx,.fields vs,sl⟩) (hd:s.heap.Ns1 dx mA)
  (k:ExcK K C) (hat:QZ K (.ref C) name=some none) (hh:hasDictIn K C=true)
  (hv:mA name=some v) (hin:handedIn v=true) (q:Q v { s with toks:=s.toks + 1 }):W9 (model prog w) A (getAttr (.ref x) name expr) Q E s:=by
 obtain ⟨od,ho,hl⟩:=z6z hd
 have J:InstAt s.heap x ⟨.ref C,some dx,.fields vs,sl⟩ C (some od):=⟨hx,rfl,rfl,ho⟩
 obtain ⟨h,g,d,t,os⟩:=s
 have L0:Looks (model prog w) h (typeOf (.ref x)) (.ref C):=J.type
 have L1:=Jg (M:=model prog w) X k.ga
 have L2:=Jg (M:=model prog w) X k.gt
 have L4:=looks_find (M:=model prog w) X J (findObj_own (v:=v) hh hat rfl (by rw [hl,hv]))
 have hx0:(expr && onTheHeap (Value.builtin "BaseException.__getattribute__"))=false:=by cases expr <;> rfl
 have hx2:(Value.builtin "BaseException.__getattribute__" == Value.builtin "object.__getattribute__")=false:=by decide +kernel
 have f3:=F.attrBase_ValueError.ga.bind (.ref x)
 unfold getAttr getAttrBy
 refine W2 (wpAny_mkText (Q8 (W2 (L0.at (W2 (L1.at ?_))))))
 dsimp only
 rw [hx2,Bool.and_false]
 simp only [Bool.false_eq_true,if_false]
 unfold getAttrByItsOwn hookBefore
 repeat (any_goals (first | assumption | with_reducible refine Looks.at L2 ?_ | wp_step))
 refine QX F.attrBase_ValueError.ga.plain F.entry_bexc_ga (z6L X k hx rfl ?_)
 repeat (any_goals (first | assumption | with_reducible refine Looks.at L0 ?_ | with_reducible refine Looks.at L4 ?_ | wp_step))
 show W9 _ _ (handedOut v) _ _ _
 rw [handedOut_of hin]; exact Wc q
end
def excN (C a:Addr):Heap→Prop:=fun h=>∃ vs sl a0,h.get? a=some ⟨.ref C,none,.fields vs,sl⟩∧vs[0]? = some a0∧vs[1]? = some .none
def excD (C:Addr) (dx:Option Addr) (a:Addr):Heap→Prop:=fun h=>∃ vs sl a0,h.get? a=some ⟨.ref C,dx,.fields vs,sl⟩∧vs[0]? = some a0∧vs[1]? = some .none
section
variable {P:Wd} {w:Wg} {H:Hp} {h:Heap} {C a:Addr}
theorem zdq (q:excN C a h):ObjOk P w H h a (.ext (excN C a)):=by
 refine ⟨q,?_,?_⟩
 ·obtain ⟨vs,sl,a0,e,_⟩:=q
  exact ⟨_,e⟩
 ·rintro h1 h2 ⟨vs,sl,a0,e,r⟩ k
  exact ⟨vs,sl,a0,k _ e,r⟩
theorem zdr {dx:Option Addr} (q:excD C dx a h):ObjOk P w H h a (.ext (excD C dx a)):=by
 refine ⟨q,?_,?_⟩
 ·obtain ⟨vs,sl,a0,e,_⟩:=q
  exact ⟨_,e⟩
 ·rintro h1 h2 ⟨vs,sl,a0,e,r⟩ k
  exact ⟨vs,sl,a0,k _ e,r⟩
theorem xd_ok {fs:List (Str×V)} (q:DV.xdAt fs a h):ObjOk P w H h a (.ext (DV.xdAt fs a)):=by
 refine ⟨q,?_,?_⟩
 ·obtain ⟨mA,⟨o,_,_,e,_⟩,_⟩:=q
  exact ⟨_,e⟩
 ·rintro h1 h2 ⟨mA,⟨o,es,ep,e,c⟩,r⟩ k
  exact ⟨mA,⟨o,es,ep,k _ e,c⟩,r⟩
end
structure ExcS (K:W0) (C:Addr) (f:Str):Prop where
 set:QZ K (.ref C) "__setattr__" = some (some (.builtin "object.__setattr__"))
 over:z7S K C=true
 hd:hasDictIn K C=true
 tk:takerIn K C f=some none
section
variable {X:Cx} {o value:Expr} {f:Str} {ta tv:TE} {pos pos':Pos}
def ze0 (K:W0) (ta tv:TE) (f:Str):TS:=fun D σ H=>tv σ H fun y H1=>ta σ H1 fun x H2=>∃ a C,x = .ref a∧H2 a=some (.ext (excN C a))∧ExcS K C f∧∀ dx,H2 dx=none→dx≠a→D.nx σ (upd (upd H2 a (.ext (excD C (some dx) a))) dx (.ext (DV.xdAt [(f,y)] dx)))
theorem zeV {f g:Str} {y:V} {u:Value} (r:RelV y u):RelO (List.lookup g [(f,y)]) (if g=f then some u else none):=by
 by_cases z:g=f
 ·subst z; simp [RelO,r]
 ·rw [WG,beq_eq_false_iff_ne.mpr z,if_neg z]; trivial
theorem zcQ (hex:X.ex=[]) (ha:PE X o ta) (hv:PE X value tv) (hs:QB value (some (.Attribute o f pos')) pos.line X.env=pure false):PS X (.Assign [.Attribute o f pos'] value pos) (ze0 X.K ta tv f):=by
 intro pins s σ H D I h
 refine plainObj_wpAny_Assign_Attribute (thn (hv pins s σ H _ I h) fun u s1 ⟨y,H1,I1,ry,q⟩=>thn (ha pins s1 σ H1 _ I1 q) fun ov s2 ⟨x,H2,I2,rx,a,C,ex,ea,c,q2⟩=>?_) hs
 subst ex
 obtain rfl:ov=Value.ref a:=rx
 obtain ⟨⟨vs,sl,a0,e0,e1,e2⟩,_,_⟩:=(show ObjOk X.prog X.w H2 s2.heap a (.ext (excN C a)) from I2.hok a _ ea)
 have n0:=I2.hok.fresh (We s2.heap.objs.size)
 have ne:s2.heap.objs.size≠a:=Nat.ne_of_gt (Wl e0)
 refine zcu I2.kIn e0 c.set c.over c.tk c.hd fun h' tk g1 g2 g3=>⟨σ,_,?_,q2 _ n0 ne⟩
 have Iw:=I2.write (x:=a) (e:=a) (t':=tk) (by rw [ea]; exact True.intro) (.inl rfl) (fun b u nb z=>g2 b u nb z) ⟨_,g1⟩ (zdr (P:=X.prog) (w:=X.w) (H:=upd H2 a (.ext (excD C (some s2.heap.objs.size) a))) ⟨vs,sl,a0,g1,e1,e2⟩)
 exact Iw.track (I2.apart hex (QT (We _)) (by rw [z0f ne]; exact n0)) (xd_ok ⟨_,g3,fun g=>zeV ry⟩)
end
def excI (K:W0) (C f:Addr):Bool:=match K.lookup C with
 | some ⟨.type "type",_,.cls c,ss⟩=>(match c.mro,ss.toList with
  | .ref C' :: bm,[_,_,_,_,some (.builtin n),_]=>C' == C && n == "ValueError.__new__" && !c.hasDel && tailIn K vErr bm && nsOkIn K c.ns && nsIn K c.ns "__init__" == some (some (.ref f))
  | _,_=>false)
 | _=>false
theorem zd4 {K:W0} {h:Heap} {N:Addr} {m:Str→Option Value} {n:Str} {v:Value} (X:K.In h) (G:h.Ns N m) (e:nsIn K N n=some (some v)):m n=some v:=by
 obtain ⟨o,es,ep,ho,hd,_,hf⟩:=G
 unfold nsIn at e
 split at e
 next c d es' n' sl q =>
  have z:=X _ _ q
  rw [ho] at z
  cases z
  simp only at hd
  injection hd with h1 h2
  subst h1
  split at e
  next x hx =>
   cases e
   rw [← hf n]
   unfold nsFind findBy
   rw [← Array.find?_toList,hx]
   rfl
  next=>split at e <;> cases e
 next=>cases e
theorem z85 {K:W0} {C f:Addr} {h:Heap} (q:excI K C f=true) (X:K.In h):∃ (bm:List Value) (N:Addr) (nm qn:Str) (bs:List Value) (hdct:Bool) (sn:List Str) (sub:List Value) (ab:Bool) (col:Option Bool) (dd:Option Addr) (k0 k1 k2 k3 k5:Option Value) (mN:Str→Option Value),
  h.get? C=some (excClassObj nm qn C N bs bm hdct sn sub ab col dd k0 k1 k2 k3 k5 "ValueError.__new__")∧h.Ns N mN∧mN "__init__" = some (.ref f)∧OwnTail h vErr bm:=by
 unfold excI at q
 split at q
 next dd cd sl lk =>
  split at q
  next C' bm k0 k1 k2 k3 n k5 e1 e2 =>
   simp only [Wn,beq_iff_eq,Jm] at q
   obtain ⟨⟨⟨⟨⟨c1,c2⟩,c3⟩,c4⟩,c5⟩,c6⟩:=q
   subst c1; subst c2
   have e3:sl = #[k0,k1,k2,k3,some (.builtin "ValueError.__new__"),k5]:=by
    cases sl; simp only at e2; rw [e2]
   subst e3
   cases cd
   simp only at e1 c3 c4 c5 c6 lk
   subst e1; subst c3
   have hN:=Heap.Ns.of_isNs (isNs_of_in X c5)
   exact ⟨bm,_,_,_,_,_,_,_,_,_,dd,k0,k1,k2,k3,k5,_,X _ _ lk,hN,zd4 X hN c6,tail_of_in X c4⟩
  next=>cases q
 next=>cases q
section
variable {X:Cx} {k:Nat} {f C:Addr} {fd:Wx} {ps:List Str} {sp:Sp} {x:Str} {p pos:Pos} {e:Expr} {es:List Expr} {t:TA}
theorem fn_at {K:W0} {h:Heap} (X:K.In h) (q:isFn K (.ref f)=true):∃ o,h.get? f=some o∧o.cls = .type "function":=by
 have z:(K.lookup f).map (·.cls)=some (.type "function"):=beq_iff_eq.mp q
 obtain ⟨o,lk,e⟩:=WM.mp z
 exact ⟨o,X _ _ lk,e⟩
theorem z99 {pins:List (Addr×Obj)} {σ:St} {H:Hp} {s:W1} {Q:VK} {us:List Value} {vs:List V} (q:excI X.K C f=true) (hfn:isFn X.K (.ref f)=true) (F:FnOk X.prog X.w X.K X.mg X.base CX0 k f fd ps sp) (hr:Room (k + 1) X.A) (hb:Binds X.K fd ps []) (hex:X.ex=[])
  (I:Inv X pins σ H s) (r:Vals vs us) (hl:us.length≤W6)
  (h:∀ a,H a=none→X.s₀.heap.get? a=none→sp (.ref a :: vs) (upd H a (.ext (excN C a))) (fun v H2=>v = .non∧Q (.ref a) H2) E0) :
  W9 (model X.prog X.w) X.A (call (.ref C) us) (EP X pins σ Q) X.xe s:=by
 obtain ⟨bm,N,nm,qn,bs,hdct,sn,sub,ab,col,dd,k0,k1,k2,k3,k5,mN,hC,hN,hi,hT⟩:=z85 q I.kIn
 obtain ⟨o,hf,hfc⟩:=fn_at I.kIn hfn
 obtain ⟨hp,g,d,tk,os⟩:=s
 refine zaA PySem.F.excBase_ValueError hT hC hN hi hf hfc (fun h' a hm=>?_) hl
 obtain ⟨t0,ht,_,_⟩:=hm.there
 have I1:Inv X pins σ H ⟨h',g,d,tk,os⟩:=I.kept (t':=tk) hm.keeps
 have g1:=I.gone hex hm.new
 have ap:=I.apart hex hm.new g1.1
 have I2:Inv X pins σ (upd H a (.ext (excN C a))) ⟨h',g,d,tk,os⟩:=I1.track ap (zdq ⟨_,_,_,ht,rfl,rfl⟩)
 have hq:=h a g1.1 g1.2
 have r2:Vals (V.ref a :: vs) (Value.ref a :: us):=.cons rfl r
 have hln:(Value.ref a :: us ++ []).length=ps.length:=by
  rw [WJ,← r2.length]; exact F.len _ _ _ _ hq
 refine Ji (Qq (F.run _ X.stack _ _ ⟨Value.ref a :: us,[]⟩ (Value.ref a :: us) _ _ E0 (hr.make C us []) (I2.env0.make C us []) (by have:=hb _ (Value.ref a :: us) I2.kIn hln; rwa [WJ] at this) r2 hq) fun rr s' hq'=>?_)
 cases rr with
 | error z=>exact hq'.elim
 | ok fl =>
  cases fl with
  | ret u =>
   obtain ⟨v,H',I3,rv,ev,q3⟩:=I2.after hq'
   subst ev
   exact ⟨rv,⟨V.ref a,H',I3,rfl,q3⟩⟩
  | next=>exact False.elim hq'
  | brk=>exact False.elim hq'
  | cont=>exact False.elim hq'
theorem zb4 (q:excI X.K C f=true) (hfn:isFn X.K (.ref f)=true) (hk:keepIn X.K (.ref C)=true) (F:FnOk X.prog X.w X.K X.mg X.base CX0 k f fd ps sp) (hr:Room (k + 1) X.A) (hb:Binds X.K fd ps []) (hex:X.ex=[]) (hg:Gl X x) (hm:X.mg x=some (.ref C))
  (ha:PA X (e :: es) t) (hl:(e :: es).length≤100) (hdb:(x == ("__debug__" : Str))=false:=by decide) (he:W3 (e :: es) X.env=(false,eval e X.env) :: W3 es X.env:=by rfl) (hpl:(WD pos (W3 es X.env)).any (·.1)=false:=by rfl) :
  PE X (.Call (.Name x p) (e :: es) [] pos) (fun σ H Q=>t σ H fun vs H1=>vs.length≤100∧∀ a,H1 a=none→X.s₀.heap.get? a=none→sp (.ref a :: vs) (upd H1 a (.ext (excN C a))) (fun v H2=>v = .non∧Q (.ref a) H2) E0):=by
 intro pins s σ H Q I h
 refine Q1 (z39 I hg hm ?_ hdb)
 refine callWith_K (h₀:=X.base) I.ok.mod.kin hk (thn (ha pos pins s σ H _ I h) fun us s1 ⟨vs,H1,I1,r,q1⟩=>⟨I1.kIn,?_⟩) he hpl
 exact z99 q hfn F hr hb hex I1 r (by rw [Qv,← r.length,sizeLine_eq]; have:=q1.1; omega) q1.2
end
def spX1 (K:W0) (fl:List Str):Sp:=fun vs H Q _=>∃ a C ys,vs = .ref a :: ys∧ys.length=fl.length∧H a=some (.ext (excN C a))∧(∀ f ∈ fl,ExcS K C f)∧∀ dx,H dx=none→dx≠a→Q .non (upd (upd H a (.ext (excD C (some dx) a))) dx (.ext (DV.xdAt (fl.zip ys) dx)))
section
variable {P:Wd} {w:Wg} {K:W0} {mg:Str→Option Value} {base:Heap} {x qual f1 f2:Str} {st:Stmt} {f:Addr} {fd:Wx} {N ps:List Str} {k:Nat}
theorem zbv (F:Fun K x qual st f fd) (S:FnScope N ps (z00 st)) (hps:ps.length=2) (h0:∀ vs:List V,vs.length=2→start N vs=vs.map some)
  (hbody:∀ (cdv:Value) (A:Wf) (outer:List Env) (s:W1) (H:Hp) (E:XK),Room k (A.deeper (Qb qual (z00 st) s.heap.objs.size f cdv))→PSs (cxOf CX0 P w K mg base N qual (z00 st) f cdv A outer s H E).nox (z0q st) (ze0 K (tVar 0) (tVar 1) f1)) :
  FnOk P w K mg base CX0 (k + 1) f fd ps (spX1 K [f1]):=by
 refine F.ok S (fun vs H Q E ⟨a,C,ys,e,l,_⟩=>by rw [e,hps,WO,l]; rfl) fun cdv A outer s H vs Q E hr ⟨a,C,ys,e,l,ea,c,q⟩=>⟨_,hbody cdv A outer s H E hr,?_⟩
 subst e
 obtain ⟨y,rfl⟩:=List.length_eq_one_iff.mp l
 rw [h0 _ rfl]
 exact ⟨y,rfl,.ref a,rfl,a,C,rfl,ea,c _ (by simp),q⟩
end
theorem ObjOk.less:∀ {b:Addr} {o:HO},ObjOk P w (upd H a (.ext φ)) h b o→ObjOk P w H h b o:=by
 have dn:∀ {c:Addr} {u:HO},upd H a (.ext φ) c=some u→(∀ ψ,u≠.ext ψ)→H c=some u:=fun {c u} e n=>by
  by_cases hc:c=a
  ·subst hc; rw [z0l] at e; cases e; exact absurd rfl (n φ)
  ·rw [z0f hc] at e; exact e
 intro b o
 induction o generalizing b with
 | dT kvs =>
  rintro ⟨h1,h2,xs,h3,h4⟩
  refine ⟨h1,h2,xs,L2.Paired.mapP h3 (fun p q ⟨e1,e2,e3⟩=>⟨e1,dn e2 (fun ψ z=>by cases z),e3⟩),h4⟩
 | ins C dx fs =>
  rintro ⟨h1,h2⟩
  exact ⟨dn h1 (fun ψ z=>by cases z),h2⟩
 | frz ob u ih=>exact fun ⟨h1,h2⟩=>⟨h1,ih h2⟩
 | ctab pos q=>exact fun ⟨ps,h1,h2,h3⟩=>⟨ps,h1,h2,fun cv z=>let ⟨c',oc,z1,z2,z3⟩:=h3 cv z; ⟨c',oc,z1,dn z2 (fun ψ z=>by cases z),z3⟩⟩
 | _=>exact fun x=>x
theorem Inv.untrack (I:Inv X pins σ (upd H a (.ext φ)) s) (hn:H a=none):Inv X pins σ H s:=by
 have dn:∀ {c:Addr} {u:HO},upd H a (.ext φ) c=some u→(∀ ψ,u≠.ext ψ)→H c=some u:=fun {c u} e n=>by
  by_cases hc:c=a
  ·subst hc; rw [z0l] at e; cases e; exact absurd rfl (n φ)
  ·rw [z0f hc] at e; exact e
 have no:∀ {c:Addr},upd H a (.ext φ) c=none→H c=none:=fun {c} e=>by
  by_cases hc:c=a
  ·subst hc; exact hn
  ·rw [z0f hc] at e; exact e
 refine ⟨I.ok,I.os,I.bare,⟨I.base.keep,I.base.slot,fun b o e n hx=>no (I.base.free b o e n hx),I.base.there,fun b xs e=>dn (I.base.tups b xs e) (fun ψ z=>by cases z),fun b o u e=>dn (I.base.frzs b o u e) (fun ψ z=>by cases z),fun b ps e=>?_⟩,I.loc,I.cell,no I.free,fun x c e=>no (I.freeC x c e),fun p hp=>?_,fun b o e=>?_,I.len⟩
 ·obtain ⟨m,q⟩:=I.base.tbls b ps e
  exact ⟨m,dn q (fun ψ z=>by cases z)⟩
 ·obtain ⟨e,n,r⟩:=I.pin p hp
  exact ⟨e,no n,r⟩
 ·have hb:b≠a:=fun z=>by rw [z,hn] at e; cases e
  exact (I.hok b o (by rw [z0f hb]; exact e)).less
section
variable {X:Cx} {C f:Addr} {call:Expr} {te:TE} {pos:Pos}
theorem z9o {W:Option Addr→St→Hp→Prop} (q:excI X.K C f=true) (hc:X.calm=true) (he:PE X call te)
  (hxe:∀ pins σ H s a dx,Inv X pins σ (upd H a (.ext (excD C dx a))) s→H a=none→X.s₀.heap.get? a=none→W dx σ H→X.xe (.ref a) s) :
  PS X (.Raise (some call) none pos) (fun _ σ H=>te σ H fun v H2=>∃ a H1 dx,v = .ref a∧H2=upd H1 a (.ext (excD C dx a))∧H1 a=none∧X.s₀.heap.get? a=none∧W dx σ H1):=by
 intro pins s σ H D I h
 rw [arm_exec_Raise]
 refine W2 (QY (zaW (I.ok.hd hc) (W2 (thn (he pins s σ H _ I h) fun v s1 ⟨x,H2,I2,rx,a,H1,dx,ex,eH,n1,n2,w⟩=>W2 (QY (Wc ?_))))))
 subst ex eH
 obtain rfl:v=Value.ref a:=rx
 obtain ⟨bm,N,nm,qn,bs,hdct,sn,sub,ab,col,dd,k0,k1,k2,k3,k5,mN,hC,hN,hi,hT⟩:=z85 q I2.kIn
 obtain ⟨⟨vs,sl,a0,e0,e1,e2⟩,_,_⟩:=(show ObjOk X.prog X.w (upd H1 a (.ext (excD C dx a))) s1.heap a (.ext (excD C dx a)) from I2.hok a _ z0l)
 exact ⟨a,C,N,dx,vs,sl,nm,qn,bs,bm,hdct,sn,sub,ab,col,dd,k0,k1,k2,k3,k5,_,rfl,hT.hasType rfl,hC,e0,e2,hxe pins σ H1 s1 a dx I2 n1 n2 w⟩
end
end L2
namespace DV
open PySem PySem.Spec PyProof.Rows L2 PySem.W
def z42 (y:Tx) (fl:List Tx) (fs:DA):DS:=fun δ=>(fs δ).bind fun ds δ1=>if ds.length=fl.length then .exc ⟨y,.xd (fl.zip ds)⟩ δ1 else .stuck
theorem ze3 {c:Fc} {σ:St} {δ:Dl} {H:Hp} {dx:Addr} {vs:List V} {fl:List Tx} {ds:List D} (k:Ok c σ δ H) (n:H dx=none) (r:Reps H (Av c σ δ) vs ds) (hl:ds.length=fl.length) :
  Ok c σ δ (upd H dx (.ext (xdAt ((fl.map toS).zip vs) dx)))∧Rep (upd H dx (.ext (xdAt ((fl.map toS).zip vs) dx))) (Av c σ δ) (.ref dx) (.xd (fl.zip ds)):=by
 have r1:=Reps.aft r (Aft.alloc k n (.ext (xdAt ((fl.map toS).zip vs) dx)))
 refine ⟨k.alloc n _,.xd (k.nav n) z0l ?_ fun i p q e1 e2=>?_⟩
 ·rw [List.map_fst_zip (by rw [Wz,r.1,hl]; omega)]
  have z:(fl.zip ds).map (fun p=>toS p.1)=((fl.zip ds).map Prod.fst).map toS:=by rw [Ql]; rfl
  rw [z,List.map_fst_zip (by omega)]
 ·rw [List.getElem?_zip_eq_some] at e1 e2
  exact r1.2 i _ _ e1.2 e2.2
theorem z8U {X:Cx} {c:Fc} {x:Str} {fl:List Str} {C f:Addr} {fd:Wx} {ps:List Str} {k:Nat} {e:Expr} {es:List Expr} {fe:DA} {np cpos pos:Pos} (y:Tx) (gl:List Tx) (q:excI X.K C f=true) (hfn:isFn X.K (.ref f)=true) (hk:keepIn X.K (.ref C)=true) (hS:∀ z ∈ fl,ExcS X.K C z)
  (F:FnOk X.prog X.w X.K X.mg X.base CX0 k f fd ps (spX1 X.K fl)) (hr:Room (k + 1) X.A) (hb:Binds X.K fd ps []) (hc:X.calm=true) (hg:Gl X x) (hm:X.mg x=some (.ref C)) (he:SA X c (e :: es) fe) (hx:XOk X (wD X.mg c)) (hl:(e :: es).length≤100) (hgl:fl=gl.map toS:=by decide +kernel) (hln:fl.length≤100:=by decide) (hy:x=toS y:=by decide +kernel) (hd:(x == ("__debug__" : Str))=false:=by decide) (hex:X.ex=[]:=by rfl)
  (hs:W3 (e :: es) X.env=(false,eval e X.env) :: W3 es X.env:=by rfl) (hpl:(WD cpos (W3 es X.env)).any (·.1)=false:=by rfl):SS X c (.Raise (some (.Call (.Name x np) (e :: es) [] cpos)) none pos) (z42 y gl fe) :=
 PS.weak (z9o (W:=fun dx σ H=>wD X.mg c C dx σ H) q hc (zb4 (p:=np) (pos:=cpos) q hfn hk F hr hb hex hg hm he.pa hl hd hs hpl) fun pins σ H s a dx I n1 n2 w=>by
  obtain ⟨⟨vs,sl,a0,e0,e1,e2⟩,_,_⟩:=(show ObjOk X.prog X.w (upd H a (.ext (excD C dx a))) s.heap a (.ext (excD C dx a)) from I.hok a _ z0l)
  have ne:∀ {b:Addr},upd H a (.ext (excD C dx a)) b=none→a≠b:=fun {b} z e=>by rw [← e,z0l] at z; cases z
  exact hx pins σ H s a C dx (I.untrack n1) (.inr ⟨⟨vs,sl,a0,e0,e1,e2⟩,n2,n1,ne I.free,fun x c hc z=>ne (I.freeC x c hc) z.symm,fun p hp z=>ne (I.pin p hp).2.1 z.symm⟩) w) fun D σ H ⟨δ,k,q⟩=>by
  unfold z42 z1x at q
  rw [z02] at q
  refine ⟨δ,k,z01 q fun ds δ1 q1 vs H1 a1 r1=>?_⟩
  split at q1
  ·rename_i hlen
   have hvl:vs.length=fl.length:=by rw [r1.1,hlen,hgl,Wz]
   refine ⟨by omega,fun a n1 n2=>⟨a,C,vs,rfl,hvl,z0l,hS,fun dx d1 d2=>⟨rfl,a,upd H1 dx (.ext (xdAt (fl.zip vs) dx)),some dx,rfl,?_,?_,n2,?_⟩⟩⟩
   ·funext b
    unfold upd
    by_cases hb:b=a
    ·subst hb; simp [Ne.symm d2]
    ·simp [hb]
   ·rw [z0f (Ne.symm d2)]; exact n1
   ·have d1':H1 dx=none:=by rwa [z0f d2] at d1
    obtain ⟨k1,rx⟩:=ze3 (fl:=gl) a1.ok d1' r1 hlen
    rw [hgl]
    exact ⟨⟨y,.xd (gl.zip ds)⟩,δ1,.ref dx,by rw [← hy]; exact hm,k1,rx,fun z e=>by cases e; rfl,q1⟩
  ·exact q1.elim
def IniK (P:Wd) (w:Wg) (K:W0) (mg:Str→Option Value) (base:Heap) (C:Addr) (fl:List Str):Prop :=
 ∃ (f:Addr) (fd:Wx) (ps:List Str),excI K C f=true∧isFn K (.ref f)=true∧keepIn K (.ref C)=true∧(∀ z ∈ fl,ExcS K C z)∧Binds K fd ps []∧FnOk P w K mg base CX0 1 f fd ps (spX1 K fl)
theorem z8T {X:Cx} {c:Fc} {x:Str} {fl:List Str} {C:Addr} {e:Expr} {es:List Expr} {fe:DA} {np cpos pos:Pos} (y:Tx) (gl:List Tx) (N:IniK X.prog X.w X.K X.mg X.base C fl) (hr:Room 2 X.A) (hc:X.calm=true) (hg:Gl X x) (hm:X.mg x=some (.ref C)) (he:SA X c (e :: es) fe) (hx:XOk X (wD X.mg c)) (hl:(e :: es).length≤100:=by decide) (hgl:fl=gl.map toS:=by decide +kernel) (hln:fl.length≤100:=by decide)
  (hy:x=toS y:=by decide +kernel) (hd:(x == ("__debug__" : Str))=false:=by decide) (hex:X.ex=[]:=by rfl) (hs:W3 (e :: es) X.env=(false,eval e X.env) :: W3 es X.env:=by rfl) (hpl:(WD cpos (W3 es X.env)).any (·.1)=false:=by rfl):SS X c (.Raise (some (.Call (.Name x np) (e :: es) [] cpos)) none pos) (z42 y gl fe):=by
 obtain ⟨f,fd,ps,h1,h2,h3,h4,h5,h6⟩:=N
 exact z8U y gl h1 h2 h3 h4 h6 hr h5 hc hg hm he hx hl hgl hln hy hd hex hs hpl
def zdA:Stmt→List Stmt
 | .ClassDef _ _ _ b _ _ _ _ _ _ _=>b
 | _=>[]
section
variable {X:Cx} {c:Fc} {e:Expr} {fb:BE}
end
end DV
namespace L2
open PySem PySem.Spec PyProof.Rows
section
variable {X:Cx} {tg:Expr}
end
end L2
namespace DV
open PySem PySem.Spec PyProof.Rows L2
section
variable {X:Cx} {c:Fc} {tg e:Expr} {fe:DE} {pos pp:Pos}
end
end DV
namespace PySem.SeqAt
open AutoSeq1 (wpAny_loadPart')
open MeetsSeq
section
variable {A:Wf} {s:W1}
end
end PySem.SeqAt
namespace DV
open PySem PySem.Spec PyProof.Rows L2
end DV
namespace PySem.SeqAt
open AutoSeq1 (wpAny_loadPart')
open MeetsSeq
abbrev prO (dd:Option Addr) (a1 a2:Int) (t1 t2:Tok) (n:Nat) (sl:Array (Option Value)):Obj:={ cls:=.type "tuple",dict:=dd,data:=.seq #[.int a1 t1,.int a2 t2] n,slots:=sl }
def ltP (a1 a2 b1 b2:Int):Bool:=if a1 == b1 then decide (a2 < b2) else decide (a1 < b1)
theorem z8O (l b:Addr) (a1 a2 b1 b2:Int) (t1 t2 u1 u2:Tok) (n n2:Nat) (dd dd2:Option Addr) (sl sl2:Array (Option Value)) :
  Meets (Builtin.«tuple.__lt__» ⟨[.ref l,.ref b],[]⟩)
   (fun _ R s=>s.heap.get? l=some (prO dd a1 a2 t1 t2 n sl)∧s.heap.get? b=some (prO dd2 b1 b2 u1 u2 n2 sl2)∧R (.ok (.ret (.bool (ltP a1 a2 b1 b2)))) s) :=
 .of_wp fun prog w A R s h=>by
  obtain ⟨hp,g,d,tk,os⟩:=s; obtain ⟨hl,hb,h⟩:=h
  have f2:=AutoSeq1.sub_tuple_tuple
  wp_walk using Qt hl,Qt hb,wpAny_forIn_list _ (fun rest c s'=>c.1=none∧s' = ⟨hp,g,d,tk,os⟩ ∧
   (rest=[(.int a1 t1,.int b1 u1),(.int a2 t2,.int b2 u2)]∨(rest=[(.int a2 t2,.int b2 u2)]∧a1=b1)∨(rest=[]∧a1=b1∧a2=b2))) _
  case turn =>
   rintro ⟨y,x⟩ rest c s' ⟨hc,rfl,hz⟩
   rcases hz with hz | ⟨hz,e1⟩ | ⟨hz,_⟩
   ·injection hz with hyx hrest
    cases hyx
    refine W2 (EqAt.int_int a1 t1 b1 u1 prog w _ _ ?_)
    by_cases e:a1=b1
    ·rw [show (a1 == b1)=true by simp [e]]
     wp_walk
     exact ⟨rfl,rfl,.inr (.inl ⟨hrest,e⟩)⟩
    ·rw [show (a1 == b1)=false by simp [e]]
     have hlt:ltP a1 a2 b1 b2=decide (a1 < b1):=by simp [ltP,e]
     rw [hlt] at h
     simp only [Bool.not_false,if_true]
     refine W2 (Jh ?_)
     refine W2 (richCompare_gives (op:=.Lt) (Jj _ _ t1) (Jj _ _ u1) F.slot_int_lt F.entry_int_lt (F.args_int_lt_2 _ _) (gives_int_lt _ _ t1 u1) (fun x=>nomatch x) ?_)
     refine W2 (Wc ?_)
     exact Wc (Wc ⟨_,rfl,h⟩)
   ·injection hz with hyx hrest
    cases hyx
    refine W2 (EqAt.int_int a2 t2 b2 u2 prog w _ _ ?_)
    by_cases e:a2=b2
    ·rw [show (a2 == b2)=true by simp [e]]
     wp_walk
     exact ⟨rfl,rfl,.inr (.inr ⟨hrest,e1,e⟩)⟩
    ·rw [show (a2 == b2)=false by simp [e]]
     have hlt:ltP a1 a2 b1 b2=decide (a2 < b2):=by simp [ltP,e1]
     rw [hlt] at h
     simp only [Bool.not_false,if_true]
     refine W2 (Jh ?_)
     refine W2 (richCompare_gives (op:=.Lt) (Jj _ _ t2) (Jj _ _ u2) F.slot_int_lt F.entry_int_lt (F.args_int_lt_2 _ _) (gives_int_lt _ _ t2 u2) (fun x=>nomatch x) ?_)
     refine W2 (Wc ?_)
     exact Wc (Wc ⟨_,rfl,h⟩)
   ·cases hz
  case fin =>
   rintro ⟨c1,c2⟩ s' ⟨hc,rfl,hz⟩
   simp only at hc
   subst hc
   rcases hz with hz | ⟨hz,e1⟩ | ⟨_,e1,e2⟩
   ·cases hz
   ·cases hz
   ·have hlt:ltP a1 a2 b1 b2=false:=by simp [ltP,e1,e2]
    rw [hlt] at h
    wp_walk
    exact ⟨_,rfl,h⟩
  case h=>exact ⟨rfl,rfl,.inl rfl⟩
end PySem.SeqAt
namespace PySem
open SeqAt (prO ltP z8O)
section
variable {prog:Wd} {w:Wg} {A:Wf} {R:Result→W1→Prop} {I:Addr} {fp wr:List Addr} {n:Nat} {P:Nat→Value→Prop} {St:Nat→Heap→Prop}
end
section
variable {prog:Wd} {w:Wg} {A:Wf} {E:Value→W1→Prop} {s:W1}
end
end PySem
namespace DV
open PySem PySem.Spec PyProof.Rows L2
open PySem.SeqAt (prO ltP)
section
variable {X:Cx} {c:Fc} {e:Expr} {fb:BE} {pos pp:Pos}
end
section
variable {c:Fc} {σ:St} {δ δ':Dl} {H H':Hp} {p:Addr}
end
end DV
namespace L2
open PySem PySem.Spec PyProof.Rows
end L2
namespace DV
open PySem PySem.Spec PyProof.Rows L2
section
variable {X:Cx} {c:Fc} {tg e:Expr} {fe:DE} {pos pp:Pos}
end
section
variable {K:W0} {h:Heap} {mg:Str→Option Value} {x q:Str} {st:Stmt} {f:Addr} {fd:Wx}
abbrev FnH (K:W0) (x:Str) (st:Stmt):Prop:=∃ (f:Addr) (oc:Value) (od:Option Addr) (kV dc pm:Value) (an:Option Addr) (cd ct:Value) (sl:Array (Option Value)),
 PySem.W.nsIn K Wj x=some (some (.ref f))∧K.lookup f=some ⟨oc,od,.func (WF x x (z18 st) (z0q st) (z00 st) .none kV dc pm an cd ct),sl⟩∧PySem.W.codeIn K cd x=true∧WN K (.ref f)=true
theorem fnH (X:K.In h) (G:h.Ns Wj mg) (d:FnH K x st):∃ f fd,Fun K x x st f fd∧mg x=some (.ref f):=by
 obtain ⟨f,oc,od,kV,dc,pm,an,cd,ct,sl,a,l,c,k⟩:=d
 exact ⟨f,_,z84 l c k,PySem.W.mg_of X G a⟩
abbrev Bd (x q:Str) (st:Stmt) (ps:List Str) (us:List Value):Prop:=∀ (kV doc pm:Value) (an:Option Addr) (cdv ct:Value),bindArgs (WF x q (z18 st) (z0q st) (z00 st) .none kV doc pm an cdv ct) ⟨us,[]⟩=pure (ps.zip us)
variable {p1 p2 p3 p4 p5 p6:Str}
theorem bd1 (F:Fun K x q st f fd) (h:∀ a,Bd x q st [p1] [a]):Binds K fd [p1] []:=F.binds fun _ _ _ _ _ _ us hl=>match us,hl with
 | [a],_=>h a _ _ _ _ _ _
theorem bd2 (F:Fun K x q st f fd) (h:∀ a b,Bd x q st [p1,p2] [a,b]):Binds K fd [p1,p2] []:=F.binds fun _ _ _ _ _ _ us hl=>match us,hl with
 | [a,b],_=>h a b _ _ _ _ _ _
theorem bd3 (F:Fun K x q st f fd) (h:∀ a b c,Bd x q st [p1,p2,p3] [a,b,c]):Binds K fd [p1,p2,p3] []:=F.binds fun _ _ _ _ _ _ us hl=>match us,hl with
 | [a,b,c],_=>h a b c _ _ _ _ _ _
theorem bd4 (F:Fun K x q st f fd) (h:∀ a b c d,Bd x q st [p1,p2,p3,p4] [a,b,c,d]):Binds K fd [p1,p2,p3,p4] []:=F.binds fun _ _ _ _ _ _ us hl=>match us,hl with
 | [a,b,c,d],_=>h a b c d _ _ _ _ _ _
theorem bd5 (F:Fun K x q st f fd) (h:∀ a b c d e,Bd x q st [p1,p2,p3,p4,p5] [a,b,c,d,e]):Binds K fd [p1,p2,p3,p4,p5] []:=F.binds fun _ _ _ _ _ _ us hl=>match us,hl with
 | [a,b,c,d,e],_=>h a b c d e _ _ _ _ _ _
end
theorem fm1 {α:Type} {P:α→Prop} {a:α} (x:P a):∀ z ∈ [a],P z:=fun _ h=>by cases h with | head=>exact x | tail _ h=>cases h
theorem fm2 {α:Type} {P:α→Prop} {a b:α} (x:P a) (y:P b):∀ z ∈ [a,b],P z:=fun _ h=>by cases h with | head=>exact x | tail _ h=>exact fm1 y _ h
theorem fm3 {α:Type} {P:α→Prop} {a b c:α} (x:P a) (y:P b) (w:P c):∀ z ∈ [a,b,c],P z:=fun _ h=>by cases h with | head=>exact x | tail _ h=>exact fm2 y w _ h
end DV
namespace L2
open PySem PySem.Spec PyProof.Rows
section
variable {X:Cx} {tg:Expr}
end
section
variable {X:Cx} {e:Expr} {ta:TE} {f:Str} {pos:Pos}
structure AtT (K:W0) (ce:DV.Tx→Nat) (ys:List DV.Tx) (f:Str):Prop where
 k:∀ z ∈ ys,ExcK K (ce z)
 no:∀ z ∈ ys,QQ K (.ref (ce z)) f=some none
 hd:∀ z ∈ ys,Jl K (ce z)=true
theorem zew (T:AtT X.K ce ys f) (he:PE X e ta) (hb:Q9 e f X.env (eval e X.env)=eval e X.env) :
  PE X (.Attribute e f pos) (fun σ H Q=>ta σ H fun x H1=>∃ (a dx:Addr) (z:DV.Tx) (fs:List (Str×V)) (v:V),x = .ref a∧z ∈ ys∧H1 a=some (.ext (DV.excAt (ce z) (.ref dx) a))∧H1 dx=some (.ext (DV.xdAt fs dx))∧fs.lookup f=some v∧Q v H1):=by
 intro pins s σ H Q I h
 refine zdC hb (thn (he pins s σ H _ I h) fun u s1 ⟨x,H1,I1,rx,a,dx,z,fs,v,ex,hz,ea,ed,l,q⟩=>?_)
 subst ex
 obtain rfl:u=Value.ref a:=rx
 obtain ⟨⟨⟨cls,dd,data,sl⟩,o1,o2,o3,vs,o4⟩,_,_⟩:=(show ObjOk X.prog X.w H1 s1.heap a (.ext (DV.excAt (ce z) (.ref dx) a)) from I1.hok a _ ea)
 obtain ⟨⟨mA,ns,rl⟩,_,_⟩:=(show ObjOk X.prog X.w H1 s1.heap dx (.ext (DV.xdAt fs dx)) from I1.hok dx _ ed)
 have o5:dd=some dx:=o3 dx rfl
 have o6:cls = .ref (ce z):=o2
 have o7:data = .fields vs:=o4
 subst o5; subst o6; subst o7
 obtain ⟨w,hw,rw'⟩:=RelO.some_of (by rw [← l]; exact rl f)
 exact zdj I1.kIn o1 ns (T.k z hz) (T.no z hz) (T.hd z hz) hw (za6 rw') ⟨v,H1,I1.tok _,rw',q⟩
end
end L2
namespace DV
open PySem PySem.Spec PyProof.Rows L2
section
variable {X:Cx} {c:Fc} {tg e:Expr} {fe:DE} {pos pp:Pos}
def zai (ce:Tx→Nat) (ys:List Tx) (f:Tx) (fb:BE):DE:=fun δ=>(fb δ).bind fun d δ'=>match d with
 | .exc n (.xd fs)=>match ys.find? (fun z=>ce z == n),fs.lookup f with
  | some _,some d=>.ok (.pure d) δ'
  | _,_=>.stuck
 | _=>.stuck
theorem z5o:∀ {fs:List (Str×V)} {ds:List (Tx×D)} {d:D},fs.map (·.1)=ds.map (fun p=>toS p.1)→(∀ (i:Nat) p q,fs[i]? = some p→ds[i]? = some q→Rep H O p.2 q.2)→ds.lookup f=some d→∃ v,fs.lookup (toS f)=some v∧Rep H O v d
 | _,[],_,_,_,h=>by simp at h
 | [],_ :: _,_,h,_,_=>by simp at h
 | p :: fs,q :: ds,d,h1,h2,h=>by
  obtain ⟨n,v⟩:=p
  obtain ⟨g,e⟩:=q
  simp only [Wu,Jp] at h1
  obtain ⟨rfl,h1⟩:=h1
  by_cases z:f=g
  ·subst z
   simp only [WG,beq_self_eq_true,W7] at h
   subst h
   exact ⟨v,by simp,h2 0 _ _ rfl rfl⟩
  ·have zs:toS f≠toS g:=fun w=>z (z5y w)
   rw [WG,beq_eq_false_iff_ne.mpr z] at h
   rw [WG,beq_eq_false_iff_ne.mpr zs]
   exact z5o h1 (fun i p q e1 e2=>h2 (i + 1) p q (by simpa using e1) (by simpa using e2)) h
theorem zcA (f:Tx) (T:AtT X.K ce ys x) (he:SB X c e fb) (hx:x=toS f:=by decide +kernel) (hb:Q9 e x X.env (eval e X.env)=eval e X.env:=by rfl):SE X c (.Attribute e x pos) (zai ce ys f fb) :=
 PE.weak (zew T he hb) fun σ H Q ⟨δ,k,q⟩=>by
  unfold zai at q
  rw [z02] at q
  refine ⟨δ,k,z01 q fun d δ1 q1 v H1 a1 r1=>?_⟩
  cases d <;> first | exact q1.elim | skip
  rename_i n fl
  cases fl <;> first | exact q1.elim | skip
  rename_i ds
  simp only at q1
  split at q1
  ·rename_i z d hz hd
   have h1:=List.find?_some hz
   have h2:=List.mem_of_find?_eq_some hz
   have e:ce z=n:=by simpa using h1
   subst e
   rcases r1 with r1 | ⟨a,_,o⟩
   ·cases r1 with
    | exc _ ha r2 =>
     cases r2 with
     | xd _ hx2 h3 h4 =>
      obtain ⟨v,l,rv⟩:=z5o h3 h4 hd
      exact ⟨_,_,z,_,v,rfl,h2,ha,hx2,by rw [hx]; exact l,q1 _ H1 a1 rv⟩
   ·exact o.elim
  ·exact q1.elim
end
end DV
namespace L2
open PySem PySem.Spec PyProof.Rows
section
variable {X:Cx}
end
end L2
namespace DV
open PySem PySem.Spec PyProof.Rows L2
end DV
namespace L2
open PySem PySem.Spec PyProof.Rows PySem.SeqAt DV
def zdh (z:Str):Value→Bool
 | .str x _=>x == z
 | _=>false
theorem zch (h:Vals xs us):∀ (j:Nat) (u:Value),us[j]? = some u→∃ v,xs[j]? = some v∧RelV v u:=by
 induction h with
 | nil=>intro j u e; simp at e
 | cons r rs ih =>
  intro j u e
  cases j with
  | zero=>simp at e; subst e; exact ⟨_,rfl,r⟩
  | succ j=>simpa using ih j u (by simpa using e)
def zef (K:W0):V→List V→Hp→VK→Prop:=fun x xs H Q=>∃ (a:Addr) (ts:List Tx) (z:Tx),x = .ref a∧xs=[.str (toS z)]∧SqL K H a (ts.map fun t=>V.str (toS t))∧z ∈ ts∧ts.length≤1000∧Q (.int (ts.idxOf z:Nat)) H
section
variable {X:Cx}
theorem zd8:MtR X "list.index" (zef X.K):=by
 intro pins s σ H x xs v us Q I rx rs h
 obtain ⟨a,ts,z,rfl,rfl,hq,hm,hl,q⟩:=h
 obtain ⟨u,rfl,ru⟩:=z3L rs
 obtain ⟨tk,rfl⟩:=ru
 cases rx
 obtain ⟨its,r',p,_⟩:=I.list hq
 obtain ⟨⟨cls,dd,data,sl⟩,ho,hc,n,hd⟩:=p.isList
 simp only at hc hd
 subst hc; subst hd
 have at':∀ j (hj:j < its.length),∃ t tk,ts[j]? = some t∧its[j] = .str (toS t) tk:=fun j hj=>by
  obtain ⟨v,e1,r1⟩:=zch r' j _ (Wh hj)
  rw [Wv] at e1
  obtain ⟨t,e2,e3⟩:=WM.mp e1
  subst e3
  obtain ⟨tk,e4⟩:=r1
  exact ⟨t,tk,e2,e4⟩
 have hlen:its.length=ts.length:=by have:=r'.length; simpa using this.symm
 have hj:ts.idxOf z < ts.length:=List.idxOf_lt_length_iff.mpr hm
 have hj':ts.idxOf z < its.length:=by omega
 refine QW QI ⟨_,ho,rfl⟩ PySem.F.entry_list_index (PySem.F.args_list_index_2 _ _) (list_indexAt a _ n dd sl (.str (toS z) tk) (zdh (toS z)) (ts.idxOf z) (by simpa using hj') (by omega) ?_ ?_) ⟨ho,fun y hy=>?_,⟨.int (ts.idxOf z:Nat),H,I.tok _,⟨_,rfl⟩,q⟩⟩
 ·obtain ⟨t,tk',e1,e2⟩:=at' _ hj'
  have e3:ts[ts.idxOf z]=z:=List.getElem_idxOf hj
  rw [Wh hj,e3] at e1
  cases e1
  simp only [List.getElem_toArray,e2,zdh]
  exact beq_self_eq_true _
 ·intro m hm' hlt
  have hm1:m < its.length:=by simpa using hm'
  obtain ⟨t,tk',e1,e2⟩:=at' m hm1
  have hne:t≠z:=fun e=>by
   subst e
   have hm2:m < ts.length:=by omega
   have z2:=List.not_of_lt_findIdx (p:=(· == t)) (xs:=ts) (i:=m) hlt
   rw [Wh hm2] at e1
   cases e1
   simp at z2
  simp only [List.getElem_toArray,e2,zdh]
  rw [z5A]
  exact beq_false_of_ne hne
 ·have hy':y ∈ its:=by simpa using hy
  obtain ⟨j,hjj,rfl⟩:=List.getElem_of_mem hy'
  obtain ⟨t,tk',e1,e2⟩:=at' j hjj
  rw [e2]
  exact EqAt.str_str _ _ _ _
end
end L2
namespace DV
open PySem PySem.Spec PyProof.Rows L2
def isLD:D→Bool
 | .lst _=>true
 | _=>false
def z8m (x y:D):Option S:=match x,y with
 | .lst ds,.str z=>match z2b ds with
  | some ts=>if z ∈ ts∧ts.length≤1000 then some (.pure (.int (ts.idxOf z:Nat))) else none
  | none=>none
 | _,_=>none
def zah (i:Nat) (fb:DE):DE:=fun δ=>match δ[i]? with
 | some (some s)=>if isLD s.d then (fb δ).bind fun y δ1=>match δ1[i]? with
  | some (some s)=>p2 z8m s.d y.d δ1
  | _=>.stuck else .stuck
 | _=>.stuck
section
variable {X:Cx} {c:Fc} {o e:Expr} {fa fb:DE}
theorem zd1 {K:W0}:Op2 (fun x y H Q=>zef K x [y] H Q) z8m:=by
 intro c σ δ H x y d e s Q k rx ry hp q
 cases d with
 | lst ds =>
  cases e with
  | str z =>
   simp only [z8m] at hp
   split at hp
   ·rename_i ts ht
    split at hp
    ·rename_i hz
     cases hp
     obtain ⟨a,vs,ea,ha,r⟩:=rx.lst
     have ev:=z1K ht r
     subst ev
     exact ⟨a,ts,z,ea,by rw [ry.str],.inl ha,hz.1,hz.2,q _ H (.refl k) (.int _)⟩
    ·cases hp
   ·cases hp
  | _=>simp [z8m] at hp
 | _=>simp [z8m] at hp
theorem zcy (he:PE X o (tVar i)) (hx:SE X c e fb)
  (hbase:Q9 o "index" X.env (eval o X.env)=eval o X.env:=by rfl)
  (hfew:((WD cpos (W3 [e] X.env)).all (fun x=>!x.1) && (backToKw cpos (QO [] X.env)).all (fun x=>x.1.isSome)
   && decide ([e].length + ([]:List Keyword).length + (if ([]:List Keyword).isEmpty then 0 else 1) < 30))=true:=by rfl)
  (hline:(apos.endLine == cpos.line)=true:=by rfl) (hs:W3 [e] X.env=(false,eval e X.env) :: W3 [] X.env:=by rfl) :
  SE X c (.Call (.Attribute o "index" apos) [e] [] cpos) (zah i fb):=by
 refine PE.weak (z9x QH QI PySem.F.type_list_index zd8 he (z0M hx z1F hs) hbase hfew hline hs rfl) fun σ H Q h=>?_
 obtain ⟨δ,k,q⟩:=h
 unfold zah at q
 cases e0:δ[i]? with
 | none=>rw [e0] at q; exact q.elim
 | some o =>
  cases o with
  | none=>rw [e0] at q; exact q.elim
  | some w =>
   rw [e0] at q
   simp only at q
   split at q
   case isFalse=>exact q.elim
   rename_i hL
   obtain ⟨v,ev⟩:=z1J k e0
   have rb:=z76 k e0 ev
   have ty:tyV X.K "list" v H:=by
    cases hd:w.d <;> rw [hd] at hL <;> try cases hL
    rw [hd] at rb
    obtain ⟨a,vs,ea,ha,_⟩:=rb.lst
    subst ea
    exact .inl ⟨rfl,_,.inl ha⟩
   rw [z02] at q
   refine ⟨v,ev,ty,δ,k,z01 q fun y δ1 q1 u H1 a1 r1=>?_⟩
   cases e:δ1[i]? with
   | none=>rw [e] at q1; exact q1.elim
   | some o =>
    cases o with
    | none=>rw [e] at q1; exact q1.elim
    | some w1 =>
     rw [e] at q1
     have rb1:=z76 a1.ok e ev
     exact z7d zd1 a1.ok rb1 (.inl r1.rep) (z01 q1 fun s δ3 q3 v' H3 a3 r3=>q3 v' H3 (a1.trans a3) (RepS.back r3 a1))
end
end DV
namespace L2
open PySem PySem.Spec PyProof.Rows PySem.W DV
section
variable {α β:Type} {n:Nat}
end
section
variable {n:Nat} {p:Array Nat}
end
structure TupK (h:Heap) (vs:List Value) (ks:List Tx):Prop where
 len:ks.length=vs.length
 at':∀ i v,vs[i]? = some v→∃ b o xs m t,v = .ref b∧h.get? b=some o∧o.cls = .type "tuple"∧o.data = .seq xs m∧xs[0]? = some (.str (toS (ks.getD i [])) t)
section
variable {prog:Wd} {w:Wg} {A:Wf} {E:Value→W1→Prop} {s:W1} {vs:List Value} {ks:List Tx}
end
section
variable {X:Cx}
end
end L2
namespace DV
open PySem PySem.Spec PyProof.Rows L2
section
variable {X:Cx} {c:Fc} {e:Expr} {fb:BE} {pp pos:Pos}
end
section
variable {X:Cx} {c:Fc} {e:Expr} {fe:DE} {fb:BE} {pos:Pos}
end
section
variable {X:Cx}
end
section
variable {X:Cx} {c:Fc} {e:Expr} {fb:BE}
end
section
variable {X:Cx} {c:Fc} {e:Expr} {fe:DE}
end
section
variable {H H':Hp} {O:Addr→Prop} {v:V} {a:Addr} {us:List V}
end
section
variable {c:Fc} {σ:St} {δ δ1:Dl} {H H1:Hp} {i:Nat} {ds:List D} {g:Xc→Dl→Prop}
end
section
variable {X:Cx} {c:Fc} {e:Expr} {es:List Expr} {as:List Ak} {k n i:Nat} {x:Str} {G:DX} {pp pos:Pos}
end
section
variable {c:Fc} {σ σ':St} {δ δ':Dl} {H H':Hp} {B':Addr→Prop} {g:Xc→Dl→Prop} {i0:Nat} {a:Addr} {ds:List D}
end
end DV
namespace L2
open PySem PySem.Spec PyProof.Rows PySem.W DV
section
variable {prog:Wd} {w:Wg} {A:Wf} {E:Value→W1→Prop} {s:W1} {vs:List Value}
end
section
variable {lt:Nat→Nat→Bool} {r:Nat→Nat} {n:Nat} {α β:Type}
structure Lt (lt:Nat→Nat→Bool) (r:Nat→Nat) (n:Nat):Prop where
 lt:∀ i j,i < n→j < n→lt i j=decide (r i < r j)
 inj:∀ i j,i < n→j < n→i≠j→r i≠r j
end
end L2
namespace DV
open PySem PySem.Spec PyProof.Rows L2
section
variable {X:Cx} {c:Fc} {e:Expr} {fb:BE} {pp pos:Pos}
end
end DV
set_option maxHeartbeats 1000000
namespace SU
open PySem PyProof.Rows
def bt (w:Wg):Bool:=w.params.followText "set-order"
def elE (prog:Wd) (w:Wg) (x:Str×Tok):Int×Value:=((strKind prog w).hash x.1,.str x.1 x.2)
structure SetX (prog:Wd) (w:Wg) (h:Heap) (a:Addr) (ks:List Str) (o:Obj) (es:Array (Int×Value)) (ep:Nat) (t:SetTable) (xs:List (Str×Tok)):Prop where
 g:h.get? a=some o
 ex:o.ExactSet
 d:o.data = .set es ep t
 e:es.toList=xs.map (elE prog w)
 p:(xs.map (·.1)).Perm ks
 nd:ks.Nodup
 f:t.fits es.size=true
 b:es.size < scanBound
 l:bt w=false→t.led=true
 q:t.plain=true→ks=[]
def SetL (prog:Wd) (w:Wg) (h:Heap) (a:Addr) (ks:List Str):Prop:=∃ o es ep t xs,SetX prog w h a ks o es ep t xs
def dd (σ:List Str) (v:Str):List Str:=if v ∈ σ then σ else σ ++ [v]
section
variable {prog:Wd} {w:Wg} {A:Wf} {E:Value→W1→Prop} {s:W1}
section
variable {h:Heap} {a:Addr} {ks:List Str} {o:Obj} {es:Array (Int×Value)} {ep:Nat} {t:SetTable} {xs:List (Str×Tok)}
end
end
section
variable {prog:Wd} {w:Wg} {A:Wf} {R:Result→W1→Prop} {I:Addr} {fp wr:List Addr} {G:Array GenState→Array GenState→Prop} {n:Nat} {P:Nat→Value→Prop} {St:Nat→W1→Prop}
end
section
variable {prog:Wd} {w:Wg} {A:Wf} {E:Value→W1→Prop} {s:W1}
end
section
variable {mask:Nat} {owner:Array (Option Nat)}
end
section
variable {prog:Wd} {w:Wg} {A:Wf} {E:Value→W1→Prop} {s:W1}
theorem z72 {α β:Type} {f:α→β→Sem (ForInStep β)} {Q:β→W1→Prop} (J:List α→β→W1→Prop)
  (step:∀ x r b s,J (x :: r) b s→W9 (model prog w) A (f x b) (fun st s'=>∃ b',st = .yield b'∧J r b' s') E s):∀ (l:List α) (b:β) (s:W1),J l b s→(∀ b' s',J [] b' s'→Q b' s')→W9 (model prog w) A (forIn l b f) Q E s
 | [],b,s,h,q=>by
  rw [List.forIn_nil]
  exact Wc (q b s h)
 | x :: l,b,s,h,q=>by
  rw [List.forIn_cons]
  refine W2 (WH (step x l b s h) (fun st s' ⟨b',e,h'⟩=>?_) fun _ _ e=>e)
  subst e
  exact z72 J step l b' s' h' q
theorem zcg {α β:Type} {f:α→β→Sem (ForInStep β)} {Q:β→W1→Prop} (J:List α→β→W1→Prop)
  (step:∀ x r b s,J (x :: r) b s→W9 (model prog w) A (f x b) (fun st s'=>∃ b',st = .yield b'∧J r b' s') E s) (l:Array α) (b:β) (s:W1) (h:J l.toList b s) (q:∀ b' s',J [] b' s'→Q b' s'):W9 (model prog w) A (forIn l b f) Q E s:=by
 rw [← Array.forIn_toList]
 exact z72 J step l.toList b s h q
theorem quiet {l:List Addr} {Q:Bool→W1→Prop} (hl:∀ a ∈ l,∃ ks,SetL prog w s.heap a ks) (h:Q true s):W9 (model prog w) A (setsQuiet l) Q E s:=by
 unfold setsQuiet
 refine W2 (z72 (fun r b s'=>b=(none,())∧s'=s∧∀ a ∈ r,∃ ks,SetL prog w s.heap a ks) ?st l _ s ⟨rfl,rfl,hl⟩ ?fin)
 case fin =>
  rintro b s' ⟨rfl,rfl,_⟩
  exact Wc h
 case st =>
  rintro a r b s' ⟨rfl,rfl,e3⟩
  obtain ⟨ks,x⟩:=e3 a Wm
  obtain ⟨o,es,ep,t,xs,x⟩:=x
  refine W2 (wpAny_setEntries_of x.g x.d x.f ?_)
  refine W2 (zcg (fun r b s''=>b=(none,())∧s''=s'∧∀ e ∈ r,∃ z,e=elE prog w z) ?st es _ s' ⟨rfl,rfl,fun e he=>?el⟩ ?fin)
  case st =>
   rintro e r b s'' ⟨rfl,rfl,q3⟩
   obtain ⟨z,rfl⟩:=q3 e Wm
   exact Wc ⟨_,rfl,rfl,rfl,fun e he=>q3 e (Wi _ he)⟩
  case el =>
   rw [x.e] at he
   obtain ⟨z,_,rfl⟩:=Qm.mp he
   exact ⟨z,rfl⟩
  case fin =>
   rintro b s'' ⟨rfl,rfl,_⟩
   exact Wc ⟨_,rfl,rfl,rfl,fun a ha=>e3 a (Wi _ ha)⟩
end
section
variable {prog:Wd} {w:Wg} {A:Wf} {E:Value→W1→Prop} {s:W1}
end
section
variable {prog:Wd} {w:Wg} {A:Wf} {E:Value→W1→Prop} {s:W1}
section
variable {a it:Addr} {ks:List Str} {o:Obj} {es:Array (Int×Value)} {ep:Nat} {t:SetTable} {xs:List (Str×Tok)} {i:Nat}
end
end
section
variable {prog:Wd} {w:Wg} {A:Wf} {E:Value→W1→Prop} {s:W1}
variable {a it:Addr} {ks:List Str} {o:Obj} {es:Array (Int×Value)} {ep:Nat} {t:SetTable} {xs:List (Str×Tok)} {i:Nat}
end
section
variable {prog:Wd} {w:Wg} {A:Wf} {E:Value→W1→Prop} {s:W1}
variable {a it:Addr} {ks:List Str} {o:Obj} {es:Array (Int×Value)} {ep:Nat} {t:SetTable} {xs:List (Str×Tok)} {i:Nat}
end
section
variable {prog:Wd} {w:Wg} {A:Wf} {E:Value→W1→Prop} {s:W1}
end
end SU
set_option maxHeartbeats 400000
namespace L2
open PySem PySem.Spec PyProof.Rows PySem.W DV SU
section
variable {X:Cx}
theorem vals_strs:∀ {vs:List Value} {ss:List Str},StrsAre vs ss→Vals (ss.map V.str) vs
 | _,_,.nil=>.nil
 | _,_,.cons x t h=>.cons ⟨t,rfl⟩ (vals_strs h)
end
end L2
namespace DV
open PySem PySem.Spec PyProof.Rows L2 SU
section
variable {X:Cx} {c:Fc} {a b:Expr} {f g:DE} {pp pos p1 p2' p3 p4 p5:Pos}
end
end DV
namespace L2
open PySem PySem.Spec PyProof.Rows PySem.W DV
section
variable {X:Cx}
end
end L2
namespace DV
open PySem PySem.Spec PyProof.Rows L2
section
variable {X:Cx} {c:Fc} {e:Expr} {fb:BE} {pp pos:Pos}
end
section
variable {X:Cx}
end
section
variable {X:Cx} {c:Fc} {o e:Expr} {fa fb:DE}
end
end DV
set_option maxHeartbeats 3200000
namespace SU
open PySem PyProof.Rows
section
variable {prog:Wd} {w:Wg} {A:Wf} {E:Value→W1→Prop} {s:W1}
end
end SU
set_option maxHeartbeats 1000000
namespace DV
open PySem (sizeLine)
open L2
section
variable {α β:Type}
@[simp] theorem z0K (a:α) (δ:Dl) (f:α→Dl→Rs β):(Rs.ok a δ).bind f=f a δ:=id rfl
@[simp] theorem zbz (f:α→Dl→Rs β):(Rs.stuck:Rs α).bind f = .stuck:=id rfl
@[simp] theorem zfj (d:D):(S.pure d).d=d:=id rfl
@[simp] theorem ev_d2 (d:D):(S.own d).d=d:=id rfl
end
section
variable (δ:Dl) (i:Nat) (d e:D) (f g:DE) (fb:BE) (t u:DT) (p:D→D→Option S)
@[simp] theorem zfi:eD d δ = .ok (.pure d) δ:=id rfl
@[simp] theorem zca:bOf f δ=(f δ).bind fun r δ'=>.ok r.d δ':=id rfl
@[simp] theorem zfh:eOp p f fb δ=(f δ).bind fun x δ1=>(fb δ1).bind fun y δ2=>p2 p x.d y δ2:=id rfl
@[simp] theorem ev_dAnd:dAnd t u δ=(t δ).bind fun b δ1=>if b then u δ1 else .ok false δ1:=id rfl
@[simp] theorem ev_dOr:dOr t u δ=(t δ).bind fun b δ1=>if b then .ok true δ1 else u δ1:=id rfl
@[simp] theorem ev_dNot:dNot t δ=(t δ).bind fun b δ1=>.ok (!b) δ1:=id rfl
@[simp] theorem ev_eIf:eIf t f g δ=(t δ).bind fun b δ1=>if b then f δ1 else g δ1:=id rfl
@[simp] theorem ev_dNext:z19 δ = .ok .next δ:=id rfl
@[simp] theorem ev_dYes:dYes δ = .ok true δ:=id rfl
@[simp] theorem ev_dDrop:z43 f δ=(f δ).bind fun _ δ1=>.ok .next δ1:=id rfl
@[simp] theorem ev_dRet:dRet f δ=(f δ).bind fun r δ1=>.ok (.ret r) δ1:=id rfl
@[simp] theorem ev_dIf (a b:DS):dIf t a b δ=(t δ).bind fun x δ1=>if x then a δ1 else b δ1:=id rfl
@[simp] theorem zdt (it:DI) (gg:DG) (b:DS):dFor it gg b δ=(it δ).bind fun ds δ1=>forL gg b ds δ1:=id rfl
@[simp] theorem ev_eTup (a:DA):eTup a δ=(a δ).bind fun ds δ'=>.ok (.pure (.tup ds)) δ':=id rfl
@[simp] theorem ev_eLst (a:DA):eLst a δ=(a δ).bind fun ds δ'=>.ok (.own (.lst ds)) δ':=id rfl
@[simp] theorem ev_eLstC (ds:List D):z4f ds δ = .ok (.own (.lst ds)) δ:=id rfl
@[simp] theorem ev_aNil:aNil δ = .ok [] δ:=id rfl
@[simp] theorem ev_aCons (a:DA):z0a f a δ=(f δ).bind fun x δ1=>(a δ1).bind fun xs δ2=>.ok (x.d :: xs) δ2:=id rfl
@[simp] theorem ev_eC1 (q:D→Option S):eC1 q fb δ=(fb δ).bind fun x δ1=>p1 q x δ1:=id rfl
@[simp] theorem ev_eMax:eMax f g δ=(f δ).bind fun x δ1=>(g δ1).bind fun y δ2=>p2 pMax x.d y.d δ2:=id rfl
@[simp] theorem ev_eSl (fl fh:DOp):eSl f fl fh δ=(f δ).bind fun x δ1=>(fl δ1).bind fun l δ2=>(fh δ2).bind fun h δ3=>p1 (pSl l h) x.d δ3:=id rfl
@[simp] theorem ev_oNone:oNone δ = .ok none δ:=id rfl
@[simp] theorem zby (cs:List Nat) (it:DI) (gg:DG) (el:DE):z2t cs it gg t el δ=(it δ).bind fun ds δ1=>if cs.any (z0Y δ1) then .stuck else
 (z1s cs gg t el ds (clrD cs δ1) []).bind fun acc δ2=>.ok (.own (.lst acc)) (z24 cs δ1 δ2):=id rfl
@[simp] theorem ev_gNm (np:List Nat) (r:S):gNm np i r δ=if np.contains i then none else some (δ.set i (some r)):=id rfl
@[simp] theorem zds (gg:DG) (b:DS):forL gg b [] δ = .ok .next δ:=id rfl
end
section
variable (δ:Dl) (i:Nat) (d e:D) (f g:DE) (fb:BE) (p:D→D→Option S) (s:S)
@[simp] theorem zfg (x y:D):p2 p x y δ=match p x y with | some s=>.ok s δ | none=>.stuck:=id rfl
@[simp] theorem ev_p1 (q:D→Option S) (x:D):p1 q x δ=match q x with | some s=>.ok s δ | none=>.stuck:=id rfl
@[simp] theorem ev_dSeq (a b:DS):dSeq a b δ=(a δ).bind fun fl δ1=>match fl with | .next=>b δ1 | .ret r=>.ok (.ret r) δ1 | .brk=>.ok .brk δ1 | .cont=>.ok .cont δ1:=id rfl
@[simp] theorem zdF {α β:Type} (c:Prop) [Decidable c] (x y:Rs α) (k:α→Dl→Rs β):(if c then x else y).bind k=if c then x.bind k else y.bind k:=by split <;> rfl
end
theorem z1l:W6=16777216:=rfl
theorem z15 (xs:List α) (i:Nat):atI xs (i:Int)=xs[i]?:=by
 unfold atI ixN
 by_cases h:i < xs.length
 ·rw [if_pos (by omega),if_pos (by omega)]
  simp
 ·rw [if_pos (by omega),if_neg (by omega)]
  simp [WT (Nat.le_of_not_lt h)]
theorem z7x (xs:List α):atI xs 2=xs[2]?:=z15 xs 2
theorem z4p (xs:List α):atI xs 0=xs[0]?:=z15 xs 0
theorem z7y (xs:List α):atI xs 1=xs[1]?:=z15 xs 1
theorem z4V (I:Dl→Prop) (R:D→D→Prop) :
  ∀ (ds:List D) (δ:Dl) (acc:List D),I δ→acc.length + ds.length≤W6 →
   (∀ d ∈ ds,∀ δ,I δ→∃ δ1 δ2 x δ3,g (.pure d) δ=some δ1∧t δ1 = .ok true δ2∧el δ2 = .ok x δ3∧I (clrD cs δ3)∧R d x.d) →
   ∃ xs δ',z1s cs g t el ds δ acc = .ok (acc ++ xs) δ'∧I δ'∧xs.length=ds.length∧∀ (i:Nat) d x,ds[i]? = some d→xs[i]? = some x→R d x
 | [],δ,acc,h,_,_=>⟨[],δ,by simp [z1s],h,rfl,fun i d x e=>by simp at e⟩
 | d :: r,δ,acc,h,hl,hs=>by
  obtain ⟨δ1,δ2,x,δ3,e1,e2,e3,h3,hr⟩:=hs d Wm δ h
  have hl':acc.length < W6:=by simp at hl; omega
  obtain ⟨xs,δ',e4,h4,hn,hf⟩:=z4V (g:=g) (t:=t) (el:=el) I R r (clrD cs δ3) (acc ++ [x.d]) h3 (by simp at hl ⊢; omega) (fun d hd=>hs d (Wi _ hd))
  refine ⟨x.d :: xs,δ',?_,h4,by simp [hn],fun i d' x' f1 f2=>?_⟩
  ·unfold z1s
   rw [e1]
   simp only [e2,z0K,if_true,e3,if_pos hl',e4]
   simp
  ·cases i with
   | zero=>simp at f1 f2; subst f1 f2; exact hr
   | succ i=>exact hf i d' x' (by simpa using f1) (by simpa using f2)
theorem zas (F:D→D) (δ:Dl) :
  ∀ (ds:List D) (acc:List D),acc.length + ds.length≤W6 →
   (∀ d ∈ ds,∃ δ1 δ2 x δ3,g (.pure d) δ=some δ1∧t δ1 = .ok true δ2∧el δ2 = .ok x δ3∧clrD cs δ3=δ∧x.d=F d) →
   z1s cs g t el ds δ acc = .ok (acc ++ ds.map F) δ:=by
 intro ds acc hl hs
 obtain ⟨xs,δ',e,h,hn,hf⟩:=z4V (cs:=cs) (g:=g) (t:=t) (el:=el) (fun δ'=>δ'=δ) (fun d x=>x=F d) ds δ acc rfl hl (fun d hd δ' h=>by
  subst h
  obtain ⟨δ1,δ2,x,δ3,a,b,c,d,e⟩:=hs d hd
  exact ⟨δ1,δ2,x,δ3,a,b,c,d,e⟩)
 subst h
 rw [e]
 congr 2
 apply List.ext_getElem?
 intro i
 by_cases hi:i < ds.length
 ·have:=hf i ds[i] (xs[i]'(by omega)) (by simp [hi]) (by simp [hn,hi])
  simp [hn,hi,this]
 ·rw [WT (by omega),WT (by simp; omega)]
theorem z1G (I:Nat→Dl→Prop) :
  ∀ (ds:List D) (n:Nat) (δ:Dl),I n δ →
   (∀ (i:Nat) d δ,ds[i]? = some d→I (n + i) δ→∃ δ1 δ2,g (.pure d) δ=some δ1∧b δ1 = .ok .next δ2∧I (n + i + 1) δ2) →
   ∃ δ',forL g b ds δ = .ok .next δ'∧I (n + ds.length) δ'
 | [],n,δ,h,_=>⟨δ,rfl,h⟩
 | d :: r,n,δ,h,hs=>by
  obtain ⟨δ1,δ2,e1,e2,h2⟩:=hs 0 d δ rfl h
  obtain ⟨δ',e3,h3⟩:=z1G (g:=g) (b:=b) I r (n + 1) δ2 h2 (fun i d' δ' e hi=>by
   have:=hs (i + 1) d' δ' (by simpa using e) (by rw [show n + (i + 1)=n + 1 + i by omega]; exact hi)
   rw [show n + (i + 1) + 1=n + 1 + i + 1 by omega] at this
   exact this)
  refine ⟨δ',?_,by rw [WO,show n + (r.length + 1)=n + 1 + r.length by omega]; exact h3⟩
  unfold forL
  rw [e1]
  simp only [e2,z0K,e3]
theorem z4l (xs:List Tx):z2b (xs.map .str)=some xs:=by
 induction xs with
 | nil=>rfl
 | cons x r ih=>simp [z2b,ih]
theorem z2E:∀ ts:List Tx,z4J [] ts=ts.flatten
 | []=>rfl
 | [x]=>by simp [z4J]
 | x :: y :: r=>by rw [z4J,z2E (y :: r)]; simp
theorem z8z (xs:List Nat):z2z (xs.map fun n=>[n])=xs.length:=by
 unfold z2z
 induction xs with
 | nil=>rfl
 | cons x r ih=>simp at ih ⊢; omega
theorem zbx (xs:List Nat):(xs.map fun n=>[n]).flatten=xs:=by
 induction xs with
 | nil=>rfl
 | cons x r ih=>simp [ih]
theorem zbw (xs:List Nat) (h:xs.length≤16777216):z2y [] (.lst (xs.map fun n=>.str [n]))=some (.pure (.str xs)):=by
 have e:(xs.map fun n=>D.str [n])=(xs.map fun n=>[n]).map D.str:=by simp
 unfold z2y
 simp only [e,z4l,z8z,z2E,zbx]
 rw [if_pos (by simpa using h)]
theorem z3J (r:Tx) (c:Nat) (h:c < r.length) (hl:r.length≤64):pIx (.str r) (.int c)=some (.pure (.str [r.getD c 0])):=by
 unfold pIx
 have:W6=16777216:=rfl
 simp only
 rw [if_pos (by omega),z15]
 simp [h]
abbrev flD (fl:List Tx):D:=.tup (fl.map .str)
structure Rect (w:Nat) (fl:List Tx):Prop where
 h0:0 < fl.length
 h1:fl.length≤64
 w0:0 < w
 w1:w≤64
 all:∀ r ∈ fl,r.length=w
def turn (w:Nat) (fl:List Tx):List Tx:=(Qk w).map fun c=>fl.map fun r=>r.getD c 0
def back (fl:List Tx):List Tx:=fl.map List.reverse
def rng (r:S) (δ1:Dl):Rs (List D):=match r with
 | .pure (.int j)=>if z5i j then .ok (z0G 0 j.toNat) δ1 else .stuck
 | _=>.stuck
@[simp] theorem zad (f:DE) (δ:Dl):z12 f δ=(f δ).bind fun r δ1=>rng r δ1:=id rfl
theorem z8X (w:Nat) (hw:w≤1000000):z5i (w:Int)=true:=by
 have h1 : -(4611686018427387904:Int)≤(w:Int):=by omega
 have h2:(w:Int) < 4611686018427387904:=by omega
 unfold z5i
 rw [Wn]
 exact ⟨decide_eq_true h1,decide_eq_true h2⟩
theorem ze2 (j:Int) (hs:z5i j=true) (δ:Dl):rng (.pure (.int j)) δ = .ok (z0G 0 j.toNat) δ:=by unfold rng; simp only [hs,if_true]
theorem z5l (w:Nat) (hw:w≤1000000) (δ:Dl):rng (.pure (.int w)) δ = .ok (z0G 0 w) δ:=by
 have:=ze2 (w:Int) (z8X w hw) δ
 rwa [Int.toNat_natCast] at this
theorem z1V (h:(z0G 0 n)[i]? = some d):i < n∧d = .int (i:Int):=by
 unfold z0G at h
 rw [Wv] at h
 by_cases hi:i < n
 ·rw [List.getElem?_range hi] at h
  simp at h
  exact ⟨hi,h.symm⟩
 ·rw [WT (by simpa using hi)] at h
  cases h
theorem z48 (h:d ∈ z0G 0 n):∃ i:Nat,i < n∧d = .int (i:Int):=by
 obtain ⟨i,hi⟩:=List.getElem?_of_mem h
 exact ⟨i,z1V hi⟩
@[simp] theorem z6M (lo:Int) (n:Nat):(z0G lo n).length=n:=by simp [z0G]
def insN (x:Nat):List Nat→List Nat
 | []=>[x]
 | y :: r=>if y < x then y :: insN x r else x :: y :: r
def z3Q:List Nat→List Nat
 | []=>[]
 | x :: r=>insN x (z3Q r)
theorem lt1 (a b:Nat):(([a]:Tx) < [b]) ↔ a < b:=by
 constructor
 ·intro h
  cases h with
  | cons h=>cases h
  | rel h=>exact h
 ·intro h; exact List.Lex.rel h
theorem zf7 (x:Nat):∀ xs:List Nat,insT [x] (xs.map fun n=>[n])=(insN x xs).map fun n=>[n]
 | []=>rfl
 | y :: r=>by
  simp only [Wu,insT,insN]
  by_cases h:y < x
  ·rw [if_pos ((lt1 y x).mpr h),if_pos h,zf7 x r]; rfl
  ·rw [if_neg fun z=>h ((lt1 y x).mp z),if_neg h]; rfl
theorem zbS:∀ xs:List Nat,z3P (xs.map fun n=>[n])=(z3Q xs).map fun n=>[n]
 | []=>rfl
 | x :: r=>by rw [Wu,z3P,zbS r,zf7]; rfl
theorem insN_mem:∀ {xs:List Nat},y ∈ insN x xs ↔ y=x∨y ∈ xs
 | []=>by simp [insN]
 | z :: r=>by
  unfold insN
  split
  ·simp [insN_mem (xs:=r)]; constructor <;> (rintro (h | h | h) <;> simp [h])
  ·simp
theorem sortN_mem:∀ {xs:List Nat},y ∈ z3Q xs ↔ y ∈ xs
 | []=>by simp [z3Q]
 | x :: r=>by rw [z3Q,insN_mem,sortN_mem (xs:=r)]; simp
theorem z81 (x:Nat):∀ xs:List Nat,(insN x xs).length=xs.length + 1
 | []=>rfl
 | y :: r=>by unfold insN; split <;> simp [z81 x r]
theorem z69:∀ xs:List Nat,(z3Q xs).length=xs.length
 | []=>rfl
 | x :: r=>by rw [z3Q,z81,z69 r]; rfl
theorem za4:∀ {xs:List Nat},xs.Pairwise (· < ·)→x ∉ xs→(insN x xs).Pairwise (· < ·)
 | [],_,_=>by simp [insN]
 | y :: r,h,hx=>by
  rw [List.pairwise_cons] at h
  simp at hx
  unfold insN
  split
  ·rename_i hl
   rw [List.pairwise_cons]
   refine ⟨fun z hz=>?_,za4 h.2 hx.2⟩
   rcases insN_mem.mp hz with rfl | hz
   ·exact hl
   ·exact h.1 z hz
  ·rename_i hl
   rw [List.pairwise_cons]
   refine ⟨fun z hz=>?_,Jd.mpr h⟩
   rcases Wp.mp hz with rfl | hz
   ·omega
   ·have:=h.1 z hz; omega
theorem z7F:∀ {xs:List Nat},xs.Nodup→(z3Q xs).Pairwise (· < ·)
 | [],_=>by simp [z3Q]
 | x :: r,h=>by
  rw [List.nodup_cons] at h
  exact za4 (z7F h.2) fun z=>h.1 (sortN_mem.mp z)
theorem z8Z {P:Nat→Prop}:∀ {xs:List D},(∀ x ∈ xs,∃ n,P n∧x = .str [n])→∃ row:List Nat,xs=row.map (fun n=>.str [n])∧∀ n ∈ row,P n
 | [],_=>⟨[],rfl,by simp⟩
 | x :: r,h=>by
  obtain ⟨n,hn,rfl⟩:=h x Wm
  obtain ⟨row,rfl,hr⟩:=z8Z (xs:=r) fun y hy=>h y (Wi _ hy)
  exact ⟨n :: row,rfl,by simpa using ⟨hn,hr⟩⟩
theorem zcC {R:D→D→Prop} {ds xs:List D} {Q:D→Prop} (hn:xs.length=ds.length) (hf:∀ (i:Nat) d x,ds[i]? = some d→xs[i]? = some x→R d x) (hq:∀ d x,d ∈ ds→R d x→Q x):∀ x ∈ xs,Q x:=fun x hx=>by
 obtain ⟨i,hi⟩:=List.getElem?_of_mem hx
 have h1:=(Wb.mp hi).1
 have h2:ds[i]? = some (ds[i]'(by omega)):=by simp [show i < ds.length by omega]
 exact hq _ x (Q4 _) (hf i _ x h2 hi)
theorem z9b (w:Nat) (hw:w≤100000) (δ:Dl):rng (.pure (.int (1 + (w:Int)))) δ = .ok (z0G 0 (1 + w)) δ:=by
 have:=z5l (1 + w) (by omega) δ
 rwa [show (((1 + w:Nat):Int))=1 + (w:Int) by omega] at this
abbrev blD (b:Nat×List Tx):D:=.tup [.str [b.1],flD b.2]
abbrev ruD (h w:Nat) (bs:List (Nat×List Tx)):D:=.tup [.int h,.int w,.tup (bs.map blD)]
structure Rul (h w:Nat) (bs:List (Nat×List Tx)):Prop where
 h0:0 < h
 h1:h≤4
 w0:0 < w
 w1:w≤4
 hw:2 < h + w
 n0:0 < bs.length
 n1:bs.length≤26
 up:(bs.map (·.1)).Pairwise (· < ·)
 let':∀ b ∈ bs,97≤b.1∧b.1≤122
 blk:∀ b ∈ bs,b.2.length=h∧∀ r ∈ b.2,r.length=w∧∀ n ∈ r,n ∈ bs.map (·.1)
theorem z5t (f F:A→D) (δ:Dl):∀ (as:List A) (acc:List D),acc.length + as.length≤W6 →
  (∀ a ∈ as,∃ δ1 δ2 x δ3,g (.pure (f a)) δ=some δ1∧t δ1 = .ok true δ2∧el δ2 = .ok x δ3∧clrD cs δ3=δ∧x.d=F a)→z1s cs g t el (as.map f) δ acc = .ok (acc ++ as.map F) δ
 | [],acc,_,_=>by simp [z1s]
 | a :: r,acc,hl,hs=>by
  obtain ⟨δ1,δ2,x,δ3,e1,e2,e3,e4,e5⟩:=hs a Wm
  have hl':acc.length < W6:=by simp at hl; omega
  have ih:=z5t (cs:=cs) (g:=g) (t:=t) (el:=el) f F δ r (acc ++ [x.d]) (by simp at hl ⊢; omega) (fun a ha=>hs a (Wi _ ha))
  rw [Wu]
  unfold z1s
  rw [e1]
  rw [e5] at ih
  simp only [e2,z0K,if_true,e3,if_pos hl',e4,e5,ih]
  simp
end DV
set_option maxHeartbeats 400000
namespace L2
open PySem PySem.Spec PyProof.Rows PySem.W DV SU
section
variable {X:Cx}
end
end L2
namespace DV
open PySem PySem.Spec PyProof.Rows L2 SU
section
variable {X:Cx} {c:Fc} {e:Expr} {fb:BE} {pp pos ps1 ps2:Pos}
end
end DV
namespace PySem
end PySem
namespace L2
open PySem PySem.Spec PyProof.Rows
section
variable {X:Cx} {o:Expr} {apos cpos:Pos} {elts:List Expr} {ctx:Nat} {tp:Pos} {td:TE}
end
end L2
namespace DV
open PySem PySem.Spec PyProof.Rows L2
section
variable {X:Cx} {c:Fc} {o:Expr} {i:Nat} {apos cpos:Pos} {elts:List Expr} {ctx:Nat} {tp:Pos}
end
end DV
namespace L2
open PySem PySem.Spec PyProof.Rows
section
variable {X:Cx}
end
end L2
namespace DV
open PySem PySem.Spec PyProof.Rows L2
end DV
namespace L2
open PySem PySem.Spec PyProof.Rows
section
variable {X:Cx} {a b:Expr} {ta:TA} {pp pos pp1 pos1:Pos}
end
end L2
namespace DV
open PySem PySem.Spec PyProof.Rows L2
section
variable {X:Cx} {c:Fc} {a b:Expr} {f g:DE} {pp pos pp1 pos1:Pos}
end
section
variable {c:Fc} {σ σ':St} {δ δ':Dl} {H H':Hp} {i:Nat} {a p d:Addr} {dd:D}
end
structure Gh (c:Fc) (i:Nat) (p d:Addr) (σ0:St) (δ0:Dl) (H0:Hp) (ws:List (Key×V)) (ds:List (DKey×D)) (t:Tx) (σ:St) (δ:Dl) (H:Hp) (vs:List V) (xs:List D):Prop where
 ok:Ok ((c.plus p).park i d) σ δ H
 hd:H d=some (.dK (putK ws (.inr (toS t)) (.ref p)))
 hp:H p=some (.lst vs)
 rv:Reps H (Av ((c.plus p).park i d) σ δ) vs xs
 dr:DR H (Av ((c.plus p).park i d) σ δ) ws ds
 keep:∀ a o,H0 a=some o→¬ Own σ0 δ0 a→H a=some o
 own:∀ a,Own σ δ a→Own σ0 δ0 a∨H0 a=none
 there:∀ a o,H0 a=some o→∃ o',H a=some o'
section
variable {c:Fc} {i:Nat} {p d:Addr} {σ0 σ σ':St} {δ0 δ δ':Dl} {H0 H H':Hp} {ws:List (Key×V)} {ds:List (DKey×D)} {t:Tx} {vs vs':List V} {xs xs':List D}
end
section
variable {X:Cx} {c:Fc}
end
section
variable {X:Cx} {c:Fc} {σ:St} {δ:Dl} {H:Hp} {x y:Nat} {a:Addr} {d:D}
end
end DV
namespace PySem.ZW
open Sem (wp)
structure ZS (i1 i2 l1 l2:Addr) (xs ys:Array Value) (k:Nat) (h:Heap):Prop where
 i1:h.IsListIter i1 l1 k
 i2:h.IsListIter i2 l2 k
 l1:h.IsList l1 xs
 l2:h.IsList l2 ys
section
variable {prog:Wd} {w:Wg} {A:Wf} {E:Value→W1→Prop} {s:W1} {z TI TO i1 i2 l1 l2 a:Addr} {f:Bool} {oa:Obj} {k:Nat} {xs ys:Array Value} {x y:Value}
end
end PySem.ZW
namespace PySem.ZW
open Sem (wp)
structure ZG (xs ys:Array Value) (lo:Addr) (h:Heap) (as:List Addr):Prop where
 rise:as.Pairwise (· < ·)
 above:∀ a ∈ as,lo < a
 pairs:∀ (j:Nat) a,as[j]? = some a→∃ x y,xs[j]? = some x∧ys[j]? = some y∧IsPair h a x y
structure ZL (z TI TO i1 i2 l1 l2 S:Addr) (xs ys:Array Value) (h0:Heap) (h:Heap) (acc:Array Value) (c:Nat) (as:List Addr):Prop where
 keep:∀ b o,b≠S→b≠z→b≠TO→b≠i1→b≠i2→h0.get? b=some o→h.get? b=some o
 lst:h.get? S=some { cls:=.type "list",dict:=none,data:=.seq acc c,slots:=#[] }
 items:acc.toList=as.map Value.ref
 G:ZG xs ys S h as
section
variable {prog:Wd} {w:Wg} {A:Wf} {E:Value→W1→Prop} {s:W1} {z TI TO i1 i2 l1 l2 S:Addr} {xs ys:Array Value} {R:Result→W1→Prop} {res:Value}
end
end PySem.ZW
namespace PySem.ZW
open Sem (wp)
section
variable {prog:Wd} {w:Wg} {A:Wf} {E:Value→W1→Prop} {s:W1} {z TI TO i1 i2 l1 l2:Addr} {xs ys:Array Value}
end
end PySem.ZW
namespace L2
open PySem PySem.Spec PyProof.Rows
section
variable {X:Cx} {a b:Expr} {ta:TA} {pp pos pp1 pos1:Pos} {elts:List Expr} {ctx:Nat} {tp:Pos}
end
end L2
namespace DV
open PySem PySem.Spec PyProof.Rows L2
section
variable {X:Cx} {c:Fc} {a b:Expr} {f g:DE} {pp pos pp1 pos1:Pos} {elts:List Expr} {ctx:Nat} {tp:Pos}
end
section
variable {X:Cx}
end
section
variable {X:Cx} {c:Fc} {e:Expr} {fb:BE} {pos pp:Pos}
end
end DV
namespace L2
open PySem PySem.Spec PyProof.Rows
structure FnOkS (P:Wd) (w:Wg) (K:W0) (mg:Str→Option Value) (base:Heap) (k:Nat) (f:Addr) (fd:Wx) (ps:List Str) (sp:List Env→W1→Sp):Prop where
 len:∀ outer s vs H Q E,sp outer s vs H Q E→vs.length=ps.length
 run:∀ (A:Wf) (outer:List Env) (s:W1) (H:Hp) (args:Args) (us:List Value) (vs:List V) (Q:VK) (E:XK),Room k A→Env0 P w K mg base A outer s H→BindsTo s fd args (ps.zip us)→Vals vs us→sp outer s vs H Q E →
  Qf (model P w) A (.call (.ref f) args) (CR CX0 outer P w H s Q E) s
section
variable {P:Wd} {w:Wg} {K:W0} {mg:Str→Option Value} {base:Heap}
theorem Fun.okS {x qual:Str} {st:Stmt} {f:Addr} {fd:Wx} {N ps:List Str} {k:Nat} {sp:List Env→W1→Sp} (F:Fun K x qual st f fd) (S:FnScope N ps (z00 st)) (len:∀ outer s vs H Q E,sp outer s vs H Q E→vs.length=ps.length)
  (hbody:∀ (cdv:Value) (A:Wf) (outer:List Env) (s:W1) (H:Hp) (vs:List V) (Q:VK) (E:XK),Room k (A.deeper (Qb qual (z00 st) s.heap.objs.size f cdv))→A.frames=some outer→sp outer s vs H Q E →
   ∃ t,PSs (cxOf CX0 P w K mg base N qual (z00 st) f cdv A outer s H E).nox (z0q st) t∧t { nx:=fun _ H'=>Q .non H',rt:=Q } (start N vs) H):FnOkS P w K mg base (k + 1) f fd ps sp:=by
 obtain ⟨oc,od,kV,doc,pm,an,cdv,ct,osl,rfl,lk,hcd⟩:=F.ex
 refine ⟨len,fun A outer s H args us vs Q E hr e0 hb r hsp=>?_⟩
 have hl:=len _ _ _ _ _ _ hsp
 have KX:K.In s.heap:=e0.mod.kin.keeps fun b o e=>(e0.bs b o e).1
 have lim:s.heap.NoLimit:=e0.mod.nolimit.keeps fun b o e=>(e0.bs b o e).1
 have hkind:∀ y ∈ ps.zip us,(z00 st).names.lookup y.1=some .local∨((z00 st).names.lookup y.1=some .cell∧((Q2 (s.heap.objs.size + 1) (z00 st).names []).lookup y.1).isSome=true):=fun ⟨n,v⟩ hy=>by
  rcases S.par n (J3 hy).1 with q | q
  ·exact .inl q
  ·exact .inr ⟨q,Qp _ _ _ (.inl q)⟩
 refine codeAny_call_function hr.depth (KX _ _ lk) rfl S.co S.gen rfl (PySem.W.codeRec_of KX hcd) (hb _ _ _ _ ?_)
 refine wpAny_newFunctionEnv_cells S.kind hkind fun env he s1 x=>?_
 subst he
 refine ⟨lim.keeps x.toInCall.keep,codeAny_func ?_⟩
 obtain ⟨t,ht0,hq⟩:=hbody cdv A outer s H vs Q E (hr.deeper _) e0.frames hsp
 have ht:=ht0.nox
 have I:Inv (cxOf CX0 P w K mg base N qual (z00 st) f cdv A outer s H E) [] (start N vs) H s1:=z4L S hr.hd e0 hl r x
 refine WH (ht [] s1 (start N vs) H _ I hq) (fun fl s' hs=>?_) fun e s' hs=>hs
 have fin:∀ {σ':St} {H':Hp} {v:V} {u:Value},Inv (cxOf CX0 P w K mg base N qual (z00 st) f cdv A outer s H E) [] σ' H' s'→RelV v u→Q v H'→CE outer P w H s Q u s' :=
  fun {σ' H' v u} J rv q=>⟨v,H',J.os,J.bare,J.base,J.hok,rv,q⟩
 cases fl with
 | ret u =>
  obtain ⟨v,σ',H',J,rv,q⟩:=hs
  exact fin J rv q
 | next =>
  obtain ⟨σ',H',J,q⟩:=hs
  exact fin (v:=V.non) (u:=Value.none) J rfl q
 | brk =>
  obtain ⟨_,_,_,q⟩:=hs
  exact False.elim q
 | cont =>
  obtain ⟨_,_,_,q⟩:=hs
  exact False.elim q
end
structure CloAt (H:Hp) (fs:List Addr) (h:Heap) (fa:Addr) (qual:Str) (params:Arguments) (body:Expr) (scope:Scope) (cl:List (Str×Addr)) (fr:List Str) (fv:List V):Prop where
 obj:∃ pm c' ctv oc,h.get? fa=some (J4 "<lambda>" qual params body scope cl pm c' ctv)∧H fa=none∧fa ∉ fs∧H c'=some (.frz oc (.ext fun _=>True))∧∃ vs tq,oc.data = .fields vs∧vs[1]? = some (.str qual tq)
 cell:∀ x c,cl.lookup x=some c→(∃ v,h.IsCell c v)∧H c=none∧c ∉ fs
 inj:∀ x y c,cl.lookup x=some c→cl.lookup y=some c→x=y
 val:∀ (i:Nat) x v,fr[i]? = some x→fv[i]? = some v→∃ c u,cl.lookup x=some c∧h.IsCell c (some u)∧RelV v u
 flen:fv.length=fr.length
theorem CloAt.keep {H H':Hp} {fs:List Addr} {h h':Heap} {fa:Addr} {qual:Str} {params:Arguments} {body:Expr} {scope:Scope} {cl:List (Str×Addr)} {fr:List Str} {fv:List V} (C:CloAt H fs h fa qual params body scope cl fr fv)
  (k:∀ b o,h.get? b=some o→H b=none→b ∉ fs→h'.get? b=some o∧H' b=none) (kf:∀ b o u,H b=some (.frz o u)→H' b=some (.frz o u)):CloAt H' fs h' fa qual params body scope cl fr fv:=by
 have kc:∀ x c v,cl.lookup x=some c→h.IsCell c v→h'.IsCell c v:=fun x c v e ⟨o,ho,hd⟩=>⟨o,(k c o ho (C.cell x c e).2.1 (C.cell x c e).2.2).1,hd⟩
 obtain ⟨pm,c',ctv,oc,h1,h2,h3,h4,h5⟩:=C.obj
 refine ⟨⟨pm,c',ctv,oc,(k _ _ h1 h2 h3).1,(k _ _ h1 h2 h3).2,h3,kf _ _ _ h4,h5⟩,fun x c e=>?_,C.inj,fun i x v e1 e2=>?_,C.flen⟩
 ·obtain ⟨⟨v,o,ho,hd⟩,q1,q2⟩:=C.cell x c e
  exact ⟨⟨v,o,(k c o ho q1 q2).1,hd⟩,(k c o ho q1 q2).2,q2⟩
 ·obtain ⟨c,u,q1,q2,q3⟩:=C.val i x v e1 e2
  exact ⟨c,u,q1,kc x c _ q1 q2,q3⟩
def zap (P:Wd) (w:Wg) (K:W0) (mg:Str→Option Value) (base:Heap) (N:List Str) (qual:Str) (scope:Scope) (f:Addr) (cd:Value) (cl:List (Str×Addr)) (A:Wf) (outer:List Env) (s:W1) (H:Hp):Cx where
 prog:=P
 w:=w
 K:=K
 mg:=mg
 base:=base
 A:=A.deeper (QS qual scope s.heap.objs.size f cd cl)
 N:=N
 s₀:=s
 H₀:=H
 env:=QS qual scope s.heap.objs.size f cd cl
 outer:=outer
 stack:=QS qual scope s.heap.objs.size f cd cl :: outer
 ex:=[]
 calm:=true
 fn:=fun _=>false
 pn:=[]
 xe:=fun _ _=>False
structure LamScope (p:Str) (fr:List Str) (sc:Scope):Prop where
 kind:sc.kind = .function
 co:sc.isCoroutine=false
 gen:sc.isGenerator=false
 loc:sc.names.lookup p=some .local
 nocell:∀ y ∈ sc.names,y.2≠.cell
 free:∀ x,sc.names.lookup x=some .free→x ∈ fr
 fre:∀ x ∈ fr,sc.names.lookup x=some .free
section
variable {X:Cx} {pins:List (Addr×Obj)} {σ:St} {H:Hp} {s:W1} {fa:Addr} {qual:Str} {params:Arguments} {body:Expr} {scope:Scope} {cl:List (Str×Addr)} {fr:List Str} {fv:List V} {p:Str} {u:Value} {v:V} {k:Nat} {t:TE} {Q:VK}
theorem zcB (I:Inv X pins σ H s) (C:CloAt H X.fs s.heap fa qual params body scope cl fr fv) (L:LamScope p fr scope) (hr:Room (k + 1) X.A) (rv:RelV v u)
  (hb:∀ pm cdv ctv (u:Value),bindArgs (PySem.W.kla_fn "<lambda>" qual params body scope cl pm cdv ctv) ⟨[u],[]⟩=pure [(p,u)])
  (hbody:∀ cd,Room k (X.A.deeper (QS qual scope s.heap.objs.size fa cd cl))→PE (zap X.prog X.w X.K X.mg X.base (p :: fr) qual scope fa cd cl X.A X.stack s H) body t)
  (q:t (some v :: fv.map some) H Q):W9 (model X.prog X.w) X.A (call (.ref fa) [u]) (EP X pins σ Q) X.xe s:=by
 obtain ⟨pm,c',ctv,oc,h1,h2,h3,h4',vs,tq,h5,h6⟩:=C.obj
 have h4:s.heap.get? c'=some oc:=(I.hok c' _ h4').1
 have e0:=I.env0
 have lim:s.heap.NoLimit:=e0.mod.nolimit.keeps fun b o e=>(e0.bs b o e).1
 refine Ji (Qq (R:=CR CX0 X.stack X.prog X.w H s Q E0) ?_ fun r s' hq=>?_)
 ·refine PySem.W.kla_callFunE hr.depth h1 rfl L.co L.gen rfl ⟨c',oc,vs,tq,rfl,h4,h5,h6⟩ ?_
  rw [hb]
  refine Wc ?_
  refine wpAny_newFunctionEnv L.nocell (fun y hy=>by
   have:y=(p,u):=by simpa using hy
   subst this
   exact L.loc) (fun h' hns hsb=>?_) L.kind
  have hk:∀ b o,s.heap.get? b=some o→h'.get? b=some o:=fun b o e=>hsb.extBut b o (WK (Wl e)) (W5 _ e)
  refine ⟨lim.keeps hk,?_⟩
  show Qf _ _ (.expr body (QS qual scope s.heap.objs.size fa (.ref c') cl)) _ _
  refine PySem.W.kla_codeExpr ?_
  have J:Inv (zap X.prog X.w X.K X.mg X.base (p :: fr) qual scope fa (.ref c') cl X.A X.stack s H) [] (some v :: fv.map some) H { s with heap:=h',toks:=s.toks + [(p,u)].length }:=by
   have noA:∀ b:Addr,b ∉ (zap X.prog X.w X.K X.mg X.base (p :: fr) qual scope fa (.ref c') cl X.A X.stack s H).ex:=fun b z=>absurd (show b ∈ ([]:List Addr) from z) (by simp)
   refine ⟨⟨e0.mod,L.kind,rfl,rfl,We _,C.inj,fun y hy=>?_,fun y c z _=>by (have z':false=true:=z; cases z'),fun _=>hr.hd,Around.frames_deeper e0.frames,.inr ⟨rfl,rfl⟩,fun b z=>absurd z (noA b),e0.bs,e0.bsz,fun b _ _=>noA b,fun b z=>absurd z (noA b),e0.funs,e0.frf⟩,
    rfl,e0.bare,Un.kept hk,⟨_,hns,fun i y w e1 e2 e3=>?_⟩,fun y c e=>?_,e0.hok.fresh (We _),fun y c e=>(C.cell y c e).2.1,fun z hz=>absurd (show z ∈ ([]:List (Addr×Obj)) from hz) (by simp),e0.hok.kept hk,?_⟩
   ·have hy:scope.names.lookup y=some .cell∨scope.names.lookup y=some .free:=hy
    rcases hy with hy | hy
    ·exact absurd rfl (L.nocell _ (Wr hy))
    ·obtain ⟨i,hi,rfl⟩:=List.getElem_of_mem (L.free y hy)
     have hfv:i < fv.length:=by rw [C.flen]; exact hi
     obtain ⟨c,u',q1,_⟩:=C.val i fr[i] fv[i] (by simp [hi]) (by simp [hfv])
     exact ⟨c,q1⟩
   ·cases i with
    | zero =>
     simp at e2
     have e1:some p=some y:=e1
     cases e1
     subst e2
     refine ⟨u,rv,.inl ⟨L.loc,?_⟩⟩
     simp
    | succ i =>
     have e1:fr[i]? = some y:=e1
     have e2:fv[i]? = some w:=by
      have e2':(fv.map some)[i]? = some (some w):=e2
      rw [Wv] at e2'
      cases z:fv[i]? with
      | none=>rw [z] at e2'; cases e2'
      | some a=>rw [z] at e2'; cases e2'; rfl
     obtain ⟨c,u',q1,⟨o,ho,hd⟩,q3⟩:=C.val i y w e1 e2
     exact ⟨u',q3,.inr ⟨.inr (L.fre y (WC e1)),c,q1,o,hk c o ho,hd⟩⟩
   ·obtain ⟨⟨w,o,ho,hd⟩,_⟩:=C.cell y c e
    exact ⟨w,o,hk c o ho,hd⟩
   ·show (some v :: fv.map some).length=(p :: fr).length
    simp [C.flen]
  refine WH (hbody (.ref c') (hr.deeper _) [] _ _ H Q J q) (fun u' s' ⟨v',H',J',r',q'⟩=>?_) fun e s' z=>z.elim
  exact ⟨v',H',J'.os,J'.bare,J'.base,J'.hok,r',q'⟩
 ·cases r with
  | error e=>exact hq.elim
  | ok fl =>
   cases fl with
   | ret u=>exact I.after hq
   | next=>exact False.elim hq
   | brk=>exact False.elim hq
   | cont=>exact False.elim hq
end
end L2
namespace DV
open PySem PySem.Spec PyProof.Rows L2
section
variable {c:Fc} {σ:St} {δ:Dl} {H H':Hp}
theorem Ok.mono (k:Ok c σ δ H) (up:∀ a o,H a=some o→H' a=some o):Ok c σ δ H' :=
 ⟨fun a o e n=>up _ _ (k.keep a o e n),fun a z=>(k.bd a z).elim fun w e=>⟨w,up _ _ e⟩,fun a z=>(k.ith a z).elim fun w e=>⟨w,up _ _ e⟩,k.len,fun i d e=>let ⟨v,e1,r⟩:=k.slot i d e; ⟨v,e1,r.keep fun a o q _=>up a o q⟩,
  fun i d e=>let ⟨a,e1,r,q⟩:=k.own i d e; ⟨a,e1,r.keep (fun b o q _=>up b o q) (fun o q=>up a o q),q⟩,k.inj,k.pinned⟩
theorem Aft.mono (k:Ok c σ δ H) (up:∀ a o,H a=some o→H' a=some o):Aft c σ δ H σ δ H':=⟨k.mono up,fun a o e _=>up a o e,fun a h=>.inl h,fun a o e=>⟨o,up a o e⟩⟩
end
structure CloX (X:Cx) (c:Fc) (fa:Addr) (F:D→Option D):Prop where
 there:∀ pins σ H s,Inv X pins σ H s→∃ fd,s.heap.get? fa=some { cls:=.type "function",data:=.func fd }
 run:∀ pins s σ δ H v u d d' Q,Inv X pins σ H s→Ok c σ δ H→Rep H (Av c σ δ) v d→RelV v u→F d=some d'→(∀ v' H',Aft c σ δ H σ δ H'→Rep H' (Av c σ δ) v' d'→Q v' H')→W9 (model X.prog X.w) X.A (call (.ref fa) [u]) (EP X pins σ Q) X.xe s
def cloF (fb:DE) (dv:List D):D→Option D:=fun d=>match fb (some (.pure d) :: dv.map fun x=>some (.pure x)) with
 | .ok r _=>some r.d
 | _=>none
theorem zfn {X:Cx} {c:Fc} {fa:Addr} {qual:Str} {params:Arguments} {body:Expr} {scope:Scope} {cl:List (Str×Addr)} {fr:List Str} {fv:List V} {dv:List D} {p:Str} {k:Nat} {fb:DE}
  (hex:X.ex=[]) (hH:c.H₀=X.H₀) (hp:c.pin=[]) (C:CloAt X.H₀ X.fs X.s₀.heap fa qual params body scope cl fr fv) (L:LamScope p fr scope) (hr:Room (k + 1) X.A)
  (hb:∀ pm cdv ctv (u:Value),bindArgs (PySem.W.kla_fn "<lambda>" qual params body scope cl pm cdv ctv) ⟨[u],[]⟩=pure [(p,u)]) (rv:Reps X.H₀ c.B fv dv)
  (hbody:∀ (c':Fc) (cd:Value) (s:W1) (H:Hp),Room k (X.A.deeper (QS qual scope s.heap.objs.size fa cd cl))→c'.pin=[]→SE (zap X.prog X.w X.K X.mg X.base (p :: fr) qual scope fa cd cl X.A X.stack s H) c' body fb) :
  CloX X c fa (cloF fb dv):=by
 have noI:∀ a,¬ c.I a:=fun a ⟨i,z⟩=>by rw [hp] at z; simp at z
 have CC:∀ pins σ H s,Inv X pins σ H s→CloAt H X.fs s.heap fa qual params body scope cl fr fv:=fun pins σ H s I =>
  C.keep (fun b o e n hb=>⟨I.base.keep b o e n hb (by rw [hex]; simp),I.base.free b o e n (by rw [hex]; simp)⟩) I.base.frzs
 refine ⟨fun pins σ H s I=>?_,fun pins s σ δ H v u d d' Q I ok rd ru hF q=>?_⟩
 ·obtain ⟨pm,c',ctv,oc,h1,_⟩:=(CC pins σ H s I).obj
  exact ⟨_,h1⟩
 ·have key:∀ (i:Nat) w x,fv[i]? = some w→dv[i]? = some x→Rep H (Av c σ δ) w x:=fun i w x e1 e2=>by
   have r0:=rv.2 i w x e1 e2
   have r1:Rep X.H₀ (Av c σ δ) w x:=r0.anti fun a z=>by
    rcases z with z | ⟨j,d,z1,z2⟩
    ·exact .inl z
    ·obtain ⟨b,z3,_,z4,_⟩:=ok.own j d z1
     rw [z2] at z3; cases z3
     rcases z4 with z4 | z4
     ·exact absurd z4 (noI _)
     ·exact .inr (by rw [← hH]; exact z4)
   exact r1.keep fun a o e _=>ok.keep a o (by rw [hH]; exact e) (noI a)
  have c'':Fc:=⟨H,Av c σ δ,[],fun _ _=>False⟩
  refine zcB (t:=tD ⟨H,Av c σ δ,[],fun _ _=>False⟩ fb) I (CC pins σ H s I) L hr ru hb (fun cd hr'=>hbody _ cd s H hr' rfl) ?_
  have nown:∀ (i:Nat) x,(some (S.pure d) :: dv.map fun x=>some (S.pure x))[i]? = some (some (.own x))→False:=fun i x e=>by
   cases i with
   | zero=>simp at e
   | succ i =>
    rw [Qo,Wv] at e
    cases z:dv[i]? with
    | none=>rw [z] at e; cases e
    | some y=>rw [z] at e; cases e
  have avs:∀ b,Av ⟨H,Av c σ δ,[],fun _ _=>False⟩ (some v :: fv.map some) (some (S.pure d) :: dv.map fun x=>some (S.pure x)) b→Av c σ δ b:=fun b z=>by
   rcases z with z | ⟨i,x,z1,_⟩
   ·exact z
   ·exact (nown i x z1).elim
  refine ⟨some (.pure d) :: dv.map fun x=>some (.pure x),⟨fun a o e _=>e,fun a z=>ok.avthere z,fun a ⟨i,z⟩=>by simp at z,?_,fun i x e=>?_,fun i x e=>(nown i x e).elim,fun i j a x x' e=>(nown i x e).elim,fun z hz=>by simp at hz⟩,?_⟩
  ·simp [rv.1]
  ·cases i with
   | zero =>
    simp at e
    subst e
    exact ⟨v,rfl,rd.anti fun b z=>.inl (avs b z)⟩
   | succ i =>
    rw [Qo,Wv] at e
    cases z:dv[i]? with
    | none=>rw [z] at e; cases e
    | some y =>
     rw [z] at e; cases e
     have hi:i < fv.length:=by rw [rv.1]; exact (Wb.mp z).1
     refine ⟨fv[i],?_,(key i fv[i] x (by simp [hi]) z).anti fun b z=>.inl (avs b z)⟩
     rw [Qo,Wv]
     simp [hi]
  ·unfold cloF at hF
   cases e:fb (some (.pure d) :: dv.map fun x=>some (.pure x)) with
   | exc x δx=>rw [e] at hF; cases hF
   | stuck=>rw [e] at hF; cases hF
   | ok r δ' =>
    rw [e] at hF
    cases hF
    intro v' H' a rs
    have up:∀ b o,H b=some o→H' b=some o:=fun b o eb=>a.ok.keep b o eb fun ⟨i,z⟩=>by simp at z
    exact q v' H' (.mono ok up) (rs.rep.anti fun b z=>.inl (.inl z))
end DV
namespace L2
open PySem PySem.Spec PyProof.Rows
theorem z6B {P:Wd} {w:Wg}:∀ {kvs:List (Key×V)} {vs:List (Key×Value)} {us:List Value},KV kvs vs→us.length=vs.length→(∀ (j:Nat) v,us[j]? = some v→∃ k x,vs[j]? = some (k,x)∧(z1b P w).is k v=true)→Vals (kvs.map fun p=>kV p.1) us
 | [],_,[],.nil,_,_=>.nil
 | [],_,_ :: _,.nil,h,_=>by simp at h
 | p :: r,_,[],.cons _ _,h,_=>by simp at h
 | p :: r,q :: vs,u :: us,.cons h1 h2,hl,hk=>by
  refine .cons ?_ (z6B h2 (by simpa using hl) fun j v e=>by simpa using hk (j + 1) v (by simpa using e))
  obtain ⟨k,x,e,z⟩:=hk 0 u rfl
  simp at e
  rw [z8q] at z
  rcases z0R z with ⟨i,t,e1,e2⟩ | ⟨y,t,e1,e2⟩
  ·show RelV (kV p.1) u
   rw [h1.1,e]
   subst e1
   exact ⟨t,e2⟩
  ·show RelV (kV p.1) u
   rw [h1.1,e]
   subst e1
   exact ⟨t,e2⟩
theorem z8D {X:Cx} (hc:X.calm=true):CallR X (.type "list") (fun xs H Q=>∃ a kvs,xs=[V.ref a]∧H a=some (.dK kvs)∧∀ l,H l=none→Q (.ref l) (upd H l (.lst (kvs.map fun p=>kV p.1)))):=by
 intro pins s σ H xs us Q I r h
 obtain ⟨a,kvs,rfl,ha,q⟩:=h
 obtain ⟨u,rfl,ru⟩:=z3L r
 cases ru
 obtain ⟨z,lo,vs,kv,hD⟩:=I.hok a _ ha
 obtain ⟨ep,hat⟩:=hD.dictAt
 have hl:kvs.length=vs.length:=Paired.length kv
 refine PySem.W.kdl_call (PySem.W.kdl_dict (knd:=z1b X.prog X.w) (kvs:=vs) (ep:=ep) lo) (I.ok.hd hc) hat (by omega) fun h' tk acc c' kp e hacc=>?_
 have hv:Vals (kvs.map fun p=>kV p.1) acc.toList:=z6B (P:=X.prog) (w:=X.w) kv (by simp [hacc.1]) fun j v e=>hacc.2 j v (by simpa using e)
 exact ⟨.ref s.heap.objs.size,_,I.laid (t':=tk) kp (We _) (show ObjOk X.prog X.w _ h' _ (.lst _) from ⟨by simpa using z,acc.toList,c',hv,by simpa using e⟩),rfl,q _ (I.hok.fresh (We _))⟩
end L2
namespace DV
open PySem PySem.Spec PyProof.Rows L2
def kyD:DKey→D
 | .inl i=>.int i
 | .inr x=>.str x
def z7Q:D→Option S
 | .dct ds=>some (.own (.lst (ds.map fun p=>kyD p.1)))
 | _=>none
theorem z6g {H:Hp} {O:Addr→Prop}:∀ {ws:List (Key×V)} {ds:List (DKey×D)},ws.map (·.1)=ds.map (fun p=>kOf p.1)→Reps H O (ws.map fun p=>kV p.1) (ds.map fun p=>kyD p.1)
 | [],[],_=>.nil
 | [],_ :: _,h=>by simp at h
 | _ :: _,[],h=>by simp at h
 | p :: ws,q :: ds,h=>by
  simp only [Wu,Jp] at h
  refine .cons ?_ (z6g h.2)
  show Rep H O (kV p.1) (kyD q.1)
  rw [h.1]
  cases q.1 with
  | inl i=>exact .int i
  | inr x=>exact .str x
section
variable {X:Cx} {c:Fc} {e:Expr} {fb:BE} {pos pp p:Pos}
theorem zaP (hc:X.calm=true) (hg:Gl X "list") (hm:X.mg "list" = none) (he:SB X c e fb) (hs:z38 e=true:=by rfl):SE X c (.Call (.Name "list" pp) [e] [] pos) (eC1 z7Q fb) :=
 z3w (r:=fun v H Q=>∃ a kvs,v=V.ref a∧H a=some (.dK kvs)∧∀ l,H l=none→Q (.ref l) (upd H l (.lst (kvs.map fun p=>kV p.1)))) (z8D hc) (fun v H Q ⟨a,kvs,e,h⟩=>⟨a,kvs,by rw [e],h⟩)
  (fun c σ δ H x d s Q k rx hp q=>by
   cases d with
   | dct ds =>
    cases hp
    obtain ⟨a,ws,ex,ha,r1,_⟩:=rx.dct
    exact ⟨a,ws,ex,ha,fun l hl=>q _ _ (.alloc k hl _) (RepS.newL k (z6g r1) hl)⟩
   | _=>simp [z7Q] at hp) hg hm PyProof.Rows.boot_list he (by decide) (by decide) (z3N hs)
end
def z7o (fa:Addr) (F:D→Option D) (i:Nat) (fe:DE):DE:=fun δ=>match δ[i]? with
 | some (some (.pure (.fn a)))=>if a=fa then (fe δ).bind fun r δ1=>match F r.d with
   | some d'=>.ok (.pure d') δ1
   | none=>.stuck
  else .stuck
 | _=>.stuck
theorem z8E {M:Model} {A:Wf} {E:Value→W1→Prop} {s:W1} {env:Env} {pos:Pos} {a:Addr} {first:List Value} {Q:Value→W1→Prop} {e:Expr} {rest:List Expr}
  (h:W9 M A (spliced (WD pos (W3 (e :: rest) env))) (fun vs s₁=>(∃ fd,s₁.heap.get? a=some { cls:=.type "function",data:=.func fd })∧W9 M A (call (.ref a) (first ++ vs)) Q E s₁) E s)
  (he:W3 (e :: rest) env=(false,eval e env) :: W3 rest env:=by rfl) (hplain:(WD pos (W3 rest env)).any (·.1)=false:=by rfl) :
  W9 M A (callWith pos (.ref a) first (WD pos (W3 (e :: rest) env)) []) Q E s:=by
 rw [he] at h ⊢
 exact PySem.W.callWith_of (P:=fun h=>∃ fd,h.get? a=some { cls:=.type "function",data:=.func fd }) (by show ((false || (WD pos (W3 rest env)).any (·.1)) || false)=false; rw [hplain]; rfl)
  (fun h ⟨fd,hf⟩=>⟨.frame,.inl rfl,(PySem.W.Looks.ld (part:=none) hf).andThen .now⟩) (Calls.evalArgs_plain h)
theorem zcw {X:Cx} {c:Fc} {fa:Addr} {F:D→Option D} {i:Nat} {x:Str} {e:Expr} {fe:DE} {p pos:Pos} (hc:CloX X c fa F) (hv:PE X (.Name x p) (tVar i)) (he:SE X c e fe)
  (hs:W3 [e] X.env=(false,eval e X.env) :: W3 [] X.env:=by rfl):SE X c (.Call (.Name x p) [e] [] pos) (z7o fa F i fe):=by
 intro pins s σ H Q I ⟨δ,k,q⟩
 unfold z7o at q
 split at q
 ·rename_i a e1
  split at q
  ·rename_i ea
   subst ea
   obtain ⟨v,e2,r⟩:=k.slot i (.fn a) e1
   cases r
   refine Q1 (WH (hv pins s σ H (fun v' H'=>v' = .ref a∧H'=H) I ⟨.ref a,e2,rfl,rfl⟩) (fun u s1 ⟨v',H',I1,ru,ev,eH⟩=>?_) fun _ _ z=>z)
   subst ev eH
   obtain rfl:u=Value.ref a:=ru
   have ha:=z0M he z1F hs
   refine z8E (thn (ha pos pins s1 σ H' (fun vs H2=>∃ r δ1 d',vs.length=1∧F r=some d'∧(∀ v ∈ vs,Rep H2 (Av c σ δ1) v r)∧Aft c σ δ H' σ δ1 H2∧∀ v' H3,Aft c σ δ H' σ δ1 H3→Rep H3 (Av c σ δ1) v' d'→Q v' H3) I1 ⟨δ,k,?_⟩) fun us s2 ⟨vs,H2,I2,rr,r,δ1,d',hl,hF,hr,af,hq⟩=>⟨hc.there _ _ _ _ I2,?_⟩) hs rfl
   ·rw [z02] at q
    refine z01 q fun r δ1 q1 v H1 a1 r1=>?_
    cases hF:F r.d with
    | none=>rw [hF] at q1; exact q1.elim
    | some d' =>
     rw [hF] at q1
     exact ⟨r.d,δ1,d',rfl,hF,fun v' hv'=>by
      have:v'=v:=by simpa using hv'
      subst this
      exact r1.rep,a1,fun v' H3 a3 r3=>q1 v' H3 a3 r3⟩
   ·obtain ⟨v,rfl⟩:∃ v,vs=[v]:=by
     match vs,hl with
     | [v],_=>exact ⟨v,rfl⟩
    obtain ⟨u,rfl,ru⟩:=z3L rr
    exact hc.run pins s2 σ δ1 H2 v u r d' Q I2 af.ok (hr v (by simp)) ru hF fun v' H3 a3 r3=>hq v' H3 (af.trans a3) r3
  ·exact q.elim
 ·exact q.elim
end DV
namespace L2
open PySem PySem.Spec PyProof.Rows
theorem z4q {a b:Value} {x y:Int} {t u:Tok}:∀ {l:List Value},TriplesOk l→TriplesOk (l ++ [.int x t,.int y u,b])
 | [],_=>trivial
 | .int _ _ :: .int _ _ :: _ :: r,h=>z4q (a:=a) (l:=r) h
theorem z71 {pos:Pos} {b cv:Value} {x y:Int} {t u:Tok}:∀ {l:List Value},TriplesOk l→codeAmong pos l=none→codeAmong pos (l ++ [.int x t,.int y u,b])=some cv→cv=b
 | [],_,_,h=>by
  simp only [Qv,codeAmong] at h
  split at h
  ·exact (Ws h).symm
  ·cases h
 | .int i _ :: .int j _ :: c :: r,h,hn,e=>by
  simp only [codeAmong] at hn
  split at hn
  ·cases hn
  ·rename_i q
   simp only [List.cons_append,codeAmong] at e
   rw [if_neg q] at e
   exact z71 (l:=r) h hn e
section
variable {X:Cx} {pins:List (Addr×Obj)} {σ:St} {H:Hp} {s:W1} {params:Arguments} {body:Expr} {scope:Scope} {pos:Pos} {cl:List (Str×Addr)} {c P:Addr} {fr:List Str} {fv:List V} {js:List Nat} {Q:Value→W1→Prop} {E:Value→W1→Prop}
theorem Inv.nostk (I:Inv X pins σ H s) {a:Addr} (h:s.heap.objs.size≤a):a ∉ frs X.stack:=fun z=>by
 rcases Wp.mp (I.stkSub a z) with e | e
 ·have:=I.lt
  rw [← e] at this
  exact absurd (Wt this h) (WS _)
 ·exact I.nofs h e
theorem Inv.cellstk (I:Inv X pins σ H s) (hfn:∀ x,X.fn x=true) {x:Str} {c:Addr} (h:X.env.cells.lookup x=some c):c ∉ frs X.stack:=fun z=>by
 rcases Wp.mp (I.stkSub c z) with e | e
 ·exact I.cne x c h e
 ·obtain ⟨_,o,ho,_⟩:=I.ok.funs.mem e
  exact absurd (Wt (Wl ho) (I.ok.cab x c (hfn x) h)) (WS _)
theorem zbm (I:Inv X pins σ H s) (hP:H P=some (.ctab pos (X.env.qual ++ "<lambda>"))) (hfn:∀ x,X.fn x=true) (hdef:defaultsOf params X.env=([],[])) (hcl:closureFor scope X.env=pure cl) (hcode:X.env.code = .ref c)
  (CH:QF X.K c P=true) (hgP:Wj≠P) (hB:X.base.BuiltinsAt X.mg P)
  (hsub:∀ x a,cl.lookup x=some a→X.env.cells.lookup x=some a) (hlen:fv.length=fr.length)
  (hval:∀ (i:Nat) x v,fr[i]? = some x→fv[i]? = some v→∃ (j:Nat) (a:Addr),X.N[j]? = some x∧σ[j]? = some (some v)∧X.env.scope.names.lookup x=some .cell∧cl.lookup x=some a)
  (h:∀ fa H' s',Inv X pins σ H' s'→(∀ a o,H a=some o→H' a=some o)→CloAt H' (frs X.stack) s'.heap fa (X.env.qual ++ "<lambda>") params body scope cl fr fv→Q (.ref fa) s') :
  W9 (model X.prog X.w) X.A (eval (.Lambda params body scope pos) X.env) Q E s:=by
 obtain ⟨ps,hp,ht,hr⟩:=I.hok P _ hP
 have CHh:=PySem.W.codeHd_of_K I.kIn CH
 have hg:s.heap.Ns Wj X.mg:=I.mod.glob.keeps I.bk
 have hb:=hB.keeps I.bk
 -- the closure,once all is laid
 have fin:∀ (H':Hp) (h':Heap) (tk:Tok) (pm ctv:Value) (c':Addr) (oc:Obj),(∀ b o,b≠P→s.heap.get? b=some o→h'.get? b=some o)→s.heap.objs.size≤h'.objs.size→(∀ a o,H a=some o→H' a=some o)→(∀ b,H b=none→b < s.heap.objs.size→H' b=none)→H' h'.objs.size=none →
   H' c'=some (.frz oc (.ext fun _=>True))→(∃ vs tq,oc.data = .fields vs∧vs[1]? = some (.str (X.env.qual ++ "<lambda>") tq))→HOk X.prog X.w H' (h'.push (J4 "<lambda>" (X.env.qual ++ "<lambda>") params body scope cl pm c' ctv))→(∃ o,h'.get? P=some o) →
   Q (.ref h'.objs.size) { s with heap:=h'.push (J4 "<lambda>" (X.env.qual ++ "<lambda>") params body scope cl pm c' ctv),toks:=tk }:=by
  intro H' h' tk pm ctv c' oc hk hsz up dn hfa hc' hoc hok hPo
  have kp:∀ b o,b≠P→s.heap.get? b=some o→(h'.push (J4 "<lambda>" (X.env.qual ++ "<lambda>") params body scope cl pm c' ctv)).get? b=some o:=fun b o nb e=>W5 _ (hk b o nb e)
  have nP:∀ b,H b=none→b≠P:=fun b n z=>by rw [z,hP] at n; cases n
  have J:Inv X pins σ H' { s with heap:=h'.push (J4 "<lambda>" (X.env.qual ++ "<lambda>") params body scope cl pm c' ctv),toks:=tk }:=I.un ⟨fun b o e n _ _=>kp b o (nP b n) e,fun b o e n _ _=>⟨o.slots,kp b o (nP b n) e⟩,fun b o e n _=>dn b n (Wl e),
   fun b o e _=>by
    by_cases z:b=P
    ·obtain ⟨o',q⟩:=hPo
     exact ⟨o',by rw [z]; exact W5 _ q⟩
    ·exact ⟨o,kp b o z e⟩,fun b xs e=>up _ _ e,fun b o u e=>up _ _ e,fun b ps e=>⟨#[],by rw [up _ _ e]; simp⟩⟩ hok
  refine h _ H' _ J up ⟨⟨pm,c',ctv,oc,Wy _ rfl,hfa,I.nostk hsz,hc',hoc⟩,fun x a e=>?_,fun x y a e1 e2=>I.ok.inj x y a (hsub x a e1) (hsub y a e2),fun i x v e1 e2=>?_,hlen⟩
  ·exact ⟨J.cell x a (hsub x a e),J.freeC x a (hsub x a e),J.cellstk hfn (hsub x a e)⟩
  ·obtain ⟨j,a,q1,q2,q3,q4⟩:=hval i x v e1 e2
   obtain ⟨m,_,hl⟩:=J.loc
   obtain ⟨u,r1,r2⟩:=hl j x v q1 q2 (.inr (.inl q3))
   rcases r2 with ⟨z,_⟩ | ⟨_,a',z1,z2⟩
   ·have z':X.env.scope.names.lookup x=some .local:=z
    rw [q3] at z'; cases z'
   ·rw [hsub x a q4] at z1; cases z1
    exact ⟨a,u,q4,z2,r1⟩
 refine PySem.W.kla_eval hdef ?_
 cases e:codeAmong pos ps.toList with
 | some cv =>
  obtain ⟨c',oc,rfl,q1,q2⟩:=hr cv e
  refine PySem.W.kla_makeFunctionHit hcl I.ok.glob hg hcode CHh hp ht e hb fun ctv h' tk hk hsz=>?_
  exact fin H h' tk _ ctv c' oc (fun b o _ q=>hk b o q) hsz (fun _ _ q=>q) (fun _ n _=>n) (I.hok.fresh hsz) q1 q2 (I.hok.kept fun b u q=>W5 _ (hk b u q)) ⟨_,hk _ _ hp⟩
 | none =>
  refine PySem.W.kla_makeFunction hcl I.ok.glob hg hcode CHh hp ht e hgP hb fun c' ctv h' tk hx hge hlt hrec htb=>?_
  obtain ⟨c2,oc,vs,tq,ec,hoc,hd,hv⟩:=hrec
  cases ec
  have hn:H c'=none:=I.hok.fresh hge
  have up:∀ a o,H a=some o→upd H c' (.frz oc (.ext fun _=>True)) a=some o:=fun a o q=>by rw [z0f (z0v q hn)]; exact q
  have hsz:s.heap.objs.size≤h'.objs.size:=WP hge (J5 hlt)
  refine fin (upd H c' (.frz oc (.ext fun _=>True))) h' tk _ ctv c' oc (fun b o nb q=>hx b o nb q) hsz up (fun b n hb=>by rw [z0f (WK (Wt hb hge))]; exact n) (by rw [z0f (Nat.ne_of_gt hlt)]; exact I.hok.fresh hsz) z0l ⟨vs,tq,hd,hv⟩ ?_ ⟨_,htb⟩
  intro a o ea
  by_cases h1:a=c'
  ·subst h1
   rw [z0l] at ea; cases ea
   exact ⟨W5 _ hoc,trivial,⟨_,W5 _ hoc⟩,fun _ _ _ _=>trivial⟩
  ·rw [z0f h1] at ea
   by_cases h2:a=P
   ·subst h2
    rw [hP] at ea; cases ea
    refine ⟨_,W5 _ htb,?_,fun cv z=>?_⟩
    ·rw [Array.toList_append]
     exact z4q (a:=.none) ht
    ·rw [Array.toList_append] at z
     have:=z71 ht e z
     subst this
     exact ⟨c',oc,rfl,z0l,vs,tq,hd,hv⟩
   ·refine (I.hok a o ea).stay (fun b u hb q=>W5 _ (hx b u (fun z=>?_) q)) (fun b q=>up _ _ q) (fun b xs q=>up _ _ q) fun b o u q=>up _ _ q
    rcases hb with hb | hb
    ·exact h2 (hb.symm.trans z)
    ·rw [z,hP] at hb; cases hb
end
end L2
namespace DV
open PySem PySem.Spec PyProof.Rows L2
abbrev Tbs:=List (Addr×Pos×Str)
def TH (ts:Tbs) (H:Hp):Prop:=∀ t ∈ ts,H t.1=some (.ctab t.2.1 t.2.2)
structure FT (ts:Tbs) (c:Fc):Prop where
 h:TH ts c.H₀
 n:∀ t ∈ ts,¬ c.I t.1
theorem FT.now {ts:Tbs} {c:Fc} {σ:St} {δ:Dl} {H:Hp} (f:FT ts c) (k:Ok c σ δ H):TH ts H:=fun t ht=>k.keep _ _ (f.h t ht) (f.n t ht)
section
variable {P:Wd} {w:Wg} {K:W0} {mg:Str→Option Value} {base:Heap}
def spS (P:Wd) (w:Wg) (K:W0) (mg:Str→Option Value) (base:Heap) (N:List Str) (qual:Str) (scope:Scope) (f:Addr) (k:Nat) (fbW:Addr→(D→Option D)→DS):List Env→W1→Sp:=fun outer s vs H Q _ =>
 ∃ (d:D) (fa:Addr) (F:D→Option D) (B:Addr→Prop) (v:V),vs=[v,.ref fa]∧Ok ⟨H,B,[],fun _ _=>False⟩ [some v,some (.ref fa)] [some (.pure d),some (.pure (.fn fa))] H ∧
  (∀ cdv A E,Room k (A.deeper (Qb qual scope s.heap.objs.size f cdv))→A.frames=some outer→CloX (cxOf CX0 P w K mg base N qual scope f cdv A outer s H E).nox ⟨H,B,[],fun _ _=>False⟩ fa F) ∧
  ∃ r outs,runD (fbW fa F) N.length [.pure d,.pure (.fn fa)]=some (r,outs) ∧
   ∀ v' H',Aft ⟨H,B,[],fun _ _=>False⟩ [some v,some (.ref fa)] [some (.pure d),some (.pure (.fn fa))] H [some v,some (.ref fa)] (z0P outs) H'→RepS ⟨H,B,[],fun _ _=>False⟩ [some v,some (.ref fa)] (z0P outs) H H' v' r→Q v' H'
theorem zfe {x qual:Str} {st:Stmt} {f:Addr} {fd:Wx} {N ps:List Str} {k:Nat} {fbW:Addr→(D→Option D)→DS} (F:Fun K x qual st f fd) (S:FnScope N ps (z00 st)) (h2:ps.length=2)
  (hbody:∀ (c:Fc) (cdv:Value) (A:Wf) (outer:List Env) (s:W1) (H:Hp) (E:XK) (fa:Addr) (Fn:D→Option D),Room k (A.deeper (Qb qual (z00 st) s.heap.objs.size f cdv))→Np c []→CloX (cxOf CX0 P w K mg base N qual (z00 st) f cdv A outer s H E).nox c fa Fn→SSs (cxOf CX0 P w K mg base N qual (z00 st) f cdv A outer s H E).nox c (z0q st) (fbW fa Fn)) :
  FnOkS P w K mg base (k + 1) f fd ps (spS P w K mg base N qual (z00 st) f k fbW):=by
 refine F.okS S (fun outer s vs H Q E h=>?_) fun cdv A outer s H vs Q E hr hfr h=>?_
 ·obtain ⟨d,fa,Fn,B,v,rfl,_⟩:=h
  exact h2.symm
 ·obtain ⟨d,fa,Fn,B,v,rfl,ok,hclo,r,outs,hrun,q⟩:=h
  refine ⟨tDS ⟨H,B,[],fun _ _=>False⟩ (fbW fa Fn),hbody ⟨H,B,[],fun _ _=>False⟩ cdv A outer s H E fa Fn hr (fun p hp=>by simp at hp) (hclo cdv A E hr hfr),?_⟩
  have hst:start N [v,.ref fa]=z0I [v,.ref fa] ++ W8 (N.length - 2) none:=rfl
  refine ⟨z09 N.length [.pure d,.pure (.fn fa)],by rw [hst]; exact ok.ext _,?_⟩
  unfold runD at hrun
  unfold z1x
  have hpin:z0g 0 [.pure d,.pure (.fn fa)] [v,.ref fa]=[]:=by simp [z0g]
  cases e:fbW fa Fn (z09 N.length [.pure d,.pure (.fn fa)]) with
  | exc x δx=>rw [e] at hrun; cases hrun
  | stuck=>rw [e] at hrun; cases hrun
  | ok fl δ' =>
   rw [e] at hrun
   show ∀ σ' H',Aft _ (start N [v,.ref fa]) (z09 N.length [.pure d,.pure (.fn fa)]) H σ' δ' H'→fin _ _ σ' δ' H' fl
   intro σ' H' a
   rw [hst] at a
   simp only at hrun
   cases fl with
   | brk=>cases hrun
   | cont=>cases hrun
   | next =>
    simp only [z0V,Ww] at hrun
    cases eo:z0h 0 [.pure d,.pure (.fn fa)] δ' with
    | none=>rw [eo] at hrun; cases hrun
    | some os =>
     rw [eo] at hrun
     cases hrun
     obtain ⟨l1,l2⟩:=z2T (vs:=[v,.ref fa]) (by rw [hpin]) ok a eo
     exact q .non H' l1 .non
   | ret r' =>
    simp only [z0V,Ww] at hrun
    cases eo:z0h 0 [.pure d,.pure (.fn fa)] δ' with
    | none=>rw [eo] at hrun; cases hrun
    | some os =>
     rw [eo] at hrun
     cases hrun
     obtain ⟨l1,l2⟩:=z2T (vs:=[v,.ref fa]) (by rw [hpin]) ok a eo
     exact fun v' rv=>q v' H' l1 (l2 v' _ rv)
end
def spDT (ts:Tbs) (n:Nat) (G:DF):Sp:=fun vs H Q E=>TH ts H∧spD n G vs H Q E
def KFnT (P:Wd) (w:Wg) (K:W0) (mg:Str→Option Value) (base:Heap) (ts:Tbs) (k:Nat) (x:Str) (n:Nat) (G:DF):Prop :=
 ∃ (f:Addr) (fd:Wx) (ps:List Str),mg x=some (.ref f)∧WN K (.ref f)=true∧Binds K fd ps []∧FnOk P w K mg base CX0 k f fd ps (spDT ts n G)
section
variable {P:Wd} {w:Wg} {K:W0} {mg:Str→Option Value} {base:Heap}
theorem zc9 {ts:Tbs} {x qual:Str} {st:Stmt} {f:Addr} {fd:Wx} {N ps:List Str} {k:Nat} {np:List Nat} {fb:DS} {G:DF} (F:Fun K x qual st f fd) (S:FnScope N ps (z00 st))
  (hbody:∀ (c:Fc) (cdv:Value) (A:Wf) (outer:List Env) (s:W1) (H:Hp) (E:XK),Room k (A.deeper (Qb qual (z00 st) s.heap.objs.size f cdv))→Np c np→FT ts c→(∃ oc od kV doc pm an ct osl,K.lookup f=some ⟨oc,od,.func (WF x qual (z18 st) (z0q st) (z00 st) .none kV doc pm an cdv ct),osl⟩)→SSs (cxOf CX0 P w K mg base N qual (z00 st) f cdv A outer s H E).nox c (z0q st) fb)
  (hG:∀ ss y,G ss=some y→ioOk np 0 ss=true∧runD fb N.length ss=some y):FnOk P w K mg base CX0 (k + 1) f fd ps (spDT ts ps.length G):=by
 obtain ⟨oc,od,kV,doc,pm,an,cdv,ct,osl,rfl,lk,hcd⟩:=F.ex
 refine zbu lk hcd S (fun vs H Q E h=>?_) fun A outer s H vs Q E hr h=>?_
 ·obtain ⟨_,ss,B,hl,_⟩:=h
  exact hl
 ·obtain ⟨hT,ss,B,hl,ok,r,outs,hg,q⟩:=h
  obtain ⟨hio,hrun⟩:=hG ss _ hg
  have hvs:ss.length=vs.length:=by have:=ok.len; simpa using this
  have np':Np ⟨H,B,z0g 0 ss vs,fun _ _=>False⟩ np:=fun p hp=>by
   obtain ⟨j,d,e,h1,_⟩:=z0N (i:=p.1) (a:=p.2) hp
   rw [e]
   exact z40 hio h1
  have ft:FT ts ⟨H,B,z0g 0 ss vs,fun _ _=>False⟩:=⟨hT,fun t ht ⟨i,z⟩=>by
   obtain ⟨j,d,_,h1,h2⟩:=z0N z
   obtain ⟨a,e1,o,_⟩:=ok.own j d (someS_get.mpr h1)
   rw [some'_get.mpr h2] at e1
   cases e1
   have:=hT t ht
   cases d with
   | lst ds=>obtain ⟨_,e,_⟩:=o; rw [this] at e; cases e
   | dct ds=>obtain ⟨_,e,_⟩:=o; rw [this] at e; cases e
   | _=>exact o.elim⟩
  have hb:=hbody ⟨H,B,z0g 0 ss vs,fun _ _=>False⟩ cdv A outer s H E hr np' ft ⟨oc,od,kV,doc,pm,an,ct,osl,lk⟩
  refine ⟨tDS ⟨H,B,z0g 0 ss vs,fun _ _=>False⟩ fb,hb.nox,?_⟩
  have hst:start N vs=z0I vs ++ W8 (N.length - ss.length) none:=by rw [hvs]; rfl
  refine ⟨z09 N.length ss,by rw [hst]; exact ok.ext _,?_⟩
  unfold runD at hrun
  unfold z1x
  cases e:fb (z09 N.length ss) with
  | exc x δx=>rw [e] at hrun; cases hrun
  | stuck=>rw [e] at hrun; cases hrun
  | ok fl δ' =>
   rw [e] at hrun
   show ∀ σ' H',Aft _ (start N vs) (z09 N.length ss) H σ' δ' H'→fin _ _ σ' δ' H' fl
   intro σ' H' a
   rw [hst] at a
   simp only at hrun
   cases fl with
   | brk=>cases hrun
   | cont=>cases hrun
   | next =>
    simp only [z0V,Ww] at hrun
    cases eo:z0h 0 ss δ' with
    | none=>rw [eo] at hrun; cases hrun
    | some os =>
     rw [eo] at hrun
     cases hrun
     obtain ⟨l1,l2⟩:=z2T rfl ok a eo
     exact q .non H' l1 .non
   | ret r' =>
    simp only [z0V,Ww] at hrun
    cases eo:z0h 0 ss δ' with
    | none=>rw [eo] at hrun; cases hrun
    | some os =>
     rw [eo] at hrun
     cases hrun
     obtain ⟨l1,l2⟩:=z2T rfl ok a eo
     exact fun v rv=>q v H' l1 (l2 v _ rv)
end
section
variable {X:Cx} {c:Fc} {e:Expr} {es:List Expr} {as:List Ak} {k n:Nat} {x:Str} {G:DF} {pp pos:Pos} {ts:Tbs}
theorem z3v (F:KFnT X.prog X.w X.K X.mg X.base ts k x n G) (ft:FT ts c) (hK:z1R G) (hr:Room k X.A) (hg:Gl X x) (ha:SX X c (e :: es) as) (hl:as.length=n) (hdb:(x == ("__debug__" : Str))=false:=by decide)
  (he:W3 (e :: es) X.env=(false,eval e X.env) :: W3 es X.env:=by rfl) (hpl:(WD pos (W3 es X.env)).any (·.1)=false:=by rfl):SE X c (.Call (.Name x pp) (e :: es) [] pos) (z0d G as):=by
 obtain ⟨f,fd,ps,hm,hk,hb,ok⟩:=F
 refine PE.weak (z9w ok hr hg hm hk hb .nil zeI ha hdb he hpl) fun σ H Q h=>?_
 obtain ⟨δ,kk,hio,q⟩:=z4X (ps:=ps) hK hl h
 exact ⟨δ,kk,hio,z01 q fun ds δ1 q1 vs H1 a1 r1=>⟨ft.now a1.ok,q1 vs H1 a1 r1⟩⟩
end
def z4P:List Nat→Dl→Option (List D×Dl)
 | [],δ=>some ([],δ)
 | j :: js,δ=>match δ[j]? with
  | some (some (.pure d))=>(z4P js δ).map fun p=>(d :: p.1,p.2)
  | some (some (.own d))=>(z4P js (δ.set j (some (.pure d)))).map fun p=>(d :: p.1,p.2)
  | _=>none
theorem za7 {c:Fc} {σ:St} {H:Hp}:∀ {js:List Nat} {δ δ2:Dl} {dv:List D},Ok c σ δ H→z4P js δ=some (dv,δ2)→Aft c σ δ H σ δ2 H∧∃ fv:List V,fv.length=js.length∧(∀ (i:Nat) j,js[i]? = some j→∃ v,fv[i]? = some v∧σ[j]? = some (some v))∧Reps H (Av c σ δ2) fv dv
 | [],δ,δ2,dv,k,h=>by
  simp only [z4P,W7,Prod.mk.injEq] at h
  obtain ⟨rfl,rfl⟩:=h
  exact ⟨.refl k,[],rfl,fun i j e=>by simp at e,.nil⟩
 | j :: js,δ,δ2,dv,k,h=>by
  have core:∀ {δ1:Dl} {d:D} {v:V},Aft c σ δ H σ δ1 H→Rep H (Av c σ δ1) v d→σ[j]? = some (some v)→(z4P js δ1).map (fun p=>(d :: p.1,p.2))=some (dv,δ2)→Aft c σ δ H σ δ2 H∧∃ fv:List V,fv.length=(j :: js).length∧(∀ (i:Nat) j',(j :: js)[i]? = some j'→∃ v,fv[i]? = some v∧σ[j']? = some (some v))∧Reps H (Av c σ δ2) fv dv:=by
   intro δ1 d v a1 r1 e1 hm
   cases e:z4P js δ1 with
   | none=>rw [e] at hm; cases hm
   | some p =>
    obtain ⟨dv',δ'⟩:=p
    rw [e] at hm
    simp only [WA,W7,Prod.mk.injEq] at hm
    obtain ⟨rfl,rfl⟩:=hm
    obtain ⟨a2,fv,h1,h2,h3⟩:=za7 a1.ok e
    refine ⟨a1.trans a2,v :: fv,by simp [h1],fun i j' ej=>?_,.cons (Rep.aft r1 a2) h3⟩
    cases i with
    | zero=>simp at ej; subst ej; exact ⟨v,rfl,e1⟩
    | succ i =>
     obtain ⟨v',q1,q2⟩:=h2 i j' (by simpa using ej)
     exact ⟨v',by simpa using q1,q2⟩
  simp only [z4P] at h
  split at h
  ·rename_i d e
   obtain ⟨v,e1,r⟩:=k.slot j d e
   exact core (.refl k) r e1 h
  ·rename_i d e
   obtain ⟨a,e1,af,r⟩:=k.give e
   exact core af r e1 h
  ·cases h
def zag (fe:DE) (js:List Nat) (fb:DE) (W:(D→Option D)→D→Option D):DE:=fun δ=>(fe δ).bind fun r δ1=>match z4P js δ1 with
 | some (dv,δ2)=>match W (cloF fb dv) r.d with
  | some d'=>.ok (.pure d') δ2
  | none=>.stuck
 | none=>.stuck
def zdE (P:Wd) (w:Wg) (K:W0) (mg:Str→Option Value) (base:Heap) (k:Nat) (x:Str) (m:Nat) (fbW:Addr→(D→Option D)→DS):Prop :=
 ∃ (f:Addr) (fd:Wx) (ps:List Str) (qual:Str) (scope:Scope) (N:List Str),N.length=m∧mg x=some (.ref f)∧WN K (.ref f)=true∧Binds K fd ps []∧ps.length=2∧FnOkS P w K mg base (k + 1) f fd ps (spS P w K mg base N qual scope f k fbW)
theorem zdT {cl cells:List (Str×Addr)} (h:∀ q ∈ cl,cells.lookup q.1=some q.2):∀ x a,cl.lookup x=some a→cells.lookup x=some a:=fun x a e=>h (x,a) (Wr e)
theorem zeW {p:Str} {fr:List Str} {sc:Scope} (h1:sc.kind = .function:=by rfl) (h2:sc.isCoroutine=false:=by rfl) (h3:sc.isGenerator=false:=by rfl) (h4:sc.names.lookup p=some .local:=by rfl) (h5:∀ y ∈ sc.names,y.2≠.cell:=by decide +kernel)
  (h6:∀ y ∈ sc.names,y.2 = .free→y.1 ∈ fr:=by decide +kernel) (h7:∀ x ∈ fr,sc.names.lookup x=some .free:=by decide +kernel):LamScope p fr sc:=⟨h1,h2,h3,h4,h5,fun x e=>h6 _ (Wr e) rfl,h7⟩
section
variable {X:Cx} {c:Fc} {e:Expr} {fe fb:DE} {params:Arguments} {body:Expr} {scope:Scope} {lpos pos pp:Pos} {P code:Addr} {cl:List (Str×Addr)} {fr:List Str} {js:List Nat} {p x:Str} {kl kw m:Nat} {fbW:Addr→(D→Option D)→DS} {W:(D→Option D)→D→Option D} {ts:Tbs}
theorem zcv (F:zdE X.prog X.w X.K X.mg X.base kw x m fbW) (hW:∀ fa Fn d r,W Fn d=some r→∃ outs,runD (fbW fa Fn) m [.pure d,.pure (.fn fa)]=some (.pure r,outs))
  (ft:FT ts c) (hmem:(P,lpos,X.env.qual ++ "<lambda>") ∈ ts) (hr:Room (kw + 1) X.A) (hkl:kl + 1≤kw) (hg:Gl X x) (he:SE X c e fe) (hfn:∀ x,X.fn x=true)
  (hdef:defaultsOf params X.env=([],[])) (hcl:closureFor scope X.env=pure cl) (hcode:X.env.code = .ref code) (CH:QF X.K code P=true) (hgP:Wj≠P) (hB:X.base.BuiltinsAt X.mg P)
  (hsub:∀ x a,cl.lookup x=some a→X.env.cells.lookup x=some a) (L:LamScope p fr scope) (hjs:js.length=fr.length)
  (hN:∀ (i:Nat) x j,fr[i]? = some x→js[i]? = some j→X.N[j]? = some x∧X.env.scope.names.lookup x=some .cell∧∃ a,cl.lookup x=some a)
  (hb:∀ pm cdv ctv (u:Value),bindArgs (PySem.W.kla_fn "<lambda>" (X.env.qual ++ "<lambda>") params body scope cl pm cdv ctv) ⟨[u],[]⟩=pure [(p,u)])
  (hbody:∀ (c':Fc) (fa:Addr) (cd:Value) (A:Wf) (outer:List Env) (s:W1) (H:Hp),Room kl (A.deeper (QS (X.env.qual ++ "<lambda>") scope s.heap.objs.size fa cd cl))→c'.pin=[]→SE (zap X.prog X.w X.K X.mg X.base (p :: fr) (X.env.qual ++ "<lambda>") scope fa cd cl A outer s H) c' body fb)
  (hdb:(x == ("__debug__" : Str))=false:=by decide)
  (hs:W3 [e,.Lambda params body scope lpos] X.env=(false,eval e X.env) :: W3 [.Lambda params body scope lpos] X.env:=by rfl)
  (hs2:W3 [.Lambda params body scope lpos] X.env=[(false,eval (.Lambda params body scope lpos) X.env)]:=by rfl):SE X c (.Call (.Name x pp) [e,.Lambda params body scope lpos] [] pos) (zag fe js fb W):=by
 obtain ⟨f,fd,ps,qual,sc,N,hNm,hmg,hk,hbi,h2,ok⟩:=F
 intro pins s σ H Q I ⟨δ,k,q⟩
 refine Q1 (z39 I hg hmg ?_ hdb)
 refine J9 (h₀:=X.base) I.ok.mod.kin hk ?_ hs (by rw [hs2]; rfl)
 rw [hs,hs2]
 show W9 _ _ (spliced ((false,eval e X.env) :: [(false,eval (.Lambda params body scope lpos) X.env)])) _ _ s
 unfold zag at q
 rw [z02] at q
 refine Calls.spliced_cons (thn (he pins s σ H (fun v H1=>∃ r δ1 dv δ2 d',Aft c σ δ H σ δ1 H1∧Rep H1 (Av c σ δ1) v r∧z4P js δ1=some (dv,δ2)∧W (cloF fb dv) r=some d'∧∀ v' H3,Aft c σ δ H σ δ2 H3→Rep H3 (Av c σ δ2) v' d'→Q v' H3) I ⟨δ,k,z01 q fun r δ1 q1 v H1 a1 r1=>?_⟩) fun u s1 ⟨v,H1,I1,ru,r,δ1,dv,δ2,d',a1,r1,eg,ew,hq⟩=>?_)
 ·cases eg:z4P js δ1 with
  | none=>rw [eg] at q1; exact q1.elim
  | some z =>
   obtain ⟨dv,δ2⟩:=z
   rw [eg] at q1
   simp only at q1
   cases ew:W (cloF fb dv) r.d with
   | none=>rw [ew] at q1; exact q1.elim
   | some d' =>
    rw [ew] at q1
    exact ⟨r.d,δ1,dv,δ2,d',a1,r1.rep,eg,ew,fun v' H3 a3 r3=>q1 v' H3 a3 r3⟩
 ·obtain ⟨a2,fv,l1,l2,rf⟩:=za7 a1.ok eg
  have k2:=a2.ok
  have hv:∀ (i:Nat) x v,fr[i]? = some x→fv[i]? = some v→∃ (j:Nat) (a:Addr),X.N[j]? = some x∧σ[j]? = some (some v)∧X.env.scope.names.lookup x=some .cell∧cl.lookup x=some a:=fun i y w e1 e2=>by
   have hi:i < js.length:=by rw [hjs]; exact (Wb.mp e1).1
   obtain ⟨w',q1,q2⟩:=l2 i js[i] (by simp [hi])
   rw [e2] at q1; cases q1
   obtain ⟨z1,z2,a,z3⟩:=hN i y js[i] e1 (by simp [hi])
   exact ⟨_,a,z1,q2,z2,z3⟩
  refine Calls.spliced_cons (zbm I1 (ft.now k2 _ hmem) hfn hdef hcl hcode CH hgP hB hsub (by rw [l1,hjs]) hv fun fa H2 s2 I2 up C=>Calls.spliced_nil ⟨I2.kIn,?_⟩)
  have k3:Ok c σ δ2 H2:=k2.mono up
  have sp:spS X.prog X.w X.K X.mg X.base N qual sc f kw fbW X.stack s2 [v,.ref fa] H2 Q E0:=by
   obtain ⟨outs,hrun⟩:=hW fa (cloF fb dv) r d' ew
   have r3:Rep H2 (Av c σ δ2) v r:=(Rep.aft r1 a2).keep fun a o e _=>up a o e
   refine ⟨r,fa,cloF fb dv,Av c σ δ2,v,rfl,?_,fun cdv A E hr' hfr=>?_,.pure d',outs,by rw [hNm]; exact hrun,fun v' H' a r'=>?_⟩
   ·have nown:∀ (i:Nat) z,([some (S.pure r),some (S.pure (.fn fa))]:Dl)[i]? = some (some (.own z))→False:=fun i z e=>by
     match i with
     | 0=>simp at e
     | 1=>simp at e
     | i + 2=>simp at e
    have avs:∀ b,Av ⟨H2,Av c σ δ2,[],fun _ _=>False⟩ [some v,some (.ref fa)] [some (.pure r),some (.pure (.fn fa))] b→Av c σ δ2 b:=fun b z=>by
     rcases z with z | ⟨i,y,z1,_⟩
     ·exact z
     ·exact (nown i y z1).elim
    refine ⟨fun a o e _=>e,fun a z=>k3.avthere z,fun a ⟨i,z⟩=>by simp at z,rfl,fun i z e=>?_,fun i z e=>(nown i z e).elim,fun i j a z z' e=>(nown i z e).elim,fun z hz=>by simp at hz⟩
    match i with
    | 0 =>
     simp at e
     subst e
     exact ⟨v,rfl,r3.anti fun b z=>.inl (avs b z)⟩
    | 1 =>
     simp at e
     subst e
     exact ⟨.ref fa,rfl,.fn fa⟩
    | i + 2=>simp at e
   ·exact zfn (X:=(cxOf CX0 X.prog X.w X.K X.mg X.base N qual sc f cdv A X.stack s2 H2 E).nox) (k:=kl) rfl rfl rfl C L (hr'.mono hkl) hb (Reps.keep rf fun a o e _=>up a o e) fun c' cd s' H' hr2 hp=>hbody c' fa cd _ _ s' H' hr2 hp
   ·have up2:∀ b o,H2 b=some o→H' b=some o:=fun b o eb=>a.ok.keep b o eb fun ⟨i,z⟩=>by simp at z
    exact hq v' H' (((a1.trans a2).trans (.mono k2 up)).trans (.mono k3 up2)) (Rep.anti (show Rep H' _ v' d' from r') fun b z=>.inl (.inl z))
  have rr:Vals [v,.ref fa] [u,.ref fa]:=.cons ru (.cons rfl .nil)
  have hbs:=hbi s2 [u,.ref fa] I2.kIn (by rw [WJ,h2]; rfl)
  rw [WJ] at hbs
  refine Ji (Qq (ok.run X.A X.stack s2 H2 ⟨[u,.ref fa],[]⟩ [u,.ref fa] [v,.ref fa] Q E0 hr I2.env0 hbs rr sp) fun r s' hq'=>?_)
  cases r with
  | error e=>exact hq'.elim
  | ok fl =>
   cases fl with
   | ret u=>exact I2.after hq'
   | next=>exact False.elim hq'
   | brk=>exact False.elim hq'
   | cont=>exact False.elim hq'
end
theorem z9V {P:Wd} {w:Wg} {K:W0} {mg mb:Str→Option Value} {k:Nat} {fa a T c:Addr} {tpos:Pos} {tq:Str} {fd:Wx} {x:Str} {G:DF} {s₁:W1} {vs:List Value} {ns:List Int}
  (KX:K.In s₁.heap) (hns:s₁.heap.Ns Wj mg) (hb:s₁.heap.Ns builtinsNs mb) (hbb:∀ x:Str,x≠"__name__"→mb x=WW x) (hlim:s₁.heap.NoLimit) (hg:s₁.gens = #[])
  (ha:s₁.heap.get? a=some { cls:=.type "list",data:=.seq vs.toArray }) (hi:IntsAre vs ns) (hl:ns.length≤W6) (hr:Room k callerA)
  (hL:noL K=true) (hT:s₁.heap.get? T=some (PySem.W.tabObj #[])) (hC:PySem.W.CodeHd s₁.heap c T) (hB:∃ bm o,mg "__builtins__" = some (.ref bm)∧bm≠builtinsNs∧s₁.heap.get? bm=some o∧o.cls = .type "module"∧o.dict=some builtinsNs∧o.data = .plain) (hKT:K.lookup T=none)
  (F:∀ base:Heap,K.In base→base.Ns Wj mg→base.BuiltinsAt mg T→FnOk P w K mg base CX0 k fa fd [x] (spDT [(T,tpos,tq)] 1 G)) (hbind:∀ (s:W1) (u:Value),BindsTo s fd ⟨[u],[]⟩ [(x,u)])
  (hG:∃ outs,G [.pure (.lst (ns.map .int))]=some (.pure (.bl true),outs)) :
  Qf (model P w) callerA (.call (.ref fa) ⟨[.ref a],[]⟩) (fun r s'=>r = .ok (.ret (.bool true))∧OldK s₁.heap s'.heap∧s'.os=s₁.os∧AllBare s'.gens) s₁:=by
 have rv:=L2.vals_ints hi
 have lenV:=hi.length
 have naT:T≠a:=fun z=>by
  rw [z,ha] at hT
  have:=(Ws hT)
  have h2:=congrArg Obj.cls this
  cases h2
 have hka:K.lookup a=none:=by
  cases hk:K.lookup a with
  | none=>rfl
  | some o =>
   have e:=KX a o hk
   rw [ha] at e
   cases e
   exact (zeS hL hk rfl).elim
 let H:Hp:=fun b=>if b=a then some (.frz { cls:=.type "list",data:=.seq vs.toArray } (.lst (ns.map V.int))) else if b=T then some (.ctab tpos tq) else none
 have Ha:H a=some (.frz { cls:=.type "list",data:=.seq vs.toArray } (.lst (ns.map V.int))):=if_pos rfl
 have HT:H T=some (.ctab tpos tq):=by show (if T=a then _ else _)=_; rw [if_neg naT,if_pos rfl]
 have Hn:∀ b,b≠a→b≠T→H b=none:=fun b h1 h2=>by show (if b=a then _ else _)=_; rw [if_neg h1,if_neg h2]
 have hok:HOk P w H s₁.heap:=fun b u z=>by
  by_cases h1:b=a
  ·subst h1
   rw [Ha] at z; cases z
   exact ⟨ha,by rw [Wz]; exact hl,vs,_,rv,ha⟩
  ·by_cases h2:b=T
   ·subst h2
    rw [HT] at z; cases z
    exact ⟨#[],hT,trivial,fun cv q=>by cases q⟩
   ·rw [Hn b h1 h2] at z; cases z
 have base_of:∀ {b:Addr} {o:Obj},s₁.heap.get? b=some o→H b=none→(hidT s₁.heap H).get? b=some o:=fun e n=>z82 e n
 have noA:∀ {b:Addr} {o:Obj} {es:Array DictEntry} {ep:Nat},s₁.heap.get? b=some o→o.data = .dict es ep→H b=none:=fun {b o es ep} e d=>by
  refine Hn b (fun z=>?_) fun z=>?_
  ·rw [z,ha] at e; cases e
   have d':Data.seq vs.toArray _=Data.dict es ep:=d
   cases d'
  ·rw [z,hT] at e; cases e
   have d':Data.fields #[]=Data.dict es ep:=d
   cases d'
 have nsK:∀ {b:Addr} {m:Str→Option Value},s₁.heap.Ns b m→(hidT s₁.heap H).Ns b m:=fun {b m} ⟨o,es,ep,e,d,r⟩=>⟨o,es,ep,base_of e (noA e d),d,r⟩
 have hKb:K.In (hidT s₁.heap H):=fun b o e=>base_of (KX b o e) (Hn b (fun z=>by rw [z,hka] at e; cases e) fun z=>by rw [z,hKT] at e; cases e)
 have hM:Mod K mg (hidT s₁.heap H):=⟨hKb,nsK hns,⟨mb,nsK hb,hbb⟩,let ⟨mc,h1,h2⟩:=hlim; ⟨mc,nsK h1,h2⟩⟩
 have e0:Env0 P w K mg (hidT s₁.heap H) callerA [] s₁ H:=⟨rfl,hM,fun b o e=>z9L e,Nat.le_of_eq (z6G _ _),trivial,fun b hb=>absurd (show b ∈ ([]:List Addr) from hb) (by simp),hok,.of_eq hg⟩
 have hTH:TH [(T,tpos,tq)] H:=fun t ht=>by
  have:t=(T,tpos,tq):=by simpa using ht
  subst this
  exact HT
 have hR:Rd H a (.lst (ns.map V.int)):=.inr ⟨_,Ha⟩
 have sp:spDT [(T,tpos,tq)] 1 G [.ref a] H (fun v H'=>v = .bl true∧H' T=some (.ctab tpos tq)) E0:=by
  obtain ⟨outs,hg⟩:=hG
  have rep:∀ O:Addr→Prop,¬ O a→Rep H O (.ref a) (.lst (ns.map D.int)):=fun O hO=>.lst hO hR (by simp) fun i v d e1 e2=>by
   rw [Wv] at e1 e2
   cases e:ns[i]? with
   | none=>rw [e] at e1; cases e1
   | some k=>rw [e] at e1 e2; cases e1; cases e2; exact .int k
  refine ⟨hTH,[.pure (.lst (ns.map .int))],fun _=>False,rfl,⟨fun b o e _=>e,fun b z=>z.elim,fun b ⟨i,z⟩=>?_,rfl,fun i d e=>?_,fun i d e=>?_,fun i j b d d' e1 e2 e3 e4=>?_,fun p z=>?_⟩,_,outs,hg,fun v H' x r=>?_⟩
  ·simp [z0g] at z
  ·cases i with
   | zero =>
    simp at e
    subst e
    refine ⟨.ref a,rfl,rep _ fun z=>?_⟩
    rcases z with z | ⟨j,d',z1,z2⟩
    ·exact z
    ·cases j with
     | zero=>simp at z1
     | succ j=>simp at z1
   | succ i=>simp at e
  ·cases i with
   | zero=>simp at e
   | succ i=>simp at e
  ·cases i with
   | zero=>simp at e1
   | succ i=>simp at e1
  ·simp [z0g] at z
  ·cases r
   exact ⟨rfl,x.ok.keep T _ HT fun ⟨i,z⟩=>by simp [z0g] at z⟩
 have hBb:(hidT s₁.heap H).BuiltinsAt mg T:=by
  obtain ⟨bm,o,b1,b2,b3,b4,b5,b6⟩:=hB
  refine ⟨bm,o,b1,b2,fun z=>?_,fun z=>?_,base_of b3 (Hn bm (fun z=>?_) fun z=>?_),b4,b5,b6⟩
  ·obtain ⟨o2,es,ep,e,d,_⟩:=hns
   rw [z,e] at b3; cases b3
   rw [d] at b6; cases b6
  ·rw [z,hT] at b3; cases b3
   cases b6
  ·rw [z,ha] at b3; cases b3
   cases b6
  ·rw [z,hT] at b3; cases b3
   cases b6
 refine Qq ((F _ hKb (nsK hns) hBb).run callerA [] s₁ H ⟨[.ref a],[]⟩ [.ref a] [.ref a] _ _ hr e0 (hbind s₁ (.ref a)) (.cons rfl .nil) sp) fun r s' h=>?_
 cases r with
 | error e=>exact h.elim
 | ok fl =>
  cases fl with
  | next=>exact False.elim h
  | brk=>exact False.elim h
  | cont=>exact False.elim h
  | ret u =>
   obtain ⟨v,H',os,bare,un,hok',r',q⟩:=h
   obtain ⟨q1,q2⟩:=q
   subst q1
   obtain rfl:u=Value.bool true:=r'
   have old:∀ b o,s₁.heap.get? b=some o→asItWas s₁.heap s'.heap b o∧∃ o',s'.heap.get? b=some o':=fun b o e=>by
    by_cases h1:b=a
    ·subst h1
     have z2:=un.frzs b _ _ Ha
     obtain ⟨e2,_⟩:=hok' b _ z2
     rw [ha] at e; cases e
     exact ⟨.inl e2,_,e2⟩
    ·by_cases h2:b=T
     ·subst h2
      obtain ⟨ps,e2,_⟩:=hok' b _ q2
      rw [hT] at e; cases e
      exact ⟨.inr (.inl ⟨(hC.tab hT).isCodeTable,rfl,#[],ps,rfl,by rw [e2]; simp⟩),_,e2⟩
     ·have:=un.keep b o e (Hn b h1 h2) (by intro z; exact absurd (show b ∈ ([]:List Addr) from z) (by simp)) (by simp)
      exact ⟨.inl this,_,this⟩
   exact ⟨rfl,⟨fun b o e=>(old b o e).1,fun b o e=>(old b o e).2⟩,os,bare⟩
theorem walkDT {l:PySem.W.OpenLaw} {q:Wd} {loose:List Str} {XP:(Str→Option Value)→Heap→Prop} {YP:Wg→Heap→Prop} {d:DefRec} {K:Params→W0} {k:Nat} {G:DF} {T:Addr} {tpos:Pos} {tq:Str} (hn:l.most=some 63) (hdf:d.params.defaults=[]) (hr:Room k callerA)
  (hY:∀ (w:Wg) (h:Heap),YP w h→(K w.params).In h∧h.get? T=some (PySem.W.tabObj #[])) (hL:∀ p:Params,noL (K p)=true) (hKT:∀ p:Params,(K p).lookup T=none)
  (hG:∀ ns:List Int,ns.length≤63→∃ outs,G [.pure (.lst (ns.map .int))]=some (.pure (.bl true),outs))
  (F:∀ (w:Wg) (mg:Str→Option Value) (fa:Addr) (h:Heap),(K w.params).In h→h.Ns Wj mg→mg d.name=some (.ref fa) →
   (∃ c,QF (K w.params) c T=true)∧∃ fd:Wx,(∀ (s:W1) (u:Value),BindsTo s fd ⟨[u],[]⟩ [("script",u)])∧∀ base:Heap,(K w.params).In base→base.Ns Wj mg→base.BuiltinsAt mg T→FnOk l.prog w (K w.params) mg base CX0 k fa fd ["script"] (spDT [(T,tpos,tq)] 1 G)) :
  PySem.W.WalkO q loose XP YP l.row.toRowW d [] (fun f vs=>PySem.call f vs):=by
 refine Att.attach_call hn hdf fun w s₀ s₁ mg mb fa o pm cd doc a vs ns G' Y ho hd hcd hmg hobj hints hlen hg=>?_
 obtain ⟨KX,hT⟩:=hY w _ Y
 obtain ⟨⟨c,hC⟩,fd,hb,hF⟩:=F w mg fa _ KX G'.T.g hmg
 exact z9V KX G'.T.g G'.T.b G'.T.builtins G'.T.nolimit hg hobj hints (WP hlen (by decide)) hr (hL _) hT (PySem.W.codeHd_of_K KX hC) G'.T.bmain (hKT _) hF hb (hG ns hlen)
open PySem (sizeLine)
def zbI (fa:PySem.Addr) (F:D→Option D):DS:=dSeq (dAsg z6P (gNm [] 2)) (dSeq (dAsg (eVar 0) (gNm [] 3)) (dSeq (z1L (dTr (eOp (pIn true) (eVar 3) (bVar 2))) (dSeq (z4R 2 (eVar 3) (eC1 pLen (bVar 2))) (dAsg (z7o fa F 1 (eVar 3)) (gNm [] 3))) 1000000) (dRet (eTup (z0a (eC1 z7Q (bVar 2)) (z0a (eOpF pIxX 2 (bVar 3)) aNil))))))
def wk (F:D→Option D):Nat→List Tx→Tx→Option (List Tx×Nat)
 | 0,_,_=>none
 | n + 1,seen,here=>if here ∈ seen then some (seen,seen.idxOf here) else match F (.str here) with
  | some (.str y)=>wk F n (seen ++ [here]) y
  | _=>none
def z8a (F:D→Option D):D→Option D
 | .str x=>(wk F 1000000 [] x).map fun p=>.tup [.lst (p.1.map .str),.int (p.2:Nat)]
 | _=>none
def dkA:Nat→List Tx→List (DKey×D)
 | _,[]=>[]
 | n,x :: r=>(.inr x,.int (n:Int)) :: dkA (n + 1) r
theorem zak:∀ (n:Nat) (a b:List Tx),dkA n (a ++ b)=dkA n a ++ dkA (n + a.length) b
 | n,[],b=>by simp [dkA]
 | n,x :: r,b=>by
  rw [List.cons_append,dkA,dkA,zak,List.cons_append,WO]
  congr 3
  omega
theorem z7q:∀ (n:Nat) (a:List Tx),(dkA n a).length=a.length
 | _,[]=>rfl
 | n,x :: r=>by rw [dkA,WO,z7q,WO]
theorem z61:∀ (n:Nat) (a:List Tx),(dkA n a).map (fun p=>kyD p.1)=a.map .str
 | _,[]=>rfl
 | n,x :: r=>by rw [dkA,Wu,z61,Wu]; rfl
theorem z7p (x:Tx):∀ (n:Nat) (a:List Tx),valD (dkA n a) (.inr x)=if x ∈ a then some (.int ((n + a.idxOf x:Nat):Int)) else none
 | _,[]=>rfl
 | n,y :: r=>by
  unfold valD dkA
  rw [Qd]
  by_cases h:y=x
  ·subst h
   simp
  ·have h':¬ x=y:=fun e=>h e.symm
   have e:(decide ((Sum.inr y:DKey) = .inr x))=false:=by simp [h]
   have ih:=z7p x (n + 1) r
   unfold valD at ih
   simp only [e]
   rw [ih,List.idxOf_cons]
   have hb:(y == x)=false:=by simp [h]
   simp only [hb,Wp,h',false_or]
   by_cases hm:x ∈ r
   ·simp only [hm,if_true,cond_false]
    congr 2
    omega
   ·simp [hm]
theorem zdx {x:Tx} {v:D} {a:List Tx} (h:x ∉ a):putD (dkA 0 a) (.inr x) v=dkA 0 a ++ [(.inr x,v)]:=by
 have hn:((dkA 0 a).any fun kv=>decide (kv.1 = .inr x))=false:=by
  rw [Jk]
  intro kv hkv
  have:kyD kv.1 ∈ a.map D.str:=by rw [← z61 0 a]; exact Q0 hkv
  simp only [decide_eq_true_eq]
  intro e
  rw [e] at this
  simp [kyD] at this
  exact h this
 unfold putD
 rw [hn]
 simp
theorem z8K (fa:PySem.Addr) (F:D→Option D) (d:D):∀ (n:Nat) (seen:List Tx) (here:Tx) (p:List Tx×Nat),seen.length + n≤1000000→wk F n seen here=some p →
  ∃ last:Tx,last ∈ p.1∧p.1.idxOf last=p.2∧p.1.length≤1000000∧z1L (dTr (eOp (pIn true) (eVar 3) (bVar 2))) (dSeq (z4R 2 (eVar 3) (eC1 pLen (bVar 2))) (dAsg (z7o fa F 1 (eVar 3)) (gNm [] 3))) n [some (.pure d),some (.pure (.fn fa)),some (.own (.dct (dkA 0 seen))),some (.pure (.str here))]
   = .ok .next [some (.pure d),some (.pure (.fn fa)),some (.own (.dct (dkA 0 p.1))),some (.pure (.str last))]
 | 0,_,_,_,_,h=>by simp [wk] at h
 | n + 1,seen,here,p,hl,h=>by
  unfold wk at h
  have hin:pIn true (.str here) (.dct (dkA 0 seen))=some (.pure (.bl (!decide (here ∈ seen)))):=by
   show ((keyD (.str here)).map fun k=>S.pure (.bl (if true then !(valD (dkA 0 seen) k).isSome else (valD (dkA 0 seen) k).isSome)))=_
   simp only [keyD,WA,z7p,if_true]
   by_cases hm:here ∈ seen <;> simp [hm]
  by_cases hm:here ∈ seen
  ·rw [if_pos hm] at h
   cases h
   refine ⟨here,hm,rfl,by show seen.length≤_; omega,?_⟩
   simp only [hm,decide_true,Bool.not_true] at hin
   show z1L _ _ (n + 1) _=_
   generalize dkA 0 seen=L at *
   simp [z1L,dTr,eVar,bVar,hin]
  ·rw [if_neg hm] at h
   cases hF:F (.str here) with
   | none=>rw [hF] at h; cases h
   | some y =>
    rw [hF] at h
    cases y with
    | str y =>
     simp only at h
     obtain ⟨last,h1,h2,h3,h4⟩:=z8K fa F d n (seen ++ [here]) y p (by simp; omega) h
     refine ⟨last,h1,h2,h3,?_⟩
     rw [← h4]
     simp only [hm,decide_false,Bool.not_false] at hin
     have hz:(dkA 0 seen).length < W6:=by rw [z7q,z1l]; omega
     have hp:putD (dkA 0 seen) (.inr here) (.int ((dkA 0 seen).length:Nat))=dkA 0 (seen ++ [here]):=by
      rw [zdx hm,zak,z7q]
      simp [dkA]
     generalize dkA 0 (seen ++ [here])=L1 at *
     generalize dkA 0 seen=L at *
     have e1:dTr (eOp (pIn true) (eVar 3) (bVar 2)) [some (.pure d),some (.pure (.fn fa)),some (.own (.dct L)),some (.pure (.str here))] = .ok true [some (.pure d),some (.pure (.fn fa)),some (.own (.dct L)),some (.pure (.str here))]:=by
      simp [dTr,eVar,bVar,hin]
     have e2:z4R 2 (eVar 3) (eC1 pLen (bVar 2)) [some (.pure d),some (.pure (.fn fa)),some (.own (.dct L)),some (.pure (.str here))] = .ok .next [some (.pure d),some (.pure (.fn fa)),some (.own (.dct L1)),some (.pure (.str here))]:=by
      simp [z4R,z5q,eVar,bVar,pLen,keyD,hz,hp]
     have e3:dAsg (z7o fa F 1 (eVar 3)) (gNm [] 3) [some (.pure d),some (.pure (.fn fa)),some (.own (.dct L1)),some (.pure (.str here))] = .ok .next [some (.pure d),some (.pure (.fn fa)),some (.own (.dct L1)),some (.pure (.str y))]:=by
      simp [dAsg,z7o,eVar,hF]
     simp only [z1L,e1,z0K,if_true]
     have e4:dSeq (z4R 2 (eVar 3) (eC1 pLen (bVar 2))) (dAsg (z7o fa F 1 (eVar 3)) (gNm [] 3)) [some (.pure d),some (.pure (.fn fa)),some (.own (.dct L)),some (.pure (.str here))] = .ok .next [some (.pure d),some (.pure (.fn fa)),some (.own (.dct L1)),some (.pure (.str y))]:=by
      unfold dSeq
      rw [e2]
      exact e3
     rw [e4]
     rfl
    | _=>simp at h
theorem zaI (fa:PySem.Addr) (F:D→Option D) (d r:D) (h:z8a F d=some r):∃ outs,runD (zbI fa F) 4 [.pure d,.pure (.fn fa)]=some (.pure r,outs):=by
 unfold z8a at h
 split at h
 ·rename_i x
  cases e:wk F 1000000 [] x with
  | none=>rw [e] at h; cases h
  | some p =>
   rw [e] at h
   simp only [WA,W7] at h
   subst h
   obtain ⟨last,h1,h2,h3,h4⟩:=z8K fa F (.str x) 1000000 [] x p (by simp) e
   have hx:pIxX (.dct (dkA 0 p.1)) (.str last)=some (.pure (.int (p.2:Nat))):=by
    show ((keyD (.str last)).bind fun k=>(valD (dkA 0 p.1) k).map S.pure)=_
    simp only [keyD,Ww,z7p,h1,if_true,WA,h2,Q5]
   have hk:z7Q (.dct (dkA 0 p.1))=some (.own (.lst (p.1.map .str))):=by
    show some (S.own (D.lst ((dkA 0 p.1).map fun p=>kyD p.1)))=_
    rw [z61]
   have h0:dkA 0 []=[]:=rfl
   rw [h0] at h4
   generalize dkA 0 p.1=L at *
   refine ⟨[.pure (.str x),.pure (.fn fa)],?_⟩
   unfold runD zbI
   simp [z09,dAsg,z6P,eVar]
   rw [h4]
   simp [bVar,hk,eOpF,eOpN,hx,z0V,z0h]
 ·cases h
theorem zdk {ts:Tbs} {H:Hp} {B:Addr→Prop} {ss:List S} {vs:List V} {g:Xc→Dl→Prop} (hT:TH ts H) (ok:Ok ⟨H,B,z0g 0 ss vs,fun _ _=>False⟩ (z0I vs) (z0P ss) H):FT ts ⟨H,B,z0g 0 ss vs,g⟩:=⟨hT,fun t ht ⟨i,z⟩=>by
 obtain ⟨j,d,_,h1,h2⟩:=z0N z
 obtain ⟨a,e1,o,_⟩:=ok.own j d (someS_get.mpr h1)
 rw [some'_get.mpr h2] at e1
 cases e1
 have:=hT t ht
 cases d with
 | lst ds=>obtain ⟨_,e,_⟩:=o; rw [this] at e; cases e
 | dct ds=>obtain ⟨_,e,_⟩:=o; rw [this] at e; cases e
 | _=>exact o.elim⟩
def spXT (ts:Tbs) (mg:Str→Option Value) (n:Nat) (G:DX):Sp:=fun vs H Q E=>TH ts H∧spX mg n G vs H Q E
def z44 (P:Wd) (w:Wg) (K:W0) (mg:Str→Option Value) (base:Heap) (ts:Tbs) (k:Nat) (x:Str) (n:Nat) (G:DX):Prop :=
 ∃ (f:Addr) (fd:Wx) (ps:List Str),mg x=some (.ref f)∧WN K (.ref f)=true∧Binds K fd ps []∧FnOk P w K mg base (CXe P w) k f fd ps (spXT ts mg n G)
section
variable {P:Wd} {w:Wg} {K:W0} {mg:Str→Option Value} {base:Heap}
theorem zdl {ts:Tbs} {x qual:Str} {st:Stmt} {f:Addr} {fd:Wx} {N ps:List Str} {k:Nat} {np:List Nat} {fb:DS} {G:DX} (F:Fun K x qual st f fd) (S:FnScope N ps (z00 st))
  (hbody:∀ (c:Fc) (cdv:Value) (A:Wf) (outer:List Env) (s:W1) (H:Hp) (E:XK),Room k (A.deeper (Qb qual (z00 st) s.heap.objs.size f cdv))→Np c np→FT ts c→(∃ oc od kV doc pm an ct osl,K.lookup f=some ⟨oc,od,.func (WF x qual (z18 st) (z0q st) (z00 st) .none kV doc pm an cdv ct),osl⟩) →
   XOk (cxOf (CXe P w) P w K mg base N qual (z00 st) f cdv A outer s H E) (wD mg c)→SSs (cxOf (CXe P w) P w K mg base N qual (z00 st) f cdv A outer s H E) c (z0q st) fb)
  (hG:∀ ss y,G ss=some y→ioOk np 0 ss=true∧runX fb N.length ss=some y):FnOk P w K mg base (CXe P w) (k + 1) f fd ps (spXT ts mg ps.length G):=by
 obtain ⟨oc,od,kV,doc,pm,an,cdv,ct,osl,rfl,lk,hcd⟩:=F.ex
 refine zbu lk hcd S (fun vs H Q E h=>?_) fun A outer s H vs Q E hr h=>?_
 ·obtain ⟨_,ss,B,hl,_⟩:=h
  exact hl
 ·obtain ⟨hT,ss,B,hl,ok,y,hg,q⟩:=h
  obtain ⟨hio,hrun⟩:=hG ss _ hg
  have hvs:ss.length=vs.length:=by have:=ok.len; simpa using this
  let g:Xc→Dl→Prop:=fun x δ'=>∃ outs,z0h 0 ss δ'=some outs∧y = .inr (x,outs)
  have np':Np ⟨H,B,z0g 0 ss vs,g⟩ np:=fun p hp=>by
   obtain ⟨j,d,e,h1,_⟩:=z0N (i:=p.1) (a:=p.2) hp
   rw [e]
   exact z40 hio h1
  have hst:start N vs=z0I vs ++ W8 (N.length - ss.length) none:=by rw [hvs]; rfl
  have ok0:Ok ⟨H,B,z0g 0 ss vs,fun _ _=>False⟩ (start N vs) (z09 N.length ss) H:=by rw [hst]; exact ok.ext _
  have wish:∀ C dx σ' H',wD mg ⟨H,B,z0g 0 ss vs,g⟩ C dx σ' H'→E (.ref C) dx H':=fun C dx σ' H' ⟨z,δ',v,hm,k',rv,hv,outs,ho,hy⟩=>by
   rw [hy] at q
   have k1:Ok ⟨H,B,z0g 0 ss vs,fun _ _=>False⟩ σ' δ' H':=⟨k'.keep,k'.bd,k'.ith,k'.len,k'.slot,k'.own,k'.inj,k'.pinned⟩
   have a:Aft ⟨H,B,z0g 0 ss vs,fun _ _=>False⟩ (z0I vs ++ W8 (N.length - ss.length) none) (z0P ss ++ W8 (N.length - ss.length) none) H σ' δ' H' :=
    Ok.since rfl (by rw [hst] at ok0; exact ok0) (fun a z=>Own.ext.mpr (z7R z)) k1
   exact q C dx v H' hm (z2T rfl ok a ho).1 ((z2T rfl ok a ho).2 v (.pure z.flds) rv) hv
  refine ⟨tDS ⟨H,B,z0g 0 ss vs,g⟩ fb,hbody ⟨H,B,z0g 0 ss vs,g⟩ cdv A outer s H E hr np' (zdk hT ok) ⟨oc,od,kV,doc,pm,an,ct,osl,lk⟩ (z8J wish),z09 N.length ss,⟨ok0.keep,ok0.bd,ok0.ith,ok0.len,ok0.slot,ok0.own,ok0.inj,ok0.pinned⟩,?_⟩
  unfold runX at hrun
  unfold z1x
  cases e:fb (z09 N.length ss) with
  | stuck=>rw [e] at hrun; cases hrun
  | exc x δx =>
   rw [e] at hrun
   simp only at hrun
   cases eo:z0h 0 ss δx with
   | none=>rw [eo] at hrun; cases hrun
   | some os =>
    rw [eo] at hrun
    cases hrun
    exact ⟨os,eo,rfl⟩
  | ok fl δ' =>
   rw [e] at hrun
   show ∀ σ' H',Aft _ (start N vs) (z09 N.length ss) H σ' δ' H'→fin _ _ σ' δ' H' fl
   intro σ' H' a
   rw [hst] at a
   have k1:=a.ok
   have a1:Aft ⟨H,B,z0g 0 ss vs,fun _ _=>False⟩ (z0I vs ++ W8 (N.length - ss.length) none) (z09 N.length ss) H σ' δ' H':=⟨⟨k1.keep,k1.bd,k1.ith,k1.len,k1.slot,k1.own,k1.inj,k1.pinned⟩,a.keep,a.own,a.there⟩
   simp only at hrun
   cases fl with
   | brk=>cases hrun
   | cont=>cases hrun
   | next =>
    simp only [z0V,Ww] at hrun
    cases eo:z0h 0 ss δ' with
    | none=>rw [eo] at hrun; cases hrun
    | some os =>
     rw [eo] at hrun
     cases hrun
     obtain ⟨l1,l2⟩:=z2T rfl ok a1 eo
     exact q .non H' l1 .non
   | ret r' =>
    simp only [z0V,Ww] at hrun
    cases eo:z0h 0 ss δ' with
    | none=>rw [eo] at hrun; cases hrun
    | some os =>
     rw [eo] at hrun
     cases hrun
     obtain ⟨l1,l2⟩:=z2T rfl ok a1 eo
     exact fun v rv=>q v H' l1 (l2 v _ (RepS.unxc (c:=⟨H,B,z0g 0 ss vs,fun _ _=>False⟩) (g:=g) rv))
theorem z7m {ts:Tbs} {x qual:Str} {st:Stmt} {f:Addr} {fd:Wx} {N ps:List Str} {k:Nat} {np:List Nat} {fb:DS} {G:DF} (F:Fun K x qual st f fd) (hm:mg x=some (.ref f)) (hb:Binds K fd ps []) (S:FnScope N ps (z00 st))
  (hbody:∀ (c:Fc) (cdv:Value) (A:Wf) (outer:List Env) (s:W1) (H:Hp) (E:XK),Room k (A.deeper (Qb qual (z00 st) s.heap.objs.size f cdv))→Np c np→FT ts c→(∃ oc od kV doc pm an ct osl,K.lookup f=some ⟨oc,od,.func (WF x qual (z18 st) (z0q st) (z00 st) .none kV doc pm an cdv ct),osl⟩)→SSs (cxOf CX0 P w K mg base N qual (z00 st) f cdv A outer s H E).nox c (z0q st) fb)
  (hG:∀ ss y,G ss=some y→ioOk np 0 ss=true∧runD fb N.length ss=some y):KFnT P w K mg base ts (k + 1) x ps.length G:=⟨f,fd,ps,hm,F.kp,hb,zc9 F S hbody hG⟩
theorem z5Y {ts:Tbs} {x qual:Str} {st:Stmt} {f:Addr} {fd:Wx} {N ps:List Str} {k:Nat} {np:List Nat} {fb:DS} {G:DX} (F:Fun K x qual st f fd) (hm:mg x=some (.ref f)) (hb:Binds K fd ps []) (S:FnScope N ps (z00 st))
  (hbody:∀ (c:Fc) (cdv:Value) (A:Wf) (outer:List Env) (s:W1) (H:Hp) (E:XK),Room k (A.deeper (Qb qual (z00 st) s.heap.objs.size f cdv))→Np c np→FT ts c→(∃ oc od kV doc pm an ct osl,K.lookup f=some ⟨oc,od,.func (WF x qual (z18 st) (z0q st) (z00 st) .none kV doc pm an cdv ct),osl⟩) →
   XOk (cxOf (CXe P w) P w K mg base N qual (z00 st) f cdv A outer s H E) (wD mg c)→SSs (cxOf (CXe P w) P w K mg base N qual (z00 st) f cdv A outer s H E) c (z0q st) fb)
  (hG:∀ ss y,G ss=some y→ioOk np 0 ss=true∧runX fb N.length ss=some y):z44 P w K mg base ts (k + 1) x ps.length G:=⟨f,fd,ps,hm,F.kp,hb,zdl F S hbody hG⟩
theorem zdz {x qual:Str} {st:Stmt} {f code:Addr} {cdv:Value} (h1:∃ oc od kV doc pm an ct osl,K.lookup f=some ⟨oc,od,.func (WF x qual (z18 st) (z0q st) (z00 st) .none kV doc pm an cdv ct),osl⟩)
  (h2:∃ oc od kV doc pm an ct osl,K.lookup f=some ⟨oc,od,.func (WF x qual (z18 st) (z0q st) (z00 st) .none kV doc pm an (.ref code) ct),osl⟩):cdv = .ref code:=by
 obtain ⟨_,_,_,_,_,_,_,_,e1⟩:=h1
 obtain ⟨_,_,_,_,_,_,_,_,e2⟩:=h2
 rw [e1] at e2
 cases e2
 rfl
end
section
variable {X:Cx} {c:Fc} {e:Expr} {es:List Expr} {as:List Ak} {k n:Nat} {x:Str} {G:DX} {pp pos:Pos} {ts:Tbs}
theorem z3u (F:z44 X.prog X.w X.K X.mg X.base ts k x n G) (ft:FT ts c) (hK:z31 G) (hr:Room k X.A) (hex:X.ex=[]) (hx:XOk X (wD X.mg c)) (hg:Gl X x) (ha:SX X c (e :: es) as) (hl:as.length=n) (hdb:(x == ("__debug__" : Str))=false:=by decide)
  (he:W3 (e :: es) X.env=(false,eval e X.env) :: W3 es X.env:=by rfl) (hpl:(WD pos (W3 es X.env)).any (·.1)=false:=by rfl):SE X c (.Call (.Name x pp) (e :: es) [] pos) (z14 G as):=by
 obtain ⟨f,fd,ps,hm,hk,hb,ok⟩:=F
 refine PE.weak (z5M ok hr hex hg hm hk hb hx ha hdb he hpl) fun σ H Q h=>?_
 obtain ⟨δ,kk,hio,q⟩:=z5w (X:=X) hK hl h
 exact ⟨δ,kk,hio,z01 q fun ds δ1 q1 vs H1 a1 r1=>⟨ft.now a1.ok,q1 vs H1 a1 r1⟩⟩
theorem z4t (F:z44 X.prog X.w X.K X.mg X.base ts k x n G) (ft:FT ts c) (hK:z31 G) (hr:Room k X.A) (hex:X.ex=[]) (hg:Gl X x) (ha:SX X c (e :: es) as) (hl:as.length=n) (hdb:(x == ("__debug__" : Str))=false:=by decide)
  (he:W3 (e :: es) X.env=(false,eval e X.env) :: W3 es X.env:=by rfl) (hpl:(WD pos (W3 es X.env)).any (·.1)=false:=by rfl):SE X c (.Call (.Name x pp) (e :: es) [] pos) (z1W G as):=by
 obtain ⟨f,fd,ps,hm,hk,hb,ok⟩:=F
 refine PE.weak (z5M (W:=fun _ _ _ _=>False) ok hr hex hg hm hk hb (fun _ _ _ _ _ _ _ _ _ h=>h.elim) ha hdb he hpl) fun σ H Q h=>?_
 obtain ⟨δ,kk,hio,q⟩:=z8F (X:=X) hK hl h
 exact ⟨δ,kk,hio,z01 q fun ds δ1 q1 vs H1 a1 r1=>⟨ft.now a1.ok,q1 vs H1 a1 r1⟩⟩
end
theorem zcr {ts:Tbs} {X:Cx} {c:Fc} (ft:FT ts c) {body:List Stmt} {x n:Str} {b₀:Stmt} {suite:List Stmt} {np hpos pos:Pos} {B:Addr} {i:Nat} {ce:Tx→Nat} {ys:List Tx} {fb fh:DS} (hex:X.ex=[]) (hnp:Np c []) (hst:X.stack=X.env :: X.outer) (hf:X.env.frame=some X.env.locals)
  (hN:X.N.Nodup) (hi:X.N[i]? = some n) (hl:X.env.scope.names.lookup n=some .local) (hg:Gl X x) (hm:X.mg x=some (.ref B)) (qB:ExcC X.K B)
  (hys:∀ y ∈ ys,X.mg (toS y)=some (.ref (ce y))∧PySem.W.mroIn X.K (ce y) (.ref B)=some true)
  (hb:∀ (c':Fc) (pn:List (Addr×Obj)) (xe:Value→W1→Prop),Np c' []→FT ts c'→XOk (X.wt pn xe) (wD X.mg c')→SSs (X.wt pn xe) c' body fb) (hh:∀ a,SSs (X.hand a) c (b₀ :: suite) fh) (hdb:(x == ("__debug__" : Str))=false:=by decide) :
  SS X c (.Try body [.ExceptHandler (some (.Name x np)) (some n) (b₀ :: suite) hpos] [] [] pos) (dTry ce ys i fb fh):=by
 have hp:=zeQ hnp
 refine PS.weak (z9n (i:=i) (B:=B) (th:=fun _ _=>tDS c fh)
  (tb:=fun W D σ H=>TH ts H∧tDS ⟨H,c.B,[],fun z δ'=>∀ σ' H',Ok ⟨H,c.B,[],fun _ _=>False⟩ σ' δ' H'→∀ C dx v,X.mg (toS z.cls)=some (.ref C)→Rep H' (Av ⟨H,c.B,[],fun _ _=>False⟩ σ' δ') v z.flds→(∀ y,v = .ref y→dx=some y)→W C dx σ' H'⟩ fb D σ H) hex hst hf hN hi hl hg hm qB hdb
  (fun W pn xe acc pins s σ H D I ⟨hT,hw⟩=>hb _ pn xe (fun p z=>(by simp at z)) ⟨hT,fun t _ ⟨j,z⟩=>by simp at z⟩ (fun ps σ' H' s' a C dx J co ⟨y,δ',v,hy,k',rv,hv,w'⟩=>acc ps σ' H' s' a C dx J co (w' σ' H' ⟨k'.keep,k'.bd,k'.ith,k'.len,k'.slot,k'.own,k'.inj,k'.pinned⟩ C dx v hy rv hv)) pins s σ H D I hw)
  (fun _ a=>hh a)) fun D σ H ⟨δ,k,q⟩=>?_
 unfold dTry at q
 split at q
 ·rename_i hno
  refine ⟨ft.now k,δ,k.inTry hno,?_⟩
  unfold z1x at q ⊢
  cases e:fb δ with
  | stuck=>rw [e] at q; exact q.elim
  | ok fl δ' =>
   rw [e] at q
   intro σ' H' a
   have f0:=q σ' H' (Aft.outTry k hp a)
   cases fl with
   | next=>exact f0
   | brk=>exact f0
   | cont=>exact f0
   | ret r=>exact fun v rv=>f0 v (RepS.outTry k hp rv)
  | exc z δ' =>
   rw [e] at q
   simp only at q
   split at q
   ·rename_i hc
    simp only [Wn,decide_eq_true_eq] at hc
    obtain ⟨hy,hlt⟩:=hc
    intro σ' H' k' C dx v hC rv hv
    obtain ⟨y1,y2⟩:=hys z.cls (by simpa using hy)
    rw [y1] at hC
    cases hC
    refine ⟨y2,v,hv,fun a ha=>?_⟩
    have A1:Aft c σ δ H σ' δ' H':=Aft.outTry k hp (Ok.since (c:=⟨H,c.B,[],fun _ _=>False⟩) rfl (k.inTry hno) (fun a ⟨j,z⟩=>by simp at z) k')
    have A2:=A1.trans (Aft.alloc A1.ok ha (.ext (excAt (ce z.cls) v a)))
    have A3:=Ok.set (i:=i) (v:=.ref a) (r:=.pure (.exc (ce z.cls) z.flds)) A2 (.exc (A1.ok.nav ha) z0l (Rep.aft rv (Aft.alloc A1.ok ha _))) (fun p zz=>by rw [hp] at zz; simp at zz)
    refine ⟨δ'.set i (some (.pure (.exc (ce z.cls) z.flds))),A3.ok,?_⟩
    unfold z1x
    generalize fh (δ'.set i (some (.pure (.exc (ce z.cls) z.flds))))=r at q
    cases r with
    | stuck=>exact q.elim
    | exc z' δ4=>exact q
    | ok fl δ4 =>
     intro σ4 H4 A4
     have f0:=q (σ4.set i none) H4 (Aft.unset (A3.trans A4) hp i)
     cases fl with
     | next=>exact f0
     | brk=>exact f0
     | cont=>exact f0
     | ret r=>exact fun v rv=>f0 v (RepS.unset hp i rv)
   ·exact q.elim
 ·exact q.elim
def dPar (np:List Nat) (i j:Nat) (f:Dl→Rs (List D)):DS:=fun δ=>if np.contains i || np.contains j then .stuck else (f δ).bind fun ds δ1=>match ds with
 | [d,e]=>.ok .next ((δ1.set i (some (.pure d))).set j (some (.pure e)))
 | _=>.stuck
theorem zdU {X:Cx} {c:Fc} {np:List Nat} {i j:Nat} {x y:Str} {a b:Expr} {f:Dl→Rs (List D)} {px py pt pos:Pos} {kt k2 pt2} (hp:Np c np) (hc:X.calm=true) (hN:X.N.Nodup) (hi:X.N[i]? = some x) (hj:X.N[j]? = some y) (hij:i≠j)
  (hx:X.env.scope.names.lookup x=some .local) (hy:X.env.scope.names.lookup y=some .local) (ha:SA X c [a,b] f)
  (hw:swappedStores [.Tuple [.Name x px,.Name y py] kt pt] (.Tuple [a,b] k2 pt2) X.env=pure (some [x,y]):=by rfl)
  (hs:swapsWithSole [.Tuple [.Name x px,.Name y py] kt pt] (.Tuple [a,b] k2 pt2) pos.line X.env=pure false:=by rfl) :
  SS X c (.Assign [.Tuple [.Name x px,.Name y py] kt pt] (.Tuple [a,b] k2 pt2) pos) (dPar np i j f):=PS.weak (zet hc hN hi hj hij hx hy ha.pa hw hs) fun D σ H ⟨δ,k,q⟩=>by
 unfold dPar at q
 split at q
 ·exact q.elim
 ·rename_i hnp
  simp only [Bool.or_eq_true,not_or,Bool.not_eq_true] at hnp
  have ne:∀ (l:Nat),np.contains l=false→∀ p ∈ c.pin,p.1≠l:=fun l hl p hpp z=>by
   have:=hp p hpp
   rw [z,hl] at this
   cases this
  unfold z1x at q
  rw [z02] at q
  refine ⟨δ,k,z01 q fun ds δ1 q1 vs H1 a1 r1=>?_⟩
  match ds,q1,r1 with
  | [],q1,_=>exact q1.elim
  | [_],q1,_=>exact q1.elim
  | _ :: _ :: _ :: _,q1,_=>exact q1.elim
  | [d,e],q1,r1 =>
   match vs,r1 with
   | [],r1=>exact absurd r1.1 (by simp)
   | [_],r1=>exact absurd r1.1 (by simp)
   | _ :: _ :: _ :: _,r1=>exact absurd r1.1 (by simp)
   | [v,w],r1 =>
    have x0:=Ok.set (i:=i) (v:=v) (r:=.pure d) (Aft.refl a1.ok) r1.head (ne i hnp.1)
    have x1:=Ok.set (i:=j) (v:=w) (r:=.pure e) (a1.trans x0) (Rep.aft r1.tail.head x0) (ne j hnp.2)
    exact ⟨v,w,rfl,q1 _ H1 x1⟩
end DV
namespace K53
open PySem.W (nsIn keepIn codeIn findIn mroIn kitOne mg_of)
open PySem PySem.Spec PyProof.Rows L2 DV
def top (i:Nat):Stmt:=PySem.Challenge.pw_tilegrow_k53_corners.main.body.getD i (.Pass ⟨0,0,0,0⟩)
abbrev z23:Stmt:=top 20
abbrev z2g:Stmt:=top 22
abbrev z35:Stmt:=top 21
abbrev z37:Stmt:=top 23
abbrev z1N:Stmt:=top 26
abbrev z34:Stmt:=top 25
abbrev z21:Stmt:=top 27
abbrev z2e:Stmt:=top 18
abbrev z32:Stmt:=top 31
abbrev z1B:Stmt:=top 12
abbrev z5H:Stmt:=top 14
abbrev z0A:Stmt:=top 15
abbrev z2f:Stmt:=top 16
abbrev z20:Stmt:=top 17
abbrev z2w:Stmt:=top 24
abbrev z1f:Stmt:=top 32
abbrev z36:Stmt:=top 29
abbrev z1q:Stmt:=top 30
abbrev z1p:Stmt:=top 33
abbrev z22:Stmt:=top 28
abbrev z33:Stmt:=top 34
abbrev z5I:Stmt:=top 35
def lamPos:Pos:=match (z0q z0A).getLast? with | some (.Return (some (.Call _ [_,.Lambda _ _ _ p] _ _)) _)=>p | _=>⟨0,0,0,0⟩
def lamQ:Str:=("corner_walk" : Str) ++ ".<locals>." ++ "<lambda>"
abbrev si_f:Stmt:=(zdA (top 7)).getD 0 (.Pass ⟨0,0,0,0⟩)
theorem sci_f:FnScope ["self","tile"] ["self","tile"] (z00 si_f):=⟨rfl,rfl,rfl,by decide +kernel,rfl,by decide +kernel,by decide +kernel⟩
abbrev ys:List Tx:=[[78,111,84,105,108,101]]
section
variable (ce:Tx→Nat)
structure Txt (K:W0) (mg:Str→Option Value):Prop where
 z_ValueError:mg "ValueError" = none
 z_bool:mg "bool" = none
 z_dict:mg "dict" = none
 z_int:mg "int" = none
 z_isinstance:mg "isinstance" = none
 z_len:mg "len" = none
 z_list:mg "list" = none
 z_max:mg "max" = none
 z_min:mg "min" = none
 z_range:mg "range" = none
 z_sorted:mg "sorted" = none
 z_str:mg "str" = none
 z_tuple:mg "tuple" = none
 ty_bool:TyK K "bool"
 ty_int:TyK K "int"
 ty_list:TyK K "list"
 ty_str:TyK K "str"
 ty_tuple:TyK K "tuple"
 c_j:mg "FloorError" = some (.ref (ce [70,108,111,111,114,69,114,114,111,114]))
 c_a:mg "NoFloor" = some (.ref (ce [78,111,70,108,111,111,114]))
 c_b:mg "NoPlace" = some (.ref (ce [78,111,80,108,97,99,101]))
 c_c:mg "NoNumber" = some (.ref (ce [78,111,78,117,109,98,101,114]))
 c_d:mg "NoRow" = some (.ref (ce [78,111,82,111,119]))
 c_e:mg "Unlike" = some (.ref (ce [85,110,108,105,107,101]))
 c_f:mg "NoTile" = some (.ref (ce [78,111,84,105,108,101]))
 c_g:mg "NoRule" = some (.ref (ce [78,111,82,117,108,101]))
 c_h:mg "NoText" = some (.ref (ce [78,111,84,101,120,116]))
 c_i:mg "TooGreat" = some (.ref (ce [84,111,111,71,114,101,97,116]))
 q_j:ExcC K (ce [70,108,111,111,114,69,114,114,111,114])
 i_a:IsT K ce ys (.ref (ce [78,111,70,108,111,111,114])) (fun z=>z == [78,111,70,108,111,111,114])
 i_b:IsT K ce ys (.ref (ce [78,111,80,108,97,99,101])) (fun z=>z == [78,111,80,108,97,99,101])
 i_c:IsT K ce ys (.ref (ce [78,111,78,117,109,98,101,114])) (fun z=>z == [78,111,78,117,109,98,101,114])
 i_d:IsT K ce ys (.ref (ce [78,111,82,111,119])) (fun z=>z == [78,111,82,111,119])
 i_e:IsT K ce ys (.ref (ce [85,110,108,105,107,101])) (fun z=>z == [85,110,108,105,107,101])
 i_f:IsT K ce ys (.ref (ce [78,111,84,105,108,101])) (fun z=>z == [78,111,84,105,108,101])
 i_g:IsT K ce ys (.ref (ce [78,111,82,117,108,101])) (fun z=>z == [78,111,82,117,108,101])
 i_h:IsT K ce ys (.ref (ce [78,111,84,101,120,116])) (fun z=>z == [78,111,84,101,120,116])
 i_i:IsT K ce ys (.ref (ce [84,111,111,71,114,101,97,116])) (fun z=>z == [84,111,111,71,114,101,97,116])
 at_tile:AtT K ce ys "tile"
 i_ValueError:IsT K ce ys (.type "ValueError") (fun _=>true)
 m_j:∀ y ∈ ys,mg (toS y)=some (.ref (ce y))∧mroIn K (ce y) (.ref (ce [70,108,111,111,114,69,114,114,111,114]))=some true
end
def z27:DS:=(dSeq (dIf (dTr (eOpF pLt 1 (bOf (eC1 pLen (bVar 0))))) (dRet (eOpF pIx 0 (bVar 1))) z19) (dRet (eD (.int 0))))
def z0U:DF:=gOf [] 2 z27
theorem z3H:z1R z0U:=z0D
theorem z4u:FnScope ["script","k"] ["script","k"] (z00 z23):=⟨rfl,rfl,rfl,by decide +kernel,rfl,by decide +kernel,by decide +kernel⟩
theorem z4B {K:W0} (F:Fun K "_law_cell_at" "_law_cell_at" z23 f fd) (hm:mg "_law_cell_at" = some (.ref f)) (hb:Binds K fd ["script","k"] []) (T:Txt ce K mg):KFn P w K mg base 1 "_law_cell_at" 2 z0U :=
 z2s (np:=[]) (fb:=z27) F hm hb z4u (fun c cdv A outer s H E hr hnp=>by
  have hq:=z1T hr
  refine (z05 ?_ ?_)
  ·refine (z2c ?_ ?_ ?_)
   ·exact (z1Z zc1 zeN (pv 1) (z0e (z2X rfl T.z_len (z0b (pv 0)) (by rfl))) (z1c _))
   ·refine (z0j ?_)
    refine (z0B ?_)
    exact (z0w z0n z0J (pv 0) (z0b (pv 1)) (fun _ _=>rfl))
   ·exact z1n
  refine (z0j ?_)
  refine (z0B ?_)
  exact z04) fun ss y h=>z13 h
def z2m:DS:=(dSeq (dAsg (eMax (eVar 0) (eOp pSub (eD (.int 0)) (bVar 0))) (gNm [] 1)) (dRet (eLst (z0a (eVar 1) (z0a (eC1 pInt (bOf (eOpF pGe 1 (bOf (eOp pPow (eD (.int 10)) (bOf (eD (.int 18)))))))) (z0a (eOpF pMod 1 (bOf (eD (.int 1000003)))) aNil))))))
def z11:DF:=gOf [] 2 z2m
theorem z3Z:z1R z11:=z0D
theorem sc__law_pen_of:FnScope ["cell","left"] ["cell"] (z00 z2g):=⟨rfl,rfl,rfl,by decide +kernel,rfl,by decide +kernel,by decide +kernel⟩
theorem z58 {K:W0} (F:Fun K "_law_pen_of" "_law_pen_of" z2g f fd) (hm:mg "_law_pen_of" = some (.ref f)) (hb:Binds K fd ["cell"] []) (T:Txt ce K mg):KFn P w K mg base 1 "_law_pen_of" 1 z11 :=
 z2s (np:=[]) (fb:=z2m) F hm hb sc__law_pen_of (fun c cdv A outer s H E hr hnp=>by
  have hq:=z1T hr
  refine (z05 ?_ ?_)
  ·exact (@z0u _ _ _ _ _ _ ([]) (1) _ hnp sc__law_pen_of.nd rfl (Or.inl rfl) (zbU rfl rfl T.z_max (z06 (pv 0)) (z1k z2n z2p z04 (z0b (pv 0))) (by rfl) (by rfl) (by rfl)) rfl (Or.inl rfl))
  refine (z0j ?_)
  refine (z0B ?_)
  exact (z1E (z07 (z06 (pv 1)) (z07 (zcx rfl T.z_int (z0e (zcz zc2 z7V (pv 1) (z0e (z1k z9D z9M z04 (z0e z04))) (z1c _))) (by rfl)) (z07 (z1o z2Z z30 (pv 1) (z0e z04)) z0X (by rfl)) (by rfl)) (by rfl)) (by decide))) fun ss y h=>z13 h
def z3k:DS:=(dSeq (dAsg (eOp pMod (eOpF pAdd 0 (bOf (eD (.int 7919)))) (bOf (eD (.int 2147483647)))) (gNm [] 0)) (dRet (eOp pMod (eOp pAdd (eOp pAdd (eOpF z1S 0 (bVar 0)) (bOf (eOp z1S (eD (.int 48271)) (bVar 0)))) (bOf (eD (.int 12345)))) (bOf (eD (.int 2147483629))))))
def z1j:DF:=gOf [] 1 z3k
theorem z2B:z1R z1j:=z0D
theorem sc__law_next:FnScope ["seed"] ["seed"] (z00 z35):=⟨rfl,rfl,rfl,by decide +kernel,rfl,by decide +kernel,by decide +kernel⟩
theorem z6s {K:W0} (F:Fun K "_law_next" "_law_next" z35 f fd) (hm:mg "_law_next" = some (.ref f)) (hb:Binds K fd ["seed"] []) (T:Txt ce K mg):KFn P w K mg base 1 "_law_next" 1 z1j :=
 z2s (np:=[]) (fb:=z3k) F hm hb sc__law_next (fun c cdv A outer s H E hr hnp=>by
  have hq:=z1T hr
  refine (z05 ?_ ?_)
  ·exact (@z0u _ _ _ _ _ _ ([]) (0) _ hnp sc__law_next.nd rfl (Or.inl rfl) (z1k z2Z z30 (z1o z1g z1O (pv 0) (z0e z04)) (z0e z04)) rfl (Or.inl rfl))
  refine (z0j ?_)
  refine (z0B ?_)
  exact (z1k z2Z z30 (z1k z1g z1O (z1k z1g z1O (z1o z4y z4C (pv 0) (z0b (pv 0))) (z0e (z1k z4y z4C z04 (z0b (pv 0))))) (z0e z04)) (z0e z04))) fun ss y h=>z13 h
def z3m:DS:=(dSeq (dIf (dTr (eOp pEq (eOpF pIx 0 (bOf (eD (.int 1)))) (bOf (eD (.int 1))))) (dSeq (dAsg (eOp pMod (eOpF pIx 0 (bOf (eD (.int 0)))) (bVar 1)) (gNm [0] 2)) (dSeq (z8A 0 (eD (.int 0)) (eOp zcW (eOpF pIx 0 (bOf (eD (.int 0)))) (bVar 1))) (dRet (eVar 2)))) z19) (dSeq (z8A 0 (eD (.int 2)) (z0d z1j [.val (eOp pAdd (z0d z1j [.val (eOpF pIx 0 (bOf (eD (.int 2))))]) (bOf (eD (.int 7))))])) (dRet (eOp pMod (eOp pDiv (eOpF pIx 0 (bOf (eD (.int 2)))) (bOf (eD (.int 64)))) (bVar 1)))))
def z08:DF:=gOf [0] 3 z3m
theorem z0i:z1R z08:=z0D
theorem sc__law_draw:FnScope ["pen","many","found"] ["pen","many"] (z00 z37):=⟨rfl,rfl,rfl,by decide +kernel,rfl,by decide +kernel,by decide +kernel⟩
theorem z6u {K:W0} (F:Fun K "_law_draw" "_law_draw" z37 f fd) (hm:mg "_law_draw" = some (.ref f)) (hb:Binds K fd ["pen","many"] []) (T:Txt ce K mg) (k__law_next:KFn P w K mg base 1 "_law_next" 1 z1j):KFn P w K mg base 2 "_law_draw" 2 z08 :=
 z2s (np:=[0]) (fb:=z3m) F hm hb sc__law_draw (fun c cdv A outer s H E hr hnp=>by
  have hq:=z1T hr
  refine (z05 ?_ ?_)
  ·refine (z2c ?_ ?_ ?_)
   ·exact (z2W (z2o hq) z4c (z0w z0n z0J (pv 0) (z0e z04) (fun _ _=>rfl)) (z0e z04) (z1c _))
   ·refine (z05 ?_ ?_)
    ·exact (@z0u _ _ _ _ _ _ ([0]) (2) _ hnp sc__law_draw.nd rfl (Or.inl rfl) (z1k z2Z z30 (z0w z0n z0J (pv 0) (z0e z04) (fun _ _=>rfl)) (z0b (pv 1))) rfl (Or.inl rfl))
    refine (z05 ?_ ?_)
    ·exact (z8R (pv 0) z04 (z1k zba zd2 (z0w z0n z0J (pv 0) (z0e z04) (fun _ _=>rfl)) (z0b (pv 1))) (by intro _; rfl) (by rfl) (by rfl) (by rfl))
    refine (z0j ?_)
    refine (z0B ?_)
    exact (z06 (pv 2))
   ·exact z1n
  refine (z05 ?_ ?_)
  ·exact (z8R (pv 0) z04 (@z0x _ _ _ _ _ (1) _ _ _ _ _ k__law_next z2B (hr.mono (by decide)) rfl (z03 (z1k z1g z1O (@z0x _ _ _ _ _ (1) _ _ _ _ _ k__law_next z2B (hr.mono (by decide)) rfl (z03 (z0w z0n z0J (pv 0) (z0e z04) (fun _ _=>rfl)) z0t (by rfl)) rfl (by decide) (by rfl) (by rfl)) (z0e z04)) z0t (by rfl)) rfl (by decide) (by rfl) (by rfl)) (by intro _; rfl) (by rfl) (by rfl) (by rfl))
  refine (z0j ?_)
  refine (z0B ?_)
  exact (z1k z2Z z30 (z1k z9H zc3 (z0w z0n z0J (pv 0) (z0e z04) (fun _ _=>rfl)) (z0e z04)) (z0b (pv 1)))) fun ss y h=>z13 h
def z1Q:DS:=(dSeq (dAsg (eOp pAdd (eD (.int 1)) (bOf (z0d z08 [.io 0,.val (eD (.int 3))]))) (gNm [0] 1)) (dSeq (dAsg (eOp pAdd (eD (.int 1)) (bOf (z0d z08 [.io 0,.val (eD (.int 3))]))) (gNm [0] 2)) (dSeq (dIf (dTr (eOp pEq (z0d z08 [.io 0,.val (eD (.int 8))]) (bOf (eD (.int 0))))) (dAsg (eOp pIx (z4f [.tup [.int 4,.int 1],.tup [.int 1,.int 4],.tup [.int 4,.int 4],.tup [.int 4,.int 3],.tup [.int 1,.int 2],.tup [.int 2,.int 1]]) (bOf (z0d z08 [.io 0,.val (eD (.int 6))]))) (gTp 2 (z0c (gNm [0] 1) (z0c (gNm [0] 2) z0Z)))) z19) (dSeq (dIf (dTr (eOp pEq (eOpF pAdd 1 (bVar 2)) (bOf (eD (.int 2))))) (dAsg (eD (.int 2)) (gNm [0] 2)) z19) (dRet (eTup (z0a (eVar 1) (z0a (eVar 2) aNil))))))))
def z0W:DF:=gOf [0] 3 z1Q
theorem z3b:z1R z0W:=z0D
theorem sc__law_sizes_by:FnScope ["pen","high","wide"] ["pen"] (z00 z1N):=⟨rfl,rfl,rfl,by decide +kernel,rfl,by decide +kernel,by decide +kernel⟩
theorem z4b {K:W0} (F:Fun K "_law_sizes_by" "_law_sizes_by" z1N f fd) (hm:mg "_law_sizes_by" = some (.ref f)) (hb:Binds K fd ["pen"] []) (T:Txt ce K mg) (k__law_draw:KFn P w K mg base 2 "_law_draw" 2 z08):KFn P w K mg base 3 "_law_sizes_by" 1 z0W :=
 z2s (np:=[0]) (fb:=z1Q) F hm hb sc__law_sizes_by (fun c cdv A outer s H E hr hnp=>by
  have hq:=z1T hr
  refine (@z05 _ _ _ _ _ _ ?_ ?_)
  ·exact (@z0u _ _ _ _ _ _ ([0]) (1) _ hnp sc__law_sizes_by.nd rfl (Or.inl rfl) (@z1k _ _ _ _ _ _ _ _ _ _ z1g z1O (@z04 _ _ _ _ _) (@z0e _ _ _ _ (@z0x _ _ _ _ _ (2) _ _ _ _ _ k__law_draw z0i (hr.mono (by decide)) rfl (@z1w _ _ _ _ _ _ (pv 0) (@z03 _ _ _ _ _ _ (@z04 _ _ _ _ _) (@z0t _ _) (by rfl)) (by rfl)) rfl (by decide) (by rfl) (by rfl)))) rfl (Or.inl rfl))
  refine (@z05 _ _ _ _ _ _ ?_ ?_)
  ·exact (@z0u _ _ _ _ _ _ ([0]) (2) _ hnp sc__law_sizes_by.nd rfl (Or.inl rfl) (@z1k _ _ _ _ _ _ _ _ _ _ z1g z1O (@z04 _ _ _ _ _) (@z0e _ _ _ _ (@z0x _ _ _ _ _ (2) _ _ _ _ _ k__law_draw z0i (hr.mono (by decide)) rfl (@z1w _ _ _ _ _ _ (pv 0) (@z03 _ _ _ _ _ _ (@z04 _ _ _ _ _) (@z0t _ _) (by rfl)) (by rfl)) rfl (by decide) (by rfl) (by rfl)))) rfl (Or.inl rfl))
  refine (@z05 _ _ _ _ _ _ ?_ ?_)
  ·refine (@z2c _ _ _ _ _ _ _ _ _ ?_ ?_ ?_)
   ·exact (@z2W _ _ _ _ _ _ _ _ _ _ (z2o hq) z4c (@z0x _ _ _ _ _ (2) _ _ _ _ _ k__law_draw z0i (hr.mono (by decide)) rfl (@z1w _ _ _ _ _ _ (pv 0) (@z03 _ _ _ _ _ _ (@z04 _ _ _ _ _) (@z0t _ _) (by rfl)) (by rfl)) rfl (by decide) (by rfl) (by rfl)) (@z0e _ _ _ _ (@z04 _ _ _ _ _)) (z1c _))
   ·refine (@z0j _ _ _ _ ?_)
    refine (@z5g _ _ _ _ _ _ _ ?_ ?_ (by rfl) (by rfl) (by rfl))
    ·exact (@z3r _ _ _ _ _ _ _ _ _ z0n z0J (@z3t _ _ _ _ _ (by rfl) (by decide)) (@z0e _ _ _ _ (@z0x _ _ _ _ _ (2) _ _ _ _ _ k__law_draw z0i (hr.mono (by decide)) rfl (@z1w _ _ _ _ _ _ (pv 0) (@z03 _ _ _ _ _ _ (@z04 _ _ _ _ _) (@z0t _ _) (by rfl)) (by rfl)) rfl (by decide) (by rfl) (by rfl))) (fun _ _=>rfl))
    ·exact (@z46 _ _ _ _ _ _ _ rfl (@z0O _ _ _ _ _ _ (@z0C _ _ _ ([0]) (1) _ hnp sc__law_sizes_by.nd rfl (Or.inl rfl) (Or.inl rfl)) (@z0O _ _ _ _ _ _ (@z0C _ _ _ ([0]) (2) _ hnp sc__law_sizes_by.nd rfl (Or.inl rfl) (Or.inl rfl)) (@z2v _ _) (by rfl)) (by rfl)) (by rfl) (by rfl))
   ·exact z1n
  refine (@z05 _ _ _ _ _ _ ?_ ?_)
  ·refine (@z2c _ _ _ _ _ _ _ _ _ ?_ ?_ ?_)
   ·exact (@z2W _ _ _ _ _ _ _ _ _ _ (z2o hq) z4c (@z1o _ _ _ _ _ _ _ _ _ _ z1g z1O (pv 1) (@z0b _ _ _ _ (pv 2))) (@z0e _ _ _ _ (@z04 _ _ _ _ _)) (z1c _))
   ·refine (@z0j _ _ _ _ ?_)
    exact (@z0u _ _ _ _ _ _ ([0]) (2) _ hnp sc__law_sizes_by.nd rfl (Or.inl rfl) (@z04 _ _ _ _ _) rfl (Or.inl rfl))
   ·exact z1n
  refine (@z0j _ _ _ _ ?_)
  refine (@z0B _ _ _ _ _ ?_)
  exact (@z3q _ _ _ _ _ _ (@z07 _ _ _ _ _ _ (@z06 _ _ _ _ (pv 1)) (@z07 _ _ _ _ _ _ (@z06 _ _ _ _ (pv 2)) (@z0X _ _) (by rfl)) (by rfl)) (by decide))) fun ss y h=>z13 h
def z3j:DS:=(dSeq (dIf (dTr (eOpF pEq 3 (bOf (eD (.int 1))))) (dRet (eOpF pIx 1 (bOf (z0d z08 [.io 0,.val (eOpF pAdd 2 (bOf (eD (.int 1))))])))) z19) (dSeq (dIf (dTr (eOpF pEq 3 (bOf (eD (.int 2))))) (dRet (eOpF pIx 1 (bOf (eOp pMod (eOpF pAdd 2 (bOf (eD (.int 1)))) (bOf (eC1 pLen (bVar 1))))))) z19) (dSeq (dIf (dAnd (dTr (eOpF pEq 3 (bOf (eD (.int 3))))) (dTr (eOp pGt (z0d z08 [.io 0,.val (eD (.int 4))]) (bOf (eD (.int 0)))))) (dRet (eOpF pIx 1 (bVar 2))) z19) (dRet (eOpF pIx 1 (bOf (z0d z08 [.io 0,.val (eC1 pLen (bVar 1))])))))))
def z0E:DF:=gOf [0] 4 z3j
theorem z4H:z1R z0E:=z0D
theorem z6d:FnScope ["pen","tiles","place","way"] ["pen","tiles","place","way"] (z00 z34):=⟨rfl,rfl,rfl,by decide +kernel,rfl,by decide +kernel,by decide +kernel⟩
theorem z6r {K:W0} (F:Fun K "_law_pick" "_law_pick" z34 f fd) (hm:mg "_law_pick" = some (.ref f)) (hb:Binds K fd ["pen","tiles","place","way"] []) (T:Txt ce K mg) (k__law_draw:KFn P w K mg base 2 "_law_draw" 2 z08):KFn P w K mg base 3 "_law_pick" 4 z0E :=
 z2s (np:=[0]) (fb:=z3j) F hm hb z6d (fun c cdv A outer s H E hr hnp=>by
  have hq:=z1T hr
  refine (z05 ?_ ?_)
  ·refine (z2c ?_ ?_ ?_)
   ·exact (z1Z (z2o hq) z4c (pv 3) (z0e z04) (z1c _))
   ·refine (z0j ?_)
    refine (z0B ?_)
    exact (z0w z0n z0J (pv 1) (z0e (@z0x _ _ _ _ _ (2) _ _ _ _ _ k__law_draw z0i (hr.mono (by decide)) rfl (z1w (pv 0) (z03 (z1o z1g z1O (pv 2) (z0e z04)) z0t (by rfl)) (by rfl)) rfl (by decide) (by rfl) (by rfl))) (fun _ _=>rfl))
   ·exact z1n
  refine (z05 ?_ ?_)
  ·refine (z2c ?_ ?_ ?_)
   ·exact (z1Z (z2o hq) z4c (pv 3) (z0e z04) (z1c _))
   ·refine (z0j ?_)
    refine (z0B ?_)
    exact (z0w z0n z0J (pv 1) (z0e (z1k z2Z z30 (z1o z1g z1O (pv 2) (z0e z04)) (z0e (z2X rfl T.z_len (z0b (pv 1)) (by rfl))))) (fun _ _=>rfl))
   ·exact z1n
  refine (z05 ?_ ?_)
  ·refine (z2c ?_ ?_ ?_)
   ·exact (z75 (zdS (z1Z (z2o hq) z4c (pv 3) (z0e z04) (z1c _)) (zcp (z2W zeK z7V (@z0x _ _ _ _ _ (2) _ _ _ _ _ k__law_draw z0i (hr.mono (by decide)) rfl (z1w (pv 0) (z03 z04 z0t (by rfl)) (by rfl)) rfl (by decide) (by rfl) (by rfl)) (z0e z04) (z1c _)))))
   ·refine (z0j ?_)
    refine (z0B ?_)
    exact (z0w z0n z0J (pv 1) (z0b (pv 2)) (fun _ _=>rfl))
   ·exact z1n
  refine (z0j ?_)
  refine (z0B ?_)
  exact (z0w z0n z0J (pv 1) (z0e (@z0x _ _ _ _ _ (2) _ _ _ _ _ k__law_draw z0i (hr.mono (by decide)) rfl (z1w (pv 0) (z03 (z2X rfl T.z_len (z0b (pv 1)) (by rfl)) z0t (by rfl)) (by rfl)) rfl (by decide) (by rfl) (by rfl))) (fun _ _=>rfl))) fun ss y h=>z13 h
def z25:DS:=(dSeq (dAsg (z0d z0W [.io 0]) (gTp 2 (z0c (gNm [0] 2) (z0c (gNm [0] 3) z0Z)))) (dSeq (dAsg (eOp pAdd (eD (.int 1)) (bOf (z0d z08 [.io 0,.val (eVar 1)]))) (gNm [0] 4)) (dSeq (dAsg (z0d z08 [.io 0,.val (eD (.int 26))]) (gNm [0] 5)) (dSeq (dAsg (eD (.str [97,98,99,100,101,102,103,104,105,106,107,108,109,110,111,112,113,114,115,116,117,118,119,120,121,122])) (gNm [0] 6)) (dSeq (dAsg (eC1 z3T (bOf (z2t [13] (z12 (eVar 4)) (gNm [0] 13) dYes (eOpF pIx 6 (bOf (eOp pMod (eOpF pAdd 5 (bOf (eOp z1S (eD (.int 5)) (bVar 13)))) (bOf (eD (.int 26))))))))) (gNm [0] 7)) (dSeq (dAsg (z0d z08 [.io 0,.val (eD (.int 5))]) (gNm [0] 8)) (dSeq (dAsg (eLst aNil) (gNm [0] 9)) (dSeq (dFor (z12 (eVar 4)) (gNm [0] 10) (dSeq (dAsg (eLst aNil) (gNm [0] 11)) (dSeq (dFor (z12 (eVar 2)) (gNm [0] 12) (z0F 11 (eC1 (z2y []) (bOf (z2t [14] (z12 (eVar 3)) (gNm [0] 14) dYes (z0d z0E [.io 0,.val (eVar 7),.val (eVar 10),.val (eVar 8)])))))) (z0F 9 (eTup (z0a (eOpF pIx 7 (bVar 10)) (z0a (eC1 z29 (bVar 11)) aNil))))))) (dRet (eTup (z0a (eVar 2) (z0a (eVar 3) (z0a (eC1 z29 (bVar 9)) aNil)))))))))))))
def z0H:DF:=gOf [0] 15 z25
theorem z3F:z1R z0H:=z0D
theorem sc__law_rule_by:FnScope ["pen","most","high","wide","size","first","letters","tiles","way","blocks","place","block","row","k","column"] ["pen","most"] (z00 z21):=⟨rfl,rfl,rfl,by decide +kernel,rfl,by decide +kernel,by decide +kernel⟩
theorem z4A {K:W0} (F:Fun K "_law_rule_by" "_law_rule_by" z21 f fd) (hm:mg "_law_rule_by" = some (.ref f)) (hb:Binds K fd ["pen","most"] []) (T:Txt ce K mg) (k__law_draw:KFn P w K mg base 2 "_law_draw" 2 z08) (k__law_sizes_by:KFn P w K mg base 3 "_law_sizes_by" 1 z0W) (k__law_pick:KFn P w K mg base 3 "_law_pick" 4 z0E):KFn P w K mg base 4 "_law_rule_by" 2 z0H :=
 z2s (np:=[0]) (fb:=z25) F hm hb sc__law_rule_by (fun c cdv A outer s H E hr hnp=>by
  have hq:=z1T hr
  refine (@z05 _ _ _ _ _ _ ?_ ?_)
  ·refine (@z5g _ _ _ _ _ _ _ ?_ ?_ (by rfl) (by rfl) (by rfl))
   ·exact (@z0x _ _ _ _ _ (3) _ _ _ _ _ k__law_sizes_by z3b (hr.mono (by decide)) rfl (@z1w _ _ _ _ _ _ (pv 0) (@z0t _ _) (by rfl)) rfl (by decide) (by rfl) (by rfl))
   ·exact (@z46 _ _ _ _ _ _ _ rfl (@z0O _ _ _ _ _ _ (@z0C _ _ _ ([0]) (2) _ hnp sc__law_rule_by.nd rfl (by first | exact Or.inl rfl | exact Or.inr rfl) (Or.inl rfl)) (@z0O _ _ _ _ _ _ (@z0C _ _ _ ([0]) (3) _ hnp sc__law_rule_by.nd rfl (by first | exact Or.inl rfl | exact Or.inr rfl) (Or.inl rfl)) (@z2v _ _) (by rfl)) (by rfl)) (by rfl) (by rfl))
  refine (@z05 _ _ _ _ _ _ ?_ ?_)
  ·exact (@z0u _ _ _ _ _ _ ([0]) (4) _ hnp sc__law_rule_by.nd rfl (by first | exact Or.inl rfl | exact Or.inr rfl) (@z1k _ _ _ _ _ _ _ _ _ _ z1g z1O (@z04 _ _ _ _ _) (@z0e _ _ _ _ (@z0x _ _ _ _ _ (2) _ _ _ _ _ k__law_draw z0i (hr.mono (by decide)) rfl (@z1w _ _ _ _ _ _ (pv 0) (@z03 _ _ _ _ _ _ (@z06 _ _ _ _ (pv 1)) (@z0t _ _) (by rfl)) (by rfl)) rfl (by decide) (by rfl) (by rfl)))) rfl (Or.inl rfl))
  refine (@z05 _ _ _ _ _ _ ?_ ?_)
  ·exact (@z0u _ _ _ _ _ _ ([0]) (5) _ hnp sc__law_rule_by.nd rfl (by first | exact Or.inl rfl | exact Or.inr rfl) (@z0x _ _ _ _ _ (2) _ _ _ _ _ k__law_draw z0i (hr.mono (by decide)) rfl (@z1w _ _ _ _ _ _ (pv 0) (@z03 _ _ _ _ _ _ (@z04 _ _ _ _ _) (@z0t _ _) (by rfl)) (by rfl)) rfl (by decide) (by rfl) (by rfl)) rfl (Or.inl rfl))
  refine (@z05 _ _ _ _ _ _ ?_ ?_)
  ·exact (@z0u _ _ _ _ _ _ ([0]) (6) _ hnp sc__law_rule_by.nd rfl (by first | exact Or.inl rfl | exact Or.inr rfl) (@z4r _ _ _ _ _ [97,98,99,100,101,102,103,104,105,106,107,108,109,110,111,112,113,114,115,116,117,118,119,120,121,122] (by decide +kernel)) rfl (Or.inl rfl))
  refine (@z05 _ _ _ _ _ _ ?_ ?_)
  ·exact (@z0u _ _ _ _ _ _ ([0]) (7) _ hnp sc__law_rule_by.nd rfl (by first | exact Or.inl rfl | exact Or.inr rfl) (@z92 _ _ _ _ _ _ rfl T.z_sorted (@z0e _ _ _ _ (@z5F _ _ ([13]) _ _ _ _ _ _ _ _ _ _ rfl (@z2G _ _ _ rfl rfl) (@z1M _ _ _ _ _ _ _ rfl T.z_range (@z06 _ _ _ _ (pv 4)) (by rfl)) (fun l s0 H0 ex=>(@z2d _ _ _ _ ([0]) (13) _ hnp sc__law_rule_by.nd rfl (by first | exact Or.inl rfl | exact Or.inr rfl) (by first | exact Or.inl rfl | exact Or.inr rfl) (by decide))) (fun l s0 H0 ex=>(@z74 _ _)) (fun l s0 H0 ex=>(@z0w _ _ _ _ _ _ _ _ _ z0n z0J (pv 6) (@z0e _ _ _ _ (@z1k _ _ _ _ _ _ _ _ _ _ z2Z z30 (@z1o _ _ _ _ _ _ _ _ _ _ z1g z1O (pv 5) (@z0e _ _ _ _ (@z1k _ _ _ _ _ _ _ _ _ _ z4y z4C (@z04 _ _ _ _ _) (@z0b _ _ _ _ (pv 13))))) (@z0e _ _ _ _ (@z04 _ _ _ _ _)))) (fun _ _=>rfl))) (z6v hnp rfl) (by intro _; rfl))) (by rfl)) rfl (Or.inl rfl))
  refine (@z05 _ _ _ _ _ _ ?_ ?_)
  ·exact (@z0u _ _ _ _ _ _ ([0]) (8) _ hnp sc__law_rule_by.nd rfl (by first | exact Or.inl rfl | exact Or.inr rfl) (@z0x _ _ _ _ _ (2) _ _ _ _ _ k__law_draw z0i (hr.mono (by decide)) rfl (@z1w _ _ _ _ _ _ (pv 0) (@z03 _ _ _ _ _ _ (@z04 _ _ _ _ _) (@z0t _ _) (by rfl)) (by rfl)) rfl (by decide) (by rfl) (by rfl)) rfl (Or.inl rfl))
  refine (@z05 _ _ _ _ _ _ ?_ ?_)
  ·exact (@z0u _ _ _ _ _ _ ([0]) (9) _ hnp sc__law_rule_by.nd rfl (by first | exact Or.inl rfl | exact Or.inr rfl) (@z1E _ _ _ _ _ (@z0X _ _) (by decide)) rfl (Or.inl rfl))
  refine (@z05 _ _ _ _ _ _ ?_ ?_)
  ·refine (@z2u _ _ _ _ _ _ _ _ _ PassesOwn.never rfl ?_ ?_ ?_ (by intro _; rfl))
   ·exact (@z1M _ _ _ _ _ _ _ rfl T.z_range (@z06 _ _ _ _ (pv 4)) (by rfl))
   ·exact (@z0C _ _ _ ([0]) (10) _ hnp sc__law_rule_by.nd rfl (by first | exact Or.inl rfl | exact Or.inr rfl) (Or.inl rfl))
   ·refine (@z05 _ _ _ _ _ _ ?_ ?_)
    ·exact (@z0u _ _ _ _ _ _ ([0]) (11) _ hnp sc__law_rule_by.nd rfl (by first | exact Or.inl rfl | exact Or.inr rfl) (@z1E _ _ _ _ _ (@z0X _ _) (by decide)) rfl (Or.inl rfl))
    refine (@z05 _ _ _ _ _ _ ?_ ?_)
    ·refine (@z2u _ _ _ _ _ _ _ _ _ PassesOwn.never rfl ?_ ?_ ?_ (by intro _; rfl))
     ·exact (@z1M _ _ _ _ _ _ _ rfl T.z_range (@z06 _ _ _ _ (pv 2)) (by rfl))
     ·exact (@z0C _ _ _ ([0]) (12) _ hnp sc__law_rule_by.nd rfl (by first | exact Or.inl rfl | exact Or.inr rfl) (Or.inl rfl))
     ·refine (@z0j _ _ _ _ ?_)
      exact (@z28 _ _ _ _ _ _ _ _ _ (pv 11) (@z94 _ _ _ _ _ _ _ _ _ [] (@z0e _ _ _ _ (@z5F _ _ ([14]) _ _ _ _ _ _ _ _ _ _ rfl (@z2G _ _ _ rfl rfl) (@z1M _ _ _ _ _ _ _ rfl T.z_range (@z06 _ _ _ _ (pv 3)) (by rfl)) (fun l s0 H0 ex=>(@z2d _ _ _ _ ([0]) (14) _ hnp sc__law_rule_by.nd rfl (by first | exact Or.inl rfl | exact Or.inr rfl) (by first | exact Or.inl rfl | exact Or.inr rfl) (by decide))) (fun l s0 H0 ex=>(@z74 _ _)) (fun l s0 H0 ex=>(@z0x _ _ _ _ _ (3) _ _ _ _ _ k__law_pick z4H (hr.mono (by decide)) rfl (@z1w _ _ _ _ _ _ (pv 0) (@z03 _ _ _ _ _ _ (@z06 _ _ _ _ (pv 7)) (@z03 _ _ _ _ _ _ (@z06 _ _ _ _ (pv 10)) (@z03 _ _ _ _ _ _ (@z06 _ _ _ _ (pv 8)) (@z0t _ _) (by rfl)) (by rfl)) (by rfl)) (by rfl)) rfl (by decide) (by rfl) (by rfl))) (z6v hnp rfl) (by intro _; rfl))) (by decide +kernel) (by rfl) (by rfl) (by rfl) (by rfl)) (by rfl) (by rfl) (by rfl) (by rfl) (by rfl))
    refine (@z0j _ _ _ _ ?_)
    exact (@z28 _ _ _ _ _ _ _ _ _ (pv 9) (@z3q _ _ _ _ _ _ (@z07 _ _ _ _ _ _ (@z0w _ _ _ _ _ _ _ _ _ z0n z0J (pv 7) (@z0b _ _ _ _ (pv 10)) (fun _ _=>rfl)) (@z07 _ _ _ _ _ _ (@z5E _ _ _ _ _ _ rfl T.z_tuple (@z0b _ _ _ _ (pv 11)) (by rfl)) (@z0X _ _) (by rfl)) (by rfl)) (by decide)) (by rfl) (by rfl) (by rfl) (by rfl) (by rfl))
  refine (@z0j _ _ _ _ ?_)
  refine (@z0B _ _ _ _ _ ?_)
  exact (@z3q _ _ _ _ _ _ (@z07 _ _ _ _ _ _ (@z06 _ _ _ _ (pv 2)) (@z07 _ _ _ _ _ _ (@z06 _ _ _ _ (pv 3)) (@z07 _ _ _ _ _ _ (@z5E _ _ _ _ _ _ rfl T.z_tuple (@z0b _ _ _ _ (pv 9)) (by rfl)) (@z0X _ _) (by rfl)) (by rfl)) (by rfl)) (by decide))) fun ss y h=>z13 h
def z2l:DS:=(dRet (z2t [1,2] (iSq (eOpF pIx 0 (bOf (eD (.int 2))))) (gTp 2 (z0c (gNm [] 1) (z0c (gNm [] 2) z0Z))) (dTr (eOp pEq (eOp pIx (eOpF pIx 2 (bOf (eD (.int 0)))) (bOf (eD (.int 0)))) (bVar 1))) (eVar 1)))
def z10:DF:=gOf [] 3 z2l
theorem z3Y:z1R z10:=z0D
theorem sc_still_tiles:FnScope ["rule","tile","block"] ["rule"] (z00 z2e):=⟨rfl,rfl,rfl,by decide +kernel,rfl,by decide +kernel,by decide +kernel⟩
theorem z55 {K:W0} (F:Fun K "still_tiles" "still_tiles" z2e f fd) (hm:mg "still_tiles" = some (.ref f)) (hb:Binds K fd ["rule"] []) (T:Txt ce K mg):KFn P w K mg base 1 "still_tiles" 1 z10 :=
 z2s (np:=[]) (fb:=z2l) F hm hb sc_still_tiles (fun c cdv A outer s H E hr hnp=>by
  have hq:=z1T hr
  refine (z0j ?_)
  refine (z0B ?_)
  exact (@z5F _ _ ([1,2]) _ _ _ _ _ _ _ _ _ _ rfl (z2G rfl rfl) (z5D (z0w z0n z0J (pv 0) (z0e z04) (fun _ _=>rfl))) (fun l s0 H0 ex=>(z90 rfl (z3p (@z2d _ _ _ _ ([]) (1) _ hnp sc_still_tiles.nd rfl (by first | exact Or.inl rfl | exact Or.inr rfl) (by first | exact Or.inl rfl | exact Or.inr rfl) (by decide)) (z3p (@z2d _ _ _ _ ([]) (2) _ hnp sc_still_tiles.nd rfl (by first | exact Or.inl rfl | exact Or.inr rfl) (by first | exact Or.inl rfl | exact Or.inr rfl) (by decide)) z7G (by rfl)) (by rfl)) (by rfl) (by rfl))) (fun l s0 H0 ex=>(z8P (z2W (z2o hq) z4c (z3r z0n z0J (z0w z0n z0J (pv 2) (z0e z04) (fun _ _=>rfl)) (z0e z04) (fun _ _=>rfl)) (z0b (pv 1)) (z1c _)))) (fun l s0 H0 ex=>(z06 (pv 1))) (z6v hnp rfl) (by intro _; rfl))) fun ss y h=>z13 h
def z3h:DS:=(dSeq (dAsg (eC1 z1D (bOf (eOpF pIx 0 (bOf (eD (.int 2)))))) (gNm [] 4)) (dSeq (dAsg (eLst (z0a (eVar 1) aNil)) (gNm [] 5)) (z1L (dTr (eD (.bl true))) (dSeq (dAsg (eOpF pIxX 4 (bOf (eOpF pIx 5 (bOf (eC1 pNeg (bOf (eD (.int 1)))))))) (gNm [] 6)) (dSeq (dAsg (eOp pIx (eOpF pIx 6 (bOf (eOp pIx (eLst (z0a (eD (.int 0)) (z0a (eC1 pNeg (bOf (eD (.int 1)))) aNil))) (bVar 2)))) (bOf (eOp pIx (eLst (z0a (eD (.int 0)) (z0a (eC1 pNeg (bOf (eD (.int 1)))) aNil))) (bVar 3)))) (gNm [] 7)) (dSeq (dIf (dTr (eOp (pIn false) (eVar 7) (bVar 5))) (dRet (eTup (z0a (eVar 5) (z0a (zah 5 (eVar 7)) aNil)))) z19) (z0F 5 (eVar 7))))) 1000000)))
def z1i:DF:=gOf [] 8 z3h
theorem z4G:z1R z1i:=z0D
theorem sc__law_walk:FnScope ["rule","tile","bottom","right","blocks","seen","block","more"] ["rule","tile","bottom","right"] (z00 z32):=⟨rfl,rfl,rfl,by decide +kernel,rfl,by decide +kernel,by decide +kernel⟩
theorem z6p {K:W0} (F:Fun K "_law_walk" "_law_walk" z32 f fd) (hm:mg "_law_walk" = some (.ref f)) (hb:Binds K fd ["rule","tile","bottom","right"] []) (T:Txt ce K mg):KFn P w K mg base 1 "_law_walk" 4 z1i :=
 z2s (np:=[]) (fb:=z3h) F hm hb sc__law_walk (fun c cdv A outer s H E hr hnp=>by
  have hq:=z1T hr
  refine (z05 ?_ ?_)
  ·exact (@z0u _ _ _ _ _ _ ([]) (4) _ hnp sc__law_walk.nd rfl (Or.inl rfl) (z4s rfl rfl T.z_dict (z0e (z0w z0n z0J (pv 0) (z0e z04) (fun _ _=>rfl))) (by rfl)) rfl (Or.inl rfl))
  refine (z05 ?_ ?_)
  ·exact (@z0u _ _ _ _ _ _ ([]) (5) _ hnp sc__law_walk.nd rfl (Or.inl rfl) (z1E (z07 (z06 (pv 1)) z0X (by rfl)) (by decide)) rfl (Or.inl rfl))
  refine (z0j ?_)
  refine (z7E 1000000 (fun h1 h2=>z7N PassesOwn.never h1 h2) ?_ ?_)
  ·exact (z2V z53 (by intro _; rfl))
  ·refine (z05 ?_ ?_)
   ·exact (@z0u _ _ _ _ _ _ ([]) (6) _ hnp sc__law_walk.nd rfl (Or.inl rfl) (z0w (ix_X hq) z7U (pv 4) (z0e (z0w z0n z0J (pv 5) (z0e (z6b (z0e z04))) (fun _ _=>rfl))) (fun _ _=>rfl)) rfl (Or.inl rfl))
   refine (z05 ?_ ?_)
   ·exact (@z0u _ _ _ _ _ _ ([]) (7) _ hnp sc__law_walk.nd rfl (Or.inl rfl) (z3r z0n z0J (z0w z0n z0J (pv 6) (z0e (z3r z0n z0J (z1E (z07 z04 (z07 (z6b (z0e z04)) z0X (by rfl)) (by rfl)) (by decide)) (z0b (pv 2)) (fun _ _=>rfl))) (fun _ _=>rfl)) (z0e (z3r z0n z0J (z1E (z07 z04 (z07 (z6b (z0e z04)) z0X (by rfl)) (by rfl)) (by decide)) (z0b (pv 3)) (fun _ _=>rfl))) (fun _ _=>rfl)) rfl (Or.inl rfl))
   refine (z05 ?_ ?_)
   ·refine (z2c ?_ ?_ ?_)
    ·exact (z2W (zb9 hq) (z5Q false) (z06 (pv 7)) (z0b (pv 5)) rfl)
    ·refine (z0j ?_)
     refine (z0B ?_)
     exact (z3q (z07 (z06 (pv 5)) (z07 (zcy (pv 5) (z06 (pv 7)) (by rfl) (by rfl) (by rfl) (by rfl)) z0X (by rfl)) (by rfl)) (by decide))
    ·exact z1n
   refine (z0j ?_)
   exact (z28 (pv 5) (z06 (pv 7)) (by rfl) (by rfl) (by rfl) (by rfl) (by rfl))) fun ss y h=>z13 h
def z1e:DS:=(dIf (dOr (dNot (dTr (eIsi "str" (bVar 1)))) (dTr (eOp (pIn true) (eVar 1) (bOf (eC1 z1D (bOf (eOpF pIx 0 (bOf (eD (.int 2)))))))))) (z42 [78,111,84,105,108,101] [[116,105,108,101]] (z0a (eVar 1) aNil)) z19)
def z0r:DX:=gOfX [] 2 z1e
theorem z2U:z31 z0r:=z2P
theorem z3R:FnScope ["rule","thing"] ["rule","thing"] (z00 z1B):=⟨rfl,rfl,rfl,by decide +kernel,rfl,by decide +kernel,by decide +kernel⟩
theorem z3W {K:W0} (F:Fun K "refuse_no_tile" "refuse_no_tile" z1B f fd) (hm:mg "refuse_no_tile" = some (.ref f)) (hb:Binds K fd ["rule","thing"] []) (T:Txt ce K mg) (n_f:IniK P w K mg base (ce [78,111,84,105,108,101]) ["tile"]):KFnX P w K mg base 3 "refuse_no_tile" 2 z0r :=
 zdm (np:=[]) (fb:=z1e) F hm hb z3R (fun c cdv A outer s H E hr hnp hxo=>by
  have hq:=z1T hr
  refine (z0j ?_)
  refine (z2c ?_ ?_ ?_)
  ·exact (z75 (z8f (z3o (z2V (z5k T.ty_str rfl T.z_isinstance rfl T.z_str boot_str (z0b (pv 1)) (by decide) (by decide) (by rfl) (by rfl)) (by intro _; rfl))) (z5c (z2W (z4x hq) (z5Q true) (z06 (pv 1)) (z0e (z4s rfl rfl T.z_dict (z0e (z0w z0n z0J (pv 0) (z0e z04) (fun _ _=>rfl))) (by rfl))) rfl))))
  ·refine (z0j ?_)
   exact (z8T [78,111,84,105,108,101] [[116,105,108,101]] n_f (hr.mono (by decide)) rfl rfl T.c_f (z07 (z06 (pv 1)) z0X (by rfl)) hxo (by decide) (by decide +kernel) (by decide) (by decide +kernel) (by decide) (by rfl) (by rfl) (by rfl))
  ·exact z1n) fun ss y h=>z3I h
theorem sc_walked:FnScope ["first","step","number_of","here"] ["first","step"] (z00 z5H):=⟨rfl,rfl,rfl,by decide +kernel,rfl,by decide +kernel,by decide +kernel⟩
theorem z9I {K:W0} (F:Fun K "walked" "walked" z5H f fd) (hm:mg "walked" = some (.ref f)) (hb:Binds K fd ["first","step"] []) (T:Txt ce K mg):zdE P w K mg base 1 "walked" 4 zbI :=
 ⟨f,fd,_,_,_,["first","step","number_of","here"],rfl,hm,F.kp,hb,rfl,zfe F sc_walked rfl (fun c cdv A outer s H E fa Fn hr hnp hclo=>by
  have hq:=z1T hr
  refine (z05 ?_ ?_)
  ·exact (@z0u _ _ _ _ _ _ ([]) (2) _ hnp sc_walked.nd rfl (Or.inl rfl) z7H rfl (Or.inl rfl))
  refine (z05 ?_ ?_)
  ·exact (@z0u _ _ _ _ _ _ ([]) (3) _ hnp sc_walked.nd rfl (Or.inl rfl) (z06 (pv 0)) rfl (Or.inl rfl))
  refine (z05 ?_ ?_)
  ·refine (z7E 1000000 (fun h1 h2=>z7N PassesOwn.never h1 h2) ?_ ?_)
   ·exact (z2W (z4x hq) (z5Q true) (z06 (pv 3)) (z0b (pv 2)) rfl)
   ·refine (z05 ?_ ?_)
    ·exact (z8S hq (pv 2) (z06 (pv 3)) (z2X rfl T.z_len (z0b (pv 2)) (by rfl)) (by rfl))
    refine (z0j ?_)
    exact (@z0u _ _ _ _ _ _ ([]) (3) _ hnp sc_walked.nd rfl (Or.inl rfl) (zcw hclo (pv 1) (z06 (pv 3))) rfl (Or.inl rfl))
  refine (z0j ?_)
  refine (z0B ?_)
  exact (z3q (z07 (zaP rfl rfl T.z_list (z0b (pv 2))) (z07 (z0w (ix_X hq) z7U (pv 2) (z0b (pv 3)) (fun _ _=>rfl)) z0X (by rfl)) (by rfl)) (by decide)))⟩
def z1H:DS:=(dSeq (z43 (z14 z0r [.val (eVar 0),.val (eVar 1)])) (dSeq (dAsg (eVar 0) (gTp 3 (z0c (gNm [] 4) (z0c (gNm [] 5) (z0c (gNm [] 6) z0Z))))) (dSeq (dAsg (eC1 z1D (bVar 6)) (gNm [] 7)) (dSeq (dAsg (eOpF z1S 2 (bOf (eOpF pSub 4 (bOf (eD (.int 1)))))) (gNm [] 8)) (dSeq (dAsg (eOpF z1S 3 (bOf (eOpF pSub 5 (bOf (eD (.int 1)))))) (gNm [] 9)) (dRet (zag (eVar 1) [9,8,7] (eOp pIx (eOp pIx (eOpF pIxX 3 (bVar 0)) (bVar 2)) (bVar 1)) z8a)))))))
def z0s:DX:=gOfX [] 10 z1H
theorem z2a:z31 z0s:=z2P
theorem sc_corner_walk:FnScope ["rule","tile","bottom","right","high","wide","blocks","block_of","row","column"] ["rule","tile","bottom","right"] (z00 z0A):=⟨rfl,rfl,rfl,by decide +kernel,rfl,by decide +kernel,by decide +kernel⟩
theorem z56 {K:W0} {tpA tcA:Addr} (F:Fun K "corner_walk" "corner_walk" z0A f fd) (hm:mg "corner_walk" = some (.ref f)) (hb:Binds K fd ["rule","tile","bottom","right"] []) (T:Txt ce K mg) (lkT:∃ oc od kV doc pm an ct osl,K.lookup f=some ⟨oc,od,.func (WF "corner_walk" "corner_walk" (z18 z0A) (z0q z0A) (z00 z0A) .none kV doc pm an (.ref tcA) ct),osl⟩) (dT:QF K tcA tpA=true) (gT:Wj≠tpA) (tT:base.BuiltinsAt mg tpA) (k_refuse_no_tile:KFnX P w K mg base 3 "refuse_no_tile" 2 z0r) (k_walked:zdE P w K mg base 1 "walked" 4 zbI):z44 P w K mg base [(tpA,lamPos,lamQ)] 4 "corner_walk" 4 z0s :=
 z5Y (np:=[]) (fb:=z1H) F hm hb sc_corner_walk (fun c cdv A outer s H E hr hnp ft hlk hxo=>by
  have hq:=z1T hr
  refine (z05 ?_ ?_)
  ·exact (z5B (@zaT _ _ _ _ _ (3) _ _ _ _ _ k_refuse_no_tile z2U (hr.mono (by decide)) rfl hxo rfl (z03 (z06 (pv 0)) (z03 (z06 (pv 1)) z0t (by rfl)) (by rfl)) rfl (by decide) (by rfl) (by rfl)) (by rfl))
  refine (z05 ?_ ?_)
  ·refine (z5g ?_ ?_ (by rfl) (by rfl) (by rfl))
   ·exact (z06 (pv 0))
   ·exact (z46 rfl (z0O (@z0C _ _ _ ([]) (4) _ hnp sc_corner_walk.nd rfl (by first | exact Or.inl rfl | exact Or.inr rfl) (Or.inl rfl)) (z0O (@z0C _ _ _ ([]) (5) _ hnp sc_corner_walk.nd rfl (by first | exact Or.inl rfl | exact Or.inr rfl) (Or.inl rfl)) (z0O (@z0C _ _ _ ([]) (6) _ hnp sc_corner_walk.nd rfl (by first | exact Or.inl rfl | exact Or.inr rfl) (Or.inl rfl)) z2v (by rfl)) (by rfl)) (by rfl)) (by rfl) (by rfl))
  refine (z05 ?_ ?_)
  ·exact (@z0u _ _ _ _ _ _ ([]) (7) _ hnp sc_corner_walk.nd rfl (by first | exact Or.inl rfl | exact Or.inr rfl) (z4s rfl rfl T.z_dict (z0b (pv 6)) (by rfl)) rfl (Or.inl rfl))
  refine (z05 ?_ ?_)
  ·exact (@z0u _ _ _ _ _ _ ([]) (8) _ hnp sc_corner_walk.nd rfl (by first | exact Or.inl rfl | exact Or.inr rfl) (z1o z4y z4C (pv 2) (z0e (z1o z2n z2p (pv 4) (z0e z04)))) rfl (Or.inl rfl))
  refine (z05 ?_ ?_)
  ·exact (@z0u _ _ _ _ _ _ ([]) (9) _ hnp sc_corner_walk.nd rfl (by first | exact Or.inl rfl | exact Or.inr rfl) (z1o z4y z4C (pv 3) (z0e (z1o z2n z2p (pv 5) (z0e z04)))) rfl (Or.inl rfl))
  refine (z0j ?_)
  refine (z0B ?_)
  exact (zcv (P:=tpA) (kl:=0) (kw:=1) (fr:=["column","row","block_of"]) (js:=[9,8,7]) (p:="own") k_walked zaI ft Wm (hr.mono (by decide)) (by decide) rfl (z06 (pv 1)) (fun _=>rfl) rfl rfl (zdz hlk lkT) dT gT tT (zdT (fm3 rfl rfl rfl)) zeW rfl (fun i x j e1 e2=>by rcases i with _ | i; (cases e1; cases e2; exact ⟨rfl,rfl,_,rfl⟩); rcases i with _ | i; (cases e1; cases e2; exact ⟨rfl,rfl,_,rfl⟩); rcases i with _ | i; (cases e1; cases e2; exact ⟨rfl,rfl,_,rfl⟩); cases e1) (fun _ _ _ _=>rfl) (fun c fa cd A outer s H hr hp=>by have hq:=z1T hr; exact (z3r z0n z0J (z3r z0n z0J (z0w (ix_X hq) z7U (pv 3) (z0b (pv 0)) (fun _ _=>rfl)) (z0b (pv 2)) (fun _ _=>rfl)) (z0b (pv 1)) (fun _ _=>rfl))))) fun ss y h=>z3I h
def z1I:DS:=(dSeq (dAsg (z14 z0s [.val (eVar 0),.val (eVar 1),.val (eVar 2),.val (eVar 3)]) (gTp 2 (z0c (gNm [] 5) (z0c (gNm [] 6) z0Z)))) (dSeq (dIf (dTr (eOpF pLt 4 (bVar 6))) (dRet (eOpF pIx 5 (bVar 4))) z19) (dRet (eOpF pIx 5 (bOf (eOpF pAdd 6 (bOf (eOp pMod (eOpF pSub 4 (bVar 6)) (bOf (eOp pSub (eC1 pLen (bVar 5)) (bVar 6)))))))))))
def z0m:DX:=gOfX [] 7 z1I
theorem z1r:z31 z0m:=z2P
theorem sc_corner_tile:FnScope ["rule","tile","bottom","right","growings","path","start"] ["rule","tile","bottom","right","growings"] (z00 z2f):=⟨rfl,rfl,rfl,by decide +kernel,rfl,by decide +kernel,by decide +kernel⟩
theorem z57 {K:W0} {tpA:Addr} (F:Fun K "corner_tile" "corner_tile" z2f f fd) (hm:mg "corner_tile" = some (.ref f)) (hb:Binds K fd ["rule","tile","bottom","right","growings"] []) (T:Txt ce K mg) (k_corner_walk:z44 P w K mg base [(tpA,lamPos,lamQ)] 4 "corner_walk" 4 z0s):z44 P w K mg base [(tpA,lamPos,lamQ)] 5 "corner_tile" 5 z0m :=
 z5Y (np:=[]) (fb:=z1I) F hm hb sc_corner_tile (fun c cdv A outer s H E hr hnp ft hlk hxo=>by
  have hq:=z1T hr
  refine (z05 ?_ ?_)
  ·refine (z5g ?_ ?_ (by rfl) (by rfl) (by rfl))
   ·exact (z3u (k:=4) k_corner_walk ft z2a (hr.mono (by decide)) rfl hxo rfl (z03 (z06 (pv 0)) (z03 (z06 (pv 1)) (z03 (z06 (pv 2)) (z03 (z06 (pv 3)) z0t (by rfl)) (by rfl)) (by rfl)) (by rfl)) rfl)
   ·exact (z46 rfl (z0O (@z0C _ _ _ ([]) (5) _ hnp sc_corner_tile.nd rfl (Or.inl rfl) (Or.inl rfl)) (z0O (@z0C _ _ _ ([]) (6) _ hnp sc_corner_tile.nd rfl (Or.inl rfl) (Or.inl rfl)) z2v (by rfl)) (by rfl)) (by rfl) (by rfl))
  refine (z05 ?_ ?_)
  ·refine (z2c ?_ ?_ ?_)
   ·exact (z1Z zc1 zeN (pv 4) (z0b (pv 6)) (z1c _))
   ·refine (z0j ?_)
    refine (z0B ?_)
    exact (z0w z0n z0J (pv 5) (z0b (pv 4)) (fun _ _=>rfl))
   ·exact z1n
  refine (z0j ?_)
  refine (z0B ?_)
  exact (z0w z0n z0J (pv 5) (z0e (z1o z1g z1O (pv 6) (z0e (z1k z2Z z30 (z1o z2n z2p (pv 4) (z0b (pv 6))) (z0e (z1k z2n z2p (z2X rfl T.z_len (z0b (pv 5)) (by rfl)) (z0b (pv 6)))))))) (fun _ _=>rfl))) fun ss y h=>z3I h
def z1v:DS:=(dSeq (dAsg (z14 z0s [.val (eVar 0),.val (eVar 1),.val (eVar 2),.val (eVar 3)]) (gTp 2 (z0c (gNm [] 4) (z0c (gNm [] 5) z0Z)))) (dRet (eTup (z0a (eVar 5) (z0a (eOp pSub (eC1 pLen (bVar 4)) (bVar 5)) aNil)))))
def z0p:DX:=gOfX [] 6 z1v
theorem z1U:z31 z0p:=z2P
theorem sc_corner_round:FnScope ["rule","tile","bottom","right","path","start"] ["rule","tile","bottom","right"] (z00 z20):=⟨rfl,rfl,rfl,by decide +kernel,rfl,by decide +kernel,by decide +kernel⟩
theorem z4z {K:W0} {tpA:Addr} (F:Fun K "corner_round" "corner_round" z20 f fd) (hm:mg "corner_round" = some (.ref f)) (hb:Binds K fd ["rule","tile","bottom","right"] []) (T:Txt ce K mg) (k_corner_walk:z44 P w K mg base [(tpA,lamPos,lamQ)] 4 "corner_walk" 4 z0s):z44 P w K mg base [(tpA,lamPos,lamQ)] 5 "corner_round" 4 z0p :=
 z5Y (np:=[]) (fb:=z1v) F hm hb sc_corner_round (fun c cdv A outer s H E hr hnp ft hlk hxo=>by
  have hq:=z1T hr
  refine (z05 ?_ ?_)
  ·refine (z5g ?_ ?_ (by rfl) (by rfl) (by rfl))
   ·exact (z3u (k:=4) k_corner_walk ft z2a (hr.mono (by decide)) rfl hxo rfl (z03 (z06 (pv 0)) (z03 (z06 (pv 1)) (z03 (z06 (pv 2)) (z03 (z06 (pv 3)) z0t (by rfl)) (by rfl)) (by rfl)) (by rfl)) rfl)
   ·exact (z46 rfl (z0O (@z0C _ _ _ ([]) (4) _ hnp sc_corner_round.nd rfl (Or.inl rfl) (Or.inl rfl)) (z0O (@z0C _ _ _ ([]) (5) _ hnp sc_corner_round.nd rfl (Or.inl rfl) (Or.inl rfl)) z2v (by rfl)) (by rfl)) (by rfl) (by rfl))
  refine (z0j ?_)
  refine (z0B ?_)
  exact (z3q (z07 (z06 (pv 5)) (z07 (z1k z2n z2p (z2X rfl T.z_len (z0b (pv 4)) (by rfl)) (z0b (pv 5))) z0X (by rfl)) (by rfl)) (by decide))) fun ss y h=>z3I h
def z49:DS:=(dRet (eAnd (eIsi "int" (bVar 0)) (eNot (eIsi "bool" (bVar 0)))))
def z1a:DF:=gOf [] 1 z49
theorem z2q:z1R z1a:=z0D
theorem z5G:FnScope ["found"] ["found"] (z00 z2w):=⟨rfl,rfl,rfl,by decide +kernel,rfl,by decide +kernel,by decide +kernel⟩
theorem z5P {K:W0} (F:Fun K "_law_whole" "_law_whole" z2w f fd) (hm:mg "_law_whole" = some (.ref f)) (hb:Binds K fd ["found"] []) (T:Txt ce K mg):KFn P w K mg base 1 "_law_whole" 1 z1a :=
 z2s (np:=[]) (fb:=z49) F hm hb z5G (fun c cdv A outer s H E hr hnp=>by
  have hq:=z1T hr
  refine (z0j ?_)
  refine (z0B ?_)
  exact (z96 (z5k T.ty_int rfl T.z_isinstance rfl T.z_int boot_int (z0b (pv 0)) (by decide) (by decide) (by rfl) (by rfl)) (z93 (zdX (z5k T.ty_bool rfl T.z_isinstance rfl T.z_bool boot_bool (z0b (pv 0)) (by decide) (by decide) (by rfl) (by rfl)))))) fun ss y h=>z13 h
def z1h:DS:=(dSeq (dAsg (z0d z1i [.val (eVar 0),.val (eVar 1),.val (eVar 2),.val (eVar 3)]) (gTp 2 (z0c (gNm [] 5) (z0c (gNm [] 6) z0Z)))) (dSeq (dAsg (eOpF pIx 5 (bOf (eMin (eVar 4) (eOp pSub (eC1 pLen (bVar 5)) (bOf (eD (.int 1))))))) (gNm [] 7)) (dSeq (dIf (dTr (eOpF pGe 4 (bOf (eC1 pLen (bVar 5))))) (dAsg (eOpF pIx 5 (bOf (eOpF pAdd 6 (bOf (eOp pMod (eOpF pSub 4 (bVar 6)) (bOf (eOp pSub (eC1 pLen (bVar 5)) (bVar 6)))))))) (gNm [] 7)) z19) (dSeq (dAsg (z1W z0m [.val (eVar 0),.val (eVar 1),.val (eVar 2),.val (eVar 3),.val (eVar 4)]) (gNm [] 8)) (dSeq (dIf (dOr (dNot (dTr (eIsi "str" (bVar 8)))) (dTr (eOpF pNe 8 (bVar 7)))) (dRet (eD (.bl false))) z19) (dSeq (dAsg (z1W z0p [.val (eVar 0),.val (eVar 1),.val (eVar 2),.val (eVar 3)]) (gNm [] 9)) (dSeq (dIf (dOr (dNot (dTr (eIsi "tuple" (bVar 9)))) (dTr (eOpF pNe 9 (bOf (eTup (z0a (eVar 6) (z0a (eOp pSub (eC1 pLen (bVar 5)) (bVar 6)) aNil))))))) (dRet (eD (.bl false))) z19) (dRet (eAnd (z0d z1a [.val (eOpF pIx 9 (bOf (eD (.int 0))))]) (z0d z1a [.val (eOpF pIx 9 (bOf (eD (.int 1))))]))))))))))
def z0o:DF:=gOf [] 10 z1h
theorem z2j:z1R z0o:=z0D
theorem sc__law_corner_right:FnScope ["rule","tile","bottom","right","growings","seen","start","due","found","told"] ["rule","tile","bottom","right","growings"] (z00 z1f):=⟨rfl,rfl,rfl,by decide +kernel,rfl,by decide +kernel,by decide +kernel⟩
theorem z2S {K:W0} {tpA:Addr} (F:Fun K "_law_corner_right" "_law_corner_right" z1f f fd) (hm:mg "_law_corner_right" = some (.ref f)) (hb:Binds K fd ["rule","tile","bottom","right","growings"] []) (T:Txt ce K mg) (k__law_walk:KFn P w K mg base 1 "_law_walk" 4 z1i) (k_corner_tile:z44 P w K mg base [(tpA,lamPos,lamQ)] 5 "corner_tile" 5 z0m) (k_corner_round:z44 P w K mg base [(tpA,lamPos,lamQ)] 5 "corner_round" 4 z0p) (k__law_whole:KFn P w K mg base 1 "_law_whole" 1 z1a):KFnT P w K mg base [(tpA,lamPos,lamQ)] 6 "_law_corner_right" 5 z0o :=
 z7m (np:=[]) (fb:=z1h) F hm hb sc__law_corner_right (fun c cdv A outer s H E hr hnp ft hlk=>by
  have hq:=z1T hr
  refine (z05 ?_ ?_)
  ·refine (z5g ?_ ?_ (by rfl) (by rfl) (by rfl))
   ·exact (@z0x _ _ _ _ _ (1) _ _ _ _ _ k__law_walk z4G (hr.mono (by decide)) rfl (z03 (z06 (pv 0)) (z03 (z06 (pv 1)) (z03 (z06 (pv 2)) (z03 (z06 (pv 3)) z0t (by rfl)) (by rfl)) (by rfl)) (by rfl)) rfl (by decide) (by rfl) (by rfl))
   ·exact (z46 rfl (z0O (@z0C _ _ _ ([]) (5) _ hnp sc__law_corner_right.nd rfl (Or.inl rfl) (Or.inl rfl)) (z0O (@z0C _ _ _ ([]) (6) _ hnp sc__law_corner_right.nd rfl (Or.inl rfl) (Or.inl rfl)) z2v (by rfl)) (by rfl)) (by rfl) (by rfl))
  refine (z05 ?_ ?_)
  ·exact (@z0u _ _ _ _ _ _ ([]) (7) _ hnp sc__law_corner_right.nd rfl (Or.inl rfl) (z0w z0n z0J (pv 5) (z0e (zdY rfl rfl T.z_min (z06 (pv 4)) (z1k z2n z2p (z2X rfl T.z_len (z0b (pv 5)) (by rfl)) (z0e z04)) (by rfl) (by rfl) (by rfl))) (fun _ _=>rfl)) rfl (Or.inl rfl))
  refine (z05 ?_ ?_)
  ·refine (z2c ?_ ?_ ?_)
   ·exact (z1Z zc2 z7V (pv 4) (z0e (z2X rfl T.z_len (z0b (pv 5)) (by rfl))) (z1c _))
   ·refine (z0j ?_)
    exact (@z0u _ _ _ _ _ _ ([]) (7) _ hnp sc__law_corner_right.nd rfl (Or.inl rfl) (z0w z0n z0J (pv 5) (z0e (z1o z1g z1O (pv 6) (z0e (z1k z2Z z30 (z1o z2n z2p (pv 4) (z0b (pv 6))) (z0e (z1k z2n z2p (z2X rfl T.z_len (z0b (pv 5)) (by rfl)) (z0b (pv 6)))))))) (fun _ _=>rfl)) rfl (Or.inl rfl))
   ·exact z1n
  refine (z05 ?_ ?_)
  ·exact (@z0u _ _ _ _ _ _ ([]) (8) _ hnp sc__law_corner_right.nd rfl (Or.inl rfl) (z4t (k:=5) k_corner_tile ft z1r (hr.mono (by decide)) rfl rfl (z03 (z06 (pv 0)) (z03 (z06 (pv 1)) (z03 (z06 (pv 2)) (z03 (z06 (pv 3)) (z03 (z06 (pv 4)) z0t (by rfl)) (by rfl)) (by rfl)) (by rfl)) (by rfl)) rfl) rfl (Or.inl rfl))
  refine (z05 ?_ ?_)
  ·refine (z2c ?_ ?_ ?_)
   ·exact (z75 (z8f (z3o (z2V (z5k T.ty_str rfl T.z_isinstance rfl T.z_str boot_str (z0b (pv 8)) (by decide) (by decide) (by rfl) (by rfl)) (by intro _; rfl))) (z5c (z1Z (z7T hq) zbc (pv 8) (z0b (pv 7)) (z1c _)))))
   ·refine (z0j ?_)
    refine (z0B ?_)
    exact z53
   ·exact z1n
  refine (z05 ?_ ?_)
  ·exact (@z0u _ _ _ _ _ _ ([]) (9) _ hnp sc__law_corner_right.nd rfl (Or.inl rfl) (z4t (k:=5) k_corner_round ft z1U (hr.mono (by decide)) rfl rfl (z03 (z06 (pv 0)) (z03 (z06 (pv 1)) (z03 (z06 (pv 2)) (z03 (z06 (pv 3)) z0t (by rfl)) (by rfl)) (by rfl)) (by rfl)) rfl) rfl (Or.inl rfl))
  refine (z05 ?_ ?_)
  ·refine (z2c ?_ ?_ ?_)
   ·exact (z75 (z8f (z3o (z2V (z5k T.ty_tuple rfl T.z_isinstance rfl T.z_tuple boot_tuple (z0b (pv 9)) (by decide) (by decide) (by rfl) (by rfl)) (by intro _; rfl))) (z5c (z1Z (z7T hq) zbc (pv 9) (z0e (z3q (z07 (z06 (pv 6)) (z07 (z1k z2n z2p (z2X rfl T.z_len (z0b (pv 5)) (by rfl)) (z0b (pv 6))) z0X (by rfl)) (by rfl)) (by decide))) (z1c _)))))
   ·refine (z0j ?_)
    refine (z0B ?_)
    exact z53
   ·exact z1n
  refine (z0j ?_)
  refine (z0B ?_)
  exact (z96 (@z0x _ _ _ _ _ (1) _ _ _ _ _ k__law_whole z2q (hr.mono (by decide)) rfl (z03 (z0w z0n z0J (pv 9) (z0e z04) (fun _ _=>rfl)) z0t (by rfl)) rfl (by decide) (by rfl) (by rfl)) (z93 (@z0x _ _ _ _ _ (1) _ _ _ _ _ k__law_whole z2q (hr.mono (by decide)) rfl (z03 (z0w z0n z0J (pv 9) (z0e z04) (fun _ _=>rfl)) z0t (by rfl)) rfl (by decide) (by rfl) (by rfl))))) fun ss y h=>z13 h
abbrev z2K :DS:=(dSeq (dAsg z6P (gNm [] 2)) (dSeq (dFor (iSq (eOpF pIx 0 (bOf (eD (.int 2))))) (gTp 2 (z0c (gNm [] 3) (z0c (gNm [] 4) z0Z))) (z4R 2 (eVar 3) (eVar 4))) (dSeq (dAsg (eLst aNil) (gNm [] 5)) (dSeq (dFor (iSq (eVar 1)) (gNm [] 6) (dFor (z12 (eOpF pIx 0 (bOf (eD (.int 0))))) (gNm [] 7) (z0F 5 (eC1 (z2y []) (bOf (z2t [3] (iSq (eVar 6)) (gNm [] 3) dYes (eOp pIx (eOpF pIxX 2 (bVar 3)) (bVar 7)))))))) (dRet (eC1 z29 (bVar 5)))))))
def z3l:DS:=z2K
def z0T:DF:=gOf [] 8 z3l
theorem z4I:z1R z0T:=z0D
theorem sc__law_grow:FnScope ["rule","floor","blocks","tile","block","rows","row","line"] ["rule","floor"] (z00 z36):=⟨rfl,rfl,rfl,by decide +kernel,rfl,by decide +kernel,by decide +kernel⟩
theorem z6t {K:W0} (F:Fun K "_law_grow" "_law_grow" z36 f fd) (hm:mg "_law_grow" = some (.ref f)) (hb:Binds K fd ["rule","floor"] []) (T:Txt ce K mg):KFn P w K mg base 1 "_law_grow" 2 z0T :=
 z2s (np:=[]) (fb:=z3l) F hm hb sc__law_grow (fun c cdv A outer s H E hr hnp=>by
  have hq:=z1T hr
  refine (z05 ?_ ?_)
  ·exact (@z0u _ _ _ _ _ _ ([]) (2) _ hnp sc__law_grow.nd rfl (by first | exact Or.inl rfl | exact Or.inr rfl) z7H rfl (Or.inl rfl))
  refine (z05 ?_ ?_)
  ·refine (z2u PassesOwn.never rfl ?_ ?_ ?_ (by intro _; rfl))
   ·exact (z5D (z0w z0n z0J (pv 0) (z0e z04) (fun _ _=>rfl)))
   ·exact (z46 rfl (z0O (@z0C _ _ _ ([]) (3) _ hnp sc__law_grow.nd rfl (by first | exact Or.inl rfl | exact Or.inr rfl) (Or.inl rfl)) (z0O (@z0C _ _ _ ([]) (4) _ hnp sc__law_grow.nd rfl (by first | exact Or.inl rfl | exact Or.inr rfl) (Or.inl rfl)) z2v (by rfl)) (by rfl)) (by rfl) (by rfl))
   ·refine (z0j ?_)
    exact (z8S hq (pv 2) (z06 (pv 3)) (z06 (pv 4)) (by rfl))
  refine (z05 ?_ ?_)
  ·exact (@z0u _ _ _ _ _ _ ([]) (5) _ hnp sc__law_grow.nd rfl (by first | exact Or.inl rfl | exact Or.inr rfl) (z1E z0X (by decide)) rfl (Or.inl rfl))
  refine (z05 ?_ ?_)
  ·refine (z2u PassesOwn.never rfl ?_ ?_ ?_ (by intro _; rfl))
   ·exact (z5D (z06 (pv 1)))
   ·exact (@z0C _ _ _ ([]) (6) _ hnp sc__law_grow.nd rfl (by first | exact Or.inl rfl | exact Or.inr rfl) (Or.inl rfl))
   ·refine (z0j ?_)
    refine (z2u PassesOwn.never rfl ?_ ?_ ?_ (by intro _; rfl))
    ·exact (z1M rfl T.z_range (z0w z0n z0J (pv 0) (z0e z04) (fun _ _=>rfl)) (by rfl))
    ·exact (@z0C _ _ _ ([]) (7) _ hnp sc__law_grow.nd rfl (by first | exact Or.inl rfl | exact Or.inr rfl) (Or.inl rfl))
    ·refine (z0j ?_)
     exact (z28 (pv 5) (z94 [] (z0e (@z5F _ _ ([3]) _ _ _ _ _ _ _ _ _ _ rfl (z2G rfl rfl) (z5D (z06 (pv 6))) (fun l s0 H0 ex=>(@z2d _ _ _ _ ([]) (3) _ hnp sc__law_grow.nd rfl (by first | exact Or.inl rfl | exact Or.inr rfl) (by first | exact Or.inl rfl | exact Or.inr rfl) (by decide))) (fun l s0 H0 ex=>z74) (fun l s0 H0 ex=>(z3r z0n z0J (z0w (ix_X hq) z7U (pv 2) (z0b (pv 3)) (fun _ _=>rfl)) (z0b (pv 7)) (fun _ _=>rfl))) (z6v hnp rfl) (by intro _; rfl))) (by decide +kernel) (by rfl) (by rfl) (by rfl) (by rfl)) (by rfl) (by rfl) (by rfl) (by rfl) (by rfl))
  refine (z0j ?_)
  refine (z0B ?_)
  exact (z5E rfl T.z_tuple (z0b (pv 5)) (by rfl))) fun ss y h=>z13 h
def z1u:DS:=(dSeq (dFor (z12 (eVar 2)) (gNm [] 3) (dAsg (z0d z0T [.val (eVar 0),.val (eVar 1)]) (gNm [] 1))) (dRet (eVar 1)))
def z0z:DF:=gOf [] 4 z1u
theorem z2D:z1R z0z:=z0D
theorem sc__law_grow_often:FnScope ["rule","floor","often","turn"] ["rule","floor","often"] (z00 z1q):=⟨rfl,rfl,rfl,by decide +kernel,rfl,by decide +kernel,by decide +kernel⟩
theorem z3B {K:W0} (F:Fun K "_law_grow_often" "_law_grow_often" z1q f fd) (hm:mg "_law_grow_often" = some (.ref f)) (hb:Binds K fd ["rule","floor","often"] []) (T:Txt ce K mg) (k__law_grow:KFn P w K mg base 1 "_law_grow" 2 z0T):KFn P w K mg base 2 "_law_grow_often" 3 z0z :=
 z2s (np:=[]) (fb:=z1u) F hm hb sc__law_grow_often (fun c cdv A outer s H E hr hnp=>by
  have hq:=z1T hr
  refine (z05 ?_ ?_)
  ·refine (z2u PassesOwn.never rfl ?_ ?_ ?_ (by intro _; rfl))
   ·exact (z1M rfl T.z_range (z06 (pv 2)) (by rfl))
   ·exact (@z0C _ _ _ ([]) (3) _ hnp sc__law_grow_often.nd rfl (Or.inl rfl) (Or.inl rfl))
   ·refine (z0j ?_)
    exact (@z0u _ _ _ _ _ _ ([]) (1) _ hnp sc__law_grow_often.nd rfl (Or.inl rfl) (@z0x _ _ _ _ _ (1) _ _ _ _ _ k__law_grow z4I (hr.mono (by decide)) rfl (z03 (z06 (pv 0)) (z03 (z06 (pv 1)) z0t (by rfl)) (by rfl)) rfl (by decide) (by rfl) (by rfl)) rfl (Or.inl rfl))
  refine (z0j ?_)
  refine (z0B ?_)
  exact (z06 (pv 1))) fun ss y h=>z13 h
def z1t:DS:=(dSeq (dAsg (eOp pIx (z4f [.int 6,.int 3,.int 2,.int 2]) (bOf (eOp pSub (eMax (eOpF pIx 0 (bOf (eD (.int 0)))) (eOpF pIx 0 (bOf (eD (.int 1))))) (bOf (eD (.int 1)))))) (gNm [] 4)) (dSeq (dAsg (z0d z0z [.val (eVar 0),.val (eTup (z0a (eVar 1) aNil)),.val (eVar 4)]) (gNm [] 5)) (dRet (eOp pEq (z1W z0m [.val (eVar 0),.val (eVar 1),.val (eVar 2),.val (eVar 3),.val (eVar 4)]) (bOf (eOp pIx (eOpF pIx 5 (bOf (eOp pIx (eLst (z0a (eD (.int 0)) (z0a (eC1 pNeg (bOf (eD (.int 1)))) aNil))) (bVar 2)))) (bOf (eOp pIx (eLst (z0a (eD (.int 0)) (z0a (eC1 pNeg (bOf (eD (.int 1)))) aNil))) (bVar 3)))))))))
def z0y:DF:=gOf [] 6 z1t
theorem z2C:z1R z0y:=z0D
theorem sc__law_laid_right:FnScope ["rule","tile","bottom","right","growings","floor"] ["rule","tile","bottom","right"] (z00 z1p):=⟨rfl,rfl,rfl,by decide +kernel,rfl,by decide +kernel,by decide +kernel⟩
theorem z3A {K:W0} {tpA:Addr} (F:Fun K "_law_laid_right" "_law_laid_right" z1p f fd) (hm:mg "_law_laid_right" = some (.ref f)) (hb:Binds K fd ["rule","tile","bottom","right"] []) (T:Txt ce K mg) (k_corner_tile:z44 P w K mg base [(tpA,lamPos,lamQ)] 5 "corner_tile" 5 z0m) (k__law_grow_often:KFn P w K mg base 2 "_law_grow_often" 3 z0z):KFnT P w K mg base [(tpA,lamPos,lamQ)] 6 "_law_laid_right" 4 z0y :=
 z7m (np:=[]) (fb:=z1t) F hm hb sc__law_laid_right (fun c cdv A outer s H E hr hnp ft hlk=>by
  have hq:=z1T hr
  refine (z05 ?_ ?_)
  ·exact (@z0u _ _ _ _ _ _ ([]) (4) _ hnp sc__law_laid_right.nd rfl (Or.inl rfl) (z3r z0n z0J (z3t (by rfl) (by decide)) (z0e (z1k z2n z2p (zbU rfl rfl T.z_max (z0w z0n z0J (pv 0) (z0e z04) (fun _ _=>rfl)) (z0w z0n z0J (pv 0) (z0e z04) (fun _ _=>rfl)) (by rfl) (by rfl) (by rfl)) (z0e z04))) (fun _ _=>rfl)) rfl (Or.inl rfl))
  refine (z05 ?_ ?_)
  ·exact (@z0u _ _ _ _ _ _ ([]) (5) _ hnp sc__law_laid_right.nd rfl (Or.inl rfl) (@z0x _ _ _ _ _ (2) _ _ _ _ _ k__law_grow_often z2D (hr.mono (by decide)) rfl (z03 (z06 (pv 0)) (z03 (z3q (z07 (z06 (pv 1)) z0X (by rfl)) (by decide)) (z03 (z06 (pv 4)) z0t (by rfl)) (by rfl)) (by rfl)) rfl (by decide) (by rfl) (by rfl)) rfl (Or.inl rfl))
  refine (z0j ?_)
  refine (z0B ?_)
  exact (z95 (z2o hq) z4c (z4t (k:=5) k_corner_tile ft z1r (hr.mono (by decide)) rfl rfl (z03 (z06 (pv 0)) (z03 (z06 (pv 1)) (z03 (z06 (pv 2)) (z03 (z06 (pv 3)) (z03 (z06 (pv 4)) z0t (by rfl)) (by rfl)) (by rfl)) (by rfl)) (by rfl)) rfl) (z0e (z3r z0n z0J (z0w z0n z0J (pv 5) (z0e (z3r z0n z0J (z1E (z07 z04 (z07 (z6b (z0e z04)) z0X (by rfl)) (by rfl)) (by decide)) (z0b (pv 2)) (fun _ _=>rfl))) (fun _ _=>rfl)) (z0e (z3r z0n z0J (z1E (z07 z04 (z07 (z6b (z0e z04)) z0X (by rfl)) (by rfl)) (by decide)) (z0b (pv 3)) (fun _ _=>rfl))) (fun _ _=>rfl))) (z1c _))) fun ss y h=>z13 h
def z26 (ce:Tx→Nat):DS:=(dSeq (dAsg (eLst (z0a (eIsC ce ys (fun z=>z == [78,111,70,108,111,111,114]) (bVar 0)) (z0a (eIsC ce ys (fun z=>z == [78,111,80,108,97,99,101]) (bVar 0)) (z0a (eIsC ce ys (fun z=>z == [78,111,78,117,109,98,101,114]) (bVar 0)) (z0a (eIsC ce ys (fun z=>z == [78,111,82,111,119]) (bVar 0)) aNil))))) (gNm [] 1)) (dSeq (dAsg (eOpF pAdd 1 (bOf (eLst (z0a (eIsC ce ys (fun z=>z == [85,110,108,105,107,101]) (bVar 0)) (z0a (eIsC ce ys (fun z=>z == [78,111,84,105,108,101]) (bVar 0)) (z0a (eIsC ce ys (fun z=>z == [78,111,82,117,108,101]) (bVar 0)) (z0a (eIsC ce ys (fun z=>z == [78,111,84,101,120,116]) (bVar 0)) aNil))))))) (gNm [] 1)) (dSeq (z0F 1 (eIsC ce ys (fun z=>z == [84,111,111,71,114,101,97,116]) (bVar 0))) (dSeq (dIf (dOr (dNot (dTr (eIsC ce ys (fun _=>true) (bVar 0)))) (dTr (eOp pNe (eC1 z5n (bVar 1)) (bOf (eD (.int 1)))))) (dRet (eD (.str [111,116,104,101,114]))) z19) (dSeq (dAsg (z4f [.str [102,108,111,111,114],.str [112,108,97,99,101],.str [110,117,109,98,101,114],.str [114,111,119],.str [117,110,108,105,107,101],.str [116,105,108,101],.str [114,117,108,101],.str [116,101,120,116],.str [103,114,101,97,116]]) (gNm [] 2)) (dRet (eOpF pIx 2 (bOf (eC1 z3U (bVar 1))))))))))
def z0S (ce:Tx→Nat):DF:=gOf [] 3 (z26 ce)
theorem z3G {ce:Tx→Nat}:z1R (z0S ce):=z0D
theorem sc__law_kind_of:FnScope ["e","marks","words"] ["e"] (z00 z22):=⟨rfl,rfl,rfl,by decide +kernel,rfl,by decide +kernel,by decide +kernel⟩
theorem z4a {K:W0} (F:Fun K "_law_kind_of" "_law_kind_of" z22 f fd) (hm:mg "_law_kind_of" = some (.ref f)) (hb:Binds K fd ["e"] []) (T:Txt ce K mg):KFnH P w K mg base 1 "_law_kind_of" 1 (z0S ce) :=
 zdn (np:=[]) (fb:=(z26 ce)) F hm hb sc__law_kind_of (fun c cdv A outer s H E hr hnp=>by
  have hq:=zfa hr
  refine (z05 ?_ ?_)
  ·exact (@z0u _ _ _ _ _ _ ([]) (1) _ hnp sc__law_kind_of.nd rfl (Or.inl rfl) (z1E (z07 (z3s T.i_a rfl T.z_isinstance rfl T.c_a (z0b (pv 0)) (by decide) (by rfl) (by rfl)) (z07 (z3s T.i_b rfl T.z_isinstance rfl T.c_b (z0b (pv 0)) (by decide) (by rfl) (by rfl)) (z07 (z3s T.i_c rfl T.z_isinstance rfl T.c_c (z0b (pv 0)) (by decide) (by rfl) (by rfl)) (z07 (z3s T.i_d rfl T.z_isinstance rfl T.c_d (z0b (pv 0)) (by decide) (by rfl) (by rfl)) z0X (by rfl)) (by rfl)) (by rfl)) (by rfl)) (by decide)) rfl (Or.inl rfl))
  refine (z05 ?_ ?_)
  ·exact (@z0u _ _ _ _ _ _ ([]) (1) _ hnp sc__law_kind_of.nd rfl (Or.inl rfl) (z1o z1g z1O (pv 1) (z0e (z1E (z07 (z3s T.i_e rfl T.z_isinstance rfl T.c_e (z0b (pv 0)) (by decide) (by rfl) (by rfl)) (z07 (z3s T.i_f rfl T.z_isinstance rfl T.c_f (z0b (pv 0)) (by decide) (by rfl) (by rfl)) (z07 (z3s T.i_g rfl T.z_isinstance rfl T.c_g (z0b (pv 0)) (by decide) (by rfl) (by rfl)) (z07 (z3s T.i_h rfl T.z_isinstance rfl T.c_h (z0b (pv 0)) (by decide) (by rfl) (by rfl)) z0X (by rfl)) (by rfl)) (by rfl)) (by rfl)) (by decide)))) rfl (Or.inl rfl))
  refine (z05 ?_ ?_)
  ·exact (z28 (pv 1) (z3s T.i_i rfl T.z_isinstance rfl T.c_i (z0b (pv 0)) (by decide) (by rfl) (by rfl)) (by rfl) (by rfl) (by rfl) (by rfl) (by rfl))
  refine (z05 ?_ ?_)
  ·refine (z2c ?_ ?_ ?_)
   ·exact (z75 (z8f (z3o (z2V (zdZ T.i_ValueError rfl T.z_isinstance rfl T.z_ValueError z4Z (z0b (pv 0)) (by decide) (by decide) (by rfl) (by rfl)) (by intro _; rfl))) (z5c (z2W (z7T hq) zbc (zaR (z0b (pv 1)) (by rfl) (by rfl) (by rfl) (by rfl)) (z0e z04) (z1c _)))))
   ·refine (z0j ?_)
    refine (z0B ?_)
    exact (z4r [111,116,104,101,114] (by decide +kernel))
   ·exact z1n
  refine (z05 ?_ ?_)
  ·exact (@z0u _ _ _ _ _ _ ([]) (2) _ hnp sc__law_kind_of.nd rfl (Or.inl rfl) (z3t (by rfl) (by decide)) rfl (Or.inl rfl))
  refine (z0j ?_)
  refine (z0B ?_)
  exact (z0w z0n z0J (pv 2) (z0e (zaQ (z0b (pv 1)) (by rfl) (by rfl) (by rfl) (by rfl))) (fun _ _=>rfl))) fun ss y h=>z13 h
abbrev z2J (ce:Tx→Nat)(G0:DX)(G1:DX)(G2:DF):DS:=(dSeq (dTry ce ys 3 (dIf (dTr (eOpF pEq 0 (bOf (eD (.int 0))))) (z43 (z14 G0 [.val (eVar 1),.val (eVar 2),.val (eD (.int 0)),.val (eD (.int 1)),.val (eD (.int 5))])) (z43 (z14 G1 [.val (eVar 1),.val (eVar 2),.val (eD (.int 1)),.val (eD (.int 0))]))) (dRet (eAnd (eOp pEq (z0d G2 [.val (eVar 3)]) (bOf (eD (.str [116,105,108,101])))) (eOp pEq (zai ce ys [116,105,108,101] (bVar 3)) (bVar 2))))) (dRet (eD (.bl false))))
def z3i (ce:Tx→Nat):DS:=z2J ce z0m z0p (z0S ce)
def z0L (ce:Tx→Nat):DF:=gOf [] 4 (z3i ce)
theorem z2A {ce:Tx→Nat}:z1R (z0L ce):=z0D
theorem sc__law_said:FnScope ["way","rule","thing","e"] ["way","rule","thing"] (z00 z33):=⟨rfl,rfl,rfl,by decide +kernel,rfl,by decide +kernel,by decide +kernel⟩
theorem z6q {K:W0} {tpA:Addr} (F:Fun K "_law_said" "_law_said" z33 f fd) (hm:mg "_law_said" = some (.ref f)) (hb:Binds K fd ["way","rule","thing"] []) (T:Txt ce K mg) (k_corner_tile:z44 P w K mg base [(tpA,lamPos,lamQ)] 5 "corner_tile" 5 z0m) (k_corner_round:z44 P w K mg base [(tpA,lamPos,lamQ)] 5 "corner_round" 4 z0p) (h__law_kind_of:KFnH P w K mg base 1 "_law_kind_of" 1 (z0S ce)):KFnT P w K mg base [(tpA,lamPos,lamQ)] 6 "_law_said" 3 (z0L ce) :=
 z7m (np:=[]) (fb:=(z3i ce)) F hm hb sc__law_said (fun c cdv A outer s H E hr hnp ft hlk=>by
  have hq:=z1T hr
  refine (z05 ?_ ?_)
  ·refine zcr ft (ce:=ce) (ys:=ys) (i:=3) rfl hnp rfl rfl sc__law_said.nd rfl rfl rfl T.c_j T.q_j (fun y hy=>T.m_j y hy) ?_ ?_
   ·intro c pn xe hnp ft hxo
    refine (z0j ?_)
    refine (z2c ?_ ?_ ?_)
    ·exact (z1Z (z2o hq) z4c (pv 0) (z0e z04) (z1c _))
    ·refine (z0j ?_)
     exact (z5B (z3u (k:=5) k_corner_tile ft z1r (hr.mono (by decide)) rfl hxo rfl (z03 (z06 (pv 1)) (z03 (z06 (pv 2)) (z03 z04 (z03 z04 (z03 z04 z0t (by rfl)) (by rfl)) (by rfl)) (by rfl)) (by rfl)) rfl) (by rfl))
    ·refine (z0j ?_)
     exact (z5B (z3u (k:=5) k_corner_round ft z1U (hr.mono (by decide)) rfl hxo rfl (z03 (z06 (pv 1)) (z03 (z06 (pv 2)) (z03 z04 (z03 z04 z0t (by rfl)) (by rfl)) (by rfl)) (by rfl)) rfl) (by rfl))
   ·intro ea
    refine (z0j ?_)
    refine (z0B ?_)
    exact (z96 (z95 (z2o hq) z4c (@zaU _ _ _ _ _ (1) _ _ _ _ _ h__law_kind_of z3G ((hr.h.mono (by decide)).mark _) rfl (z03 (z06 (pv 3)) z0t (by rfl)) rfl (by decide) (by rfl) (by rfl)) (z0e (z4r [116,105,108,101] (by decide +kernel))) (z1c _)) (z93 (z95 (z2o hq) z4c (zcA [116,105,108,101] T.at_tile (z0b (pv 3)) (by decide +kernel) (by rfl)) (z0b (pv 2)) (z1c _))))
  refine (z0j ?_)
  refine (z0B ?_)
  exact z53) fun ss y h=>z13 h
def zdB (ce:Tx→Nat):DS:=(dSeq (dFor (iSq (eOp pAdd (eLst (z0a (z0d z0U [.val (eVar 0),.val (eD (.int 0))]) aNil)) (bOf (eSlN 0 (z7e (eD (.int 1))) (z7e (eD (.int 5))))))) (gNm [] 1) (dSeq (dAsg (z0d z11 [.val (eVar 1)]) (gNm [] 2)) (dSeq (dAsg (z0d z0H [.io 2,.val (eD (.int 6))]) (gNm [] 3)) (dSeq (dAsg (z0d z10 [.val (eVar 3)]) (gNm [] 4)) (dSeq (dAsg (z2t [6,7] (iSq (eOpF pIx 3 (bOf (eD (.int 2))))) (gTp 2 (z0c (gNm [] 6) (z0c (gNm [] 7) z0Z))) (dTr (eOp pEq (eOp pIx (eOpF pIx 7 (bOf (eD (.int 0)))) (bOf (eD (.int 0)))) (bVar 6))) (eVar 6)) (gNm [] 5)) (dSeq (dIf (dOr (dNot (dTr (eIsi "list" (bVar 4)))) (dTr (eOpF pNe 4 (bVar 5)))) (dRet (eD (.bl false))) z19) (dSeq (dFor (iSq (eOpF pIx 3 (bOf (eD (.int 2))))) (gTp 2 (z0c (gNm [] 6) (z0c (gNm [] 7) z0Z))) (dFor (z12 (eD (.int 4))) (gNm [] 8) (dSeq (dPar [] 9 10 (z0a (eOpF pDiv 8 (bOf (eD (.int 2)))) (z0a (eOpF pMod 8 (bOf (eD (.int 2)))) aNil))) (dSeq (dAsg (eOp pIx (eLst (z0a (eOp pSub (eOp pPow (eD (.int 10)) (bOf (eD (.int 40)))) (bOf (z0d z08 [.io 2,.val (eD (.int 100))]))) (z0a (z0d z08 [.io 2,.val (eOp pPow (eD (.int 10)) (bOf (eD (.int 12))))]) aNil))) (bOf (z0d z08 [.io 2,.val (eD (.int 2))]))) (gNm [] 11)) (dSeq (dFor (iSq (eLst (z0a (eD (.int 0)) (z0a (eD (.int 1)) (z0a (z0d z08 [.io 2,.val (eD (.int 11))]) (z0a (eVar 11) aNil)))))) (gNm [] 12) (dIf (dNot (dTr (z0d z0o [.val (eVar 3),.val (eVar 6),.val (eVar 9),.val (eVar 10),.val (eVar 12)]))) (dRet (eD (.bl false))) z19)) (dIf (dNot (dTr (z0d z0y [.val (eVar 3),.val (eVar 6),.val (eVar 9),.val (eVar 10)]))) (dRet (eD (.bl false))) z19)))))) (dFor (iSq (eLst (z0a (eD .non) (z0a (eD (.str [])) (z0a (eD (.str [65])) (z0a (eD (.str [97,98])) (z0a (z4f [.str [97]]) (z0a (eD (.tup [.str [97]])) (z0a (eD (.int 5)) aNil))))))))) (gNm [] 13) (dIf (dOr (dNot (dTr (z0d (z0L ce) [.val (eD (.int 0)),.val (eVar 3),.val (eVar 13)]))) (dNot (dTr (z0d (z0L ce) [.val (eD (.int 1)),.val (eVar 3),.val (eVar 13)])))) (dRet (eD (.bl false))) z19))))))))) (dRet (eD (.bl true))))
def z8I (ce:Tx→Nat):DF:=gOf [] 14 (zdB ce)
theorem zf1 {ce:Tx→Nat}:z1R (z8I ce):=z0D
theorem sc_law:FnScope ["script","cell","pen","rule","found","due","tile","block","corner","bottom","right","great","growings","thing"] ["script"] (z00 z5I):=⟨rfl,rfl,rfl,by decide +kernel,rfl,by decide +kernel,by decide +kernel⟩
theorem zeL {K:W0} {tpA:Addr} (F:Fun K "law" "law" z5I f fd) (T:Txt ce K mg) (k__law_cell_at:KFn P w K mg base 1 "_law_cell_at" 2 z0U) (k__law_pen_of:KFn P w K mg base 1 "_law_pen_of" 1 z11) (k__law_draw:KFn P w K mg base 2 "_law_draw" 2 z08) (k__law_rule_by:KFn P w K mg base 4 "_law_rule_by" 2 z0H) (k_still_tiles:KFn P w K mg base 1 "still_tiles" 1 z10) (k__law_corner_right:KFnT P w K mg base [(tpA,lamPos,lamQ)] 6 "_law_corner_right" 5 z0o) (k__law_laid_right:KFnT P w K mg base [(tpA,lamPos,lamQ)] 6 "_law_laid_right" 4 z0y) (k__law_said:KFnT P w K mg base [(tpA,lamPos,lamQ)] 6 "_law_said" 3 (z0L ce)) {Gt:DF} (hGt:∀ ss y,Gt ss=some y→z8I ce ss=some y):FnOk P w K mg base CX0 7 f fd ["script"] (spDT [(tpA,lamPos,lamQ)] 1 Gt) :=
 zc9 (np:=[]) (fb:=(zdB ce)) F sc_law (fun c cdv A outer s H E hr hnp ft hlk=>by
  have hq:=z1T hr
  refine (@z05 _ _ _ _ _ _ ?_ ?_)
  ·refine (@z2u _ _ _ _ _ _ _ _ _ PassesOwn.never rfl ?_ ?_ ?_ (by intro _; rfl))
   ·exact (@z5D _ _ _ _ _ (@z1k _ _ _ _ _ _ _ _ _ _ z1g z1O (@z1E _ _ _ _ _ (@z07 _ _ _ _ _ _ (@z0x _ _ _ _ _ (1) _ _ _ _ _ k__law_cell_at z3H (hr.mono (by decide)) rfl (@z03 _ _ _ _ _ _ (@z06 _ _ _ _ (pv 0)) (@z03 _ _ _ _ _ _ (@z04 _ _ _ _ _) (@z0t _ _) (by rfl)) (by rfl)) rfl (by decide) (by rfl) (by rfl)) (@z0X _ _) (by rfl)) (by decide)) (@z0e _ _ _ _ (@zdW _ _ _ _ _ _ _ _ _ _ (pv 0) (@z8W _ _ _ _ (@z04 _ _ _ _ _)) (@z8W _ _ _ _ (@z04 _ _ _ _ _))))))
   ·exact (@z0C _ _ _ ([]) (1) _ hnp sc_law.nd rfl (by first | exact Or.inl rfl | exact Or.inr rfl) (Or.inl rfl))
   ·refine (@z05 _ _ _ _ _ _ ?_ ?_)
    ·exact (@z0u _ _ _ _ _ _ ([]) (2) _ hnp sc_law.nd rfl (by first | exact Or.inl rfl | exact Or.inr rfl) (@z0x _ _ _ _ _ (1) _ _ _ _ _ k__law_pen_of z3Z (hr.mono (by decide)) rfl (@z03 _ _ _ _ _ _ (@z06 _ _ _ _ (pv 1)) (@z0t _ _) (by rfl)) rfl (by decide) (by rfl) (by rfl)) rfl (Or.inl rfl))
    refine (@z05 _ _ _ _ _ _ ?_ ?_)
    ·exact (@z0u _ _ _ _ _ _ ([]) (3) _ hnp sc_law.nd rfl (by first | exact Or.inl rfl | exact Or.inr rfl) (@z0x _ _ _ _ _ (4) _ _ _ _ _ k__law_rule_by z3F (hr.mono (by decide)) rfl (@z1w _ _ _ _ _ _ (pv 2) (@z03 _ _ _ _ _ _ (@z04 _ _ _ _ _) (@z0t _ _) (by rfl)) (by rfl)) rfl (by decide) (by rfl) (by rfl)) rfl (Or.inl rfl))
    refine (@z05 _ _ _ _ _ _ ?_ ?_)
    ·exact (@z0u _ _ _ _ _ _ ([]) (4) _ hnp sc_law.nd rfl (by first | exact Or.inl rfl | exact Or.inr rfl) (@z0x _ _ _ _ _ (1) _ _ _ _ _ k_still_tiles z3Y (hr.mono (by decide)) rfl (@z03 _ _ _ _ _ _ (@z06 _ _ _ _ (pv 3)) (@z0t _ _) (by rfl)) rfl (by decide) (by rfl) (by rfl)) rfl (Or.inl rfl))
    refine (@z05 _ _ _ _ _ _ ?_ ?_)
    ·exact (@z8g _ _ ([6,7]) _ _ _ _ _ _ _ _ _ _ ([]) (5) _ _ _ hnp rfl (@z2G _ _ _ rfl rfl) sc_law.nd rfl rfl (@z5D _ _ _ _ _ (@z0w _ _ _ _ _ _ _ _ _ z0n z0J (pv 3) (@z0e _ _ _ _ (@z04 _ _ _ _ _)) (fun _ _=>rfl))) (fun l s0 H0 ex=>(@z90 _ _ _ _ _ _ _ _ rfl (@z3p _ _ _ _ _ _ _ (@z2d _ _ _ _ ([]) (6) _ hnp sc_law.nd rfl (by first | exact Or.inl rfl | exact Or.inr rfl) (by first | exact Or.inl rfl | exact Or.inr rfl) (by decide)) (@z3p _ _ _ _ _ _ _ (@z2d _ _ _ _ ([]) (7) _ hnp sc_law.nd rfl (by first | exact Or.inl rfl | exact Or.inr rfl) (by first | exact Or.inl rfl | exact Or.inr rfl) (by decide)) (@z7G _ _ _) (by rfl)) (by rfl)) (by rfl) (by rfl))) (fun l s0 H0 ex=>(@z8P _ _ _ _ (@z2W _ _ _ _ _ _ _ _ _ _ (z2o hq) z4c (@z3r _ _ _ _ _ _ _ _ _ z0n z0J (@z0w _ _ _ _ _ _ _ _ _ z0n z0J (pv 7) (@z0e _ _ _ _ (@z04 _ _ _ _ _)) (fun _ _=>rfl)) (@z0e _ _ _ _ (@z04 _ _ _ _ _)) (fun _ _=>rfl)) (@z0b _ _ _ _ (pv 6)) (z1c _)))) (fun l s0 H0 ex=>(@z06 _ _ _ _ (pv 6))) (z6v hnp rfl) (by rfl) (by intro _; rfl))
    refine (@z05 _ _ _ _ _ _ ?_ ?_)
    ·refine (@z2c _ _ _ _ _ _ _ _ _ ?_ ?_ ?_)
     ·exact (@z75 _ _ _ _ (@z8f _ _ _ _ _ _ _ _ (@z3o _ _ _ _ _ (@z2V _ _ _ _ (@z5k _ _ _ _ _ _ _ _ _ T.ty_list rfl T.z_isinstance rfl T.z_list boot_list (@z0b _ _ _ _ (pv 4)) (by decide) (by decide) (by rfl) (by rfl)) (by intro _; rfl))) (@z5c _ _ _ _ _ (@z1Z _ _ _ _ _ _ _ _ _ _ (z7T hq) zbc (pv 4) (@z0b _ _ _ _ (pv 5)) (z1c _)))))
     ·refine (@z0j _ _ _ _ ?_)
      refine (@z0B _ _ _ _ _ ?_)
      exact (@z53 _ _ _ _ _)
     ·exact z1n
    refine (@z05 _ _ _ _ _ _ ?_ ?_)
    ·refine (@z2u _ _ _ _ _ _ _ _ _ PassesOwn.never rfl ?_ ?_ ?_ (by intro _; rfl))
     ·exact (@z5D _ _ _ _ _ (@z0w _ _ _ _ _ _ _ _ _ z0n z0J (pv 3) (@z0e _ _ _ _ (@z04 _ _ _ _ _)) (fun _ _=>rfl)))
     ·exact (@z46 _ _ _ _ _ _ _ rfl (@z0O _ _ _ _ _ _ (@z0C _ _ _ ([]) (6) _ hnp sc_law.nd rfl (by first | exact Or.inl rfl | exact Or.inr rfl) (Or.inl rfl)) (@z0O _ _ _ _ _ _ (@z0C _ _ _ ([]) (7) _ hnp sc_law.nd rfl (by first | exact Or.inl rfl | exact Or.inr rfl) (Or.inl rfl)) (@z2v _ _) (by rfl)) (by rfl)) (by rfl) (by rfl))
     ·refine (@z0j _ _ _ _ ?_)
      refine (@z2u _ _ _ _ _ _ _ _ _ PassesOwn.never rfl ?_ ?_ ?_ (by intro _; rfl))
      ·exact (@z1M _ _ _ _ _ _ _ rfl T.z_range (@z04 _ _ _ _ _) (by rfl))
      ·exact (@z0C _ _ _ ([]) (8) _ hnp sc_law.nd rfl (by first | exact Or.inl rfl | exact Or.inr rfl) (Or.inl rfl))
      ·refine (@z05 _ _ _ _ _ _ ?_ ?_)
       ·exact (zdU (np:=[]) (i:=9) (j:=10) hnp rfl sc_law.nd rfl rfl (by decide) rfl rfl (@z07 _ _ _ _ _ _ (@z1o _ _ _ _ _ _ _ _ _ _ z9H zc3 (pv 8) (@z0e _ _ _ _ (@z04 _ _ _ _ _))) (@z07 _ _ _ _ _ _ (@z1o _ _ _ _ _ _ _ _ _ _ z2Z z30 (pv 8) (@z0e _ _ _ _ (@z04 _ _ _ _ _))) (@z0X _ _) (by rfl)) (by rfl)))
       refine (@z05 _ _ _ _ _ _ ?_ ?_)
       ·exact (@z0u _ _ _ _ _ _ ([]) (11) _ hnp sc_law.nd rfl (by first | exact Or.inl rfl | exact Or.inr rfl) (@z3r _ _ _ _ _ _ _ _ _ z0n z0J (@z1E _ _ _ _ _ (@z07 _ _ _ _ _ _ (@z1k _ _ _ _ _ _ _ _ _ _ z2n z2p (@z1k _ _ _ _ _ _ _ _ _ _ z9D z9M (@z04 _ _ _ _ _) (@z0e _ _ _ _ (@z04 _ _ _ _ _))) (@z0e _ _ _ _ (@z0x _ _ _ _ _ (2) _ _ _ _ _ k__law_draw z0i (hr.mono (by decide)) rfl (@z1w _ _ _ _ _ _ (pv 2) (@z03 _ _ _ _ _ _ (@z04 _ _ _ _ _) (@z0t _ _) (by rfl)) (by rfl)) rfl (by decide) (by rfl) (by rfl)))) (@z07 _ _ _ _ _ _ (@z0x _ _ _ _ _ (2) _ _ _ _ _ k__law_draw z0i (hr.mono (by decide)) rfl (@z1w _ _ _ _ _ _ (pv 2) (@z03 _ _ _ _ _ _ (@z1k _ _ _ _ _ _ _ _ _ _ z9D z9M (@z04 _ _ _ _ _) (@z0e _ _ _ _ (@z04 _ _ _ _ _))) (@z0t _ _) (by rfl)) (by rfl)) rfl (by decide) (by rfl) (by rfl)) (@z0X _ _) (by rfl)) (by rfl)) (by decide)) (@z0e _ _ _ _ (@z0x _ _ _ _ _ (2) _ _ _ _ _ k__law_draw z0i (hr.mono (by decide)) rfl (@z1w _ _ _ _ _ _ (pv 2) (@z03 _ _ _ _ _ _ (@z04 _ _ _ _ _) (@z0t _ _) (by rfl)) (by rfl)) rfl (by decide) (by rfl) (by rfl))) (fun _ _=>rfl)) rfl (Or.inl rfl))
       refine (@z05 _ _ _ _ _ _ ?_ ?_)
       ·refine (@z2u _ _ _ _ _ _ _ _ _ PassesOwn.never rfl ?_ ?_ ?_ (by intro _; rfl))
        ·exact (@z5D _ _ _ _ _ (@z1E _ _ _ _ _ (@z07 _ _ _ _ _ _ (@z04 _ _ _ _ _) (@z07 _ _ _ _ _ _ (@z04 _ _ _ _ _) (@z07 _ _ _ _ _ _ (@z0x _ _ _ _ _ (2) _ _ _ _ _ k__law_draw z0i (hr.mono (by decide)) rfl (@z1w _ _ _ _ _ _ (pv 2) (@z03 _ _ _ _ _ _ (@z04 _ _ _ _ _) (@z0t _ _) (by rfl)) (by rfl)) rfl (by decide) (by rfl) (by rfl)) (@z07 _ _ _ _ _ _ (@z06 _ _ _ _ (pv 11)) (@z0X _ _) (by rfl)) (by rfl)) (by rfl)) (by rfl)) (by decide)))
        ·exact (@z0C _ _ _ ([]) (12) _ hnp sc_law.nd rfl (by first | exact Or.inl rfl | exact Or.inr rfl) (Or.inl rfl))
        ·refine (@z0j _ _ _ _ ?_)
         refine (@z2c _ _ _ _ _ _ _ _ _ ?_ ?_ ?_)
         ·exact (@z3o _ _ _ _ _ (@z2V _ _ _ _ (z3v (k:=6) k__law_corner_right ft z2j (hr.mono (by decide)) rfl (@z03 _ _ _ _ _ _ (@z06 _ _ _ _ (pv 3)) (@z03 _ _ _ _ _ _ (@z06 _ _ _ _ (pv 6)) (@z03 _ _ _ _ _ _ (@z06 _ _ _ _ (pv 9)) (@z03 _ _ _ _ _ _ (@z06 _ _ _ _ (pv 10)) (@z03 _ _ _ _ _ _ (@z06 _ _ _ _ (pv 12)) (@z0t _ _) (by rfl)) (by rfl)) (by rfl)) (by rfl)) (by rfl)) rfl) (by intro _; rfl)))
         ·refine (@z0j _ _ _ _ ?_)
          refine (@z0B _ _ _ _ _ ?_)
          exact (@z53 _ _ _ _ _)
         ·exact z1n
       refine (@z0j _ _ _ _ ?_)
       refine (@z2c _ _ _ _ _ _ _ _ _ ?_ ?_ ?_)
       ·exact (@z3o _ _ _ _ _ (@z2V _ _ _ _ (z3v (k:=6) k__law_laid_right ft z2C (hr.mono (by decide)) rfl (@z03 _ _ _ _ _ _ (@z06 _ _ _ _ (pv 3)) (@z03 _ _ _ _ _ _ (@z06 _ _ _ _ (pv 6)) (@z03 _ _ _ _ _ _ (@z06 _ _ _ _ (pv 9)) (@z03 _ _ _ _ _ _ (@z06 _ _ _ _ (pv 10)) (@z0t _ _) (by rfl)) (by rfl)) (by rfl)) (by rfl)) rfl) (by intro _; rfl)))
       ·refine (@z0j _ _ _ _ ?_)
        refine (@z0B _ _ _ _ _ ?_)
        exact (@z53 _ _ _ _ _)
       ·exact z1n
    refine (@z0j _ _ _ _ ?_)
    refine (@z2u _ _ _ _ _ _ _ _ _ PassesOwn.never rfl ?_ ?_ ?_ (by intro _; rfl))
    ·exact (@z5D _ _ _ _ _ (@z1E _ _ _ _ _ (@z07 _ _ _ _ _ _ (@zbT _ _ _ _) (@z07 _ _ _ _ _ _ (@z4r _ _ _ _ _ [] (by decide +kernel)) (@z07 _ _ _ _ _ _ (@z4r _ _ _ _ _ [65] (by decide +kernel)) (@z07 _ _ _ _ _ _ (@z4r _ _ _ _ _ [97,98] (by decide +kernel)) (@z07 _ _ _ _ _ _ (@z3t _ _ _ _ _ (by rfl) (by decide)) (@z07 _ _ _ _ _ _ (@zaS _ _ _ _ (by rfl)) (@z07 _ _ _ _ _ _ (@z04 _ _ _ _ _) (@z0X _ _) (by rfl)) (by rfl)) (by rfl)) (by rfl)) (by rfl)) (by rfl)) (by rfl)) (by decide)))
    ·exact (@z0C _ _ _ ([]) (13) _ hnp sc_law.nd rfl (by first | exact Or.inl rfl | exact Or.inr rfl) (Or.inl rfl))
    ·refine (@z0j _ _ _ _ ?_)
     refine (@z2c _ _ _ _ _ _ _ _ _ ?_ ?_ ?_)
     ·exact (@z75 _ _ _ _ (@z8f _ _ _ _ _ _ _ _ (@z3o _ _ _ _ _ (@z2V _ _ _ _ (z3v (k:=6) k__law_said ft z2A (hr.mono (by decide)) rfl (@z03 _ _ _ _ _ _ (@z04 _ _ _ _ _) (@z03 _ _ _ _ _ _ (@z06 _ _ _ _ (pv 3)) (@z03 _ _ _ _ _ _ (@z06 _ _ _ _ (pv 13)) (@z0t _ _) (by rfl)) (by rfl)) (by rfl)) rfl) (by intro _; rfl))) (@z5c _ _ _ _ _ (@z3o _ _ _ _ _ (@z2V _ _ _ _ (z3v (k:=6) k__law_said ft z2A (hr.mono (by decide)) rfl (@z03 _ _ _ _ _ _ (@z04 _ _ _ _ _) (@z03 _ _ _ _ _ _ (@z06 _ _ _ _ (pv 3)) (@z03 _ _ _ _ _ _ (@z06 _ _ _ _ (pv 13)) (@z0t _ _) (by rfl)) (by rfl)) (by rfl)) rfl) (by intro _; rfl))))))
     ·refine (@z0j _ _ _ _ ?_)
      refine (@z0B _ _ _ _ _ ?_)
      exact (@z53 _ _ _ _ _)
     ·exact z1n
  refine (@z0j _ _ _ _ ?_)
  refine (@z0B _ _ _ _ _ ?_)
  exact (@z53 _ _ _ _ _)) fun ss y h=>z13 (hGt ss y h)
theorem all_mk {l:PySem.W.OpenLaw} {w:Wg} {K:W0} {h:Heap} {mg:Str→Option Value} {fa:Addr} {Gt:DF} (hGt:∀ ce ss y,Gt ss=some y→z8I ce ss=some y) (X:K.In h) (G:h.Ns Wj mg) (hfa:mg "law" = some (.ref fa))
  (d0:FnH K "_law_cell_at" z23)
  (d1:FnH K "_law_pen_of" z2g)
  (d2:FnH K "_law_next" z35)
  (d3:FnH K "_law_draw" z37)
  (d4:FnH K "_law_sizes_by" z1N)
  (d5:FnH K "_law_pick" z34)
  (d6:FnH K "_law_rule_by" z21)
  (d7:FnH K "still_tiles" z2e)
  (d8:FnH K "_law_walk" z32)
  (d9:FnH K "refuse_no_tile" z1B)
  (d10:FnH K "walked" z5H)
  (a11:nsIn K Wj "corner_walk" = some (some (.ref f11)))
  (l11:K.lookup f11=some ⟨oc11,od11,.func (WF "corner_walk" "corner_walk" (z18 z0A) (z0q z0A) (z00 z0A) .none kV11 dc11 pm11 an11 (.ref tcA) ct11),sl11⟩)
  (c11:codeIn K (.ref tcA) "corner_walk" = true)
  (k11:keepIn K (.ref f11)=true)
  (dT:QF K tcA tpA=true)
  (gT:(Wj == tpA)=false)
  (d12:FnH K "corner_tile" z2f)
  (d13:FnH K "corner_round" z20)
  (d14:FnH K "_law_whole" z2w)
  (d15:FnH K "_law_corner_right" z1f)
  (d16:FnH K "_law_grow" z36)
  (d17:FnH K "_law_grow_often" z1q)
  (d18:FnH K "_law_laid_right" z1p)
  (d19:FnH K "_law_kind_of" z22)
  (d20:FnH K "_law_said" z33)
  (a21:nsIn K Wj "law" = some (some (.ref f21)))
  (l21:K.lookup f21=some ⟨oc21,od21,.func (WF "law" "law" (z18 z5I) (z0q z5I) (z00 z5I) .none kV21 dc21 pm21 an21 cd21 ct21),sl21⟩)
  (c21:codeIn K cd21 "law" = true)
  (k21:keepIn K (.ref f21)=true)
  (z_ValueError:nsIn K Wj "ValueError" = some none)
  (z_bool:nsIn K Wj "bool" = some none)
  (z_dict:nsIn K Wj "dict" = some none)
  (z_int:nsIn K Wj "int" = some none)
  (z_isinstance:nsIn K Wj "isinstance" = some none)
  (z_len:nsIn K Wj "len" = some none)
  (z_list:nsIn K Wj "list" = some none)
  (z_max:nsIn K Wj "max" = some none)
  (z_min:nsIn K Wj "min" = some none)
  (z_range:nsIn K Wj "range" = some none)
  (z_sorted:nsIn K Wj "sorted" = some none)
  (z_str:nsIn K Wj "str" = some none)
  (z_tuple:nsIn K Wj "tuple" = some none)
  (ac_j:nsIn K Wj "FloorError" = some (some (.ref C_j)))
  (ac_a:nsIn K Wj "NoFloor" = some (some (.ref C_a)))
  (ac_b:nsIn K Wj "NoPlace" = some (some (.ref C_b)))
  (ac_c:nsIn K Wj "NoNumber" = some (some (.ref C_c)))
  (ac_d:nsIn K Wj "NoRow" = some (some (.ref C_d)))
  (ac_e:nsIn K Wj "Unlike" = some (some (.ref C_e)))
  (ac_f:nsIn K Wj "NoTile" = some (some (.ref C_f)))
  (ac_g:nsIn K Wj "NoRule" = some (some (.ref C_g)))
  (ac_h:nsIn K Wj "NoText" = some (some (.ref C_h)))
  (ac_i:nsIn K Wj "TooGreat" = some (some (.ref C_i)))
  (ia_f:QZ K (.ref C_f) "__init__" = some (some (.ref fi_f)))
  (li_f:K.lookup fi_f=some ⟨oci_f,odi_f,.func (WF "__init__" "NoTile.__init__" (z18 si_f) (z0q si_f) (z00 si_f) .none kVi_f dci_f pmi_f ani_f cdi_f cti_f),sli_f⟩)
  (cci_f:codeIn K cdi_f "NoTile.__init__" = true)
  (kfi_f:keepIn K (.ref fi_f)=true)
  (qi_f:excI K C_f fi_f=true)
  (fni_f:PySem.W.isFn K (.ref fi_f)=true)
  (kci_f:keepIn K (.ref C_f)=true)
  (sai_f:QZ K (.ref C_f) "__setattr__" = some (some (.builtin "object.__setattr__")))
  (ovi_f:z7S K C_f=true)
  (hdi_f:Jl K C_f=true)
  (tki_f_tile:PySem.W.takerIn K C_f "tile" = some none)
  (qc_j:PySem.W.excIn K C_j vErr "ValueError.__new__" = true)
  (spc:PySem.W.specialIn K (.builtin "object.__class__") "__get__" = some (some (.builtin "getset_descriptor.__get__")))
  (tkc:PySem.W.takesIn K (.builtin "object.__class__")=some true)
  (ga_f:QZ K (.ref C_f) "__getattribute__" = some (some (.builtin "BaseException.__getattribute__")))
  (gt_f:QZ K (.ref C_f) "__getattr__" = some none)
  (cl_f:QZ K (.ref C_f) "__class__" = some (some (.builtin "object.__class__")))
  (mo_f:mroIn K C_f (.type "object")=some true)
  (mb_f:mroIn K C_f (.type "BaseException")=some true)
  (ci_f:PySem.W.isClsIn K C_f=true)
  (kv_f:kitOne K (.ref C_f) (.type "ValueError")=some true)
  (no_f_tile:QZ K (.ref C_f) "tile" = some none)
  (hx_f:Jl K C_f=true)
  (ki_f_a:kitOne K (.ref C_f) (.ref C_a)=some false)
  (ki_f_b:kitOne K (.ref C_f) (.ref C_b)=some false)
  (ki_f_c:kitOne K (.ref C_f) (.ref C_c)=some false)
  (ki_f_d:kitOne K (.ref C_f) (.ref C_d)=some false)
  (ki_f_e:kitOne K (.ref C_f) (.ref C_e)=some false)
  (ki_f_f:kitOne K (.ref C_f) (.ref C_f)=some true)
  (ki_f_g:kitOne K (.ref C_f) (.ref C_g)=some false)
  (ki_f_h:kitOne K (.ref C_f) (.ref C_h)=some false)
  (ki_f_i:kitOne K (.ref C_f) (.ref C_i)=some false)
  (mr_f_j:mroIn K C_f (.ref C_j)=some true)
  : (∃ c,QF K c tpA=true)∧∃ fd:Wx,(∀ (s:W1) (v:Value),BindsTo s fd ⟨[v],[]⟩ [("script",v)])∧∀ base:Heap,K.In base→base.Ns Wj mg→base.BuiltinsAt mg tpA→FnOk l.prog w K mg base CX0 7 fa fd ["script"] (spDT [(tpA,lamPos,lamQ)] 1 Gt):=by
 have e:=hfa.symm.trans (mg_of X G a21)
 cases e
 have E_f:ExcK K C_f:=⟨ga_f,gt_f,cl_f,spc,tkc,mo_f,mb_f⟩
 have T:Txt (ceOf [([70,108,111,111,114,69,114,114,111,114],C_j),([78,111,70,108,111,111,114],C_a),([78,111,80,108,97,99,101],C_b),([78,111,78,117,109,98,101,114],C_c),([78,111,82,111,119],C_d),([85,110,108,105,107,101],C_e),([78,111,84,105,108,101],C_f),([78,111,82,117,108,101],C_g),([78,111,84,101,120,116],C_h),([84,111,111,71,114,101,97,116],C_i)]) K mg:=⟨WE X G z_ValueError,WE X G z_bool,WE X G z_dict,WE X G z_int,WE X G z_isinstance,WE X G z_len,WE X G z_list,WE X G z_max,WE X G z_min,WE X G z_range,WE X G z_sorted,WE X G z_str,WE X G z_tuple,zaL,zck,zaK,zcj,z8M,mg_of X G ac_j,mg_of X G ac_a,mg_of X G ac_b,mg_of X G ac_c,mg_of X G ac_d,mg_of X G ac_e,mg_of X G ac_f,mg_of X G ac_g,mg_of X G ac_h,mg_of X G ac_i,qc_j,⟨(fm1 E_f),(fm1 ci_f),(fm1 ki_f_a)⟩,⟨(fm1 E_f),(fm1 ci_f),(fm1 ki_f_b)⟩,⟨(fm1 E_f),(fm1 ci_f),(fm1 ki_f_c)⟩,⟨(fm1 E_f),(fm1 ci_f),(fm1 ki_f_d)⟩,⟨(fm1 E_f),(fm1 ci_f),(fm1 ki_f_e)⟩,⟨(fm1 E_f),(fm1 ci_f),(fm1 ki_f_f)⟩,⟨(fm1 E_f),(fm1 ci_f),(fm1 ki_f_g)⟩,⟨(fm1 E_f),(fm1 ci_f),(fm1 ki_f_h)⟩,⟨(fm1 E_f),(fm1 ci_f),(fm1 ki_f_i)⟩,⟨(fm1 E_f),(fm1 no_f_tile),(fm1 hx_f)⟩,⟨(fm1 E_f),(fm1 ci_f),(fm1 kv_f)⟩,(fm1 ⟨(by rw [show toS [78,111,84,105,108,101]=("NoTile" : Str) from by decide +kernel]; exact mg_of X G ac_f),mr_f_j⟩)⟩
 obtain ⟨f0,fd0,F0,m0⟩:=fnH X G d0
 obtain ⟨f1,fd1,F1,m1⟩:=fnH X G d1
 obtain ⟨f2,fd2,F2,m2⟩:=fnH X G d2
 obtain ⟨f3,fd3,F3,m3⟩:=fnH X G d3
 obtain ⟨f4,fd4,F4,m4⟩:=fnH X G d4
 obtain ⟨f5,fd5,F5,m5⟩:=fnH X G d5
 obtain ⟨f6,fd6,F6,m6⟩:=fnH X G d6
 obtain ⟨f7,fd7,F7,m7⟩:=fnH X G d7
 obtain ⟨f8,fd8,F8,m8⟩:=fnH X G d8
 obtain ⟨f9,fd9,F9,m9⟩:=fnH X G d9
 obtain ⟨f10,fd10,F10,m10⟩:=fnH X G d10
 have F11:=z84 (st:=z0A) l11 c11 k11
 have m11:=mg_of X G a11
 obtain ⟨f12,fd12,F12,m12⟩:=fnH X G d12
 obtain ⟨f13,fd13,F13,m13⟩:=fnH X G d13
 obtain ⟨f14,fd14,F14,m14⟩:=fnH X G d14
 obtain ⟨f15,fd15,F15,m15⟩:=fnH X G d15
 obtain ⟨f16,fd16,F16,m16⟩:=fnH X G d16
 obtain ⟨f17,fd17,F17,m17⟩:=fnH X G d17
 obtain ⟨f18,fd18,F18,m18⟩:=fnH X G d18
 obtain ⟨f19,fd19,F19,m19⟩:=fnH X G d19
 obtain ⟨f20,fd20,F20,m20⟩:=fnH X G d20
 have F21:=z84 (st:=z5I) l21 c21 k21
 have Fi_f:=z84 (st:=si_f) li_f cci_f kfi_f
 have bi_f:Binds K _ ["self","tile"] []:=bd2 Fi_f fun _ _ _ _ _ _ _ _=>rfl
 refine ⟨⟨_,dT⟩,WF "law" "law" (z18 z5I) (z0q z5I) (z00 z5I) .none kV21 dc21 pm21 an21 cd21 ct21,fun s v=>.of_eq rfl,fun base _ _ tT=>?_⟩
 have n_f:IniK l.prog w K mg base C_f ["tile"]:=⟨fi_f,_,["self","tile"],qi_f,fni_f,kci_f,(List.forall_mem_cons.mpr ⟨⟨sai_f,ovi_f,hdi_f,tki_f_tile⟩,(fun _ h=>nomatch h)⟩),bi_f,zbv Fi_f sci_f rfl (fun vs h=>by unfold L2.start; simp [h]) fun cdv A outer s H E hr=>z9m (zcQ rfl (pv 0) (pv 1) rfl)⟩
 have k__law_cell_at:=z4B (P:=l.prog) (w:=w) (base:=base) F0 m0 (bd2 F0 fun _ _ _ _ _ _ _ _=>rfl) T
 have k__law_pen_of:=z58 (P:=l.prog) (w:=w) (base:=base) F1 m1 (bd1 F1 fun _ _ _ _ _ _ _=>rfl) T
 have k__law_next:=z6s (P:=l.prog) (w:=w) (base:=base) F2 m2 (bd1 F2 fun _ _ _ _ _ _ _=>rfl) T
 have k__law_draw:=z6u F3 m3 (bd2 F3 fun _ _ _ _ _ _ _ _=>rfl) T k__law_next
 have k__law_sizes_by:=z4b F4 m4 (bd1 F4 fun _ _ _ _ _ _ _=>rfl) T k__law_draw
 have k__law_pick:=z6r F5 m5 (bd4 F5 fun _ _ _ _ _ _ _ _ _ _=>rfl) T k__law_draw
 have k__law_rule_by:=z4A F6 m6 (bd2 F6 fun _ _ _ _ _ _ _ _=>rfl) T k__law_draw k__law_sizes_by k__law_pick
 have k_still_tiles:=z55 (P:=l.prog) (w:=w) (base:=base) F7 m7 (bd1 F7 fun _ _ _ _ _ _ _=>rfl) T
 have k__law_walk:=z6p (P:=l.prog) (w:=w) (base:=base) F8 m8 (bd4 F8 fun _ _ _ _ _ _ _ _ _ _=>rfl) T
 have k_refuse_no_tile:=z3W F9 m9 (bd2 F9 fun _ _ _ _ _ _ _ _=>rfl) T n_f
 have k_walked:=z9I (P:=l.prog) (w:=w) (base:=base) F10 m10 (bd2 F10 fun _ _ _ _ _ _ _ _=>rfl) T
 have k_corner_walk:=z56 F11 m11 (bd4 F11 fun _ _ _ _ _ _ _ _ _ _=>rfl) T ⟨_,_,_,_,_,_,_,_,l11⟩ dT (fun z=>by rw [z] at gT; simp at gT) tT k_refuse_no_tile k_walked
 have k_corner_tile:=z57 F12 m12 (bd5 F12 fun _ _ _ _ _ _ _ _ _ _ _=>rfl) T k_corner_walk
 have k_corner_round:=z4z F13 m13 (bd4 F13 fun _ _ _ _ _ _ _ _ _ _=>rfl) T k_corner_walk
 have k__law_whole:=z5P (P:=l.prog) (w:=w) (base:=base) F14 m14 (bd1 F14 fun _ _ _ _ _ _ _=>rfl) T
 have k__law_corner_right:=z2S F15 m15 (bd5 F15 fun _ _ _ _ _ _ _ _ _ _ _=>rfl) T k__law_walk k_corner_tile k_corner_round k__law_whole
 have k__law_grow:=z6t (P:=l.prog) (w:=w) (base:=base) F16 m16 (bd2 F16 fun _ _ _ _ _ _ _ _=>rfl) T
 have k__law_grow_often:=z3B F17 m17 (bd3 F17 fun _ _ _ _ _ _ _ _ _=>rfl) T k__law_grow
 have k__law_laid_right:=z3A F18 m18 (bd4 F18 fun _ _ _ _ _ _ _ _ _ _=>rfl) T k_corner_tile k__law_grow_often
 have h__law_kind_of:=z4a (P:=l.prog) (w:=w) (base:=base) F19 m19 (bd1 F19 fun _ _ _ _ _ _ _=>rfl) T
 have k__law_said:=z6q F20 m20 (bd3 F20 fun _ _ _ _ _ _ _ _ _=>rfl) T k_corner_tile k_corner_round h__law_kind_of
 exact zeL F21 T k__law_cell_at k__law_pen_of k__law_draw k__law_rule_by k_still_tiles k__law_corner_right k__law_laid_right k__law_said (hGt _)
open PySem (sizeLine)
def blk (bs:List (Nat×List Tx)) (n:Nat):List Tx:=((bs.find? fun b=>decide (b.1=n)).map (·.2)).getD []
theorem z65 (h:n ∈ bs.map (·.1)):∃ b ∈ bs,b.1=n∧(bs.find? fun b=>decide (b.1=n))=some b∧blk bs n=b.2:=by
 cases e:bs.find? fun b=>decide (b.1=n) with
 | none =>
  obtain ⟨b,hb,rfl⟩:=Qm.mp h
  have:=List.find?_eq_none.mp e b hb
  simp at this
 | some b =>
  have h1:=List.mem_of_find?_eq_some e
  have h2:=List.find?_some e
  refine ⟨b,h1,by simpa using h2,rfl,?_⟩
  unfold blk
  rw [e]
  rfl
def lay1 (bs:List (Nat×List Tx)) (l:Nat) (row:Tx):Tx:=(row.map fun n=>(blk bs n).getD l []).flatten
def layR (h:Nat) (bs:List (Nat×List Tx)) (row:Tx):List Tx:=(Qk h).map fun l=>lay1 bs l row
def lay (h:Nat) (bs:List (Nat×List Tx)) (fl:List Tx):List Tx:=fl.flatMap (layR h bs)
structure Fl2 (bs:List (Nat×List Tx)) (R C:Nat) (fl:List Tx):Prop where
 rows:fl.length=R
 cols:∀ r ∈ fl,r.length=C
 tl:∀ r ∈ fl,∀ n ∈ r,n ∈ bs.map (·.1)
theorem z47 (R:Rul h w bs) (hn:n ∈ bs.map (·.1)) (hl:l < h):((blk bs n).getD l []).length=w∧(∀ k ∈ (blk bs n).getD l [],k ∈ bs.map (·.1))∧pIx (flD (blk bs n)) (.int l)=some (.pure (.str ((blk bs n).getD l []))):=by
 obtain ⟨b,hb,_,_,e2⟩:=z65 hn
 have hB:=R.blk b hb
 have hi':l < b.2.length:=by omega
 have hm:b.2.getD l [] ∈ b.2:=by
  rw [Qg,Wh hi']
  exact Q4 hi'
 have hr:=hB.2 _ hm
 rw [e2]
 exact ⟨hr.1,hr.2,by simp [pIx,z15,hi']⟩
theorem z7k (R:Rul h w bs) (hl:l < h):∀ row:Tx,(∀ n ∈ row,n ∈ bs.map (·.1))→(lay1 bs l row).length=row.length * w∧∀ k ∈ lay1 bs l row,k ∈ bs.map (·.1)
 | [],_=>by simp [lay1]
 | n :: r,h'=>by
  have ih:=z7k R hl r fun k hk=>h' k (Wi _ hk)
  have h1:=z47 R (h' n Wm) hl
  have e:lay1 bs l (n :: r)=(blk bs n).getD l [] ++ lay1 bs l r:=rfl
  rw [e]
  refine ⟨by rw [Q3,h1.1,ih.1,WO,Nat.succ_mul,Nat.add_comm],fun k hk=>?_⟩
  rcases QK.mp hk with hk | hk
  ·exact h1.2.1 k hk
  ·exact ih.2 k hk
theorem zc6 (R:Rul h w bs) (F:Fl2 bs A C fl):Fl2 bs (A * h) (C * w) (lay h bs fl):=by
 refine ⟨?_,fun r hr=>?_,fun r hr=>?_⟩
 ·rw [← F.rows]
  clear F
  induction fl with
  | nil=>simp [lay]
  | cons x q ih =>
   have e:lay h bs (x :: q)=layR h bs x ++ lay h bs q:=rfl
   rw [e,Q3,ih,WO,Nat.succ_mul]
   simp [layR,Nat.add_comm]
 ·simp only [lay,List.mem_flatMap,layR,List.mem_map,List.mem_range] at hr
  obtain ⟨x,hx,l,hl,rfl⟩:=hr
  rw [(z7k R hl x (F.tl x hx)).1,F.cols x hx]
 ·simp only [lay,List.mem_flatMap,layR,List.mem_map,List.mem_range] at hr
  obtain ⟨x,hx,l,hl,rfl⟩:=hr
  exact (z7k R hl x (F.tl x hx)).2
def z3c (h:Nat) (bs:List (Nat×List Tx)) (fl:List Tx):Nat→List Tx
 | 0=>fl
 | k + 1=>lay h bs (z3c h bs fl k)
theorem z5V (R:Rul h w bs) (F:Fl2 bs A C fl):∀ k,Fl2 bs (A * h ^ k) (C * w ^ k) (z3c h bs fl k)
 | 0=>by simpa [z3c] using F
 | k + 1=>by
  have:=zc6 R (z5V R F k)
  rw [Nat.pow_succ,Nat.pow_succ,← Nat.mul_assoc,← Nat.mul_assoc]
  exact this
def itr (f:Nat→Nat) (t:Nat):Nat→Nat
 | 0=>t
 | k + 1=>f (itr f t k)
def sg (l:List Nat):List Tx:=l.map fun n=>[n]
theorem sg_mem {l:List Nat} {n:Nat}:([n]:Tx) ∈ sg l ↔ n ∈ l:=by
 unfold sg
 rw [List.mem_map]
 exact ⟨fun ⟨a,h,e⟩=>by simp at e; rw [← e]; exact h,fun h=>⟨n,h,rfl⟩⟩
theorem z91 (n:Nat):∀ l:List Nat,(sg l).idxOf [n]=l.idxOf n
 | []=>rfl
 | a :: r=>by
  have ih:=z91 n r
  unfold sg at ih ⊢
  rw [Wu,List.idxOf_cons,List.idxOf_cons,ih]
  by_cases h:a=n
  ·simp [h]
  ·have h1:(([a]:Tx) == [n])=false:=by simp [h]
   have h2:(a == n)=false:=by simp [h]
   rw [h1,h2]
def wn (f:Nat→Nat):Nat→List Nat→Nat→Option (List Nat×Nat)
 | 0,_,_=>none
 | n + 1,seen,here=>if here ∈ seen then some (seen,seen.idxOf here) else wn f n (seen ++ [here]) (f here)
theorem zaH (f:Nat→Nat):∀ (n:Nat) (seen:List Nat) (here:Nat) (p:List Nat×Nat),wn f n seen here=some p→wn f (n + 1) seen here=some p
 | 0,_,_,_,h=>by simp [wn] at h
 | n + 1,seen,here,p,h=>by
  unfold wn at h ⊢
  split at h
  ·rename_i hm; rw [if_pos hm]; exact h
  ·rename_i hm; rw [if_neg hm]; exact zaH f n _ _ p h
theorem zdL {F:D→Option D} {f:Nat→Nat} {ts:List Nat} (hF:∀ n ∈ ts,F (.str [n])=some (.str [f n])∧f n ∈ ts):∀ (n:Nat) (seen:List Nat) (here:Nat),here ∈ ts→wk F n (sg seen) [here]=(wn f n seen here).map fun p=>(sg p.1,p.2)
 | 0,_,_,_=>rfl
 | n + 1,seen,here,hm=>by
  unfold wk wn
  simp only [sg_mem]
  by_cases h:here ∈ seen
  ·rw [if_pos h,if_pos h,z91]
   rfl
  ·rw [if_neg h,if_neg h,(hF here hm).1]
   have e:sg seen ++ [[here]]=sg (seen ++ [here]):=by simp [sg]
   simp only
   rw [e]
   exact zdL hF n (seen ++ [here]) (f here) (hF here hm).2
theorem z5S:∀ {l ts:List Nat},l.Nodup→(∀ x ∈ l,x ∈ ts)→l.length≤ts.length
 | [],_,_,_=>QP _
 | a :: r,ts,nd,h=>by
  obtain ⟨n1,n2⟩:=Qs.mp nd
  have ha:=h a Wm
  have:=z5S (l:=r) (ts:=ts.erase a) n2 fun x hx=>by
   have:x≠a:=fun e=>n1 (by rw [← e]; exact hx)
   exact (List.mem_erase_of_ne this).mpr (h x (Wi _ hx))
  rw [List.length_erase_of_mem ha] at this
  have:=List.length_pos_of_mem ha
  simp
  omega
structure Wk (f:Nat→Nat) (t:Nat) (ts:List Nat) (p:List Nat×Nat):Prop where
 pos:0 < p.1.length
 le:p.1.length≤ts.length
 at_:∀ i,i < p.1.length→p.1[i]? = some (itr f t i)
 st:p.2 < p.1.length
 back:itr f t p.1.length=itr f t p.2
theorem zdJ {f:Nat→Nat} {ts:List Nat} (hf:∀ n ∈ ts,f n ∈ ts) (t:Nat):∀ (n:Nat) (seen:List Nat),seen.Nodup→(∀ x ∈ seen,x ∈ ts)→(∀ i,i < seen.length→seen[i]? = some (itr f t i))→itr f t seen.length ∈ ts→ts.length + 1≤n + seen.length →
  (seen=[]→1≤n)→∃ p,wn f n seen (itr f t seen.length)=some p∧Wk f t ts p
 | 0,seen,nd,sub,at_,hm,hl,h1=>by
  have:=z5S nd sub
  omega
 | n + 1,seen,nd,sub,at_,hm,hl,h1=>by
  unfold wn
  by_cases h:itr f t seen.length ∈ seen
  ·rw [if_pos h]
   have hi:=List.idxOf_lt_length_of_mem h
   refine ⟨_,rfl,List.length_pos_of_mem h,z5S nd sub,at_,hi,?_⟩
   have e:=at_ _ hi
   rw [Wh hi,List.getElem_idxOf hi] at e
   exact Ws e
  ·rw [if_neg h]
   have hl':(seen ++ [itr f t seen.length]).length=seen.length + 1:=by simp
   have:=zdJ hf t n (seen ++ [itr f t seen.length]) (List.nodup_append.mpr ⟨nd,by simp,fun a ha b hb e=>h (by
    have:b=itr f t seen.length:=by simpa using hb
    rw [← this,← e]; exact ha)⟩) (fun x hx=>by
     rcases QK.mp hx with hx | hx
     ·exact sub x hx
     ·have:x=itr f t seen.length:=by simpa using hx
      rw [this]; exact hm) (fun i hi=>by
     rw [hl'] at hi
     by_cases hi':i < seen.length
     ·rw [Qi hi']; exact at_ i hi'
     ·have:i=seen.length:=by omega
      subst this
      simp) (by rw [hl']; exact hf _ hm) (by rw [hl']; omega) (fun e=>by simp at e)
   rw [hl'] at this
   exact this
theorem zdK {f:Nat→Nat} {ts:List Nat} (hf:∀ n ∈ ts,f n ∈ ts) {t:Nat} (ht:t ∈ ts) {n:Nat} (hn:ts.length + 1≤n):∃ p,wn f n [] t=some p∧Wk f t ts p :=
 zdJ hf t n [] List.nodup_nil (by simp) (by simp) ht (by simpa using hn) (fun _=>by omega)
theorem Wk.round {f:Nat→Nat} {t:Nat} {ts:List Nat} {p:List Nat×Nat} (W:Wk f t ts p):∀ k,itr f t (p.1.length + k)=itr f t (p.2 + k)
 | 0=>W.back
 | k + 1=>by
  show f (itr f t (p.1.length + k))=f (itr f t (p.2 + k))
  rw [W.round k]
theorem Wk.laps {f:Nat→Nat} {t:Nat} {ts:List Nat} {p:List Nat×Nat} (W:Wk f t ts p) (k:Nat):∀ m,itr f t (p.2 + k + m * (p.1.length - p.2))=itr f t (p.2 + k)
 | 0=>by simp
 | m + 1=>by
  have h1:=W.st
  have e:p.2 + k + (m + 1) * (p.1.length - p.2)=p.1.length + (k + m * (p.1.length - p.2)):=by rw [Nat.add_mul,Jo]; omega
  rw [e,W.round,← Nat.add_assoc]
  exact W.laps k m
def ixP (p:List Nat×Nat) (g:Nat):Nat:=if g < p.2 then g else p.2 + (g - p.2) % (p.1.length - p.2)
theorem Wk.ix {f:Nat→Nat} {t:Nat} {ts:List Nat} {p:List Nat×Nat} (W:Wk f t ts p) (g:Nat):ixP p g < p.1.length∧p.1[ixP p g]? = some (itr f t g):=by
 have h1:=W.st
 have hlt:ixP p g < p.1.length:=by
  unfold ixP
  split
  ·omega
  ·have:=Nat.mod_lt (g - p.2) (show 0 < p.1.length - p.2 by omega)
   omega
 refine ⟨hlt,?_⟩
 rw [W.at_ _ hlt]
 congr 1
 unfold ixP
 split
 ·rfl
 ·rename_i h
  have hd:=Nat.div_add_mod (g - p.2) (p.1.length - p.2)
  have:=W.laps ((g - p.2) % (p.1.length - p.2)) ((g - p.2) / (p.1.length - p.2))
  rw [← this]
  congr 1
  rw [Nat.mul_comm]
  omega
def z4U (bs:List (Nat×List Tx)) (r c n:Nat):Nat:=((blk bs n).getD r []).getD c 0
theorem z62 {h w r c n:Nat} {bs:List (Nat×List Tx)} (R:Rul h w bs) (hr:r < h) (hc:c < w) (hn:n ∈ bs.map (·.1)):z4U bs r c n ∈ bs.map (·.1):=by
 obtain ⟨h1,h2,_⟩:=z47 R hn hr
 refine h2 _ ?_
 unfold z4U
 rw [Qg (l:=(blk bs n).getD r []),Wh (by rw [h1]; exact hc)]
 exact Q4 _
theorem z60 (f:DE) (δ:Dl):iSq f δ=(f δ).bind fun r δ1=>match r.d with
 | .lst ds=>.ok ds δ1
 | .tup ds=>.ok ds δ1
 | .str x=>.ok (x.map fun n=>.str [n]) δ1
 | _=>.stuck:=id rfl
theorem ev_inR (neg:Bool) (fa f g:DE) (δ:Dl):eInR neg fa f g δ=(fa δ).bind fun v δ1=>(f δ1).bind fun lo δ2=>(g δ2).bind fun hi δ3=>match v.d,lo.d,hi.d with
 | .int i,.int l,.int h=>.ok (.pure (.bl (if neg then !(decide (l≤i) && decide (i < h)) else (decide (l≤i) && decide (i < h))))) δ3
 | _,_,_=>.stuck:=id rfl
theorem z1X (f F:A→D) (p:A→Bool) (δ:Dl):∀ (as:List A) (acc:List D),acc.length + as.length≤W6 →
  (∀ a ∈ as,∃ δ1 δ2 x δ3,g (.pure (f a)) δ=some δ1∧t δ1 = .ok (p a) δ2∧clrD cs δ2=δ∧el δ2 = .ok x δ3∧clrD cs δ3=δ∧x.d=F a)→z1s cs g t el (as.map f) δ acc = .ok (acc ++ (as.filter p).map F) δ
 | [],acc,_,_=>by simp [z1s]
 | a :: r,acc,hl,hs=>by
  obtain ⟨δ1,δ2,x,δ3,e1,e2,e2',e3,e4,e5⟩:=hs a Wm
  have hl':acc.length < W6:=by simp at hl; omega
  rw [Wu]
  unfold z1s
  rw [e1]
  cases hp:p a with
  | true =>
   have ih:=z1X (cs:=cs) (g:=g) (t:=t) (el:=el) f F p δ r (acc ++ [x.d]) (by simp at hl ⊢; omega) (fun a ha=>hs a (Wi _ ha))
   rw [e5] at ih
   rw [hp] at e2
   simp only [e2,z0K,if_true,e3,if_pos hl',e4,e5,ih,List.filter_cons,hp]
   simp
  | false =>
   have ih:=z1X (cs:=cs) (g:=g) (t:=t) (el:=el) f F p δ r acc (by simp at hl ⊢; omega) (fun a ha=>hs a (Wi _ ha))
   rw [hp] at e2
   simp only [e2,z0K,e2',ih,List.filter_cons,hp]
   simp
def nx (s:Int):Int:=(((s + 7919) % 2147483647) * ((s + 7919) % 2147483647) + 48271 * ((s + 7919) % 2147483647) + 12345) % 2147483629
theorem ze8 (s:Int):z1j [.pure (.int s)]=some (.pure (.int (nx s)),[.pure (.int s)]):=by
 unfold z1j gOf z3k runD
 have h1:=Int.emod_nonneg (s + 7919) (b:=2147483647) (by decide)
 have h2:=Int.emod_lt_of_pos (s + 7919) (b:=2147483647) (by decide)
 have c1:cMul ((s + 7919) % 2147483647) ((s + 7919) % 2147483647)=true:=by unfold cMul; simp; omega
 have c2:cMul 48271 ((s + 7919) % 2147483647)=true:=by unfold cMul; simp
 simp [ioOk,z09,dAsg,eOpF,eOpN,bVar,pAdd,pMod,pII,z1S,pMul,c1,c2,z0V,z0h]
 rfl
def Pen (d:D):Prop:=∃ l f s:Int,d = .lst [.int l,.int f,.int s]∧0≤l
theorem z7L (hp:Pen d) (m:Nat) (h0:0 < m) (h1:m < 10000000000000):∃ (r:Nat) (d':D),z08 [.own d,.pure (.int m)]=some (.pure (.int r),[.own d',.pure (.int m)])∧r < m∧Pen d':=by
 obtain ⟨l,f,s,rfl,hl⟩:=hp
 have hm:(0:Int) < (m:Int):=by omega
 have hB:(10000000000000:Int)≤bigB:=by decide +kernel
 have hd:=zb7 l m hm (by omega)
 unfold z08 gOf z3m runD
 by_cases hf:f=1
 ·subst hf
  have e1:=Int.emod_nonneg l (b:=(m:Int)) (by omega)
  have e2:=Int.emod_lt_of_pos l hm
  refine ⟨(l % (m:Int)).toNat,.lst [.int (l / m),.int 1,.int s],?_,by omega,⟨_,_,_,rfl,Int.ediv_nonneg hl (by omega)⟩⟩
  simp [ioOk,z09,dAsg,eOpF,eOpN,bVar,eVar,pIx,pEq,eqD,flat,z4p,z7y,z7x,dTr,pMod,pDiv,pII,h0,hd,cDiv,z8A,z2r,putL,z0V,z0h,ixN]
  omega
 ·have e1:=Int.emod_nonneg (nx (nx s + 7) / 64) (b:=(m:Int)) (by omega)
  have e2:=Int.emod_lt_of_pos (nx (nx s + 7) / 64) hm
  refine ⟨(nx (nx s + 7) / 64 % (m:Int)).toNat,.lst [.int l,.int f,.int (nx (nx s + 7))],?_,by omega,⟨_,_,_,rfl,hl⟩⟩
  simp [ioOk,z09,dAsg,eOpF,eOpN,bVar,eVar,pIx,pEq,eqD,flat,z4p,z7y,z7x,dTr,pMod,pDiv,pII,h0,hd,cDiv,z8A,z2r,putL,z0V,z0h,ixN,hf,z0d,ios,z0Y,ndup,evX,mkA,ze8,pAdd,putA,cDiv]
  omega
theorem r_pen (c:Int):∃ d,z11 [.pure (.int c)]=some (.own d,[.pure (.int c)])∧Pen d:=by
 unfold z11 gOf z2m runD
 refine ⟨.lst [.int (if 0 - c > c then 0 - c else c),.int (if decide (1000000000000000000≤(if 0 - c > c then 0 - c else c)) then 1 else 0),.int ((if 0 - c > c then 0 - c else c) % 1000003)],?_,⟨_,_,_,rfl,by split <;> omega⟩⟩
 simp [ioOk,z09,dAsg,eOpF,eOpN,bVar,eVar,pMax,pSub,pII,pInt,pGe,pCmp,pPow,cPow,pMod,z0V,z0h]
theorem z7a (ns:List Int):∃ c:Int,z0U [.pure (.lst (ns.map .int)),.pure (.int 0)]=some (.pure (.int c),[.pure (.lst (ns.map .int)),.pure (.int 0)]):=by
 unfold z0U gOf z27 runD
 cases ns with
 | nil=>exact ⟨0,by simp [ioOk,z09,eOpF,eOpN,bVar,pLt,pCmp,dTr,pLen,z0V,z0h]⟩
 | cons n r=>exact ⟨n,by
   have:(0:Int) < (r.length:Int) + 1:=by omega
   simp [ioOk,z09,eOpF,eOpN,bVar,pLt,pCmp,dTr,pLen,z0V,z0h,pIx,z4p,this]⟩
theorem z1C (hp:Pen d) (m:Nat) (i:Int) (hi:i=m) (h0:0 < m) (h1:m < 10000000000000):∃ (r:Nat) (d':D),z08 [.own d,.pure (.int i)]=some (.pure (.int r),[.own d',.pure (.int i)])∧r < m∧Pen d':=by
 subst hi
 exact z7L hp m h0 h1
def lettersT:Tx:=[97,98,99,100,101,102,103,104,105,106,107,108,109,110,111,112,113,114,115,116,117,118,119,120,121,122]
theorem zcF (hp:Pen d):∃ (h w:Nat) (d':D),z0W [.own d]=some (.pure (.tup [.int h,.int w]),[.own d'])∧0 < h∧h≤4∧0 < w∧w≤4∧2 < h + w∧Pen d':=by
 obtain ⟨r1,d1,e1,l1,p1⟩:=z1C hp 3 3 rfl (by decide) (by decide)
 obtain ⟨r2,d2,e2,l2,p2⟩:=z1C p1 3 3 rfl (by decide) (by decide)
 obtain ⟨r3,d3,e3,l3,p3⟩:=z1C p2 8 8 rfl (by decide) (by decide)
 obtain ⟨r4,d4,e4,l4,p4⟩:=z1C p3 6 6 rfl (by decide) (by decide)
 unfold z0W gOf z1Q runD
 by_cases h3:r3=0
 ·subst h3
  have:r4=0∨r4=1∨r4=2∨r4=3∨r4=4∨r4=5:=by omega
  rcases this with rfl | rfl | rfl | rfl | rfl | rfl
  ·exact ⟨4,1,d4,by simp [ioOk,z09,dAsg,z0d,ios,ndup,z0Y,evX,mkA,e1,e2,e3,e4,putA,pAdd,pEq,eqD,flat,dTr,pIx,atI,ixN,gTp,z0c,z0Z,eOpF,eOpN,bVar,eVar,z0V,z0h],by decide,by decide,by decide,by decide,by decide,p4⟩
  ·exact ⟨1,4,d4,by simp [ioOk,z09,dAsg,z0d,ios,ndup,z0Y,evX,mkA,e1,e2,e3,e4,putA,pAdd,pEq,eqD,flat,dTr,pIx,atI,ixN,gTp,z0c,z0Z,eOpF,eOpN,bVar,eVar,z0V,z0h],by decide,by decide,by decide,by decide,by decide,p4⟩
  ·exact ⟨4,4,d4,by simp [ioOk,z09,dAsg,z0d,ios,ndup,z0Y,evX,mkA,e1,e2,e3,e4,putA,pAdd,pEq,eqD,flat,dTr,pIx,atI,ixN,gTp,z0c,z0Z,eOpF,eOpN,bVar,eVar,z0V,z0h],by decide,by decide,by decide,by decide,by decide,p4⟩
  ·exact ⟨4,3,d4,by simp [ioOk,z09,dAsg,z0d,ios,ndup,z0Y,evX,mkA,e1,e2,e3,e4,putA,pAdd,pEq,eqD,flat,dTr,pIx,atI,ixN,gTp,z0c,z0Z,eOpF,eOpN,bVar,eVar,z0V,z0h],by decide,by decide,by decide,by decide,by decide,p4⟩
  ·exact ⟨1,2,d4,by simp [ioOk,z09,dAsg,z0d,ios,ndup,z0Y,evX,mkA,e1,e2,e3,e4,putA,pAdd,pEq,eqD,flat,dTr,pIx,atI,ixN,gTp,z0c,z0Z,eOpF,eOpN,bVar,eVar,z0V,z0h],by decide,by decide,by decide,by decide,by decide,p4⟩
  ·exact ⟨2,1,d4,by simp [ioOk,z09,dAsg,z0d,ios,ndup,z0Y,evX,mkA,e1,e2,e3,e4,putA,pAdd,pEq,eqD,flat,dTr,pIx,atI,ixN,gTp,z0c,z0Z,eOpF,eOpN,bVar,eVar,z0V,z0h],by decide,by decide,by decide,by decide,by decide,p4⟩
 ·by_cases hs:r1=0∧r2=0
  ·obtain ⟨rfl,rfl⟩:=hs
   refine ⟨1,2,d3,?_,by decide,by decide,by decide,by decide,by decide,p3⟩
   simp [ioOk,z09,dAsg,z0d,ios,ndup,z0Y,evX,mkA,e1,e2,e3,putA,pAdd,pEq,eqD,flat,dTr,h3,eOpF,eOpN,bVar,eVar,z0V,z0h]
  ·have hn:¬ (1 + (r1:Int) + (1 + (r2:Int))=2):=by omega
   refine ⟨1 + r1,1 + r2,d3,?_,by omega,by omega,by omega,by omega,by omega,p3⟩
   simp [ioOk,z09,dAsg,z0d,ios,ndup,z0Y,evX,mkA,e1,e2,e3,putA,pAdd,pEq,eqD,flat,dTr,h3,hn,eOpF,eOpN,bVar,eVar,z0V,z0h]
theorem z6N (ts:List Nat) (r:Nat) (h:r < ts.length):pIx (.lst (ts.map fun n=>.str [n])) (.int r)=some (.pure (.str [ts.getD r 0])):=by
 simp [pIx,z15,h]
theorem ze6 (hp:Pen d) (ts:List Nat) (place way:Nat) (h1:place < ts.length) (h2:ts.length≤64):∃ (n:Nat) (d':D),
  z0E [.own d,.pure (.lst (ts.map fun n=>.str [n])),.pure (.int place),.pure (.int way)]=some (.pure (.str [n]),[.own d',.pure (.lst (ts.map fun n=>.str [n])),.pure (.int place),.pure (.int way)])∧n ∈ ts∧Pen d':=by
 have mem:∀ r,r < ts.length→ts.getD r 0 ∈ ts:=fun r h=>by simp [h]
 unfold z0E gOf z3j runD
 by_cases w1:way=1
 ·subst w1
  obtain ⟨r,d1,e1,l1,p1⟩:=z1C hp (place + 1) ((place:Int) + 1) (by omega) (by omega) (by omega)
  refine ⟨ts.getD r 0,d1,?_,mem r (by omega),p1⟩
  simp [ioOk,z09,eOpF,eOpN,bVar,pEq,eqD,flat,dTr,z0d,ios,ndup,z0Y,evX,pAdd,mkA,e1,putA,pIx,z15,z0V,z0h,show r < ts.length by omega]
 ·by_cases w2:way=2
  ·subst w2
   have hr:(place + 1) % ts.length < ts.length:=Nat.mod_lt _ (by omega)
   refine ⟨ts.getD ((place + 1) % ts.length) 0,d,?_,mem _ hr,hp⟩
   have hm:pMod (.int ((place:Int) + 1)) (.int ts.length)=some (.pure (.int (((place + 1) % ts.length:Nat):Int))):=by
    simp only [pMod,pII]
    rw [if_pos (by simp; omega)]
    simp
   simp [ioOk,z09,eOpF,eOpN,bVar,pEq,eqD,flat,dTr,pAdd,pLen,hm,z0V,z0h]
   have hx:=z6N ts ((place + 1) % ts.length) hr
   simp at hx
   simp [hx]
  ·by_cases w3:way=3
   ·subst w3
    obtain ⟨r,d1,e1,l1,p1⟩:=z1C hp 4 4 rfl (by decide) (by decide)
    by_cases hr:0 < r
    ·refine ⟨ts.getD place 0,d1,?_,mem place h1,p1⟩
     simp [ioOk,z09,eOpF,eOpN,bVar,pEq,eqD,flat,dTr,z0d,ios,ndup,z0Y,evX,mkA,e1,putA,pGt,pCmp,hr,pIx,z15,h1,z0V,z0h]
    ·obtain ⟨r',d2,e2,l2,p2⟩:=z7L p1 ts.length (by omega) (by omega)
     refine ⟨ts.getD r' 0,d2,?_,mem r' l2,p2⟩
     simp [ioOk,z09,eOpF,eOpN,bVar,pEq,eqD,flat,dTr,z0d,ios,ndup,z0Y,evX,mkA,e1,putA,pGt,pCmp,hr,pLen,e2,pIx,z15,l2,z0V,z0h]
   ·obtain ⟨r',d2,e2,l2,p2⟩:=z7L hp ts.length (by omega) (by omega)
    refine ⟨ts.getD r' 0,d2,?_,mem r' l2,p2⟩
    have c1:¬ (way:Int)=1:=by omega
    have c2:¬ (way:Int)=2:=by omega
    have c3:¬ (way:Int)=3:=by omega
    simp [ioOk,z09,eOpF,eOpN,bVar,pEq,eqD,flat,dTr,z0d,ios,ndup,z0Y,evX,mkA,putA,c1,c2,c3,pLen,e2,pIx,z15,l2,z0V,z0h]
theorem z8u:∀ k,k < 26→lettersT.getD k 0=97 + k:=by decide
theorem z8y (xs:List Nat) (h:xs.length < 64):z3T (.lst (xs.map fun n=>.str [n]))=some (.own (.lst ((z3Q xs).map fun n=>.str [n]))):=by
 have e:(xs.map fun n=>D.str [n])=(xs.map fun n=>[n]).map D.str:=by simp
 unfold z3T
 simp only [e,z4l]
 rw [if_pos (by simpa using h),zbS]
 simp
def rawT (f n:Nat):List Nat:=(Qk n).map fun k=>97 + (f + 5 * k) % 26
theorem z9d (f n:Nat) (hn:n≤26):(rawT f n).Nodup:=by
 unfold rawT
 rw [List.nodup_iff_pairwise_ne,List.pairwise_map]
 refine (List.pairwise_lt_range (n:=n)).imp_of_mem ?_
 intro a b ha hb hab e
 simp at ha hb
 omega
def rb (pd:D) (m h w n f:Nat) (s7:S) (wy:Nat) (blocks:List D) (a b c:Option S):Dl :=
 [some (.own pd),some (.pure (.int m)),some (.pure (.int h)),some (.pure (.int w)),some (.pure (.int (1 + (n:Int)))),some (.pure (.int f)),some (.pure (.str lettersT)),some s7,some (.pure (.int wy)),some (.own (.lst blocks)),a,b,c,none,none]
def tD (ts:List Nat):D:=.lst (ts.map fun n=>.str [n])
def sT (ts:List Nat) (s:S):Prop:=s = .own (tD ts)∨s = .pure (tD ts)
theorem z8j (hts:ts.length≤64) (hw:w≤4) (hpd:Pen pd) (h7:sT ts s7) (blocks:List D) (place:Nat) (hpl:place < ts.length) (block:List D) (row:Nat) :
  ∃ (x:Tx) (pd':D) (s7':S),z1s [14] (gNm [0] 14) dYes (z0d z0E [.io 0,.val (eVar 7),.val (eVar 10),.val (eVar 8)]) (z0G 0 w) (rb pd m h w n f s7 wy blocks (some (.pure (.int place))) (some (.own (.lst block))) (some (.pure (.int row)))) []
   = .ok (x.map fun n=>.str [n]) (rb pd' m h w n f s7' wy blocks (some (.pure (.int place))) (some (.own (.lst block))) (some (.pure (.int row))))∧x.length=w∧(∀ n ∈ x,n ∈ ts)∧Pen pd'∧sT ts s7':=by
 obtain ⟨xs,δ',e,⟨pd',s7',hpd',h7',rfl⟩,hn,hf⟩:=z4V (cs:=[14]) (g:=gNm [0] 14) (t:=dYes) (el:=z0d z0E [.io 0,.val (eVar 7),.val (eVar 10),.val (eVar 8)]) (fun δ=>∃ pd s7,Pen pd∧sT ts s7∧δ=rb pd m h w n f s7 wy blocks (some (.pure (.int place))) (some (.own (.lst block))) (some (.pure (.int row))))
  (fun _ x=>∃ n,n ∈ ts∧x = .str [n]) (z0G 0 w) _ [] ⟨pd,s7,hpd,h7,rfl⟩ (by rw [z1l]; simp; omega) (fun d hd δ ⟨pd,s7,hpd,h7,e⟩=>by
   subst e
   obtain ⟨i,hi,rfl⟩:=z48 hd
   obtain ⟨k,d',e,hk,p⟩:=ze6 hpd ts place wy hpl hts
   have e':z0E [.own pd,.pure (tD ts),.pure (.int place),.pure (.int wy)]=some (.pure (.str [k]),[.own d',.pure (tD ts),.pure (.int place),.pure (.int wy)]):=e
   refine ⟨_,_,.pure (.str [k]),(rb d' m h w n f (.pure (tD ts)) wy blocks (some (.pure (.int place))) (some (.own (.lst block))) (some (.pure (.int row)))).set 14 (some (.pure (.int i))),rfl,rfl,?_,⟨d',_,p,.inr rfl,rfl⟩,⟨_,hk,rfl⟩⟩
   rcases h7 with rfl | rfl
   ·simp [rb,z0d,ios,ndup,z0Y,evX,eVar,mkA,e',putA]
   ·simp [rb,z0d,ios,ndup,z0Y,evX,eVar,mkA,e',putA])
 obtain ⟨x,rfl,hx⟩:=z8Z (P:=fun n=>n ∈ ts) (zcC hn hf fun d x _ h=>h)
 exact ⟨x,pd',s7',by simpa using e,by simpa using hn,hx,hpd',h7'⟩
theorem z6i (hts:ts.length≤64) (hw:w≤4) (hh:h≤4) (hpd:Pen pd) (h7:sT ts s7) (blocks:List D) (place:Nat) (hpl:place < ts.length) (rs:Option S) :
  ∃ (fl:List Tx) (pd':D) (s7':S) (rs':Option S),forL (gNm [0] 12) (z0F 11 (eC1 (z2y []) (bOf (z2t [14] (z12 (eVar 3)) (gNm [0] 14) dYes (z0d z0E [.io 0,.val (eVar 7),.val (eVar 10),.val (eVar 8)]))))) (z0G 0 h) (rb pd m h w n f s7 wy blocks (some (.pure (.int place))) (some (.own (.lst []))) rs)
   = .ok .next (rb pd' m h w n f s7' wy blocks (some (.pure (.int place))) (some (.own (.lst (fl.map .str)))) rs')∧fl.length=h∧(∀ r ∈ fl,r.length=w∧∀ n ∈ r,n ∈ ts)∧Pen pd'∧sT ts s7':=by
 obtain ⟨δ',e3,pd',s7',fl,rs',hpd',h7',hfl,hall,rfl⟩:=z1G (g:=gNm [0] 12) (b:=z0F 11 (eC1 (z2y []) (bOf (z2t [14] (z12 (eVar 3)) (gNm [0] 14) dYes (z0d z0E [.io 0,.val (eVar 7),.val (eVar 10),.val (eVar 8)]))))) (fun k δ=>∃ (pd:D) (s7:S) (fl:List Tx) (rs:Option S),Pen pd∧sT ts s7∧fl.length=k∧(∀ r ∈ fl,r.length=w∧∀ n ∈ r,n ∈ ts)∧δ=rb pd m h w n f s7 wy blocks (some (.pure (.int place))) (some (.own (.lst (fl.map .str)))) rs)
  (z0G 0 h) 0 _ ⟨pd,s7,[],rs,hpd,h7,rfl,by simp,rfl⟩ (fun i d δ hd ⟨pd,s7,fl,rs,hpd,h7,hfl,hall,e⟩=>by
   subst e
   obtain ⟨hi,rfl⟩:=z1V hd
   obtain ⟨x,pd',s7',e,hx,hxt,hpd',h7'⟩:=z8j (m:=m) (h:=h) (n:=n) (f:=f) (wy:=wy) hts hw hpd h7 blocks place hpl (fl.map .str) i
   have hz:fl.length < W6:=by rw [z1l]; omega
   have ej:=zbw x (by omega)
   refine ⟨_,rb pd' m h w n f s7' wy blocks (some (.pure (.int place))) (some (.own (.lst ((fl ++ [x]).map .str)))) (some (.pure (.int i))),rfl,?_,⟨pd',s7',fl ++ [x],_,hpd',h7',by simp [hfl],?_,rfl⟩⟩
   ·unfold rb at e ⊢
    simp [z0F,z2r,eVar,z5l w (by omega),z0Y,clrD]
    rw [e]
    simp [ej,z24,putL,hz]
   ·intro r hr
    rcases QK.mp hr with hr | hr
    ·exact hall r hr
    ·simp at hr; subst hr; exact ⟨hx,hxt⟩)
 exact ⟨fl,pd',s7',rs',e3,by simpa using hfl,hall,hpd',h7'⟩
theorem z9f (hp:Pen d) (m:Nat) (hm0:0 < m) (hm1:m≤26):∃ (h w:Nat) (bs:List (Nat×List Tx)) (d':D),
  z0H [.own d,.pure (.int m)]=some (.pure (ruD h w bs),[.own d',.pure (.int m)])∧Rul h w bs∧bs.length≤m∧Pen d':=by
 obtain ⟨h,w,d1,e1,h0,h1,w0,w1,hw,p1⟩:=zcF hp
 obtain ⟨r,d2,e2,l2,p2⟩:=z7L p1 m hm0 (by omega)
 obtain ⟨f,d3,e3,l3,p3⟩:=z1C p2 26 26 rfl (by decide) (by decide)
 obtain ⟨wy,d4,e4,l4,p4⟩:=z1C p3 5 5 rfl (by decide) (by decide)
 -- the tiles
 have ec:=zas (cs:=[13]) (g:=gNm [0] 13) (t:=dYes) (el:=eOpF pIx 6 (bOf (eOp pMod (eOpF pAdd 5 (bOf (eOp z1S (eD (.int 5)) (bVar 13)))) (bOf (eD (.int 26)))))) (fun d=>match d with | .int k=>.str [97 + (f + 5 * k.toNat) % 26] | _=>.non)
  [some (.own d3),some (.pure (.int m)),some (.pure (.int h)),some (.pure (.int w)),some (.pure (.int (1 + (r:Int)))),some (.pure (.int f)),some (.pure (.str lettersT)),none,none,none,none,none,none,none,none] (z0G 0 (1 + r)) [] (by rw [z1l]; simp; omega) (fun d hd=>by
   obtain ⟨i,hi,rfl⟩:=z48 hd
   refine ⟨_,_,.pure (.str [97 + (f + 5 * i) % 26]),[some (.own d3),some (.pure (.int m)),some (.pure (.int h)),some (.pure (.int w)),some (.pure (.int (1 + (r:Int)))),some (.pure (.int f)),some (.pure (.str lettersT)),none,none,none,none,none,none,some (.pure (.int i)),none],rfl,rfl,?_,rfl,rfl⟩
   have hk:(f + 5 * i) % 26 < 26:=Nat.mod_lt _ (by decide)
   have hx:=z3J lettersT ((f + 5 * i) % 26) hk (by decide)
   rw [z8u _ hk] at hx
   have hc:((f:Int) + 5 * (i:Int)) % 26=(((f + 5 * i) % 26:Nat):Int):=by omega
   have hmul:z1S (.int 5) (.int i)=some (.pure (.int (5 * (i:Int)))):=by
    unfold z1S pMul pII
    have:cMul 5 i=true:=by unfold cMul; simp
    simp only [this,if_true]
   have hmod:pMod (.int ((f:Int) + 5 * (i:Int))) (.int 26)=some (.pure (.int (((f + 5 * i) % 26:Nat):Int))):=by
    rw [← hc]; rfl
   generalize lettersT=lt at hx ⊢
   simp only [eOpF,eOpN,bVar,zca,zfh,zfi,z0K,zfg,List.set_cons_succ,List.set_cons_zero,Qo,List.getElem?_cons_zero,zfj,hmul,pAdd,hmod,hx])
 have hraw:List.map (fun (d:D)=>match d with | .int k=>D.str [97 + (f + 5 * k.toNat) % 26] | _=>.non) (z0G 0 (1 + r))=(rawT f (1 + r)).map fun n=>.str [n]:=by
  simp [z0G,rawT]
 rw [hraw] at ec
 simp only [Qv] at ec
 have hrl:(rawT f (1 + r)).length=1 + r:=by simp [rawT]
 have es:=z8y (rawT f (1 + r)) (by rw [hrl]; omega)
 have hts:(z3Q (rawT f (1 + r))).length=1 + r:=by rw [z69,hrl]
 have hlt:=z7F (z9d f (1 + r) (by omega))
 have hle:∀ t ∈ z3Q (rawT f (1 + r)),97≤t∧t≤122:=fun t ht=>by
  rw [sortN_mem] at ht
  simp [rawT] at ht
  obtain ⟨k,_,rfl⟩:=ht
  omega
 generalize z3Q (rawT f (1 + r))=ts at es hts hlt hle
 -- the blocks
 obtain ⟨δ',e5,pd,s7,bs,a,b,c,hpd,h7,hbl,hbt,hall,rfl⟩:=z1G (g:=gNm [0] 10) (b:=(dSeq (dAsg (eLst aNil) (gNm [0] 11)) (dSeq (dFor (z12 (eVar 2)) (gNm [0] 12) (z0F 11 (eC1 (z2y []) (bOf (z2t [14] (z12 (eVar 3)) (gNm [0] 14) dYes (z0d z0E [.io 0,.val (eVar 7),.val (eVar 10),.val (eVar 8)])))))) (z0F 9 (eTup (z0a (eOpF pIx 7 (bVar 10)) (z0a (eC1 z29 (bVar 11)) aNil)))))))
  (fun k δ=>∃ (pd:D) (s7:S) (bs:List (Nat×List Tx)) (a b c:Option S),Pen pd∧sT ts s7∧bs.length=k∧bs.map (·.1)=ts.take k∧(∀ b ∈ bs,b.2.length=h∧∀ r ∈ b.2,r.length=w∧∀ n ∈ r,n ∈ ts)∧δ=rb pd m h w r f s7 wy (bs.map blD) a b c)
  (z0G 0 (1 + r)) 0 (rb d4 m h w r f (.own (tD ts)) wy [] none none none) ⟨d4,_,[],none,none,none,p4,.inl rfl,rfl,rfl,by simp,rfl⟩ (fun i d δ hd ⟨pd,s7,bs,a,b,c,hpd,h7,hbl,hbt,hall,e⟩=>by
   subst e
   obtain ⟨hi,rfl⟩:=z1V hd
   rw [Q5] at hbl hbt
   obtain ⟨fl,pd',s7',rs',e,hfl,hflt,hpd',h7'⟩:=z6i (m:=m) (n:=r) (f:=f) (wy:=wy) (ts:=ts) (by omega) w1 h1 hpd h7 (bs.map blD) i (by omega) c
   have hz:bs.length < W6:=by rw [z1l]; omega
   have hx:=z6N ts i (by omega)
   refine ⟨_,rb pd' m h w r f s7' wy ((bs ++ [(ts.getD i 0,fl)]).map blD) (some (.pure (.int i))) (some (.own (.lst (fl.map .str)))) rs',rfl,?_,⟨pd',s7',bs ++ [(ts.getD i 0,fl)],_,_,_,hpd',h7',by simp [hbl],?_,?_,rfl⟩⟩
   ·unfold rb at e ⊢
    simp [dAsg,eVar,z5l h (by omega)]
    rw [e]
    rcases h7' with rfl | rfl
    ·simp [z0F,z2r,eOpF,eOpN,bVar,tD,hx,z29,putL,hz,blD]
    ·simp [z0F,z2r,eOpF,eOpN,bVar,tD,hx,z29,putL,hz,blD]
   ·rw [Q5,List.map_append,hbt,Jn]
    simp [show i < ts.length by omega]
   ·intro b hb
    rcases QK.mp hb with hb | hb
    ·exact hall b hb
    ·simp at hb; subst hb; exact ⟨hfl,hflt⟩)
 have hbl':bs.length=1 + r:=by simpa using hbl
 have hbt':bs.map (·.1)=ts:=by
  rw [hbt,List.take_of_length_le]
  simp [hts]
 refine ⟨h,w,bs,pd,?_,⟨h0,h1,w0,w1,hw,by omega,by omega,by rw [hbt']; exact hlt,fun b hb=>hle _ (by rw [← hbt']; exact Q0 hb),fun b hb=>by rw [hbt']; exact hall b hb⟩,by omega,hpd⟩
 unfold z0H gOf z25 runD
 unfold lettersT at ec
 simp [ioOk,z09,dAsg,z0d,ios,ndup,z0Y,evX,mkA,e1,putA,gTp,z0c,z0Z,eVar,e2,pAdd,e3,z9b r (by omega),clrD]
 rw [ec]
 simp [z24,es,e4,putA,eVar,z9b r (by omega)]
 unfold rb lettersT tD at e5
 rw [e5]
 simp [bVar,z29,z0V,z0h,eVar]
theorem gt_int (i j:Int):pGt (.int i) (.int j)=some (.pure (.bl (decide (j < i)))):=rfl
theorem zfk (i j:Int):pEq (.int i) (.int j)=some (.pure (.bl (i == j))):=rfl
theorem add_int (i j:Int):pAdd (.int i) (.int j)=some (.pure (.int (i + j))):=rfl
theorem z6e (h w:Nat) (bs:List (Nat×List Tx)):pIx (ruD h w bs) (.int 0)=some (.pure (.int h))∧pIx (ruD h w bs) (.int 1)=some (.pure (.int w))∧pIx (ruD h w bs) (.int 2)=some (.pure (.tup (bs.map blD))):=by
 refine ⟨?_,?_,?_⟩
 ·simp [pIx,z4p]
 ·simp [pIx,z7y]
 ·simp [pIx,z7x]
theorem z3e (np:List Nat) (n:Nat) (b:DS) (ss:List S):gOf np n b ss=if ioOk np 0 ss then (match b (z09 n ss) with
 | .ok fl δ=>(z0V fl).bind fun r=>(z0h 0 ss δ).map fun outs=>(r,outs)
 | _=>none) else none:=rfl
def dcM (bs:List (Nat×List Tx)):D:=.dct (bs.map fun b=>(Sum.inr [b.1],flD b.2))
theorem z6k:∀ (kps acc:List (DKey×D)),((acc ++ kps).map (·.1)).Nodup→z7b kps acc=acc ++ kps
 | [],acc,_=>by simp [z7b]
 | p :: r,acc,h=>by
  have hn:(acc.any fun kv=>decide (kv.1=p.1))=false:=by
   rw [Jk]
   intro kv hkv
   simp only [decide_eq_true_eq]
   intro e
   rw [List.map_append,List.nodup_append] at h
   exact h.2.2 kv.1 (Q0 hkv) p.1 (Q0 Wm) e
  have hp:putD acc p.1 p.2=acc ++ [p]:=by
   unfold putD
   rw [hn]
   simp
  show z7b r (putD acc p.1 p.2)=_
  rw [hp,z6k r (acc ++ [p]) (by simpa using h)]
  simp
theorem z7P:∀ bs:List (Nat×List Tx),z2Y (bs.map blD)=some (bs.map fun b=>(Sum.inr [b.1],flD b.2))
 | []=>rfl
 | b :: r=>by
  have:=z7P r
  simp only [Wu]
  simp [z2Y,keyD,this]
theorem zbB (R:Rul h w bs):z1D (.tup (bs.map blD))=some (.own (dcM bs)):=by
 unfold z1D
 simp only [z7P,Ww,Wz]
 have hz:W6=16777216:=rfl
 rw [if_pos (by have:=R.n1; omega),z6k]
 ·rfl
 ·simp only [Qv,Ql]
  rw [List.nodup_iff_pairwise_ne,List.pairwise_map]
  have:=R.up
  rw [List.pairwise_map] at this
  exact this.imp fun {a b} hab=>by simp; omega
theorem zbO (bs:List (Nat×List Tx)) (n:Nat):valD (bs.map fun b=>((Sum.inr [b.1]:DKey),flD b.2)) (.inr [n])=(bs.find? fun b=>decide (b.1=n)).map fun b=>flD b.2:=by
 unfold valD
 rw [List.find?_map]
 simp [Function.comp_def]
theorem zdf (h:n ∈ bs.map (·.1)):pIxX (dcM bs) (.str [n])=some (.pure (flD (blk bs n))):=by
 obtain ⟨b,hb,_,e,e2⟩:=z65 h
 show ((keyD (.str [n])).bind fun k=>(valD (bs.map fun b=>((Sum.inr [b.1]:DKey),flD b.2)) k).map S.pure)=_
 simp only [keyD,Ww,zbO,e,WA,e2]
theorem zf8 (h:n ∈ bs.map (·.1)):pIn true (.str [n]) (dcM bs)=some (.pure (.bl false)):=by
 obtain ⟨b,hb,_,e,e2⟩:=z65 h
 show ((keyD (.str [n])).map fun k=>S.pure (.bl (if true then !(valD (bs.map fun b=>((Sum.inr [b.1]:DKey),flD b.2)) k).isSome else (valD (bs.map fun b=>((Sum.inr [b.1]:DKey),flD b.2)) k).isSome)))=_
 simp only [keyD,WA,zbO,e,WA]
 rfl
theorem z9T (xs:List Tx) (m:Nat) (h:∀ x ∈ xs,x.length≤m):z2z xs≤xs.length * m:=by
 induction xs with
 | nil=>simp [z2z]
 | cons x r ih =>
  have h1:=h x Wm
  have h2:=ih fun y hy=>h y (Wi _ hy)
  have e:z2z (x :: r)=x.length + z2z r:=by simp [z2z]
  rw [e,WO,Nat.succ_mul]
  omega
theorem z8w (xs:List Tx) (h:z2z xs≤16777216):z2y [] (.lst (xs.map .str))=some (.pure (.str xs.flatten)):=by
 unfold z2y
 simp only [z4l,z2E]
 rw [if_pos (by simpa using h)]
theorem mul_int (i j:Int) (h0:0≤j) (h1:j≤1000):z1S (.int i) (.int j)=some (.pure (.int (i * j))):=by
 unfold z1S pMul pII
 have:cMul i j=true:=by unfold cMul; simp; omega
 simp only [this,if_true]
theorem zfc (e:b (z09 n [.pure x,.pure y,.pure z]) = .ok (.ret v) δ1):gOf [] n b [.pure x,.pure y,.pure z]=some (v,[.pure x,.pure y,.pure z]):=by
 rw [z3e,e]; rfl
theorem zc8 (e:b (z09 n [.pure x]) = .ok (.ret v) δ1):gOf [] n b [.pure x]=some (v,[.pure x]):=by
 rw [z3e,e]; rfl
theorem z0k (h:a δ = .ok .next δ1):dSeq a b δ=b δ1:=by unfold dSeq; rw [h]; rfl
theorem z77 (h:a δ = .ok (.ret v) δ1):dSeq a b δ = .ok (.ret v) δ1:=by unfold dSeq; rw [h]; rfl
theorem z6H (h:it δ = .ok ds δ1):dFor it g b δ=forL g b ds δ1:=by unfold dFor; rw [h]; rfl
theorem z2Q (np:List Nat) (n:Nat) (b:DS) (ss:List S):gOfX np n b ss=if ioOk np 0 ss then (match b (z09 n ss) with
 | .ok fl δ=>(z0V fl).bind fun r=>(z0h 0 ss δ).map fun outs=>.inl (r,outs)
 | .exc x δ=>(z0h 0 ss δ).map fun outs=>.inr (x,outs)
 | .stuck=>none) else none:=rfl
@[simp] theorem zdu {α β:Type} (x:Xc) (δ:Dl) (f:α→Dl→Rs β):(Rs.exc x δ:Rs α).bind f = .exc x δ:=id rfl
theorem zbQ (ts:List Nat):z2b (ts.map fun n=>D.str [n])=some (ts.map fun n=>[n]):=by
 have:=z4l (ts.map fun n=>[n])
 simpa [Ql,Function.comp_def] using this
section
variable {ce:Tx→Nat}
theorem zdo (hz:z ∈ ys):ys.find? (fun x=>ce x == ce z)=some z:=by
 have e:z=[78,111,84,105,108,101]:=by simpa [ys] using hz
 subst e
 simp [ys]
theorem is0 (hz:z ∈ ys) (fl:D) (tab:Tx→Bool) (rest:Dl):eIsC ce ys tab (bVar 0) (some (.pure (.exc (ce z) fl)) :: rest) = .ok (.pure (.bl (tab z))) (some (.pure (.exc (ce z) fl)) :: rest):=by
 have e:z=[78,111,84,105,108,101]:=by simpa [ys] using hz
 subst e
 simp [eIsC,bVar,ys]
theorem zcJ (fl:D):z0S ce [.pure (.exc (ce [78,111,84,105,108,101]) fl)]=some (.pure (.str [116,105,108,101]),[.pure (.exc (ce [78,111,84,105,108,101]) fl)]):=by
 have i0:=is0 (ce:=ce) (z:=[78,111,84,105,108,101]) (by simp [ys]) fl
 have c1:z5n (.lst [.bl false,.bl false,.bl false,.bl false,.bl false,.bl true,.bl false,.bl false,.bl false])=some (.pure (.int 1)):=by rfl
 have c2:z3U (.lst [.bl false,.bl false,.bl false,.bl false,.bl false,.bl true,.bl false,.bl false,.bl false])=some (.pure (.int 5)):=by rfl
 rw [z0S,z3e,z26]
 generalize ce [78,111,84,105,108,101]=n at *
 simp [ioOk,z09,dAsg,i0,eOpF,eOpN,bVar,pAdd,z1l,z0F,z2r,putL,dTr,c1,c2,pNe,flat,eqD,pIx,atI,ixN,z0V,z0h]
theorem zcD (n:Int):z1a [.pure (.int n)]=some (.pure (.bl true),[.pure (.int n)]):=rfl
end
theorem z78 (h:a δ = .exc v δ1):dSeq a b δ = .exc v δ1:=by unfold dSeq; rw [h]; rfl
theorem zeo (R:Rul h w bs) (hb:bs[i]? = some b):putD ((bs.take i).map fun b=>((Sum.inr [b.1]:DKey),flD b.2)) (.inr [b.1]) (flD b.2)=(bs.take (i + 1)).map fun b=>((Sum.inr [b.1]:DKey),flD b.2):=by
 have hi:=(Wb.mp hb).1
 have hn:(((bs.take i).map fun b=>((Sum.inr [b.1]:DKey),flD b.2)).any fun kv=>decide (kv.1 = .inr [b.1]))=false:=by
  rw [Jk]
  intro kv hkv
  obtain ⟨c,hc,rfl⟩:=Qm.mp hkv
  simp only [decide_eq_true_eq]
  intro e
  simp at e
  obtain ⟨j,hj⟩:=List.getElem?_of_mem hc
  have hji:j < i:=by have:=(Wb.mp hj).1; simp at this; omega
  rw [List.getElem?_take_of_lt hji] at hj
  have:=List.pairwise_iff_getElem.mp R.up j i (by simp; omega) (by simpa using hi) hji
  have e1:=(Wb.mp hj).2
  have e2:=(Wb.mp hb).2
  simp only [List.getElem_map,e1,e2] at this
  omega
 unfold putD
 rw [hn,Jn,hb]
 simp
theorem fill (R:Rul h w bs) (df:D):∃ o3 o4:Option D,forL (gTp 2 (z0c (gNm [] 3) (z0c (gNm [] 4) z0Z))) (z4R 2 (eVar 3) (eVar 4)) (bs.map blD) [some (.pure (ruD h w bs)),some (.pure df),some (.own (.dct [])),none,none,none,none,none]
  = .ok .next [some (.pure (ruD h w bs)),some (.pure df),some (.own (dcM bs)),o3.map .pure,o4.map .pure,none,none,none]:=by
 obtain ⟨δ',e,o3,o4,rfl⟩:=z1G (g:=(gTp 2 (z0c (gNm [] 3) (z0c (gNm [] 4) z0Z)))) (b:=(z4R 2 (eVar 3) (eVar 4))) (fun k δ=>∃ o3 o4:Option D,δ=[some (.pure (ruD h w bs)),some (.pure df),some (.own (.dct ((bs.take k).map fun b=>((Sum.inr [b.1]:DKey),flD b.2)))),o3.map .pure,o4.map .pure,none,none,none]) (bs.map blD) 0 [some (.pure (ruD h w bs)),some (.pure df),some (.own (.dct [])),none,none,none,none,none] ⟨none,none,by simp⟩ (fun i d δ hd ⟨o3,o4,e⟩=>by
  subst e
  rw [Wv,WM] at hd
  obtain ⟨b,hb,rfl⟩:=hd
  rw [Q5]
  have hp:=zeo R hb
  have hz:((bs.take i).map fun b=>((Sum.inr [b.1]:DKey),flD b.2)).length < W6:=by
   have:=R.n1
   rw [z1l]; simp; omega
  refine ⟨_,_,rfl,?_,some (.str [b.1]),some (flD b.2),rfl⟩
  generalize ((bs.take (i + 1)).map fun b=>((Sum.inr [b.1]:DKey),flD b.2))=L1 at *
  generalize ((bs.take i).map fun b=>((Sum.inr [b.1]:DKey),flD b.2))=L0 at *
  generalize ruD h w bs=ru at *
  generalize flD b.2=fb at *
  simp [z4R,z5q,eVar,keyD,hz,hp])
 refine ⟨o3,o4,?_⟩
 rw [e]
 simp [dcM]
theorem zel (R:Rul h w bs) (F:Fl2 bs A C fl) (hA:A≤3000) (hC:C≤3000) :
  gOf [] 8 (z2K) [.pure (ruD h w bs),.pure (flD fl)]=some (.pure (flD (lay h bs fl)),[.pure (ruD h w bs),.pure (flD fl)]):=by
 unfold z2K
 have h1:=R.h1
 have w1:=R.w1
 have x0:=(z6e h w bs).1
 have x2:=(z6e h w bs).2.2
 -- one new row
 have comp:∀ (o4:Option S) (acc:List Tx) (row:Tx) (l:Nat),row ∈ fl→l < h→z1s [3] (gNm [] 3) dYes (eOp pIx (eOpF pIxX 2 (bVar 3)) (bVar 7)) (row.map fun n=>.str [n]) [some (.pure (ruD h w bs)),some (.pure (flD fl)),some (.own (dcM bs)),none,o4,some (.own (.lst (acc.map .str))),some (.pure (.str row)),some (.pure (.int l))] [] = .ok ((row.map fun n=>(blk bs n).getD l []).map .str) [some (.pure (ruD h w bs)),some (.pure (flD fl)),some (.own (dcM bs)),none,o4,some (.own (.lst (acc.map .str))),some (.pure (.str row)),some (.pure (.int l))]:=fun o4 acc row l hrow hl=>by
  have e:=z5t (cs:=[3]) (g:=gNm [] 3) (t:=dYes) (el:=(eOp pIx (eOpF pIxX 2 (bVar 3)) (bVar 7))) (fun n:Nat=>D.str [n]) (fun n=>.str ((blk bs n).getD l [])) [some (.pure (ruD h w bs)),some (.pure (flD fl)),some (.own (dcM bs)),none,o4,some (.own (.lst (acc.map .str))),some (.pure (.str row)),some (.pure (.int l))] row [] (by rw [z1l,F.cols row hrow]; simp; omega) (fun n hn=>by
   have hm:=F.tl row hrow n hn
   have y1:=zdf hm
   have y2:=(z47 R hm hl).2.2
   refine ⟨_,_,.pure (.str ((blk bs n).getD l [])),[some (.pure (ruD h w bs)),some (.pure (flD fl)),some (.own (dcM bs)),some (.pure (.str [n])),o4,some (.own (.lst (acc.map .str))),some (.pure (.str row)),some (.pure (.int l))],rfl,rfl,?_,rfl,rfl⟩
   generalize D.str ((blk bs n).getD l [])=dr at *
   generalize flD (blk bs n)=db at *
   generalize flD fl=df at *
   generalize dcM bs=dd at *
   generalize ruD h w bs=ru at *
   generalize acc.map D.str=ad at *
   simp [eOpF,eOpN,bVar,y1,y2])
  rw [e]
  simp [Function.comp_def]
 -- the rows of one row
 have inner:∀ (o3:Option D) (o4:Option S) (acc:List Tx) (row:Tx) (o:Option S),row ∈ fl→acc.length≤20000→∃ o',forL (gNm [] 7) (z0F 5 (eC1 (z2y []) (bOf (z2t [3] (iSq (eVar 6)) (gNm [] 3) dYes (eOp pIx (eOpF pIxX 2 (bVar 3)) (bVar 7)))))) (z0G 0 h) [some (.pure (ruD h w bs)),some (.pure (flD fl)),some (.own (dcM bs)),o3.map .pure,o4,some (.own (.lst (acc.map .str))),some (.pure (.str row)),o]
   = .ok .next [some (.pure (ruD h w bs)),some (.pure (flD fl)),some (.own (dcM bs)),o3.map .pure,o4,some (.own (.lst ((acc ++ layR h bs row).map .str))),some (.pure (.str row)),o']:=fun o3 o4 acc row o hrow hacc=>by
  obtain ⟨δ',e,o',rfl⟩:=z1G (g:=gNm [] 7) (b:=(z0F 5 (eC1 (z2y []) (bOf (z2t [3] (iSq (eVar 6)) (gNm [] 3) dYes (eOp pIx (eOpF pIxX 2 (bVar 3)) (bVar 7))))))) (fun k δ=>∃ o,δ=[some (.pure (ruD h w bs)),some (.pure (flD fl)),some (.own (dcM bs)),o3.map .pure,o4,some (.own (.lst ((acc ++ layR k bs row).map .str))),some (.pure (.str row)),o]) (z0G 0 h) 0 [some (.pure (ruD h w bs)),some (.pure (flD fl)),some (.own (dcM bs)),o3.map .pure,o4,some (.own (.lst (acc.map .str))),some (.pure (.str row)),o] ⟨o,by simp [layR]⟩ (fun i d δ hd ⟨o,e⟩=>by
   subst e
   obtain ⟨hi,rfl⟩:=z1V hd
   rw [Q5]
   have hc:=comp o4 (acc ++ layR i bs row) row i hrow hi
   have hj:z2y [] (.lst ((row.map fun n=>(blk bs n).getD i []).map .str))=some (.pure (.str (lay1 bs i row))):=z8w _ (by
    have hs:=z9T (row.map fun n=>(blk bs n).getD i []) w (fun x hx=>by
     obtain ⟨n,hn,rfl⟩:=Qm.mp hx
     rw [(z47 R (F.tl row hrow n hn) hi).1]
     exact We _)
    rw [Wz,F.cols row hrow] at hs
    have:C * w≤3000 * 4:=Nat.mul_le_mul hC w1
    omega)
   have hz:((acc ++ layR i bs row).map D.str).length < W6:=by
    rw [z1l]
    simp [layR]
    omega
   have hE:(acc ++ layR (i + 1) bs row).map D.str=(acc ++ layR i bs row).map D.str ++ [.str (lay1 bs i row)]:=by
    simp [layR,List.range_succ]
   refine ⟨_,[some (.pure (ruD h w bs)),some (.pure (flD fl)),some (.own (dcM bs)),o3.map .pure,o4,some (.own (.lst ((acc ++ layR (i + 1) bs row).map .str))),some (.pure (.str row)),some (.pure (.int i))],rfl,?_,_,rfl⟩
   rw [hE]
   generalize lay1 bs i row=nr at *
   generalize (row.map fun n=>(blk bs n).getD i []).map D.str=XS at *
   generalize (acc ++ layR i bs row).map D.str=AD at *
   generalize flD fl=df at *
   generalize dcM bs=dd at *
   generalize ruD h w bs=ru at *
   cases o3 <;> (simp [z0F,z2r,z60,eVar,z0Y,clrD]; rw [hc]; simp [z24,hj,putL,hz]))
  rw [Q5,z6M] at e
  exact ⟨o',e⟩
 obtain ⟨o3,o4',ef⟩:=fill R (flD fl)
 generalize o4'.map S.pure=o4 at ef
 have outer:∃ o6 o7,forL (gNm [] 6) (dFor (z12 (eOpF pIx 0 (bOf (eD (.int 0))))) (gNm [] 7) (z0F 5 (eC1 (z2y []) (bOf (z2t [3] (iSq (eVar 6)) (gNm [] 3) dYes (eOp pIx (eOpF pIxX 2 (bVar 3)) (bVar 7))))))) (fl.map .str) [some (.pure (ruD h w bs)),some (.pure (flD fl)),some (.own (dcM bs)),o3.map .pure,o4,some (.own (.lst [])),none,none]
   = .ok .next [some (.pure (ruD h w bs)),some (.pure (flD fl)),some (.own (dcM bs)),o3.map .pure,o4,some (.own (.lst ((lay h bs fl).map .str))),o6,o7]:=by
  obtain ⟨δ',e,o6,o7,rfl⟩:=z1G (g:=gNm [] 6) (b:=(dFor (z12 (eOpF pIx 0 (bOf (eD (.int 0))))) (gNm [] 7) (z0F 5 (eC1 (z2y []) (bOf (z2t [3] (iSq (eVar 6)) (gNm [] 3) dYes (eOp pIx (eOpF pIxX 2 (bVar 3)) (bVar 7)))))))) (fun k δ=>∃ o6 o7,δ=[some (.pure (ruD h w bs)),some (.pure (flD fl)),some (.own (dcM bs)),o3.map .pure,o4,some (.own (.lst ((lay h bs (fl.take k)).map .str))),o6,o7]) (fl.map D.str) 0 [some (.pure (ruD h w bs)),some (.pure (flD fl)),some (.own (dcM bs)),o3.map .pure,o4,some (.own (.lst [])),none,none] ⟨none,none,by simp [lay]⟩ (fun i d δ hd ⟨o6,o7,e⟩=>by
   subst e
   rw [Wv,WM] at hd
   obtain ⟨row,hrow,rfl⟩:=hd
   rw [Q5]
   have hi:i < fl.length:=(Wb.mp hrow).1
   have hlen:(lay h bs (fl.take i)).length≤20000:=by
    have F':Fl2 bs (fl.take i).length C (fl.take i):=⟨rfl,fun r hr=>F.cols r (List.mem_of_mem_take hr),fun r hr=>F.tl r (List.mem_of_mem_take hr)⟩
    have:=(zc6 R F').rows
    rw [this]
    have h2:(fl.take i).length≤3000:=by have:=F.rows; rw [QV]; omega
    have:(fl.take i).length * h≤3000 * 4:=Nat.mul_le_mul h2 h1
    omega
   obtain ⟨o',e⟩:=inner o3 o4 (lay h bs (fl.take i)) row o7 (WC hrow) hlen
   have hE:lay h bs (fl.take (i + 1))=lay h bs (fl.take i) ++ layR h bs row:=by
    rw [Jn,hrow]
    simp [lay]
   refine ⟨_,[some (.pure (ruD h w bs)),some (.pure (flD fl)),some (.own (dcM bs)),o3.map .pure,o4,some (.own (.lst ((lay h bs (fl.take (i + 1))).map .str))),some (.pure (.str row)),o'],rfl,?_,_,_,rfl⟩
   rw [hE]
   generalize (lay h bs (fl.take i) ++ layR h bs row).map D.str=AD at *
   generalize (lay h bs (fl.take i)).map D.str=AE at *
   generalize flD fl=df at *
   generalize dcM bs=dd at *
   generalize ruD h w bs=ru at *
   simp only [zdt,zad,eOpF,eOpN,bVar,zca,zfi,List.set_cons_succ,List.set_cons_zero,Qo,List.getElem?_cons_zero,z0K,zfj,zfg,x0,z5l h (by omega:h≤1000000)]
   exact e)
  refine ⟨o6,o7,?_⟩
  rw [e]
  simp
 obtain ⟨o6,o7,e⟩:=outer
 rw [z3e]
 generalize hAD:(lay h bs fl).map D.str=AD at *
 generalize dcM bs=dd at *
 generalize hru:ruD h w bs=ru at *
 simp [ioOk,z09,dAsg,z60,eVar,z6P,eOpF,eOpN,bVar,x2]
 rw [ef]
 simp only [z0K]
 simp [z60,eVar]
 rw [e]
 simp [bVar,z29,z0V,z0h]
 exact hAD.symm
theorem ze9 (R:Rul h w bs) (F:Fl2 bs A C fl) (hA:A≤3000) (hC:C≤3000):z0T [.pure (ruD h w bs),.pure (flD fl)]=some (.pure (flD (lay h bs fl)),[.pure (ruD h w bs),.pure (flD fl)]):=by
 rw [z0T,z3l]
 exact zel R F hA hC
theorem z8i (k t:Nat):z0G (k:Int) (t + 1) = .int (k:Int) :: z0G ((k + 1:Nat):Int) t:=by
 unfold z0G
 rw [List.range_succ_eq_map,Wu,Ql]
 simp only [Function.comp_def,Jp,D.int.injEq]
 refine ⟨by simp,List.map_congr_left fun i _=>?_⟩
 simp only [D.int.injEq]
 push_cast
 omega
theorem z9J (R:Rul h w bs) (F:Fl2 bs A C fl) (T2:D):∀ (t k:Nat) (s8:Option S),(∀ i,i < k + t→A * h ^ i≤3000∧C * w ^ i≤3000) →
  ∃ s,forL (gNm [] 3) (dAsg (z0d z0T [.val (eVar 0),.val (eVar 1)]) (gNm [] 1)) (z0G (k:Int) t) [some (.pure (ruD h w bs)),some (.pure (flD (z3c h bs fl k))),some (.pure T2),s8] =
   .ok .next [some (.pure (ruD h w bs)),some (.pure (flD (z3c h bs fl (k + t)))),some (.pure T2),s]
 | 0,k,s8,_=>⟨s8,rfl⟩
 | t + 1,k,s8,hb=>by
  obtain ⟨b1,b2⟩:=hb k (by omega)
  have e:=ze9 R (z5V R F k) b1 b2
  obtain ⟨s,e2⟩:=z9J R F T2 t (k + 1) (some (.pure (.int k))) (fun i hi=>hb i (by omega))
  refine ⟨s,?_⟩
  rw [z8i,show k + (t + 1)=k + 1 + t by omega]
  refine Eq.trans ?_ e2
  show (dAsg (z0d z0T [.val (eVar 0),.val (eVar 1)]) (gNm [] 1) [some (.pure (ruD h w bs)),some (.pure (flD (z3c h bs fl k))),some (.pure T2),some (.pure (.int k))]).bind _=_
  have st:dAsg (z0d z0T [.val (eVar 0),.val (eVar 1)]) (gNm [] 1) [some (.pure (ruD h w bs)),some (.pure (flD (z3c h bs fl k))),some (.pure T2),some (.pure (.int k))] =
    .ok .next [some (.pure (ruD h w bs)),some (.pure (flD (z3c h bs fl (k + 1)))),some (.pure T2),some (.pure (.int k))]:=by
   show _=Rs.ok Fl.next [some (.pure (ruD h w bs)),some (.pure (flD (lay h bs (z3c h bs fl k)))),some (.pure T2),some (.pure (.int k))]
   generalize flD (lay h bs (z3c h bs fl k))=Y at *
   generalize flD (z3c h bs fl k)=X at *
   generalize ruD h w bs=V at *
   simp [dAsg,z0d,ios,ndup,evX,eVar,mkA,e,putA]
  rw [st]
  rfl
theorem z79 (R:Rul h w bs) (F:Fl2 bs A C fl) (k:Nat) (hk:k≤1000) (hb:∀ i,i < k→A * h ^ i≤3000∧C * w ^ i≤3000) :
  z0z [.pure (ruD h w bs),.pure (flD fl),.pure (.int k)]=some (.pure (flD (z3c h bs fl k)),[.pure (ruD h w bs),.pure (flD fl),.pure (.int k)]):=by
 obtain ⟨s,e⟩:=z9J R F (.int k) k 0 none (fun i hi=>hb i (by omega))
 rw [Q5] at e
 have e':forL (gNm [] 3) (dAsg (z0d z0T [.val (eVar 0),.val (eVar 1)]) (gNm [] 1)) (z0G 0 k) [some (.pure (ruD h w bs)),some (.pure (flD fl)),some (.pure (.int k)),none]=_:=e
 rw [z0z,z3e,z1u]
 generalize flD (z3c h bs fl k)=Y at *
 generalize flD fl=U at *
 generalize ruD h w bs=V at *
 simp [ioOk,z09,eVar,z5l k (by omega)]
 rw [e']
 simp [eVar,z0V,z0h]
theorem z6I (h1:g (.pure d) δ=some δ1) (h2:b δ1 = .ok .next δ2):forL g b (d :: r) δ=forL g b r δ2:=by
 conv=>lhs; unfold forL
 rw [h1]
 simp only [h2,z0K]
abbrev xN (d:D):Xc:=⟨[78,111,84,105,108,101],.xd [([116,105,108,101],d)]⟩
theorem zdH (e:b (z09 n [.pure x,.pure y]) = .ok .next δ1):gOfX [] n b [.pure x,.pure y]=some (.inl (.pure .non,[.pure x,.pure y])):=by
 rw [z2Q,e]; rfl
theorem zbM (e:b (z09 n [.pure x,.pure y]) = .exc v δ1):gOfX [] n b [.pure x,.pure y]=some (.inr (v,[.pure x,.pure y])):=by
 rw [z2Q,e]; rfl
def Bad (bs:List (Nat×List Tx)) (d:D):Prop:=isTy "str" d=some false∨∃ z,d = .str z∧∀ n ∈ bs.map (·.1),z≠[n]
theorem zeR (h:∀ n ∈ bs.map (·.1),z≠[n]):pIn true (.str z) (dcM bs)=some (.pure (.bl true)):=by
 have hv:valD (bs.map fun b=>((Sum.inr [b.1]:DKey),flD b.2)) (.inr z)=none:=by
  unfold valD
  have:(bs.map fun b=>((Sum.inr [b.1]:DKey),flD b.2)).find? (fun kv=>decide (kv.1 = .inr z))=none:=List.find?_eq_none.mpr fun kv hk e=>by
   obtain ⟨b,hb,rfl⟩:=Qm.mp hk
   simp at e
   exact h b.1 (Q0 hb) e.symm
  rw [this]
  rfl
 show ((keyD (.str z)).map fun k=>S.pure (.bl (if true then !(valD (bs.map fun b=>((Sum.inr [b.1]:DKey),flD b.2)) k).isSome else (valD (bs.map fun b=>((Sum.inr [b.1]:DKey),flD b.2)) k).isSome)))=_
 simp [keyD,hv]
theorem ze7 (R:Rul h w bs) (ht:t0 ∈ bs.map (·.1)):z0r [.pure (ruD h w bs),.pure (.str [t0])]=some (.inl (.pure .non,[.pure (ruD h w bs),.pure (.str [t0])])):=by
 have x2:=(z6e h w bs).2.2
 have hd:=zbB R
 have hi:=zf8 ht
 rw [z0r,z1e]
 generalize ruD h w bs=ru at *
 generalize D.tup (bs.map blD)=bd at *
 generalize dcM bs=dd at *
 refine zdH (δ1:=[some (.pure ru),some (.pure (.str [t0]))]) ?_
 simp [z09,dTr,eIsi,isTy,bVar,eVar,eOpF,eOpN,x2,hd,hi]
theorem zcG (R:Rul h w bs) (hb:Bad bs d):z0r [.pure (ruD h w bs),.pure d]=some (.inr (xN d,[.pure (ruD h w bs),.pure d])):=by
 have x2:=(z6e h w bs).2.2
 have hd:=zbB R
 rw [z0r,z1e]
 rcases hb with hb | ⟨z,rfl,hz⟩
 ·generalize ruD h w bs=ru at *
  refine zbM (δ1:=[some (.pure ru),some (.pure d)]) ?_
  simp [z09,dTr,eIsi,hb,bVar,eVar,z42]
 ·have hi:=zeR hz
  generalize ruD h w bs=ru at *
  generalize D.tup (bs.map blD)=bd at *
  generalize dcM bs=dd at *
  refine zbM (δ1:=[some (.pure ru),some (.pure (.str z))]) ?_
  simp [z09,dTr,eIsi,isTy,bVar,eVar,eOpF,eOpN,x2,hd,hi,z42]
theorem zbK {b:DS} {n:Nat} {x y z u:D} {v:S} {δ1:Dl} (e:b (z09 n [.pure x,.pure y,.pure z,.pure u]) = .ok (.ret v) δ1):gOfX [] n b [.pure x,.pure y,.pure z,.pure u]=some (.inl (v,[.pure x,.pure y,.pure z,.pure u])):=by
 rw [z2Q,e]; rfl
theorem zbL {b:DS} {n:Nat} {x y z u:D} {v:Xc} {δ1:Dl} (e:b (z09 n [.pure x,.pure y,.pure z,.pure u]) = .exc v δ1):gOfX [] n b [.pure x,.pure y,.pure z,.pure u]=some (.inr (v,[.pure x,.pure y,.pure z,.pure u])):=by
 rw [z2Q,e]; rfl
theorem zdG {b:DS} {n:Nat} {x y z u a:D} {v:S} {δ1:Dl} (e:b (z09 n [.pure x,.pure y,.pure z,.pure u,.pure a]) = .ok (.ret v) δ1):gOfX [] n b [.pure x,.pure y,.pure z,.pure u,.pure a]=some (.inl (v,[.pure x,.pure y,.pure z,.pure u,.pure a])):=by
 rw [z2Q,e]; rfl
theorem zdI {b:DS} {n:Nat} {x y z u a:D} {v:Xc} {δ1:Dl} (e:b (z09 n [.pure x,.pure y,.pure z,.pure u,.pure a]) = .exc v δ1):gOfX [] n b [.pure x,.pure y,.pure z,.pure u,.pure a]=some (.inr (v,[.pure x,.pure y,.pure z,.pure u,.pure a])):=by
 rw [z2Q,e]; rfl
theorem zc7 {b:DS} {n:Nat} {x y z u:D} {v:S} {δ1:Dl} (e:b (z09 n [.pure x,.pure y,.pure z,.pure u]) = .ok (.ret v) δ1):gOf [] n b [.pure x,.pure y,.pure z,.pure u]=some (v,[.pure x,.pure y,.pure z,.pure u]):=by
 rw [z3e,e]; rfl
theorem zfb {b:DS} {n:Nat} {x y z u a:D} {v:S} {δ1:Dl} (e:b (z09 n [.pure x,.pure y,.pure z,.pure u,.pure a]) = .ok (.ret v) δ1):gOf [] n b [.pure x,.pure y,.pure z,.pure u,.pure a]=some (v,[.pure x,.pure y,.pure z,.pure u,.pure a]):=by
 rw [z3e,e]; rfl
abbrev fbC:DE:=eOp pIx (eOp pIx (eOpF pIxX 3 (bVar 0)) (bVar 2)) (bVar 1)
theorem zbF {h w r c n:Nat} {bs:List (Nat×List Tx)} (R:Rul h w bs) (hr:r < h) (hc:c < w) (hn:n ∈ bs.map (·.1)):cloF fbC [.int c,.int r,dcM bs] (.str [n])=some (.str [z4U bs r c n]):=by
 obtain ⟨h1,h2,h3⟩:=z47 R hn hr
 have hx:=zdf hn
 have hw:=R.w1
 have hs:pIx (.str ((blk bs n).getD r [])) (.int c)=some (.pure (.str [z4U bs r c n])):=z3J _ _ (by omega) (by omega)
 unfold cloF fbC
 generalize dcM bs=DD at *
 generalize (blk bs n).getD r []=RR at *
 generalize z4U bs r c n=z at *
 generalize flD (blk bs n)=FB at *
 simp [eOpF,eOpN,bVar,hx,h3,hs,S.d]
def z54 (p:List Nat×Nat):D:=.tup [.lst (p.1.map fun n=>.str [n]),.int (p.2:Nat)]
theorem z8L {h w r c t:Nat} {bs:List (Nat×List Tx)} (R:Rul h w bs) (hr:r < h) (hc:c < w) (ht:t ∈ bs.map (·.1)):∃ p,wn (z4U bs r c) 999999 [] t=some p∧Wk (z4U bs r c) t (bs.map (·.1)) p∧z8a (cloF fbC [.int c,.int r,dcM bs]) (.str [t])=some (z54 p):=by
 have n1:=R.n1
 obtain ⟨p,hp,W⟩:=zdK (f:=z4U bs r c) (ts:=bs.map (·.1)) (fun n hn=>z62 R hr hc hn) ht (n:=999999) (by simp; omega)
 refine ⟨p,hp,W,?_⟩
 have hk:=zdL (F:=cloF fbC [.int c,.int r,dcM bs]) (f:=z4U bs r c) (ts:=bs.map (·.1)) (fun n hn=>⟨zbF R hr hc hn,z62 R hr hc hn⟩) 1000000 [] t ht
 rw [zaH _ 999999 [] t p hp] at hk
 show (wk (cloF fbC [.int c,.int r,dcM bs]) 1000000 [] [t]).map _=_
 rw [show ([]:List Tx)=sg [] from rfl,hk]
 unfold z54 sg
 simp
theorem zcK (GR:DX) (ru:D) (h w t b r R C:Nat) (bd DD PD:D) (hru:ru = .tup [.int h,.int w,bd]) (gr:GR [.pure ru,.pure (.str [t])]=some (.inl (.pure .non,[.pure ru,.pure (.str [t])]))) (hd:z1D bd=some (.own DD))
  (hR:z1S (.int (b:Int)) (.int ((h:Int) - 1))=some (.pure (.int (R:Int)))) (hC:z1S (.int (r:Int)) (.int ((w:Int) - 1))=some (.pure (.int (C:Int)))) (hW:z8a (cloF fbC [.int C,.int R,DD]) (.str [t])=some PD) :
  ∃ δ',(dSeq (z43 (z14 GR [.val (eVar 0),.val (eVar 1)])) (dSeq (dAsg (eVar 0) (gTp 3 (z0c (gNm [] 4) (z0c (gNm [] 5) (z0c (gNm [] 6) z0Z))))) (dSeq (dAsg (eC1 z1D (bVar 6)) (gNm [] 7)) (dSeq (dAsg (eOpF z1S 2 (bOf (eOpF pSub 4 (bOf (eD (.int 1)))))) (gNm [] 8)) (dSeq (dAsg (eOpF z1S 3 (bOf (eOpF pSub 5 (bOf (eD (.int 1)))))) (gNm [] 9)) (dRet (zag (eVar 1) [9,8,7] fbC z8a))))))) [some (.pure ru),some (.pure (.str [t])),some (.pure (.int b)),some (.pure (.int r)),none,none,none,none,none,none] = .ok (.ret (.pure PD)) δ':=by
 have sub_int:∀ i j:Int,pSub (.int i) (.int j)=some (.pure (.int (i - j))):=fun _ _=>rfl
 have e1:z43 (z14 GR [.val (eVar 0),.val (eVar 1)]) [some (.pure ru),some (.pure (.str [t])),some (.pure (.int b)),some (.pure (.int r)),none,none,none,none,none,none] = .ok .next [some (.pure ru),some (.pure (.str [t])),some (.pure (.int b)),some (.pure (.int r)),none,none,none,none,none,none]:=by
  simp [z43,z14,ios,ndup,evX,eVar,mkA,gr,putA]
 have e2:dAsg (eVar 0) (gTp 3 (z0c (gNm [] 4) (z0c (gNm [] 5) (z0c (gNm [] 6) z0Z)))) [some (.pure ru),some (.pure (.str [t])),some (.pure (.int b)),some (.pure (.int r)),none,none,none,none,none,none] = .ok .next [some (.pure ru),some (.pure (.str [t])),some (.pure (.int b)),some (.pure (.int r)),some (.pure (.int h)),some (.pure (.int w)),some (.pure bd),none,none,none]:=by
  rw [hru]
  simp [dAsg,eVar,gTp,z0c,z0Z]
 have e3:dAsg (eC1 z1D (bVar 6)) (gNm [] 7) [some (.pure ru),some (.pure (.str [t])),some (.pure (.int b)),some (.pure (.int r)),some (.pure (.int h)),some (.pure (.int w)),some (.pure bd),none,none,none] = .ok .next [some (.pure ru),some (.pure (.str [t])),some (.pure (.int b)),some (.pure (.int r)),some (.pure (.int h)),some (.pure (.int w)),some (.pure bd),some (.own DD),none,none]:=by
  simp [dAsg,bVar,hd]
 have e4:dAsg (eOpF z1S 2 (bOf (eOpF pSub 4 (bOf (eD (.int 1)))))) (gNm [] 8) [some (.pure ru),some (.pure (.str [t])),some (.pure (.int b)),some (.pure (.int r)),some (.pure (.int h)),some (.pure (.int w)),some (.pure bd),some (.own DD),none,none] = .ok .next [some (.pure ru),some (.pure (.str [t])),some (.pure (.int b)),some (.pure (.int r)),some (.pure (.int h)),some (.pure (.int w)),some (.pure bd),some (.own DD),some (.pure (.int R)),none]:=by
  simp [dAsg,eOpF,eOpN,bVar,sub_int,hR]
 have e5:dAsg (eOpF z1S 3 (bOf (eOpF pSub 5 (bOf (eD (.int 1)))))) (gNm [] 9) [some (.pure ru),some (.pure (.str [t])),some (.pure (.int b)),some (.pure (.int r)),some (.pure (.int h)),some (.pure (.int w)),some (.pure bd),some (.own DD),some (.pure (.int R)),none] = .ok .next [some (.pure ru),some (.pure (.str [t])),some (.pure (.int b)),some (.pure (.int r)),some (.pure (.int h)),some (.pure (.int w)),some (.pure bd),some (.own DD),some (.pure (.int R)),some (.pure (.int C))]:=by
  simp [dAsg,eOpF,eOpN,bVar,sub_int,hC]
 rw [z0k e1,z0k e2,z0k e3,z0k e4,z0k e5]
 generalize hfb:fbC=FB at *
 exact ⟨[some (.pure ru),some (.pure (.str [t])),some (.pure (.int b)),some (.pure (.int r)),some (.pure (.int h)),some (.pure (.int w)),some (.pure bd),some (.pure DD),some (.pure (.int R)),some (.pure (.int C))],by simp [zag,eVar,z4P,S.d,hW]⟩
theorem z7W (b h:Nat) (hb:b≤1) (h0:0 < h) (h1:h≤4):z1S (.int (b:Int)) (.int ((h:Int) - 1))=some (.pure (.int ((b * (h - 1):Nat):Int))):=by
 have:=mul_int (b:Int) ((h:Int) - 1) (by omega) (by omega)
 have e:(b:Int) * ((h:Int) - 1)=((b * (h - 1):Nat):Int):=by
  rw [Int.natCast_mul,Int.natCast_sub (by omega)]
  rfl
 rw [this,e]
theorem z16 {b h:Nat} (hb:b≤1) (h0:0 < h):b * (h - 1) < h:=by
 have:b=0∨b=1:=by omega
 rcases this with rfl | rfl <;> simp <;> omega
abbrev cf (h w:Nat) (bs:List (Nat×List Tx)) (b r:Nat):Nat→Nat:=z4U bs (b * (h - 1)) (r * (w - 1))
theorem z9g {h w t b r:Nat} {bs:List (Nat×List Tx)} (R:Rul h w bs) (hb:b≤1) (hr:r≤1) (ht:t ∈ bs.map (·.1)):∃ p,wn (cf h w bs b r) 999999 [] t=some p∧Wk (cf h w bs b r) t (bs.map (·.1)) p ∧
  z0s [.pure (ruD h w bs),.pure (.str [t]),.pure (.int b),.pure (.int r)]=some (.inl (.pure (z54 p),[.pure (ruD h w bs),.pure (.str [t]),.pure (.int b),.pure (.int r)])):=by
 obtain ⟨p,hp,W,hw⟩:=z8L R (z16 hb R.h0) (z16 hr R.w0) ht
 refine ⟨p,hp,W,?_⟩
 obtain ⟨δ',e⟩:=zcK z0r (ruD h w bs) h w t b r _ _ _ (dcM bs) (z54 p) rfl (ze7 R ht) (zbB R) (z7W b h hb R.h0 R.h1) (z7W r w hr R.w0 R.w1) hw
 rw [z0s,z1H]
 exact zbK e
theorem z7M {h w:Nat} {bs:List (Nat×List Tx)} (R:Rul h w bs) {d:D} (hb:Bad bs d) (b r:D):z0s [.pure (ruD h w bs),.pure d,.pure b,.pure r]=some (.inr (xN d,[.pure (ruD h w bs),.pure d,.pure b,.pure r])):=by
 have g:=zcG R hb
 rw [z0s,z1H]
 generalize ruD h w bs=ru at *
 refine zbL (δ1:=[some (.pure ru),some (.pure d),some (.pure b),some (.pure r),none,none,none,none,none,none]) (z78 ?_)
 simp [z09,z43,z14,ios,ndup,evX,eVar,mkA,g,putA]
theorem sub_int (i j:Int):pSub (.int i) (.int j)=some (.pure (.int (i - j))):=rfl
theorem lt_int (i j:Int):pLt (.int i) (.int j)=some (.pure (.bl (decide (i < j)))):=rfl
theorem za8 (i j:Int):pGe (.int i) (.int j)=some (.pure (.bl (decide (j≤i)))):=rfl
theorem z9Q (i j:Int) (h:0 < j):pMod (.int i) (.int j)=some (.pure (.int (i % j))):=by
 simp only [pMod,pII]; rw [if_pos (by simpa using h)]
abbrev plD (p:List Nat×Nat):D:=.lst (p.1.map fun n=>.str [n])
theorem z9U (p:List Nat×Nat):pLen (plD p)=some (.pure (.int ((p.1.length:Nat):Int))):=by simp [pLen]
theorem zdc {p:List Nat×Nat} {i n:Nat} (h:p.1[i]? = some n):pIx (plD p) (.int (i:Int))=some (.pure (.str [n])):=by
 obtain ⟨hi,e⟩:=Wb.mp h
 simp [pIx,z15,hi,e]
theorem z9Z {p:List Nat×Nat} {g:Nat} (hs:p.2 < p.1.length) (h:¬ g < p.2):((p.2:Nat):Int) + ((g:Int) - (p.2:Nat)) % ((p.1.length:Nat) - (p.2:Nat):Int)=((ixP p g:Nat):Int):=by
 unfold ixP
 rw [if_neg h]
 have e1:(g:Int) - (p.2:Nat)=((g - p.2:Nat):Int):=by omega
 have e2:((p.1.length:Nat):Int) - (p.2:Nat)=((p.1.length - p.2:Nat):Int):=by omega
 rw [e1,e2]
 push_cast
 omega
theorem zcL (GC:DX) (ru tt b r P L:D) (p:List Nat×Nat) (g n:Nat) (hP:P = .tup [L,.int (p.2:Nat)]) (hs:p.2 < p.1.length) (gc:GC [.pure ru,.pure tt,.pure b,.pure r]=some (.inl (.pure P,[.pure ru,.pure tt,.pure b,.pure r]))) (hl:pLen L=some (.pure (.int ((p.1.length:Nat):Int)))) (hx:pIx L (.int ((ixP p g:Nat):Int))=some (.pure (.str [n]))) :
  (dSeq (dAsg (z14 GC [.val (eVar 0),.val (eVar 1),.val (eVar 2),.val (eVar 3)]) (gTp 2 (z0c (gNm [] 5) (z0c (gNm [] 6) z0Z)))) (dSeq (dIf (dTr (eOpF pLt 4 (bVar 6))) (dRet (eOpF pIx 5 (bVar 4))) z19) (dRet (eOpF pIx 5 (bOf (eOpF pAdd 6 (bOf (eOp pMod (eOpF pSub 4 (bVar 6)) (bOf (eOp pSub (eC1 pLen (bVar 5)) (bVar 6))))))))))) [some (.pure ru),some (.pure tt),some (.pure b),some (.pure r),some (.pure (.int (g:Int))),none,none] = .ok (.ret (.pure (.str [n]))) [some (.pure ru),some (.pure tt),some (.pure b),some (.pure r),some (.pure (.int (g:Int))),some (.pure L),some (.pure (.int (p.2:Nat)))]:=by
 have e1:dAsg (z14 GC [.val (eVar 0),.val (eVar 1),.val (eVar 2),.val (eVar 3)]) (gTp 2 (z0c (gNm [] 5) (z0c (gNm [] 6) z0Z))) [some (.pure ru),some (.pure tt),some (.pure b),some (.pure r),some (.pure (.int (g:Int))),none,none] = .ok .next [some (.pure ru),some (.pure tt),some (.pure b),some (.pure r),some (.pure (.int (g:Int))),some (.pure L),some (.pure (.int (p.2:Nat)))]:=by
  simp [dAsg,z14,ios,ndup,evX,eVar,mkA,gc,putA,hP,gTp,z0c,z0Z]
 rw [z0k e1]
 by_cases h:g < p.2
 ·have h':(g:Int) < ((p.2:Nat):Int):=by omega
  have hi:ixP p g=g:=by unfold ixP; rw [if_pos h]
  rw [hi] at hx
  refine z77 ?_
  simp [eOpF,eOpN,bVar,lt_int,h',dTr,hx]
 ·have h':¬ (g:Int) < ((p.2:Nat):Int):=by omega
  have e2:dIf (dTr (eOpF pLt 4 (bVar 6))) (dRet (eOpF pIx 5 (bVar 4))) z19 [some (.pure ru),some (.pure tt),some (.pure b),some (.pure r),some (.pure (.int (g:Int))),some (.pure L),some (.pure (.int (p.2:Nat)))] = .ok .next [some (.pure ru),some (.pure tt),some (.pure b),some (.pure r),some (.pure (.int (g:Int))),some (.pure L),some (.pure (.int (p.2:Nat)))]:=by
   simp [eOpF,eOpN,bVar,lt_int,h',dTr]
  rw [z0k e2]
  have hm:=z9Q ((g:Int) - ((p.2:Nat):Int)) (((p.1.length:Nat):Int) - ((p.2:Nat):Int)) (by omega)
  have hc:=z9Z hs h
  rw [← hc] at hx
  generalize ((g:Int) - ((p.2:Nat):Int)) % (((p.1.length:Nat):Int) - ((p.2:Nat):Int))=m at *
  simp [eOpF,eOpN,bVar,sub_int,hl,hm,add_int,hx]
theorem z9h {h w t b r g:Nat} {bs:List (Nat×List Tx)} (R:Rul h w bs) (hb:b≤1) (hr:r≤1) (ht:t ∈ bs.map (·.1)) :
  z0m [.pure (ruD h w bs),.pure (.str [t]),.pure (.int b),.pure (.int r),.pure (.int (g:Int))]=some (.inl (.pure (.str [itr (cf h w bs b r) t g]),[.pure (ruD h w bs),.pure (.str [t]),.pure (.int b),.pure (.int r),.pure (.int (g:Int))])):=by
 obtain ⟨p,hp,W,gc⟩:=z9g R hb hr ht
 rw [z0m,z1I]
 exact zdG (zcL z0s _ _ _ _ (z54 p) (plD p) p g _ rfl W.st gc (z9U p) (zdc (W.ix g).2))
theorem zaY {h w:Nat} {bs:List (Nat×List Tx)} (R:Rul h w bs) {d:D} (hb:Bad bs d) (b r g:D):z0m [.pure (ruD h w bs),.pure d,.pure b,.pure r,.pure g]=some (.inr (xN d,[.pure (ruD h w bs),.pure d,.pure b,.pure r,.pure g])):=by
 have gc:=z7M R hb b r
 rw [z0m,z1I]
 generalize ruD h w bs=ru at *
 refine zdI (δ1:=[some (.pure ru),some (.pure d),some (.pure b),some (.pure r),some (.pure g),none,none]) (z78 ?_)
 simp [z09,dAsg,z14,ios,ndup,evX,eVar,mkA,gc,putA]
theorem zaZ {h w t b r:Nat} {bs:List (Nat×List Tx)} {p:List Nat×Nat} (gc:z0s [.pure (ruD h w bs),.pure (.str [t]),.pure (.int b),.pure (.int r)]=some (.inl (.pure (z54 p),[.pure (ruD h w bs),.pure (.str [t]),.pure (.int b),.pure (.int r)]))) :
  z0p [.pure (ruD h w bs),.pure (.str [t]),.pure (.int b),.pure (.int r)]=some (.inl (.pure (.tup [.int (p.2:Nat),.int ((p.1.length:Nat) - (p.2:Nat):Int)]),[.pure (ruD h w bs),.pure (.str [t]),.pure (.int b),.pure (.int r)])):=by
 have hl:=z9U p
 have hP:z54 p = .tup [plD p,.int (p.2:Nat)]:=rfl
 rw [z0p,z1v]
 generalize ruD h w bs=ru at *
 generalize plD p=L at *
 generalize z54 p=P at *
 refine zbK (δ1:=[some (.pure ru),some (.pure (.str [t])),some (.pure (.int b)),some (.pure (.int r)),some (.pure L),some (.pure (.int (p.2:Nat)))]) ?_
 subst hP
 simp [z09,dAsg,z14,ios,ndup,evX,eVar,mkA,gc,putA,gTp,z0c,z0Z,bVar,hl,sub_int]
theorem z9i {h w:Nat} {bs:List (Nat×List Tx)} (R:Rul h w bs) {d:D} (hb:Bad bs d) (b r:D):z0p [.pure (ruD h w bs),.pure d,.pure b,.pure r]=some (.inr (xN d,[.pure (ruD h w bs),.pure d,.pure b,.pure r])):=by
 have gc:=z7M R hb b r
 rw [z0p,z1v]
 generalize ruD h w bs=ru at *
 refine zbL (δ1:=[some (.pure ru),some (.pure d),some (.pure b),some (.pure r),none,none]) (z78 ?_)
 simp [z09,dAsg,z14,ios,ndup,evX,eVar,mkA,gc,putA]
theorem z7g:pNeg (.int 1)=some (.pure (.int (-1))):=rfl
theorem zdb (b:Nat) (hb:b≤1):pIx (.lst [.int 0,.int (-1)]) (.int (b:Int))=some (.pure (.int (if b=0 then 0 else -1))):=by
 have:b=0∨b=1:=by omega
 rcases this with rfl | rfl
 ·simp [pIx,atI,ixN]
 ·simp [pIx,atI,ixN]
def sd (b:Nat):Int:=if b=0 then 0 else -1
theorem z70 {α:Type} (xs:List α) (b:Nat) (hb:b≤1) (h:0 < xs.length):atI xs (sd b)=xs[b * (xs.length - 1)]?:=by
 have:b=0∨b=1:=by omega
 unfold atI sd ixN
 rcases this with rfl | rfl
 ·simp [h]
 ·have h1:¬ (0:Int)≤-1:=by decide
  have h2 : -(xs.length:Int)≤-1:=by omega
  have e:(if (1:Nat)=0 then (0:Int) else -1) = -1:=rfl
  rw [e,if_neg h1,if_pos h2]
  have:((-1:Int) + xs.length).toNat=xs.length - 1:=by omega
  simp [this]
theorem zf3 (ds:List D) (b:Nat) (hb:b≤1) (h:0 < ds.length):pIx (.tup ds) (.int (sd b))=pIx (.tup ds) (.int ((b * (ds.length - 1):Nat):Int)):=by
 simp only [pIx]
 rw [z70 ds b hb h,z15]
theorem zf4 (x:Tx) (b:Nat) (hb:b≤1) (h:0 < x.length):pIx (.str x) (.int (sd b))=pIx (.str x) (.int ((b * (x.length - 1):Nat):Int)):=by
 simp only [pIx]
 rw [z70 x b hb h,z15]
theorem z5U (b:Nat) (hb:b≤1):pIx (.lst [.int 0,.int (-1)]) (.int (b:Int))=some (.pure (.int (sd b))):=zdb b hb
theorem zdg {h w b r n:Nat} {bs:List (Nat×List Tx)} (R:Rul h w bs) (hb:b≤1) (hr:r≤1) (hn:n ∈ bs.map (·.1)):∃ row,pIx (flD (blk bs n)) (.int (sd b))=some (.pure (.str row))∧pIx (.str row) (.int (sd r))=some (.pure (.str [cf h w bs b r n])):=by
 have h0:=R.h0
 have w0:=R.w0
 have w1:=R.w1
 obtain ⟨b0,hb0,_,_,hbk⟩:=z65 hn
 have hl:(blk bs n).length=h:=by rw [hbk]; exact (R.blk b0 hb0).1
 obtain ⟨h1,h2,h3⟩:=z47 R hn (z16 hb h0)
 refine ⟨(blk bs n).getD (b * (h - 1)) [],?_,?_⟩
 ·have:=zf3 ((blk bs n).map .str) b hb (by rw [Wz,hl]; exact h0)
  rw [Wz,hl] at this
  exact Eq.trans this h3
 ·rw [zf4 _ r hr (by rw [h1]; exact w0),h1]
  exact z3J _ _ (by rw [h1]; exact z16 hr w0) (by rw [h1]; omega)
abbrev wB:DS:=(dSeq (dAsg (eOpF pIxX 4 (bOf (eOpF pIx 5 (bOf (eC1 pNeg (bOf (eD (.int 1)))))))) (gNm [] 6)) (dSeq (dAsg (eOp pIx (eOpF pIx 6 (bOf (eOp pIx (eLst (z0a (eD (.int 0)) (z0a (eC1 pNeg (bOf (eD (.int 1)))) aNil))) (bVar 2)))) (bOf (eOp pIx (eLst (z0a (eD (.int 0)) (z0a (eC1 pNeg (bOf (eD (.int 1)))) aNil))) (bVar 3)))) (gNm [] 7)) (dSeq (dIf (dTr (eOp (pIn false) (eVar 7) (bVar 5))) (dRet (eTup (z0a (eVar 5) (z0a (zah 5 (eVar 7)) aNil)))) z19) (z0F 5 (eVar 7)))))
abbrev sl (l:List Nat):D:=.lst (l.map fun n=>.str [n])
theorem zdd (l:List Nat) (n:Nat):pIx (sl (l ++ [n])) (.int (-1))=some (.pure (.str [n])):=by
 show (atI ((l ++ [n]).map fun n=>D.str [n]) (-1)).map S.pure=_
 rw [show (-1:Int)=sd 1 from rfl,z70 _ 1 (by decide) (by simp)]
 simp
theorem in_sl (l:List Nat) (n:Nat):pIn false (.str [n]) (sl l)=some (.pure (.bl (decide (n ∈ l)))):=by
 have:(l.map fun n=>([n]:Tx)).contains [n]=decide (n ∈ l):=by
  rw [List.contains_eq_mem]
  exact decide_eq_decide.mpr sg_mem
 unfold pIn sl
 simp only [zbQ,this]
 rfl
theorem zf9 (l:List Nat) (n:Nat) (h:n ∈ l) (hl:l.length≤1000):z8m (sl l) (.str [n])=some (.pure (.int ((l.idxOf n:Nat):Int))):=by
 show (match z2b (l.map fun n=>D.str [n]) with | some ts=>if [n] ∈ ts∧ts.length≤1000 then some (S.pure (D.int (ts.idxOf [n]:Nat))) else none | none=>none)=_
 rw [zbQ]
 have:=z91 n l
 unfold sg at this
 simp only [this]
 rw [if_pos ⟨sg_mem.mpr h,by simpa using hl⟩]
section
variable (ru tt:D) (b r:Nat) (DD:D) (f:Nat→Nat) (ts:List Nat)
abbrev s8 (seen:List Nat) (o6 o7:Option S):Dl:=[some (.pure ru),some (.pure tt),some (.pure (.int (b:Int))),some (.pure (.int (r:Int))),some (.own DD),some (.own (sl seen)),o6,o7]
theorem zbN (hb:b≤1) (hr:r≤1) (hf:∀ n ∈ ts,f n ∈ ts) (hD:∀ n ∈ ts,∃ B row,pIxX DD (.str [n])=some (.pure B)∧pIx B (.int (sd b))=some (.pure (.str row))∧pIx (.str row) (.int (sd r))=some (.pure (.str [f n]))):∀ (n:Nat) (seen:List Nat) (last:Nat) (o6 o7:Option S) (p:List Nat×Nat),
  last ∈ ts→seen.length + 1 + n≤1000001→p.1.length≤1000→wn f n (seen ++ [last]) (f last)=some p→∃ δ',z1L (dTr (eD (.bl true))) wB n (s8 ru tt b r DD (seen ++ [last]) o6 o7) = .ok (.ret (.pure (.tup [plD p,.int (p.2:Nat)]))) δ'
 | 0,seen,last,o6,o7,p,hm,hl,hp,h=>by simp [wn] at h
 | n + 1,seen,last,o6,o7,p,hm,hl,hp,h=>by
  obtain ⟨B,row,hB,h1,h2⟩:=hD last hm
  have i2:=z5U b hb
  have i3:=z5U r hr
  have hx:=zdd seen last
  have hi:=in_sl (seen ++ [last]) (f last)
  have k1:dAsg (eOpF pIxX 4 (bOf (eOpF pIx 5 (bOf (eC1 pNeg (bOf (eD (.int 1)))))))) (gNm [] 6) (s8 ru tt b r DD (seen ++ [last]) o6 o7) = .ok .next (s8 ru tt b r DD (seen ++ [last]) (some (.pure B)) o7):=by
   unfold s8
   generalize sl (seen ++ [last])=L at *
   simp [dAsg,eOpF,eOpN,z7g,bVar,hx,hB]
  have k2:dAsg (eOp pIx (eOpF pIx 6 (bOf (eOp pIx (eLst (z0a (eD (.int 0)) (z0a (eC1 pNeg (bOf (eD (.int 1)))) aNil))) (bVar 2)))) (bOf (eOp pIx (eLst (z0a (eD (.int 0)) (z0a (eC1 pNeg (bOf (eD (.int 1)))) aNil))) (bVar 3)))) (gNm [] 7) (s8 ru tt b r DD (seen ++ [last]) (some (.pure B)) o7) = .ok .next (s8 ru tt b r DD (seen ++ [last]) (some (.pure B)) (some (.pure (.str [f last])))):=by
   unfold s8
   generalize sl (seen ++ [last])=L at *
   generalize sd b=sb at *
   generalize sd r=sr at *
   simp [dAsg,eOpF,eOpN,z7g,bVar,i2,i3,h1,h2]
  unfold wn at h
  by_cases hin:f last ∈ seen ++ [last]
  ·rw [if_pos hin] at h
   have h:=Ws h
   subst h
   have hd:=zf9 _ _ hin hp
   refine ⟨[some (.pure ru),some (.pure tt),some (.pure (.int (b:Int))),some (.pure (.int (r:Int))),some (.own DD),some (.pure (sl (seen ++ [last]))),some (.pure B),some (.pure (.str [f last]))],?_⟩
   have hi':pIn false (.str [f last]) (sl (seen ++ [last]))=some (.pure (.bl true)):=by rw [hi]; simp [hin]
   have:wB (s8 ru tt b r DD (seen ++ [last]) o6 o7) = .ok (.ret (.pure (.tup [sl (seen ++ [last]),.int (((seen ++ [last]).idxOf (f last):Nat):Int)]))) [some (.pure ru),some (.pure tt),some (.pure (.int (b:Int))),some (.pure (.int (r:Int))),some (.own DD),some (.pure (sl (seen ++ [last]))),some (.pure B),some (.pure (.str [f last]))]:=by
    rw [wB,z0k k1,z0k k2]
    have hL:isLD (sl (seen ++ [last]))=true:=rfl
    unfold s8
    generalize sl (seen ++ [last])=L at *
    refine z77 ?_
    simp [dTr,eVar,bVar,hi',zah,S.d,hL,hd]
   show (dTr (eD (.bl true)) (s8 ru tt b r DD (seen ++ [last]) o6 o7)).bind _=_
   rw [show dTr (eD (.bl true)) (s8 ru tt b r DD (seen ++ [last]) o6 o7) = .ok true (s8 ru tt b r DD (seen ++ [last]) o6 o7) from rfl]
   simp only [z0K,if_true,this]
  ·rw [if_neg hin] at h
   obtain ⟨δ',e⟩:=zbN hb hr hf hD n (seen ++ [last]) (f last) (some (.pure B)) (some (.pure (.str [f last]))) p (hf _ hm) (by simp; omega) hp h
   refine ⟨δ',?_⟩
   have hi':pIn false (.str [f last]) (sl (seen ++ [last]))=some (.pure (.bl false)):=by rw [hi]; simp [hin]
   have:wB (s8 ru tt b r DD (seen ++ [last]) o6 o7) = .ok .next (s8 ru tt b r DD (seen ++ [last] ++ [f last]) (some (.pure B)) (some (.pure (.str [f last])))):=by
    rw [wB,z0k k1,z0k k2]
    have ha:z0F 5 (eVar 7) (s8 ru tt b r DD (seen ++ [last]) (some (.pure B)) (some (.pure (.str [f last])))) = .ok .next (s8 ru tt b r DD (seen ++ [last] ++ [f last]) (some (.pure B)) (some (.pure (.str [f last])))):=by
     simp [z0F,z2r,eVar,putL,show seen.length + 1 < W6 by rw [z1l]; omega]
    refine (z0k ?_).trans ha
    unfold s8
    generalize sl (seen ++ [last])=L at *
    simp [dTr,eVar,bVar,hi']
   show (dTr (eD (.bl true)) (s8 ru tt b r DD (seen ++ [last]) o6 o7)).bind _=_
   rw [show dTr (eD (.bl true)) (s8 ru tt b r DD (seen ++ [last]) o6 o7) = .ok true (s8 ru tt b r DD (seen ++ [last]) o6 o7) from rfl]
   simp only [z0K,if_true,this]
   exact e
end
theorem ze5 {h w t b r:Nat} {bs:List (Nat×List Tx)} {p:List Nat×Nat} (R:Rul h w bs) (hb:b≤1) (hr:r≤1) (ht:t ∈ bs.map (·.1)) (hp:wn (cf h w bs b r) 999999 [] t=some p) (hl:p.1.length≤1000) :
  z1i [.pure (ruD h w bs),.pure (.str [t]),.pure (.int b),.pure (.int r)]=some (.pure (z54 p),[.pure (ruD h w bs),.pure (.str [t]),.pure (.int b),.pure (.int r)]):=by
 have h1:wn (cf h w bs b r) 999998 ([] ++ [t]) (cf h w bs b r t)=some p:=by
  have:wn (cf h w bs b r) (999998 + 1) [] t=some p:=hp
  unfold wn at this
  rw [if_neg (by simp)] at this
  exact this
 have h2:=zaH _ 999999 _ _ _ (zaH _ 999998 _ _ _ h1)
 obtain ⟨δ',e⟩:=zbN (ruD h w bs) (.str [t]) b r (dcM bs) (cf h w bs b r) (bs.map (·.1)) hb hr (fun n hn=>z62 R (z16 hb R.h0) (z16 hr R.w0) hn) (fun n hn=>by
  obtain ⟨row,a1,a2⟩:=zdg R hb hr hn
  exact ⟨_,row,zdf hn,a1,a2⟩) 1000000 [] t none none p ht (by decide) hl h2
 have x2:=(z6e h w bs).2.2
 have hd:=zbB R
 rw [z1i,z3h]
 refine zc7 (δ1:=δ') ?_
 generalize ruD h w bs=ru at *
 generalize D.tup (bs.map blD)=bd at *
 generalize dcM bs=dd at *
 rw [z0k (δ1:=[some (.pure ru),some (.pure (.str [t])),some (.pure (.int (b:Int))),some (.pure (.int (r:Int))),some (.own dd),none,none,none]) (by simp [z09,dAsg,eOpF,eOpN,bVar,x2,hd])]
 rw [z0k (δ1:=s8 ru (.str [t]) b r dd ([] ++ [t]) none none) (by simp [dAsg,eVar])]
 exact e
theorem z9R (i j:Int):pMin (.int i) (.int j)=some (.pure (.int (if j < i then j else i))):=rfl
theorem zd6 (n:Nat):pNe (.str [n]) (.str [n])=some (.pure (.bl false)):=by simp [pNe,flat,eqD]
theorem zd5 (i j:Int):pNe (.tup [.int i,.int j]) (.tup [.int i,.int j])=some (.pure (.bl false)):=by
 have hf:flat 50 (.tup [.int i,.int j])=true:=rfl
 unfold pNe
 rw [hf,z2R hf]
 rfl
abbrev s10 (ru tt:D) (b r:Nat) (g:Nat) (o5 o6 o7 o8 o9:Option S):Dl:=[some (.pure ru),some (.pure tt),some (.pure (.int (b:Int))),some (.pure (.int (r:Int))),some (.pure (.int (g:Int))),o5,o6,o7,o8,o9]
theorem q_cr (GW:DF) (GT GR:DX) (GH:DF) (ru tt P L TU:D) (b r g x:Nat) (p:List Nat×Nat) (hP:P = .tup [L,.int (p.2:Nat)]) (hs:p.2 < p.1.length)
  (gw:GW [.pure ru,.pure tt,.pure (.int b),.pure (.int r)]=some (.pure P,[.pure ru,.pure tt,.pure (.int b),.pure (.int r)]))
  (gt:GT [.pure ru,.pure tt,.pure (.int b),.pure (.int r),.pure (.int (g:Int))]=some (.inl (.pure (.str [x]),[.pure ru,.pure tt,.pure (.int b),.pure (.int r),.pure (.int (g:Int))])))
  (gr:GR [.pure ru,.pure tt,.pure (.int b),.pure (.int r)]=some (.inl (.pure TU,[.pure ru,.pure tt,.pure (.int b),.pure (.int r)])))
  (hTU:TU = .tup [.int (p.2:Nat),.int ((p.1.length:Nat) - (p.2:Nat):Int)])
  (gh:∀ n:Int,GH [.pure (.int n)]=some (.pure (.bl true),[.pure (.int n)]))
  (hl:pLen L=some (.pure (.int ((p.1.length:Nat):Int)))) (hx:pIx L (.int ((ixP p g:Nat):Int))=some (.pure (.str [x]))) (hall:∀ i,i < p.1.length→∃ y,pIx L (.int (i:Int))=some (.pure (.str [y]))) :
  (dSeq (dAsg (z0d GW [.val (eVar 0),.val (eVar 1),.val (eVar 2),.val (eVar 3)]) (gTp 2 (z0c (gNm [] 5) (z0c (gNm [] 6) z0Z)))) (dSeq (dAsg (eOpF pIx 5 (bOf (eMin (eVar 4) (eOp pSub (eC1 pLen (bVar 5)) (bOf (eD (.int 1))))))) (gNm [] 7)) (dSeq (dIf (dTr (eOpF pGe 4 (bOf (eC1 pLen (bVar 5))))) (dAsg (eOpF pIx 5 (bOf (eOpF pAdd 6 (bOf (eOp pMod (eOpF pSub 4 (bVar 6)) (bOf (eOp pSub (eC1 pLen (bVar 5)) (bVar 6)))))))) (gNm [] 7)) z19) (dSeq (dAsg (z1W GT [.val (eVar 0),.val (eVar 1),.val (eVar 2),.val (eVar 3),.val (eVar 4)]) (gNm [] 8)) (dSeq (dIf (dOr (dNot (dTr (eIsi "str" (bVar 8)))) (dTr (eOpF pNe 8 (bVar 7)))) (dRet (eD (.bl false))) z19) (dSeq (dAsg (z1W GR [.val (eVar 0),.val (eVar 1),.val (eVar 2),.val (eVar 3)]) (gNm [] 9)) (dSeq (dIf (dOr (dNot (dTr (eIsi "tuple" (bVar 9)))) (dTr (eOpF pNe 9 (bOf (eTup (z0a (eVar 6) (z0a (eOp pSub (eC1 pLen (bVar 5)) (bVar 6)) aNil))))))) (dRet (eD (.bl false))) z19) (dRet (eAnd (z0d GH [.val (eOpF pIx 9 (bOf (eD (.int 0))))]) (z0d GH [.val (eOpF pIx 9 (bOf (eD (.int 1))))])))))))))) (s10 ru tt b r g none none none none none) = .ok (.ret (.pure (.bl true))) (s10 ru tt b r g (some (.pure L)) (some (.pure (.int (p.2:Nat)))) (some (.pure (.str [x]))) (some (.pure (.str [x]))) (some (.pure TU))):=by
 have e1:dAsg (z0d GW [.val (eVar 0),.val (eVar 1),.val (eVar 2),.val (eVar 3)]) (gTp 2 (z0c (gNm [] 5) (z0c (gNm [] 6) z0Z))) (s10 ru tt b r g none none none none none) = .ok .next (s10 ru tt b r g (some (.pure L)) (some (.pure (.int (p.2:Nat)))) none none none):=by
  simp [dAsg,z0d,ios,ndup,evX,eVar,mkA,gw,putA,hP,gTp,z0c,z0Z]
 have e23:∃ y,(dAsg (eOpF pIx 5 (bOf (eMin (eVar 4) (eOp pSub (eC1 pLen (bVar 5)) (bOf (eD (.int 1))))))) (gNm [] 7)) (s10 ru tt b r g (some (.pure L)) (some (.pure (.int (p.2:Nat)))) none none none) = .ok .next (s10 ru tt b r g (some (.pure L)) (some (.pure (.int (p.2:Nat)))) (some (.pure (.str [y]))) none none) ∧
   (dIf (dTr (eOpF pGe 4 (bOf (eC1 pLen (bVar 5))))) (dAsg (eOpF pIx 5 (bOf (eOpF pAdd 6 (bOf (eOp pMod (eOpF pSub 4 (bVar 6)) (bOf (eOp pSub (eC1 pLen (bVar 5)) (bVar 6)))))))) (gNm [] 7)) z19) (s10 ru tt b r g (some (.pure L)) (some (.pure (.int (p.2:Nat)))) (some (.pure (.str [y]))) none none) = .ok .next (s10 ru tt b r g (some (.pure L)) (some (.pure (.int (p.2:Nat)))) (some (.pure (.str [x]))) none none):=by
  by_cases hg:g < p.1.length
  ·have hm:(if ((p.1.length:Nat):Int) - 1 < (g:Int) then ((p.1.length:Nat):Int) - 1 else (g:Int))=(g:Int):=by
    rw [if_neg (by omega)]
   have hx':pIx L (.int (g:Int))=some (.pure (.str [x])):=by
    have:ixP p g=g:=by
     unfold ixP
     split
     ·rfl
     ·rw [Nat.mod_eq_of_lt (by omega)]; omega
    rw [this] at hx
    exact hx
   have hge:¬ ((p.1.length:Nat):Int)≤(g:Int):=by omega
   refine ⟨x,?_,?_⟩
   ·simp [dAsg,eOpF,eOpN,eMin,eVar,bVar,hl,sub_int,z9R,hm,hx']
   ·simp [dTr,eOpF,eOpN,bVar,hl,za8,hge]
  ·have hm:(if ((p.1.length:Nat):Int) - 1 < (g:Int) then ((p.1.length:Nat):Int) - 1 else (g:Int))=((p.1.length - 1:Nat):Int):=by
    rw [if_pos (by omega)]
    omega
   obtain ⟨y,hy⟩:=hall (p.1.length - 1) (by omega)
   have hge:((p.1.length:Nat):Int)≤(g:Int):=by omega
   have hmd:=z9Q ((g:Int) - ((p.2:Nat):Int)) (((p.1.length:Nat):Int) - ((p.2:Nat):Int)) (by omega)
   have hc:=z9Z (p:=p) (g:=g) hs (by omega)
   rw [← hc] at hx
   refine ⟨y,?_,?_⟩
   ·simp [dAsg,eOpF,eOpN,eMin,eVar,bVar,hl,sub_int,z9R,hm,hy]
   ·generalize ((g:Int) - ((p.2:Nat):Int)) % (((p.1.length:Nat):Int) - ((p.2:Nat):Int))=m at *
    simp [dTr,dAsg,eOpF,eOpN,bVar,hl,za8,hge,sub_int,hmd,add_int,hx]
 obtain ⟨y,e2,e3⟩:=e23
 have e4:dAsg (z1W GT [.val (eVar 0),.val (eVar 1),.val (eVar 2),.val (eVar 3),.val (eVar 4)]) (gNm [] 8) (s10 ru tt b r g (some (.pure L)) (some (.pure (.int (p.2:Nat)))) (some (.pure (.str [x]))) none none) = .ok .next (s10 ru tt b r g (some (.pure L)) (some (.pure (.int (p.2:Nat)))) (some (.pure (.str [x]))) (some (.pure (.str [x]))) none):=by
  simp [dAsg,z1W,z14,ios,ndup,evX,eVar,mkA,gt,putA]
 have e5:(dIf (dOr (dNot (dTr (eIsi "str" (bVar 8)))) (dTr (eOpF pNe 8 (bVar 7)))) (dRet (eD (.bl false))) z19) (s10 ru tt b r g (some (.pure L)) (some (.pure (.int (p.2:Nat)))) (some (.pure (.str [x]))) (some (.pure (.str [x]))) none) = .ok .next (s10 ru tt b r g (some (.pure L)) (some (.pure (.int (p.2:Nat)))) (some (.pure (.str [x]))) (some (.pure (.str [x]))) none):=by
  simp [dTr,eIsi,isTy,bVar,eOpF,eOpN,zd6]
 have e6:dAsg (z1W GR [.val (eVar 0),.val (eVar 1),.val (eVar 2),.val (eVar 3)]) (gNm [] 9) (s10 ru tt b r g (some (.pure L)) (some (.pure (.int (p.2:Nat)))) (some (.pure (.str [x]))) (some (.pure (.str [x]))) none) = .ok .next (s10 ru tt b r g (some (.pure L)) (some (.pure (.int (p.2:Nat)))) (some (.pure (.str [x]))) (some (.pure (.str [x]))) (some (.pure TU))):=by
  simp [dAsg,z1W,z14,ios,ndup,evX,eVar,mkA,gr,putA]
 have hne:=zd5 ((p.2:Nat):Int) (((p.1.length:Nat):Int) - ((p.2:Nat):Int))
 rw [← hTU] at hne
 have hty:isTy "tuple" TU=some true:=by rw [hTU]; rfl
 have t0:pIx TU (.int 0)=some (.pure (.int (p.2:Nat))):=by rw [hTU]; simp [pIx,atI,ixN]
 have t1:pIx TU (.int 1)=some (.pure (.int ((p.1.length:Nat) - (p.2:Nat):Int))):=by rw [hTU]; simp [pIx,atI,ixN]
 rw [z0k e1,z0k e2,z0k e3,z0k e4,z0k e5,z0k e6]
 have e7:(dIf (dOr (dNot (dTr (eIsi "tuple" (bVar 9)))) (dTr (eOpF pNe 9 (bOf (eTup (z0a (eVar 6) (z0a (eOp pSub (eC1 pLen (bVar 5)) (bVar 6)) aNil))))))) (dRet (eD (.bl false))) z19) (s10 ru tt b r g (some (.pure L)) (some (.pure (.int (p.2:Nat)))) (some (.pure (.str [x]))) (some (.pure (.str [x]))) (some (.pure TU))) = .ok .next (s10 ru tt b r g (some (.pure L)) (some (.pure (.int (p.2:Nat)))) (some (.pure (.str [x]))) (some (.pure (.str [x]))) (some (.pure TU))):=by
  rw [hTU] at hne
  simp [dTr,eIsi,hty,bVar,eOpF,eOpN,eVar,hl,sub_int,hTU,hne,isTy]
 rw [z0k e7]
 simp [eAnd,z0d,ios,ndup,evX,mkA,putA,eOpF,eOpN,bVar,t0,t1,gh]
theorem zaX {h w t b r:Nat} (g:Nat) {bs:List (Nat×List Tx)} (R:Rul h w bs) (hb:b≤1) (hr:r≤1) (ht:t ∈ bs.map (·.1)) :
  z0o [.pure (ruD h w bs),.pure (.str [t]),.pure (.int b),.pure (.int r),.pure (.int (g:Int))]=some (.pure (.bl true),[.pure (ruD h w bs),.pure (.str [t]),.pure (.int b),.pure (.int r),.pure (.int (g:Int))]):=by
 obtain ⟨p,hp,W,gc⟩:=z9g R hb hr ht
 have n1:=R.n1
 have hl:=W.le
 have gw:=ze5 R hb hr ht hp (by simp at hl; omega)
 have e:=q_cr z1i z0m z0p z1a _ _ (z54 p) (plD p) _ b r g _ p rfl W.st gw (z9h (g:=g) R hb hr ht) (zaZ gc) rfl zcD (z9U p) (zdc (W.ix g).2) (fun i hi=>⟨_,zdc (W.at_ i hi)⟩)
 rw [z0o,z1h]
 exact zfb e
theorem z7n {α:Type} {w:Nat}:∀ (ls:List (List α)) (i k:Nat),(∀ x ∈ ls,x.length=w)→k < w→ls.flatten[i * w + k]? = ls[i]?.bind fun x=>x[k]?
 | [],i,k,_,_=>by simp
 | x :: r,0,k,h,hk=>by
  have:=h x Wm
  rw [Qc,Nat.zero_mul,Q5,Qi (by omega)]
  rfl
 | x :: r,i + 1,k,h,hk=>by
  have hx:=h x Wm
  have e:(i + 1) * w + k=w + (i * w + k):=by rw [Nat.add_mul,Jo]; omega
  rw [Qc,List.getElem?_append_right (by rw [hx,e]; omega),e,hx,Nat.add_sub_cancel_left,z7n r i k (fun x hx=>h x (Wi _ hx)) hk]
  rfl
def z7t (A C b r:Nat) (fl:List Tx):Nat:=(fl.getD (b * (A - 1)) []).getD (r * (C - 1)) 0
theorem z9W {b A h:Nat} (hb:b≤1) (hA:0 < A) (hh:0 < h):b * (A * h - 1)=b * (A - 1) * h + b * (h - 1):=by
 have:b=0∨b=1:=by omega
 rcases this with rfl | rfl
 ·simp
 ·obtain ⟨a,rfl⟩:∃ a,A=a + 1:=⟨A - 1,by omega⟩
  rw [Nat.add_mul,Jo,Jo,Jo,Jo]
  simp
  omega
theorem z41 {α:Type} {l:List α} {i:Nat} {x d:α} (h:l[i]? = some x):l.getD i d=x:=by
 rw [Qg,h]; rfl
theorem zbD {h w:Nat} {bs:List (Nat×List Tx)} (R:Rul h w bs) {A C:Nat} {fl:List Tx} (F:Fl2 bs A C fl) (hA:0 < A) (hC:0 < C) {b r:Nat} (hb:b≤1) (hr:r≤1):z7t (A * h) (C * w) b r (lay h bs fl)=cf h w bs b r (z7t A C b r fl):=by
 have h0:=R.h0
 have w0:=R.w0
 have i1:b * (A - 1) < fl.length:=by rw [F.rows]; exact z16 hb hA
 have e1:fl[b * (A - 1)]? = some (fl[b * (A - 1)]'i1):=Wh i1
 have m1:fl[b * (A - 1)]'i1 ∈ fl:=Q4 _
 generalize fl[b * (A - 1)]'i1=row at *
 have c1:=F.cols row m1
 have t1:=F.tl row m1
 have i2:r * (C - 1) < row.length:=by rw [c1]; exact z16 hr hC
 have e2:row[r * (C - 1)]? = some (row[r * (C - 1)]'i2):=Wh i2
 have m2:=t1 _ (Q4 i2)
 generalize row[r * (C - 1)]'i2=n at *
 have ha:(lay h bs fl)[b * (A * h - 1)]? = some (lay1 bs (b * (h - 1)) row):=by
  rw [z9W hb hA h0]
  unfold lay
  rw [List.flatMap_def,z7n _ _ _ (w:=h) (fun x hx=>by
   obtain ⟨y,_,rfl⟩:=Qm.mp hx
   simp [layR]) (z16 hb h0),Wv,e1]
  simp [layR,z16 hb h0]
 have hc:(lay1 bs (b * (h - 1)) row)[r * (C * w - 1)]? = some (cf h w bs b r n):=by
  rw [z9W hr hC w0]
  unfold lay1
  rw [z7n _ _ _ (w:=w) (fun x hx=>by
   obtain ⟨y,hy,rfl⟩:=Qm.mp hx
   exact (z47 R (t1 y hy) (z16 hb h0)).1) (z16 hr w0),Wv,e2]
  have:=(z47 R m2 (z16 hb h0)).1
  show ((blk bs n).getD (b * (h - 1)) [])[r * (w - 1)]? = _
  rw [Wh (by rw [this]; exact z16 hr w0)]
  unfold cf z4U
  rw [Qg (l:=(blk bs n).getD (b * (h - 1)) []),Wh (by rw [this]; exact z16 hr w0)]
  rfl
 unfold z7t
 rw [z41 ha,z41 hc,z41 e1,z41 e2]
theorem z6R {h w t:Nat} {bs:List (Nat×List Tx)} (R:Rul h w bs) (ht:t ∈ bs.map (·.1)) {b r:Nat} (hb:b≤1) (hr:r≤1):∀ k,z7t (1 * h ^ k) (1 * w ^ k) b r (z3c h bs [[t]] k)=itr (cf h w bs b r) t k
 | 0=>by
  have:b=0∨b=1:=by omega
  have:r=0∨r=1:=by omega
  unfold z7t
  simp [z3c,itr]
 | k + 1=>by
  have F:Fl2 bs 1 1 [[t]]:=⟨rfl,by simp,by simp; simpa using ht⟩
  have:=zbD R (z5V R F k) (by have:=Nat.pow_pos (n:=k) R.h0; omega) (by have:=Nat.pow_pos (n:=k) R.w0; omega) hb hr
  rw [z6R R ht hb hr k] at this
  rw [Nat.pow_succ,Nat.pow_succ,← Nat.mul_assoc,← Nat.mul_assoc]
  exact this
theorem zbo {A C b r:Nat} {bs:List (Nat×List Tx)} {fl:List Tx} (F:Fl2 bs A C fl) (hA:0 < A) (hC:0 < C) (hCm:C≤16777216) (hb:b≤1) (hr:r≤1):∃ row,pIx (flD fl) (.int (sd b))=some (.pure (.str row))∧pIx (.str row) (.int (sd r))=some (.pure (.str [z7t A C b r fl])):=by
 have i1:b * (A - 1) < fl.length:=by rw [F.rows]; exact z16 hb hA
 have e1:fl[b * (A - 1)]? = some (fl[b * (A - 1)]'i1):=Wh i1
 have m1:fl[b * (A - 1)]'i1 ∈ fl:=Q4 _
 generalize fl[b * (A - 1)]'i1=row at *
 have c1:=F.cols row m1
 have i2:r * (C - 1) < row.length:=by rw [c1]; exact z16 hr hC
 have e2:row[r * (C - 1)]? = some (row[r * (C - 1)]'i2):=Wh i2
 generalize row[r * (C - 1)]'i2=n at *
 refine ⟨row,?_,?_⟩
 ·show (atI (fl.map D.str) (sd b)).map S.pure=_
  rw [z70 _ _ hb (by rw [Wz,F.rows]; exact hA),Wz,F.rows,Wv,e1]
  rfl
 ·show (if row.length≤W6 then (atI row (sd r)).map (fun n=>S.pure (.str [n])) else none)=_
  rw [if_pos (by rw [z1l,c1]; exact hCm),z70 _ _ hr (by rw [c1]; exact hC),c1,e2]
  unfold z7t
  rw [z41 e1,z41 e2]
  rfl
theorem zbr (h w:Nat) (h0:0 < h) (h1:h≤4) (w0:0 < w) (w1:w≤4):∃ m:Int,pMax (.int (h:Int)) (.int (w:Int))=some (.pure (.int m))∧∃ g:Nat,g≤6∧pIx (.lst [.int 6,.int 3,.int 2,.int 2]) (.int (m - 1))=some (.pure (.int (g:Int))):=by
 refine ⟨if (w:Int) > (h:Int) then (w:Int) else (h:Int),rfl,?_⟩
 have a:h=1∨h=2∨h=3∨h=4:=by omega
 have b:w=1∨w=2∨w=3∨w=4:=by omega
 rcases a with rfl | rfl | rfl | rfl <;> rcases b with rfl | rfl | rfl | rfl <;> first | exact ⟨6,by decide,rfl⟩ | exact ⟨3,by decide,rfl⟩ | exact ⟨2,by decide,rfl⟩
theorem zdv (n:Nat):pEq (.str [n]) (.str [n])=some (.pure (.bl true)):=by simp [pEq,flat,eqD]
theorem zek (GO:DF) (GT:DX) (ru tt fl:D) (b r g x:Nat) (h w m:Int) (row:Tx) (x0:pIx ru (.int 0)=some (.pure (.int h))) (x1:pIx ru (.int 1)=some (.pure (.int w))) (hm:pMax (.int h) (.int w)=some (.pure (.int m))) (hg:pIx (.lst [.int 6,.int 3,.int 2,.int 2]) (.int (m - 1))=some (.pure (.int (g:Int))))
  (go:GO [.pure ru,.pure (.tup [tt]),.pure (.int (g:Int))]=some (.pure fl,[.pure ru,.pure (.tup [tt]),.pure (.int (g:Int))]))
  (gt:GT [.pure ru,.pure tt,.pure (.int b),.pure (.int r),.pure (.int (g:Int))]=some (.inl (.pure (.str [x]),[.pure ru,.pure tt,.pure (.int b),.pure (.int r),.pure (.int (g:Int))])))
  (hb:b≤1) (hr:r≤1) (h1:pIx fl (.int (sd b))=some (.pure (.str row))) (h2:pIx (.str row) (.int (sd r))=some (.pure (.str [x]))) :
  (dSeq (dAsg (eOp pIx (z4f [.int 6,.int 3,.int 2,.int 2]) (bOf (eOp pSub (eMax (eOpF pIx 0 (bOf (eD (.int 0)))) (eOpF pIx 0 (bOf (eD (.int 1))))) (bOf (eD (.int 1)))))) (gNm [] 4)) (dSeq (dAsg (z0d GO [.val (eVar 0),.val (eTup (z0a (eVar 1) aNil)),.val (eVar 4)]) (gNm [] 5)) (dRet (eOp pEq (z1W GT [.val (eVar 0),.val (eVar 1),.val (eVar 2),.val (eVar 3),.val (eVar 4)]) (bOf (eOp pIx (eOpF pIx 5 (bOf (eOp pIx (eLst (z0a (eD (.int 0)) (z0a (eC1 pNeg (bOf (eD (.int 1)))) aNil))) (bVar 2)))) (bOf (eOp pIx (eLst (z0a (eD (.int 0)) (z0a (eC1 pNeg (bOf (eD (.int 1)))) aNil))) (bVar 3))))))))) [some (.pure ru),some (.pure tt),some (.pure (.int (b:Int))),some (.pure (.int (r:Int))),none,none] = .ok (.ret (.pure (.bl true))) [some (.pure ru),some (.pure tt),some (.pure (.int (b:Int))),some (.pure (.int (r:Int))),some (.pure (.int (g:Int))),some (.pure fl)]:=by
 have i2:=z5U b hb
 have i3:=z5U r hr
 have e1:dAsg (eOp pIx (z4f [.int 6,.int 3,.int 2,.int 2]) (bOf (eOp pSub (eMax (eOpF pIx 0 (bOf (eD (.int 0)))) (eOpF pIx 0 (bOf (eD (.int 1))))) (bOf (eD (.int 1)))))) (gNm [] 4) [some (.pure ru),some (.pure tt),some (.pure (.int (b:Int))),some (.pure (.int (r:Int))),none,none] = .ok .next [some (.pure ru),some (.pure tt),some (.pure (.int (b:Int))),some (.pure (.int (r:Int))),some (.pure (.int (g:Int))),none]:=by
  simp [dAsg,eOpF,eOpN,z4f,eMax,x0,x1,bVar,hm,sub_int,hg]
 have e2:dAsg (z0d GO [.val (eVar 0),.val (eTup (z0a (eVar 1) aNil)),.val (eVar 4)]) (gNm [] 5) [some (.pure ru),some (.pure tt),some (.pure (.int (b:Int))),some (.pure (.int (r:Int))),some (.pure (.int (g:Int))),none] = .ok .next [some (.pure ru),some (.pure tt),some (.pure (.int (b:Int))),some (.pure (.int (r:Int))),some (.pure (.int (g:Int))),some (.pure fl)]:=by
  simp [dAsg,z0d,ios,ndup,evX,eVar,mkA,go,putA]
 rw [z0k e1,z0k e2]
 generalize sd b=sb at *
 generalize sd r=sr at *
 simp [z1W,z14,ios,ndup,evX,eVar,mkA,gt,putA,eOpF,eOpN,z7g,bVar,i2,i3,h1,h2,zdv]
theorem zcI {h w t b r:Nat} {bs:List (Nat×List Tx)} (R:Rul h w bs) (hb:b≤1) (hr:r≤1) (ht:t ∈ bs.map (·.1)) :
  z0y [.pure (ruD h w bs),.pure (.str [t]),.pure (.int b),.pure (.int r)]=some (.pure (.bl true),[.pure (ruD h w bs),.pure (.str [t]),.pure (.int b),.pure (.int r)]):=by
 obtain ⟨m,hm,g,g6,hg⟩:=zbr h w R.h0 R.h1 R.w0 R.w1
 have F:Fl2 bs 1 1 [[t]]:=⟨rfl,by simp,by simp; simpa using ht⟩
 have pw:∀ (x i:Nat),x≤4→i≤5→1 * x ^ i≤3000:=fun x i hx hi=>by
  have a:=Nat.pow_le_pow_left hx i
  have b:=Nat.pow_le_pow_right (n:=4) (by decide) hi
  have:(4:Nat) ^ 5=1024:=by decide
  omega
 have go:=z79 R F g (by omega) (fun i hi=>⟨pw h i R.h1 (by omega),pw w i R.w1 (by omega)⟩)
 obtain ⟨row,a1,a2⟩:=zbo (b:=b) (r:=r) (z5V R F g) (by have:=Nat.pow_pos (n:=g) R.h0; omega) (by have:=Nat.pow_pos (n:=g) R.w0; omega) (by
  have a:=Nat.pow_le_pow_left R.w1 g
  have b:=Nat.pow_le_pow_right (n:=4) (by decide) g6
  have:(4:Nat) ^ 6=4096:=by decide
  omega) hb hr
 rw [z6R R ht hb hr g] at a2
 obtain ⟨x0,x1,_⟩:=z6e h w bs
 rw [z0y,z1t]
 exact zc7 (zek z0z z0m _ _ _ b r g _ _ _ m row x0 x1 hm hg go (z9h (g:=g) R hb hr ht) hb hr a1 a2)
structure Thing (bs:List (Nat×List Tx)) (d:D):Prop where
 bad:Bad bs d
 fl:flat 50 d=true
theorem zej {ce:Tx→Nat} (GT GR:DX) (GK:DF) (ru d i:D) (u:Bool) (hi:pEq i (.int 0)=some (.pure (.bl u))) (gt:GT [.pure ru,.pure d,.pure (.int 0),.pure (.int 1),.pure (.int 5)]=some (.inr (xN d,[.pure ru,.pure d,.pure (.int 0),.pure (.int 1),.pure (.int 5)]))) (gr:GR [.pure ru,.pure d,.pure (.int 1),.pure (.int 0)]=some (.inr (xN d,[.pure ru,.pure d,.pure (.int 1),.pure (.int 0)])))
  (gk:GK [.pure (.exc (ce [78,111,84,105,108,101]) (.xd [([116,105,108,101],d)]))]=some (.pure (.str [116,105,108,101]),[.pure (.exc (ce [78,111,84,105,108,101]) (.xd [([116,105,108,101],d)]))])) (he:pEq d d=some (.pure (.bl true))) (hf:ys.find? (fun x=>ce x == ce [78,111,84,105,108,101])=some [78,111,84,105,108,101]) :
  gOf [] 4 (z2J ce GT GR GK) [.pure i,.pure ru,.pure d]=some (.pure (.bl true),[.pure i,.pure ru,.pure d]):=by
 unfold z2J
 have ea:∀ δ:Dl,δ[3]? = some (some (.pure (.exc (ce [78,111,84,105,108,101]) (.xd [([116,105,108,101],d)]))))→zai ce ys [116,105,108,101] (bVar 3) δ = .ok (.pure d) δ:=fun δ hδ=>by simp [zai,bVar,hδ,hf]
 have hs:pEq (.str [116,105,108,101]) (.str [116,105,108,101])=some (.pure (.bl true)):=by simp [pEq,flat,eqD]
 have hy:ys.contains [78,111,84,105,108,101]=true:=by simp [ys]
 refine zfc (δ1:=[some (.pure i),some (.pure ru),some (.pure d),none]) (z77 ?_)
 have ea':=ea [some (.pure i),some (.pure ru),some (.pure d),some (.pure (.exc (ce [78,111,84,105,108,101]) (.xd [([116,105,108,101],d)])))] rfl
 simp only [z09]
 cases u with
 | true =>
  simp [dTry,zbh,dTr,eOpF,eOpN,bVar,hi,z14,z43,ios,ndup,z0Y,evX,eVar,mkA,gt,putA,hy]
  generalize D.exc (ce [78,111,84,105,108,101]) (.xd [([116,105,108,101],d)])=X0 at *
  simp [eAnd,z0d,ios,ndup,evX,eVar,mkA,gk,putA,hs,ea',bVar,he,unset]
 | false =>
  simp [dTry,zbh,dTr,eOpF,eOpN,bVar,hi,z14,z43,ios,ndup,z0Y,evX,eVar,mkA,gr,putA,hy]
  generalize D.exc (ce [78,111,84,105,108,101]) (.xd [([116,105,108,101],d)])=X0 at *
  simp [eAnd,z0d,ios,ndup,evX,eVar,mkA,gk,putA,hs,ea',bVar,he,unset]
theorem zbV {ce:Tx→Nat} {h w:Nat} {bs:List (Nat×List Tx)} (R:Rul h w bs) {d:D} (T:Thing bs d) (i:Int):z0L ce [.pure (.int i),.pure (ruD h w bs),.pure d]=some (.pure (.bl true),[.pure (.int i),.pure (ruD h w bs),.pure d]):=by
 have he:pEq d d=some (.pure (.bl true)):=by
  unfold pEq
  rw [T.fl,z2R T.fl]
  rfl
 rw [z0L,z3i]
 exact zej z0m z0p (z0S ce) _ _ _ (i == 0) (zfk i 0) (zaY R T.bad _ _ _) (z9i R T.bad _ _) (zcJ (ce:=ce) _) he (zdo (ce:=ce) (by simp [ys]))
abbrev s14 (scr:D) (a1 a2 a3 a4 a5 a6 a7 a8 a9 a10 a11 a12 a13:Option S):Dl:=[some (.pure scr),a1,a2,a3,a4,a5,a6,a7,a8,a9,a10,a11,a12,a13]
def z5f (bs:List (Nat×List Tx)):List (Nat×List Tx):=bs.filter fun b=>eqD (.str [(b.2.getD 0 []).getD 0 0]) (.str [b.1])
abbrev stD (bs:List (Nat×List Tx)):D:=.lst ((z5f bs).map fun b=>D.str [b.1])
theorem z8Q {h w:Nat} {bs:List (Nat×List Tx)} (R:Rul h w bs) {b:Nat×List Tx} (hb:b ∈ bs):pIx (flD b.2) (.int 0)=some (.pure (.str (b.2.getD 0 [])))∧pIx (.str (b.2.getD 0 [])) (.int 0)=some (.pure (.str [(b.2.getD 0 []).getD 0 0])):=by
 obtain ⟨h1,h2⟩:=R.blk b hb
 have h0:=R.h0
 have w0:=R.w0
 have w1:=R.w1
 have i1:0 < b.2.length:=by omega
 have e1:b.2.getD 0 []=b.2[0]:=by rw [Qg,Wh i1]; rfl
 have hr:=(h2 _ (Q4 i1)).1
 refine ⟨?_,?_⟩
 ·rw [e1]
  show (atI (b.2.map D.str) ((0:Nat):Int)).map S.pure=_
  rw [z15,Wv,Wh i1]
  rfl
 ·rw [e1]
  exact z3J b.2[0] 0 (by omega) (by omega)
theorem zae (x y:Nat):pEq (.str [x]) (.str [y])=some (.pure (.bl (eqD (.str [x]) (.str [y])))):=by
 unfold pEq
 rw [show flat 50 (.str [x])=true from rfl,show flat 50 (.str [y])=true from rfl]
 rfl
theorem z7v {h w:Nat} {bs:List (Nat×List Tx)} (R:Rul h w bs) (ru:D):z1s [1,2] (gTp 2 (z0c (gNm [] 1) (z0c (gNm [] 2) z0Z))) (dTr (eOp pEq (eOp pIx (eOpF pIx 2 (bOf (eD (.int 0)))) (bOf (eD (.int 0)))) (bVar 1))) (eVar 1) (bs.map blD) [some (.pure ru),none,none] [] = .ok ((z5f bs).map fun b=>D.str [b.1]) [some (.pure ru),none,none]:=by
 have n1:=R.n1
 have:=z1X (cs:=[1,2]) (g:=gTp 2 (z0c (gNm [] 1) (z0c (gNm [] 2) z0Z))) (t:=dTr (eOp pEq (eOp pIx (eOpF pIx 2 (bOf (eD (.int 0)))) (bOf (eD (.int 0)))) (bVar 1))) (el:=eVar 1) blD (fun b=>D.str [b.1]) (fun b=>eqD (.str [(b.2.getD 0 []).getD 0 0]) (.str [b.1])) [some (.pure ru),none,none] bs [] (by rw [z1l]; simp; omega) (fun b hb=>by
  obtain ⟨q1,q2⟩:=z8Q R hb
  have q3:=zae ((b.2.getD 0 []).getD 0 0) b.1
  refine ⟨[some (.pure ru),some (.pure (.str [b.1])),some (.pure (flD b.2))],[some (.pure ru),some (.pure (.str [b.1])),some (.pure (flD b.2))],.pure (.str [b.1]),[some (.pure ru),some (.pure (.str [b.1])),some (.pure (flD b.2))],rfl,?_,rfl,?_,rfl,rfl⟩
  ·generalize flD b.2=B at *
   generalize eqD (.str [(b.2.getD 0 []).getD 0 0]) (.str [b.1])=bb at *
   generalize (b.2.getD 0 []).getD 0 0=xx at *
   generalize b.2.getD 0 []=rr at *
   simp [dTr,eVar,eOpF,eOpN,bVar,q1,q2,q3]
  ·simp [eVar])
 rw [this]
 rfl
theorem z7u {h w:Nat} {bs:List (Nat×List Tx)} (R:Rul h w bs) (scr:D) (a1 a2 a3 a4 a5 a8 a9 a10 a11 a12 a13:Option S):z1s [6,7] (gTp 2 (z0c (gNm [] 6) (z0c (gNm [] 7) z0Z))) (dTr (eOp pEq (eOp pIx (eOpF pIx 7 (bOf (eD (.int 0)))) (bOf (eD (.int 0)))) (bVar 6))) (eVar 6) (bs.map blD) (s14 scr a1 a2 a3 a4 a5 none none a8 a9 a10 a11 a12 a13) [] = .ok ((z5f bs).map fun b=>D.str [b.1]) (s14 scr a1 a2 a3 a4 a5 none none a8 a9 a10 a11 a12 a13):=by
 have n1:=R.n1
 have:=z1X (cs:=[6,7]) (g:=gTp 2 (z0c (gNm [] 6) (z0c (gNm [] 7) z0Z))) (t:=dTr (eOp pEq (eOp pIx (eOpF pIx 7 (bOf (eD (.int 0)))) (bOf (eD (.int 0)))) (bVar 6))) (el:=eVar 6) blD (fun b=>D.str [b.1]) (fun b=>eqD (.str [(b.2.getD 0 []).getD 0 0]) (.str [b.1])) (s14 scr a1 a2 a3 a4 a5 none none a8 a9 a10 a11 a12 a13) bs [] (by rw [z1l]; simp; omega) (fun b hb=>by
  obtain ⟨q1,q2⟩:=z8Q R hb
  have q3:=zae ((b.2.getD 0 []).getD 0 0) b.1
  refine ⟨s14 scr a1 a2 a3 a4 a5 (some (.pure (.str [b.1]))) (some (.pure (flD b.2))) a8 a9 a10 a11 a12 a13,s14 scr a1 a2 a3 a4 a5 (some (.pure (.str [b.1]))) (some (.pure (flD b.2))) a8 a9 a10 a11 a12 a13,.pure (.str [b.1]),s14 scr a1 a2 a3 a4 a5 (some (.pure (.str [b.1]))) (some (.pure (flD b.2))) a8 a9 a10 a11 a12 a13,rfl,?_,rfl,?_,rfl,rfl⟩
  ·generalize flD b.2=B at *
   generalize eqD (.str [(b.2.getD 0 []).getD 0 0]) (.str [b.1])=bb at *
   generalize (b.2.getD 0 []).getD 0 0=xx at *
   generalize b.2.getD 0 []=rr at *
   simp [dTr,eVar,eOpF,eOpN,bVar,q1,q2,q3]
  ·simp [eVar])
 rw [this]
 rfl
theorem zcE (R:Rul h w bs):z10 [.pure (ruD h w bs)]=some (.own (stD bs),[.pure (ruD h w bs)]):=by
 have x2:=(z6e h w bs).2.2
 have c:=z7v R (ruD h w bs)
 rw [z10,z2l]
 generalize ruD h w bs=ru at *
 refine zc8 (δ1:=[some (.pure ru),none,none]) ?_
 generalize bs.map blD=B at *
 simp [z09,z60,eOpF,eOpN,bVar,x2,z0Y,clrD]
 rw [c]
 rfl
theorem z6K:∀ l:List (Nat×List Tx),z4e 49 (l.map fun b=>D.str [b.1])=true
 | []=>rfl
 | b :: r=>by
  show (flat 49 (.str [b.1]) && z4e 49 (r.map fun b=>D.str [b.1]))=true
  rw [z6K r]
  rfl
theorem ne_st (bs:List (Nat×List Tx)):pNe (stD bs) (stD bs)=some (.pure (.bl false)):=by
 have hf:flat 50 (stD bs)=true:=by
  show z4e 49 ((z5f bs).map fun b=>D.str [b.1])=true
  exact z6K _
 unfold pNe
 rw [hf,z2R hf]
 rfl
theorem z9S {h w t b r:Nat} {bs:List (Nat×List Tx)} (R:Rul h w bs) (hb:b≤1) (hr:r≤1) (ht:t ∈ bs.map (·.1)) (scr:D) (a1 a2 a4 a5 a7 a8 a11 a13:Option S):∀ (gs:List Nat) (o:Option S),
  ∃ o':Option S,forL (gNm [] 12) (dIf (dNot (dTr (z0d z0o [.val (eVar 3),.val (eVar 6),.val (eVar 9),.val (eVar 10),.val (eVar 12)]))) (dRet (eD (.bl false))) z19) (gs.map fun g:Nat=>D.int (g:Int)) (s14 scr a1 a2 (some (.pure (ruD h w bs))) a4 a5 (some (.pure (.str [t]))) a7 a8 (some (.pure (.int (b:Int)))) (some (.pure (.int (r:Int)))) a11 o a13)
   = .ok .next (s14 scr a1 a2 (some (.pure (ruD h w bs))) a4 a5 (some (.pure (.str [t]))) a7 a8 (some (.pure (.int (b:Int)))) (some (.pure (.int (r:Int)))) a11 o' a13)
 | [],o=>⟨o,rfl⟩
 | g :: gs,o=>by
  obtain ⟨o',ih⟩:=z9S R hb hr ht scr a1 a2 a4 a5 a7 a8 a11 a13 gs (some (.pure (.int (g:Int))))
  have e:=zaX g R hb hr ht
  refine ⟨o',?_⟩
  rw [Wu,z6I (δ1:=s14 scr a1 a2 (some (.pure (ruD h w bs))) a4 a5 (some (.pure (.str [t]))) a7 a8 (some (.pure (.int (b:Int)))) (some (.pure (.int (r:Int)))) a11 (some (.pure (.int (g:Int)))) a13) rfl (δ2:=s14 scr a1 a2 (some (.pure (ruD h w bs))) a4 a5 (some (.pure (.str [t]))) a7 a8 (some (.pure (.int (b:Int)))) (some (.pure (.int (r:Int)))) a11 (some (.pure (.int (g:Int)))) a13) (by
   generalize ruD h w bs=ru at *
   simp [dTr,z0d,ios,ndup,evX,eVar,mkA,e,putA])]
  exact ih
theorem z4F (R:Rul h w bs) (scr:D) (a1 a2 a4 a5 a6 a7 a8 a9 a10 a11 a12:Option S):∀ (ths:List D) (o:Option S),(∀ x ∈ ths,Thing bs x) →
  ∃ o':Option S,forL (gNm [] 13) (dIf (dOr (dNot (dTr (z0d (z0L ce) [.val (eD (.int 0)),.val (eVar 3),.val (eVar 13)]))) (dNot (dTr (z0d (z0L ce) [.val (eD (.int 1)),.val (eVar 3),.val (eVar 13)])))) (dRet (eD (.bl false))) z19) ths (s14 scr a1 a2 (some (.pure (ruD h w bs))) a4 a5 a6 a7 a8 a9 a10 a11 a12 o)
   = .ok .next (s14 scr a1 a2 (some (.pure (ruD h w bs))) a4 a5 a6 a7 a8 a9 a10 a11 a12 o')
 | [],o,_=>⟨o,rfl⟩
 | x :: r,o,hs=>by
  obtain ⟨o',ih⟩:=z4F (ce:=ce) R scr a1 a2 a4 a5 a6 a7 a8 a9 a10 a11 a12 r (some (.pure x)) fun y hy=>hs y (Wi _ hy)
  have e0:=zbV (ce:=ce) R (hs x Wm) 0
  have e1:=zbV (ce:=ce) R (hs x Wm) 1
  refine ⟨o',?_⟩
  rw [z6I (δ1:=s14 scr a1 a2 (some (.pure (ruD h w bs))) a4 a5 a6 a7 a8 a9 a10 a11 a12 (some (.pure x))) rfl (δ2:=s14 scr a1 a2 (some (.pure (ruD h w bs))) a4 a5 a6 a7 a8 a9 a10 a11 a12 (some (.pure x))) (by
   generalize ruD h w bs=ru at *
   simp [dTr,z0d,ios,ndup,evX,eVar,mkA,e0,e1,putA])]
  exact ih
abbrev c1:DS:=(dPar [] 9 10 (z0a (eOpF pDiv 8 (bOf (eD (.int 2)))) (z0a (eOpF pMod 8 (bOf (eD (.int 2)))) aNil)))
abbrev c2:DS:=(dAsg (eOp pIx (eLst (z0a (eOp pSub (eOp pPow (eD (.int 10)) (bOf (eD (.int 40)))) (bOf (z0d z08 [.io 2,.val (eD (.int 100))]))) (z0a (z0d z08 [.io 2,.val (eOp pPow (eD (.int 10)) (bOf (eD (.int 12))))]) aNil))) (bOf (z0d z08 [.io 2,.val (eD (.int 2))]))) (gNm [] 11))
abbrev c3:DS:=(dFor (iSq (eLst (z0a (eD (.int 0)) (z0a (eD (.int 1)) (z0a (z0d z08 [.io 2,.val (eD (.int 11))]) (z0a (eVar 11) aNil)))))) (gNm [] 12) (dIf (dNot (dTr (z0d z0o [.val (eVar 3),.val (eVar 6),.val (eVar 9),.val (eVar 10),.val (eVar 12)]))) (dRet (eD (.bl false))) z19))
abbrev c4:DS:=(dIf (dNot (dTr (z0d z0y [.val (eVar 3),.val (eVar 6),.val (eVar 9),.val (eVar 10)]))) (dRet (eD (.bl false))) z19)
theorem pow40:∃ P:Nat,100≤P∧pPow (.int 10) (.int 40)=some (.pure (.int (P:Int))):=⟨10 ^ 40,by decide,by
 unfold pPow pII
 simp only
 rw [if_pos (by decide)]
 rfl⟩
theorem pow12:pPow (.int 10) (.int 12)=some (.pure (.int (1000000000000:Int))):=by
 unfold pPow pII
 simp only
 rw [if_pos (by decide)]
 rfl
theorem zar (c:Nat) (hc:c < 4):∃ b r:Nat,b≤1∧r≤1∧pDiv (.int (c:Int)) (.int 2)=some (.pure (.int (b:Int)))∧pMod (.int (c:Int)) (.int 2)=some (.pure (.int (r:Int))):=by
 have:c=0∨c=1∨c=2∨c=3:=by omega
 rcases this with rfl | rfl | rfl | rfl
 ·exact ⟨0,0,by decide,by decide,rfl,rfl⟩
 ·exact ⟨0,1,by decide,by decide,rfl,rfl⟩
 ·exact ⟨1,0,by decide,by decide,rfl,rfl⟩
 ·exact ⟨1,1,by decide,by decide,rfl,rfl⟩
theorem z7s {h w t c:Nat} {bs:List (Nat×List Tx)} (R:Rul h w bs) (ht:t ∈ bs.map (·.1)) (hc:c < 4) {d:D} (hd:Pen d) (scr:D) (a1 a4 a5 a7 a9 a10 a11 a12 a13:Option S):∃ d' q9 q10 q11 q12,Pen d' ∧
  (dSeq c1 (dSeq c2 (dSeq c3 c4))) (s14 scr a1 (some (.own d)) (some (.pure (ruD h w bs))) a4 a5 (some (.pure (.str [t]))) a7 (some (.pure (.int (c:Int)))) a9 a10 a11 a12 a13) = .ok .next (s14 scr a1 (some (.own d')) (some (.pure (ruD h w bs))) a4 a5 (some (.pure (.str [t]))) a7 (some (.pure (.int (c:Int)))) q9 q10 q11 q12 a13):=by
 obtain ⟨b,r,hb,hr,dv,md⟩:=zar c hc
 obtain ⟨P,hP,pw⟩:=pow40
 obtain ⟨r1,d1,e1,l1,p1⟩:=z1C hd 100 100 rfl (by decide) (by decide)
 obtain ⟨r2,d2,e2,l2,p2⟩:=z1C p1 1000000000000 1000000000000 rfl (by decide) (by decide)
 obtain ⟨r3,d3,e3,l3,p3⟩:=z1C p2 2 2 rfl (by decide) (by decide)
 obtain ⟨r4,d4,e4,l4,p4⟩:=z1C p3 11 11 rfl (by decide) (by decide)
 have hg:∃ gr:Nat,pIx (.lst [.int ((P:Int) - (r1:Int)),.int (r2:Int)]) (.int (r3:Int))=some (.pure (.int (gr:Int))):=by
  have:r3=0∨r3=1:=by omega
  rcases this with rfl | rfl
  ·refine ⟨P - r1,?_⟩
   have:((P - r1:Nat):Int)=(P:Int) - (r1:Int):=by omega
   rw [this]
   simp [pIx,atI,ixN]
  ·exact ⟨r2,by simp [pIx,atI,ixN]⟩
 obtain ⟨gr,hg⟩:=hg
 obtain ⟨q12,eg⟩:=z9S R hb hr ht scr a1 (some (.own d4)) a4 a5 a7 (some (.pure (.int (c:Int)))) (some (.pure (.int (gr:Int)))) a13 [0,1,r4,gr] a12
 have el:=zcI R hb hr ht
 refine ⟨d4,some (.pure (.int (b:Int))),some (.pure (.int (r:Int))),some (.pure (.int (gr:Int))),q12,p4,?_⟩
 generalize hru:ruD h w bs=ru at *
 have k1:c1 (s14 scr a1 (some (.own d)) (some (.pure ru)) a4 a5 (some (.pure (.str [t]))) a7 (some (.pure (.int (c:Int)))) a9 a10 a11 a12 a13) = .ok .next (s14 scr a1 (some (.own d)) (some (.pure ru)) a4 a5 (some (.pure (.str [t]))) a7 (some (.pure (.int (c:Int)))) (some (.pure (.int (b:Int)))) (some (.pure (.int (r:Int)))) a11 a12 a13):=by
  simp [c1,dPar,eOpF,eOpN,dv,md,bVar]
 have k2:c2 (s14 scr a1 (some (.own d)) (some (.pure ru)) a4 a5 (some (.pure (.str [t]))) a7 (some (.pure (.int (c:Int)))) (some (.pure (.int (b:Int)))) (some (.pure (.int (r:Int)))) a11 a12 a13) = .ok .next (s14 scr a1 (some (.own d3)) (some (.pure ru)) a4 a5 (some (.pure (.str [t]))) a7 (some (.pure (.int (c:Int)))) (some (.pure (.int (b:Int)))) (some (.pure (.int (r:Int)))) (some (.pure (.int (gr:Int)))) a12 a13):=by
  simp [c2,dAsg,eOpF,eOpN,pw,pow12,z0d,ios,ndup,z0Y,evX,eVar,mkA,putA,e1,e2,e3,sub_int,hg,bVar]
 rw [z0k k1,z0k k2]
 have i3:iSq (eLst (z0a (eD (.int 0)) (z0a (eD (.int 1)) (z0a (z0d z08 [.io 2,.val (eD (.int 11))]) (z0a (eVar 11) aNil))))) (s14 scr a1 (some (.own d3)) (some (.pure ru)) a4 a5 (some (.pure (.str [t]))) a7 (some (.pure (.int (c:Int)))) (some (.pure (.int (b:Int)))) (some (.pure (.int (r:Int)))) (some (.pure (.int (gr:Int)))) a12 a13) = .ok ([0,1,r4,gr].map fun g:Nat=>D.int (g:Int)) (s14 scr a1 (some (.own d4)) (some (.pure ru)) a4 a5 (some (.pure (.str [t]))) a7 (some (.pure (.int (c:Int)))) (some (.pure (.int (b:Int)))) (some (.pure (.int (r:Int)))) (some (.pure (.int (gr:Int)))) a12 a13):=by
  simp [z60,z0d,ios,ndup,z0Y,evX,eVar,mkA,putA,e4]
 rw [z0k ((z6H i3).trans eg)]
 simp [c4,dTr,z0d,ios,ndup,evX,eVar,mkA,el,putA]
section
variable {ce:Tx→Nat}
abbrev z0:DS:=(dAsg (z0d z11 [.val (eVar 1)]) (gNm [] 2))
abbrev z1:DS:=(dAsg (z0d z0H [.io 2,.val (eD (.int 6))]) (gNm [] 3))
abbrev z2:DS:=(dAsg (z0d z10 [.val (eVar 3)]) (gNm [] 4))
abbrev z3:DS:=(dAsg (z2t [6,7] (iSq (eOpF pIx 3 (bOf (eD (.int 2))))) (gTp 2 (z0c (gNm [] 6) (z0c (gNm [] 7) z0Z))) (dTr (eOp pEq (eOp pIx (eOpF pIx 7 (bOf (eD (.int 0)))) (bOf (eD (.int 0)))) (bVar 6))) (eVar 6)) (gNm [] 5))
abbrev z4:DS:=(dIf (dOr (dNot (dTr (eIsi "list" (bVar 4)))) (dTr (eOpF pNe 4 (bVar 5)))) (dRet (eD (.bl false))) z19)
abbrev cB:DS:=(dFor (z12 (eD (.int 4))) (gNm [] 8) (dSeq c1 (dSeq c2 (dSeq c3 c4))))
abbrev z5:DS:=(dFor (iSq (eOpF pIx 3 (bOf (eD (.int 2))))) (gTp 2 (z0c (gNm [] 6) (z0c (gNm [] 7) z0Z))) cB)
abbrev z6 (ce:Tx→Nat):DS:=(dFor (iSq (eLst (z0a (eD .non) (z0a (eD (.str [])) (z0a (eD (.str [65])) (z0a (eD (.str [97,98])) (z0a (z4f [.str [97]]) (z0a (eD (.tup [.str [97]])) (z0a (eD (.int 5)) aNil))))))))) (gNm [] 13) (dIf (dOr (dNot (dTr (z0d (z0L ce) [.val (eD (.int 0)),.val (eVar 3),.val (eVar 13)]))) (dNot (dTr (z0d (z0L ce) [.val (eD (.int 1)),.val (eVar 3),.val (eVar 13)])))) (dRet (eD (.bl false))) z19))
theorem zeU {h w t:Nat} {bs:List (Nat×List Tx)} (R:Rul h w bs) (ht:t ∈ bs.map (·.1)) {d:D} (hd:Pen d) (scr:D) (a1 a4 a5 a7 a8 a9 a10 a11 a12 a13:Option S):∃ d' q8 q9 q10 q11 q12,Pen d' ∧
  cB (s14 scr a1 (some (.own d)) (some (.pure (ruD h w bs))) a4 a5 (some (.pure (.str [t]))) a7 a8 a9 a10 a11 a12 a13) = .ok .next (s14 scr a1 (some (.own d')) (some (.pure (ruD h w bs))) a4 a5 (some (.pure (.str [t]))) a7 q8 q9 q10 q11 q12 a13):=by
 obtain ⟨δ',e,d',q8,q9,q10,q11,q12,hp,rfl⟩:=z1G (g:=gNm [] 8) (b:=(dSeq c1 (dSeq c2 (dSeq c3 c4))))
  (fun _ δ=>∃ d' q8 q9 q10 q11 q12,Pen d'∧δ=s14 scr a1 (some (.own d')) (some (.pure (ruD h w bs))) a4 a5 (some (.pure (.str [t]))) a7 q8 q9 q10 q11 q12 a13) (z0G 0 4) 0 (s14 scr a1 (some (.own d)) (some (.pure (ruD h w bs))) a4 a5 (some (.pure (.str [t]))) a7 a8 a9 a10 a11 a12 a13) ⟨d,a8,a9,a10,a11,a12,hd,rfl⟩ (fun i x δ hx ⟨d',q8,q9,q10,q11,q12,hp,e⟩=>by
   subst e
   obtain ⟨hi,rfl⟩:=z5m hx
   rw [Int.zero_add]
   obtain ⟨d2,r9,r10,r11,r12,hp2,e⟩:=z7s R ht hi hp scr a1 a4 a5 a7 q9 q10 q11 q12 a13
   exact ⟨_,_,rfl,e,d2,_,r9,r10,r11,r12,hp2,rfl⟩)
 refine ⟨d',q8,q9,q10,q11,q12,hp,?_⟩
 have hi:z12 (eD (.int 4)) (s14 scr a1 (some (.own d)) (some (.pure (ruD h w bs))) a4 a5 (some (.pure (.str [t]))) a7 a8 a9 a10 a11 a12 a13) = .ok (z0G 0 4) (s14 scr a1 (some (.own d)) (some (.pure (ruD h w bs))) a4 a5 (some (.pure (.str [t]))) a7 a8 a9 a10 a11 a12 a13):=by
  have:=z5l 4 (by decide)
  simp at this
  simp [this]
 exact (z6H hi).trans e
theorem zeT {h w:Nat} {bs:List (Nat×List Tx)} (R:Rul h w bs) {d:D} (hd:Pen d) (scr:D) (a1 a4 a5:Option S) (a6 a7:Option D) (a8 a9 a10 a11 a12 a13:Option S):∃ (d':D) (q6 q7:Option D) (q8 q9 q10 q11 q12:Option S),Pen d' ∧
  forL (gTp 2 (z0c (gNm [] 6) (z0c (gNm [] 7) z0Z))) cB (bs.map blD) (s14 scr a1 (some (.own d)) (some (.pure (ruD h w bs))) a4 a5 (a6.map .pure) (a7.map .pure) a8 a9 a10 a11 a12 a13) = .ok .next (s14 scr a1 (some (.own d')) (some (.pure (ruD h w bs))) a4 a5 (q6.map .pure) (q7.map .pure) q8 q9 q10 q11 q12 a13):=by
 obtain ⟨δ',e,d',q6,q7,q8,q9,q10,q11,q12,hp,rfl⟩:=z1G (g:=gTp 2 (z0c (gNm [] 6) (z0c (gNm [] 7) z0Z))) (b:=cB)
  (fun _ δ=>∃ (d':D) (q6 q7:Option D) (q8 q9 q10 q11 q12:Option S),Pen d'∧δ=s14 scr a1 (some (.own d')) (some (.pure (ruD h w bs))) a4 a5 (q6.map .pure) (q7.map .pure) q8 q9 q10 q11 q12 a13) (bs.map blD) 0 (s14 scr a1 (some (.own d)) (some (.pure (ruD h w bs))) a4 a5 (a6.map .pure) (a7.map .pure) a8 a9 a10 a11 a12 a13) ⟨d,a6,a7,a8,a9,a10,a11,a12,hd,rfl⟩ (fun i x δ hx ⟨d',q6,q7,q8,q9,q10,q11,q12,hp,e⟩=>by
   subst e
   simp only [Wv,WM] at hx
   obtain ⟨b,hb,rfl⟩:=hx
   have ht:b.1 ∈ bs.map (·.1):=Q0 (WC hb)
   obtain ⟨d2,r8,r9,r10,r11,r12,hp2,e⟩:=zeU R ht hp scr a1 a4 a5 (some (.pure (flD b.2))) q8 q9 q10 q11 q12 a13
   exact ⟨_,_,rfl,e,d2,some (.str [b.1]),some (flD b.2),r8,r9,r10,r11,r12,hp2,rfl⟩)
 exact ⟨d',q6,q7,q8,q9,q10,q11,q12,hp,e⟩
theorem zdO (scr:D) (c:Int) (o2 o3 o4 o5:Option S) (o6 o7:Option D) (o8 o9 o10 o11 o12 o13:Option S):∃ (q2 q3 q4 q5:Option S) (q6 q7:Option D) (q8 q9 q10 q11 q12 q13:Option S),(dSeq z0 (dSeq z1 (dSeq z2 (dSeq z3 (dSeq z4 (dSeq z5 (z6 ce))))))) (s14 scr (some (.pure (.int c))) o2 o3 o4 o5 (o6.map .pure) (o7.map .pure) o8 o9 o10 o11 o12 o13) = .ok .next (s14 scr (some (.pure (.int c))) q2 q3 q4 q5 (q6.map .pure) (q7.map .pure) q8 q9 q10 q11 q12 q13):=by
 obtain ⟨d0,e0,p0⟩:=r_pen c
 obtain ⟨h,w,bs,d1,e1,R,n6,p1⟩:=z9f p0 6 (by decide) (by decide)
 have e1:z0H [.own d0,.pure (.int 6)]=some (.pure (ruD h w bs),[.own d1,.pure (.int 6)]):=e1
 have x2:=(z6e h w bs).2.2
 have e2:=zcE R
 have c3:=z7u R scr (some (.pure (.int c))) (some (.own d1)) (some (.pure (ruD h w bs))) (some (.own (stD bs))) o5 o8 o9 o10 o11 o12 o13
 have hst:stD bs = .lst ((z5f bs).map fun b=>D.str [b.1]):=rfl
 have hne:=ne_st bs
 have hty:isTy "list" (stD bs)=some true:=rfl
 obtain ⟨d2,q6,q7,q8,q9,q10,q11,q12,p2,e5⟩:=zeT R p1 scr (some (.pure (.int c))) (some (.own (stD bs))) (some (.own (stD bs))) o6 o7 o8 o9 o10 o11 o12 o13
 have lt97:∀ n ∈ bs.map (·.1),97≤n:=fun n hn=>by
  obtain ⟨b,hb,rfl⟩:=Qm.mp hn
  exact (R.let' b hb).1
 have things:∀ x ∈ [D.non,.str [],.str [65],.str [97,98],.lst [.str [97]],.tup [.str [97]],.int 5],Thing bs x:=fun x hx=>by
  simp at hx
  rcases hx with rfl | rfl | rfl | rfl | rfl | rfl | rfl
  ·exact ⟨.inl rfl,rfl⟩
  ·exact ⟨.inr ⟨_,rfl,fun n hn e=>by simp at e⟩,rfl⟩
  ·exact ⟨.inr ⟨_,rfl,fun n hn e=>by have:=lt97 n hn; simp at e; omega⟩,rfl⟩
  ·exact ⟨.inr ⟨_,rfl,fun n hn e=>by simp at e⟩,rfl⟩
  ·exact ⟨.inl rfl,rfl⟩
  ·exact ⟨.inl rfl,rfl⟩
  ·exact ⟨.inl rfl,rfl⟩
 obtain ⟨q13,e6⟩:=z4F (ce:=ce) R scr (some (.pure (.int c))) (some (.own d2)) (some (.own (stD bs))) (some (.own (stD bs))) (q6.map .pure) (q7.map .pure) q8 q9 q10 q11 q12 _ o13 things
 refine ⟨some (.own d2),some (.pure (ruD h w bs)),some (.own (stD bs)),some (.own (stD bs)),q6,q7,q8,q9,q10,q11,q12,q13,?_⟩
 generalize hBL:bs.map blD=B at *
 generalize ((z5f bs).map fun b=>D.str [b.1])=SL at *
 generalize stD bs=T at *
 generalize ruD h w bs=RU at *
 rw [z0k (δ1:=s14 scr (some (.pure (.int c))) (some (.own d0)) o3 o4 o5 (o6.map .pure) (o7.map .pure) o8 o9 o10 o11 o12 o13) (by simp [z0,dAsg,z0d,ios,ndup,z0Y,evX,eVar,mkA,putA,e0])]
 rw [z0k (δ1:=s14 scr (some (.pure (.int c))) (some (.own d1)) (some (.pure RU)) o4 o5 (o6.map .pure) (o7.map .pure) o8 o9 o10 o11 o12 o13) (by simp [z1,dAsg,z0d,ios,ndup,z0Y,evX,eVar,mkA,putA,e1])]
 rw [z0k (δ1:=s14 scr (some (.pure (.int c))) (some (.own d1)) (some (.pure RU)) (some (.own T)) o5 (o6.map .pure) (o7.map .pure) o8 o9 o10 o11 o12 o13) (by simp [z2,dAsg,z0d,ios,ndup,z0Y,evX,eVar,mkA,putA,e2])]
 have i3:iSq (eOpF pIx 3 (bOf (eD (.int 2)))) (s14 scr (some (.pure (.int c))) (some (.own d1)) (some (.pure RU)) (some (.own T)) o5 (o6.map .pure) (o7.map .pure) o8 o9 o10 o11 o12 o13) = .ok B (s14 scr (some (.pure (.int c))) (some (.own d1)) (some (.pure RU)) (some (.own T)) o5 (o6.map .pure) (o7.map .pure) o8 o9 o10 o11 o12 o13):=by
  simp [z60,eOpF,eOpN,bVar,x2]
 rw [z0k (δ1:=s14 scr (some (.pure (.int c))) (some (.own d1)) (some (.pure RU)) (some (.own T)) (some (.own T)) (o6.map .pure) (o7.map .pure) o8 o9 o10 o11 o12 o13) (by
  unfold z3 dAsg
  rw [zby,i3]
  simp only [z0K]
  rw [if_neg (by cases o6 <;> cases o7 <;> simp [z0Y])]
  have:clrD [6,7] (s14 scr (some (.pure (.int c))) (some (.own d1)) (some (.pure RU)) (some (.own T)) o5 (o6.map .pure) (o7.map .pure) o8 o9 o10 o11 o12 o13)=s14 scr (some (.pure (.int c))) (some (.own d1)) (some (.pure RU)) (some (.own T)) o5 none none o8 o9 o10 o11 o12 o13:=rfl
  rw [this,c3,hst]
  rfl)]
 rw [z0k (δ1:=s14 scr (some (.pure (.int c))) (some (.own d1)) (some (.pure RU)) (some (.own T)) (some (.own T)) (o6.map .pure) (o7.map .pure) o8 o9 o10 o11 o12 o13) (by simp [z4,dTr,eIsi,hty,bVar,eOpF,eOpN,hne])]
 have i5:iSq (eOpF pIx 3 (bOf (eD (.int 2)))) (s14 scr (some (.pure (.int c))) (some (.own d1)) (some (.pure RU)) (some (.own T)) (some (.own T)) (o6.map .pure) (o7.map .pure) o8 o9 o10 o11 o12 o13) = .ok B (s14 scr (some (.pure (.int c))) (some (.own d1)) (some (.pure RU)) (some (.own T)) (some (.own T)) (o6.map .pure) (o7.map .pure) o8 o9 o10 o11 o12 o13):=by
  simp [z60,eOpF,eOpN,bVar,x2]
 rw [z0k ((z6H i5).trans e5)]
 have i6:iSq (eLst (z0a (eD .non) (z0a (eD (.str [])) (z0a (eD (.str [65])) (z0a (eD (.str [97,98])) (z0a (z4f [.str [97]]) (z0a (eD (.tup [.str [97]])) (z0a (eD (.int 5)) aNil)))))))) (s14 scr (some (.pure (.int c))) (some (.own d2)) (some (.pure RU)) (some (.own T)) (some (.own T)) (q6.map .pure) (q7.map .pure) q8 q9 q10 q11 q12 o13) = .ok [D.non,.str [],.str [65],.str [97,98],.lst [.str [97]],.tup [.str [97]],.int 5] (s14 scr (some (.pure (.int c))) (some (.own d2)) (some (.pure RU)) (some (.own T)) (some (.own T)) (q6.map .pure) (q7.map .pure) q8 q9 q10 q11 q12 o13):=by
  simp [z60,z4f,S.d]
 exact (z6H i6).trans e6
theorem zcH (ns:List Int) (hn:ns.length≤63):z8I ce [.pure (.lst (ns.map .int))]=some (.pure (.bl true),[.pure (.lst (ns.map .int))]):=by
 obtain ⟨c0,e0⟩:=z7a ns
 have cut_ints:∀ (ns:List Int) (lo hi:Option Int),cutL (ns.map D.int) lo hi=(cutL ns lo hi).map D.int:=fun ns lo hi=>by
  unfold cutL
  simp [List.map_take,List.map_drop]
 have ha:pAdd (.lst [.int c0]) (.lst (cutL (ns.map .int) (some 1) (some 5)))=some (.own (.lst ((c0 :: cutL ns (some 1) (some 5)).map .int))):=by
  rw [cut_ints]
  have hl:(cutL ns (some 1) (some 5)).length≤63:=by
   unfold cutL
   simp
   omega
  simp only [pAdd]
  rw [if_pos (by rw [z1l]; simp; omega)]
  simp
 have hs:pSl (some 1) (some 5) (.lst (ns.map .int))=some (.own (.lst (cutL (ns.map .int) (some 1) (some 5)))):=rfl
 generalize D.lst (ns.map .int)=scr at *
 obtain ⟨δ',e,o1,o2,o3,o4,o5,o6,o7,o8,o9,o10,o11,o12,o13,rfl⟩:=z1G (g:=gNm [] 1) (b:=(dSeq z0 (dSeq z1 (dSeq z2 (dSeq z3 (dSeq z4 (dSeq z5 (z6 ce))))))))
  (fun _ δ=>∃ (o1 o2 o3 o4 o5:Option S) (o6 o7:Option D) (o8 o9 o10 o11 o12 o13:Option S),δ=s14 scr o1 o2 o3 o4 o5 (o6.map .pure) (o7.map .pure) o8 o9 o10 o11 o12 o13) ((c0 :: cutL ns (some 1) (some 5)).map .int) 0 (s14 scr none none none none none none none none none none none none none) ⟨none,none,none,none,none,none,none,none,none,none,none,none,none,rfl⟩ (fun i d δ hd ⟨o1,o2,o3,o4,o5,o6,o7,o8,o9,o10,o11,o12,o13,e⟩=>by
   subst e
   simp only [Wv,WM] at hd
   obtain ⟨k,_,rfl⟩:=hd
   obtain ⟨q2,q3,q4,q5,q6,q7,q8,q9,q10,q11,q12,q13,e⟩:=zdO (ce:=ce) scr k o2 o3 o4 o5 o6 o7 o8 o9 o10 o11 o12 o13
   exact ⟨_,_,rfl,e,_,_,_,_,_,_,_,_,_,_,_,_,_,rfl⟩)
 generalize ((c0 :: cutL ns (some 1) (some 5)).map D.int)=cs at *
 generalize D.lst (cutL (ns.map .int) (some 1) (some 5))=cl at *
 rw [z8I]
 refine zc8 (δ1:=s14 scr o1 o2 o3 o4 o5 (o6.map .pure) (o7.map .pure) o8 o9 o10 o11 o12 o13) ?_
 rw [zdB]
 have qi:iSq (eOp pAdd (eLst (z0a (z0d z0U [.val (eVar 0),.val (eD (.int 0))]) aNil)) (bOf (eSlN 0 (z7e (eD (.int 1))) (z7e (eD (.int 5)))))) (s14 scr none none none none none none none none none none none none none) = .ok cs (s14 scr none none none none none none none none none none none none none):=by
  simp [z60,z0d,ios,ndup,evX,eVar,mkA,e0,putA,eSlN,z7e,bVar,hs,ha]
 refine (z0k ((z6H qi).trans e)).trans ?_
 rfl
end
def Gt:DF:=fun ss=>match ss with
 | [.pure (.lst ds)]=>match z5a ds with
  | some ns=>if ns.length≤63 then some (.pure (.bl true),ss) else none
  | none=>none
 | _=>none
theorem r_law (ns:List Int) (h:ns.length≤63):∃ outs,Gt [.pure (.lst (ns.map .int))]=some (.pure (.bl true),outs):=by
 unfold Gt
 simp only [DV.ints_map,h,if_true]
 exact ⟨_,rfl⟩
theorem za3:∀ {ds:List D} {ns:List Int},z5a ds=some ns→ds=ns.map .int
 | [],ns,h=>by simp [z5a] at h; subst h; rfl
 | d :: r,ns,h=>by
  cases d with
  | int i =>
   simp only [z5a] at h
   cases e:z5a r with
   | none=>rw [e] at h; cases h
   | some m =>
    rw [e] at h
    cases h
    rw [za3 e]
    rfl
  | _=>simp [z5a] at h
theorem law_all:∀ (ce:Tx→Nat) ss y,Gt ss=some y→z8I ce ss=some y:=by
 intro ce ss y h
 unfold Gt at h
 split at h
 ·rename_i ds
  cases hi:z5a ds with
  | none=>rw [hi] at h; cases h
  | some ns =>
   rw [hi] at h
   by_cases hn:ns.length≤63
   ·simp only [hn,if_true] at h
    cases h
    have e:=za3 hi
    subst e
    exact zcH ns hn
   ·simp only [hn,if_false] at h
    cases h
 ·cases h
end K53
open PySem PySem.W PyProof.Rows
def PySem.W.Fast.tw6575201390063534415:Nat:=0
def PySem.W.Fast.tw761525105126792381:Nat:=0
def PySem.W.Fast.tw12565504305803350472:Nat:=0
def PySem.W.Fast.tw16776374989945957153:Nat:=0
def PySem.W.Fast.tw127241501342829080:Nat:=0
def PySem.W.Fast.tw7102204419839710826:Nat:=0
def PySem.W.Fast.tw7364665691291792175:Nat:=0
def PySem.W.Fast.tw14539168390626651313:Nat:=0
def PySem.W.Fast.tw3335276507412304624:Nat:=0
def PySem.W.Fast.tw8523240849953753624:Nat:=0
def PySem.W.Fast.tw15841445955125042472:Nat:=0
set_option maxRecDepth 100000 in
set_option maxHeartbeats 0 in
theorem PySem.Challenge.cw_tilegrow_k53_corners_holds : PySem.Challenge.rw_tilegrow_k53_corners.Holds := by
 w_on; o_law; k_head; (case hw=>w_witness2)
 k_fill
 refine DV.walkDT (l:=PySem.Challenge.rw_tilegrow_k53_corners) (k:=7) (G:=K53.Gt) (tpos:=K53.lamPos) (tq:=K53.lamQ) rfl rfl ⟨rfl,by decide,by decide⟩ (fun w h Y=>⟨PySem.W.km_in_of Y,PySem.W.km_tabs_of Y _ Wm⟩) ?L ?KT K53.r_law ?F
 case L=>intro p; exact Eq.refl true
 case KT=>intro p; exact Eq.refl none
 case F =>
  intro w mg fa h KX G hmg
  refine' K53.all_mk K53.law_all KX G hmg ?d0 ?d1 ?d2 ?d3 ?d4 ?d5 ?d6 ?d7 ?d8 ?d9 ?d10 ?a11 ?l11 ?c11 ?k11 ?dT ?gT ?d12 ?d13 ?d14 ?d15 ?d16 ?d17 ?d18 ?d19 ?d20 ?a21 ?l21 ?c21 ?k21 ?z_ValueError ?z_bool ?z_dict ?z_int ?z_isinstance ?z_len ?z_list ?z_max ?z_min ?z_range ?z_sorted ?z_str ?z_tuple ?ac_j ?ac_a ?ac_b ?ac_c ?ac_d ?ac_e ?ac_f ?ac_g ?ac_h ?ac_i ?ia_f ?li_f ?cci_f ?kfi_f ?qi_f ?fni_f ?kci_f ?sai_f ?ovi_f ?hdi_f ?tki_f_tile ?qc_j ?spc ?tkc ?ga_f ?gt_f ?cl_f ?mo_f ?mb_f ?ci_f ?kv_f ?no_f_tile ?hx_f ?ki_f_a ?ki_f_b ?ki_f_c ?ki_f_d ?ki_f_e ?ki_f_f ?ki_f_g ?ki_f_h ?ki_f_i ?mr_f_j
  (case d0=>exact ⟨_,_,_,_,_,_,_,_,_,_,by k_is,by k_is,by k_is,by k_is⟩); (case d1=>exact ⟨_,_,_,_,_,_,_,_,_,_,by k_is,by k_is,by k_is,by k_is⟩); (case d2=>exact ⟨_,_,_,_,_,_,_,_,_,_,by k_is,by k_is,by k_is,by k_is⟩); (case d3=>exact ⟨_,_,_,_,_,_,_,_,_,_,by k_is,by k_is,by k_is,by k_is⟩); (case d4=>exact ⟨_,_,_,_,_,_,_,_,_,_,by k_is,by k_is,by k_is,by k_is⟩); (case d5=>exact ⟨_,_,_,_,_,_,_,_,_,_,by k_is,by k_is,by k_is,by k_is⟩); (case d6=>exact ⟨_,_,_,_,_,_,_,_,_,_,by k_is,by k_is,by k_is,by k_is⟩); (case d7=>exact ⟨_,_,_,_,_,_,_,_,_,_,by k_is,by k_is,by k_is,by k_is⟩)
  (case d8=>exact ⟨_,_,_,_,_,_,_,_,_,_,by k_is,by k_is,by k_is,by k_is⟩); (case d9=>exact ⟨_,_,_,_,_,_,_,_,_,_,by k_is,by k_is,by k_is,by k_is⟩); (case d10=>exact ⟨_,_,_,_,_,_,_,_,_,_,by k_is,by k_is,by k_is,by k_is⟩); (case a11=>k_is); (case l11=>k_is); (case c11=>k_is); (case k11=>k_is); (case dT=>kernel_rfl)
  (case gT=>kernel_rfl); (case d12=>exact ⟨_,_,_,_,_,_,_,_,_,_,by k_is,by k_is,by k_is,by k_is⟩); (case d13=>exact ⟨_,_,_,_,_,_,_,_,_,_,by k_is,by k_is,by k_is,by k_is⟩); (case d14=>exact ⟨_,_,_,_,_,_,_,_,_,_,by k_is,by k_is,by k_is,by k_is⟩); (case d15=>exact ⟨_,_,_,_,_,_,_,_,_,_,by k_is,by k_is,by k_is,by k_is⟩); (case d16=>exact ⟨_,_,_,_,_,_,_,_,_,_,by k_is,by k_is,by k_is,by k_is⟩); (case d17=>exact ⟨_,_,_,_,_,_,_,_,_,_,by k_is,by k_is,by k_is,by k_is⟩); (case d18=>exact ⟨_,_,_,_,_,_,_,_,_,_,by k_is,by k_is,by k_is,by k_is⟩)
  (case d19=>exact ⟨_,_,_,_,_,_,_,_,_,_,by k_is,by k_is,by k_is,by k_is⟩); (case d20=>exact ⟨_,_,_,_,_,_,_,_,_,_,by k_is,by k_is,by k_is,by k_is⟩); (case a21=>k_is); (case l21=>k_is); (case c21=>k_is); (case k21=>k_is); (case z_ValueError=>k_is); (case z_bool=>k_is)
  (case z_dict=>k_is); (case z_int=>k_is); (case z_isinstance=>k_is); (case z_len=>k_is); (case z_list=>k_is); (case z_max=>k_is); (case z_min=>k_is); (case z_range=>k_is)
  (case z_sorted=>k_is); (case z_str=>k_is); (case z_tuple=>k_is); (case ac_j=>k_is); (case ac_a=>k_is); (case ac_b=>k_is); (case ac_c=>k_is); (case ac_d=>k_is)
  (case ac_e=>k_is); (case ac_f=>k_is); (case ac_g=>k_is); (case ac_h=>k_is); (case ac_i=>k_is); (case ia_f=>k_is); (case li_f=>k_is); (case cci_f=>k_is)
  (case kfi_f=>k_is); (case qi_f=>kernel_rfl); (case fni_f=>k_is); (case kci_f=>k_is); (case sai_f=>k_is); (case ovi_f=>kernel_rfl); (case hdi_f=>k_is); (case tki_f_tile=>k_is)
  (case qc_j=>kernel_rfl); (case spc=>k_is); (case tkc=>k_is); (case ga_f=>k_is); (case gt_f=>k_is); (case cl_f=>k_is); (case mo_f=>k_is); (case mb_f=>k_is)
  (case ci_f=>k_is); (case kv_f=>kit_is); (case no_f_tile=>k_is); (case hx_f=>k_is); (case ki_f_a=>kit_is); (case ki_f_b=>kit_is); (case ki_f_c=>kit_is); (case ki_f_d=>kit_is)
  (case ki_f_e=>kit_is); (case ki_f_f=>kit_is); (case ki_f_g=>kit_is); (case ki_f_h=>kit_is); (case ki_f_i=>kit_is); (case mr_f_j=>k_is)
