import PyProof.Rows.All
import Wide.All
import OpenK.AllK
import Wide.FinOn
import Lean
import PyProof.EqAt
import PyProof.EqKinds
import PyProof.TupleCall
import PyProof.NeKinds
import PyProof.StrWalks
import PyProof.ListStr
import PyProof.StrOps2
import PyProof.StrLawsIn
import KE.KDictOf
import PyProof.AttrMissHeap
import PyProof.Draws
import PyProof.EnumMake
import PyProof.Rows.EnumRows
import PyProof.LongRange
import PyProof.NoPylong
import PyProof.SeqI3
import PyProof.Rows.SeqCalls
import PyProof.StrLawsChain
import PyProof.StrCalls2
import KE.KIntText
import PyProof.Rows.CallKwBuiltin
import OpenK.KOwn
import OpenK.KRaise
import PyProof.ExcBaseAll.ValueError
import PyProof.Rows.CatchOwn
import KE.KIsAll
import PyProof.ExcArgsOwn
import PyProof.ExcAttrAll.ValueError
import PyProof.Rows.SeqMore2
import PyProof.ListMulAny
import PyProof.ListMulRoad
import PyProof.ZipIter
import PyProof.Rows.FactsT2
import PyProof.ExcInit
import PyProof.InstStoreFacts
import PyProof.StrCalls
import PyProof.FactsAll.dict_1
import PyProof.FactsAll.subtypes_3
import PyProof.FactsAll.subtypes_4
import PyProof.Dict
import PyProof.MinMaxWalk
import PyProof.WalkInts
import PyProof.WalksMore
import PyProof.FactsAll.tuple_2
import KE.KSortTup
import PyProof.Rows.SortWalk
import PyProof.Rows.SetFrom
import PyProof.DictKinds
import PyProof.DictStraight
import PyProof.SetRoads
import PyProof.CollectWalk
import PyProof.CollectStr
import PyProof.DictIter
import PyProof.Rows.SortShell
import KE.KItemsList
import PyProof.Rows.SortStr
import PyProof.DictItemsLoops
import PyProof.ListNew
import PyProof.Rows.SumAny
import KE.IntBitsLaws
import KE.KLam
import KE.KDictList
import KE.KNestM
import PySem.Challenge.RW_tilegrow_k51_mixing
open PySem renaming wpAny_bind→W0,Shared→W1,wpAny_pure→W4,wpAny→W6,sizeLine→W7,Spec→W8,starEach→Wa,Program→We,World→Wk,Around→Wm,mainGlobals→Wp,mem_of_lookup→Wq,wpAny_mono→WA,FuncData→WC,compareOp→WE,wpAny_newObj_type→WO,wpAny_holding→WP,codeAny→Q1,assignEach→Q2,binaryOp→Q5,codeAny_builtin→Q6,bootBuiltins→Q7,backTo→Q8,pyNext→Qa,wpAny_callSpecial?_slot→Qb,cellsFrom→Qc,behindInMarks→Qg,cLine→Qh,wpAny_call_entry→Qi,wpAny_truthy_bool→Qo,plainId_quiet→Qr,wpAny_setEntries_of→Qt,codeAny_mono→Qv,wpAny_passesOwn→Qw,wpAny_loadPart'→Qy,foldedSetIterable→QB,wpAny_setState_of→QC,wpAny_rule→QG,rawInt→QH,wpAny_typeOf→QJ,wpAny_askSetting→QM,sysModules→QP,wpAny_Call_Name_kw→QR,sizeLine_eq→QT,builtinLookup_eq_fast→J1,sliceBounds→J3,wpAny_ite_split→J7,wpAny_updateSeq→J8,swapsWith→Ja,tupleKind_room_in1→Jc,pushCells→Jd,getattributeRaised→Je,scanBound→Jf,typeIs_int→Jg,wpAny_setField→Jh,keywordEach→Jk
open PySem.W renaming Frag→W2,mg_none_of→WH,fnOf→WN,kia_one→WY,keepIn→Qk,kitOne→Ql,codeHdIn→QN,cellsFrom_some→QU,findIn→QY,envX→J2,kla_obj→J9,OpenLaw→Jp
open PySem.Heap renaming get?_push_of_some→W3,get?_push_size→Wh,lt_size→Wi,get?_update_self→WG,get?_update_other→WM,SameBut→QX,size_push→QZ
open Option.some renaming injEq→W5,inj→Ww
open List renaming getElem?_set_ne→W9,replicate→Wc,mem_cons_of_mem→Wd,mem_cons→Wf,mem_cons_self→Wg,map_cons→Wj,getElem?_eq_some_iff→Wl,size_toArray→Wn,getElem?_eq_getElem→Wo,range→Wr,getElem?_set_self→Wt,length_map→Wx,map_map→Wy,getElem?_map→Wz,mem_append_right→WF,nodup_cons→WI,getElem?_eq_none→WJ,mem_map_of_mem→WK,length_cons→WL,mem_of_getElem?→WR,length_append→WS,find?_cons→WT,mem_map→WU,replicate_succ→WV,getElem?_set→WW,map_append→WZ,lookup_cons→Q3,pairwise_cons→Q9,nil_append→Qe,getElem_mem→Qj,flatten_cons→Qp,eq_nil_of_length_eq_zero→Qs,length→Qu,append_nil→Qx,foldl_cons→Qz,any_cons→QA,pairwise_map→QE,all_eq_true→QL,getElem?_cons_succ→QO,mem_append→QQ,length_set→QS,range_succ_eq_map→QV,getElem?_range→J4,nodup_append→Jj,all_cons→Jl,length_take→Jm,of_mem_zip→Jo,range_succ→Jq
open Nat renaming le_refl→Wb,ne_of_lt→Wu,lt_of_lt_of_le→Wv,le_trans→WQ,lt_irrefl→WX,zero_le→Qf,lt_succ_of_lt→Qq,le_of_lt→QW,zero_add→J0,ne_of_gt→Jb,mul_le_mul→Ji,lt_succ_self→Jn
open Bool renaming and_eq_true→Ws,false_ne_true→Q0
open Option renaming bind_some→WB,map_some→WD
open Array renaming length_toList→Q4
open PySem.Builtin.Str renaming strSliceIndices→Qd
open PySem.F renaming plain_extend_loop→Qm
open PyProof.Rows renaming slot_tuple_getitem→Qn,envOfC→QI
open Int renaming toNat_natCast→QD
open PySem.Builtin.Slice renaming slicePlaces→QF
open PySem.Builtin.Tuple renaming tupleExact→QK
open PySem.Heap.SameBut renaming update→J5
set_option Elab.async false
set_option linter.all false
set_option maxRecDepth 100000
namespace L2
open PySem PySem.Spec PyProof.Rows
abbrev Key:=Sum Int Str
def z6C:Key→Value→Bool
 | .inl k,v=>Value.isInt k v
 | .inr x,v=>Value.isStrOf x v
def keyH (w:Wk):Key→Int
 | .inl k=>hashInt k
 | .inr x=>hashStr w x
theorem z0z:∀ {k:Key} {v:Value},z6C k v=true→(∃ i t,k=Sum.inl i∧v=Value.int i t)∨(∃ x t,k=Sum.inr x∧v=Value.str x t)
 | .inl i,v,h=>by
  obtain ⟨t,e⟩:=Value.isInt_shape (k:=i) (v:=v) h
  exact .inl ⟨i,t,rfl,e⟩
 | .inr x,v,h=>by
  obtain ⟨t,e⟩:=Value.isStrOf_shape (x:=x) (v:=v) h
  exact .inr ⟨x,t,rfl,e⟩
theorem z8U (i:Int) (t:Tok):z6C (.inl i) (.int i t)=true:=by simp [z6C,Value.isInt]
theorem z8T (x:Str) (t:Tok):z6C (.inr x) (.str x t)=true:=by simp [z6C,Value.isStrOf]
theorem zdj (a b:Int):decide ((Sum.inl a:Key)=Sum.inl b)=(a == b):=by
 by_cases e:a=b
 ·subst e; simp
 ·have h:¬ (Sum.inl a:Key)=Sum.inl b:=fun q=>e (Sum.inl.inj q)
  rw [decide_eq_false h]
  exact (beq_eq_false_iff_ne.mpr e).symm
theorem zdg (a b:Str):decide ((Sum.inr a:Key)=Sum.inr b)=decide (a=b):=by
 by_cases e:a=b
 ·subst e; simp
 ·have h:¬ (Sum.inr a:Key)=Sum.inr b:=fun q=>e (Sum.inr.inj q)
  rw [decide_eq_false h,decide_eq_false e]
theorem zdi (a:Int) (b:Str):decide ((Sum.inl a:Key)=Sum.inr b)=false:=decide_eq_false (fun q=>nomatch q)
theorem zdh (a:Str) (b:Int):decide ((Sum.inr a:Key)=Sum.inl b)=false:=decide_eq_false (fun q=>nomatch q)
def z0H (prog:We) (w:Wk):PySem.KeyKind prog w Key where
 is:=z6C
 hash:=keyH w
 inj:=fun v a b ha hb=>by
  rcases z0z ha with ⟨i,t,rfl,rfl⟩ | ⟨x,t,rfl,rfl⟩
  ·rcases z0z hb with ⟨j,u,rfl,e⟩ | ⟨y,u,rfl,e⟩
   ·injection e with e1 _; rw [e1]
   ·exact nomatch e
  ·rcases z0z hb with ⟨j,u,rfl,e⟩ | ⟨y,u,rfl,e⟩
   ·exact nomatch e
   ·injection e with e1 _; rw [e1]
 byValue:=fun k v h=>by
  rcases z0z h with ⟨i,t,rfl,rfl⟩ | ⟨x,t,rfl,rfl⟩ <;> rfl
 pyHash:=fun hv h=>by
  rcases z0z hv with ⟨i,t,rfl,rfl⟩ | ⟨x,t,rfl,rfl⟩
  ·exact wpAny_pyHash_int h
  ·exact wpAny_pyHash_str h
 eqBool:=fun hu hv h=>by
  rcases z0z hu with ⟨i,t,rfl,rfl⟩ | ⟨x,t,rfl,rfl⟩
  ·rcases z0z hv with ⟨j,u,rfl,rfl⟩ | ⟨y,u,rfl,rfl⟩
   ·rw [zdj] at h; exact wpAny_eqBool_int h
   ·rw [zdi] at h; exact SeqAt.EqAt.int_str i t y u _ _ _ _ h
  ·rcases z0z hv with ⟨j,u,rfl,rfl⟩ | ⟨y,u,rfl,rfl⟩
   ·rw [zdh] at h; exact SeqAt.EqAt.str_int x t j u _ _ _ _ h
   ·rw [zdg] at h; exact wpAny_eqBool_str h
 «strs»:=fun k x t v h=>by
  rcases z0z h with ⟨i,u,rfl,e⟩ | ⟨y,u,rfl,e⟩
  ·exact nomatch e
  ·injection e with e1 _
   subst e1
   cases v <;> rfl
theorem z7z (prog:We) (w:Wk) (k:Key) (v:Value):(z0H prog w).is k v=z6C k v:=rfl
theorem z6A (prog:We) (w:Wk) (i:Int) (t:Tok):(z0H prog w).is (.inl i) (.int i t)=true:=z8U i t
theorem z6z (prog:We) (w:Wk) (x:Str) (t:Tok):(z0H prog w).is (.inr x) (.str x t)=true:=z8T x t
inductive V where
 | non | bl (b:Bool) | int (i:Int) | str (x:Str) | byt (b:Array UInt8) | flt (b:UInt64) | ref (a:Addr) | ty (n:String)
 deriving DecidableEq
def RelV:V→Value→Prop
 | .non,u=>u=Value.none
 | .bl b,u=>u=Value.bool b
 | .int i,u=>∃ t,u=Value.int i t
 | .str x,u=>∃ t,u=Value.str x t
 | .byt b,u=>∃ t,u=Value.bytes b t
 | .flt b,u=>∃ t,u=Value.float b t
 | .ref a,u=>u=Value.ref a
 | .ty n,u=>u=Value.type n
abbrev Vals:List V→List Value→Prop:=Paired RelV
theorem Vals.length (r:Vals xs us):xs.length=us.length:=Paired.length r
theorem Vals.get:∀ {xs:List V} {us:List Value} {i:Nat} {x:V},Vals xs us→xs[i]? = some x→∃ u,us[i]? = some u∧RelV x u
 | _,_,_,_,.nil,e=>by simp at e
 | _,_,0,_,.cons r _,e=>by simp at e; subst e; exact ⟨_,rfl,r⟩
 | _,_,i + 1,x,.cons _ t,e=>by
  obtain ⟨u,h1,h2⟩:=Vals.get (i:=i) (x:=x) t (by simpa using e)
  exact ⟨u,by simpa using h1,h2⟩
theorem Vals.set (r:RelV x u):∀ {xs:List V} {us:List Value} (i:Nat),Vals xs us→Vals (xs.set i x) (us.set i u)
 | _,_,_,.nil=>.nil
 | _,_,0,.cons _ t=>.cons r t
 | _,_,i + 1,.cons q t=>.cons q (Vals.set r i t)
theorem Vals.append:∀ {xs ys:List V} {us ws:List Value},Vals xs us→Vals ys ws→Vals (xs ++ ys) (us ++ ws)
 | _,_,_,_,.nil,s=>s
 | _,_,_,_,.cons r t,s=>.cons r (Vals.append t s)
theorem Vals.take:∀ {xs:List V} {us:List Value} (n:Nat),Vals xs us→Vals (xs.take n) (us.take n)
 | _,_,0,_=>.nil
 | _,_,_ + 1,.nil=>.nil
 | _,_,n + 1,.cons r t=>.cons r (Vals.take n t)
theorem Vals.drop:∀ {xs:List V} {us:List Value} (n:Nat),Vals xs us→Vals (xs.drop n) (us.drop n)
 | _,_,0,r=>r
 | _,_,_ + 1,.nil=>.nil
 | _,_,n + 1,.cons _ t=>Vals.drop n t
def RelO:Option V→Option Value→Prop
 | some v,some u=>RelV v u
 | none,none=>True
 | _,_=>False
def KV {κ:Type}:List (κ×V)→List (κ×Value)→Prop:=Paired fun (p:κ×V) (q:κ×Value)=>p.1=q.1∧RelV p.2 q.2
def kV:Key→V
 | .inl i=>.int i
 | .inr x=>.str x
inductive HO where
  | lst (xs:List V)
  | tup (xs:List V)
  | dK (kvs:List (Key×V)) | dT (kvs:List (List Key×V))
  | set (S:Int→Bool) (n:Nat)
  | ins (C dx:Addr) (fs:List (Str×V))
  | own (x:Addr)
  | xd (fs:List (Str×V))
  | met (f x:Addr)
  | rng (lo hi:Int)
  | frz (o:Obj) (u:HO)
  | tbl (ps:Array Value)
  | ctab (pos:Pos) (q:Str)
  | ext (φ:Heap→Prop)
abbrev Hp:=Addr→Option HO
def upd (H:Hp) (a:Addr) (o:HO):Hp:=fun b=>if b=a then some o else H b
theorem z0d:upd H a o a=some o:=by unfold upd; rw [if_pos rfl]
theorem z06 (h:b≠a):upd H a o b=H b:=by unfold upd; rw [if_neg h]
theorem zaP:upd (upd H a o) a u=upd H a u:=by
 funext b; unfold upd; split <;> rfl
theorem ne_of {H:Hp} {a b:Addr} {o u:HO} (h:H a=some o) (h':H b=some u) (d:o≠u):a≠b:=by
 intro e; subst e; rw [h] at h'; exact d (Ww h')
theorem z0j {H:Hp} {a b:Addr} {o:HO} (h:H a=some o) (h':H b=none):a≠b:=by
 intro e; subst e; rw [h] at h'; cases h'
def IsTupN (h:Heap) (a:Addr) (its:Array Value):Prop:=∃ n,h.get? a=some { cls:=.type "tuple",dict:=none,data:=.seq its n,slots:=#[] }
theorem IsTupN.tup (x:IsTupN h a its):IsTup h a its:=let ⟨n,e⟩:=x; ⟨_,e,rfl,n,rfl⟩
theorem IsTupN.new (h:Heap) (its:Array Value):IsTupN (h.push { cls:=.type "tuple",data:=.seq its }) h.objs.size its:=⟨_,Wh _ rfl⟩
theorem IsTupN.lt (x:IsTupN h a its):a < h.objs.size:=let ⟨_,e⟩:=x; Wi e
section
variable (P:We) (w:Wk)
def ObjOk (H:Hp) (h:Heap) (a:Addr):HO→Prop
 | .lst xs=>xs.length≤W7∧∃ (its:List Value) (n:Nat),Vals xs its∧h.get? a=some { cls:=.type "list",data:=.seq its.toArray n }
 | .tup xs=>xs.length≤W7∧∃ its:List Value,Vals xs its∧IsTupN h a its.toArray
 | .dK kvs=>kvs.length≤W7∧(a == QP)=false∧∃ vs,KV kvs vs∧h.DictOf (z0H P w) a vs
 | .dT kvs=>kvs.length≤W7∧(a == QP)=false∧∃ xs:List (List Key×Addr×Value),
   Paired (fun (p:List Key×V) (q:List Key×Addr×Value)=>p.1=q.1∧H q.2.1=some (.tup (p.1.map kV))∧RelV p.2 q.2.2) kvs xs ∧
   ∃ o es ep,h.get? a=some o∧o.ExactDict∧o.data = .dict es ep∧es.toList=xs.map (entryOfKey (tupleKind (z0H P w)))∧(xs.map (·.1)).Nodup
 | .set S n=>h.SetOf (intKind P w) a S n
 | .ins C dx fs=>H dx=some (.own a)∧fs.length≤1000∧dx≠a∧h.get? a=some (PySem.W.instObj C dx) ∧
   ∃ mA,h.Ns1 dx mA∧(∀ f,RelO (fs.lookup f) (mA f))∧PySem.Within mA (fs.map (·.1))
 | .own _=>∃ o,h.get? a=some o
 | .xd fs=>∃ mA,h.Ns1 a mA∧∀ f,RelO (fs.lookup f) (mA f)
 | .rng lo hi=>∃ t u v,h.get? a=some { cls:=.type "range",data:=.fields #[.int lo t,.int hi u,.int 1 v] }
 | .frz o u=>h.get? a=some o∧ObjOk H h a u
 | .tbl ps=>h.get? a=some { cls:=.none,data:=.fields ps }
 | .ctab pos q=>∃ ps,h.get? a=some { cls:=.none,data:=.fields ps }∧TriplesOk ps.toList∧∀ cv,codeAmong pos ps.toList=some cv→∃ c' oc,cv = .ref c'∧H c'=some (.frz oc (.ext fun _=>True))∧∃ vs tq,oc.data = .fields vs∧vs[1]? = some (.str q tq)
 | .met f x=>h.get? a=some (PySem.W.methodObj (.ref f) (.ref x))
 | .ext φ=>φ h∧(∃ o,h.get? a=some o)∧∀ h1 h2:Heap,φ h1→(∀ o,h1.get? a=some o→h2.get? a=some o)→φ h2
def HOk (H:Hp) (h:Heap):Prop:=∀ a o,H a=some o→ObjOk P w H h a o
end
section
variable {P:We} {w:Wk} {H H':Hp} {h h':Heap} {a:Addr} {o:HO}
theorem ObjOk.lt (x:ObjOk P w H h a o):a < h.objs.size:=by
 cases o with
 | lst xs=>obtain ⟨_,_,_,_,e⟩:=x; exact Wi e
 | tup xs=>obtain ⟨_,_,_,p⟩:=x; exact p.lt
 | dK kvs=>obtain ⟨_,_,_,_,o,_,_,e,_⟩:=x; exact Wi e
 | dT kvs=>obtain ⟨_,_,_,_,o,_,_,e,_⟩:=x; exact Wi e
 | set S n=>obtain ⟨o,_,_,_,e,_⟩:=x; exact Wi e
 | ins C dx fs=>obtain ⟨_,_,_,e,_⟩:=x; exact Wi e
 | own y=>obtain ⟨_,e⟩:=x; exact Wi e
 | xd fs=>obtain ⟨_,⟨_,_,_,e,_⟩,_⟩:=x; exact Wi e
 | rng lo hi=>obtain ⟨_,_,_,e⟩:=x; exact Wi e
 | frz ob u=>obtain ⟨e,_⟩:=x; exact Wi e
 | tbl ps=>exact Wi (show h.get? a=some _ from x)
 | ctab pos q=>obtain ⟨_,e,_⟩:=x; exact Wi e
 | met f y=>exact Wi (show h.get? a=some _ from x)
 | ext φ=>obtain ⟨_,⟨_,e⟩,_⟩:=x; exact Wi e
theorem Paired.mapP:∀ {l₁:List α} {l₂:List β},Paired F l₁ l₂→(∀ a b,F a b→G a b)→Paired G l₁ l₂
 | _,_,.nil,_=>.nil
 | _,_,.cons r t,f=>.cons (f _ _ r) (Paired.mapP t f)
theorem ObjOk.stay (x:ObjOk P w H h a o) (k:∀ b u,(b=a∨H b=some (.own a))→h.get? b=some u→h'.get? b=some u)
  (ho:∀ b,H b=some (.own a)→H' b=some (.own a)) (ht:∀ b xs,H b=some (.tup xs)→H' b=some (.tup xs)) (hf:∀ b o u,H b=some (.frz o u)→H' b=some (.frz o u)):ObjOk P w H' h' a o:=by
 induction o with
 | lst xs=>obtain ⟨z,its,n,r,e⟩:=x; exact ⟨z,its,n,r,k _ _ (.inl rfl) e⟩
 | tup xs=>obtain ⟨z,its,r,n,e⟩:=x; exact ⟨z,its,r,n,k _ _ (.inl rfl) e⟩
 | dK kvs=>obtain ⟨z,y,vs,r,ob,es,ep,e,c⟩:=x; exact ⟨z,y,vs,r,ob,es,ep,k _ _ (.inl rfl) e,c⟩
 | dT kvs =>
  obtain ⟨z,y,xs,r,ob,es,ep,e,c⟩:=x
  exact ⟨z,y,xs,Paired.mapP r fun p q z=>⟨z.1,ht _ _ z.2.1,z.2.2⟩,ob,es,ep,k _ _ (.inl rfl) e,c⟩
 | set S n=>obtain ⟨ob,es,ep,t,e,c⟩:=x; exact ⟨ob,es,ep,t,k _ _ (.inl rfl) e,c⟩
 | ins C dx fs =>
  obtain ⟨d,z,ne,e,mA,⟨od,es,ep,e2,c⟩,r⟩:=x
  exact ⟨ho _ d,z,ne,k _ _ (.inl rfl) e,mA,⟨od,es,ep,k _ _ (.inr d) e2,c⟩,r⟩
 | own y=>obtain ⟨ob,e⟩:=x; exact ⟨ob,k _ _ (.inl rfl) e⟩
 | xd fs=>obtain ⟨mA,⟨od,es,ep,e,c⟩,r⟩:=x; exact ⟨mA,⟨od,es,ep,k _ _ (.inl rfl) e,c⟩,r⟩
 | rng lo hi=>obtain ⟨t,u,v,e⟩:=x; exact ⟨t,u,v,k _ _ (.inl rfl) e⟩
 | frz ob u ih=>obtain ⟨e,q⟩:=x; exact ⟨k _ _ (.inl rfl) e,ih q⟩
 | ctab pos q=>obtain ⟨ps,e,t,r⟩:=x; exact ⟨ps,k _ _ (.inl rfl) e,t,fun cv z=>let ⟨c',oc,z1,z2,z3⟩:=r cv z; ⟨c',oc,z1,hf _ _ _ z2,z3⟩⟩
 | tbl ps =>
  have e:h.get? a=some { cls:=.none,data:=.fields ps }:=x
  show h'.get? a=some { cls:=.none,data:=.fields ps }
  exact k a _ (.inl rfl) e
 | met f y =>
  have e:h.get? a=some (PySem.W.methodObj (.ref f) (.ref y)):=x
  show h'.get? a=some (PySem.W.methodObj (.ref f) (.ref y))
  exact k a _ (.inl rfl) e
 | ext φ=>obtain ⟨p,⟨o,e⟩,st⟩:=x; exact ⟨st _ _ p fun o q=>k _ _ (.inl rfl) q,⟨o,k _ _ (.inl rfl) e⟩,st⟩
theorem HOk.lt (x:HOk P w H h) (e:H a=some o):a < h.objs.size:=(x a o e).lt
theorem HOk.fresh (x:HOk P w H h) (e:h.objs.size≤a):H a=none:=by
 cases q:H a with
 | none=>rfl
 | some u=>exact absurd (Wv (x.lt q) e) (WX _)
theorem HOk.kept (x:HOk P w H h) (k:∀ b u,h.get? b=some u→h'.get? b=some u):HOk P w H h':=fun a o e =>
 (x a o e).stay (fun b u _ q=>k b u q) (fun _ q=>q) (fun _ _ q=>q) fun _ _ _ q=>q
theorem HOk.laid (x:HOk P w H h) (k:∀ b u,h.get? b=some u→h'.get? b=some u) (hp:h.objs.size≤a) (new:ObjOk P w (upd H a o) h' a o):HOk P w (upd H a o) h':=fun b u e=>by
 have hn:=x.fresh hp
 by_cases hb:b=a
 ·subst hb; rw [z0d] at e; cases e; exact new
 ·rw [z06 hb] at e
  exact (x b u e).stay (fun c v _ q=>k c v q) (fun c q=>by rw [z06 (z0j q hn)]; exact q) (fun c xs q=>by rw [z06 (z0j q hn)]; exact q) fun c o u q=>by rw [z06 (z0j q hn)]; exact q
end
def Rd (H:Hp) (a:Addr) (u:HO):Prop:=H a=some u∨∃ o,H a=some (.frz o u)
theorem Rd.ok (r:Rd H a u) (x:HOk P w H h):ObjOk P w H h a u:=by
 rcases r with r | ⟨o,r⟩
 ·exact x a u r
 ·obtain ⟨_,q⟩:=x a _ r
  exact q
def Mut:Option HO→Prop
 | some (.lst _)=>True
 | some (.dK _)=>True
 | some (.dT _)=>True
 | some (.set _ _)=>True
 | some (.ins _ _ _)=>True
 | some (.ext _)=>True
 | _=>False
section
variable {P:We} {w:Wk} {H:Hp} {h h':Heap} {x e:Addr} {o':HO}
theorem HOk.write (ok:HOk P w H h) (mu:Mut (H x)) (he:e=x∨H e=some (.own x)) (k:∀ b u,b≠e→h.get? b=some u→h'.get? b=some u) (heo:∃ u,h'.get? e=some u)
  (new:ObjOk P w (upd H x o') h' x o'):HOk P w (upd H x o') h':=fun b u q=>by
 have nown:∀ c y,H c=some (.own y)→c≠x:=fun c y r z=>by subst z; rw [r] at mu; exact mu
 have ntup:∀ c xs,H c=some (.tup xs)→c≠x:=fun c xs r z=>by subst z; rw [r] at mu; exact mu
 have nfrz:∀ c o u,H c=some (.frz o u)→c≠x:=fun c o u r z=>by subst z; rw [r] at mu; exact mu
 by_cases hb:b=x
 ·subst hb; rw [z0d] at q; cases q; exact new
 ·rw [z06 hb] at q
  by_cases hbe:b=e
  ·have q':H b=some (.own x):=by
    rcases he with z | z
    ·exact absurd (hbe.trans z) hb
    ·rw [hbe]; exact z
   rw [q] at q'; cases q'
   obtain ⟨v,hv⟩:=heo
   exact ⟨v,by rw [hbe]; exact hv⟩
  ·refine (ok b u q).stay (fun c v hc r=>k c v ?_ r) (fun c r=>by rw [z06 (nown c b r)]; exact r) (fun c xs r=>by rw [z06 (ntup c xs r)]; exact r) fun c o u r=>by rw [z06 (nfrz c o u r)]; exact r
   rcases hc with rfl | hc
   ·exact hbe
   ·rintro rfl
    rcases he with z | z
    ·exact nown c b hc z
    ·rw [hc] at z; cases z; exact hb rfl
end
structure Un (fs ex:List Addr) (H H':Hp) (h h':Heap):Prop where
 keep:∀ b o,h.get? b=some o→H b=none→b ∉ fs→b ∉ ex→h'.get? b=some o
 slot:∀ b o,h.get? b=some o→H b=none→b ∈ fs→b ∉ ex→∃ sl,h'.get? b=some { o with slots:=sl }
 free:∀ b o,h.get? b=some o→H b=none→b ∉ ex→H' b=none
 there:∀ b o,h.get? b=some o→b ∉ ex→∃ o',h'.get? b=some o'
 tups:∀ b xs,H b=some (.tup xs)→H' b=some (.tup xs)
 frzs:∀ b o u,H b=some (.frz o u)→H' b=some (.frz o u)
 tbls:∀ b ps,H b=some (.tbl ps)→∃ more,H' b=some (.tbl (ps ++ more))
section
variable {fs fs' ex ex':List Addr} {H H1 H2:Hp} {h h1 h2 h':Heap} {a x e:Addr} {o:HO}
theorem Un.any (u:Un fs ex H H1 h h1) (q:h.get? b=some ob) (n:H b=none) (hx:b ∉ ex):∃ sl,h1.get? b=some { ob with slots:=sl }:=by
 by_cases hb:b ∈ fs
 ·exact u.slot b ob q n hb hx
 ·exact ⟨ob.slots,u.keep b ob q n hb hx⟩
theorem Un.kept (k:∀ b u,h.get? b=some u→h'.get? b=some u):Un fs ex H H h h' :=
 ⟨fun b ob q _ _ _=>k b ob q,fun b ob q _ _ _=>⟨ob.slots,k b ob q⟩,fun _ _ _ n _=>n,fun b ob q _=>⟨ob,k b ob q⟩,fun _ _ q=>q,fun _ _ _ q=>q,fun _ ps q=>⟨#[],by rw [q]; simp⟩⟩
theorem Un.refl:Un fs ex H H h h:=Un.kept fun _ _ q=>q
theorem Un.laid (k:∀ b u,h.get? b=some u→h'.get? b=some u) (hp:h.objs.size≤a) (hn:H a=none):Un fs ex H (upd H a o) h h' where
 keep:=fun b u q _ _ _=>k b u q
 slot:=fun b u q _ _ _=>⟨u.slots,k b u q⟩
 free:=fun b u q n _=>by rw [z06 (Wu (Wv (Wi q) hp))]; exact n
 there:=fun b u q _=>⟨u,k b u q⟩
 tups:=fun b xs q=>by rw [z06 (z0j q hn)]; exact q
 frzs:=fun b u xs q=>by rw [z06 (z0j q hn)]; exact q
 tbls:=fun b ps q=>⟨#[],by rw [z06 (z0j q hn),q]; simp⟩
theorem Un.write (mu:Mut (H x)) (he:e=x∨H e=some (.own x)) (k:∀ b u,b≠e→h.get? b=some u→h'.get? b=some u) (heo:∃ u,h'.get? e=some u):Un fs ex H (upd H x o) h h':=by
 have hx:∀ b,H b=none→b≠x:=fun b n z=>by subst z; rw [n] at mu; exact mu
 have hb:∀ b,H b=none→b≠e:=fun b n z=>by
  subst z
  rcases he with r | r
  ·exact hx b n r
  ·rw [n] at r; cases r
 have hm:∀ b u,H b=some u→¬ Mut (some u)→b≠x:=fun b u q nm z=>by subst z; rw [q] at mu; exact nm mu
 refine ⟨fun b u q n _ _=>k b u (hb b n) q,fun b u q n _ _=>⟨u.slots,k b u (hb b n) q⟩,fun b u q n _=>by rw [z06 (hx b n)]; exact n,fun b u q _=>?_,
  fun b xs q=>by rw [z06 (hm b _ q fun z=>z)]; exact q,fun b u xs q=>by rw [z06 (hm b _ q fun z=>z)]; exact q,fun b ps q=>⟨#[],by rw [z06 (hm b _ q fun z=>z),q]; simp⟩⟩
 by_cases hbe:b=e
 ·subst hbe; exact heo
 ·exact ⟨u,k b u hbe q⟩
end
def trk (h:Heap) (H:Hp):List Addr:=(Wr h.objs.size).filter fun a=>(H a).isSome
def hidT (h:Heap) (H:Hp):Heap:=PySem.W.hideAll h (trk h H)
theorem z5Z (h:Heap) (H:Hp):(hidT h H).objs.size=h.objs.size:=PySem.W.hideAll_size _ _
theorem z7d (e:h.get? b=some o) (n:H b=none):(hidT h H).get? b=some o :=
 PySem.W.hideAll_get _ e fun hm=>by
  have q:(H b).isSome=true:=(List.mem_filter.mp hm).2
  rw [n] at q; simp at q
theorem z8G (e:(hidT h H).get? b=some o):h.get? b=some o∧H b=none:=by
 have e':h.get? b=some o:=PySem.W.of_hideAll (trk h H) e
 refine ⟨e',?_⟩
 cases q:H b with
 | none=>rfl
 | some x =>
  have hm:b ∈ trk h H:=List.mem_filter.mpr ⟨List.mem_range.mpr (Wi e'),by simp [q]⟩
  have z:(hidT h H).get? b=none:=PySem.W.hideAll_none (trk h H) hm
  rw [z] at e; cases e
def zbT (g h:Heap) (L:Addr):List (Addr×Obj):=(Wr h.objs.size).filterMap fun a=>if a=L∨(g.get? a).isSome=true then none else (h.get? a).map fun o=>(a,o)
def rest (g h:Heap) (L d:Addr):List (Addr×Obj):=(zbT g h L).filter fun p=>decide (p.1≠d)
structure Mod (K:W2) (mg:Str→Option Value) (base:Heap):Prop where
 kin:K.In base
 glob:base.Ns Wp mg
 blt:∃ mb,base.Ns builtinsNs mb∧∀ x:Str,x≠"__name__"→mb x=Q7 x
 nolimit:base.NoLimit
structure Cx where
 prog:We
 w:Wk
 K:W2
 mg:Str→Option Value
 base:Heap
 A:Wm
 N:List Str
 s₀:W1
 H₀:Hp
 env:Env
 outer:List Env
 stack:List Env
 ex:List Addr
 fn:Str→Bool
 calm:Bool
 pn:List (Addr×Obj)
 xe:Value→W1→Prop
def frs (l:List Env):List Addr:=l.filterMap (·.frame)
abbrev Cx.fs (X:Cx):List Addr:=frs X.outer
def Vis (sc:Scope) (x:Str):Prop:=sc.names.lookup x=some .local∨sc.names.lookup x=some .cell∨sc.names.lookup x=some .free
def Loc (sc:Scope) (x:Str):Prop:=sc.names.lookup x=some .local∨sc.names.lookup x=some .cell
def Look (env:Env) (h:Heap) (m:Str→Option Value) (x:Str) (u:Value):Prop :=
 (env.kindOf x=some .local∧m x=some u)∨((env.kindOf x=some .cell∨env.kindOf x=some .free)∧∃ c,env.cells.lookup x=some c∧h.IsCell c (some u))
structure Cx.Ok (X:Cx):Prop where
 mod:Mod X.K X.mg X.base
 kind:X.env.scope.kind = .function
 glob:X.env.globals=Wp
 blt:X.env.builtins=builtinsNs
 above:X.s₀.heap.objs.size≤X.env.locals
 inj:∀ x y c,X.env.cells.lookup x=some c→X.env.cells.lookup y=some c→x=y
 has:∀ x,(X.env.kindOf x=some .cell∨X.env.kindOf x=some .free)→∃ c,X.env.cells.lookup x=some c
 cab:∀ x c,X.fn x=true→X.env.cells.lookup x=some c→X.s₀.heap.objs.size≤c
 hd:X.calm=true→X.A.handled=none
 frames:X.A.frames=some X.stack
 stk:X.stack=X.outer∨(X.stack=X.env :: X.outer∧X.env.frame=some X.env.locals)
 exf:∀ b ∈ X.ex,b≠X.env.locals∧∀ x c,X.env.cells.lookup x=some c→c≠b
 bs:∀ b o,X.base.get? b=some o→X.s₀.heap.get? b=some o∧X.H₀ b=none
 bsz:X.base.objs.size≤X.s₀.heap.objs.size
 noex:∀ b o,X.base.get? b=some o→b ∉ X.ex
 exfs:∀ b ∈ X.ex,b ∉ X.fs
 funs:X.s₀.heap.FunFrames X.base X.outer
 frf:∀ b ∈ X.fs,X.H₀ b=none
structure Inv (X:Cx) (pins:List (Addr×Obj)) (σ:List (Option V)) (H:Hp) (s:W1):Prop where
 ok:X.Ok
 os:s.os=X.s₀.os
 bare:AllBare s.gens
 base:Un X.fs X.ex X.H₀ H X.s₀.heap s.heap
 loc:∃ m,s.heap.Ns X.env.locals m∧∀ (i:Nat) (x:Str) (v:V),X.N[i]? = some x→σ[i]? = some (some v)→Vis X.env.scope x→∃ u,RelV v u∧Look X.env s.heap m x u
 cell:∀ x c,X.env.cells.lookup x=some c→∃ v,s.heap.IsCell c v
 free:H X.env.locals=none
 freeC:∀ x c,X.env.cells.lookup x=some c→H c=none
 pin:∀ p ∈ X.pn ++ pins,s.heap.get? p.1=some p.2∧H p.1=none∧p.1≠X.env.locals∧p.1 ∉ X.fs∧∀ v,p.2.data≠.cell v
 hok:HOk X.prog X.w H s.heap
 len:σ.length=X.N.length
section
variable {X:Cx} {pins:List (Addr×Obj)} {σ:List (Option V)} {H H':Hp} {s:W1} {h':Heap}
theorem Cx.Ok.nofr (ok:X.Ok) (e:X.base.get? b=some o):b ∉ X.fs:=fun hb=>by
 have:=(ok.funs.mem hb).1
 rw [e] at this; cases this
theorem Inv.bs (I:Inv X pins σ H s):∀ b o,X.base.get? b=some o→s.heap.get? b=some o∧H b=none:=fun b o e =>
 ⟨I.base.keep b o (I.ok.bs b o e).1 (I.ok.bs b o e).2 (I.ok.nofr e) (I.ok.noex b o e),I.base.free b o (I.ok.bs b o e).1 (I.ok.bs b o e).2 (I.ok.noex b o e)⟩
theorem Inv.bk (I:Inv X pins σ H s):∀ b o,X.base.get? b=some o→s.heap.get? b=some o:=fun b o e=>(I.bs b o e).1
theorem Inv.mod (I:Inv X pins σ H s):Mod X.K X.mg X.base:=I.ok.mod
theorem Inv.kIn (I:Inv X pins σ H s):X.K.In s.heap:=I.ok.mod.kin.keeps I.bk
theorem Inv.fr (I:Inv X pins σ H s):∃ m,Fr X.base X.env.locals s.heap m :=
 let ⟨m,hn,_⟩:=I.loc
 ⟨m,hn,I.bk,WQ I.ok.bsz I.ok.above⟩
theorem Inv.lt (I:Inv X pins σ H s):X.env.locals < s.heap.objs.size:=let ⟨_,hn,_⟩:=I.loc; hn.lt
theorem Inv.sz (I:Inv X pins σ H s):X.s₀.heap.objs.size≤s.heap.objs.size:=WQ I.ok.above (QW I.lt)
theorem Inv.nofs (I:Inv X pins σ H s) (h:s.heap.objs.size≤a):a ∉ X.fs:=fun hb=>by
 obtain ⟨_,o,ho,_⟩:=I.ok.funs.mem hb
 exact absurd (Wv (Wi ho) (WQ I.sz h)) (WX _)
theorem Inv.cne (I:Inv X pins σ H s):∀ x c,X.env.cells.lookup x=some c→c≠X.env.locals:=fun x c e z=>by
 obtain ⟨v,o,ho,hd⟩:=I.cell x c e
 obtain ⟨m,⟨o',es,ep,ho',hd',_⟩,_⟩:=I.loc
 rw [z,ho'] at ho; cases ho; rw [hd'] at hd; cases hd
theorem Inv.funs (I:Inv X pins σ H s):s.heap.FunFrames X.base X.outer:=by
 have all:∀ (l:List Env),(∀ b ∈ frs l,b ∈ X.fs)→X.s₀.heap.FunFrames X.base l→s.heap.FunFrames X.base l:=by
  intro l
  induction l with
  | nil=>intro _ _; trivial
  | cons env r ih =>
   intro hs hl
   obtain ⟨hk,⟨L,o,hf,hn,ho,hd⟩,hr⟩:=hl
   have hL:L ∈ X.fs:=hs L (by unfold frs; rw [List.filterMap_cons,hf]; exact Wg)
   obtain ⟨sl,e⟩:=I.base.slot L o ho (I.ok.frf L hL) hL fun z=>I.ok.exfs L z hL
   exact ⟨hk,⟨L,_,hf,hn,e,hd⟩,ih (fun b hb=>hs b (by unfold frs; rw [List.filterMap_cons,hf]; exact Wd _ hb)) hr⟩
 exact all X.outer (fun _ hb=>hb) I.ok.funs
theorem Inv.stack (I:Inv X pins σ H s):s.heap.FunFrames X.base X.stack:=by
 rcases I.ok.stk with e | ⟨e,hf⟩
 ·rw [e]; exact I.funs
 ·rw [e]
  obtain ⟨m,hn,_⟩:=I.loc
  refine .cons (by rw [I.ok.kind]; decide) hf hn ?_ I.funs
  exact Heap.get?_none_of_le (WQ I.ok.bsz I.ok.above)
theorem Inv.stkSub (I:Inv X pins σ H s):∀ b ∈ frs X.stack,b ∈ X.env.locals :: X.fs:=fun b hb=>by
 rcases I.ok.stk with e | ⟨e,hf⟩
 ·rw [e] at hb; exact Wd _ hb
 ·rw [e] at hb
  unfold frs at hb
  rw [List.filterMap_cons,hf] at hb
  exact hb
theorem Inv.stkFree (I:Inv X pins σ H s):∀ b ∈ frs X.stack,H b=none:=fun b hb=>by
 rcases Wf.mp (I.stkSub b hb) with e | hb
 ·rw [e]; exact I.free
 ·obtain ⟨_,o,ho,_⟩:=I.ok.funs.mem hb
  exact I.base.free b o ho (I.ok.frf b hb) fun z=>I.ok.exfs b z hb
theorem Inv.step {g':Array GenState} {t':Nat} {d':Drawn} {ch:List Addr} (I:Inv X pins σ H s)
  (hch:∀ b ∈ ch,(b ∈ X.ex∨X.s₀.heap.objs.size≤b)∧b≠X.env.locals∧(∀ x c,X.env.cells.lookup x=some c→c≠b)∧∀ p ∈ X.pn ++ pins,p.1≠b)
  (keep:∀ b o,b≠X.env.locals→b ∉ X.fs→b ∉ ch→s.heap.get? b=some o→H b=none→h'.get? b=some o)
  (slot:∀ b o,b≠X.env.locals→b ∈ X.fs→b ∉ ch→s.heap.get? b=some o→H b=none→∃ sl,h'.get? b=some { o with slots:=sl }) (free:∀ b o,b ∉ ch→s.heap.get? b=some o→H b=none→H' b=none)
  (there:∀ b o,b ∉ ch→s.heap.get? b=some o→∃ o',h'.get? b=some o')
  (tups:∀ b xs,H b=some (.tup xs)→H' b=some (.tup xs)) (frzs:∀ b o u,H b=some (.frz o u)→H' b=some (.frz o u)) (tbls:∀ b ps,H b=some (.tbl ps)→∃ more,H' b=some (.tbl (ps ++ more)))
  (ns:∀ m,s.heap.Ns X.env.locals m→h'.Ns X.env.locals m) (hok:HOk X.prog X.w H' h') (hg:AllBare g') :
  Inv X pins σ H' { s with heap:=h',gens:=g',drawn:=d',toks:=t' }:=by
 have neL:∀ b o,X.s₀.heap.get? b=some o→b≠X.env.locals:=fun b o e=>Wu (Wv (Wi e) I.ok.above)
 have neC:∀ b o,X.s₀.heap.get? b=some o→b ∉ X.ex→b ∉ ch:=fun b o e hx hb=>by
  rcases (hch b hb).1 with z | z
  ·exact hx z
  ·exact absurd (Wv (Wi e) z) (WX _)
 have cellK:∀ x c,X.env.cells.lookup x=some c→∀ v,s.heap.IsCell c v→h'.IsCell c v:=fun x c e v ⟨o,ho,hd⟩=>by
  have nch:c ∉ ch:=fun z=>(hch c z).2.2.1 x c e rfl
  by_cases hc:c ∈ X.fs
  ·obtain ⟨sl,q⟩:=slot c o (I.cne x c e) hc nch ho (I.freeC x c e)
   exact ⟨_,q,hd⟩
  ·exact ⟨o,keep c o (I.cne x c e) hc nch ho (I.freeC x c e),hd⟩
 refine ⟨I.ok,I.os,hg,⟨fun b o e n hb hx=>?_,fun b o e n hb hx=>?_,fun b o e n hx=>?_,fun b o e hx=>?_,fun b xs e=>tups b xs (I.base.tups b xs e),fun b o xs e=>frzs b o xs (I.base.frzs b o xs e),fun b ps e=>?_⟩,?_,fun x c e=>?_,?_,fun x c e=>?_,fun p hp=>?_,hok,I.len⟩
 ·exact keep b o (neL b o e) hb (neC b o e hx) (I.base.keep b o e n hb hx) (I.base.free b o e n hx)
 ·obtain ⟨sl,e1⟩:=I.base.slot b o e n hb hx
  obtain ⟨sl',e2⟩:=slot b _ (neL b o e) hb (neC b o e hx) e1 (I.base.free b o e n hx)
  exact ⟨sl',e2⟩
 ·obtain ⟨o',e1⟩:=I.base.there b o e hx
  exact free b o' (neC b o e hx) e1 (I.base.free b o e n hx)
 ·obtain ⟨o',e1⟩:=I.base.there b o e hx
  exact there b o' (neC b o e hx) e1
 ·obtain ⟨m1,e1⟩:=I.base.tbls b ps e
  obtain ⟨m2,e2⟩:=tbls b _ e1
  exact ⟨m1 ++ m2,by rw [e2,Array.append_assoc]⟩
 ·obtain ⟨m,hn,hl⟩:=I.loc
  refine ⟨m,ns m hn,fun i x v e1 e2 e3=>?_⟩
  obtain ⟨u,r,l⟩:=hl i x v e1 e2 e3
  refine ⟨u,r,?_⟩
  rcases l with l | ⟨k,c,e,z⟩
  ·exact .inl l
  ·exact .inr ⟨k,c,e,cellK x c e _ z⟩
 ·obtain ⟨v,z⟩:=I.cell x c e
  exact ⟨v,cellK x c e v z⟩
 ·obtain ⟨m,⟨o,_,_,ho,_⟩,_⟩:=I.loc
  exact free _ o (fun z=>(hch _ z).2.1 rfl) ho I.free
 ·obtain ⟨v,o,ho,hd⟩:=I.cell x c e
  exact free c o (fun z=>(hch c z).2.2.1 x c e rfl) ho (I.freeC x c e)
 ·obtain ⟨e,n,ne,nf,d⟩:=I.pin p hp
  have nch:p.1 ∉ ch:=fun z=>(hch p.1 z).2.2.2 p hp rfl
  exact ⟨keep p.1 p.2 ne nf nch e n,free p.1 p.2 nch e n,ne,nf,d⟩
theorem Inv.un {t':Nat} (I:Inv X pins σ H s) (u:Un X.fs [] H H' s.heap h') (hok:HOk X.prog X.w H' h'):Inv X pins σ H' { s with heap:=h',toks:=t' }:=by
 obtain ⟨m,⟨o,es,ep,ho,r⟩,_⟩:=id I.loc
 obtain ⟨sl,hL⟩:=u.any ho I.free (by simp)
 exact I.step (g':=s.gens) (d':=s.drawn) (ch:=[]) (fun _ z=>nomatch z) (fun b o _ hb _ e n=>u.keep b o e n hb (by simp)) (fun b o _ hb _ e n=>u.slot b o e n hb (by simp)) (fun b o _ e n=>u.free b o e n (by simp)) (fun b o _ e=>u.there b o e (by simp)) u.tups u.frzs u.tbls (fun m' hm=>by
  obtain ⟨o',es',ep',ho',r'⟩:=hm
  rw [ho] at ho'; cases ho'
  exact ⟨_,es',ep',hL,r'⟩) hok I.bare
theorem Inv.call {g':Array GenState} {t':Nat} {d':Drawn} {ch:List Addr} (I:Inv X pins σ H s) (u:Un (frs X.stack) ch H H' s.heap h') (hok:HOk X.prog X.w H' h') (hg:AllBare g')
  (hch:∀ b ∈ ch,(b ∈ X.ex∨X.s₀.heap.objs.size≤b)∧b≠X.env.locals∧(∀ x c,X.env.cells.lookup x=some c→c≠b)∧∀ p ∈ X.pn ++ pins,p.1≠b) :
  Inv X pins σ H' { s with heap:=h',gens:=g',drawn:=d',toks:=t' }:=by
 obtain ⟨m,⟨o,es,ep,ho,r⟩,_⟩:=id I.loc
 obtain ⟨sl,hL⟩:=u.any ho I.free fun z=>(hch _ z).2.1 rfl
 exact I.step (ch:=ch) hch (fun b o hL hb hc e n=>u.keep b o e n (fun z=>(Wf.mp (I.stkSub b z)).elim hL hb) hc) (fun b o _ _ hc e n=>u.any e n hc) (fun b o hc e n=>u.free b o e n hc) (fun b o hc e=>u.there b o e hc) u.tups u.frzs u.tbls (fun m' hm=>by
  obtain ⟨o',es',ep',ho',r'⟩:=hm
  rw [ho] at ho'; cases ho'
  exact ⟨_,es',ep',hL,r'⟩) hok hg
theorem Inv.turned {t':Nat} {it:Addr} (I:Inv X pins σ H s) (k:∀ b o,b≠it→s.heap.get? b=some o→h'.get? b=some o) (hn:H it=none) (hL:it≠X.env.locals)
  (h1:it ∈ X.ex∨X.s₀.heap.objs.size≤it) (h2:∀ x c,X.env.cells.lookup x=some c→c≠it) (h3:∀ p ∈ X.pn ++ pins,p.1≠it):Inv X pins σ H { s with heap:=h',toks:=t' }:=by
 have nit:∀ b u,H b=some u→b≠it:=fun b u e z=>by rw [z,hn] at e; cases e
 refine I.step (g':=s.gens) (d':=s.drawn) (ch:=[it]) (fun b hb=>?_) (fun b o _ _ hc e _=>k b o (fun z=>hc (by simp [z])) e) (fun b o _ _ hc e _=>⟨o.slots,k b o (fun z=>hc (by simp [z])) e⟩) (fun _ _ _ _ n=>n)
  (fun b o hc e=>⟨o,k b o (fun z=>hc (by simp [z])) e⟩) (fun _ _ e=>e) (fun _ _ _ e=>e) (fun b ps e=>⟨#[],by rw [e]; simp⟩) (fun m hm=>?_) (fun b u e=>?_) I.bare
 ·have e:b=it:=by simpa using hb
  subst e
  exact ⟨h1,hL,h2,h3⟩
 ·obtain ⟨o,es,ep,ho,r⟩:=hm
  exact ⟨o,es,ep,k _ o (Ne.symm hL) ho,r⟩
 ·refine (I.hok b u e).stay (fun c v hc q=>k c v ?_ q) (fun _ q=>q) (fun _ _ q=>q) fun _ _ _ q=>q
  rcases hc with z | z
  ·rw [z]; exact nit b u e
  ·exact nit c _ z
theorem Inv.tok (I:Inv X pins σ H s) (t:Nat):Inv X pins σ H { s with toks:=t }:=I.un (h':=s.heap) (t':=t) Un.refl I.hok
theorem Inv.kept (I:Inv X pins σ H s) (k:∀ b u,s.heap.get? b=some u→h'.get? b=some u):Inv X pins σ H { s with heap:=h',toks:=t' }:=I.un (Un.kept k) (I.hok.kept k)
theorem Inv.laid (I:Inv X pins σ H s) (k:∀ b u,s.heap.get? b=some u→h'.get? b=some u) (hp:s.heap.objs.size≤a) (new:ObjOk X.prog X.w (upd H a o) h' a o) :
  Inv X pins σ (upd H a o) { s with heap:=h',toks:=t' }:=I.un (Un.laid k hp (I.hok.fresh hp)) (I.hok.laid k hp new)
theorem Inv.write (I:Inv X pins σ H s) (mu:Mut (H x)) (he:e=x∨H e=some (.own x)) (k:∀ b u,b≠e→s.heap.get? b=some u→h'.get? b=some u) (heo:∃ u,h'.get? e=some u)
  (new:ObjOk X.prog X.w (upd H x o) h' x o):Inv X pins σ (upd H x o) { s with heap:=h',toks:=t' }:=I.un (Un.write mu he k heo) (I.hok.write mu he k heo new)
theorem Inv.weak (I:Inv X pins σ H s) (hl:σ'.length=σ.length) (w:∀ (i:Nat) v,σ'[i]? = some (some v)→σ[i]? = some (some v)):Inv X pins σ' H s :=
 ⟨I.ok,I.os,I.bare,I.base,let ⟨m,hn,hl'⟩:=I.loc; ⟨m,hn,fun i x v e1 e2 e3=>hl' i x v e1 (w i v e2) e3⟩,I.cell,I.free,I.freeC,I.pin,I.hok,hl.trans I.len⟩
theorem Inv.pins_of (I:Inv X pins σ H s) (h:∀ p ∈ pins',s.heap.get? p.1=some p.2∧H p.1=none∧p.1≠X.env.locals∧p.1 ∉ X.fs∧∀ v,p.2.data≠.cell v):Inv X pins' σ H s :=
 ⟨I.ok,I.os,I.bare,I.base,I.loc,I.cell,I.free,I.freeC,fun p hp=>(QQ.mp hp).elim (fun z=>I.pin p (List.mem_append_left _ z)) (h p),I.hok,I.len⟩
theorem z76 {N:List Str} (hN:N.Nodup) {i j:Nat} {x:Str} (a:N[i]? = some x) (b:N[j]? = some x):i=j:=by
 obtain ⟨h1,e1⟩:=Wl.mp a
 obtain ⟨h2,e2⟩:=Wl.mp b
 exact (List.getElem_inj hN).mp (e1.trans e2.symm)
theorem z5q {M:Model} {A:Wm} {E:Value→W1→Prop} {i:Nat} {x:Str} {v:V} {u:Value} {Q:Unit→W1→Prop} (I:Inv X pins σ H s) (hN:X.N.Nodup) (hi:X.N[i]? = some x) (hx:Loc X.env.scope x) (r:RelV v u)
  (h:∀ s',Inv X pins (σ.set i (some v)) H s'→(∃ a,QX a s.heap s'.heap∧(a=X.env.locals∨X.env.cells.lookup x=some a))→Q () s') (hf:X.fn x=true∨X.env.scope.names.lookup x=some .local:=by first | exact .inl rfl | exact .inr rfl | assumption):W6 M A (storeName X.env x u) Q E s:=by
 obtain ⟨m,hn,hl⟩:=id I.loc
 have hcls:(X.env.scope.kind == .class || (X.env.scope.kind == .module && X.env.locals != X.env.globals))=false:=by rw [I.ok.kind]; rfl
 have hiσ:i < σ.length:=by rw [I.len]; exact (Wl.mp hi).1
 have cne:=I.cne
 have tracked:∀ {a:Addr} {h':Heap},(∃ o,s.heap.get? a=some o∧H a=none)→QX a s.heap h'→HOk X.prog X.w H h':=fun {a h'} ha hs b ob e=>by
  obtain ⟨_,_,hfree⟩:=ha
  refine (I.hok b ob e).stay (fun c w' hc q=>(hs.2 c ?_).trans q) (fun _ q=>q) (fun _ _ q=>q) fun _ _ _ q=>q
  rintro rfl
  rcases hc with rfl | hc
  ·rw [hfree] at e; cases e
  ·rw [hfree] at hc; cases hc
 rcases hx with hk | hk
 ·refine wpAny_storeName_local hk hn (fun h' hn' hs=>?_) hcls
  obtain ⟨oL,_,_,hoL,_⟩:=id hn
  refine h _ ⟨I.ok,I.os,I.bare,⟨fun b o e n hb hx=>?_,fun b o e n hb hx=>?_,I.base.free,fun b o e hx=>?_,I.base.tups,I.base.frzs,I.base.tbls⟩,⟨_,hn',fun j y v' e1 e2 e3=>?_⟩,fun y c e=>?_,I.free,I.freeC,fun p hp=>?_,tracked ⟨oL,hoL,I.free⟩ hs,by simpa using I.len⟩ ⟨_,hs,.inl rfl⟩
  ·exact (hs.2 b (Wu (Wv (Wi e) I.ok.above))).trans (I.base.keep b o e n hb hx)
  ·obtain ⟨sl,e1⟩:=I.base.slot b o e n hb hx
   exact ⟨sl,(hs.2 b (Wu (Wv (Wi e) I.ok.above))).trans e1⟩
  ·obtain ⟨o',e1⟩:=I.base.there b o e hx
   exact ⟨o',(hs.2 b (Wu (Wv (Wi e) I.ok.above))).trans e1⟩
  ·by_cases hj:j=i
   ·subst hj
    rw [hi] at e1; cases e1
    rw [Wt hiσ] at e2
    cases e2
    exact ⟨u,r,.inl ⟨hk,by simp⟩⟩
   ·rw [W9 (Ne.symm hj)] at e2
    obtain ⟨u',r',q⟩:=hl j y v' e1 e2 e3
    refine ⟨u',r',?_⟩
    rcases q with ⟨k,e⟩ | ⟨k,c,e,z⟩
    ·refine .inl ⟨k,?_⟩
     have:y≠x:=fun e=>hj (z76 hN e1 (e ▸ hi))
     simp [this,e]
    ·exact .inr ⟨k,c,e,z.sameBut hs (cne y c e)⟩
  ·obtain ⟨w',z⟩:=I.cell y c e
   exact ⟨w',z.sameBut hs (cne y c e)⟩
  ·obtain ⟨e,n,ne,nf,d⟩:=I.pin p hp
   exact ⟨(hs.2 p.1 ne).trans e,n,ne,nf,d⟩
 ·have hfn:X.fn x=true:=by
   rcases hf with z | z
   ·exact z
   ·rw [z] at hk; cases hk
  obtain ⟨c,hc⟩:=I.ok.has x (.inl hk)
  obtain ⟨w',z⟩:=I.cell x c hc
  refine wpAny_storeName_cell I.ok.kind hk hc z (fun h' hc' hs=>?_)
  obtain ⟨oc,hoc,hocd⟩:=id z
  refine h { s with heap:=h' } ⟨I.ok,I.os,I.bare,⟨fun b o e n hb hx=>?_,fun b o e n hb hx=>?_,I.base.free,fun b o e hx=>?_,I.base.tups,I.base.frzs,I.base.tbls⟩,⟨m,hn.sameBut hs (Ne.symm (cne x c hc)),fun j y v' e1 e2 e3=>?_⟩,fun y c' e=>?_,I.free,I.freeC,fun p hp=>?_,tracked ⟨oc,hoc,I.freeC x c hc⟩ hs,by simpa using I.len⟩ ⟨c,hs,.inr hc⟩
  ·exact (hs.2 b (Wu (Wv (Wi e) (I.ok.cab x c hfn hc)))).trans (I.base.keep b o e n hb hx)
  ·obtain ⟨sl,e1⟩:=I.base.slot b o e n hb hx
   exact ⟨sl,(hs.2 b (Wu (Wv (Wi e) (I.ok.cab x c hfn hc)))).trans e1⟩
  ·obtain ⟨o',e1⟩:=I.base.there b o e hx
   exact ⟨o',(hs.2 b (Wu (Wv (Wi e) (I.ok.cab x c hfn hc)))).trans e1⟩
  ·by_cases hj:j=i
   ·subst hj
    rw [hi] at e1; cases e1
    rw [Wt hiσ] at e2
    cases e2
    exact ⟨u,r,.inr ⟨.inl hk,c,hc,hc'⟩⟩
   ·rw [W9 (Ne.symm hj)] at e2
    obtain ⟨u',r',q⟩:=hl j y v' e1 e2 e3
    refine ⟨u',r',?_⟩
    rcases q with q | ⟨k,c',e,z'⟩
    ·exact .inl q
    ·refine .inr ⟨k,c',e,z'.sameBut hs ?_⟩
     rintro rfl
     exact hj (z76 hN e1 (I.ok.inj _ _ _ e hc ▸ hi))
  ·by_cases hcc:c'=c
   ·subst hcc; exact ⟨_,hc'⟩
   ·obtain ⟨w2,z2⟩:=I.cell y c' e
    exact ⟨w2,z2.sameBut hs hcc⟩
  ·obtain ⟨e,n,ne,nf,d⟩:=I.pin p hp
   refine ⟨(hs.2 p.1 ?_).trans e,n,ne,nf,d⟩
   intro q
   rw [q,hoc] at e
   have q':oc=p.2:=Ww e
   exact d w' (by rw [← q']; exact hocd)
theorem z6U (I:Inv X pins σ H s) (hN:X.N.Nodup) (hi:X.N[i]? = some x) (hx:Loc X.env.scope x) (r:RelV v u)
  (h:∀ s',Inv X pins (σ.set i (some v)) H s'→Q () s') (hf:X.fn x=true∨X.env.scope.names.lookup x=some .local:=by first | exact .inl rfl | exact .inr rfl | assumption):W6 M A (storeName X.env x u) Q E s :=
 z5q I hN hi hx r (fun s' I' _=>h s' I') hf
theorem Inv.call' (I:Inv X pins σ H s) (ho:s'.os=s.os) (u:Un (frs X.stack) ch H H' s.heap s'.heap) (hok:HOk X.prog X.w H' s'.heap) (hg:AllBare s'.gens)
  (hch:∀ b ∈ ch,(b ∈ X.ex∨X.s₀.heap.objs.size≤b)∧b≠X.env.locals∧(∀ x c,X.env.cells.lookup x=some c→c≠b)∧∀ p ∈ X.pn ++ pins,p.1≠b):Inv X pins σ H' s':=by
 obtain ⟨h',g',d',t',o'⟩:=s'
 have e:o'=s.os:=ho
 subst e
 exact I.call (g':=g') (t':=t') (d':=d') u hok hg hch
end
abbrev XK:=Value→Option Addr→Hp→Prop
abbrev St:=List (Option V)
abbrev VK:=V→Hp→Prop
abbrev TE:=St→Hp→VK→Prop
abbrev TT:=St→Hp→(Bool→Hp→Prop)→Prop
abbrev TA:=St→Hp→(List V→Hp→Prop)→Prop
structure Ends where
 nx:St→Hp→Prop
 rt:VK
 bk:St→Hp→Prop:=fun _ _=>False
 ct:St→Hp→Prop:=fun _ _=>False
abbrev TS:=Ends→St→Hp→Prop
def EP (X:Cx) (pins:List (Addr×Obj)) (σ:St) (Q:VK) (u:Value) (s':W1):Prop:=∃ v H',Inv X pins σ H' s'∧RelV v u∧Q v H'
def TP (X:Cx) (pins:List (Addr×Obj)) (σ:St) (Q:Bool→Hp→Prop) (b:Bool) (s':W1):Prop:=∃ H',Inv X pins σ H' s'∧Q b H'
def AP (X:Cx) (pins:List (Addr×Obj)) (σ:St) (Q:List V→Hp→Prop) (us:List Value) (s':W1):Prop:=∃ vs H',Inv X pins σ H' s'∧Vals vs us∧Q vs H'
def SP (X:Cx) (pins:List (Addr×Obj)) (D:Ends) (f:Flow) (s':W1):Prop :=
 match f with
 | .next=>∃ σ' H',Inv X pins σ' H' s'∧D.nx σ' H'
 | .brk=>∃ σ' H',Inv X pins σ' H' s'∧D.bk σ' H'
 | .cont=>∃ σ' H',Inv X pins σ' H' s'∧D.ct σ' H'
 | .ret u=>∃ v σ' H',Inv X pins σ' H' s'∧RelV v u∧D.rt v H'
def PE (X:Cx) (e:Expr) (t:TE):Prop :=
 ∀ (pins:List (Addr×Obj)) (s:W1) (σ:St) (H:Hp) (Q:VK),Inv X pins σ H s→t σ H Q→W6 (model X.prog X.w) X.A (eval e X.env) (EP X pins σ Q) X.xe s
def PT (X:Cx) (e:Expr) (t:TT):Prop :=
 ∀ (pins:List (Addr×Obj)) (s:W1) (σ:St) (H:Hp) (Q:Bool→Hp→Prop),Inv X pins σ H s→t σ H Q→W6 (model X.prog X.w) X.A (isTrue e X.env (eval e X.env)) (TP X pins σ Q) X.xe s
def PW (X:Cx) (e:Expr) (t:TT):Prop :=
 ∀ (whole:Sem Value) (pins:List (Addr×Obj)) (s:W1) (σ:St) (H:Hp) (Q:Bool→Hp→Prop),Inv X pins σ H s→t σ H Q→W6 (model X.prog X.w) X.A (isTrue e X.env whole) (TP X pins σ Q) X.xe s
theorem PW.pt (h:PW X e t):PT X e t:=h _
def PA (X:Cx) (es:List Expr) (t:TA):Prop :=
 ∀ (pos:Pos) (pins:List (Addr×Obj)) (s:W1) (σ:St) (H:Hp) (Q:List V→Hp→Prop),Inv X pins σ H s→t σ H Q→W6 (model X.prog X.w) X.A (spliced (Q8 pos (Wa es X.env))) (AP X pins σ Q) X.xe s
def PS (X:Cx) (st:Stmt) (t:TS):Prop :=
 ∀ (pins:List (Addr×Obj)) (s:W1) (σ:St) (H:Hp) (D:Ends),Inv X pins σ H s→t D σ H→W6 (model X.prog X.w) X.A (exec st X.env) (SP X pins D) X.xe s
def PSs (X:Cx) (st:List Stmt) (t:TS):Prop :=
 ∀ (pins:List (Addr×Obj)) (s:W1) (σ:St) (H:Hp) (D:Ends),Inv X pins σ H s→t D σ H→W6 (model X.prog X.w) X.A (execs st X.env) (SP X pins D) X.xe s
theorem thn (h:W6 M A t Q E s) (hQ:∀ a s,Q a s→Q' a s):W6 M A t Q' E s:=WA h hQ fun _ _ x=>x
section
variable {X:Cx}
theorem bin {a b:Expr} {ta tb:TE} (ha:PE X a ta) (hb:PE X b tb) {pins:List (Addr×Obj)} {s:W1} {σ:St} {H:Hp} {R:V→V→Hp→Prop} (I:Inv X pins σ H s) (h:ta σ H fun x H1=>tb σ H1 fun y H2=>R x y H2)
  {α:Type} {Q:α→W1→Prop} {f:Value→Value→Sem α}
  (hf:∀ v u s2 x y H2,Inv X pins σ H2 s2→RelV x v→RelV y u→R x y H2→W6 (model X.prog X.w) X.A (f v u) Q X.xe s2) :
  W6 (model X.prog X.w) X.A (eval a X.env) (fun v s₁=>W6 (model X.prog X.w) X.A (eval b X.env) (fun u s₂=>W6 (model X.prog X.w) X.A (f v u) Q X.xe s₂) X.xe s₁) X.xe s:=by
 refine thn (ha pins s σ H _ I h) fun v s1 ⟨x,H1,I1,r1,q1⟩=>?_
 refine thn (hb pins s1 σ H1 _ I1 q1) fun u s2 ⟨y,H2,I2,r2,q2⟩=>?_
 exact hf v u s2 x y H2 I2 r1 r2 q2
def tVar (i:Nat):TE:=fun σ H Q=>∃ v,σ[i]? = some (some v)∧Q v H
def tC (v:V):TE:=fun _ H Q=>Q v H
theorem zcJ (hN:X.N[i]? = some x) (hv:Vis X.env.scope x) (hd:(x == ("__debug__" : Str))=false:=by decide) (hcd:(x == ("__classdict__" : Str))=false:=by decide):PE X (.Name x pos) (tVar i):=by
 intro pins s σ H Q I h
 obtain ⟨v,e,h⟩:=h
 obtain ⟨m,hn,hl⟩:=I.loc
 obtain ⟨u,r,l⟩:=hl i x v hN e hv
 have fin:EP X pins σ Q u s:=⟨v,H,I,r,h⟩
 rcases l with ⟨hk,hm⟩ | ⟨hk,c,hc,hcell⟩
 ·exact wpAny_Name (wpAny_loadName_local I.ok.kind hk hn hm fin) hd
 ·rcases hk with hk | hk
  ·exact wpAny_Name (wpAny_loadName_cell I.ok.kind hk hc hcell fin) hd
  ·exact wpAny_Name (wpAny_loadName_free I.ok.kind hk hc hcell fin hcd) hd
theorem zcR {i j pos}:PE X (.Constant (.int i) j pos) (tC (.int i)):=fun _ _ _ H _ I h=>wpAny_Constant_int ⟨.int i,H,I.tok _,⟨_,rfl⟩,h⟩
theorem pe_bl {b j pos}:PE X (.Constant (.bool b) j pos) (tC (.bl b)):=fun _ _ _ H _ I h=>Constant_bool ⟨.bl b,H,I,rfl,h⟩
theorem zcO {j pos}:PE X (.Constant .none j pos) (tC .non):=fun _ _ _ H _ I h=>Constant_none ⟨.non,H,I,rfl,h⟩
theorem zay {x j pos}:PE X (.Constant (.str x) j pos) (tC (.str x)):=fun _ _ _ H _ I h=>Calls.Constant_str ⟨.str x,H,I.tok _,⟨_,rfl⟩,h⟩
def Gl (X:Cx) (x:Str):Prop:=X.env.kindOf x=some .globalImplicit
theorem z8R (I:Inv X pins σ H s) (hg:Gl X x) (hm:X.mg x=some u) (h:Q u s)
  (hd:(x == ("__debug__" : Str))=false:=by decide):W6 (model X.prog X.w) X.A (eval (.Name x pos) X.env) Q E s :=
 Calls.Name_function_global I.ok.kind hg (Calls.loadGlobal_global (by rw [I.ok.glob]; exact I.mod.glob.keeps I.bk) hm h) hd
theorem z5S (I:Inv X pins σ H s) (hg:Gl X x) (hm:X.mg x=none) (hv:Q7 x=some u) (h:Q u s)
  (hn:x≠"__name__":=by decide) (hd:(x == ("__debug__" : Str))=false:=by decide):W6 (model X.prog X.w) X.A (eval (.Name x pos) X.env) Q E s:=by
 obtain ⟨mb,h1,h2⟩:=I.mod.blt
 exact Calls.Name_function_global I.ok.kind hg (Calls.loadGlobal_builtin (by rw [I.ok.glob]; exact I.mod.glob.keeps I.bk) hm (by rw [I.ok.blt]; exact h1.keeps I.bk) ((h2 x hn).trans hv) h) hd
theorem zbr (hg:Gl X x) (hm:X.mg x=none) (hv:Q7 x=some u) (r:RelV v u) (hn:x≠"__name__":=by decide) (hd:(x == ("__debug__" : Str))=false:=by decide):PE X (.Name x pos) (tC v) :=
 fun _ _ _ H _ I h=>z5S I hg hm hv ⟨v,H,I,r,h⟩ hn hd
variable {a b:Expr} {ta tb:TE} {pos:Pos}
def PC (X:Cx) (op:CmpOp) (a b:Expr) (t:TE):Prop :=
 ∀ (pins:List (Addr×Obj)) (s:W1) (σ:St) (H:Hp) (Q:VK),Inv X pins σ H s→t σ H Q →
  W6 (model X.prog X.w) X.A (eval a X.env) (fun v s₁=>W6 (model X.prog X.w) X.A (eval b X.env) (fun u s₂=>W6 (model X.prog X.w) X.A (WE op v u) (EP X pins σ Q) X.xe s₂) X.xe s₁) X.xe s
theorem z9T (b:Expr) (h:op≠.In) (h2:op≠.NotIn):Qg op b=false:=by
 have e1:(op == CmpOp.In)=false:=by cases op <;> first | rfl | exact absurd rfl h
 have e2:(op == CmpOp.NotIn)=false:=by cases op <;> first | rfl | exact absurd rfl h2
 cases b <;> simp [Qg,e1,e2]
def tB (t:TE):TT:=fun σ H Q=>t σ H fun x H1=>∃ c,x = .bl c∧Q c H1
theorem pt_cmp (h:PC X op a b t) (h1:Qg op b=false:=by first | exact z9T _ (by decide) (by decide) | rfl):PT X (.Compare a [op] [b] pos) (tB t):=by
 intro pins s σ H Q I hw
 refine wpAny_isTrue_Compare1 (thn (h pins s σ H _ I hw) fun v s1 h1=>thn h1 fun u s2 h2=>thn h2 fun c s3 ⟨x,H1,I1,r1,q1⟩=>?_) h1
 obtain ⟨d,rfl,q⟩:=q1
 cases r1
 exact Qo ⟨H1,I1,q⟩
theorem zcD (h:PE X e t) (he:∀ whole,isTrue e X.env whole=(do let v ← whole; standAt e.pos; holding [v] (truthy v)):=by intro _; rfl):PT X e (tB t):=by
 intro pins s σ H Q I hw
 refine isTrue_plain (thn (h pins s σ H _ I hw) fun v s1 ⟨x,H1,I1,r1,q1⟩=>?_) (he _)
 obtain ⟨d,rfl,q⟩:=q1
 cases r1
 exact Qo ⟨H1,I1,q⟩
variable {tA tB':TT} {rest:List Expr}
def tAnd (t u:TT):TT:=fun σ H Q=>t σ H fun c H1=>if c=true then u σ H1 Q else Q false H1
def tOr (t u:TT):TT:=fun σ H Q=>t σ H fun c H1=>if c=true then Q true H1 else u σ H1 Q
def tNot (t:TT):TT:=fun σ H Q=>t σ H fun c H1=>Q (!c) H1
theorem zbe (ha:PT X a tA):PW X (.BoolOp .And [a] pos) tA:=by
 intro wh pins s σ H Q I h
 refine isTrue_and (thn (ha pins s σ H Q I h) fun c s1 e=>?_)
 cases c with
 | true=>exact isTrue_and_nil e
 | false=>exact e
theorem zcB (ha:PT X a tA):PW X (.BoolOp .Or [a] pos) tA:=by
 intro wh pins s σ H Q I h
 refine isTrue_or (thn (ha pins s σ H Q I h) fun c s1 e=>?_)
 cases c with
 | false=>exact isTrue_or_nil e
 | true=>exact e
theorem zcC (ha:PT X a tA) (hb:PW X (.BoolOp .And (b :: rest) pos) tB'):PW X (.BoolOp .And (a :: b :: rest) pos) (tAnd tA tB'):=by
 intro wh pins s σ H Q I h
 refine isTrue_and (thn (ha pins s σ H _ I h) fun c s1 ⟨H1,I1,q1⟩=>?_)
 cases c with
 | true=>exact hb wh pins s1 σ H1 Q I1 q1
 | false=>exact ⟨H1,I1,q1⟩
theorem pw_or (ha:PT X a tA) (hb:PW X (.BoolOp .Or (b :: rest) pos) tB'):PW X (.BoolOp .Or (a :: b :: rest) pos) (tOr tA tB'):=by
 intro wh pins s σ H Q I h
 refine isTrue_or (thn (ha pins s σ H _ I h) fun c s1 ⟨H1,I1,q1⟩=>?_)
 cases c with
 | true=>exact ⟨H1,I1,q1⟩
 | false=>exact hb wh pins s1 σ H1 Q I1 q1
theorem zcE (ha:PT X a tA):PT X (.UnaryOp .Not a pos) (tNot tA):=by
 intro pins s σ H Q I h
 exact isTrue_not (ha pins s σ H (fun c H1=>Q (!c) H1) I h)
def tAndV (ta tb:TE):TE:=fun σ H Q=>ta σ H fun x H1=>∃ c,x = .bl c∧if c=true then tb σ H1 Q else Q (.bl false) H1
def tNotV (ta:TE):TE:=fun σ H Q=>ta σ H fun x H1=>∃ c,x = .bl c∧Q (.bl (!c)) H1
theorem zcM {op} (h:PE X a t):PE X (.BoolOp op [a] pos) t:=fun pins s σ H Q I hw=>BoolOp_one (h pins s σ H Q I hw)
theorem zcT (ha:PE X a ta) (hb:PE X (.BoolOp .And (b :: rest) pos) tb):PE X (.BoolOp .And (a :: b :: rest) pos) (tAndV ta tb):=by
 intro pins s σ H Q I h
 refine BoolOp_and (thn (ha pins s σ H _ I h) fun v s1 ⟨x,H1,I1,r1,q1⟩=>?_)
 obtain ⟨c,rfl,q1⟩:=q1
 cases r1
 refine Qo ?_
 cases c with
 | true=>exact hb pins s1 σ H1 Q I1 q1
 | false=>exact ⟨.bl false,H1,I1,rfl,q1⟩
theorem zcN (ha:PE X a ta):PE X (.UnaryOp .Not a pos) (tNotV ta):=by
 intro pins s σ H Q I h
 refine UnaryOp_ (thn (ha pins s σ H _ I h) fun v s1 ⟨x,H1,I1,r1,q1⟩=>?_)
 obtain ⟨c,rfl,q1⟩:=q1
 cases r1
 exact not_of (Qo ⟨.bl (!c),H1,I1,rfl,q1⟩)
end
def SqL (K:W2) (H:Hp) (a:Addr) (xs:List V):Prop :=
 Rd H a (.lst xs) ∨
  ∃ (o:Obj) (its:Array Value) (n:Nat),K.lookup a=some o∧o.cls = .type "list"∧o.dict=none∧o.data = .seq its n∧its.size≤W7∧Vals xs its.toList
def SqT (K:W2) (H:Hp) (a:Addr) (xs:List V):Prop :=
 Rd H a (.tup xs) ∨
  ∃ (o:Obj) (its:Array Value) (n:Nat),K.lookup a=some o∧o.cls = .type "tuple"∧o.data = .seq its n∧its.size≤W7∧Vals xs its.toList
def absV:Value→Option V
 | .none=>some .non
 | .bool b=>some (.bl b)
 | .int i _=>some (.int i)
 | .str x _=>some (.str x)
 | .bytes b _=>some (.byt b)
 | .float b _=>some (.flt b)
 | .ref a=>some (.ref a)
 | .type n=>some (.ty n)
 | _=>none
theorem RelV.abs (r:RelV x u):absV u=some x:=by
 cases x with
 | non=>cases r; rfl
 | bl _=>cases r; rfl
 | int _=>obtain ⟨t,rfl⟩:=r; rfl
 | str _=>obtain ⟨t,rfl⟩:=r; rfl
 | byt _=>obtain ⟨t,rfl⟩:=r; rfl
 | flt _=>obtain ⟨t,rfl⟩:=r; rfl
 | ref _=>cases r; rfl
 | ty _=>cases r; rfl
theorem RelV.inj (r:RelV x u) (q:RelV y u):x=y:=Ww (r.abs.symm.trans q.abs)
theorem Vals.inj:∀ {xs ys:List V} {us:List Value},Vals xs us→Vals ys us→xs=ys
 | _,_,_,.nil,.nil=>rfl
 | _,_,_,.cons r t,.cons r' t'=>by rw [r.inj r',Vals.inj t t']
section
variable {X:Cx} {pins:List (Addr×Obj)} {σ:St} {H:Hp} {s:W1} {a:Addr} {xs ys:List V}
theorem SqL.of {K:W2} (h:H a=some (.lst xs)):SqL K H a xs:=.inl (.inl h)
theorem SqT.of {K:W2} (h:H a=some (.tup xs)):SqT K H a xs:=.inl (.inl h)
theorem Inv.list (I:Inv X pins σ H s) (h:SqL X.K H a xs):∃ its:List Value,Vals xs its∧PlainL s.heap a its.toArray∧xs.length≤W7:=by
 rcases h with h | ⟨o,its,n,hk,hc,hd,hs,hz,r⟩
 ·obtain ⟨z,its,n,r,e⟩:=h.ok I.hok
  exact ⟨its,r,⟨_,n,e,rfl,rfl,rfl⟩,z⟩
 ·refine ⟨its.toList,r,⟨o,n,I.kIn a o hk,hc,hd,by simpa using hs⟩,?_⟩
  have e:=r.length
  simp only [Q4] at e
  omega
theorem Inv.tuple (I:Inv X pins σ H s) (h:SqT X.K H a xs):∃ its:List Value,Vals xs its∧IsTup s.heap a its.toArray∧xs.length≤W7:=by
 rcases h with h | ⟨o,its,n,hk,hc,hs,hz,r⟩
 ·obtain ⟨z,its,r,p⟩:=h.ok I.hok
  exact ⟨its,r,p.tup,z⟩
 ·refine ⟨its.toList,r,⟨o,I.kIn a o hk,hc,n,by simpa using hs⟩,?_⟩
  have e:=r.length
  simp only [Q4] at e
  omega
theorem Inv.list_inj (I:Inv X pins σ H s) (h:SqL X.K H a xs) (h':SqL X.K H a ys):xs=ys:=by
 obtain ⟨its,r,⟨o,n,e,_,_,d⟩,_⟩:=I.list h
 obtain ⟨its',r',⟨o',n',e',_,_,d'⟩,_⟩:=I.list h'
 rw [e] at e'; cases e'
 rw [d] at d'
 injection d' with d1 _
 have:its=its':=by simpa using congrArg Array.toList d1
 subst this
 exact r.inj r'
theorem Inv.tuple_inj (I:Inv X pins σ H s) (h:SqT X.K H a xs) (h':SqT X.K H a ys):xs=ys:=by
 obtain ⟨its,r,⟨o,e,_,n,d⟩,_⟩:=I.tuple h
 obtain ⟨its',r',⟨o',e',_,n',d'⟩,_⟩:=I.tuple h'
 rw [e] at e'; cases e'
 rw [d] at d'
 injection d' with d1 _
 have:its=its':=by simpa using congrArg Array.toList d1
 subst this
 exact r.inj r'
end
abbrev Cx.wish (X:Cx) (E:Value→W1→Prop):Cx:={ X with xe:=E }
abbrev Cx.nox (X:Cx):Cx:=X.wish fun _ _=>False
theorem Cx.Ok.wish {X:Cx} (ok:X.Ok) (E:Value→W1→Prop):(X.wish E).Ok :=
 ⟨ok.mod,ok.kind,ok.glob,ok.blt,ok.above,ok.inj,ok.has,ok.cab,ok.hd,ok.frames,ok.stk,ok.exf,ok.bs,ok.bsz,ok.noex,ok.exfs,ok.funs,ok.frf⟩
theorem Cx.Ok.unwish {X:Cx} {E:Value→W1→Prop} (ok:(X.wish E).Ok):X.Ok :=
 ⟨ok.mod,ok.kind,ok.glob,ok.blt,ok.above,ok.inj,ok.has,ok.cab,ok.hd,ok.frames,ok.stk,ok.exf,ok.bs,ok.bsz,ok.noex,ok.exfs,ok.funs,ok.frf⟩
section
variable {X:Cx} {pins:List (Addr×Obj)} {σ:St} {H:Hp} {s:W1} {E:Value→W1→Prop}
theorem Inv.wish (I:Inv X pins σ H s) (E:Value→W1→Prop):Inv (X.wish E) pins σ H s:=⟨I.ok.wish E,I.os,I.bare,I.base,I.loc,I.cell,I.free,I.freeC,I.pin,I.hok,I.len⟩
theorem Inv.unwish (I:Inv (X.wish E) pins σ H s):Inv X pins σ H s:=⟨I.ok.unwish,I.os,I.bare,I.base,I.loc,I.cell,I.free,I.freeC,I.pin,I.hok,I.len⟩
theorem SP.unwish (h:SP (X.wish E) pins D f s'):SP X pins D f s':=by
 cases f with
 | next=>obtain ⟨σ',H',I,q⟩:=h; exact ⟨σ',H',I.unwish,q⟩
 | brk=>obtain ⟨σ',H',I,q⟩:=h; exact ⟨σ',H',I.unwish,q⟩
 | cont=>obtain ⟨σ',H',I,q⟩:=h; exact ⟨σ',H',I.unwish,q⟩
 | ret u=>obtain ⟨v,σ',H',I,r,q⟩:=h; exact ⟨v,σ',H',I.unwish,r,q⟩
theorem PSs.nox {st:List Stmt} {t:TS} (h:PSs X.nox st t):PSs X st t:=fun pins s σ H D I hw =>
 WA (h pins s σ H D (I.wish _) hw) (fun _ _ q=>q.unwish) fun _ _ z=>False.elim z
end
section
variable {X:Cx} {st:Stmt} {rest:List Stmt} {t u:TS} {e:Expr} {te:TE} {pos:Pos}
def tNext:TS:=fun D σ H=>D.nx σ H
def tSeq (t u:TS):TS:=fun D σ H=>t { D with nx:=u D } σ H
theorem zbh:PSs X [] tNext:=fun _ _ σ H _ I h=>wpAny_execs_nil ⟨σ,H,I,h⟩
theorem z9J (h1:PS X st t) (h2:PSs X rest u):PSs X (st :: rest) (tSeq t u):=by
 intro pins s σ H D I h
 refine wpAny_execs_cons (thn (h1 pins s σ H { D with nx:=u D } I h) fun f s1 q=>?_)
 cases f with
 | next =>
  obtain ⟨σ',H',I',q⟩:=q
  exact h2 pins s1 σ' H' D I' q
 | ret v=>exact q
 | brk=>exact q
 | cont=>exact q
theorem zbg (h1:PS X st t):PSs X [st] t:=by
 intro pins s σ H D I h
 refine wpAny_execs_cons (thn (h1 pins s σ H D I h) fun f s1 q=>?_)
 cases f with
 | next=>exact wpAny_execs_nil q
 | ret v=>exact q
 | brk=>exact q
 | cont=>exact q
theorem Inv.quiet (I:Inv X pins σ H s):interactive X.env=false:=by simp [interactive,I.ok.kind]
def zc5 (te:TE):TS:=fun D σ H=>te σ H fun _ H1=>D.nx σ H1
theorem zbi (he:PE X e te) (hs:Ja e none pos.line X.env=pure false:=by rfl):PS X (.Expr e pos) (zc5 te):=by
 intro pins s σ H D I h
 exact wpAny_Expr_any (thn (he pins s σ H _ I h) fun v s1 ⟨x,H1,I1,r1,q1⟩=>⟨σ,H1,I1,q1⟩) I.quiet hs
def tRet (te:TE):TS:=fun D σ H=>te σ H D.rt
theorem zcG (he:PE X e te):PS X (.Return (some e) pos) (tRet te):=by
 intro pins s σ H D I h
 exact wpAny_Return_some (thn (he pins s σ H _ I h) fun v s1 ⟨x,H1,I1,r1,q1⟩=>⟨x,σ,H1,I1,r1,q1⟩)
def tIfS (c:TT) (t u:TS):TS:=fun D σ H=>c σ H fun b H1=>if b=true then t D σ H1 else u D σ H1
theorem ps_if (hc:PT X c tc) (ha:PSs X a t) (hb:PSs X b u):PS X (.If c a b pos) (tIfS tc t u):=by
 intro pins s σ H D I h
 refine wpAny_If (thn (hc pins s σ H _ I h) fun d s1 ⟨H1,I1,q1⟩=>?_)
 cases d with
 | true=>exact ha pins s1 σ H1 D I1 q1
 | false=>exact hb pins s1 σ H1 D I1 q1
end
abbrev TG:=V→St→Hp→(St→Hp→Prop)→Prop
abbrev TGs:=List V→St→Hp→(St→Hp→Prop)→Prop
def PG (X:Cx) (target:Expr) (t:TG):Prop :=
 ∀ (pins:List (Addr×Obj)) (s:W1) (σ:St) (H:Hp) (v:V) (u:Value) (Q:St→Hp→Prop),Inv X pins σ H s→RelV v u→t v σ H Q →
  W6 (model X.prog X.w) X.A (assign target X.env u) (fun _ s'=>∃ σ' H',Inv X pins σ' H' s'∧Q σ' H') X.xe s
def PGs (X:Cx) (ts:List Expr) (t:TGs):Prop :=
 ∀ (pins:List (Addr×Obj)) (s:W1) (σ:St) (H:Hp) (vs:List V) (us:List Value) (Q:St→Hp→Prop),Inv X pins σ H s→Vals vs us→t vs σ H Q →
  W6 (model X.prog X.w) X.A (assignInOrder ((Q2 ts X.env).map (·.2)) us) (fun _ s'=>∃ σ' H',Inv X pins σ' H' s'∧Q σ' H') X.xe s
abbrev TSet:=V→V→V→Hp→(Hp→Prop)→Prop
def PSet (X:Cx) (t:TSet):Prop :=
 ∀ (pins:List (Addr×Obj)) (s:W1) (σ:St) (H:Hp) (o i v:V) (ov iv u:Value) (Q:Hp→Prop),Inv X pins σ H s→RelV o ov→RelV i iv→RelV v u→t o i v H Q →
  W6 (model X.prog X.w) X.A (setItem ov iv u) (fun _ s'=>∃ H',Inv X pins σ H' s'∧Q H') X.xe s
section
variable {X:Cx} {pos:Pos}
def za3 (i:Nat):TG:=fun v σ H Q=>Q (σ.set i (some v)) H
theorem z8w (hN:X.N.Nodup) (hi:X.N[i]? = some x) (hx:Loc X.env.scope x) (hf:X.fn x=true∨X.env.scope.names.lookup x=some .local:=by first | exact .inl rfl | exact .inr rfl | assumption):PG X (.Name x pos) (za3 i):=by
 intro pins s σ H v u Q I r h
 exact wpAny_assign_Name (z6U I hN hi hx r (fun s' I'=>⟨_,H,I',h⟩) hf)
def gNil:TGs:=fun vs σ H Q=>vs=[]∧Q σ H
def gCons (t:TG) (u:TGs):TGs:=fun vs σ H Q=>∃ v r,vs=v :: r∧t v σ H fun σ' H'=>u r σ' H' Q
theorem z8v:PGs X [] gNil:=by
 intro pins s σ H vs us Q I r h
 obtain ⟨e,h⟩:=h
 subst e
 cases r
 exact assignInOrder_nil ⟨σ,H,I,h⟩
theorem z72 (h1:PG X e t) (h2:PGs X es u)
  (hs:(Q2 (e :: es) X.env).map (·.2)=assign e X.env :: (Q2 es X.env).map (·.2):=by rfl):PGs X (e :: es) (gCons t u):=by
 intro pins s σ H vs us Q I r h
 obtain ⟨v,vr,e1,h⟩:=h
 subst e1
 cases r with
 | cons r rr =>
  rw [hs]
  refine assignInOrder_cons (thn (h1 pins s σ H _ _ _ I r h) fun _ s1 ⟨σ1,H1,I1,q1⟩=>?_)
  exact h2 pins s1 σ1 H1 _ _ Q I1 rr q1
def gTup (K:W2) (n:Nat) (t:TGs):TG:=fun v σ H Q=>∃ a xs,v = .ref a∧SqT K H a xs∧xs.length=n∧t xs σ H Q
theorem zax (hc:X.calm=true) (h:PGs X es t)
  (hn:(Q2 es X.env).length=n:=by rfl) (hst:(Q2 es X.env).findIdx? (·.1)=none:=by rfl):PG X (.Tuple es k pos) (gTup X.K n t):=by
 intro pins s σ H v u Q I r hw
 obtain ⟨a,xs,e1,hq,hl,hw⟩:=hw
 subst e1
 cases r
 obtain ⟨its,rv,ht,hz⟩:=I.tuple hq
 refine assign_Tuple_tuple (I.ok.hd hc) ht (by simp [hn,← hl,rv.length]) hst fun h' hx=>?_
 have I1:Inv X pins σ H { s with heap:=h' }:=I.kept (t':=s.toks) fun b o e=>hx b o (Wu (Wi e)) e
 exact h pins _ σ H xs _ Q I1 (by simpa using rv) hw
def gSub (to ti:TE) (t:TSet):TG:=fun v σ H Q=>to σ H fun o H1=>ti σ H1 fun i H2=>t o i v H2 fun H3=>Q σ H3
theorem zcI (ho:PE X o to) (hi:PE X i ti) (hs:PSet X t)
  (ha:∀ v,assign (.Subscript o i pos) X.env v=(do
   let ov ← holding [v] (eval o X.env)
   let iv ← holding [v,ov] (eval i X.env)
   standAt pos
   holding [v,ov,iv] (setItem ov iv v)
   release [v,ov,iv] []):=by intro _; rfl):PG X (.Subscript o i pos) (gSub to ti t):=by
 intro pins s σ H v u Q I r h
 rw [ha]
 refine W0 (WP (thn (ho pins s σ H _ I h) fun ov s1 ⟨x,H1,I1,r1,q1⟩=>?_))
 refine W0 (WP (thn (hi pins s1 σ H1 _ I1 q1) fun iv s2 ⟨y,H2,I2,r2,q2⟩=>?_))
 refine W0 (wpAny_standAt (W0 (WP (thn (hs pins s2 σ H2 x y v ov iv u _ I2 r1 r2 r q2) fun _ s3 ⟨H3,I3,q3⟩=>?_))))
 exact wpAny_release ⟨σ,H3,I3,q3⟩
def tAsg (te:TE) (g:TG):TS:=fun D σ H=>te σ H fun x H1=>g x σ H1 D.nx
theorem zaw (he:PE X e te) (hg:PG X tg g) (hs:swapsWithSole [tg] e pos.line X.env=pure false:=by rfl) (hw:swappedStores [tg] e X.env=pure none:=by rfl)
  (h1:(Q2 [tg] X.env).map (·.2)=[assign tg X.env]:=by rfl):PS X (.Assign [tg] e pos) (tAsg te g):=by
 intro pins s σ H D I h
 refine wpAny_Assign_stores (thn (he pins s σ H _ I h) fun v s1 ⟨x,H1,I1,r1,q1⟩=>?_) hs hw
 rw [h1]
 exact thn (hg pins s1 σ H1 x v _ I1 r1 q1) fun _ s2 q=>q
theorem zcF (hN:X.N.Nodup) (hi:X.N[i]? = some x) (hx:Loc X.env.scope x) (he:PE X e te) (hs:Ja e (some (.Name x pos')) pos.line X.env=pure false:=by rfl) (hf:X.fn x=true∨X.env.scope.names.lookup x=some .local:=by first | exact .inl rfl | exact .inr rfl | assumption) :
  PS X (.Assign [.Name x pos'] e pos) (tAsg te (za3 i)):=by
 intro pins s σ H D I h
 refine wpAny_Assign_Name (thn (he pins s σ H _ I h) fun v s1 ⟨y,H1,I1,r1,q1⟩=>?_) hs
 exact z6U I1 hN hi hx r1 (fun s2 I2=>⟨_,H1,I2,q1⟩) hf
end
section
variable {X:Cx} {pos:Pos}
def zao (c:TT) (tb:TS):TS:=fun D σ H=>∃ W:Nat→St→Hp→Prop,(∃ m,W m σ H)∧∀ m σ H,W m σ H →
 c σ H fun b H1=>if b=true then ∃ N:St→Hp→Prop,(∀ σ' H',N σ' H'→∃ m',m' < m∧W m' σ' H')∧tb { D with nx:=N,ct:=N,bk:=D.nx } σ H1 else D.nx σ H1
theorem z9K (hp:PassesOwn (model X.prog X.w) X.A X.env X.xe) (hc:PT X c tc) (hb:PSs X body tb):PS X (.While c body [] pos) (zao tc tb):=by
 intro pins s σ H D I h
 obtain ⟨W,⟨m0,w0⟩,turn⟩:=h
 refine wpAny_While (codeAny_whileLoop (fun n s'=>∃ σ' H',Inv X pins σ' H' s'∧W n σ' H') ?_ m0 ⟨σ,H,I,w0⟩)
 rintro n s1 ⟨σ1,H1,I1,w1⟩
 refine Qw hp (thn (hc pins s1 σ1 H1 _ I1 (turn n σ1 H1 w1)) fun b s2 ⟨H2,I2,q2⟩=>?_)
 cases b with
 | true =>
  obtain ⟨N,hN,q2⟩:=q2
  rw [if_pos rfl]
  refine Qw hp (thn (hb pins s2 σ1 H2 _ I2 q2) fun f s3 q3=>?_)
  cases f with
  | next =>
   obtain ⟨σ3,H3,I3,n3⟩:=q3
   obtain ⟨m',hm,w3⟩:=hN σ3 H3 n3
   exact ⟨m',hm,σ3,H3,I3,w3⟩
  | cont =>
   obtain ⟨σ3,H3,I3,n3⟩:=q3
   obtain ⟨m',hm,w3⟩:=hN σ3 H3 n3
   exact ⟨m',hm,σ3,H3,I3,w3⟩
  | brk=>exact q3
  | ret v=>exact q3
 | false =>
  rw [if_neg Q0]
  exact wpAny_execs_nil ⟨σ1,H2,I2,q2⟩
end
structure It where
 go:Nat→Hp→Prop
 yld:Nat→Hp→V→Hp→Prop
 stop:Nat→Hp→Prop
def FpOk (X:Cx) (pins:List (Addr×Obj)) (H:Hp) (b:Addr):Prop :=
 H b=none∧b≠X.env.locals∧b ∉ X.fs∧(b ∈ X.ex∨X.s₀.heap.objs.size≤b)∧(∀ x c,X.env.cells.lookup x=some c→c≠b)∧∀ p ∈ X.pn ++ pins,p.1≠b
theorem Inv.fpOk (I:Inv X pins σ H s) (hb:s.heap.objs.size≤b) (hn:H' b=none):FpOk X pins H' b:=by
 refine ⟨hn,Jb (Wv I.lt hb),I.nofs hb,.inr (WQ I.sz hb),fun x c e z=>?_,fun p hp z=>?_⟩
 ·obtain ⟨v,q⟩:=I.cell x c e
  exact absurd (Wv q.lt (by rw [z]; exact hb)) (WX _)
 ·exact absurd (Wv (Wi (I.pin p hp).1) (by rw [z]; exact hb)) (WX _)
structure Turn (P:We) (w:Wk) (K:W2) (tg:Expr) (J:It) (fp:List Addr) (it:Addr) (tn:Nat→Heap→Prop):Prop where
 mem:it ∈ fp
 obj:∀ i h,tn i h→∀ b ∈ fp,∃ o,h.get? b=some o∧∀ v,o.data≠.cell v
 keep:∀ i h h',tn i h→(∀ b ∈ fp,∀ o,h.get? b=some o→h'.get? b=some o)→tn i h'
 item:∀ (X:Cx),X.prog=P→X.w=w→X.K=K→X.calm=true→∀ (i:Nat) (pins:List (Addr×Obj)) (s:W1) (σ:St) (H:Hp) (E:Value→W1→Prop),Inv X pins σ H s→(∀ b ∈ fp,FpOk X pins H b)→tn i s.heap→J.go i H →
  W6 (model P w) X.A (Qa (.ref it)) (fun r s1=>∃ u,r=some u ∧
   W6 (model P w) X.A (letOwnedTupleGo tg (.ref it) u) (fun _ s2=>∃ x H',Inv X pins σ H' s2∧RelV x u∧J.yld i H x H'∧tn (i + 1) s2.heap∧∀ b ∈ fp,H' b=none) E s1) E s
 done:∀ (X:Cx),X.prog=P→X.w=w→X.K=K→X.calm=true→∀ (i:Nat) (pins:List (Addr×Obj)) (s:W1) (σ:St) (H:Hp) (E:Value→W1→Prop),Inv X pins σ H s→(∀ b ∈ fp,FpOk X pins H b)→tn i s.heap→J.stop i H →
  W6 (model P w) X.A (Qa (.ref it)) (fun r s1=>r=none∧Inv X pins σ H s1) E s
 self:∀ (A:Wm) (i:Nat) (s:W1) (Q:Value→W1→Prop) (E:Value→W1→Prop),tn i s.heap→Q (.ref it) s→W6 (model P w) A (pyIter (.ref it)) Q E s
abbrev TI:=St→Hp→(It→Hp→Prop)→Prop
def PIE (X:Cx) (pins:List (Addr×Obj)) (σ:St) (tg:Expr) (R:It→Hp→Prop) (itv:Value) (s2:W1):Prop :=
 ∃ (it:Addr) (fp:List Addr) (tn:Nat→Heap→Prop) (J:It) (H':Hp),itv = .ref it∧Inv X pins σ H' s2∧Turn X.prog X.w X.K tg J fp it tn∧tn 0 s2.heap∧(∀ b ∈ fp,FpOk X pins H' b)∧R J H'
def PI (X:Cx) (tg iter:Expr) (wi:TI):Prop :=
 ∀ (pins:List (Addr×Obj)) (s:W1) (σ:St) (H:Hp) (R:It→Hp→Prop),Inv X pins σ H s→wi σ H R →
  W6 (model X.prog X.w) X.A (eval iter X.env) (fun v s1=>W6 (model X.prog X.w) X.A (pyIter v) (PIE X pins σ tg R) X.xe s1) X.xe s
theorem z91 (ho:s.heap.get? it=some o) (hc:o.cls = .type n) (hd:o.data = .fields vs)
  (hn:["enumerate","zip","dict_itemiterator","dict_reverseitemiterator","odict_iterator","itertools.zip_longest","itertools.pairwise"].contains n=false) (hQ:Q () s):W6 M A (letOwnedTupleGo tg (.ref it) u) Q E s:=by
 unfold letOwnedTupleGo
 cases tg <;> first
  | exact W4 hQ
  | (cases u <;> first
    | exact W4 hQ
    | (refine W0 (wpAny_load ho ?_); rw [hc,hd]; show W6 M A (if (["enumerate","zip","dict_itemiterator","dict_reverseitemiterator","odict_iterator","itertools.zip_longest","itertools.pairwise"].contains n && vs[0]? == some (QH _))=true then _ else _) Q E s; rw [if_neg (by intro h; rw [hn,Bool.false_and] at h; cases h)]; exact W4 hQ))
def Itl (K:W2) (a:Addr):It :=
 ⟨fun i H=>∃ xs x,SqL K H a xs∧xs[i]? = some x,fun i H x H'=>H'=H∧∀ xs,SqL K H a xs→xs[i]? = some x,fun i H=>∃ xs,SqL K H a xs∧xs.length≤i⟩
def Itt (K:W2) (a:Addr):It :=
 ⟨fun i H=>∃ xs x,SqT K H a xs∧xs[i]? = some x,fun i H x H'=>H'=H∧∀ xs,SqT K H a xs→xs[i]? = some x,fun i H=>∃ xs,SqT K H a xs∧xs.length≤i⟩
def Itr (lo:Int) (n:Nat):It:=⟨fun i _=>i < n,fun i H x H'=>H'=H∧x = .int (lo + i),fun i _=>n≤i⟩
theorem z7S {P:We} {w:Wk} {K:W2} {tg:Expr} (a it:Addr):Turn P w K tg (Itl K a) [it] it (fun i h=>h.IsListIter it a i) where
 mem:=by simp
 obj:=fun i h st b hb=>by
  have e:b=it:=by simpa using hb
  subst e
  obtain ⟨o,e,c,d⟩:=st
  exact ⟨o,e,fun v z=>by rw [d] at z; cases z⟩
 keep:=fun i h h' st k=>st.at fun o e=>k it (by simp) o e
 item:=by
  intro X hP hw hK hc i pins s σ H E I hf st hg
  subst hP hw hK
  obtain ⟨xs,x,hq,hx⟩:=hg
  obtain ⟨its,rv,p,hz⟩:=I.list hq
  obtain ⟨u,hu,ru⟩:=rv.get hx
  obtain ⟨f0,f1,f2,f3,f4,f5⟩:=hf it (by simp)
  refine wpAny_pyNext_list_item st p.isList (x:=u) (by simpa using hu) fun h' st' sb=>?_
  have I1:Inv X pins σ H { s with heap:=h' }:=I.turned (t':=s.toks) (fun b o hb e=>(sb.2 b hb).trans e) f0 f1 f3 f4 f5
  obtain ⟨o,e,c,d⟩:=id st'
  exact ⟨u,rfl,z91 (s:={ s with heap:=h' }) e c d (by decide) ⟨x,H,I1,ru,⟨rfl,fun ys hy=>by rw [I.list_inj hy hq]; exact hx⟩,st',fun b hb=>(hf b hb).1⟩⟩
 done:=by
  intro X hP hw hK hc i pins s σ H E I hf st hg
  subst hP hw hK
  obtain ⟨xs,hq,hx⟩:=hg
  obtain ⟨its,rv,p,hz⟩:=I.list hq
  obtain ⟨f0,f1,f2,f3,f4,f5⟩:=hf it (by simp)
  have hl:=rv.length
  exact wpAny_pyNext_list_end (I.ok.hd hc) st p.isList (by simp; omega) fun h' eb=>⟨rfl,I.turned (t':=s.toks) (fun b o hb e=>eb b o hb e) f0 f1 f3 f4 f5⟩
 self:=fun _ _ _ _ _ st h=>wpAny_pyIter_listiter st h
theorem z7o {P:We} {w:Wk} {K:W2} {tg:Expr} (a it:Addr):Turn P w K tg (Itt K a) [it] it (fun i h=>h.IsTupleIter it a i) where
 mem:=by simp
 obj:=fun i h st b hb=>by
  have e:b=it:=by simpa using hb
  subst e
  obtain ⟨o,e,c,d⟩:=st
  exact ⟨o,e,fun v z=>by rw [d] at z; cases z⟩
 keep:=fun i h h' st k=>st.at fun o e=>k it (by simp) o e
 item:=by
  intro X hP hw hK hc i pins s σ H E I hf st hg
  subst hP hw hK
  obtain ⟨xs,x,hq,hx⟩:=hg
  obtain ⟨its,rv,p,hz⟩:=I.tuple hq
  obtain ⟨u,hu,ru⟩:=rv.get hx
  obtain ⟨f0,f1,f2,f3,f4,f5⟩:=hf it (by simp)
  refine wpAny_pyNext_tuple_item st (show s.heap.IsTuple a its.toArray from p) (x:=u) (by simpa using hu) fun h' st' sb=>?_
  have I1:Inv X pins σ H { s with heap:=h' }:=I.turned (t':=s.toks) (fun b o hb e=>(sb.2 b hb).trans e) f0 f1 f3 f4 f5
  obtain ⟨o,e,c,d⟩:=id st'
  exact ⟨u,rfl,z91 (s:={ s with heap:=h' }) e c d (by decide) ⟨x,H,I1,ru,⟨rfl,fun ys hy=>by rw [I.tuple_inj hy hq]; exact hx⟩,st',fun b hb=>(hf b hb).1⟩⟩
 done:=by
  intro X hP hw hK hc i pins s σ H E I hf st hg
  subst hP hw hK
  obtain ⟨xs,hq,hx⟩:=hg
  obtain ⟨its,rv,p,hz⟩:=I.tuple hq
  obtain ⟨f0,f1,f2,f3,f4,f5⟩:=hf it (by simp)
  have hl:=rv.length
  exact wpAny_pyNext_tuple_end (I.ok.hd hc) st (show s.heap.IsTuple a its.toArray from p) (by simp; omega) fun h' eb=>⟨rfl,I.turned (t':=s.toks) (fun b o hb e=>eb b o hb e) f0 f1 f3 f4 f5⟩
 self:=fun _ _ _ _ _ st h=>wpAny_pyIter_tupleiter st h
theorem z4j {P:We} {w:Wk} {K:W2} {tg:Expr} (it:Addr) (lo:Int) (n:Nat):Turn P w K tg (Itr lo n) [it] it (fun i h=>IsRangeIter h it (lo + (i:Nat) * 1) ((n:Int) - (i:Nat)) 1) where
 mem:=by simp
 obj:=fun i h st b hb=>by
  have e:b=it:=by simpa using hb
  subst e
  exact ⟨_,st,fun v z=>by
   have z':Data.fields _=Data.cell v:=z
   cases z'⟩
 keep:=fun i h h' st k=>k it (by simp) _ st
 item:=by
  intro X hP hw hK hc i pins s σ H E I hf st hg
  subst hP hw hK
  obtain ⟨f0,f1,f2,f3,f4,f5⟩:=hf it (by simp)
  have W:=Walks.range (prog:=X.prog) (w:=X.w) (I.ok.hd hc) it lo 1 n
  refine W.item i s _ _ hg st fun v h' tk hv st' kk=>?_
  obtain ⟨t,rfl⟩:=hv
  have I1:Inv X pins σ H { s with heap:=h',toks:=tk }:=I.turned (fun b o hb e=>kk b o (by simpa using hb) e) f0 f1 f3 f4 f5
  refine ⟨_,rfl,z91 (s:={ s with heap:=h',toks:=tk }) (n:="range_iterator") st' rfl rfl (by decide) ⟨.int (lo + i),H,I1,⟨t,?_⟩,⟨rfl,rfl⟩,st',fun b hb=>(hf b hb).1⟩⟩
  rw [Int.mul_one]
 done:=by
  intro X hP hw hK hc i pins s σ H E I hf st hg
  subst hP hw hK
  obtain ⟨f0,f1,f2,f3,f4,f5⟩:=hf it (by simp)
  exact wpAny_pyNext_range_end (I.ok.hd hc) st (by have:n≤i:=hg; omega) fun h' eb=>⟨rfl,I.turned (t':=s.toks) (fun b o hb e=>eb b o hb e) f0 f1 f3 f4 f5⟩
 self:=fun _ _ _ _ _ st h=>wpAny_pyIter_rangeiter st h
section
variable {X:Cx} {tg:Expr}
theorem z9F {pins:List (Addr×Obj)} {σ:St} {H:Hp} {s:W1} {R:It→Hp→Prop} {E:Value→W1→Prop} {lo hi:Int} {t u v:Tok} {tk:Nat} (I:Inv X pins σ H s) (h1 : -(2 ^ 62)≤lo) (h2:lo < 2 ^ 62) (h3 : -(2 ^ 62)≤hi) (h4:hi < 2 ^ 62)
  (q:R (Itr lo (hi - lo).toNat) H):W6 (model X.prog X.w) X.A (pyIter (.ref s.heap.objs.size)) (PIE X pins σ tg R) E { s with heap:=s.heap.push { cls:=.type "range",data:=.fields #[.int lo t,.int hi u,.int 1 v] },toks:=tk }:=by
 refine wpAny_pyIter_range (IsRange.new ..) (small_one h1 h2 h3 h4) ?_
 have I1:Inv X pins σ H { s with heap:=s.heap.push { cls:=.type "range",data:=.fields #[.int lo t,.int hi u,.int 1 v] },toks:=tk }:=I.kept fun b o e=>W3 _ e
 refine ⟨(s.heap.push { cls:=.type "range",data:=.fields #[.int lo t,.int hi u,.int 1 v] }).objs.size,[(s.heap.push { cls:=.type "range",data:=.fields #[.int lo t,.int hi u,.int 1 v] }).objs.size],_,_,H,rfl,
  I1.kept (t':=tk) fun b o e=>W3 _ e,z4j _ lo (hi - lo).toNat,?_,fun b hb=>?_,q⟩
 ·have e1:lo + ((0:Nat):Int) * 1=lo:=by simp
  have e2:(((hi - lo).toNat:Nat):Int) - ((0:Nat):Int)=Builtin.Range.rangeSize lo hi 1:=by rw [rangeSize_one]; split <;> omega
  show IsRangeIter _ _ (lo + ((0:Nat):Int) * 1) ((((hi - lo).toNat:Nat):Int) - ((0:Nat):Int)) 1
  rw [e1,e2]
  exact Wh _ rfl
 ·have e:b=(s.heap.push { cls:=.type "range",data:=.fields #[.int lo t,.int hi u,.int 1 v] }).objs.size:=by simpa using hb
  subst e
  exact I1.fpOk (Wb _) (I1.hok.fresh (Wb _))
def iRng1 (ta:TA):TI:=fun σ H R=>ta σ H fun vs H1=>∃ j:Int,vs=[.int j]∧-(2 ^ 62)≤j∧j < 2 ^ 62∧R (Itr 0 j.toNat) H1
theorem z8u {a:Expr} {ta:TA} {p pos:Pos} (hg:Gl X "range") (hm:X.mg "range" = none) (ha:PA X [a] ta) (hs:Wa [a] X.env=[(false,eval a X.env)]:=by rfl):PI X tg (.Call (.Name "range" p) [a] [] pos) (iRng1 ta):=by
 intro pins s σ H R I h
 refine Call_ (z5S I hg hm boot_range (PyProof.Rows.callWith_type1 (thn (ha pos pins s σ H _ I h) fun us s1 ⟨vs,H1,I1,r1,q1⟩=>?_) hs rfl))
 obtain ⟨j,e,q1,q2,q⟩:=q1
 subst e
 cases r1 with
 | cons r rr =>
  cases rr
  obtain ⟨t,rfl⟩:=r
  exact call_range_1 (z9F I1 (by omega) (by omega) q1 q2 (by simpa using q))
def tFor (wi:TI) (g:TG) (tb:TS):TS:=fun D σ H=>wi σ H fun J H1=>∃ W:Nat→Nat→St→Hp→Prop,(∃ m,W 0 m σ H1)∧∀ i m σ H,W i m σ H →
 (J.stop i H∧D.nx σ H)∨(J.go i H∧∃ N:St→Hp→Prop,(∀ σ' H',N σ' H'→∃ m',m' < m∧W (i + 1) m' σ' H')∧∀ x H',J.yld i H x H'→g x σ H' fun σ2 H2=>tb { D with nx:=N,ct:=N,bk:=D.nx } σ2 H2)
def z5E (fp:List Addr) (h:Heap):List (Addr×Obj):=fp.filterMap fun b=>(h.get? b).map fun o=>(b,o)
theorem z2i (hb:b ∈ fp) (e:h.get? b=some o):(b,o) ∈ z5E fp h:=List.mem_filterMap.mpr ⟨b,hb,by rw [e]; rfl⟩
theorem z8F (hp:p ∈ z5E fp h):p.1 ∈ fp∧h.get? p.1=some p.2:=by
 obtain ⟨b,hb,e⟩:=List.mem_filterMap.mp hp
 cases q:h.get? b with
 | none=>rw [q] at e; cases e
 | some o =>
  rw [q] at e
  have e':(b,o)=p:=Ww e
  subst e'
  exact ⟨hb,q⟩
theorem Inv.pinned (I:Inv X pins σ H s) (hf:∀ b ∈ fp,FpOk X pins H b) (ho:∀ b ∈ fp,∃ o,s.heap.get? b=some o∧∀ v,o.data≠.cell v):Inv X (pins ++ z5E fp s.heap) σ H s :=
 I.pins_of fun p hp=>(QQ.mp hp).elim (fun z=>I.pin p (WF _ z)) fun z=>by
  obtain ⟨hb,e⟩:=z8F z
  obtain ⟨f0,f1,f2,_⟩:=hf p.1 hb
  obtain ⟨o,e',d⟩:=ho p.1 hb
  rw [e] at e'; cases e'
  exact ⟨e,f0,f1,f2,d⟩
theorem Inv.unpinned (I:Inv X (pins ++ pl) σ H s):Inv X pins σ H s:=I.pins_of fun p hp=>I.pin p (WF _ (List.mem_append_left _ hp))
theorem zcH (hp:PassesOwn (model X.prog X.w) X.A X.env X.xe) (hc:X.calm=true) (hi:PI X tg iter wi) (hg:PG X tg g) (hb:PSs X body tb)
  (hs:∀ x,QB iter X.env x=pure x:=by intro _; rfl):PS X (.For tg iter body [] pos) (tFor wi g tb):=by
 intro pins s σ H D I h
 refine wpAny_For (thn (hi pins s σ H _ I h) fun v s1 h1=>thn h1 fun itv s2 h2=>?_) hs
 obtain ⟨it,fp,tn,J,H2,e,I2,T,st2,f2,W,⟨m0,w0⟩,turn⟩:=h2
 subst e
 -- what stays true of the iterator's objects through the loop
 have stat:∀ {H':Hp},(∀ b ∈ fp,H' b=none)→∀ b ∈ fp,FpOk X pins H' b:=fun hn b hb=>⟨hn b hb,(f2 b hb).2⟩
 refine codeAny_forLoop_any (fun n s'=>∃ i σ' H',Inv X pins σ' H' s'∧tn i s'.heap∧(∀ b ∈ fp,H' b=none)∧W i n σ' H') ?_ m0 ⟨0,σ,H2,I2,st2,fun b hb=>(f2 b hb).1,w0⟩
 rintro n s3 ⟨i,σ3,H3,I3,st3,fr3,w3⟩
 rcases turn i n σ3 H3 w3 with ⟨stop,qn⟩ | ⟨go,N,hN,step⟩
 ·refine Qw hp (thn (T.done X rfl rfl rfl hc i pins s3 σ3 H3 X.xe I3 (stat fr3) st3 stop) fun r s4 ⟨hr,I4⟩=>?_)
  subst hr
  exact wpAny_execs_nil ⟨σ3,H3,I4,qn⟩
 ·refine Qw hp (thn (T.item X rfl rfl rfl hc i pins s3 σ3 H3 X.xe I3 (stat fr3) st3 go) fun r s4 ⟨u,hr,h4⟩=>?_)
  subst hr
  refine Qw hp (thn h4 fun _ s5 ⟨x,H5,I5,r5,y5,st5,fr5⟩=>?_)
  have I5':=I5.pinned (stat fr5) (T.obj _ _ st5)
  refine Qw hp (thn (hg _ s5 σ3 H5 x u _ I5' r5 (step x H5 y5)) fun _ s6 ⟨σ6,H6,I6,q6⟩=>?_)
  refine Qw hp (thn (hb _ s6 σ6 H6 _ I6 q6) fun f s7 q7=>?_)
  have again:∀ {σ7:St} {H7:Hp},Inv X (pins ++ z5E fp s5.heap) σ7 H7 s7→N σ7 H7→∃ m,m < n∧∃ i σ' H',Inv X pins σ' H' s7∧tn i s7.heap∧(∀ b ∈ fp,H' b=none)∧W i m σ' H':=fun {σ7 H7} I7 n7=>by
   obtain ⟨m',hm,w7⟩:=hN σ7 H7 n7
   refine ⟨m',hm,i + 1,σ7,H7,I7.unpinned,T.keep _ _ _ st5 fun b hb o e=>(I7.pin (b,o) (WF _ (WF _ (z2i hb e)))).1,fun b hb=>?_,w7⟩
   obtain ⟨o,e,d⟩:=T.obj _ _ st5 b hb
   exact (I7.pin (b,o) (WF _ (WF _ (z2i hb e)))).2.1
  cases f with
  | next=>obtain ⟨σ7,H7,I7,n7⟩:=q7; exact again I7 n7
  | cont=>obtain ⟨σ7,H7,I7,n7⟩:=q7; exact again I7 n7
  | brk=>obtain ⟨σ7,H7,I7,q7⟩:=q7; exact ⟨σ7,H7,I7.unpinned,q7⟩
  | ret v=>obtain ⟨x7,σ7,H7,I7,r7,q7⟩:=q7; exact ⟨x7,σ7,H7,I7.unpinned,r7,q7⟩
end
abbrev R2:=V→V→Hp→VK→Prop
def OpR (X:Cx) (f:Value→Value→Sem Value) (r:R2):Prop :=
 ∀ (pins:List (Addr×Obj)) (s:W1) (σ:St) (H:Hp) (x y:V) (v u:Value) (Q:VK),Inv X pins σ H s→RelV x v→RelV y u→r x y H Q →
  W6 (model X.prog X.w) X.A (f v u) (EP X pins σ Q) X.xe s
def CallR (X:Cx) (f:Value) (r:List V→Hp→VK→Prop):Prop :=
 ∀ (pins:List (Addr×Obj)) (s:W1) (σ:St) (H:Hp) (xs:List V) (us:List Value) (Q:VK),Inv X pins σ H s→Vals xs us→r xs H Q →
  W6 (model X.prog X.w) X.A (call f us) (EP X pins σ Q) X.xe s
def tOp (r:R2) (ta tb:TE):TE:=fun σ H Q=>ta σ H fun x H1=>tb σ H1 fun y H2=>r x y H2 Q
def tUn (r:V→Hp→VK→Prop) (ta:TE):TE:=fun σ H Q=>ta σ H fun x H1=>r x H1 Q
def rI (C:Int→Int→Prop) (g:Int→Int→V):R2:=fun x y H Q=>∃ i j,x = .int i∧y = .int j∧C i j∧Q (g i j) H
def rI0 (g:Int→Int→V):R2:=fun x y H Q=>∃ i j,x = .int i∧y = .int j∧Q (g i j) H
section
variable {X:Cx} {a b c:Expr} {ta tb tc:TE} {pos:Pos}
theorem binT (ha:PE X a ta) (hb:PE X b tb) {pins:List (Addr×Obj)} {s:W1} {σ:St} {H:Hp} {R:V→V→Hp→Prop} (I:Inv X pins σ H s)
  (h:ta σ H fun x H1=>tb σ H1 fun y H2=>R x y H2) {Q:Value→W1→Prop} {f:Value→Value→Sem Value}
  (hf:∀ v u s2 x y H2,Inv X pins σ H2 s2→RelV x v→RelV y u→R x y H2→W6 (model X.prog X.w) X.A (f v u) Q X.xe s2) :
  W6 (model X.prog X.w) X.A (eval a X.env) (fun v s₁=>W6 (model X.prog X.w) X.A (eval b X.env) (fun u s₂=>W6 (model X.prog X.w) X.A (f v u) Q X.xe s₂) X.xe s₁) X.xe s:=by
 refine thn (ha pins s σ H _ I h) fun v s1 ⟨x,H1,I1,r1,q1⟩=>?_
 refine thn (hb pins s1 σ H1 _ I1 q1) fun u s2 ⟨y,H2,I2,r2,q2⟩=>?_
 exact hf v u s2 x y H2 I2 r1 r2 q2
theorem zcL {op:Operator} {r:R2} (ho:OpR X (Q5 op) r) (ha:PE X a ta) (hb:PE X b tb):PE X (.BinOp a op b pos) (tOp r ta tb):=by
 intro pins s σ H Q I h
 exact wpAny_BinOp (binT ha hb I h fun v u s2 x y H2 I2 rx ry q=>ho pins s2 σ H2 x y v u Q I2 rx ry q)
theorem opI {f:Value→Value→Sem Value} {C:Int→Int→Prop} {g:Int→Int→Int}
  (rule:∀ (i j:Int) (t u:Tok) (s:W1) (Q:Value→W1→Prop) (E:Value→W1→Prop),C i j→Q (.int (g i j) s.toks) { s with toks:=s.toks + 1 }→W6 (model X.prog X.w) X.A (f (.int i t) (.int j u)) Q E s) :
  OpR X f (rI C fun i j=>.int (g i j)):=by
 intro pins s σ H x y v u Q I rx ry h
 obtain ⟨i,j,rfl,rfl,hc,q⟩:=h
 obtain ⟨t,rfl⟩:=rx
 obtain ⟨t',rfl⟩:=ry
 exact rule i j t t' s _ _ hc ⟨.int (g i j),H,I.tok _,⟨_,rfl⟩,q⟩
theorem opI0 {f:Value→Value→Sem Value} {g:Int→Int→Int}
  (rule:∀ (i j:Int) (t u:Tok) (s:W1) (Q:Value→W1→Prop) (E:Value→W1→Prop),Q (.int (g i j) s.toks) { s with toks:=s.toks + 1 }→W6 (model X.prog X.w) X.A (f (.int i t) (.int j u)) Q E s) :
  OpR X f (rI0 fun i j=>.int (g i j)):=by
 intro pins s σ H x y v u Q I rx ry h
 obtain ⟨i,j,rfl,rfl,q⟩:=h
 obtain ⟨t,rfl⟩:=rx
 obtain ⟨t',rfl⟩:=ry
 exact rule i j t t' s _ _ ⟨.int (g i j),H,I.tok _,⟨_,rfl⟩,q⟩
theorem opB0 {f:Value→Value→Sem Value} {g:Int→Int→Bool}
  (rule:∀ (i j:Int) (t u:Tok) (s:W1) (Q:Value→W1→Prop) (E:Value→W1→Prop),Q (.bool (g i j)) s→W6 (model X.prog X.w) X.A (f (.int i t) (.int j u)) Q E s) :
  OpR X f (rI0 fun i j=>.bl (g i j)):=by
 intro pins s σ H x y v u Q I rx ry h
 obtain ⟨i,j,rfl,rfl,q⟩:=h
 obtain ⟨t,rfl⟩:=rx
 obtain ⟨t',rfl⟩:=ry
 exact rule i j t t' s _ _ ⟨.bl (g i j),H,I,rfl,q⟩
def CDiv (i j:Int):Prop:=0 < j∧j < 1073741824
def CPow (i j:Int):Prop:=0≤j∧j≤1000000∧i.natAbs < 2 ^ 64
def CMul (i j:Int):Prop:=(-(2 ^ 64) < i∧i < 2 ^ 64)∨(-(2 ^ 64) < j∧j < 2 ^ 64)
theorem CMul.ok (h:CMul i j):IntMulOk i j:=by
 rcases h with ⟨h1,h2⟩ | ⟨h1,h2⟩
 ·exact .of_left (intBits_le_64 h1 h2)
 ·exact .of_right (intBits_le_64 h1 h2)
theorem op_add:OpR X (Q5 .Add) (rI0 fun i j=>.int (i + j)):=opI0 fun _ _ _ _ _ _ _ q=>add_int q
theorem zcX:OpR X (Q5 .Sub) (rI0 fun i j=>.int (i - j)):=opI0 fun _ _ _ _ _ _ _ q=>sub_int q
theorem op_mul:OpR X (Q5 .Mult) (rI CMul fun i j=>.int (i * j)):=opI fun _ _ _ _ _ _ _ hc q=>mul_int q hc.ok
theorem zbu:OpR X (Q5 .FloorDiv) (rI CDiv fun i j=>.int (i / j)):=opI fun i j _ _ _ _ _ hc q=>by
 have h1:(0:Int) < j:=hc.1
 have h2:j < 1073741824:=hc.2
 exact floordiv_int (by omega) (by rw [Int.fdiv_eq_ediv_of_nonneg i (by omega)]; exact q) (.inl (PyProof.noPylong_small (by omega)))
theorem z3i:OpR X (Q5 .Mod) (rI (fun _ j=>0 < j) fun i j=>.int (i % j)):=opI fun i j _ _ _ _ _ hc q=>by
 have h1:(0:Int) < j:=hc
 exact mod_int' (by omega) (by rw [Int.fmod_eq_emod_of_nonneg i (by omega)]; exact q)
theorem zcY:OpR X (Q5 .Pow) (rI CPow fun i j=>.int (i ^ j.toNat)):=opI fun _ _ _ _ _ _ _ hc q=>pow_int_small hc.1 hc.2.1 hc.2.2 q
end
section
variable {X:Cx} {a b c:Expr} {ta tb tc:TE} {pos:Pos}
theorem z7i (I:Inv X pins σ H s) (q:Q (.bl k) H) (e:k=k'):EP X pins σ Q (.bool k') s:=by
 subst e
 exact ⟨.bl k,H,I,rfl,q⟩
theorem op_lt:OpR X (WE .Lt) (rI0 fun i j=>.bl (decide (i < j))):=opB0 fun _ _ _ _ _ _ _ q=>lt_int q
theorem op_gt:OpR X (WE .Gt) (rI0 fun i j=>.bl (decide (j < i))):=opB0 fun _ _ _ _ _ _ _ q=>gt_int q
theorem op_ge:OpR X (WE .GtE) (rI0 fun i j=>.bl (decide (j≤i))):=opB0 fun _ _ _ _ _ _ _ q=>ge_int q
theorem z8D:OpR X (WE .Lt) (fun x y H Q=>∃ i j,x = .str i∧y = .str j∧Q (.bl (decide (i.cps.toList < j.cps.toList))) H):=by
 intro pins s σ H x y v u Q I rx ry h
 obtain ⟨i,j,rfl,rfl,q⟩:=h
 obtain ⟨t,rfl⟩:=rx
 obtain ⟨t',rfl⟩:=ry
 exact lt_str (z7i I q rfl)
theorem zd0:OpR X (WE .Is) (fun x y H Q=>y = .non∧Q (.bl (decide (x = .non))) H):=by
 intro pins s σ H x y v u Q I rx ry h
 obtain ⟨rfl,q⟩:=h
 cases ry
 refine is_none_gen (z7i I q ?_)
 cases x <;> first
  | (cases rx; rfl)
  | (obtain ⟨t,rfl⟩:=rx; rfl)
theorem z8C:OpR X (WE .IsNot) (fun x y H Q=>y = .non∧Q (.bl (!decide (x = .non))) H):=by
 intro pins s σ H x y v u Q I rx ry h
 obtain ⟨rfl,q⟩:=h
 cases ry
 refine isnot_none_gen (z7i I q ?_)
 cases x <;> first
  | (cases rx; rfl)
  | (obtain ⟨t,rfl⟩:=rx; rfl)
theorem z5H:OpR X (WE .NotIn) (fun x y H Q=>∃ i j,x = .str i∧y = .str j∧Q (.bl (!(!(Builtin.Str.occurrences j i 0 j.length 1).isEmpty))) H):=by
 intro pins s σ H x y v u Q I rx ry h
 obtain ⟨i,j,rfl,rfl,q⟩:=h
 obtain ⟨t,rfl⟩:=rx
 obtain ⟨t',rfl⟩:=ry
 exact notIn_str (z7i I q rfl)
theorem OpR.or (h:OpR X f r) (h':OpR X f r'):OpR X f (fun x y H Q=>r x y H Q∨r' x y H Q):=by
 intro pins s σ H x y v u Q I rx ry q
 rcases q with q | q
 ·exact h pins s σ H x y v u Q I rx ry q
 ·exact h' pins s σ H x y v u Q I rx ry q
theorem z1o (b:Expr) (h:op≠.In:=by decide) (h2:op≠.NotIn:=by decide):Qg op b=false:=by
 have e1:(op == CmpOp.In)=false:=by cases op <;> first | rfl | exact absurd rfl h
 have e2:(op == CmpOp.NotIn)=false:=by cases op <;> first | rfl | exact absurd rfl h2
 cases b <;> simp [Qg,e1,e2]
theorem zbq {op:CmpOp} {r:R2} (ho:OpR X (WE op) r) (ha:PE X a ta) (hb:PE X b tb) (hm:Qg op b=false):PE X (.Compare a [op] [b] pos) (tOp r ta tb):=by
 intro pins s σ H Q I h
 exact wpAny_Compare1 (binT ha hb I h fun v u s2 x y H2 I2 rx ry q=>ho pins s2 σ H2 x y v u Q I2 rx ry q) hm
def tTest (t:TE):TT:=fun σ H Q=>t σ H fun x H'=>∃ k,x = .bl k∧Q k H'
theorem z8s (ho:OpR X (WE op) r) (ha:PE X a ta) (hb:PE X b tb) (hm:Qg op b=false):PT X (.Compare a [op] [b] pos) (tTest (tOp r ta tb)):=by
 intro pins s σ H Q I h
 refine wpAny_isTrue_Compare1 (thn (ha pins s σ H _ I h) fun v s1 ⟨x,H1,I1,r1,q1⟩=>thn (hb pins s1 σ H1 _ I1 q1) fun u s2 ⟨y,H2,I2,r2,q2⟩ =>
  thn (ho pins s2 σ H2 x y v u _ I2 r1 r2 q2) fun c s3 ⟨z,H3,I3,r3,k,e,q3⟩=>?_) hm
 subst e
 cases r3
 exact Qo ⟨H3,I3,q3⟩
theorem z4x:(W7:Nat) < 2 ^ 63:=by rw [QT]; decide
theorem op_add_str:OpR X (Q5 .Add) (fun x y H Q=>∃ i j,x = .str i∧y = .str j∧i.length + j.length≤W7∧Q (.str (i ++ j)) H):=by
 intro pins s σ H x y v u Q I rx ry h
 obtain ⟨i,j,rfl,rfl,hz,q⟩:=h
 obtain ⟨t,rfl⟩:=rx
 obtain ⟨t',rfl⟩:=ry
 exact add_str (fun t' tk=>⟨.str (i ++ j),H,I.tok _,⟨_,rfl⟩,q⟩) hz
theorem z33 (r:Vals [x] us):∃ u,us=[u]∧RelV x u:=by
 cases r with
 | cons r1 r2=>cases r2; exact ⟨_,rfl,r1⟩
theorem zbX (r:Vals [x,y] us):∃ u w',us=[u,w']∧RelV x u∧RelV y w':=by
 cases r with
 | cons r1 r2 =>
  cases r2 with
  | cons r3 r4=>cases r4; exact ⟨_,_,rfl,r1,r3⟩
theorem z9o (hc:X.calm=true):CallR X (.builtin "max") (fun xs H Q=>∃ i j,xs=[.int i,.int j]∧Q (.int (if j > i then j else i)) H):=by
 intro pins s σ H xs us Q I r h
 obtain ⟨i,j,rfl,q⟩:=h
 obtain ⟨u,w',rfl,⟨t,rfl⟩,⟨t',rfl⟩⟩:=zbX r
 refine max_two_ints (I.ok.hd hc) fun h' tk k=>⟨_,H,I.kept k,?_,q⟩
 by_cases hj:j > i
 ·rw [if_pos hj,if_pos hj]; exact ⟨_,rfl⟩
 ·rw [if_neg hj,if_neg hj]; exact ⟨_,rfl⟩
theorem z9q:CallR X (.type "int") (fun xs H Q=>(∃ i,xs=[.int i]∧Q (.int i) H)∨∃ k,xs=[.bl k]∧Q (.int (if k then 1 else 0)) H):=by
 intro pins s σ H xs us Q I r h
 rcases h with ⟨i,rfl,q⟩ | ⟨k,rfl,q⟩
 ·obtain ⟨u,rfl,t,rfl⟩:=z33 r
  exact call_int_int ⟨.int i,H,I,⟨_,rfl⟩,q⟩
 ·obtain ⟨u,rfl,r1⟩:=z33 r
  cases r1
  exact call_int_bool ⟨.int (if k then 1 else 0),H,I.tok _,⟨_,rfl⟩,q⟩
end
structure ObjM (h:Heap) (x dx C:Addr) (mA:Str→Option Value):Prop where
 obj:h.get? x=some (PySem.W.instObj C dx)
 ns:h.Ns1 dx mA
 ne:dx≠x
theorem z8P {h:Heap} {dx:Addr} {mA:Str→Option Value} (n:h.Ns1 dx mA):∃ od,h.get? dx=some od∧∀ name,PySem.W.lookIn name od=some (mA name):=by
 obtain ⟨o,es,ep,ho,hd,hk,_,hm⟩:=n
 refine ⟨o,ho,fun name=>?_⟩
 have e:=hm name
 unfold nsFind findBy at e
 rw [← Array.find?_toList] at e
 unfold PySem.W.lookIn
 rw [hd]
 dsimp only
 split
 ·rename_i y q
  rw [q] at e
  exact congrArg some e
 ·rename_i q
  rw [q] at e
  have a:es.toList.any (·.refKey)=false:=by
   rw [List.any_eq_false]
   intro y hy
   obtain ⟨z,t,hkey⟩:=hk y (Array.mem_toList_iff.mp hy)
   simp [DictEntry.refKey,hkey]
  have a':¬ es.toList.any (·.refKey)=true:=by rw [a]; exact Q0
  rw [if_neg a']
  exact congrArg some e
theorem ObjM.look (I:ObjM h x dx C mA):∃ od,PySem.W.InstAt h x (PySem.W.instObj C dx) C (some od)∧∀ name,PySem.W.lookIn name od=some (mA name) :=
 let ⟨od,ho,hl⟩:=z8P I.ns
 ⟨od,⟨I.obj,rfl,rfl,ho⟩,hl⟩
section
variable {prog:We} {w:Wk} {A:Wm} {E:Value→W1→Prop} {s:W1} {K:W2} {x dx C f:Addr} {mA:Str→Option Value} {name:Str} {v:Value}
end
theorem RelO.some_of (r:RelO (some v) o):∃ u,o=some u∧RelV v u:=by
 cases o with
 | none=>exact (show False from r).elim
 | some u=>exact ⟨u,rfl,r⟩
section
variable {P:We} {w:Wk} {H H':Hp} {h h':Heap} {a C dx:Addr} {fs fs':List (Str×V)}
theorem zbF (hok:HOk P w H h) (e:H a=some (.ins C dx fs)):∃ mA,ObjM h a dx C mA∧(∀ f,RelO (fs.lookup f) (mA f))∧PySem.Within mA (fs.map (·.1))∧fs.length≤1000∧H dx=some (.own a):=by
 obtain ⟨d,z,ne,ob,mA,n,r,q⟩:=(show ObjOk P w H h a (.ins C dx fs) from hok a _ e)
 exact ⟨mA,⟨ob,n,ne⟩,r,q,z,d⟩
end
structure Cls (K:W2) (C:Addr):Prop where
 pg:PySem.W.plainGet K C Str.empty=true
 hd:PySem.W.hasDictIn K C=true
 po:PySem.W.plainOver K C=true
 sa:QY K (.ref C) "__setattr__" = some (some (.builtin "object.__setattr__"))
theorem Cls.get {K:W2} {C:Addr} (c:Cls K C) (f:Str):PySem.W.plainGet K C f=true:=c.pg
structure Con (K:W2) (C:Addr) (f:Str) (v:V) (u:Value):Prop where
 at_:QY K (.ref C) f=some (some u)
 rel:RelV v u
 get:PySem.W.specialIn K u "__get__" = some none
 cp:PySem.W.copiedNames.contains f=false
structure Meth (K:W2) (C:Addr) (m:Str) (f:Addr):Prop where
 at_:QY K (.ref C) m=some (some (.ref f))
 fn:PySem.W.isFn K (.ref f)=true
 kp:Qk K (.ref f)=true
section
variable {X:Cx} {pins:List (Addr×Obj)} {σ:St} {H:Hp} {s:W1} {a C dx:Addr} {fs:List (Str×V)} {f:Str} {v:V} {A:Wm} {E:Value→W1→Prop}
end
section
variable {X:Cx} {o e value:Expr} {f:Str} {pos pos' tpos:Pos} {ta tv:TE}
end
section
variable {X:Cx} {pins:List (Addr×Obj)} {σ:St} {H:Hp} {s:W1} {A:Wm} {E:Value→W1→Prop} {Q:Value→W1→Prop} {c:Value} {b:Bool}
inductive TyOf (K:W2) (H:Hp):V→Value→Prop where
 | non:TyOf K H .non (.type "NoneType")
 | bl (x:Bool):TyOf K H (.bl x) (.type "bool")
 | int (i:Int):TyOf K H (.int i) (.type "int")
 | str (x:Str):TyOf K H (.str x) (.type "str")
 | flt (x:UInt64):TyOf K H (.flt x) (.type "float")
 | lst {a:Addr} {xs:List V} (e:H a=some (.lst xs)):TyOf K H (.ref a) (.type "list")
 | frz {a:Addr} {o:Obj} {xs:List V} (e:H a=some (.frz o (.lst xs))):TyOf K H (.ref a) (.type "list")
 | tup {a:Addr} {xs:List V} (e:H a=some (.tup xs)):TyOf K H (.ref a) (.type "tuple")
 | dK {a:Addr} {kvs:List (Key×V)} (e:H a=some (.dK kvs)):TyOf K H (.ref a) (.type "dict")
 | dT {a:Addr} {kvs:List (List Key×V)} (e:H a=some (.dT kvs)):TyOf K H (.ref a) (.type "dict")
 | ins {a C dx:Addr} {fs:List (Str×V)} (e:H a=some (.ins C dx fs)) (cl:Cls K C) (ha:QY K (.ref C) "__class__" = some (some (.builtin "object.__class__")))
   (hn:PySem.W.specialIn K (.builtin "object.__class__") "__get__" = some (some (.builtin "getset_descriptor.__get__"))) (htk:PySem.W.takesIn K (.builtin "object.__class__")=some true)
   (hm:PySem.W.mroIn K C (.type "object")=some true):TyOf K H (.ref a) (.ref C)
theorem z1f (I:Inv X pins σ H s) (rx:RelV x u) (ty:TyOf X.K H x t) (e:Ql X.K t c=some b) (h:∀ tk,Q (.bool b) { s with toks:=tk }) :
  W6 (model X.prog X.w) A (call (.builtin "isinstance") [u,c]) Q E s:=by
 cases ty with
 | non=>cases (show u=Value.none from rx); exact WY PySem.W.kitx_none I.kIn True.intro e (fun z=>nomatch z) h
 | bl y=>cases (show u=Value.bool y from rx); exact WY PySem.W.kitx_bool I.kIn True.intro e (fun z=>nomatch z) h
 | int i=>obtain ⟨t,q⟩:=(show ∃ t,u=Value.int i t from rx); cases q; exact WY PySem.W.kitx_int I.kIn True.intro e (fun z=>nomatch z) h
 | str y=>obtain ⟨t,q⟩:=(show ∃ t,u=Value.str y t from rx); cases q; exact WY PySem.W.kitx_str I.kIn True.intro e (fun z=>nomatch z) h
 | flt y=>obtain ⟨t,q⟩:=(show ∃ t,u=Value.float y t from rx); cases q; exact WY PySem.W.kitx_float I.kIn True.intro e (fun z=>nomatch z) h
 | @lst a xs ea =>
  cases (show u=Value.ref a from rx)
  obtain ⟨_,_,n,_,h1⟩:=(show ObjOk X.prog X.w H s.heap a (.lst xs) from I.hok a _ ea)
  exact WY PySem.W.kitx_list I.kIn ⟨_,h1,rfl⟩ e (fun z=>nomatch z) h
 | @frz a ob xs ea =>
  cases (show u=Value.ref a from rx)
  obtain ⟨_,_,_,n,_,h1⟩:=(show ObjOk X.prog X.w H s.heap a (.frz ob (.lst xs)) from I.hok a _ ea)
  exact WY PySem.W.kitx_list I.kIn ⟨_,h1,rfl⟩ e (fun z=>nomatch z) h
 | @tup a xs ea =>
  cases (show u=Value.ref a from rx)
  obtain ⟨_,_,_,p⟩:=(show ObjOk X.prog X.w H s.heap a (.tup xs) from I.hok a _ ea)
  obtain ⟨o,h1,h2,_⟩:=p.tup
  exact WY PySem.W.kitx_tuple I.kIn ⟨o,h1,h2⟩ e (fun z=>nomatch z) h
 | @dK a kvs ea =>
  cases (show u=Value.ref a from rx)
  obtain ⟨_,_,vs,_,p⟩:=(show ObjOk X.prog X.w H s.heap a (.dK kvs) from I.hok a _ ea)
  obtain ⟨o,es,ep,h1,h2,_⟩:=p
  exact WY PySem.W.kitx_dict I.kIn ⟨o,h1,h2.1⟩ e (fun z=>nomatch z) h
 | @dT a kvs ea =>
  cases (show u=Value.ref a from rx)
  obtain ⟨_,_,xs,_,o,es,ep,h1,h2,_⟩:=(show ObjOk X.prog X.w H s.heap a (.dT kvs) from I.hok a _ ea)
  exact WY PySem.W.kitx_dict I.kIn ⟨o,h1,h2.1⟩ e (fun z=>nomatch z) h
 | @ins a C dx fs ea cl ha hn htk hm =>
  cases (show u=Value.ref a from rx)
  obtain ⟨mA,O,_⟩:=zbF I.hok ea
  obtain ⟨od,J,_⟩:=O.look
  exact WY (PySem.W.kitx_own (cl.get _) cl.hd ha hn htk hm) I.kIn J e (fun z=>nomatch z) h
end
structure Room (k:Nat) (A:Wm):Prop where
 hd:A.handled=none
 dp:A.depth + 3 * k + 5 < recursionLimit
 un:A.units + 16 * k + 200 < Qh
theorem Room.mono (r:Room k A) (h:j≤k):Room j A:=⟨r.hd,by have:=r.dp; omega,by have:=r.un; omega⟩
theorem Room.deeper (r:Room (k + 1) A) (env:Env):Room k (A.deeper env) :=
 ⟨r.hd,by have:=r.dp; show A.depth + 1 + 3 * k + 5 < _; omega,by have:=r.un; show A.units + 3 + 16 * k + 200 < _; omega⟩
theorem Room.depth (r:Room k A):A.depth < recursionLimit:=by have:=r.dp; omega
def tNil:TA:=fun _ H Q=>Q [] H
def zc7 (ta:TE) (tr:TA):TA:=fun σ H Q=>ta σ H fun x H1=>tr σ H1 fun xs H2=>Q (x :: xs) H2
section
variable {X:Cx} {e:Expr} {es:List Expr} {te:TE} {t:TA} {pos:Pos}
theorem z1M:PA X [] tNil:=fun _ _ _ _ H Q I h=>Calls.spliced_nil ⟨[],H,I,.nil,h⟩
theorem z0K (ha:PE X e te) (hr:PA X es t) (hs:Wa (e :: es) X.env=(false,eval e X.env) :: Wa es X.env:=by rfl):PA X (e :: es) (zc7 te t):=by
 intro pos pins s σ H Q I h
 rw [hs]
 show W6 _ _ (spliced ((false,eval e X.env) :: Q8 pos (Wa es X.env))) _ _ s
 refine Calls.spliced_cons (thn (ha pins s σ H _ I h) fun u s1 ⟨x,H1,I1,r1,q1⟩=>?_)
 exact thn (hr pos pins s1 σ H1 _ I1 q1) fun us s2 ⟨xs,H2,I2,r2,q2⟩=>⟨x :: xs,H2,I2,.cons r1 r2,q2⟩
def tTup (t:TA):TE:=fun σ H Q=>t σ H fun xs H1=>xs.length≤W7∧∀ p,H1 p=none→Q (.ref p) (upd H1 p (.tup xs))
def tLst (t:TA):TE:=fun σ H Q=>t σ H fun xs H1=>xs.length≤W7∧∀ p,H1 p=none→Q (.ref p) (upd H1 p (.lst xs))
theorem zcK {x1} (h:PA X es t):PE X (.Tuple es x1 pos) (tTup t):=by
 intro pins s σ H Q I hq
 refine wpAny_Tuple_spliced (thn (h pos pins s σ H _ I hq) fun us s1 ⟨xs,H1,I1,r,z,q⟩=>⟨by rw [← r.length]; exact z,?_⟩)
 have hf:H1 s1.heap.objs.size=none:=I1.hok.fresh (Wb _)
 refine ⟨.ref s1.heap.objs.size,upd H1 s1.heap.objs.size (.tup xs),I1.laid (t':=s1.toks) (fun b u e=>W3 _ e) (Wb _) ?_,rfl,q _ hf⟩
 exact ⟨z,us,r,⟨_,Wh _ rfl⟩⟩
theorem zcP (h:PA X es t):PE X (.List es pos) (tLst t):=by
 intro pins s σ H Q I hq
 refine wpAny_List_spliced (thn (h pos pins s σ H _ I hq) fun us s1 ⟨xs,H1,I1,r,z,q⟩=>⟨by rw [← r.length]; exact z,?_⟩)
 have hf:H1 s1.heap.objs.size=none:=I1.hok.fresh (Wb _)
 refine ⟨.ref s1.heap.objs.size,upd H1 s1.heap.objs.size (.lst xs),I1.laid (t':=s1.toks) (fun b u e=>W3 _ e) (Wb _) ?_,rfl,q _ hf⟩
 exact ⟨z,us,0,r,Wh _ rfl⟩
end
abbrev Sp:=List V→Hp→VK→XK→Prop
abbrev CXT:=List Env→Hp→W1→XK→Value→W1→Prop
structure Env0 (P:We) (w:Wk) (K:W2) (mg:Str→Option Value) (base:Heap) (A:Wm) (outer:List Env) (s:W1) (H:Hp):Prop where
 frames:A.frames=some outer
 mod:Mod K mg base
 bs:∀ b o,base.get? b=some o→s.heap.get? b=some o∧H b=none
 bsz:base.objs.size≤s.heap.objs.size
 funs:s.heap.FunFrames base outer
 frf:∀ b ∈ frs outer,H b=none
 hok:HOk P w H s.heap
 bare:AllBare s.gens
def CE (outer:List Env) (P:We) (w:Wk) (H:Hp) (s:W1) (Q:VK) (u:Value) (s':W1):Prop :=
 ∃ v H',s'.os=s.os∧AllBare s'.gens∧Un (frs outer) [] H H' s.heap s'.heap∧HOk P w H' s'.heap∧RelV v u∧Q v H'
def CR (CX:CXT) (outer:List Env) (P:We) (w:Wk) (H:Hp) (s:W1) (Q:VK) (E:XK) (r:Result) (s':W1):Prop :=
 match r with
 | .ok (.ret u)=>CE outer P w H s Q u s'
 | .ok _=>False
 | .error e=>CX outer H s E e s'
structure FnOk (P:We) (w:Wk) (K:W2) (mg:Str→Option Value) (base:Heap) (CX:CXT) (k:Nat) (f:Addr) (fd:WC) (ps:List Str) (sp:Sp):Prop where
 len:∀ vs H Q E,sp vs H Q E→vs.length=ps.length
 run:∀ (A:Wm) (outer:List Env) (s:W1) (H:Hp) (args:Args) (us:List Value) (vs:List V) (Q:VK) (E:XK),Room k A→Env0 P w K mg base A outer s H→BindsTo s fd args (ps.zip us)→Vals vs us→sp vs H Q E →
  Q1 (model P w) A (.call (.ref f) args) (CR CX outer P w H s Q E) s
section
variable {X:Cx} {pins:List (Addr×Obj)} {σ:St} {H:Hp} {s s':W1}
theorem Inv.env0 (I:Inv X pins σ H s):Env0 X.prog X.w X.K X.mg X.base X.A X.stack s H :=
 ⟨I.ok.frames,I.ok.mod,I.bs,WQ I.ok.bsz I.sz,I.stack,I.stkFree,I.hok,I.bare⟩
theorem Inv.after (I:Inv X pins σ H s) (h:CE X.stack X.prog X.w H s Q u s'):EP X pins σ Q u s':=by
 obtain ⟨v,H',os,bare,un,hok,r,q⟩:=h
 obtain ⟨hh,g,d,t,os'⟩:=s'
 obtain rfl:os'=s.os:=os
 exact ⟨v,H',I.call (h':=hh) (g':=g) (d':=d) (t':=t) (ch:=[]) un hok bare (fun b z=>absurd z (by simp)),r,q⟩
end
def zc8 (sp:Sp) (dvs:List V) (E:XK) (t:TA):TE:=fun σ H Q=>t σ H fun vs H1=>sp (vs ++ dvs) H1 Q E
def Binds (K:W2) (fd:WC) (ps:List Str) (ds:List Value):Prop :=
 ∀ (s:W1) (us:List Value),K.In s.heap→(us ++ ds).length=ps.length→BindsTo s fd ⟨us,[]⟩ (ps.zip (us ++ ds))
theorem Binds.all {K:W2} {fd:WC} {ps:List Str} (h:∀ us:List Value,us.length=ps.length→bindArgs fd ⟨us,[]⟩=pure (ps.zip us)):Binds K fd ps []:=fun s us _ hl=>by
 rw [Qx] at hl ⊢
 exact .of_eq (h us hl)
def z9w (CX:CXT) (X:Cx) (E:XK):Prop:=∀ (pins:List (Addr×Obj)) (σ:St) (H:Hp) (s:W1) (e:Value) (s':W1),Inv X pins σ H s→CX X.stack H s E e s'→X.xe e s'
section
variable {X:Cx} {CX:CXT} {k:Nat} {f C:Addr} {fd:WC} {ps:List Str} {sp:Sp} {dvs:List V} {ds:List Value} {E:XK} {x m:Str} {p pos apos:Pos} {e o:Expr} {es:List Expr} {ta:TE} {t:TA}
theorem zcm (F:FnOk X.prog X.w X.K X.mg X.base CX k f fd ps sp) (hr:Room k X.A) (hb:Binds X.K fd ps ds) (hd:Vals dvs ds) (hx:z9w CX X E)
  (I:Inv X pins σ H s) (r:Vals vs us) (h:sp (vs ++ dvs) H Q E):W6 (model X.prog X.w) X.A (call (.ref f) us) (EP X pins σ Q) X.xe s:=by
 have r2:Vals (vs ++ dvs) (us ++ ds):=r.append hd
 have hl:(us ++ ds).length=ps.length:=by rw [← r2.length]; exact F.len _ _ _ _ h
 refine wpAny_call (Qv (F.run X.A X.stack s H ⟨us,[]⟩ (us ++ ds) (vs ++ dvs) Q E hr I.env0 (hb s us I.kIn hl) r2 h) fun r s' hq=>?_)
 cases r with
 | error e=>exact hx pins σ H s e s' I hq
 | ok fl =>
  cases fl with
  | ret u=>exact I.after hq
  | next=>exact False.elim hq
  | brk=>exact False.elim hq
  | cont=>exact False.elim hq
theorem z8x (F:FnOk X.prog X.w X.K X.mg X.base CX k f fd ps sp) (hr:Room k X.A) (hg:Gl X x) (hm:X.mg x=some (.ref f)) (hk:Qk X.K (.ref f)=true) (hb:Binds X.K fd ps ds) (hd:Vals dvs ds) (hx:z9w CX X E)
  (ha:PA X (e :: es) t) (hdb:(x == ("__debug__" : Str))=false:=by decide) (he:Wa (e :: es) X.env=(false,eval e X.env) :: Wa es X.env:=by rfl) (hpl:(Q8 pos (Wa es X.env)).any (·.1)=false:=by rfl) :
  PE X (.Call (.Name x p) (e :: es) [] pos) (zc8 sp dvs E t):=by
 intro pins s σ H Q I h
 refine QR (z8R I hg hm ?_ hdb)
 refine PySem.W.callWith_K (h₀:=X.base) I.ok.mod.kin hk (thn (ha pos pins s σ H _ I h) fun us s1 ⟨vs,H1,I1,r,q⟩=>⟨I1.kIn,?_⟩) he hpl
 exact zcm F hr hb hd hx I1 r q
structure Mk (K:W2) (C f:Addr):Prop where
 makes:PySem.W.makesIn K C=true
 init:QY K (.ref C) "__init__" = some (some (.ref f))
 fn:PySem.W.isFn K (.ref f)=true
 kp:Qk K (.ref C)=true
end
def PK (X:Cx) (kws:List Keyword) (t:TA):Prop :=
 ∀ (pos:Pos) (pins:List (Addr×Obj)) (s:W1) (σ:St) (H:Hp) (Q:List V→Hp→Prop),Inv X pins σ H s→t σ H Q→W6 (model X.prog X.w) X.A (evalAll ((backToKw pos (Jk kws X.env)).map (·.2))) (AP X pins σ Q) X.xe s
section
variable {X:Cx} {CX:CXT} {k:Nat} {f C:Addr} {fd:WC} {ps ks:List Str} {sp:Sp} {E:XK} {x m:Str} {p pos apos kpos:Pos} {e o:Expr} {es:List Expr} {kws:List Keyword} {te ta:TE} {t tk:TA} {nm:Option Str}
structure KBinds (K:W2) (fd:WC) (ps ks:List Str) (g:List Value→List Value→List Value) (gV:List V→List V→List V):Prop where
 to:∀ (s:W1) (us ws:List Value),K.In s.heap→(g us ws).length=ps.length→BindsTo s fd ⟨us,ks.zip ws⟩ (ps.zip (g us ws))
 rel:∀ {vs:List V} {us:List Value} {zs:List V} {ws:List Value},Vals vs us→Vals zs ws→Vals (gV vs zs) (g us ws)
variable {g:List Value→List Value→List Value} {gV:List V→List V→List V}
end
structure FnScope (N P:List Str) (sc:Scope):Prop where
 kind:sc.kind = .function
 co:sc.isCoroutine=false
 gen:sc.isGenerator=false
 nd:N.Nodup
 pre:N.take P.length=P
 par:∀ x ∈ P,sc.names.lookup x=some .local∨sc.names.lookup x=some .cell
 nofree:∀ y ∈ sc.names,y.2≠.free
theorem z6e {kindOf:Str→Option NameKind} {x:Str}:∀ {binds:List (Str×Value)} {m:Str→Option Value},(∀ v,(x,v) ∉ binds)→bindL kindOf binds m x=m x
 | [],_,_=>rfl
 | (n,v) :: r,m,h=>by
  unfold bindL
  rw [z6e fun w hw=>h w (Wd _ hw)]
  split
  ·have:x≠n:=by rintro rfl; exact h v Wg
   simp [this]
  ·rfl
theorem z6g {kindOf:Str→Option NameKind} {x:Str}:∀ {binds:List (Str×Value)} {m:Str→Option Value},(∀ v,(x,v) ∉ binds)→bindC kindOf binds m x=m x
 | [],_,_=>rfl
 | (n,v) :: r,m,h=>by
  unfold bindC
  rw [z6g fun w hw=>h w (Wd _ hw)]
  split
  ·rfl
  ·have:x≠n:=by rintro rfl; exact h v Wg
   simp [this]
theorem z6f {kindOf:Str→Option NameKind} {x:Str} {v:Value}:∀ {P:List Str} {vs:List Value} {i:Nat} {m:Str→Option Value},P.Nodup→P[i]? = some x→vs[i]? = some v→kindOf x=some .local →
  bindL kindOf (P.zip vs) m x=some v
 | [],_,_,_,_,h,_,_=>by simp at h
 | _ :: _,[],_,_,_,_,h,_=>by simp at h
 | p :: P,w :: vs,0,m,nd,h1,h2,hk=>by
  simp at h1 h2; subst h1; subst h2
  show bindL kindOf ((p,w) :: P.zip vs) m p=_
  unfold bindL
  rw [z6e fun v hv=>(WI.mp nd).1 (Jo hv).1,if_pos hk]
  simp
 | p :: P,w :: vs,i + 1,m,nd,h1,h2,hk=>by
  show bindL kindOf ((p,w) :: P.zip vs) m x=_
  unfold bindL
  exact z6f (i:=i) (WI.mp nd).2 (by simpa using h1) (by simpa using h2) hk
theorem z6h {kindOf:Str→Option NameKind} {x:Str} {v:Value}:∀ {P:List Str} {vs:List Value} {i:Nat} {m:Str→Option Value},P.Nodup→P[i]? = some x→vs[i]? = some v→kindOf x≠some .local →
  bindC kindOf (P.zip vs) m x=some v
 | [],_,_,_,_,h,_,_=>by simp at h
 | _ :: _,[],_,_,_,_,h,_=>by simp at h
 | p :: P,w :: vs,0,m,nd,h1,h2,hk=>by
  simp at h1 h2; subst h1; subst h2
  show bindC kindOf ((p,w) :: P.zip vs) m p=_
  unfold bindC
  rw [z6g fun v hv=>(WI.mp nd).1 (Jo hv).1,if_neg hk]
  simp
 | p :: P,w :: vs,i + 1,m,nd,h1,h2,hk=>by
  show bindC kindOf ((p,w) :: P.zip vs) m x=_
  unfold bindC
  exact z6h (i:=i) (WI.mp nd).2 (by simpa using h1) (by simpa using h2) hk
def z1y (N:List Str) (vs:List V):St:=vs.map some ++ Wc (N.length - vs.length) none
def cxOf (CX:CXT) (P:We) (w:Wk) (K:W2) (mg:Str→Option Value) (base:Heap) (N:List Str) (qual:Str) (scope:Scope) (f:Addr) (cd:Value) (A:Wm) (outer:List Env) (s:W1) (H:Hp) (E:XK):Cx where
 prog:=P
 w:=w
 K:=K
 mg:=mg
 base:=base
 A:=A.deeper (QI qual scope s.heap.objs.size f cd)
 N:=N
 s₀:=s
 H₀:=H
 env:=QI qual scope s.heap.objs.size f cd
 outer:=outer
 stack:=QI qual scope s.heap.objs.size f cd :: outer
 ex:=[]
 calm:=true
 fn:=fun _=>true
 pn:=[]
 xe:=fun e s'=>W6 (model P w) (A.deeper (QI qual scope s.heap.objs.size f cd)) (leaving (QI qual scope s.heap.objs.size f cd) e) (fun _ s''=>CX outer H s E e s'') (fun e' s''=>CX outer H s E e' s'') s'
theorem z7n {sc:Scope} {n:Nat} {x:Str} (h:sc.names.lookup x=some .cell):∃ c,(Qc n sc.names []).lookup x=some c:=by
 have q:=QU sc.names n [] (.inl h)
 exact Option.isSome_iff_exists.mp q
theorem z5X {CX:CXT} {P:We} {w:Wk} {K:W2} {mg:Str→Option Value} {base:Heap} {N ps:List Str} {qual:Str} {scope:Scope} {f:Addr} {cd:Value} {A:Wm} {outer:List Env} {s s1:W1} {H:Hp} {E:XK} {us:List Value} {vs:List V}
  (S:FnScope N ps scope) (hd:A.handled=none) (e0:Env0 P w K mg base A outer s H) (hl:vs.length=ps.length) (r:Vals vs us)
  (x:InCallC s s.heap.objs.size (bindL (QI qual scope s.heap.objs.size f cd).kindOf (ps.zip us) fun _=>none) (Qc (s.heap.objs.size + 1) scope.names []) (bindC (QI qual scope s.heap.objs.size f cd).kindOf (ps.zip us) fun _=>none) s1) :
  Inv (cxOf CX P w K mg base N qual scope f cd A outer s H E) [] (z1y N vs) H s1:=by
 have hpl:ps.length≤N.length:=by have:=congrArg Qu S.pre; rw [Jm] at this; omega
 obtain ⟨h1,tk,rfl,hk⟩:=x.done
 have noA:∀ b:Addr,b ∉ (cxOf CX P w K mg base N qual scope f cd A outer s H E).ex:=fun b z=>absurd (show b ∈ ([]:List Addr) from z) (by simp)
 refine ⟨⟨e0.mod,S.kind,rfl,rfl,Wb _,fun y z c h1 h2=>?_,fun y hy=>?_,fun y c _ h=>?_,fun _=>hd,Around.frames_deeper e0.frames,.inr ⟨rfl,rfl⟩,fun b z=>absurd z (noA b),e0.bs,e0.bsz,fun b _ _=>noA b,fun b z=>absurd z (noA b),e0.funs,e0.frf⟩,
  rfl,e0.bare,Un.kept hk,⟨_,x.toInCall.ns,fun i y v h1 h2 h3=>?_⟩,fun y c h=>⟨_,x.cell y c h⟩,e0.hok.fresh (Wb _),fun y c h=>?_,fun p hp=>absurd (show p ∈ ([]:List (Addr×Obj)) from hp) (by simp),e0.hok.kept hk,?_⟩
 ·exact name_of_addr x.apart (Wq h1) (Wq h2)
 ·have hy:scope.names.lookup y=some .cell∨scope.names.lookup y=some .free:=hy
  rcases hy with hy | hy
  ·exact z7n hy
  ·exact absurd rfl (S.nofree _ (Wq hy))
 ·exact QW (x.above y c (Wq h))
 ·have hi:i < vs.length:=by
   unfold z1y at h2
   by_cases hi:i < vs.length
   ·exact hi
   ·rw [List.getElem?_append_right (by simpa using hi)] at h2
    rw [List.getElem?_replicate] at h2
    split at h2 <;> cases h2
  have ha:vs[i]? = some v:=by
   unfold z1y at h2
   rw [List.getElem?_append_left (by simpa using hi),Wz] at h2
   cases e:vs[i]? with
   | none=>rw [e] at h2; cases h2
   | some a=>rw [e] at h2; cases h2; rfl
  obtain ⟨u,hu,rv⟩:=r.get ha
  have hp:ps[i]? = some y:=by
   rw [← S.pre,List.getElem?_take_of_lt (by omega)]; exact h1
  have ndP:ps.Nodup:=by rw [← S.pre]; exact S.nd.sublist (List.take_sublist _ _)
  refine ⟨u,rv,?_⟩
  rcases S.par y (WR hp) with k | k
  ·exact .inl ⟨k,z6f ndP hp hu k⟩
  ·obtain ⟨c,e⟩:=z7n (n:=s.heap.objs.size + 1) k
   refine .inr ⟨.inl k,c,e,?_⟩
   have q:=x.cell y c e
   rw [z6h ndP hp hu (by show scope.names.lookup y≠_; rw [k]; decide)] at q
   exact q
 ·exact e0.hok.fresh (QW (x.above y c (Wq h)))
 ·unfold z1y
  show _=N.length
  rw [WS,Wx,List.length_replicate]
  omega
theorem zdv {CX:CXT} {P:We} {w:Wk} {K:W2} {mg:Str→Option Value} {base:Heap} {k:Nat} {f:Addr} {name qual:Str} {params:Arguments} {body:List Stmt} {scope:Scope} {dV kV doc pm cdv ct oc:Value} {an od:Option Addr}
  {osl:Array (Option Value)} {N ps:List Str} {sp:Sp} (lk:K.lookup f=some ⟨oc,od,.func (WN name qual params body scope dV kV doc pm an cdv ct),osl⟩) (hcd:PySem.W.codeIn K cdv qual=true) (S:FnScope N ps scope)
  (len:∀ vs H Q E,sp vs H Q E→vs.length=ps.length)
  (hbody:∀ (A:Wm) (outer:List Env) (s:W1) (H:Hp) (vs:List V) (Q:VK) (E:XK),Room k (A.deeper (QI qual scope s.heap.objs.size f cdv))→sp vs H Q E →
   ∃ t,PSs (cxOf CX P w K mg base N qual scope f cdv A outer s H E) body t∧t { nx:=fun _ H'=>Q .non H',rt:=Q } (z1y N vs) H) :
  FnOk P w K mg base CX (k + 1) f (WN name qual params body scope dV kV doc pm an cdv ct) ps sp:=by
 refine ⟨len,fun A outer s H args us vs Q E hr e0 hb r hsp=>?_⟩
 have hl:=len _ _ _ _ hsp
 have KX:K.In s.heap:=e0.mod.kin.keeps fun b o e=>(e0.bs b o e).1
 have lim:s.heap.NoLimit:=e0.mod.nolimit.keeps fun b o e=>(e0.bs b o e).1
 have hkind:∀ y ∈ ps.zip us,scope.names.lookup y.1=some .local∨(scope.names.lookup y.1=some .cell∧((Qc (s.heap.objs.size + 1) scope.names []).lookup y.1).isSome=true):=fun ⟨n,v⟩ hy=>by
  rcases S.par n (Jo hy).1 with q | q
  ·exact .inl q
  ·exact .inr ⟨q,QU _ _ _ (.inl q)⟩
 refine codeAny_call_function hr.depth (KX _ _ lk) rfl S.co S.gen rfl (PySem.W.codeRec_of KX hcd) (hb _ _ _ _ ?_)
 refine wpAny_newFunctionEnv_cells S.kind hkind fun env he s1 x=>?_
 subst he
 refine ⟨lim.keeps x.toInCall.keep,codeAny_func ?_⟩
 obtain ⟨t,ht,hq⟩:=hbody A outer s H vs Q E (hr.deeper _) hsp
 have I:Inv (cxOf CX P w K mg base N qual scope f cdv A outer s H E) [] (z1y N vs) H s1:=z5X S hr.hd e0 hl r x
 refine WA (ht [] s1 (z1y N vs) H _ I hq) (fun fl s' hs=>?_) fun e s' hs=>hs
 have fin:∀ {σ':St} {H':Hp} {v:V} {u:Value},Inv (cxOf CX P w K mg base N qual scope f cdv A outer s H E) [] σ' H' s'→RelV v u→Q v H'→CE outer P w H s Q u s' :=
  fun {σ' H' v u} J rv q=>⟨v,H',J.os,J.bare,J.base,J.hok,rv,q⟩
 cases fl with
 | ret u =>
  obtain ⟨v,σ',H',J,rv,q⟩:=hs
  exact fin J rv q
 | next =>
  obtain ⟨σ',H',J,q⟩:=hs
  exact fin (v:=V.non) (u:=Value.none) J rfl q
 | brk =>
  obtain ⟨_,_,_,q⟩:=hs
  exact False.elim q
 | cont =>
  obtain ⟨_,_,_,q⟩:=hs
  exact False.elim q
section
variable {X:Cx} {x:Str} {p pos:Pos} {e:Expr} {es:List Expr} {t:TA} {id T:String} {r:List V→Hp→VK→Prop}
def tCB (r:List V→Hp→VK→Prop) (t:TA):TE:=fun σ H Q=>t σ H fun vs H1=>r vs H1 Q
theorem z3u (hc:CallR X (.builtin id) r) (hg:Gl X x) (hm:X.mg x=none) (hv:Q7 x=some (.builtin id)) (ha:PA X (e :: es) t) (hn:x≠"__name__":=by decide) (hdb:(x == ("__debug__" : Str))=false:=by decide)
  (he:Wa (e :: es) X.env=(false,eval e X.env) :: Wa es X.env:=by rfl) (hpl:(Q8 pos (Wa es X.env)).any (·.1)=false:=by rfl):PE X (.Call (.Name x p) (e :: es) [] pos) (tCB r t):=by
 intro pins s σ H Q I h
 refine QR (z5S I hg hm hv ?_ hn hdb)
 exact PyProof.Rows.callWith_builtin1 (thn (ha pos pins s σ H _ I h) fun us s1 ⟨vs,H1,I1,r1,q1⟩=>hc pins s1 σ H1 vs us Q I1 r1 q1) he hpl
theorem z5G (hc:CallR X (.type T) r) (hg:Gl X x) (hm:X.mg x=none) (hv:Q7 x=some (.type T)) (ha:PA X (e :: es) t) (hn:x≠"__name__":=by decide) (hdb:(x == ("__debug__" : Str))=false:=by decide)
  (he:Wa (e :: es) X.env=(false,eval e X.env) :: Wa es X.env:=by rfl) (hpl:(Q8 pos (Wa es X.env)).any (·.1)=false:=by rfl):PE X (.Call (.Name x p) (e :: es) [] pos) (tCB r t):=by
 intro pins s σ H Q I h
 refine QR (z5S I hg hm hv ?_ hn hdb)
 exact PyProof.Rows.callWith_type1 (thn (ha pos pins s σ H _ I h) fun us s1 ⟨vs,H1,I1,r1,q1⟩=>hc pins s1 σ H1 vs us Q I1 r1 q1) he hpl
end
end L2
namespace HT
open PySem PyProof.Rows
section
open PySem.SeqAt
open PySem.AutoSeq1 (wpAny_loadPart')
open PySem.MeetsSeq PySem.MeetsSeq2 PySem.MeetsSeq3
end
section
variable {prog:We} {w:Wk} {A:Wm} {E:Value→W1→Prop} {s:W1}
theorem cat_tup (ht:IsTup s.heap t vs.toArray) (hb:IsTup s.heap b ws.toArray) (hv:vs≠[])
  (h1:ws=[]→Q (.ref t) s) (h2:ws≠[]→Q (.ref s.heap.objs.size) { s with heap:=s.heap.push { cls:=.type "tuple",data:=.seq (vs ++ ws).toArray } })
  (hsz:vs.length + ws.length≤W7):W6 (model prog w) A (Q5 .Add (.ref t) (.ref b)) Q E s:=by
 obtain ⟨⟨cls,dd,data,sl⟩,ho,hc,n,hd⟩:=id ht
 obtain ⟨⟨cls2,dd2,data2,sl2⟩,ho2,hc2,n2,hd2⟩:=id hb
 simp only at hc hd hc2 hd2
 subst hc hd hc2 hd2
 have e:vs.toArray ++ ws.toArray=(vs ++ ws).toArray:=by simp
 by_cases hw:ws=[]
 ·exact concat_meets ⟨_,ho,rfl⟩ ⟨_,ho2,rfl⟩ noFill_tuple_add seq_tuple_add PySem.F.slot_tuple_add PySem.F.entry_tuple_add (PySem.F.args_tuple_add_2 _ _)
   (tuple_addW1 t b vs.toArray ws.toArray n n2 dd dd2 sl sl2 (by simpa using hv) (by simp [hw])) ⟨ho,ho2,h1 hw⟩
 ·refine concat_meets ⟨_,ho,rfl⟩ ⟨_,ho2,rfl⟩ noFill_tuple_add seq_tuple_add PySem.F.slot_tuple_add PySem.F.entry_tuple_add (PySem.F.args_tuple_add_2 _ _)
   (tuple_addW2 t b vs.toArray ws.toArray n n2 dd dd2 sl sl2 (by simpa using hv) (by simpa using hw) (by rw [Wn,Wn]; exact hsz)) ⟨ho,ho2,?_⟩
  rw [e]
  exact h2 hw
def sIx (n d:Nat):Option Int→Nat
 | none=>d
 | some v=>if v < 0 then (v + (n:Int)).toNat else min v.toNat n
theorem sIx_le (n d:Nat) (hd:d≤n) (o:Option Int):sIx n d o≤n:=by
 cases o with
 | none=>exact hd
 | some v =>
  show (if v < 0 then (v + (n:Int)).toNat else min v.toNat n)≤n
  by_cases hv:v < 0
  ·rw [if_pos hv]; omega
  ·rw [if_neg hv]; exact Nat.min_le_right _ _
theorem z9k (v:Int) (n d:Nat):(if v < 0 then max (v + (n:Int)) 0 else min v (n:Int))=((sIx n d (some v):Nat):Int):=by
 show (if v < 0 then max (v + (n:Int)) 0 else min v (n:Int))=(((if v < 0 then (v + (n:Int)).toNat else min v.toNat n):Nat):Int)
 by_cases hv:v < 0
 ·simp only [if_pos hv]; omega
 ·simp only [if_neg hv]; omega
theorem z7N (lo hi:Option Int) (n:Nat):Builtin.Slice.sliceAdjust lo hi 1 (n:Int)=(((sIx n 0 lo:Nat):Int),((sIx n n hi:Nat):Int)):=by
 have h1:¬ ((1:Int) < 0):=by omega
 unfold Builtin.Slice.sliceAdjust
 simp only [h1,if_false]
 refine Prod.ext ?_ ?_
 ·cases lo with
  | none=>rfl
  | some v=>exact z9k v n 0
 ·cases hi with
  | none=>rfl
  | some v=>exact z9k v n n
theorem z7u (i j:Nat):QF (i:Int) (j:Int) 1=j - i:=by
 unfold QF
 have h1:(1:Int) > 0:=by omega
 simp only [h1,if_true,Int.ediv_one]
 split <;> omega
theorem z4q (p:IsPart v o) (h:Q o s):W6 (model prog w) A (Builtin.Slice.slicePartIndex v) Q E s:=by
 cases p with
 | none=>exact slicePart_none h
 | int i t=>exact slicePart_int h
theorem sliceApplied_gen {sl:Addr} {vl vu:Value} {lo hi:Option Int} {n:Nat} {Q:Int×Int×Nat→W1→Prop} (hs:s.heap.IsSliceOf sl vl vu .none) (pl:IsPart vl lo) (pu:IsPart vu hi)
  (h:Q (((sIx n 0 lo:Nat):Int),1,sIx n n hi - sIx n 0 lo) s):W6 (model prog w) A (Builtin.Slice.sliceApplied (.ref sl) (pure (n:Int))) Q E s:=by
 obtain ⟨os,hos,hcs,hds⟩:=id hs
 unfold Builtin.Slice.sliceApplied Builtin.Slice.sliceFields
 refine W0 (W0 (wpAny_field hos hds (x:=vl) rfl (W0 (wpAny_field hos hds (x:=vu) rfl (W0 (wpAny_field hos hds (x:=.none) rfl (W4 ?_)))))))
 refine W0 (slicePart_none ?_)
 show W6 _ _ (if ((1:Int) == 0)=true then _ else _) _ _ s
 rw [if_neg (by decide)]
 refine W0 (z4q pl (W0 (z4q pu (W0 (W4 ?_)))))
 show W6 _ _ (match Builtin.Slice.sliceAdjust lo hi 1 (n:Int) with | (lo,hi)=>pure (lo,(1:Int),QF lo hi 1)) _ _ s
 rw [z7N lo hi n]
 show W6 _ _ (pure (((sIx n 0 lo:Nat):Int),(1:Int),QF ((sIx n 0 lo:Nat):Int) ((sIx n n hi:Nat):Int) 1)) _ _ s
 rw [z7u]
 exact W4 h
theorem z9M (xs:Array Value) (i k:Nat):((Wr k).filterMap fun (m:Nat)=>xs[((i:Int) + (m:Int) * 1).toNat]?).toArray=((xs.toList.drop i).take k).toArray:=by
 have e:(fun (m:Nat)=>xs[((i:Int) + (m:Int) * 1).toNat]?)=fun m=>xs[i + m]?:=by
  funext m
  have:((i:Int) + (m:Int) * 1).toNat=i + m:=by omega
  rw [this]
 rw [e]
 have:=pick_run xs i k
 rw [List.filterMap_map] at this
 have e2:((fun x=>xs[x]?) ∘ fun x=>i + x)=fun m=>xs[i + m]?:=rfl
 rw [e2] at this
 rw [this]
theorem getItem_tuple_cut {t sl:Addr} {items:Array Value} {vl vu:Value} {lo hi:Option Int} {Q:Value→W1→Prop} (ht:IsTup s.heap t items) (hs:s.heap.IsSliceOf sl vl vu .none) (pl:IsPart vl lo) (pu:IsPart vu hi)
  (hw:¬ (sIx items.size 0 lo=0∧sIx items.size items.size hi=items.size))
  (h:Q (.ref s.heap.objs.size) { s with heap:=s.heap.push { cls:=.type "tuple",data:=.seq ((items.toList.drop (sIx items.size 0 lo)).take (sIx items.size items.size hi - sIx items.size 0 lo)).toArray } })
  (hsz:items.size≤W7):W6 (model prog w) A (getItem (.ref t) (.ref sl)) Q E s:=by
 have htake:sizeOk (.seq ((items.toList.drop (sIx items.size 0 lo)).take (sIx items.size items.size hi - sIx items.size 0 lo)).toArray):=by
  show ((items.toList.drop (sIx items.size 0 lo)).take (sIx items.size items.size hi - sIx items.size 0 lo)).toArray.size≤W7
  rw [Wn,Jm,List.length_drop,Q4]
  omega
 have hj:sIx items.size items.size hi≤items.size:=sIx_le _ _ (Wb _) hi
 obtain ⟨os,hos,hcs,hds⟩:=id hs
 have hTs:s.TypeIs (.ref sl) "slice":=⟨os,hos,hcs⟩
 unfold getItem
 try with_reducible refine WP ?_
 first | refine W0 (W4 ?_) | skip
 refine W0 (wpAny_sequenceKey ht.typeIs (by decide) ?_)
 refine W0 (Qb (name:=Str.ofString "__getitem__") ht.typeIs Qn
  (Qi Qn ht.typeIs entry_tuple_getitem ?_ (args_tuple_getitem _ _)))
 show W6 _ _ (Builtin.Tuple.tupleItemsOf (.ref t) >>= _) _ _ s
 refine W0 (tupleItemsOf_ ht ?_)
 refine W0 (QJ hTs ?_)
 rw [if_pos (by decide)]
 refine W0 (sliceApplied_gen hs pl pu ?_)
 have hno:¬ ((((sIx items.size 0 lo:Nat):Int) == 0 && (1:Int) == 1 && (sIx items.size items.size hi - sIx items.size 0 lo) == items.size)=true):=by
  intro q
  rw [Ws,Ws] at q
  have q1:((sIx items.size 0 lo:Nat):Int)=0:=eq_of_beq q.1.1
  have q2:sIx items.size items.size hi - sIx items.size 0 lo=items.size:=eq_of_beq q.2
  exact hw ⟨by omega,by omega⟩
 show W6 _ _ (if (((sIx items.size 0 lo:Nat):Int) == 0 && (1:Int) == 1 && (sIx items.size items.size hi - sIx items.size 0 lo) == items.size)=true then _ else _) _ _ s
 rw [if_neg hno,z9M]
 first
  | exact W0 (m:=QK _) (WO (W4 ⟨_,rfl,W4 h⟩) htake)
  | exact W0 (m:=QK _) (WO (W0 (W4 (W4 ⟨_,rfl,W4 h⟩))) htake)
  | exact W0 (W0 (m:=QK _) (WO (W4 (W4 ⟨_,rfl,W4 h⟩)) htake))
  | exact W0 (W0 (m:=QK _) (WO (W4 ⟨_,rfl,W4 h⟩) htake))
end
end HT
namespace L2
open PySem PySem.Spec PyProof.Rows
abbrev TO:=St→Hp→(Option Int→Hp→Prop)→Prop
def PO (X:Cx) (e:Option Expr) (t:TO):Prop :=
 ∀ (pins:List (Addr×Obj)) (s:W1) (σ:St) (H:Hp) (Q:Option Int→Hp→Prop),Inv X pins σ H s→t σ H Q →
  W6 (model X.prog X.w) X.A (evalPart e X.env) (fun u s'=>∃ o H',Inv X pins σ H' s'∧IsPart u o∧Q o H') X.xe s
def zaS:TO:=fun _ H Q=>Q none H
def tPart (t:TE):TO:=fun σ H Q=>t σ H fun x H1=>∃ i,x = .int i∧Q (some i) H1
section
variable {X:Cx} {e:Expr} {te:TE} {lo hi:Option Expr} {tl th:TO} {pos p2:Pos}
theorem zbm:PO X none zaS:=by
 intro pins s σ H Q I h
 rw [evalPart_none]
 exact W4 ⟨none,H,I,.none,h⟩
theorem zbl (h:PE X e te):PO X (some e) (tPart te):=by
 intro pins s σ H Q I hw
 rw [evalPart_some]
 refine thn (h pins s σ H _ I hw) fun u s1 ⟨x,H1,I1,r1,q1⟩=>?_
 obtain ⟨i,rfl,q⟩:=q1
 obtain ⟨t,rfl⟩:=r1
 exact ⟨some i,H1,I1,.int i t,q⟩
def SlR (X:Cx) (r:V→Option Int→Option Int→Hp→VK→Prop):Prop :=
 ∀ (pins:List (Addr×Obj)) (s:W1) (σ:St) (H:Hp) (x:V) (v vl vu:Value) (lo hi:Option Int) (sl:Addr) (Q:VK),Inv X pins σ H s→RelV x v→s.heap.IsSliceOf sl vl vu .none→IsPart vl lo→IsPart vu hi→r x lo hi H Q →
  ∃ T id,typeLookup (.type T) "__getitem__" = pure (some (.builtin id))∧s.TypeIs v T∧W6 (model X.prog X.w) X.A (getItem v (.ref sl)) (EP X pins σ Q) X.xe s
theorem SlR.or (h:SlR X r) (h':SlR X r'):SlR X (fun x lo hi H Q=>r x lo hi H Q∨r' x lo hi H Q):=by
 intro pins s σ H x v vl vu lo hi sl Q I rx hs pl pu q
 rcases q with q | q
 ·exact h pins s σ H x v vl vu lo hi sl Q I rx hs pl pu q
 ·exact h' pins s σ H x v vl vu lo hi sl Q I rx hs pl pu q
def tSl (r:V→Option Int→Option Int→Hp→VK→Prop) (te:TE) (tl th:TO):TE:=fun σ H Q=>te σ H fun x H1=>tl σ H1 fun l H2=>th σ H2 fun u H3=>r x l u H3 Q
theorem z73 (hr:SlR X r) (he:PE X e te) (hl:PO X lo tl) (hu:PO X hi th):PE X (.Subscript e (.Slice lo hi none p2) pos) (tSl r te tl th):=by
 intro pins s σ H Q I h
 refine Subscript_ (thn (he pins s σ H _ I h) fun v s1 ⟨x,H1,I1,r1,q1⟩=>?_)
 refine wpAny_Slice (thn (hl pins s1 σ H1 _ I1 q1) fun vl s2 ⟨l,H2,I2,pl,q2⟩=>thn (hu pins s2 σ H2 _ I2 q2) fun vu s3 ⟨u,H3,I3,pu,q3⟩=>?_)
 rw [evalPart_none]
 refine W4 ?_
 have I4:Inv X pins σ H3 { s3 with heap:=s3.heap.push { cls:=.type "slice",data:=.fields #[vl,vu,.none] } }:=I3.kept (t':=s3.toks) fun b ob q=>W3 _ q
 obtain ⟨T,id,hT,ht,hg⟩:=hr pins { s3 with heap:=s3.heap.push { cls:=.type "slice",data:=.fields #[vl,vu,.none] } } σ H3 x v vl vu l u s3.heap.objs.size Q I4 r1 (Heap.IsSliceOf.new ..) pl pu q3
 show W6 (model X.prog X.w) X.A (subscriptTail e (.Slice lo hi none p2) v (.ref s3.heap.objs.size)) (EP X pins σ Q) X.xe { s3 with heap:=s3.heap.push { cls:=.type "slice",data:=.fields #[vl,vu,.none] } }
 exact tail_any (ops:=[.ref s3.heap.objs.size,v]) ht hT hg (by with_unfolding_all rfl)
def cutV (xs:List V) (lo hi:Option Int):List V:=(xs.drop (HT.sIx xs.length 0 lo)).take (HT.sIx xs.length xs.length hi - HT.sIx xs.length 0 lo)
theorem z44 (xs:List V) (lo hi:Option Int):(cutV xs lo hi).length≤xs.length:=by
 unfold cutV
 rw [Jm,List.length_drop]
 omega
def rSlT (K:W2):V→Option Int→Option Int→Hp→VK→Prop:=fun x lo hi H Q=>∃ a xs,x = .ref a∧SqT K H a xs ∧
 ¬ (HT.sIx xs.length 0 lo=0∧HT.sIx xs.length xs.length hi=xs.length)∧∀ p,H p=none→Q (.ref p) (upd H p (.tup (cutV xs lo hi)))
theorem zcf:SlR X (rSlT X.K):=by
 intro pins s σ H x v vl vu lo hi sl Q I rx hs pl pu h
 obtain ⟨a,xs,rfl,hx,hw,q⟩:=h
 cases rx
 obtain ⟨its,r,ht,hz⟩:=I.tuple hx
 have hlen:its.toArray.size=xs.length:=by rw [Wn]; exact r.length.symm
 refine ⟨"tuple",_,PyProof.Rows.slot_tuple_getitem.lookup,ht.typeIs,?_⟩
 refine HT.getItem_tuple_cut ht hs pl pu (by rw [hlen]; exact hw) ?_ (by rw [hlen]; exact hz)
 rw [hlen]
 refine ⟨.ref s.heap.objs.size,_,I.laid (t':=s.toks) (o:=.tup (cutV xs lo hi)) (fun b ob q=>W3 _ q) (Wb _) ?_,rfl,q _ (I.hok.fresh (Wb _))⟩
 exact ⟨WQ (z44 xs lo hi) hz,_,(r.drop (HT.sIx xs.length 0 lo)).take (HT.sIx xs.length xs.length hi - HT.sIx xs.length 0 lo),IsTupN.new _ _⟩
def zcy (K:W2):R2:=fun x y H Q=>∃ a b xs ys,x = .ref a∧y = .ref b∧SqT K H a xs∧SqT K H b ys∧xs≠[]∧xs.length + ys.length≤W7 ∧
 (ys=[]→Q (.ref a) H)∧(ys≠[]→∀ p,H p=none→Q (.ref p) (upd H p (.tup (xs ++ ys))))
theorem Vals.nil_iff (r:Vals xs us):us=[] ↔ xs=[]:=by
 cases r with
 | nil=>simp
 | cons _ _=>simp
theorem op_catT:OpR X (Q5 .Add) (zcy X.K):=by
 intro pins s σ H x y v u Q I rx ry h
 obtain ⟨a,b,xs,ys,rfl,rfl,ha,hb,hx,hz,q1,q2⟩:=h
 cases rx
 cases ry
 obtain ⟨its,r1,p1,_⟩:=I.tuple ha
 obtain ⟨its2,r2,p2,_⟩:=I.tuple hb
 refine HT.cat_tup p1 p2 (fun z=>hx (r1.nil_iff.mp z)) (fun z=>⟨.ref a,H,I,rfl,q1 (r2.nil_iff.mp z)⟩) (fun z=>?_) (by rw [← r1.length,← r2.length]; exact hz)
 refine ⟨.ref s.heap.objs.size,_,I.laid (t':=s.toks) (o:=.tup (xs ++ ys)) (fun b ob q=>W3 _ q) (Wb _) ?_,rfl,q2 (fun w=>z (r2.nil_iff.mpr w)) _ (I.hok.fresh (Wb _))⟩
 exact ⟨by rw [WS]; exact hz,_,r1.append r2,IsTupN.new _ _⟩
end
def ixN (n:Nat) (i:Int):Option Nat:=if 0≤i then (if i < n then some i.toNat else none) else if -(n:Int)≤i then some (i + n).toNat else none
def atI {α:Type} (xs:List α) (i:Int):Option α:=(ixN xs.length i).bind fun j=>xs[j]?
theorem z8W (h:ixN n i=some j):seqIndex? i n=some j∧j < n∧-(n:Int)≤i∧i < n:=by
 unfold ixN at h
 by_cases h0:0≤i
 ·rw [if_pos h0] at h
  by_cases h1:i < n
  ·rw [if_pos h1] at h
   have e:i.toNat=j:=Ww h
   exact ⟨by rw [seqIndex_of h0 h1,e],by omega,by omega,h1⟩
  ·rw [if_neg h1] at h; cases h
 ·rw [if_neg h0] at h
  by_cases h1 : -(n:Int)≤i
  ·rw [if_pos h1] at h
   have e:(i + n).toNat=j:=Ww h
   exact ⟨by rw [seqIndex_neg (by omega) h1,e],by omega,h1,by omega⟩
  ·rw [if_neg h1] at h; cases h
theorem z6L (h:atI xs i=some v):∃ j,seqIndex? i xs.length=some j∧xs[j]? = some v∧j < xs.length∧-(xs.length:Int)≤i∧i < xs.length:=by
 unfold atI at h
 cases e:ixN xs.length i with
 | none=>rw [e] at h; cases h
 | some j =>
  rw [e] at h
  obtain ⟨h1,h2,h3,h4⟩:=z8W e
  exact ⟨j,h1,h,h2,h3,h4⟩
def z6N (b:Expr):Prop:=∀ o i,subscripted b false o i=operate [o,i] (getItem o i)
def IxR (X:Cx) (r:R2):Prop :=
 ∀ (value slice:Expr) (pins:List (Addr×Obj)) (s:W1) (σ:St) (H:Hp) (x y:V) (v u:Value) (Q:VK),Inv X pins σ H s→RelV x v→RelV y u→r x y H Q →
  subscripted slice false v u=operate [v,u] (getItem v u)→W6 (model X.prog X.w) X.A (subscriptTail value slice v u) (EP X pins σ Q) X.xe s
def MtR (X:Cx) (id:String) (r:V→List V→Hp→VK→Prop):Prop :=
 ∀ (pins:List (Addr×Obj)) (s:W1) (σ:St) (H:Hp) (x:V) (xs:List V) (v:Value) (us:List Value) (Q:VK),Inv X pins σ H s→RelV x v→Vals xs us→r x xs H Q →
  W6 (model X.prog X.w) X.A (call (.builtin id) (v :: us)) (EP X pins σ Q) X.xe s
section
variable {X:Cx} {a b:Expr} {ta tb:TE} {pos:Pos}
theorem IxR.or (h:IxR X r) (h':IxR X r'):IxR X (fun x y H Q=>r x y H Q∨r' x y H Q):=by
 intro value slice pins s σ H x y v u Q I rx ry q hs
 rcases q with q | q
 ·exact h value slice pins s σ H x y v u Q I rx ry q hs
 ·exact h' value slice pins s σ H x y v u Q I rx ry q hs
theorem zcQ (hr:IxR X r) (ha:PE X a ta) (hb:PE X b tb) (hs:z6N b):PE X (.Subscript a b pos) (tOp r ta tb):=by
 intro pins s σ H Q I h
 exact Subscript_ (binT ha hb I h fun v u s2 x y H2 I2 rx ry q=>hr a b pins s2 σ H2 x y v u Q I2 rx ry q (hs _ _))
def rIxL (K:W2):R2:=fun x y H Q=>∃ p xs i v,x = .ref p∧y = .int i∧SqL K H p xs∧atI xs i=some v∧Q v H
def rIxT (K:W2):R2:=fun x y H Q=>∃ p xs i v,x = .ref p∧y = .int i∧SqT K H p xs∧atI xs i=some v∧Q v H
def rIxS:R2:=fun x y H Q=>∃ z i c,x = .str z∧y = .int i∧z.length≤W7∧atI z.cps.toList i=some c∧Q (.str ⟨#[c]⟩) H
theorem ix_list:IxR X (rIxL X.K):=by
 intro value slice pins s σ H x y v u Q I rx ry h hs
 obtain ⟨p,xs,i,z,rfl,rfl,hq,he,q⟩:=h
 cases rx
 obtain ⟨t,rfl⟩:=ry
 obtain ⟨its,r,pl,hz⟩:=I.list hq
 obtain ⟨j,h1,h2,h3,h4,h5⟩:=z6L he
 obtain ⟨w,ew,rw'⟩:=r.get h2
 have hl:=r.length
 have hn:=z4x
 have fin:EP X pins σ Q w s:=⟨z,H,I,rw',q⟩
 by_cases h0:0≤i
 ·have hj:i.toNat=j:=by
   rw [seqIndex_of h0 h5] at h1
   exact Ww h1
  exact item_listR pl.isList h0 (by omega) (by rw [hj]; simpa using ew) fin hs
 ·have hj:(i + (its.toArray.size:Int)).toNat=j:=by
   rw [seqIndex_neg (by omega) h4] at h1
   rw [Wn,← hl]
   exact Ww h1
  exact subscriptTail_builtinR (x:=w) pl.isList.typeIs slot_list_getitem.lookup
   (wpAny_getItem_list_neg (Q:=fun r s'=>r=w∧EP X pins σ Q r s') pl.isList (by omega) (by rw [Wn] <;> omega) (by omega) (by rw [hj]; simpa using ew) ⟨rfl,fin⟩) hs
theorem ix_tup:IxR X (rIxT X.K):=by
 intro value slice pins s σ H x y v u Q I rx ry h hs
 obtain ⟨p,xs,i,z,rfl,rfl,hq,he,q⟩:=h
 cases rx
 obtain ⟨t,rfl⟩:=ry
 obtain ⟨its,r,pl,hz⟩:=I.tuple hq
 obtain ⟨j,h1,h2,h3,h4,h5⟩:=z6L he
 obtain ⟨w,ew,rw'⟩:=r.get h2
 have hl:=r.length
 have hn:=z4x
 have fin:EP X pins σ Q w s:=⟨z,H,I,rw',q⟩
 exact subscriptTail_builtinR (x:=w) pl.typeIs slot_tuple_getitem.lookup
  (getItem_tuple (j:=j) (Q:=fun r s'=>r=w∧EP X pins σ Q r s') pl (by omega) (by omega) (by rw [Wn,← hl]; exact h1) (by simpa using ew) ⟨rfl,fin⟩) hs
theorem zdn:IxR X rIxS:=by
 intro value slice pins s σ H x y v u Q I rx ry h hs
 obtain ⟨z,i,c,rfl,rfl,hz,he,q⟩:=h
 obtain ⟨t,rfl⟩:=rx
 obtain ⟨t',rfl⟩:=ry
 obtain ⟨j,h1,h2,h3,h4,h5⟩:=z6L he
 have hl:z.cps.toList.length=z.length:=by simp [Str.length]
 rw [hl] at h1 h4 h5
 have hn:=z4x
 exact tail_any (typeIs_str s z t) slot_str_getitem.lookup (getItem_str (c:=c) (by
  have e1:decide (i < -(2 ^ 63:Int))=false:=decide_eq_false (by omega)
  have e2:decide (i ≥ 2 ^ 63)=false:=decide_eq_false (by omega)
  rw [e1,e2,Bool.or_false]) (by rw [h1]; simpa using h2) ⟨.str ⟨#[c]⟩,H,I.tok _,⟨_,rfl⟩,q⟩) hs
def rIx (K:W2):R2:=fun x y H Q=>rIxL K x y H Q∨rIxT K x y H Q∨rIxS x y H Q
theorem z0M:IxR X (rIx X.K):=ix_list.or (ix_tup.or zdn)
theorem z7A (its:List Value) (n j:Nat) (u:Value):Obj.mapSeq (·.setIfInBounds j u) { cls:=.type "list",data:=.seq its.toArray n } = { cls:=.type "list",data:=.seq (its.set j u).toArray n }:=by
 simp [Obj.mapSeq]
theorem Inv.lst (I:Inv X pins σ H s) (h:H p=some (.lst xs)) :
  ∃ (its:List Value) (n:Nat),Vals xs its∧s.heap.get? p=some { cls:=.type "list",data:=.seq its.toArray n }∧xs.length≤W7:=by
 obtain ⟨z,its,n,r,e⟩:=I.hok p _ h
 exact ⟨its,n,r,e,z⟩
theorem Inv.lstUpd {pins:List (Addr×Obj)} {σ:St} {H:Hp} {s:W1} {p:Addr} {xs ys:List V} {its its':List Value} {n n':Nat} {f:Obj→Obj} (I:Inv X pins σ H s) (h:H p=some (.lst xs))
  (ho:s.heap.get? p=some { cls:=.type "list",data:=.seq its.toArray n }) (hf:f { cls:=.type "list",data:=.seq its.toArray n } = { cls:=.type "list",data:=.seq its'.toArray n' }) (r:Vals ys its') (hz:ys.length≤W7) (t:Nat) :
  Inv X pins σ (upd H p (.lst ys)) { s with heap:=s.heap.update p f,toks:=t }:=by
 have e:(s.heap.update p f).get? p=some { cls:=.type "list",data:=.seq its'.toArray n' }:=by
  rw [WG f ho (by rw [hf] <;> rfl),hf]
 refine I.write (x:=p) (e:=p) (by rw [h]; trivial) (.inl rfl) (fun b u hb q=>(WM _ _ (Ne.symm hb)).trans q) ⟨_,e⟩ ?_
 exact ⟨hz,its',n',r,e⟩
def rSetL:V→V→V→Hp→(Hp→Prop)→Prop:=fun o i v H Q=>∃ p xs k j,o = .ref p∧i = .int k∧H p=some (.lst xs)∧ixN xs.length k=some j∧Q (upd H p (.lst (xs.set j v)))
theorem z9B:PSet X rSetL:=by
 intro pins s σ H o i v ov iv u Q I ro ri rv h
 obtain ⟨p,xs,k,j,rfl,rfl,hp,hj,q⟩:=h
 cases ro
 obtain ⟨t,rfl⟩:=ri
 obtain ⟨its,n,r,ho,hz⟩:=I.lst hp
 obtain ⟨h1,h2,h3,h4⟩:=z8W hj
 have hl:=r.length
 have hn:=z4x
 have I':Inv X pins σ (upd H p (.lst (xs.set j v))) { s with heap:=s.heap.update p (Obj.mapSeq (·.setIfInBounds j u)) } :=
  I.lstUpd hp ho (z7A its n j u) (r.set rv j) (by rw [QS]; exact hz) s.toks
 by_cases h0:0≤k
 ·have hk:k.toNat=j:=by
   rw [seqIndex_of h0 h4] at h1
   exact Ww h1
  exact PySem.W.ki_setAt ho h0 (by omega) (by rw [Wn,← hl]; exact h4) (by rw [hk]; exact ⟨_,I',q⟩)
 ·have hk:(k + (its.toArray.size:Int)).toNat=j:=by
   rw [seqIndex_neg (by omega) h3] at h1
   rw [Wn,← hl]
   exact Ww h1
  exact PySem.W.ki_setBack ho (by omega) (by rw [Wn,← hl]; exact h3) (by omega) (by rw [hk]; exact ⟨_,I',q⟩)
theorem z5s (lo hi:Option Int) (n:Nat):(J3 lo hi none n).1=((HT.sIx n 0 lo:Nat):Int)∧(J3 lo hi none n).2.1=((HT.sIx n n hi:Nat):Int)∧(J3 lo hi none n).2.2=1:=by
 refine ⟨?_,?_,rfl⟩
 ·cases lo with
  | none=>simp [J3,HT.sIx]
  | some i =>
   simp only [J3,HT.sIx,Option.getD_none,show (1:Int) > 0 by decide,if_true]
   by_cases h:i < 0
   ·simp only [h,if_true] <;> omega
   ·simp only [h,if_false] <;> omega
 ·cases hi with
  | none=>simp [J3,HT.sIx]
  | some i =>
   simp only [J3,HT.sIx,Option.getD_none,show (1:Int) > 0 by decide,if_true]
   by_cases h:i < 0
   ·simp only [h,if_true] <;> omega
   ·simp only [h,if_false] <;> omega
theorem z4M (its:List Value) (lo hi:Option Int):slicePick its.toArray lo hi none=((its.drop (HT.sIx its.length 0 lo)).take (HT.sIx its.length its.length hi - HT.sIx its.length 0 lo)).toArray:=by
 obtain ⟨h1,h2,h3⟩:=z5s lo hi its.toArray.size
 unfold slicePick
 rw [h1,h2,h3]
 simp only [sliceRange_one,pick_run,Wn] <;> rfl
def rSlL (K:W2):V→Option Int→Option Int→Hp→VK→Prop:=fun x lo hi H Q=>∃ a xs,x = .ref a∧SqL K H a xs∧∀ p,H p=none→Q (.ref p) (upd H p (.lst (cutV xs lo hi)))
theorem zb0:SlR X (rSlL X.K):=by
 intro pins s σ H x v vl vu lo hi sl Q I rx hs pl pu h
 obtain ⟨a,xs,rfl,hx,q⟩:=h
 cases rx
 obtain ⟨its,r,ht,hz⟩:=I.list hx
 have hlen:=r.length
 refine ⟨"list",_,slot_list_getitem.lookup,ht.isList.typeIs,?_⟩
 refine wpAny_getItem_list_slice ht.isList hs pl pu .none (by simp) ?_ (by rw [Wn] <;> omega)
 rw [z4M,← hlen]
 refine ⟨.ref s.heap.objs.size,_,I.laid (t':=s.toks) (o:=.lst (cutV xs lo hi)) (fun b ob q=>W3 _ q) (Wb _) ?_,rfl,q _ (I.hok.fresh (Wb _))⟩
 exact ⟨WQ (z44 xs lo hi) hz,_,0,(r.drop (HT.sIx xs.length 0 lo)).take (HT.sIx xs.length xs.length hi - HT.sIx xs.length 0 lo),Wh _ rfl⟩
def z5c:V→Bool
 | .non=>true
 | .bl _=>true
 | .int _=>true
 | .str _=>true
 | _=>false
def eqV:V→V→Bool
 | .non,.non=>true
 | .bl a,.bl b=>a == b
 | .bl a,.int b=>(if a then 1 else 0) == b
 | .int a,.bl b=>a == (if b then 1 else 0)
 | .int a,.int b=>a == b
 | .str a,.str b=>a == b
 | _,_=>false
theorem zdA (ry:RelV y u) (rx:RelV x v) (fy:z5c y=true) (fx:z5c x=true):SeqAt.EqAt A s u v (eqV y x):=by
 cases y with
 | non =>
  cases ry
  cases x with
  | non=>cases rx; exact SeqAt.EqAt.same _
  | bl b=>cases rx; exact SeqAt.EqAt.none_bool b
  | int b=>obtain ⟨t,rfl⟩:=rx; exact SeqAt.EqAt.none_int b t
  | str b=>obtain ⟨t,rfl⟩:=rx; exact SeqAt.EqAt.none_str b t
  | _=>exact absurd (show false=true from fx) Q0
 | bl a =>
  cases ry
  cases x with
  | non=>cases rx; exact SeqAt.EqAt.bool_none a
  | bl b=>cases rx; exact SeqAt.EqAt.bool_bool a b
  | int b=>obtain ⟨t,rfl⟩:=rx; exact SeqAt.EqAt.bool_int a b t
  | str b=>obtain ⟨t,rfl⟩:=rx; exact SeqAt.EqAt.bool_str a b t
  | _=>exact absurd (show false=true from fx) Q0
 | int a =>
  obtain ⟨t',rfl⟩:=ry
  cases x with
  | non=>cases rx; exact SeqAt.EqAt.int_none a t'
  | bl b=>cases rx; exact SeqAt.EqAt.int_bool a t' b
  | int b=>obtain ⟨t,rfl⟩:=rx; exact SeqAt.EqAt.int_int a t' b t
  | str b=>obtain ⟨t,rfl⟩:=rx; exact SeqAt.EqAt.int_str a t' b t
  | _=>exact absurd (show false=true from fx) Q0
 | str a =>
  obtain ⟨t',rfl⟩:=ry
  cases x with
  | non=>cases rx; exact SeqAt.EqAt.str_none a t'
  | bl b=>cases rx; exact SeqAt.EqAt.str_bool a t' b
  | int b=>obtain ⟨t,rfl⟩:=rx; exact SeqAt.EqAt.str_int a t' b t
  | str b=>obtain ⟨t,rfl⟩:=rx; exact SeqAt.EqAt.str_str a t' b t
  | _=>exact absurd (show false=true from fx) Q0
 | _=>exact absurd (show false=true from fy) Q0
def eqU (x:V) (u:Value):Bool:=match u with
 | .none=>eqV .non x
 | .bool b=>eqV (.bl b) x
 | .int i _=>eqV (.int i) x
 | .str z _=>eqV (.str z) x
 | _=>false
theorem zaJ (r:RelV y u) (f:z5c y=true):eqU x u=eqV y x:=by
 cases y with
 | non=>cases r; rfl
 | bl b=>cases r; rfl
 | int i=>obtain ⟨t,rfl⟩:=r; rfl
 | str z=>obtain ⟨t,rfl⟩:=r; rfl
 | _=>exact absurd (show false=true from f) Q0
theorem z6M:∀ {xs:List V} {us:List Value},Vals xs us→xs.all z5c=true→us.any (eqU x)=xs.any fun y=>eqV y x
 | _,_,.nil,_=>rfl
 | y :: xs,u :: us,.cons r t,f=>by
  rw [Jl,Ws] at f
  rw [QA,QA,zaJ r f.1,z6M t f.2]
theorem z51 (rx:RelV x v) (fx:z5c x=true):∀ {xs:List V} {us:List Value},Vals xs us→xs.all z5c=true→∀ u ∈ us,SeqAt.EqAt A s u v (eqU x u)
 | _,_,.nil,_=>fun u hu=>by cases hu
 | y :: xs,u :: us,.cons r t,f=>fun u' hu=>by
  rw [Jl,Ws] at f
  rcases Wf.mp hu with rfl | hu
  ·rw [zaJ r f.1]; exact zdA r rx f.1 fx
  ·exact z51 rx fx t f.2 u' hu
def inV (x:V) (xs:List V):Bool:=xs.any fun y=>eqV y x
def rIn (K:W2) (neg:Bool):R2:=fun x y H Q=>∃ p xs,y = .ref p∧(SqL K H p xs∨SqT K H p xs)∧z5c x=true∧xs.all z5c=true∧Q (.bl (if neg then !inV x xs else inV x xs)) H
theorem op_notIn_seq:OpR X (WE .NotIn) (rIn X.K true):=by
 intro pins s σ H x y v u Q I rx ry h
 obtain ⟨p,xs,rfl,hq,fx,fs,q⟩:=h
 cases ry
 rcases hq with hq | hq
 ·obtain ⟨its,r,pl,hz⟩:=I.list hq
  refine SeqAt.notIn_listAt (eqU x) pl.isList (fun w hw=>z51 rx fx r fs w (by simpa using hw)) ⟨.bl _,H,I,rfl,?_⟩
  rw [show its.toArray.any (eqU x)=its.any (eqU x) by simp,z6M r fs]
  exact q
 ·obtain ⟨its,r,pl,hz⟩:=I.tuple hq
  refine SeqAt.notIn_tupleAt (eqU x) pl (fun w hw=>z51 rx fx r fs w (by simpa using hw)) ⟨.bl _,H,I,rfl,?_⟩
  rw [show its.toArray.any (eqU x)=its.any (eqU x) by simp,z6M r fs]
  exact q
theorem call_len_seq:CallR X (.builtin "len") (fun xs H Q=>∃ p ys,xs=[.ref p]∧(SqL X.K H p ys∨SqT X.K H p ys)∧Q (.int ys.length) H):=by
 intro pins s σ H xs us Q I r h
 obtain ⟨p,ys,rfl,hq,q⟩:=h
 obtain ⟨u,rfl,rx⟩:=z33 r
 cases rx
 have hn:=z4x
 rcases hq with hq | hq
 ·obtain ⟨its,r',pl,hz⟩:=I.list hq
  have hlen:=r'.length
  exact Calls.call_len_list pl.isList (by simp only [Wn] <;> omega) ⟨.int ys.length,H,I.tok _,⟨s.toks + 1,by rw [Wn,hlen]⟩,q⟩
 ·obtain ⟨its,r',pl,hz⟩:=I.tuple hq
  have hlen:=r'.length
  exact len_tuple pl (by simp only [Wn] <;> omega) ⟨.int ys.length,H,I.tok _,⟨s.toks + 1,by rw [Wn,hlen]⟩,q⟩
theorem z6b:CallR X (.builtin "len") (fun xs H Q=>∃ z,xs=[.str z]∧z.length≤W7∧Q (.int z.length) H):=by
 intro pins s σ H xs us Q I r h
 obtain ⟨z,rfl,hz,q⟩:=h
 obtain ⟨u,rfl,t,rfl⟩:=z33 r
 have hn:=z4x
 exact len_str (by omega) ⟨.int z.length,H,I.tok _,⟨_,rfl⟩,q⟩
theorem CallR.or (h:CallR X f r) (h':CallR X f r'):CallR X f (fun xs H Q=>r xs H Q∨r' xs H Q):=by
 intro pins s σ H xs us Q I rs q
 rcases q with q | q
 ·exact h pins s σ H xs us Q I rs q
 ·exact h' pins s σ H xs us Q I rs q
theorem z5k:CallR X (.type "tuple") (fun xs H Q=>∃ p ys,xs=[.ref p]∧((SqL X.K H p ys∧∀ l,H l=none→Q (.ref l) (upd H l (.tup ys)))∨(SqT X.K H p ys∧Q (.ref p) H))):=by
 intro pins s σ H xs us Q I r h
 obtain ⟨p,ys,rfl,h⟩:=h
 obtain ⟨u,rfl,rx⟩:=z33 r
 cases rx
 rcases h with ⟨hq,q⟩ | ⟨hq,q⟩
 ·obtain ⟨its,r',pl,hz⟩:=I.list hq
  have hlen:=r'.length
  refine call_tuple_list pl.isList (fun h' kp=>?_) (by simp only [Wn] <;> omega)
  have I1:Inv X pins σ H { s with heap:=h' }:=I.kept (t':=s.toks) kp
  have I2:Inv X pins σ (upd H h'.objs.size (.tup ys)) { s with heap:=h'.push { cls:=.type "tuple",data:=.seq its.toArray } } :=
   I1.laid (t':=s.toks) (fun b o e=>W3 _ e) (Wb _) (show ObjOk X.prog X.w _ _ _ (.tup ys) from ⟨hz,its,r',IsTupN.new _ _⟩)
  exact ⟨.ref h'.objs.size,_,I2,rfl,q _ (I1.hok.fresh (Wb _))⟩
 ·obtain ⟨its,r',pl,hz⟩:=I.tuple hq
  exact call_tuple_same pl ⟨.ref p,H,I,rfl,q⟩
def tyV (K:W2) (T:String) (x:V) (H:Hp):Prop:=match x with
 | .str _=>T = "str"
 | .int _=>T = "int"
 | .ref p=>(T = "list"∧∃ xs,SqL K H p xs)∨(T = "tuple"∧∃ o,K.lookup p=some o∧o.cls = .type "tuple"∧o.dict=none) ∨
   (T = "dict"∧((∃ kvs,H p=some (.dK kvs))∨∃ kvs,H p=some (.dT kvs)))∨(T = "set"∧∃ S n,H p=some (.set S n))
 | _=>False
theorem zbZ (I:Inv X pins σ H s) (r:RelV x v) (ty:tyV X.K T x H) :
  s.TypeIs v T∧∀ a,v = .ref a→∃ ob,s.heap.get? a=some ob∧ob.dict=none:=by
 cases x with
 | str z =>
  obtain ⟨t,rfl⟩:=r
  cases (show T = "str" from ty)
  exact ⟨typeIs_str s z t,fun _ e=>nomatch e⟩
 | int i =>
  obtain ⟨t,rfl⟩:=r
  cases (show T = "int" from ty)
  exact ⟨Jg s i t,fun _ e=>nomatch e⟩
 | ref p =>
  cases r
  rcases ty with ⟨rfl,xs,hq⟩ | ⟨rfl,o,hk,hc,hd⟩ | ⟨rfl,hk⟩ | ⟨rfl,S,n,hk⟩
  ·obtain ⟨its,_,pl,_⟩:=I.list hq
   refine ⟨pl.isList.typeIs,fun a e=>?_⟩
   cases e
   obtain ⟨o,n,e,c,hd,_⟩:=pl
   exact ⟨o,e,hd⟩
  ·refine ⟨⟨o,I.kIn p o hk,hc⟩,fun a e=>?_⟩
   cases e
   exact ⟨o,I.kIn _ o hk,hd⟩
  ·have z:∃ o,s.heap.get? p=some o∧o.ExactDict:=by
    rcases hk with ⟨kvs,hk⟩ | ⟨kvs,hk⟩
    ·obtain ⟨_,_,_,_,o,_,_,e,ex,_⟩:=I.hok p _ hk
     exact ⟨o,e,ex⟩
    ·obtain ⟨_,_,_,_,o,_,_,e,ex,_⟩:=I.hok p _ hk
     exact ⟨o,e,ex⟩
   obtain ⟨o,e,ex⟩:=z
   refine ⟨⟨o,e,ex.1⟩,fun a e2=>?_⟩
   cases e2
   exact ⟨o,e,ex.2.1⟩
  ·obtain ⟨o,_,_,_,e,ex,_⟩:=I.hok p _ hk
   refine ⟨⟨o,e,ex.1⟩,fun a e2=>?_⟩
   cases e2
   exact ⟨o,e,ex.2.1⟩
 | _=>exact False.elim ty
def tBM (K:W2) (T:String) (r:V→List V→Hp→VK→Prop) (to:TE) (t:TA):TE:=fun σ H Q=>to σ H fun x H1=>tyV K T x H1∧t σ H1 fun xs H2=>r x xs H2 Q
variable {o e:Expr} {es:List Expr} {to:TE} {t:TA} {name:Str} {apos cpos:Pos} {T id:String} {r:V→List V→Hp→VK→Prop}
theorem zcS (pa:PlainAttrs T) (slot:Slot T name id) (hty:typeOf (.builtin id)=pure (.type "method_descriptor")) (hm:MtR X id r) (ho:PE X o to) (ha:PA X (e :: es) t)
  (hbase:attributeBase o name X.env (eval o X.env)=eval o X.env:=by rfl)
  (hfew:((Q8 cpos (Wa (e :: es) X.env)).all (fun x=>!x.1) && (backToKw cpos (Jk [] X.env)).all (fun x=>x.1.isSome)
   && decide ((e :: es).length + ([]:List Keyword).length + (if ([]:List Keyword).isEmpty then 0 else 1) < 30))=true:=by rfl)
  (hline:(apos.endLine == cpos.line)=true:=by rfl) (hs:Wa (e :: es) X.env=(false,eval e X.env) :: Wa es X.env:=by rfl) (hplain:(Q8 cpos (Wa es X.env)).any (·.1)=false:=by rfl) :
  PE X (.Call (.Attribute o name apos) (e :: es) [] cpos) (tBM X.K T r to t):=by
 intro pins s σ H Q I h
 refine wpAny_Call_method_late hbase hfew hline rfl (thn (ho pins s σ H _ I h) fun v s1 ⟨x,H1,I1,r1,ty,q1⟩=>?_)
 obtain ⟨h1,h2⟩:=zbZ I1 r1 ty
 refine ⟨T,id,pa,slot,hty,h1,h2,?_⟩
 have hA:=ha cpos pins s1 σ H1 _ I1 q1
 rw [hs] at hA ⊢
 refine Calls.callWith_builtin (by show (false || (Q8 cpos (Wa es X.env)).any (·.1))=false; rw [hplain] <;> rfl) (Calls.evalArgs_plain ?_)
 exact thn hA fun us s2 ⟨vs,H2,I2,r2,q2⟩=>hm pins s2 σ H2 x vs v us Q I2 r1 r2 q2
end
def MtM (X:Cx) (id:String) (r:V→List V→Hp→VK→Prop):Prop :=
 ∀ (pins:List (Addr×Obj)) (s:W1) (σ:St) (H:Hp) (x:V) (xs:List V) (v:Value) (us:List Value) (Q:VK),Inv X pins σ H s→RelV x v→Vals xs us→r x xs H Q →
  W6 (model X.prog X.w) X.A (call (.builtin id) (v :: us)) (EP X pins σ Q) X.xe s
theorem Vals.one:∀ {x:V} {us:List Value},Vals [x] us→∃ u,us=[u]∧RelV x u
 | _,_,.cons r .nil=>⟨_,rfl,r⟩
theorem Vals.two:∀ {x y:V} {us:List Value},Vals [x,y] us→∃ u v,us=[u,v]∧RelV x u∧RelV y v
 | _,_,_,.cons r (.cons q .nil)=>⟨_,_,rfl,r,q⟩
theorem Vals.rep (h:Vals xs us):∀ k:Nat,Vals (Wc k xs).flatten (Wc k us).flatten
 | 0=>.nil
 | k + 1=>by
  rw [WV,WV,Qp,Qp]
  exact Vals.append h (Vals.rep h k)
theorem z61 (its:List Value):∀ (k:Nat) (acc:List Value),
  List.foldl (fun x1 x2=>x1 ++ x2) acc.toArray (Wc k its.toArray)=(acc ++ (Wc k its).flatten).toArray
 | 0,acc=>by simp
 | k + 1,acc=>by
  have e:acc.toArray ++ its.toArray=(acc ++ its).toArray:=by simp
  have e2:(acc ++ its) ++ (Wc k its).flatten=acc ++ (Wc (k + 1) its).flatten:=by
   rw [WV,Qp,List.append_assoc]
  rw [← e2,← z61 its k (acc ++ its),← e,WV,Qz]
section
variable {X:Cx} {pins:List (Addr×Obj)} {σ:St} {H:Hp} {s:W1} {l b:Addr} {xs ys zs:List V}
theorem Inv.lset {its its':List Value} {n:Nat} {f:Array Value→Array Value} {t':Nat} (I:Inv X pins σ H s) (hH:H l=some (.lst xs))
  (e:s.heap.get? l=some { cls:=.type "list",data:=.seq its.toArray n }) (hf:f its.toArray=its'.toArray) (hv:Vals ys its') (hz:ys.length≤W7) :
  Inv X pins σ (upd H l (.lst ys)) { s with heap:=s.heap.update l (Obj.mapSeq f),toks:=t' }:=by
 have q:=PySem.IsL.update e f
 rw [hf] at q
 refine I.write (x:=l) (e:=l) (by rw [hH]; exact trivial) (.inl rfl) (fun b' u hb hu=>(WM s.heap (Obj.mapSeq f) (Ne.symm hb)).trans hu) ⟨_,q⟩ ?_
 exact ⟨hz,its',_,hv,q⟩
theorem Inv.lnew (I:Inv X pins σ H s) (hv:Vals ys its) (hz:ys.length≤W7) :
  Inv X pins σ (upd H s.heap.objs.size (.lst ys)) { s with heap:=s.heap.push { cls:=.type "list",data:=.seq its.toArray },toks:=t' } :=
 I.laid (fun _ _ q=>W3 _ q) (Wb _) ⟨hz,its,0,hv,Wh _ rfl⟩
theorem Inv.fresh (I:Inv X pins σ H s):H s.heap.objs.size=none:=I.hok.fresh (Wb _)
theorem Inv.lstM (I:Inv X pins σ H s) (hH:H l=some (.lst xs)):xs.length≤W7∧∃ (its:List Value) (n:Nat),Vals xs its∧xs.length=its.length∧s.heap.get? l=some { cls:=.type "list",data:=.seq its.toArray n }:=by
 obtain ⟨z,its,n,r,e⟩:=I.hok l _ hH
 exact ⟨z,its,n,r,r.length,e⟩
end
section
variable {X:Cx}
def z8q:V→List V→Hp→VK→Prop:=fun x vs H Q=>∃ l xs y,x = .ref l∧vs=[y]∧H l=some (.lst xs)∧xs.length < W7∧Q .non (upd H l (.lst (xs ++ [y])))
theorem z5Q:MtM X "list.append" z8q:=by
 intro pins s σ H x vs v us Q I rx rv h
 obtain ⟨l,xs,y,rfl,rfl,hH,hz,q⟩:=h
 cases rx
 obtain ⟨u,rfl,ru⟩:=rv.one
 obtain ⟨z,its,n,r,hl,e⟩:=I.lstM hH
 refine call_meets F.slot_list_append ⟨_,e,rfl⟩ F.entry_list_append (F.args_list_append_2 _ _) (PySem.list_append l its.toArray n u (by rw [Wn]; omega)) ⟨e,?_⟩
 refine ⟨.non,_,I.lset (its':=its ++ [u]) hH e (by simp) (r.append (.cons ru .nil)) ?_,rfl,q⟩
 rw [WS,List.length_singleton]
 omega
theorem z6B (xs:List α) (k:Nat):(Wc k xs).flatten.length=k * xs.length:=by
 induction k with
 | zero=>simp
 | succ k ih=>rw [WV,Qp,WS,ih,Nat.succ_mul,Nat.add_comm]
end
section
variable {prog:We} {w:Wk} {A:Wm} {E:Value→W1→Prop} {s:W1}
set_option maxRecDepth 100000 in
end
section
variable {X:Cx}
end
section
variable {κ:Type} [DecidableEq κ]
def valV (kvs:List (κ×V)) (k:κ):Option V:=(kvs.find? fun kv=>decide (kv.1=k)).map (·.2)
def putK (kvs:List (κ×V)) (k:κ) (v:V):List (κ×V) :=
 if (kvs.any fun kv=>decide (kv.1=k))=true then kvs.map (fun kv=>if kv.1=k then (kv.1,v) else kv) else kvs ++ [(k,v)]
theorem z3q {p:κ×V} {r:List (κ×V)} {k:κ} (e:p.1=k):valV (p :: r) k=some p.2:=by simp [valV,WT,e]
theorem z3r {p:κ×V} {r:List (κ×V)} {k:κ} (e:¬ p.1=k):valV (p :: r) k=valV r k:=by simp [valV,WT,e]
theorem z6Q (k:κ):∀ kvs:List (κ×V),(kvs.any fun kv=>decide (kv.1=k))=(valV kvs k).isSome
 | []=>rfl
 | p :: r=>by
  rw [QA]
  by_cases e:p.1=k
  ·simp only [z3q e,decide_eq_true e,Bool.true_or,Option.isSome_some]
  ·rw [z3r e,decide_eq_false e,Bool.false_or]; exact z6Q k r
theorem z1p (kvs:List (κ×V)) (k:κ) (v:V):(putK kvs k v).length≤kvs.length + 1:=by
 unfold putK
 split
 ·rw [Wx]; omega
 ·rw [WS,WL,List.length_nil]; omega
theorem RelO.isSome_eq (r:RelO o u):o.isSome=u.isSome:=by
 cases o with
 | none=>cases u with
  | none=>rfl
  | some _=>exact (show False from r).elim
 | some _=>cases u with
  | none=>exact (show False from r).elim
  | some _=>rfl
theorem KV.val {kvs:List (κ×V)} {vs:List (κ×Value)} (r:KV kvs vs) (k:κ):RelO (valV kvs k) (valueAt vs k):=by
 unfold KV at r
 induction r with
 | nil=>exact True.intro
 | @cons p q ps qs h t ih =>
  obtain ⟨h1,h2⟩:=h
  by_cases e:p.1=k
  ·have e':q.1=k:=h1.symm.trans e
   have b:valueAt (q :: qs) k=some q.2:=by simp [valueAt,WT,e']
   rw [z3q e,b]; exact h2
  ·have e':¬ q.1=k:=fun z=>e (h1.trans z)
   have b:valueAt (q :: qs) k=valueAt qs k:=by simp [valueAt,WT,e']
   rw [z3r e,b]; exact ih
theorem KV.any (r:KV kvs vs) (k:κ):(kvs.any fun kv=>decide (kv.1=k))=vs.any fun kv=>decide (kv.1=k):=by
 unfold KV at r
 induction r with
 | nil=>rfl
 | cons h t ih=>rw [QA,QA,ih,h.1]
theorem KV.repl (r:KV kvs vs) (k:κ) (ry:RelV y u) :
  KV (kvs.map fun kv=>if kv.1=k then (kv.1,y) else kv) (vs.map fun kv=>if kv.1=k then (kv.1,u) else kv):=by
 unfold KV at r ⊢
 induction r with
 | nil=>exact .nil
 | @cons p q ps qs h t ih =>
  rw [Wj,Wj]
  refine .cons ?_ ih
  obtain ⟨h1,h2⟩:=h
  by_cases e:p.1=k
  ·rw [if_pos e,if_pos (h1.symm.trans e)]; exact ⟨h1,ry⟩
  ·rw [if_neg e,if_neg (fun z=>e (h1.trans z))]; exact ⟨h1,h2⟩
theorem KV.put (r:KV kvs vs) (k:κ) (ry:RelV y u):KV (putK kvs k y) (stored vs k u):=by
 unfold putK stored
 rw [r.any k]
 by_cases e:(vs.any fun kv=>decide (kv.1=k))=true
 ·rw [if_pos e,if_pos e]; exact r.repl k ry
 ·rw [if_neg e,if_neg e]; exact Paired.snoc r ⟨rfl,ry⟩
theorem KV.length (r:KV kvs vs):kvs.length=vs.length:=Paired.length r
end
theorem z6D (r:RelV (kV k) u):(z0H P w).is k u=true:=by
 cases k with
 | inl i=>obtain ⟨t,e⟩:=(show ∃ t,u=Value.int i t from r); subst e; exact z6A P w i t
 | inr x=>obtain ⟨t,e⟩:=(show ∃ t,u=Value.str x t from r); subst e; exact z6z P w x t
theorem z5V:∀ {ks:List Key} {us:List Value},Vals (ks.map kV) us→ItemsAre (z0H P w) ks us
 | [],_,r=>by rw [List.map_nil] at r; cases r; exact .nil
 | k :: ks,_,r=>by
  rw [Wj] at r
  cases r with
  | cons h t=>exact .cons (z6D h) (z5V t)
abbrev KT (H:Hp):List (List Key×V)→List (List Key×Addr×Value)→Prop:=Paired fun p q=>p.1=q.1∧H q.2.1=some (.tup (p.1.map kV))∧RelV p.2 q.2.2
theorem KT.val {H:Hp} {kvs:List (List Key×V)} {xs:List (List Key×Addr×Value)} (r:KT H kvs xs) (k:List Key):RelO (valV kvs k) ((atKey xs k).map (·.2)):=by
 induction r with
 | nil=>exact True.intro
 | @cons p q ps qs h t ih =>
  obtain ⟨h1,_,h2⟩:=h
  by_cases e:p.1=k
  ·have e':q.1=k:=h1.symm.trans e
   have b:atKey (q :: qs) k=some q.2:=by simp [atKey,WT,e']
   rw [z3q e,b]; exact h2
  ·have e':¬ q.1=k:=fun z=>e (h1.trans z)
   have b:atKey (q :: qs) k=atKey qs k:=by simp [atKey,WT,e']
   rw [z3r e,b]; exact ih
theorem KT.repl (r:KT H kvs xs) (k:List Key) (ry:RelV y u) :
  KT H (kvs.map fun kv=>if kv.1=k then (kv.1,y) else kv) (xs.map (putAt k u)):=by
 induction r with
 | nil=>exact .nil
 | @cons p q ps qs h t ih =>
  rw [Wj,Wj]
  refine .cons ?_ ih
  obtain ⟨h1,h2,h3⟩:=h
  unfold putAt
  by_cases e:p.1=k
  ·rw [if_pos e,if_pos (h1.symm.trans e)]; exact ⟨h1,h2,ry⟩
  ·rw [if_neg e,if_neg (fun z=>e (h1.trans z))]; exact ⟨h1,h2,h3⟩
theorem KT.put (r:KT H kvs xs) (k:List Key) (hb:H b=some (.tup (k.map kV))) (ry:RelV y u) :
  KT H (putK kvs k y) (storedH xs k b u):=by
 have e:(kvs.any fun kv=>decide (kv.1=k))=(atKey xs k).isSome:=by
  rw [z6Q,(r.val k).isSome_eq,Option.isSome_map]
 unfold putK storedH
 rw [e]
 by_cases q:(atKey xs k).isSome=true
 ·rw [if_pos q,if_pos q]; exact r.repl k ry
 ·rw [if_neg q,if_neg q]; exact Paired.snoc r ⟨rfl,hb,ry⟩
theorem KT.keeps (r:KT H kvs xs) (ht:∀ b ys,H b=some (.tup ys)→H' b=some (.tup ys)):KT H' kvs xs :=
 Paired.mapP r fun _ _ z=>⟨z.1,ht _ _ z.2.1,z.2.2⟩
section
variable {P:We} {w:Wk} {H:Hp} {h:Heap} {a:Addr}
theorem zco (ok:HOk P w H h) (e:Rd H a u):ObjOk P w H h a u:=e.ok ok
theorem z99 (ok:HOk P w H h) (e:Rd H a (.dK kvs)):kvs.length≤W7∧(a == QP)=false∧∃ vs,KV kvs vs∧h.DictOf (z0H P w) a vs :=
 show ObjOk P w H h a (.dK kvs) from zco ok e
theorem zab (ok:HOk P w H h) (e:H a=some (.dK kvs)):kvs.length≤W7∧(a == QP)=false∧∃ vs,KV kvs vs∧h.DictOf (z0H P w) a vs:=z99 ok (.inl e)
theorem z5U (ok:HOk P w H h) (e:H a=some (.tup (ks.map kV))):(tupleKind (z0H P w)).is h ks a:=by
 obtain ⟨_,its,r,p⟩:=(show ObjOk P w H h a (.tup (ks.map kV)) from ok a _ e)
 obtain ⟨o,h1,h2,n,h3⟩:=p.tup
 exact ⟨o,its.toArray,n,h1,h2,h3,by simpa using z5V r⟩
theorem zaa (ok:HOk P w H h) (e:Rd H a (.dT kvs)):kvs.length≤W7∧(a == QP)=false ∧
  ∃ xs,KT H kvs xs∧h.DictOfH (tupleKind (z0H P w)) a xs:=by
 obtain ⟨z,y,xs,r,o,es,ep,h1,h2,h3,h4,h5⟩:=(show ObjOk P w H h a (.dT kvs) from zco ok e)
 refine ⟨z,y,xs,r,o,es,ep,h1,h2,h3,h4,fun x hx=>?_,h5⟩
 have all:∀ {l:List (List Key×V)} {m:List (List Key×Addr×Value)},KT H l m→∀ x ∈ m,(tupleKind (z0H P w)).is h x.1 x.2.1:=by
  intro l m q
  induction q with
  | nil=>intro x hx; exact nomatch hx
  | @cons p q ps qs hq t ih =>
   intro x hx
   rcases Wf.mp hx with e | hx
   ·subst e
    exact z5U ok (by rw [← hq.1]; exact hq.2.1)
   ·exact ih x hx
 exact all r x hx
theorem dt_of (ok:HOk P w H h) (e:H a=some (.dT kvs)):kvs.length≤W7∧(a == QP)=false ∧
  ∃ xs,KT H kvs xs∧h.DictOfH (tupleKind (z0H P w)) a xs:=zaa ok (.inl e)
end
def DGet (H:Hp) (a:Addr) (y:V) (r:Option V):Prop :=
 (∃ kvs k,Rd H a (.dK kvs)∧y=kV k∧r=valV kvs k)∨∃ kvs k b,Rd H a (.dT kvs)∧y = .ref b∧H b=some (.tup (k.map kV))∧r=valV kvs k
def DPut (H:Hp) (a:Addr) (y v:V) (H':Hp):Prop :=
 (∃ kvs k,H a=some (.dK kvs)∧y=kV k∧kvs.length < W7∧H'=upd H a (.dK (putK kvs k v))) ∨
 ∃ kvs k b,H a=some (.dT kvs)∧y = .ref b∧H b=some (.tup (k.map kV))∧kvs.length < W7∧H'=upd H a (.dT (putK kvs k v))
theorem DGet.k {H:Hp} {a:Addr} {kvs:List (Key×V)} {k:Key} (e:H a=some (.dK kvs)):DGet H a (kV k) (valV kvs k):=.inl ⟨kvs,k,.inl e,rfl,rfl⟩
theorem DPut.k {H:Hp} {a:Addr} {kvs:List (Key×V)} {k:Key} {v:V} (e:H a=some (.dK kvs)) (hl:kvs.length < W7):DPut H a (kV k) v (upd H a (.dK (putK kvs k v))):=.inl ⟨kvs,k,e,rfl,hl,rfl⟩
section
variable {X:Cx} {pins:List (Addr×Obj)} {σ:St} {H:Hp} {s:W1} {a:Addr} {y v:V} {u r:Value} {o:Option V} {A:Wm} {E:Value→W1→Prop}
theorem Inv.big (I:Inv X pins σ H s):QP < s.heap.objs.size:=by
 have h:Wp < s.heap.objs.size:=(I.mod.glob.keeps I.bk).lt
 exact Nat.lt_trans (by decide) h
theorem z9g (hu:A.units + 1 < Qh) (I:Inv X pins σ H s) (g:DGet H a y (some v)) (ry:RelV y u) (h:∀ w' s',Inv X pins σ H s'→RelV v w'→Q w' s') :
  W6 (model X.prog X.w) A (getItem (.ref a) u) Q E s:=by
 rcases g with ⟨kvs,k,e,ey,l⟩ | ⟨kvs,k,b,e,ey,eb,l⟩
 ·subst ey
  obtain ⟨z,hd,vs,rel,dd⟩:=z99 I.hok e
  obtain ⟨w',hw,rw'⟩:=RelO.some_of (v:=v) (o:=valueAt vs k) (by rw [l]; exact rel.val k)
  exact wpAny_getItem_of (z6D ry) dd.mapOf hw (h w' _ (I.tok _) rw')
 ·subst ey
  cases (show u=Value.ref b from ry)
  obtain ⟨z,hd,xs,rel,dd⟩:=zaa I.hok e
  obtain ⟨w',hw,rw'⟩:=RelO.some_of (v:=v) (o:=(atKey xs k).map (·.2)) (by rw [l]; exact rel.val k)
  obtain ⟨p,hp,hp2⟩:=Option.map_eq_some_iff.mp hw
  refine wpAny_getItem_heap (Jc hu) (z5U I.hok eb) dd hp ?_
  rw [hp2]
  exact h w' _ (I.tok _) rw'
theorem d_in (hu:A.units + 1 < Qh) (I:Inv X pins σ H s) (g:DGet H a y o) (ry:RelV y u) (h:∀ s',Inv X pins σ H s'→Q (.bool o.isSome) s') :
  W6 (model X.prog X.w) A (WE .In u (.ref a)) Q E s:=by
 rcases g with ⟨kvs,k,e,ey,l⟩ | ⟨kvs,k,b,e,ey,eb,l⟩
 ·subst ey
  obtain ⟨z,hd,vs,rel,dd⟩:=z99 I.hok e
  refine wpAny_in_of (z6D ry) hd dd.mapOf ?_
  rw [← (rel.val k).isSome_eq,← l]
  exact h _ (I.tok _)
 ·subst ey
  cases (show u=Value.ref b from ry)
  obtain ⟨z,hd,xs,rel,dd⟩:=zaa I.hok e
  refine wpAny_in_heap (Jc hu) (z5U I.hok eb) hd dd ?_
  have q:=(rel.val k).isSome_eq
  rw [Option.isSome_map] at q
  rw [← q,← l]
  exact h _ (I.tok _)
theorem zbO (hu:A.units + 1 < Qh) (I:Inv X pins σ H s) (g:DGet H a y o) (ry:RelV y u) (h:∀ s',Inv X pins σ H s'→Q (.bool (!o.isSome)) s') :
  W6 (model X.prog X.w) A (WE .NotIn u (.ref a)) Q E s:=by
 rcases g with ⟨kvs,k,e,ey,l⟩ | ⟨kvs,k,b,e,ey,eb,l⟩
 ·subst ey
  obtain ⟨z,hd,vs,rel,dd⟩:=z99 I.hok e
  refine wpAny_notIn_of (z6D ry) hd dd.mapOf ?_
  rw [← (rel.val k).isSome_eq,← l]
  exact h _ (I.tok _)
 ·subst ey
  cases (show u=Value.ref b from ry)
  obtain ⟨z,hd,xs,rel,dd⟩:=zaa I.hok e
  refine wpAny_notIn_heap (Jc hu) (z5U I.hok eb) hd dd ?_
  have q:=(rel.val k).isSome_eq
  rw [Option.isSome_map] at q
  rw [← q,← l]
  exact h _ (I.tok _)
theorem z5i (I:Inv X pins σ H s) (mu:Mut (H a)) (hs:QX a s.heap h') (he:∃ q,h'.get? a=some q) (new:ObjOk X.prog X.w (upd H a ob) h' a ob) :
  Inv X pins σ (upd H a ob) { s with heap:=h',toks:=t' } :=
 I.write (x:=a) (e:=a) mu (.inl rfl) (fun b q hb z=>(hs.2 b hb).trans z) he new
theorem z9a (z:kvs.length≤W7) (hd:(a == QP)=false) (rel:KV kvs vs) (dd:h'.DictOf (z0H P w) a vs) :
  ObjOk P w H' h' a (.dK kvs):=⟨z,hd,vs,rel,dd⟩
theorem z9f (hu:A.units + 1 < Qh) (I:Inv X pins σ H s) (g:DPut H a y v H') (ry:RelV y u) (rv:RelV v r) (h:∀ s',Inv X pins σ H' s'→Q () s') :
  W6 (model X.prog X.w) A (setItem (.ref a) u r) Q E s:=by
 rcases g with ⟨kvs,k,e,ey,l,eH⟩ | ⟨kvs,k,b,e,ey,eb,l,eH⟩
 ·subst ey eH
  obtain ⟨z,hd,vs,rel,dd⟩:=zab I.hok e
  have hz:vs.length≤W7:=by rw [← rel.length]; exact z
  have hl:(putK kvs k v).length≤W7:=by have:=z1p kvs k v; omega
  refine wpAny_setItem_pairs (hsz:=hz) (z6D ry) dd fun h' dd' hs=>h _ ?_
  have he:∃ q,h'.get? a=some q:=let ⟨q,_,_,hq,_⟩:=dd'; ⟨q,hq⟩
  exact z5i I (by rw [e]; exact True.intro) hs he (z9a hl hd (rel.put k rv) dd')
 ·subst ey eH
  cases (show u=Value.ref b from ry)
  obtain ⟨z,hd,xs,rel,dd⟩:=dt_of I.hok e
  have hz:xs.length≤W7:=by rw [← Paired.length rel]; exact z
  have hl:(putK kvs k v).length≤W7:=by have:=z1p kvs k v; omega
  refine wpAny_setItem_heap (hsz:=hz) (Jc hu) (z5U I.hok eb) dd fun h' dd' hs=>h _ ?_
  obtain ⟨q,es,ep,hq,h2,h3,h4,_,h5⟩:=dd'
  refine z5i I (by rw [e]; exact True.intro) hs ⟨q,hq⟩ ⟨hl,hd,_,(rel.put k eb rv).keeps fun c ys ec=>?_,q,es,ep,hq,h2,h3,h4,h5⟩
  rw [z06 (ne_of ec e (fun z=>nomatch z))]
  exact ec
end
section
variable {X:Cx} {pins:List (Addr×Obj)} {σ:St} {H:Hp} {s:W1} {a:Addr} {kvs:List (Key×V)} {k:Key} {u:Value} {A:Wm} {E:Value→W1→Prop}
theorem d_len (I:Inv X pins σ H s) (e:Rd H a (.dK kvs)) (h:∀ t s',Inv X pins σ H s'→Q (.int kvs.length t) s'):W6 (model X.prog X.w) A (call (.builtin "len") [.ref a]) Q E s:=by
 obtain ⟨z,hd,vs,rel,dd⟩:=z99 I.hok e
 refine call_len_dict hd dd (by rw [← rel.length]; rw [QT] at z; omega) ?_
 rw [← rel.length]
 exact h _ _ (I.tok _)
end
def sDPut (td ty tv:TE):TS:=fun D σ H=>tv σ H fun v H1=>td σ H1 fun x H2=>ty σ H2 fun y H3=>∃ a H4,x = .ref a∧DPut H3 a y v H4∧D.nx σ H4
section
variable {X:Cx} {o i e value:Expr} {pos pos' tpos:Pos} {td ty tv:TE}
theorem zbj (hu:X.A.units + 1 < Qh) (ho:PE X o td) (hi:PE X i ty) (hv:PE X value tv) (hs:Ja value (some (.Subscript o i pos')) pos.line X.env=pure false) :
  PS X (.Assign [.Subscript o i pos'] value pos) (sDPut td ty tv):=by
 intro pins s σ H D I h
 refine wpAny_Assign_Subscript (thn (hv pins s σ H _ I h) fun r s1 ⟨v,H1,I1,rv,q1⟩=>thn (ho pins s1 σ H1 _ I1 q1) fun u s2 ⟨x,H2,I2,rx,q2⟩=>thn (hi pins s2 σ H2 _ I2 q2) fun iv s3 ⟨y,H3,I3,ry,a,H4,ex,g,q3⟩=>?_) hs
 subst ex
 obtain rfl:u=Value.ref a:=rx
 exact z9f hu I3 g ry rv fun s4 I4=>⟨σ,H4,I4,q3⟩
end
theorem z5f (h:Heap) (hb:QP < h.objs.size):ObjOk P w H (h.push { cls:=.type "dict",data:=.dict #[] }) h.objs.size (.dK []) :=
 ⟨Qf _,beq_eq_false_iff_ne.mpr (Ne.symm (Wu hb)),[],.nil,Heap.DictOf.new h⟩
def zc6:TE:=fun _ H Q=>∀ p,H p=none→Q (.ref p) (upd H p (.dK []))
section
variable {X:Cx} {pos:Pos}
theorem z9N:PE X (.Dict [] [] pos) zc6:=fun pins s σ H Q I h =>
 wpAny_Dict_empty ⟨.ref s.heap.objs.size,_,I.laid (a:=s.heap.objs.size) (o:=.dK []) (t':=s.toks) (fun _ _ q=>W3 _ q) (Wb _) (z5f s.heap I.big),rfl,h _ (I.hok.fresh (Wb _))⟩
end
def z7V:List (TE×TE)→St→Hp→(List (V×V)→Hp→Prop)→Prop
 | [],_,H,Q=>Q [] H
 | (tk,tv) :: r,σ,H,Q=>tk σ H fun x H1=>tv σ H1 fun y H2=>z7V r σ H2 fun ps H3=>Q ((x,y) :: ps) H3
abbrev VV:List (V×V)→List (Value×Value)→Prop:=Paired fun p q=>RelV p.1 q.1∧RelV p.2 q.2
def PPs (X:Cx) (pos:Pos) (keys:List (Option Expr)) (values:List Expr) (trs:List (TE×TE)):Prop :=
 ∀ (pins:List (Addr×Obj)) (s:W1) (σ:St) (H:Hp) (Q:List (V×V)→Hp→Prop),Inv X pins σ H s→z7V trs σ H Q →
  W6 (model X.prog X.w) X.A (evalPairs (pairTrees keys values X.env pos)) (fun vs s'=>∃ ps H',Inv X pins σ H' s'∧VV ps vs∧Q ps H') X.xe s
theorem zbk:PPs X pos [] [] []:=fun pins s σ H Q I h=>pairTrees_nil_walk ⟨[],H,I,.nil,h⟩
theorem z9L (hk:PE X k tk) (hv:PE X v tv) (hr:PPs X pos ks vs trs) :
  PPs X pos (some k :: ks) (v :: vs) ((tk,tv) :: trs):=fun pins s σ H Q I h =>
 pairTrees_cons_walk (thn (hk pins s σ H _ I h) fun u s1 ⟨x,H1,I1,rx,q1⟩=>thn (hv pins s1 σ H1 _ I1 q1) fun w2 s2 ⟨y,H2,I2,ry,q2⟩ =>
  thn (hr pins s2 σ H2 _ I2 q2) fun ws s3 ⟨ps,H3,I3,rel,q3⟩=>⟨(x,y) :: ps,H3,I3,.cons ⟨rx,ry⟩ rel,q3⟩)
def z3Q (kvs more:List (Key×V)):List (Key×V):=more.foldl (fun acc kv=>putK acc kv.1 kv.2) kvs
theorem KV.merge:∀ {more:List (Key×V)} {rs:List (Key×Value)} {kvs:List (Key×V)} {vs:List (Key×Value)},KV more rs→KV kvs vs→KV (z3Q kvs more) (merged vs rs):=by
 intro more rs kvs vs r
 unfold KV at r
 induction r generalizing kvs vs with
 | nil=>intro q; exact q
 | @cons p q ps qs h t ih =>
  intro r0
  have e:KV (putK kvs p.1 p.2) (stored vs q.1 q.2):=by
   have:=r0.put p.1 h.2
   rw [← h.1]; exact this
  exact ih e
theorem z2U:∀ (more kvs:List (Key×V)),(z3Q kvs more).length≤kvs.length + more.length
 | [],kvs=>by show kvs.length≤kvs.length + 0; omega
 | p :: r,kvs=>by
  have h1:=z2U r (putK kvs p.1 p.2)
  have h2:=z1p kvs p.1 p.2
  show (z3Q (putK kvs p.1 p.2) r).length≤_
  rw [WL]; omega
theorem z4H:∀ {kvs:List (Key×V)} {ws:List (Value×Value)},VV (kvs.map fun kv=>(kV kv.1,kv.2)) ws→∃ rs,Carries (z0H P w) ws rs∧KV kvs rs
 | [],_,r=>by rw [List.map_nil] at r; cases r; exact ⟨[],True.intro,.nil⟩
 | p :: kvs,_,r=>by
  rw [Wj] at r
  cases r with
  | @cons a b as bs h t =>
   obtain ⟨rs,c,q⟩:=z4H (P:=P) (w:=w) t
   obtain ⟨b1,b2⟩:=b
   exact ⟨(p.1,b2) :: rs,⟨z6D h.1,rfl,c⟩,.cons ⟨rfl,h.2⟩ q⟩
def tDisp (trs:List (TE×TE)):TE:=fun σ H Q=>∀ p,H p=none→z7V trs σ (upd H p (.dK [])) fun ps H2=>H2 p=some (.dK [])∧∃ kvs:List (Key×V),ps=kvs.map (fun kv=>(kV kv.1,kv.2))∧kvs.length≤15∧Q (.ref p) (upd H2 p (.dK (z3Q [] kvs)))
theorem zbo (h:PPs X pos keys values trs) (hall:keys.all (·.isSome)=true) (hl:keys.length=values.length) (h0:keys≠[])
  (h15:keys.length≤15):PE X (.Dict keys values pos) (tDisp trs):=by
 intro pins s σ H Q I q
 have hn:=I.hok.fresh (Wb s.heap.objs.size)
 have I1:=I.laid (a:=s.heap.objs.size) (o:=.dK []) (h':=s.heap.push { cls:=.type "dict",data:=.dict #[] }) (t':=s.toks) (fun _ _ q=>W3 _ q) (Wb _) (z5f s.heap I.big)
 refine wpAny_Dict_walk (knd:=z0H X.prog X.w) hall hl h0 h15 (thn (h pins _ σ _ _ I1 (q _ hn)) fun ws s2 ⟨ps,H2,I2,rel,e,kvs,ep,lk,q2⟩=>?_)
 subst ep
 obtain ⟨rs,c,rk⟩:=z4H (P:=X.prog) (w:=X.w) rel
 obtain ⟨z,hd,vs0,r0,dd⟩:=zab I2.hok e
 cases r0
 refine ⟨rs,c,dd,fun h' dd' hs=>⟨.ref s.heap.objs.size,_,?_,rfl,q2⟩⟩
 have hz:(z3Q [] kvs).length≤W7:=by
  have h1:=z2U kvs []
  rw [List.length_nil] at h1
  rw [QT]; omega
 have he:∃ q,h'.get? s.heap.objs.size=some q:=let ⟨q,_,_,hq,_⟩:=dd'; ⟨q,hq⟩
 exact z5i I2 (by rw [e]; exact True.intro) hs he (z9a hz hd (rk.merge .nil) dd')
structure M1 (X:Cx) (o:Expr) (m:Str) (apos:Pos) (e:Expr) (cpos:Pos):Prop where
 base:attributeBase o m X.env (eval o X.env)=eval o X.env
 few:((Q8 cpos (Wa [e] X.env)).all (fun x=>!x.1) && (backToKw cpos (Jk [] X.env)).all (fun x=>x.1.isSome)
  && decide (([e]:List Expr).length + ([]:List Keyword).length + (if ([]:List Keyword).isEmpty then 0 else 1) < 30))=true
 line:(apos.endLine == cpos.line)=true
 trees:Q8 cpos (Wa [e] X.env)=[(false,eval e X.env)]
structure M2 (X:Cx) (o:Expr) (m:Str) (apos:Pos) (e f:Expr) (cpos:Pos):Prop where
 base:attributeBase o m X.env (eval o X.env)=eval o X.env
 few:((Q8 cpos (Wa [e,f] X.env)).all (fun x=>!x.1) && (backToKw cpos (Jk [] X.env)).all (fun x=>x.1.isSome)
  && decide (([e,f]:List Expr).length + ([]:List Keyword).length + (if ([]:List Keyword).isEmpty then 0 else 1) < 30))=true
 line:(apos.endLine == cpos.line)=true
 trees:Q8 cpos (Wa [e,f] X.env)=[(false,eval e X.env),(false,eval f X.env)]
section
variable {X:Cx} {pins:List (Addr×Obj)} {σ:St} {H:Hp} {s:W1} {a:Addr} {y d:V} {u r:Value} {o:Option V} {A:Wm} {E:Value→W1→Prop}
end
section
variable {X:Cx} {o e f:Expr} {apos cpos:Pos} {td ty tx:TE}
end
section
variable {X:Cx} {pins:List (Addr×Obj)} {σ:St} {H:Hp} {s:W1} {a:Addr} {kvs:List (Key×V)} {A:Wm} {E:Value→W1→Prop}
end
section
variable {X:Cx} {pins:List (Addr×Obj)} {σ:St} {H:Hp} {s:W1} {a:Addr} {y:V} {u:Value} {A:Wm} {E:Value→W1→Prop}
end
end L2
namespace Att
open PySem PySem.W PySem.Calls PyProof.Rows
theorem z3V:∀ (ns:List Int) (vs:List Value),WellAll P h vs (ns.map WData.int)→IntsAre vs ns:=by
 intro ns
 induction ns with
 | nil =>
  intro vs w
  rw [List.map_nil] at w
  cases w
  exact .nil
 | cons n ns ih =>
  intro vs w
  rw [Wj] at w
  cases w with
  | cons a b =>
   cases a
   exact .cons _ _ (ih _ b)
theorem z8g {l:OpenLaw} {n:Nat} (hn:l.most=some n) {P:Params} {h:Heap} {args:List WData} {vals:List Value}
  (hpre:l.row.toRowW.claim.pre args=true) (hwl:WellAll P h vals args) :
  ∃ a vs ns,vals=[Value.ref a]∧args=[WData.list (ns.map WData.int)]∧h.get? a=some { cls:=.type "list",data:=.seq vs.toArray }∧IntsAre vs ns∧ns.length≤n:=by
 have hsh:WShape.hasAll [] args [.list .int]=true:=(pre_splitW hpre).1
 have hc:l.pre.holds [] { args:=args } = true:=(pre_splitW hpre).2
 obtain ⟨d,r,rfl,h1,h2⟩:=hasAllW_cons hsh
 obtain rfl:=hasAllW_nil h2
 obtain ⟨xs,rfl,h3⟩:=hasW_list h1
 obtain ⟨ns,rfl⟩:=items_int h3
 have hlen:ns.length≤n:=by
  unfold OpenLaw.pre at hc
  have h4:(WTm.not (.lt (.lit (.int (n:Int))) (.len (.arg 0)))).holds [] { args:=[.list (ns.map .int)] } = true:=by
   have h4:=(holds_andW hc).1
   rw [hn] at h4
   exact h4
  have h5:=condW_of h4 (w_not (w_lt w_lit (w_len_list (w_arg rfl))))
  rw [Wx] at h5
  refine Nat.le_of_not_lt fun q=>?_
  have q':(n:Int) < ((ns.length:Nat):Int):=by omega
  first
   | (rw [decide_eq_true q'] at h5; exact absurd h5 (by decide))
   | (simp at h5; omega)
 cases hwl with
 | cons w1 w2 =>
  cases w2
  cases w1 with
  | list ho hall=>exact ⟨_,_,ns,rfl,rfl,ho,z3V ns _ hall,hlen⟩
theorem z8t (l:OpenLaw) (args:List WData):l.row.toRowW.claim.post args (.bool true) args=true :=
 postW_of (r:=l.row.toRowW) (X:=(true == true))
  (show WShape.has [] (.bool true) .bool=true by first | rfl | decide | simp [WShape.has,WShape.arms,WShape.armsAll])
  (show (WTm.eq .res (.lit (.bool true))).value [] { args:=args,res:=some (.bool true),after:=args } = some (.bool (true == true)) from w_eq_bool (w_res rfl) w_lit) rfl
theorem attach_call {l:OpenLaw} {n:Nat} {q:We} {loose:List Str} {XP:(Str→Option Value)→Heap→Prop} {YP:Wk→Heap→Prop} {d:DefRec}
  (hn:l.most=some n) (hdf:d.params.defaults=[])
  (call:∀ (w:Wk) (s₀ s₁:W1) (mg mb:Str→Option Value) (fa:Addr) (o:Obj) (pm cd doc:Value) (a:Addr) (vs:List Value) (ns:List Int),
   Ground q loose [] XP w s₀ mg mb s₁.heap→YP w s₁.heap →
   s₁.heap.get? fa=some o→o.data = .func (docDef d.name d.params d.body d.scope pm cd doc)→s₁.heap.CodeRec cd d.name→mg d.name=some (.ref fa) →
   s₁.heap.get? a=some { cls:=.type "list",data:=.seq vs.toArray }→IntsAre vs ns→ns.length≤n→s₁.gens = #[] →
   Q1 (model l.prog w) callerA (.call (.ref fa) ⟨[.ref a],[]⟩) (fun r s'=>r = .ok (.ret (.bool true))∧OldK s₁.heap s'.heap∧s'.os=s₁.os∧AllBare s'.gens) s₁) :
  WalkO q loose XP YP l.row.toRowW d [] (fun f vs=>PySem.call f vs):=by
 intro w s₀ s₁ mg mb G Y fa o pm cd doc dV kV ho hd hcd hD hmg hg args vals as hpre hlay hrd hwl hlo
 obtain rfl:dV = .none:=Dflts.none hD hdf
 obtain rfl:kV = .none:=Dflts.noKw hD
 obtain ⟨a,vs,ns,rfl,rfl,hobj,hints,hlen⟩:=z8g hn hpre hwl
 refine enter_call (Qv (call w s₀ s₁ mg mb fa o pm cd doc a vs ns G Y ho (fd_plain hd) hcd hmg hobj hints hlen hg) fun r s' hq=>?_)
 obtain ⟨rfl,h2,h3,h4⟩:=hq
 exact ⟨.inl ⟨.bool true,.bool true,[],rfl,fun _=>rfl,.bool true,z8t l _,fun _=>⟨List.Pairwise.nil,fun _ hm=>(nomatch hm)⟩⟩,h2,h3,h4⟩
section
variable {prog:We} {w:Wk} {A:Wm} {E:Value→W1→Prop} {s:W1} {K:Frag}
end
end Att
namespace L2
open PySem PySem.Spec PyProof.Rows
theorem vals_ints:∀ {vs:List Value} {ns:List Int},IntsAre vs ns→Vals (ns.map V.int) vs
 | _,_,.nil=>.nil
 | _,_,.cons n t h=>.cons ⟨t,rfl⟩ (vals_ints h)
def Only (H:Hp):Prop:=∀ b,H b=none∨∃ o xs,H b=some (.frz o (.lst xs))
theorem za0 {P:We} {w:Wk} {K:W2} {mg mb:Str→Option Value} {CX:CXT} {k:Nat} {fa a:Addr} {fd:WC} {x:Str} {sp:Sp} {s₁:W1} {vs:List Value} {ns:List Int}
  (KX:K.In s₁.heap) (hns:s₁.heap.Ns Wp mg) (hb:s₁.heap.Ns builtinsNs mb) (hbb:∀ x:Str,x≠"__name__"→mb x=Q7 x) (hlim:s₁.heap.NoLimit) (hg:s₁.gens = #[])
  (ha:s₁.heap.get? a=some { cls:=.type "list",data:=.seq vs.toArray }) (hi:IntsAre vs ns) (hl:ns.length≤W7) (hr:Room k callerA)
  (F:∀ base:Heap,K.In base→base.Ns Wp mg→FnOk P w K mg base CX k fa fd [x] sp) (hbind:∀ (s:W1) (u:Value),BindsTo s fd ⟨[u],[]⟩ [(x,u)])
  (hsp:∀ H:Hp,Only H→SqL K H a (ns.map V.int)→sp [.ref a] H (fun v _=>v = .bl true) fun _ _ _=>False)
  (hCX:∀ H e s',CX [] H s₁ (fun _ _ _=>False) e s'→False) :
  Q1 (model P w) callerA (.call (.ref fa) ⟨[.ref a],[]⟩) (fun r s'=>r = .ok (.ret (.bool true))∧OldK s₁.heap s'.heap∧s'.os=s₁.os∧AllBare s'.gens) s₁:=by
 have rv:=vals_ints hi
 have lenV:=hi.length
 -- from an abstract heap in which nothing but the script may be tracked
 have core:∀ H:Hp,Only H→SqL K H a (ns.map V.int)→HOk P w H s₁.heap→(∀ b,H b≠none→b=a)→(H a≠none→K.lookup a=none) →
   Q1 (model P w) callerA (.call (.ref fa) ⟨[.ref a],[]⟩) (fun r s'=>r = .ok (.ret (.bool true))∧OldK s₁.heap s'.heap∧s'.os=s₁.os∧AllBare s'.gens) s₁:=by
  intro H hO hS hok hA hK
  have base_of:∀ {b:Addr} {o:Obj},s₁.heap.get? b=some o→H b=none→(hidT s₁.heap H).get? b=some o:=fun e n=>z7d e n
  have noA:∀ {b:Addr} {o:Obj} {es:Array DictEntry} {ep:Nat},s₁.heap.get? b=some o→o.data = .dict es ep→H b=none:=fun {b o es ep} e d=>by
   cases q:H b with
   | none=>rfl
   | some u =>
    have e':b=a:=hA b (by rw [q]; simp)
    subst e'
    rw [ha] at e; cases e
    have d':Data.seq vs.toArray _=Data.dict es ep:=d
    cases d'
  have nsK:∀ {b:Addr} {m:Str→Option Value},s₁.heap.Ns b m→(hidT s₁.heap H).Ns b m:=fun {b m} ⟨o,es,ep,e,d,r⟩=>⟨o,es,ep,base_of e (noA e d),d,r⟩
  have hKb:K.In (hidT s₁.heap H):=fun b o e=>base_of (KX b o e) (by
   cases q:H b with
   | none=>rfl
   | some u =>
    have e':b=a:=hA b (by rw [q]; simp)
    subst e'
    rw [hK (by rw [q]; simp)] at e; cases e)
  have hM:Mod K mg (hidT s₁.heap H):=⟨hKb,nsK hns,⟨mb,nsK hb,hbb⟩,let ⟨mc,h1,h2⟩:=hlim; ⟨mc,nsK h1,h2⟩⟩
  have e0:Env0 P w K mg (hidT s₁.heap H) callerA [] s₁ H:=⟨rfl,hM,fun b o e=>z8G e,Nat.le_of_eq (z5Z _ _),trivial,fun b hb=>absurd (show b ∈ ([]:List Addr) from hb) (by simp),hok,.of_eq hg⟩
  refine Qv ((F _ hKb (nsK hns)).run callerA [] s₁ H ⟨[.ref a],[]⟩ [.ref a] [.ref a] _ _ hr e0 (hbind s₁ (.ref a)) (.cons rfl .nil) (hsp H hO hS)) fun r s' h=>?_
  cases r with
  | error e=>exact (hCX H e s' h).elim
  | ok fl =>
   cases fl with
   | next=>exact False.elim h
   | brk=>exact False.elim h
   | cont=>exact False.elim h
   | ret u =>
    obtain ⟨v,H',os,bare,un,hok',r',q⟩:=h
    have q':v = .bl true:=q
    subst q'
    obtain rfl:u=Value.bool true:=r'
    refine ⟨rfl,OldK.of_keep fun b o e=>?_,os,bare⟩
    cases q:H b with
    | none=>exact un.keep b o e q (by intro z; exact absurd (show b ∈ ([]:List Addr) from z) (by simp)) (by simp)
    | some u =>
     rcases hO b with z | ⟨ob,xs,z⟩
     ·rw [q] at z; cases z
     ·have z2:=un.frzs b ob _ z
      obtain ⟨e1,_⟩:=hok b _ z
      obtain ⟨e2,_⟩:=hok' b _ z2
      rw [e] at e1; cases e1
      exact e2
 cases hk:K.lookup a with
 | some o =>
  -- the script is one of the module's own objects
  have e:=KX a o hk
  rw [ha] at e
  cases e
  refine core (fun _=>none) (fun _=>.inl rfl) (.inr ⟨_,vs.toArray,_,hk,rfl,rfl,rfl,by rw [Wn,lenV]; exact hl,by simpa using rv⟩) (fun b u z=>by have z':(none:Option HO)=some u:=z; cases z') (fun b z=>absurd rfl z) fun z=>absurd rfl z
 | none =>
  refine core (fun b=>if b=a then some (.frz { cls:=.type "list",data:=.seq vs.toArray } (.lst (ns.map V.int))) else none) (fun b=>?_) (.inl (.inr ⟨{ cls:=.type "list",data:=.seq vs.toArray },if_pos rfl⟩)) (fun b u z=>?_) (fun b z=>?_) fun _=>hk
  ·by_cases hb:b=a
   ·exact .inr ⟨_,_,if_pos hb⟩
   ·exact .inl (if_neg hb)
  ·by_cases hb:b=a
   ·have z':=(if_pos hb).symm.trans z
    cases z'
    subst hb
    exact ⟨ha,by rw [Wx]; exact hl,vs,_,rv,ha⟩
   ·have z':=(if_neg hb).symm.trans z
    cases z'
  ·by_cases hb:b=a
   ·exact hb
   ·exact absurd (if_neg hb) z
abbrev KOf {K:W2} {h:Heap} (_:K.In h):W2:=K
theorem walk_of {l:Jp} {n k:Nat} {q:We} {loose:List Str} {XP:(Str→Option Value)→Heap→Prop} {YP:Wk→Heap→Prop} {d:DefRec} {K:Params→W2} {CX:Wk→CXT} {sp:Wk→Sp} {x:Str}
  (hn:l.most=some n) (hn2:n≤W7) (hdf:d.params.defaults=[]) (hr:Room k callerA)
  (hY:∀ (w:Wk) (h:Heap),YP w h→(K w.params).In h)
  (F:∀ (w:Wk) (mg:Str→Option Value) (fa:Addr) (h:Heap),(K w.params).In h→h.Ns Wp mg→mg d.name=some (.ref fa) →
   ∃ fd:WC,(∀ (s:W1) (u:Value),BindsTo s fd ⟨[u],[]⟩ [(x,u)]) ∧
    ∀ base:Heap,(K w.params).In base→base.Ns Wp mg→FnOk l.prog w (K w.params) mg base (CX w) k fa fd [x] (sp w))
  (hsp:∀ (w:Wk) (H:Hp) (a:Addr) (ns:List Int),ns.length≤n→Only H→SqL (K w.params) H a (ns.map V.int)→sp w [.ref a] H (fun v _=>v = .bl true) fun _ _ _=>False)
  (hCX:∀ (w:Wk) (H:Hp) (s:W1) (e:Value) (s':W1),CX w [] H s (fun _ _ _=>False) e s'→False) :
  PySem.W.WalkO q loose XP YP l.row.toRowW d [] (fun f vs=>PySem.call f vs):=by
 refine Att.attach_call hn hdf fun w s₀ s₁ mg mb fa o pm cd doc a vs ns G Y ho hd hcd hmg hobj hints hlen hg=>?_
 have KX:=hY w _ Y
 obtain ⟨fd,hb,hF⟩:=F w mg fa _ KX G.T.g hmg
 exact za0 KX G.T.g G.T.b G.T.builtins G.T.nolimit hg hobj hints (WQ hlen hn2) hr hF hb (fun H hO hS=>hsp w H a ns hlen hO hS) fun H e s'=>hCX w H s₁ e s'
def z14 (s:Stmt):Arguments:=match s with
 | .FunctionDef _ a _ _ _ _ _ _ _ _=>a
 | _=>{ posonlyargs:=[],args:=[],vararg:=none,kwonlyargs:=[],kw_defaults:=[],kwarg:=none,defaults:=[] }
def z0v (s:Stmt):List Stmt:=match s with
 | .FunctionDef _ _ b _ _ _ _ _ _ _=>b
 | _=>[]
def z02 (s:Stmt):Scope:=match s with
 | .FunctionDef _ _ _ _ _ _ sc _ _ _=>sc
 | _=>{ kind:=.function,names:=[],isGenerator:=false,isCoroutine:=false }
abbrev CX0:CXT:=fun _ _ _ _ _ _=>False
abbrev E0:XK:=fun _ _ _=>False
theorem zcU:z9w CX0 X E0:=fun _ _ _ _ _ _ _ h=>h.elim
structure Fun (K:W2) (x qual:Str) (st:Stmt) (f:Addr) (fd:WC):Prop where
 ex:∃ (oc:Value) (od:Option Addr) (kV doc pm:Value) (an:Option Addr) (cdv ct:Value) (osl:Array (Option Value)),
  fd=WN x qual (z14 st) (z0v st) (z02 st) .none kV doc pm an cdv ct∧K.lookup f=some ⟨oc,od,.func fd,osl⟩∧PySem.W.codeIn K cdv qual=true
 kp:Qk K (.ref f)=true
section
variable {P:We} {w:Wk} {K:W2} {mg:Str→Option Value} {base:Heap}
theorem Fun.ok {x qual:Str} {st:Stmt} {f:Addr} {fd:WC} {N ps:List Str} {k:Nat} {sp:Sp} (F:Fun K x qual st f fd) (S:FnScope N ps (z02 st)) (len:∀ vs H Q E,sp vs H Q E→vs.length=ps.length)
  (hbody:∀ (cdv:Value) (A:Wm) (outer:List Env) (s:W1) (H:Hp) (vs:List V) (Q:VK) (E:XK),Room k (A.deeper (QI qual (z02 st) s.heap.objs.size f cdv))→sp vs H Q E →
   ∃ t,PSs (cxOf CX0 P w K mg base N qual (z02 st) f cdv A outer s H E).nox (z0v st) t∧t { nx:=fun _ H'=>Q .non H',rt:=Q } (z1y N vs) H):FnOk P w K mg base CX0 (k + 1) f fd ps sp:=by
 obtain ⟨oc,od,kV,doc,pm,an,cdv,ct,osl,rfl,lk,hcd⟩:=F.ex
 refine zdv lk hcd S len fun A outer s H vs Q E hr hsp=>?_
 obtain ⟨t,h,q⟩:=hbody cdv A outer s H vs Q E hr hsp
 exact ⟨t,h.nox,q⟩
theorem Fun.binds {x qual:Str} {st:Stmt} {f:Addr} {fd:WC} {ps:List Str} (F:Fun K x qual st f fd)
  (h:∀ (kV doc pm:Value) (an:Option Addr) (cdv ct:Value) (us:List Value),us.length=ps.length→bindArgs (WN x qual (z14 st) (z0v st) (z02 st) .none kV doc pm an cdv ct) ⟨us,[]⟩=pure (ps.zip us)):Binds K fd ps []:=by
 obtain ⟨oc,od,kV,doc,pm,an,cdv,ct,osl,rfl,lk,hcd⟩:=F.ex
 exact .all (h kV doc pm an cdv ct)
theorem z94 {x qual:Str} {st:Stmt} {f:Addr} {oc:Value} {od an:Option Addr} {osl:Array (Option Value)} {kV doc pm cdv ct:Value} (l:K.lookup f=some ⟨oc,od,.func (WN x qual (z14 st) (z0v st) (z02 st) .none kV doc pm an cdv ct),osl⟩)
  (c:PySem.W.codeIn K cdv qual=true) (k:Qk K (.ref f)=true):Fun K x qual st f (WN x qual (z14 st) (z0v st) (z02 st) .none kV doc pm an cdv ct):=⟨⟨oc,od,kV,doc,pm,an,cdv,ct,osl,rfl,l,c⟩,k⟩
end
theorem z87 (h:n≤1000):n < W7:=Nat.lt_of_le_of_lt h (by decide)
section
variable {X:Cx}
theorem pv (i:Nat) (hN:X.N[i]? = some x:=by rfl) (hv:Vis X.env.scope x:=by first | exact Or.inl rfl | exact Or.inr (Or.inl rfl) | exact Or.inr (Or.inr rfl)) (hd:(x == ("__debug__" : Str))=false:=by decide)
  (hcd:(x == ("__classdict__" : Str))=false:=by decide):PE X (.Name x pos) (tVar i):=zcJ hN hv hd hcd
theorem z9p:CallR X (.builtin "len") (fun xs H Q=>∃ a kvs,xs=[V.ref a]∧H a=some (.dK kvs)∧Q (.int kvs.length) H):=by
 intro pins s σ H xs us Q I r h
 obtain ⟨a,kvs,rfl,ha,q⟩:=h
 obtain ⟨u,rfl,ru⟩:=z33 r
 cases ru
 exact d_len I (.inl ha) fun t s' I'=>⟨.int kvs.length,H,I',⟨t,rfl⟩,q⟩
end
section
variable {κ:Type} [DecidableEq κ]
end
def z1g (cells:List (Str×Addr)):List (Str×NameKind)→List (Str×Addr)→List (Str×Addr)
 | [],acc=>acc
 | (n,k) :: r,acc=>z1g cells r (if k == .free then (match cells.lookup n with | some a=>(n,a) :: acc | none=>acc) else acc)
theorem z2E (f:Str×NameKind→List (Str×Addr)→Sem (ForInStep (List (Str×Addr))))
  (hf:∀ name kind cs,f (name,kind) cs=if kind == .free then (do let a ← cellOf env name; pure (.yield ((name,a) :: cs))) else pure (.yield cs)) :
  ∀ (names:List (Str×NameKind)) (acc:List (Str×Addr)),(∀ x ∈ names,x.2=NameKind.free→∃ c,env.cells.lookup x.1=some c)→(forIn names acc f:Sem (List (Str×Addr)))=pure (z1g env.cells names acc)
 | [],acc,_=>by rw [List.forIn_nil]; rfl
 | (n,k) :: r,acc,h=>by
  rw [List.forIn_cons,hf]
  unfold z1g
  by_cases hk:(k == NameKind.free)=true
  ·obtain ⟨c,hc⟩:=h (n,k) Wg (by simpa using hk)
   have hc':env.cells.lookup n=some c:=hc
   have e:cellOf env n=pure c:=by unfold cellOf; rw [hc']
   rw [if_pos hk,if_pos hk,e,hc']
   exact z2E f hf r _ fun x hx=>h x (Wd _ hx)
  ·rw [if_neg hk,if_neg hk]
   exact z2E f hf r _ fun x hx=>h x (Wd _ hx)
theorem z4G (h:∀ x ∈ scope.names,x.2=NameKind.free→∃ c,env.cells.lookup x.1=some c):closureFor scope env=pure (z1g env.cells scope.names []):=by
 unfold closureFor
 dsimp only
 rw [z2E (env:=env) _ (fun name kind cs=>by cases hkc:kind == NameKind.free <;> simp [hkc]) scope.names [] h]
 rfl
theorem z4F:∀ (names:List (Str×NameKind)) (acc:List (Str×Addr)),(n,c) ∈ z1g cells names acc→(n,c) ∈ acc∨((n,NameKind.free) ∈ names∧cells.lookup n=some c)
 | [],acc,h=>.inl h
 | (y,k) :: r,acc,h=>by
  unfold z1g at h
  rcases z4F r _ h with q | ⟨q,e⟩
  ·by_cases hk:(k == NameKind.free)=true
   ·rw [if_pos hk] at q
    have hk':k=NameKind.free:=by simpa using hk
    cases e:cells.lookup y with
    | none=>rw [e] at q; exact .inl q
    | some a =>
     rw [e] at q
     rcases Wf.mp q with z | z
     ·cases z
      exact .inr ⟨by rw [hk']; exact Wg,e⟩
     ·exact .inl z
   ·rw [if_neg hk] at q; exact .inl q
  ·exact .inr ⟨Wd _ q,e⟩
theorem z46:∀ (names:List (Str×NameKind)) (acc:List (Str×Addr)),(acc.lookup n).isSome=true∨((n,NameKind.free) ∈ names∧(cells.lookup n).isSome=true)→((z1g cells names acc).lookup n).isSome=true
 | [],acc,h=>h.elim id fun z=>absurd z.1 (by simp)
 | (y,k) :: r,acc,h=>by
  unfold z1g
  apply z46 r
  by_cases hk:(k == NameKind.free)=true
  ·rw [if_pos hk]
   cases e:cells.lookup y with
   | none =>
    rcases h with h | ⟨h1,h2⟩
    ·exact .inl h
    ·rcases Wf.mp h1 with z | z
     ·cases z
      rw [e] at h2; cases h2
     ·exact .inr ⟨z,h2⟩
   | some a =>
    by_cases hn:(n == y)=true
    ·refine .inl ?_
     show (List.lookup n ((y,a) :: acc)).isSome=true
     rw [Q3,hn]
     rfl
    ·rcases h with h | ⟨h1,h2⟩
     ·refine .inl ?_
      show (List.lookup n ((y,a) :: acc)).isSome=true
      have hn':(n == y)=false:=by simpa using hn
      rw [Q3,hn']
      exact h
     ·rcases Wf.mp h1 with z | z
      ·cases z
       exact absurd (by simp) hn
      ·exact .inr ⟨z,h2⟩
  ·rw [if_neg hk]
   rcases h with h | ⟨h1,h2⟩
   ·exact .inl h
   ·rcases Wf.mp h1 with z | z
    ·cases z
     exact absurd rfl hk
    ·exact .inr ⟨z,h2⟩
theorem z9l:∀ (names:List (Str×NameKind)) (h:Heap) (acc:List (Str×Addr)),(n,c) ∈ Qc h.objs.size names acc →
  (n,c) ∈ acc∨((n,NameKind.cell) ∈ names∧h.objs.size≤c∧(Jd h names).IsCell c none)
 | [],_,_,h=>.inl h
 | (y,k) :: r,h,acc,hm=>by
  unfold Qc at hm
  unfold Jd
  by_cases hk:(k == NameKind.cell)=true
  ·rw [if_pos hk] at hm
   rw [if_pos hk]
   have hk':k=NameKind.cell:=by simpa using hk
   have sz:(h.push { cls:=.type "cell",data:=.cell none }).objs.size=h.objs.size + 1:=QZ ..
   rw [← sz] at hm
   rcases z9l r _ _ hm with q | ⟨q1,q2,q3⟩
   ·rcases Wf.mp q with z | z
    ·cases z
     refine .inr ⟨by rw [hk']; exact Wg,Wb _,?_⟩
     exact Heap.IsCell.keeps ⟨_,Wh _ rfl,rfl⟩ (pushCells_keeps r _)
    ·exact .inl z
   ·exact .inr ⟨Wd _ q1,by rw [sz] at q2; omega,q3⟩
  ·rw [if_neg hk] at hm
   rw [if_neg hk]
   rcases z9l r _ _ hm with q | ⟨q1,q2,q3⟩
   ·exact .inl q
   ·exact .inr ⟨Wd _ q1,q2,q3⟩
theorem z9m:∀ (names:List (Str×NameKind)) (k:Nat) (acc:List (Str×Addr)),(∀ n n' c,(n,c) ∈ acc→(n',c) ∈ acc→n=n')→(∀ n c,(n,c) ∈ acc→c < k) →
  ∀ n n' c,(n,c) ∈ Qc k names acc→(n',c) ∈ Qc k names acc→n=n'
 | [],_,_,h,_=>h
 | (y,kd) :: r,k,acc,h,hb=>by
  unfold Qc
  by_cases hk:(kd == NameKind.cell)=true
  ·rw [if_pos hk]
   refine z9m r (k + 1) _ (fun n n' c h1 h2=>?_) fun n c hm=>?_
   ·rcases Wf.mp h1 with e | h1 <;> rcases Wf.mp h2 with e' | h2
    ·cases e; cases e'; rfl
    ·cases e; exact absurd (hb _ _ h2) (WX _)
    ·cases e'; exact absurd (hb _ _ h1) (WX _)
    ·exact h n n' c h1 h2
   ·rcases Wf.mp hm with e | hm
    ·cases e; exact Jn _
    ·exact Qq (hb _ _ hm)
  ·rw [if_neg hk]
   exact z9m r k acc h hb
theorem z0y {env:Env} {x:Str}:∀ {names:List (Str×NameKind)} {k:NameKind},
  (names.map fun (y:Str×NameKind)=>if (y.2 == NameKind.free && env.scope.kind == .function && env.kindOf y.1 == some .cell) then (y.1,NameKind.cell) else (y.1,y.2)).lookup x=some k →
  names.lookup x=some k∨(k=NameKind.cell∧names.lookup x=some .free)
 | [],_,h=>by simp at h
 | (n,kd) :: r,k,h=>by
  rw [Wj] at h
  have ih:=@z0y env x r k
  cases hx:x == n with
  | true =>
   by_cases hc:(kd == NameKind.free && env.scope.kind == .function && env.kindOf n == some .cell)=true
   ·rw [if_pos hc,Q3,hx] at h
    cases h
    simp only [Ws] at hc
    have:kd=NameKind.free:=by simpa using hc.1.1
    exact .inr ⟨rfl,by rw [Q3,hx,this]⟩
   ·rw [if_neg hc,Q3,hx] at h
    cases h
    exact .inl (by rw [Q3,hx])
  | false =>
   have h':(r.map fun (y:Str×NameKind)=>if (y.2 == NameKind.free && env.scope.kind == .function && env.kindOf y.1 == some .cell) then (y.1,NameKind.cell) else (y.1,y.2)).lookup x=some k:=by
    by_cases hc:(kd == NameKind.free && env.scope.kind == .function && env.kindOf n == some .cell)=true
    ·rw [if_pos hc,Q3,hx] at h; exact h
    ·rw [if_neg hc,Q3,hx] at h; exact h
   rw [Q3,hx]
   exact ih h'
def z16 (X:Cx) (scope:Scope) (s₀:W1) (H₀:Hp) (ex:List Addr):Cx :=
 { X with
  env:={ scope:=relabel scope X.env,locals:=s₀.heap.objs.size,globals:=X.env.globals,cells:=Qc (s₀.heap.objs.size + 1) scope.names (z1g X.env.cells scope.names []),qual:=X.env.qual,func:=none,code:=X.env.code,frame:=X.env.frame,builtins:=X.env.builtins }
  s₀:=s₀
  H₀:=H₀
  outer:=X.stack
  ex:=ex
  fn:=fun x=>scope.names.lookup x == some .cell
  pn:=[]
  xe:=fun _ _=>False }
structure CScope (X:Cx) (scope:Scope) (cs:List Nat):Prop where
 kind:scope.kind = .function
 names:∀ x ∈ scope.names,x.2 = .local→scope.names.lookup x.1=some .local
 free:∀ x ∈ scope.names,x.2 = .free→X.env.kindOf x.1=some .cell∨X.env.kindOf x.1=some .free
 nd:(scope.names.map (·.1)).Nodup
 own:∀ (i:Nat) x,X.N[i]? = some x→scope.names.lookup x=some .local∨scope.names.lookup x=some .cell→i ∈ cs
def clr (cs:List Nat) (σ:St):St:=cs.foldl (fun σ i=>σ.set i none) σ
theorem z5j (cs:List Nat):∀ σ:St,(clr cs σ).length=σ.length:=by
 induction cs with
 | nil=>intro σ; rfl
 | cons i r ih =>
  intro σ
  show (clr r (σ.set i none)).length=_
  rw [ih]; simp
theorem z2d:∀ (cs:List Nat) (σ:St) (i:Nat) (v:V),(clr cs σ)[i]? = some (some v)→σ[i]? = some (some v)∧i ∉ cs:=by
 intro cs
 induction cs with
 | nil=>intro σ i v h; exact ⟨h,by simp⟩
 | cons j r ih =>
  intro σ i v h
  have h':(clr r (σ.set j none))[i]? = some (some v):=h
  obtain ⟨h1,h2⟩:=ih _ i v h'
  by_cases e:j=i
  ·subst e
   rw [WW] at h1
   simp at h1
  ·rw [W9 e] at h1
   exact ⟨h1,by simp only [Wf,not_or]; exact ⟨Ne.symm e,h2⟩⟩
theorem z3O:∀ {l:List (Str×α)},(l.map (·.1)).Nodup→(x,k) ∈ l→(x,k') ∈ l→k=k'
 | (y,j) :: r,nd,h1,h2=>by
  rw [Wj,List.nodup_cons] at nd
  rcases Wf.mp h1 with e | g1 <;> rcases Wf.mp h2 with e' | g2
  ·cases e; cases e'; rfl
  ·cases e; exact absurd (WK (f:=(·.1)) g2) nd.1
  ·cases e'; exact absurd (WK (f:=(·.1)) g1) nd.1
  ·exact z3O nd.2 g1 g2
section
variable {X:Cx} {pins:List (Addr×Obj)} {σ:St} {H:Hp} {s:W1} {scope:Scope} {cs:List Nat} {fp:List Addr}
theorem z7I (I:Inv X pins σ H s) (S:CScope X scope cs) (hf:∀ b ∈ fp,FpOk X pins H b) (hlt:∀ b ∈ fp,b < s.heap.objs.size) :
  Inv (z16 X scope s H fp) [] (clr cs σ) H { s with heap:=Jd (s.heap.push { cls:=.type "dict",data:=.dict #[] }) scope.names }:=by
 have sz:(s.heap.push { cls:=.type "dict",data:=.dict #[] }).objs.size=s.heap.objs.size + 1:=QZ ..
 have kp:∀ b o,s.heap.get? b=some o→(Jd (s.heap.push { cls:=.type "dict",data:=.dict #[] }) scope.names).get? b=some o:=fun b o e=>pushCells_keeps _ _ b o (W3 _ e)
 have clo:∀ n c,(n,c) ∈ z1g X.env.cells scope.names []→(n,NameKind.free) ∈ scope.names∧X.env.cells.lookup n=some c:=fun n c h=>(z4F _ _ h).elim (fun z=>absurd z (by simp)) id
 have cltm:∀ n c,(n,c) ∈ z1g X.env.cells scope.names []→c < s.heap.objs.size:=fun n c h=>by
  obtain ⟨v,q⟩:=I.cell n c (clo n c h).2
  exact q.lt
 have cel:∀ n c,(n,c) ∈ Qc (s.heap.objs.size + 1) scope.names (z1g X.env.cells scope.names []) →
   ((n,NameKind.free) ∈ scope.names∧X.env.cells.lookup n=some c)∨((n,NameKind.cell) ∈ scope.names∧s.heap.objs.size + 1≤c∧(Jd (s.heap.push { cls:=.type "dict",data:=.dict #[] }) scope.names).IsCell c none):=fun n c h=>by
  rw [← sz] at h
  rcases z9l _ _ _ h with q | q
  ·exact .inl (clo n c q)
  ·rw [sz] at q; exact .inr q
 have cinj:=z9m scope.names (s.heap.objs.size + 1) (z1g X.env.cells scope.names []) (fun n n' c h1 h2=>I.ok.inj n n' c (clo n c h1).2 (clo n' c h2).2) (fun n c h=>Qq (cltm n c h))
 have hasC:∀ x ∈ scope.names,x.2 = .free→∃ c,X.env.cells.lookup x.1=some c:=fun x hx hk=>I.ok.has x.1 (S.free x hx hk)
 have fpn:∀ b ∈ fp,b ∉ frs X.stack:=fun b hb z=>by
  obtain ⟨_,f1,f2,_⟩:=hf b hb
  rcases Wf.mp (I.stkSub b z) with e | e
  ·exact f1 e
  ·exact f2 e
 have kindC:∀ x,(z16 X scope s H fp).env.kindOf x=some .cell∨(z16 X scope s H fp).env.kindOf x=some .free→scope.names.lookup x=some .cell∨scope.names.lookup x=some .free:=fun x h=>by
  rcases h with h | h
  ·have h':(relabel scope X.env).names.lookup x=some .cell:=h
   rcases z0y (env:=X.env) (names:=scope.names) h' with q | ⟨_,q⟩
   ·exact .inl q
   ·exact .inr q
  ·have h':(relabel scope X.env).names.lookup x=some .free:=h
   rcases z0y (env:=X.env) (names:=scope.names) h' with q | ⟨q,_⟩
   ·exact .inr q
   ·cases q
 have hasIt:∀ x,scope.names.lookup x=some .cell∨scope.names.lookup x=some .free→∃ c,(Qc (s.heap.objs.size + 1) scope.names (z1g X.env.cells scope.names [])).lookup x=some c:=fun x h=>by
  refine Option.isSome_iff_exists.mp (QU scope.names _ _ ?_)
  rcases h with h | h
  ·exact .inl h
  ·refine .inr (z46 _ _ (.inr ⟨Wq h,?_⟩))
   obtain ⟨c,hc⟩:=hasC _ (Wq h) rfl
   exact Option.isSome_iff_exists.mpr ⟨c,hc⟩
 have ns0:(Jd (s.heap.push { cls:=.type "dict",data:=.dict #[] }) scope.names).Ns s.heap.objs.size fun _=>none:=(Heap.Ns.new s.heap (.type "dict")).keeps (pushCells_keeps _ _)
 refine ⟨⟨I.ok.mod,S.kind,I.ok.glob,I.ok.blt,Wb _,fun y z c h1 h2=>cinj y z c (Wq h1) (Wq h2),fun x hx=>hasIt x (kindC x hx),fun x c hfn h=>?_,I.ok.hd,I.ok.frames,.inl rfl,
  fun b hb=>⟨Wu (hlt b hb),fun x c h e=>?_⟩,I.bs,WQ I.ok.bsz I.sz,fun b o e hb=>?_,fpn,I.stack,I.stkFree⟩,
  rfl,I.bare,Un.kept kp,⟨fun _=>none,ns0,fun i x v h1 h2 h3=>?_⟩,fun x c h=>?_,I.hok.fresh (Wb _),fun x c h=>?_,fun p hp=>absurd (show p ∈ ([]:List (Addr×Obj)) from hp) (by simp),I.hok.kept kp,(z5j cs σ).trans I.len⟩
 ·rcases cel x c (Wq h) with q | q
  ·have hfn':scope.names.lookup x=some .cell:=by
    have:(scope.names.lookup x == some .cell)=true:=hfn
    exact eq_of_beq this
   have:=z3O S.nd q.1 (Wq hfn')
   cases this
  ·exact Nat.le_of_succ_le q.2.1
 ·subst e
  rcases cel x c (Wq h) with q | q
  ·exact (hf c hb).2.2.2.2.1 x c q.2 rfl
  ·exact absurd (Wv (hlt c hb) (Nat.le_of_succ_le q.2.1)) (WX _)
 ·obtain ⟨_,_,_,f3,_⟩:=hf b hb
  rcases f3 with z | z
  ·exact I.ok.noex b o e z
  ·exact absurd (Wv (Wi (I.ok.bs b o e).1) z) (WX _)
 ·obtain ⟨h2',hni⟩:=z2d cs σ i v h2
  have hni':¬ (scope.names.lookup x=some .local∨scope.names.lookup x=some .cell):=fun z=>hni (S.own i x h1 z)
  have hfree:scope.names.lookup x=some .free:=by
   rcases h3 with h3 | h3 | h3
   ·rcases z0y (env:=X.env) (names:=scope.names) h3 with q | ⟨q,_⟩
    ·exact absurd (.inl q) hni'
    ·cases q
   ·rcases z0y (env:=X.env) (names:=scope.names) h3 with q | ⟨_,q⟩
    ·exact absurd (.inr q) hni'
    ·exact q
   ·rcases z0y (env:=X.env) (names:=scope.names) h3 with q | ⟨q,_⟩
    ·exact q
    ·cases q
  have hk:=S.free _ (Wq hfree) rfl
  obtain ⟨m,hn,hl⟩:=I.loc
  have hvis:Vis X.env.scope x:=by
   rcases hk with hk | hk
   ·exact .inr (.inl hk)
   ·exact .inr (.inr hk)
  obtain ⟨u,r,l⟩:=hl i x v h1 h2' hvis
  refine ⟨u,r,?_⟩
  rcases l with ⟨k,_⟩ | ⟨_,c,hc,hcell⟩
  ·have k':X.env.kindOf x=some .local:=k
   rcases hk with hk | hk
   ·rw [show X.env.kindOf x=some .cell from hk] at k'; cases k'
   ·rw [show X.env.kindOf x=some .free from hk] at k'; cases k'
  ·obtain ⟨c',hc'⟩:=hasIt x (.inr hfree)
   have e:c'=c:=by
    rcases cel x c' (Wq hc') with q | q
    ·have q2:=q.2
     rw [hc] at q2; exact (Ww q2).symm
    ·have:=z3O S.nd q.1 (Wq hfree)
     cases this
   subst e
   refine .inr ⟨?_,c',hc',hcell.keeps kp⟩
   rcases h3 with h3 | h3 | h3
   ·rcases z0y (env:=X.env) (names:=scope.names) h3 with q | ⟨q,_⟩
    ·rw [hfree] at q; cases q
    ·cases q
   ·exact .inl h3
   ·exact .inr h3
 ·rcases cel x c (Wq h) with q | q
  ·obtain ⟨v,z⟩:=I.cell x c q.2
   exact ⟨v,z.keeps kp⟩
  ·exact ⟨none,q.2.2⟩
 ·rcases cel x c (Wq h) with q | q
  ·exact I.freeC x c q.2
  ·exact I.hok.fresh (Nat.le_of_succ_le q.2.1)
end
abbrev NoX:Value→W1→Prop:=fun _ _=>False
def zaM (ifs:List Expr) (env:Env):Sem Bool:=forIn ifs true fun c r=>if r=true then do let ok ← isTrue c env (eval c env); pure (ForInStep.yield ok) else pure (ForInStep.yield r)
theorem z68 (I:Nat→W1→Prop)
  (turn:∀ n s,I n s→W6 (model prog w) A (Qa it) (fun r s₁=>match r with
   | none=>R (.ok .next) s₁
   | some v=>W6 (model prog w) A (letOwnedTupleGo target it v) (fun _ s₁'=>W6 (model prog w) A (assign target env v) (fun _ s₂ =>
     W6 (model prog w) A (zaM ifs env) (fun ok s₃ =>
      if ok=true then W6 (model prog w) A (eval elt env) (fun x s₄ =>
       W6 (model prog w) A (call (.builtin "list.append") [acc,x]) (fun _ s₅=>∃ m,m < n∧I m s₅) NoX s₄) NoX s₃
      else ∃ m,m < n∧I m s₃) NoX s₂) NoX s₁') NoX s₁) NoX s)
  (n:Nat) (h:I n s) :
  Q1 (model prog w) A (.compLoop (.ListComp elt [⟨target,iter,ifs,0⟩] scope pos) 0 it acc env) R s:=by
 refine codeAny_loop rfl I (fun n s hI=>?_) n h
 show W6 _ A ((compTurn (.ListComp elt [⟨target,iter,ifs,0⟩] scope pos) 0 it acc env).onRaise (fun x=>do noteFrame x env; theTreesLotGoes x)) _ _ s
 refine wpAny_noted ?_
 rw [compTurn_list]
 refine W0 (wpAny_standAt (W0 (WA (turn n s hI) (fun r s₁ h₁=>?_) fun _ _ h'=>h'.elim)))
 cases r with
 | none=>exact W4 h₁
 | some v =>
  refine W0 (WA h₁ (fun _ s₁' h₁'=>?_) fun _ _ h'=>h'.elim)
  refine W0 (WA h₁' (fun _ s₂ h₂=>W0 (WA h₂ (fun ok s₃ h₃=>?_) fun _ _ h'=>h'.elim)) fun _ _ h'=>h'.elim)
  cases ok with
  | false=>exact W4 ⟨rfl,h₃⟩
  | true =>
   exact W0 (W0 (WA h₃ (fun x s₄ h₄=>W0 (WA h₄ (fun _ s₅ h₅=>W4 (W4 ⟨rfl,h₅⟩)) fun _ _ h'=>h'.elim)) fun _ _ h'=>h'.elim))
theorem z7y
  (h:Q { scope,locals:=s.heap.objs.size,globals,cells:=Qc (s.heap.objs.size + 1) scope.names cl,qual,func:=none,code:=env.code,frame:=env.frame,builtins:=env.builtins }
   { s with heap:=Jd (s.heap.push { cls:=.type "dict",data:=.dict #[] }) scope.names }):W6 M A (newFunctionEnv scope globals cl [] qual none .none (some env)) Q E s:=by
 simp only [newFunctionEnv,Option.isSome_some,if_true]
 refine W0 (wpAny_alloc ?_)
 refine W0 (wpAny_layCells _ (fun name kind cells=>by cases hkc:kind == NameKind.cell <;> simp [hkc]) _ _ _ _ ?_)
 rw [show ({ s with heap:=s.heap.push { cls:=.type "dict",data:=.dict #[] } }:W1).heap.objs.size=s.heap.objs.size + 1 from QZ ..]
 exact W0 (W4 (W4 h))
def PTs (X:Cx) (ifs:List Expr) (t:TT):Prop :=
 ∀ (pins:List (Addr×Obj)) (s:W1) (σ:St) (H:Hp) (Q:Bool→Hp→Prop),Inv X pins σ H s→t σ H Q→W6 (model X.prog X.w) X.A (zaM ifs X.env) (TP X pins σ Q) X.xe s
def tYes:TT:=fun _ H Q=>Q true H
theorem zbf:PTs X [] tYes:=fun pins s σ H Q I h=>wpAny_tests_nil ⟨H,I,h⟩
def Le (σ σ':St):Prop:=σ'.length=σ.length∧∀ (i:Nat) (v:V),σ[i]? = some (some v)→σ'[i]? = some (some v)
def zaN (cs:List Nat) (g:TG) (tt:TT) (te:TE) (σ:St) (Q:VK) (J:It) (H1:Hp):Prop :=
 ∀ l,H1 l=none→∃ W:Nat→Nat→Hp→Prop,(∃ m,W 0 m (upd H1 l (.lst [])))∧∀ i m H2,W i m H2 →
  (J.stop i H2∧Q (.ref l) H2) ∨
  (J.go i H2∧∀ x H3,J.yld i H2 x H3→g x (clr cs σ) H3 fun σ4 H4=>Le (clr cs σ) σ4∧tt σ4 H4 fun b H5 =>
   if b=true then te σ4 H5 fun v H6=>∃ ys m',H6 l=some (.lst ys)∧ys.length < W7∧m' < m∧W (i + 1) m' (upd H6 l (.lst (ys ++ [v]))) else ∃ m',m' < m∧W (i + 1) m' H5)
def zaT (cs:List Nat) (wi:TI) (g:TG) (tt:TT) (te:TE):TE:=fun σ H Q=>wi σ H fun J H1=>zaN cs g tt te σ Q J H1
section
variable {X:Cx} {pins:List (Addr×Obj)} {σ:St} {H:Hp} {s:W1} {scope:Scope} {cs:List Nat} {elt tg iter:Expr} {ifs:List Expr} {pos:Pos} {g:TG} {tt:TT} {te:TE}
theorem z4E {it:Addr} {fp:List Addr} {tn:Nat→Heap→Prop} {J:It} {Q:VK} {E:Value→W1→Prop} {RR:Value→Addr→Result→W1→Prop} (hc:X.calm=true) (I:Inv X pins σ H s) (S:CScope X scope cs)
  (T:Turn X.prog X.w X.K tg J fp it tn) (st:tn 0 s.heap) (hf:∀ b ∈ fp,FpOk X pins H b)
  (hg:∀ s₀ H₀ ex,PG (z16 X scope s₀ H₀ ex) tg g) (ht:∀ s₀ H₀ ex,PTs (z16 X scope s₀ H₀ ex) ifs tt) (he:∀ s₀ H₀ ex,PE (z16 X scope s₀ H₀ ex) elt te) (q:zaN cs g tt te σ Q J H)
  (hRR:∀ l C s' H',Inv X pins σ H' s'→FpOk X pins H' C→(∃ m,s'.heap.Ns C m)→Q (.ref l) H'→RR (.ref l) C (.ok .next) s') :
  W6 (model X.prog X.w) X.A (newList []) (fun acc s₃=>W6 (model X.prog X.w) X.A (newFunctionEnv scope X.env.globals (z1g X.env.cells scope.names []) [] X.env.qual none .none (some X.env)) (fun cenv s₄ =>
   Q1 (model X.prog X.w) X.A (.compStart (.ListComp elt [⟨tg,iter,ifs,0⟩] scope pos) 0 (.ref it) acc { cenv with scope:=relabel scope X.env }) (RR acc cenv.locals) s₄) E s₃) E s:=by
 refine WO ?_
 have hfr:H s.heap.objs.size=none:=I.hok.fresh (Wb _)
 obtain ⟨W,⟨m0,w0⟩,turn⟩:=q s.heap.objs.size hfr
 generalize hl:s.heap.objs.size=l at *
 have I3:Inv X pins σ (upd H l (.lst [])) { s with heap:=s.heap.push { cls:=.type "list",dict:=none,data:=.seq ([]:List Value).toArray } } :=
  I.laid (t':=s.toks) (fun b u e=>W3 _ e) (Nat.le_of_eq hl) ⟨Qf _,[],0,.nil,by rw [← hl]; exact Wh _ rfl⟩
 have kp3:∀ b o,s.heap.get? b=some o→(s.heap.push { cls:=.type "list",dict:=none,data:=.seq ([]:List Value).toArray }).get? b=some o:=fun b o e=>W3 _ e
 have hfl:∀ b ∈ fp,b≠l:=fun b hb e=>by
  obtain ⟨o,ho,_⟩:=T.obj 0 _ st b hb
  exact absurd (Wi ho) (by rw [e,hl]; exact WX _)
 have hf3:∀ b ∈ fp,FpOk X pins (upd H l (.lst [])) b:=fun b hb=>⟨by rw [z06 (hfl b hb)]; exact (hf b hb).1,(hf b hb).2⟩
 have st3:tn 0 (s.heap.push { cls:=.type "list",dict:=none,data:=.seq ([]:List Value).toArray }):=T.keep 0 _ _ st fun b _ o e=>kp3 b o e
 generalize hs3:({ s with heap:=s.heap.push { cls:=.type "list",dict:=none,data:=.seq ([]:List Value).toArray } }:W1)=s3 at I3
 have st3':tn 0 s3.heap:=by rw [← hs3]; exact st3
 have hlt3:∀ b ∈ fp,b < s3.heap.objs.size:=fun b hb=>by
  obtain ⟨o,ho,_⟩:=T.obj 0 _ st3' b hb
  exact Wi ho
 refine z7y ?_
 have I4:=z7I I3 S hf3 hlt3
 generalize hX:z16 X scope s3 (upd H l (.lst [])) fp=X' at I4
 generalize hs4:({ s3 with heap:=Jd (s3.heap.push { cls:=.type "dict",data:=.dict #[] }) scope.names }:W1)=s4 at I4 ⊢
 have hg':=hg s3 (upd H l (.lst [])) fp
 have ht':=ht s3 (upd H l (.lst [])) fp
 have he':=he s3 (upd H l (.lst [])) fp
 rw [hX] at hg' ht' he'
 have st4:tn 0 s4.heap:=T.keep 0 _ _ st3' fun b _ o e=>by rw [← hs4]; exact pushCells_keeps _ _ b o (W3 _ e)
 have hP:X'.prog=X.prog:=by rw [← hX]; rfl
 have hw:X'.w=X.w:=by rw [← hX]; rfl
 have hA:X'.A=X.A:=by rw [← hX]; rfl
 have hK:X'.K=X.K:=by rw [← hX]; rfl
 have hc':X'.calm=true:=by rw [← hX]; exact hc
 have hxe:X'.xe=NoX:=by rw [← hX]; rfl
 have hloc:X'.env.locals=s3.heap.objs.size:=by rw [← hX]; rfl
 have henv:({ scope:=relabel scope X.env,locals:=s3.heap.objs.size,globals:=X.env.globals,cells:=Qc (s3.heap.objs.size + 1) scope.names (z1g X.env.cells scope.names []),qual:=X.env.qual,func:=none,code:=X.env.code,frame:=X.env.frame,builtins:=X.env.builtins }:Env)=X'.env:=by rw [← hX]; rfl
 have fpx:∀ {H':Hp},(∀ b ∈ fp,H' b=none)→∀ b ∈ fp,FpOk X' [] H' b:=fun {H'} hn b hb=>by
  have ex:X'.ex=fp:=by rw [← hX]; rfl
  have pn:X'.pn=[]:=by rw [← hX]; rfl
  refine ⟨hn b hb,(I4.ok.exf b (by rw [ex]; exact hb)).1,I4.ok.exfs b (by rw [ex]; exact hb),.inl (by rw [ex]; exact hb),(I4.ok.exf b (by rw [ex]; exact hb)).2,fun p hp=>?_⟩
  rw [pn] at hp
  simp at hp
 show Q1 (model X.prog X.w) X.A (.compStart (.ListComp elt [⟨tg,iter,ifs,0⟩] scope pos) 0 (.ref it) (.ref l) ({ scope:=relabel scope X.env,locals:=s3.heap.objs.size,globals:=X.env.globals,cells:=Qc (s3.heap.objs.size + 1) scope.names (z1g X.env.cells scope.names []),qual:=X.env.qual,func:=none,code:=X.env.code,frame:=X.env.frame,builtins:=X.env.builtins }:Env)) (RR (.ref l) s3.heap.objs.size) s4
 rw [henv]
 have loop:Q1 (model X.prog X.w) X.A (.compLoop (.ListComp elt [⟨tg,iter,ifs,0⟩] scope pos) 0 (.ref it) (.ref l) X'.env) (RR (.ref l) s3.heap.objs.size) s4:=by
  refine z68 (fun n s'=>∃ i H',Inv X' [] (clr cs σ) H' s'∧tn i s'.heap∧(∀ b ∈ fp,H' b=none)∧W i n H') ?_ m0 ⟨0,_,I4,st4,fun b hb=>(hf3 b hb).1,w0⟩
  rintro n s5 ⟨i,H5,I5,st5,fr5,w5⟩
  rcases turn i n H5 w5 with ⟨stop,qn⟩ | ⟨go,step⟩
  ·have:=T.done X' hP hw hK hc' i [] s5 (clr cs σ) H5 NoX I5 (fpx fr5) st5 stop
   rw [hA] at this
   refine thn this fun r s6 ⟨hr,I6⟩=>?_
   subst hr
   have b6:=I6.base
   have e1:X'.fs=frs X.stack:=by rw [← hX]; rfl
   have e2:X'.ex=fp:=by rw [← hX]; rfl
   have e3:X'.H₀=upd H l (.lst []):=by rw [← hX]; rfl
   have e4:X'.s₀=s3:=by rw [← hX]; rfl
   rw [e1,e2,e3,e4] at b6
   have o6:s6.os=s3.os:=by rw [← e4]; exact I6.os
   have hok6:HOk X.prog X.w H5 s6.heap:=by rw [← hP,← hw]; exact I6.hok
   have J6:Inv X pins σ H5 s6:=I3.call' o6 b6 hok6 I6.bare fun b hb=>by
    obtain ⟨_,f1,_,f3,f4,f5⟩:=hf3 b hb
    exact ⟨f3,f1,f4,f5⟩
   obtain ⟨m6,n6,_⟩:=I6.loc
   rw [hloc] at n6
   refine hRR l s3.heap.objs.size s6 H5 J6 (I3.fpOk (Wb _) ?_) ⟨m6,n6⟩ qn
   rw [← hloc]
   exact I6.free
  ·have:=T.item X' hP hw hK hc' i [] s5 (clr cs σ) H5 NoX I5 (fpx fr5) st5 go
   rw [hA] at this
   refine thn this fun r s6 ⟨u,hr,h6⟩=>?_
   subst hr
   refine thn h6 fun _ s7 ⟨x,H7,I7,r7,y7,st7,fr7⟩=>?_
   have I7':=I7.pinned (fpx fr7) (T.obj _ _ st7)
   have a8:=hg' _ s7 (clr cs σ) H7 x u _ I7' r7 (step x H7 y7)
   rw [hP,hw,hA,hxe] at a8
   refine thn a8 fun _ s8 ⟨σ8,H8,I8,le8,q8⟩=>?_
   have a9:=ht' _ s8 σ8 H8 _ I8 q8
   rw [hP,hw,hA,hxe] at a9
   refine thn a9 fun ok s9 ⟨H9,I9,q9⟩=>?_
   have back:∀ {H':Hp} {s':W1},Inv X' ([] ++ z5E fp s7.heap) σ8 H' s'→Inv X' [] (clr cs σ) H' s'∧tn (i + 1) s'.heap∧∀ b ∈ fp,H' b=none:=fun {H' s'} J=>by
    refine ⟨J.unpinned.weak (le8.1.symm) le8.2,T.keep _ _ _ st7 fun b hb o e=>(J.pin (b,o) (WF _ (WF _ (z2i hb e)))).1,fun b hb=>?_⟩
    obtain ⟨o,e,d⟩:=T.obj _ _ st7 b hb
    exact (J.pin (b,o) (WF _ (WF _ (z2i hb e)))).2.1
   cases ok with
   | false =>
    rw [if_neg Q0] at q9 ⊢
    obtain ⟨m',hm,w9⟩:=q9
    obtain ⟨b1,b2,b3⟩:=back I9
    exact ⟨m',hm,i + 1,H9,b1,b2,b3,w9⟩
   | true =>
    rw [if_pos rfl] at q9 ⊢
    have a10:=he' _ s9 σ8 H9 _ I9 q9
    rw [hP,hw,hA,hxe] at a10
    refine thn a10 fun x10 s10 ⟨v,H10,I10,r10,ys,m',hy,hz,hm,w10⟩=>?_
    have a11:=z5Q (X:=X') _ s10 σ8 H10 (.ref l) [v] (.ref l) [x10] (fun _ H'=>W (i + 1) m' H') I10 rfl (.cons r10 .nil) ⟨l,ys,v,rfl,rfl,hy,hz,w10⟩
    rw [hP,hw,hA,hxe] at a11
    refine thn a11 fun _ s11 ⟨_,H11,I11,_,w11⟩=>?_
    obtain ⟨b1,b2,b3⟩:=back I11
    exact ⟨m',hm,i + 1,H11,b1,b2,b3,w11⟩
 exact codeAny_compStart_list loop (T.self X.A 0 s4 _ _ st4 loop)
theorem zbp (hc:X.calm=true) (S:CScope X scope cs) (hi:PI X tg iter wi) (hg:∀ s₀ H₀ ex,PG (z16 X scope s₀ H₀ ex) tg g) (ht:∀ s₀ H₀ ex,PTs (z16 X scope s₀ H₀ ex) ifs tt) (he:∀ s₀ H₀ ex,PE (z16 X scope s₀ H₀ ex) elt te)
  (hs:∀ x,QB iter X.env x=pure x:=by intro _; rfl):PE X (.ListComp elt [⟨tg,iter,ifs,0⟩] scope pos) (zaT cs wi g tt te):=by
 intro pins s σ H Q I h
 have hasC:∀ x ∈ scope.names,x.2 = .free→∃ c,X.env.cells.lookup x.1=some c:=fun x hx hk=>I.ok.has x.1 (S.free x hx hk)
 rw [eval_ListComp]
 refine wpAny_comprehension_free (use:=none) rfl hs (z4G hasC) S.kind S.names (thn (hi pins s σ H _ I h) fun xv s1 h1=>thn h1 fun itv s2 h2=>?_)
 obtain ⟨it,fp,tn,J,H2,e,I2,T,st2,f2,q2⟩:=h2
 subst e
 refine z4E (RR:=fun acc C=>compPost (model X.prog X.w) X.A X.xe none (EP X pins σ Q) acc C) hc I2 S T st2 f2 hg ht he q2 ?_
 intro l C s' H' I' fC ⟨m,n⟩ q
 exact ⟨m,n,fun h' hs'=>⟨.ref l,H',I'.turned (t':=s'.toks) (fun b o hb e=>(hs'.2 b hb).trans e) fC.1 fC.2.1 fC.2.2.2.1 fC.2.2.2.2.1 fC.2.2.2.2.2,rfl,q⟩⟩
theorem z7t (hc:X.calm=true) (S:CScope X scope cs) (hN:X.N.Nodup) (hi':X.N[i]? = some y) (hy:X.env.scope.names.lookup y=some .local)
  (hi:PI X tg iter wi) (hg:∀ s₀ H₀ ex,PG (z16 X scope s₀ H₀ ex) tg g) (ht:∀ s₀ H₀ ex,PTs (z16 X scope s₀ H₀ ex) ifs tt) (he:∀ s₀ H₀ ex,PE (z16 X scope s₀ H₀ ex) elt te)
  (hsw:Ja (.ListComp elt [⟨tg,iter,ifs,0⟩] scope pos) (some (.Name y py)) spos.line X.env=pure true:=by rfl)
  (hs:∀ x,QB iter X.env x=pure x:=by intro _; rfl):PS X (.Assign [.Name y py] (.ListComp elt [⟨tg,iter,ifs,0⟩] scope pos) spos) (tAsg (zaT cs wi g tt te) (za3 i)):=by
 intro pins s σ H D I h
 have hasC:∀ x ∈ scope.names,x.2 = .free→∃ c,X.env.cells.lookup x.1=some c:=fun x hx hk=>I.ok.has x.1 (S.free x hx hk)
 rw [exec_Assign_Name_used _ _ _ _ hsw]
 refine W0 (wpAny_standAt (W0 ?_))
 show W6 _ X.A (do let _ ← comprehension (.ListComp elt [⟨tg,iter,ifs,0⟩] scope pos) scope X.env _ (newList []) false (eval iter X.env) (some (assign (.Name y py) X.env))) _ _ s
 refine W0 (WA (wpAny_comprehension_free (use:=some (assign (.Name y py) X.env)) (Q:=fun _ s'=>SP X pins D .next s') rfl hs (z4G hasC) S.kind S.names
  (thn (hi pins s σ H _ I h) fun xv s1 h1=>thn h1 fun itv s2 h2=>?_)) (fun _ s' hq=>W4 (W4 hq)) fun _ _ e=>e)
 obtain ⟨it,fp,tn,J,H2,e,I2,T,st2,f2,q2⟩:=h2
 subst e
 refine z4E (RR:=fun acc C=>compPost (model X.prog X.w) X.A X.xe (some (assign (.Name y py) X.env)) (fun _ s'=>SP X pins D .next s') acc C) hc I2 S T st2 f2 hg ht he q2 ?_
 intro l C s' H' I' fC ⟨m,n⟩ q
 show W6 _ X.A (assign (.Name y py) X.env (.ref l)) _ _ _
 refine wpAny_assign_Name (z5q I' hN hi' (.inl hy) (v:=.ref l) rfl (fun s'' I'' ⟨a,hsb,ha⟩=>?_) (.inr hy))
 have hne:C≠a:=by
  rcases ha with rfl | ha
  ·exact fC.2.1
  ·exact fun e=>fC.2.2.2.2.1 y a ha e.symm
 refine ⟨m,n.sameBut hsb hne,fun h' hs'=>⟨_,H',I''.turned (t':=s''.toks) (fun b o hb e=>(hs'.2 b hb).trans e) fC.1 fC.2.1 fC.2.2.2.1 fC.2.2.2.2.1 fC.2.2.2.2.2,q⟩⟩
end
end L2
set_option maxHeartbeats 4000000
namespace DV
open PySem PySem.Spec PyProof.Rows L2
abbrev Tx:=List Nat
def toS (x:Tx):Str:=⟨x.toArray⟩
theorem z3C (x:Tx):(toS x).cps.toList=x:=by simp [toS]
theorem z1x (x:Tx):(toS x).length=x.length:=by simp [toS,Str.length]
theorem z4I (h:toS x=toS y):x=y:=by
 have:=congrArg (fun z:Str=>z.cps.toList) h
 simpa [toS] using this
theorem z7U (z:Str):z=toS z.cps.toList:=by simp [toS]
abbrev DKey:=Sum Int Tx
def kOf:DKey→Key
 | .inl i=>.inl i
 | .inr x=>.inr (toS x)
inductive D where
 | non | bl (b:Bool) | int (i:Int) | str (x:Tx) | tup (xs:List D) | lst (xs:List D) | dct (kvs:List (DKey×D)) | exc (n:Nat) (fl:D) | xd (fs:List (Tx×D)) | fn (a:Nat)
def excAt (C:Addr) (v:V) (a:Addr):Heap→Prop:=fun h=>∃ o,h.get? a=some o∧o.cls = .ref C∧(∀ x,v = .ref x→o.dict=some x)∧∃ vs,o.data = .fields vs
def xdAt (fs:List (Str×V)) (x:Addr):Heap→Prop:=fun h=>∃ mA,h.Ns1 x mA∧∀ f,RelO (fs.lookup f) (mA f)
inductive S where
 | pure (d:D)
 | own (d:D)
def S.d:S→D
 | .pure d=>d
 | .own d=>d
abbrev Dl:=List (Option S)
abbrev St:=L2.St
inductive Rep (H:Hp) (O:Addr→Prop):V→D→Prop
 | non:Rep H O .non .non
 | bl (b:Bool):Rep H O (.bl b) (.bl b)
 | int (i:Int):Rep H O (.int i) (.int i)
 | str (x:Tx):Rep H O (.str (toS x)) (.str x)
 | tup {a:Addr} {vs:List V} {ds:List D}:¬ O a→H a=some (.tup vs)→vs.length=ds.length→(∀ (i:Nat) v d,vs[i]? = some v→ds[i]? = some d→Rep H O v d)→Rep H O (.ref a) (.tup ds)
 | lst {a:Addr} {vs:List V} {ds:List D}:¬ O a→Rd H a (.lst vs)→vs.length=ds.length→(∀ (i:Nat) v d,vs[i]? = some v→ds[i]? = some d→Rep H O v d)→Rep H O (.ref a) (.lst ds)
 | dct {a:Addr} {ws:List (Key×V)} {ds:List (DKey×D)}:¬ O a→H a=some (.dK ws)→ws.map (·.1)=ds.map (fun p=>kOf p.1)→(∀ (i:Nat) p q,ws[i]? = some p→ds[i]? = some q→Rep H O p.2 q.2)→Rep H O (.ref a) (.dct ds)
 | exc {a:Addr} {n:Nat} {v:V} {fl:D}:¬ O a→H a=some (.ext (excAt n v a))→Rep H O v fl→Rep H O (.ref a) (.exc n fl)
 | xd {x:Addr} {fs:List (Str×V)} {ds:List (Tx×D)}:¬ O x→H x=some (.ext (xdAt fs x))→fs.map (·.1)=ds.map (fun p=>toS p.1)→(∀ (i:Nat) p q,fs[i]? = some p→ds[i]? = some q→Rep H O p.2 q.2)→Rep H O (.ref x) (.xd ds)
 | fn (a:Addr):Rep H O (.ref a) (.fn a)
abbrev Reps (H:Hp) (O:Addr→Prop) (vs:List V) (ds:List D):Prop:=vs.length=ds.length∧∀ (i:Nat) v d,vs[i]? = some v→ds[i]? = some d→Rep H O v d
def OwnAt (H:Hp) (O:Addr→Prop) (a:Addr):D→Prop
 | .lst ds=>∃ vs,H a=some (.lst vs)∧Reps H O vs ds
 | .dct ds=>∃ ws:List (Key×V),H a=some (.dK ws)∧ws.map (·.1)=ds.map (fun p=>kOf p.1)∧∀ (i:Nat) p q,ws[i]? = some p→ds[i]? = some q→Rep H O p.2 q.2
 | _=>False
section
variable {H H':Hp} {O O':Addr→Prop} {v:V} {d:D} {vs:List V} {ds:List D} {a:Addr}
theorem Rd.keep (h:Rd H a u) (k:∀ o,H a=some o→H' a=some o):Rd H' a u:=by
 rcases h with h | ⟨o,h⟩
 ·exact .inl (k _ h)
 ·exact .inr ⟨o,k _ h⟩
theorem Rd.some (h:Rd H a u):∃ o,H a=some o:=by
 rcases h with h | ⟨o,h⟩
 ·exact ⟨_,h⟩
 ·exact ⟨_,h⟩
theorem Rep.keep (h:Rep H O v d) (k:∀ a o,H a=some o→¬ O a→H' a=some o):Rep H' O v d:=by
 induction h with
 | non=>exact .non
 | bl b=>exact .bl b
 | int i=>exact .int i
 | str x=>exact .str x
 | tup h1 h2 h3 _ ih=>exact .tup h1 (k _ _ h2 h1) h3 ih
 | lst h1 h2 h3 _ ih=>exact .lst h1 (Rd.keep h2 fun o e=>k _ o e h1) h3 ih
 | dct h1 h2 h3 _ ih=>exact .dct h1 (k _ _ h2 h1) h3 ih
 | exc h1 h2 _ ih=>exact .exc h1 (k _ _ h2 h1) ih
 | xd h1 h2 h3 _ ih=>exact .xd h1 (k _ _ h2 h1) h3 ih
 | fn a=>exact .fn a
theorem Rep.anti (h:Rep H O v d) (k:∀ a,O' a→O a∨H a=none):Rep H O' v d:=by
 have no:∀ {a:Addr} {u:HO},¬ O a→Rd H a u→¬ O' a:=fun {a u} h1 h2 z=>by
  rcases k a z with q | q
  ·exact h1 q
  ·obtain ⟨o,e⟩:=Rd.some h2
   rw [q] at e; cases e
 induction h with
 | non=>exact .non
 | bl b=>exact .bl b
 | int i=>exact .int i
 | str x=>exact .str x
 | tup h1 h2 h3 _ ih=>exact .tup (no h1 (.inl h2)) h2 h3 ih
 | lst h1 h2 h3 _ ih=>exact .lst (no h1 h2) h2 h3 ih
 | dct h1 h2 h3 _ ih=>exact .dct (no h1 (.inl h2)) h2 h3 ih
 | exc h1 h2 _ ih=>exact .exc (no h1 (.inl h2)) h2 ih
 | xd h1 h2 h3 _ ih=>exact .xd (no h1 (.inl h2)) h2 h3 ih
 | fn a=>exact .fn a
theorem Reps.keep (h:Reps H O vs ds) (k:∀ a o,H a=some o→¬ O a→H' a=some o):Reps H' O vs ds:=⟨h.1,fun i v d e1 e2=>(h.2 i v d e1 e2).keep k⟩
theorem Reps.anti (h:Reps H O vs ds) (k:∀ a,O' a→O a∨H a=none):Reps H O' vs ds:=⟨h.1,fun i v d e1 e2=>(h.2 i v d e1 e2).anti k⟩
theorem Reps.nil:Reps H O [] []:=⟨rfl,fun i v d e _=>by simp at e⟩
theorem Reps.cons (h:Rep H O v d) (r:Reps H O vs ds):Reps H O (v :: vs) (d :: ds):=by
 refine ⟨by simp [r.1],fun i v' d' e1 e2=>?_⟩
 cases i with
 | zero=>simp at e1 e2; subst e1; subst e2; exact h
 | succ i=>exact r.2 i v' d' (by simpa using e1) (by simpa using e2)
theorem Reps.head (r:Reps H O (v :: vs) (d :: ds)):Rep H O v d:=r.2 0 v d rfl rfl
theorem Reps.tail (r:Reps H O (v :: vs) (d :: ds)):Reps H O vs ds:=⟨by simpa using r.1,fun i v' d' e1 e2=>r.2 (i + 1) v' d' (by simpa using e1) (by simpa using e2)⟩
theorem Reps.append (h:Reps H O vs ds) (h':Reps H O vs' ds'):Reps H O (vs ++ vs') (ds ++ ds'):=by
 induction vs generalizing ds with
 | nil =>
  cases ds with
  | nil=>exact h'
  | cons d r=>have:=h.1; simp at this
 | cons v r ih =>
  cases ds with
  | nil=>have:=h.1; simp at this
  | cons d q=>exact .cons h.head (ih h.tail)
theorem Reps.get {i:Nat} (h:Reps H O vs ds) (e:ds[i]? = some d):∃ v,vs[i]? = some v∧Rep H O v d:=by
 have hi:i < ds.length:=(Wl.mp e).1
 have hv:i < vs.length:=by rw [h.1]; exact hi
 exact ⟨vs[i],by simp [hv],h.2 i _ d (by simp [hv]) e⟩
theorem Reps.take (n:Nat) (h:Reps H O vs ds):Reps H O (vs.take n) (ds.take n):=by
 refine ⟨by simp [h.1],fun i v d e1 e2=>?_⟩
 by_cases hi:i < n
 ·rw [List.getElem?_take_of_lt hi] at e1 e2
  exact h.2 i v d e1 e2
 ·rw [List.getElem?_take_eq_none (by omega)] at e1; cases e1
theorem Reps.drop (n:Nat) (h:Reps H O vs ds):Reps H O (vs.drop n) (ds.drop n):=by
 refine ⟨by simp [h.1],fun i v d e1 e2=>?_⟩
 rw [List.getElem?_drop] at e1 e2
 exact h.2 (n + i) v d e1 e2
theorem Reps.set (h:Reps H O vs ds) (r:Rep H O v d) (j:Nat):Reps H O (vs.set j v) (ds.set j d):=by
 refine ⟨by simp [h.1],fun i v' d' e1 e2=>?_⟩
 by_cases hi:j=i
 ·subst hi
  rw [WW] at e1 e2
  simp at e1 e2
  obtain ⟨_,rfl⟩:=e1
  obtain ⟨_,rfl⟩:=e2
  exact r
 ·rw [W9 hi] at e1 e2
  exact h.2 i v' d' e1 e2
theorem OwnAt.keep (h:OwnAt H O a d) (hk:∀ b o,H b=some o→¬ O b→H' b=some o) (ha:∀ o,H a=some o→H' a=some o):OwnAt H' O a d:=by
 cases d <;> first
  | exact h.elim
  | (obtain ⟨vs,e,r⟩:=h; exact ⟨vs,ha _ e,Reps.keep r hk⟩)
  | (obtain ⟨ws,e,r,q⟩:=h; exact ⟨ws,ha _ e,r,fun i p p' e1 e2=>(q i p p' e1 e2).keep hk⟩)
theorem OwnAt.anti (h:OwnAt H O a d) (k:∀ a,O' a→O a∨H a=none):OwnAt H O' a d:=by
 cases d <;> first
  | exact h.elim
  | (obtain ⟨vs,e,r⟩:=h; exact ⟨vs,e,Reps.anti r k⟩)
  | (obtain ⟨ws,e,r,q⟩:=h; exact ⟨ws,e,r,fun i p p' e1 e2=>(q i p p' e1 e2).anti k⟩)
theorem OwnAt.some (h:OwnAt H O a d):∃ o,H a=some o:=by
 cases d <;> first
  | exact h.elim
  | (obtain ⟨vs,e,r⟩:=h; exact ⟨_,e⟩)
theorem OwnAt.rep (h:OwnAt H O a d) (ho:¬ O a):Rep H O (.ref a) d:=by
 cases d with
 | lst ds=>obtain ⟨vs,e,r⟩:=h; exact .lst ho (.inl e) r.1 r.2
 | dct ds=>obtain ⟨ws,e,r,q⟩:=h; exact .dct ho e r q
 | _=>exact h.elim
end
structure Xc where
 cls:Tx
 flds:D
structure Fc where
 H₀:Hp
 B:Addr→Prop
 pin:List (Nat×Addr)
 xc:Xc→Dl→Prop:=fun _ _=>False
def Fc.plus (c:Fc) (p:Addr):Fc:={ c with B:=fun a=>c.B a∨a=p }
def Fc.I (c:Fc) (a:Addr):Prop:=∃ i,(i,a) ∈ c.pin
def Own (σ:St) (δ:Dl) (a:Addr):Prop:=∃ (i:Nat) (d:D),δ[i]? = some (some (.own d))∧σ[i]? = some (some (.ref a))
def Av (c:Fc) (σ:St) (δ:Dl) (a:Addr):Prop:=c.B a∨Own σ δ a
structure Ok (c:Fc) (σ:St) (δ:Dl) (H:Hp):Prop where
 keep:∀ a o,c.H₀ a=some o→¬ c.I a→H a=some o
 bd:∀ a,c.B a→∃ o,H a=some o
 ith:∀ a,c.I a→∃ o,H a=some o
 len:δ.length=σ.length
 slot:∀ (i:Nat) d,δ[i]? = some (some (.pure d))→∃ v,σ[i]? = some (some v)∧Rep H (Av c σ δ) v d
 own:∀ (i:Nat) d,δ[i]? = some (some (.own d))→∃ a,σ[i]? = some (some (.ref a))∧OwnAt H (Av c σ δ) a d∧(c.I a∨c.H₀ a=none)∧¬ c.B a
 inj:∀ (i j:Nat) a d d',δ[i]? = some (some (.own d))→δ[j]? = some (some (.own d'))→σ[i]? = some (some (.ref a))→σ[j]? = some (some (.ref a))→i=j
 pinned:∀ p ∈ c.pin,σ[p.1]? = some (some (.ref p.2))
structure Aft (c:Fc) (σ:St) (δ:Dl) (H:Hp) (σ':St) (δ':Dl) (H':Hp):Prop where
 ok:Ok c σ' δ' H'
 keep:∀ a o,H a=some o→¬ Own σ δ a→H' a=some o
 own:∀ a,Own σ' δ' a→Own σ δ a∨H a=none
 there:∀ a o,H a=some o→∃ o',H' a=some o'
section
variable {c:Fc} {σ σ' σ'':St} {δ δ' δ'':Dl} {H H' H'':Hp} {v:V} {d:D} {a p:Addr}
theorem Ok.bthere (k:Ok c σ δ H) (h:c.B a):∃ o,H a=some o:=k.bd a h
theorem Ok.othere (k:Ok c σ δ H) (h:Own σ δ a):∃ o,H a=some o:=by
 obtain ⟨i,d,e1,e2⟩:=h
 obtain ⟨b,e3,q,_⟩:=k.own i d e1
 rw [e2] at e3; cases e3
 exact q.some
theorem Ok.avthere (k:Ok c σ δ H) (h:Av c σ δ a):∃ o,H a=some o:=h.elim k.bthere k.othere
theorem Ok.nav (k:Ok c σ δ H) (h:H a=none):¬ Av c σ δ a:=fun z=>by
 obtain ⟨o,e⟩:=k.avthere z
 rw [h] at e; cases e
theorem Aft.refl (k:Ok c σ δ H):Aft c σ δ H σ δ H:=⟨k,fun _ _ e _=>e,fun _ h=>.inl h,fun _ o e=>⟨o,e⟩⟩
theorem Aft.trans (x:Aft c σ δ H σ' δ' H') (y:Aft c σ' δ' H' σ'' δ'' H''):Aft c σ δ H σ'' δ'' H'':=by
 refine ⟨y.ok,fun a o e n=>?_,fun a h=>?_,fun a o e=>?_⟩
 ·refine y.keep a o (x.keep a o e n) fun z=>?_
  rcases x.own a z with q | q
  ·exact n q
  ·rw [q] at e; cases e
 ·rcases y.own a h with q | q
  ·exact x.own a q
  ·right
   cases e:H a with
   | none=>rfl
   | some o =>
    obtain ⟨o',e'⟩:=x.there a o e
    rw [q] at e'; cases e'
 ·obtain ⟨o',e'⟩:=x.there a o e
  exact y.there a o' e'
theorem Aft.av (x:Aft c σ δ H σ' δ' H'):∀ a,Av c σ' δ' a→Av c σ δ a∨H a=none:=fun a h=>by
 rcases h with h | h
 ·exact .inl (.inl h)
 ·rcases x.own a h with q | q
  ·exact .inl (.inr q)
  ·exact .inr q
theorem Rep.aft (h:Rep H (Av c σ δ) v d) (x:Aft c σ δ H σ' δ' H'):Rep H' (Av c σ' δ') v d:=by
 have h1:Rep H (fun a=>Av c σ δ a∨Av c σ' δ' a) v d:=Rep.anti h fun a z=>z.elim .inl (x.av a)
 exact (h1.keep fun a o e n=>x.keep a o e fun z=>n (.inl (.inr z))).anti fun a z=>.inl (.inr z)
theorem Reps.aft (h:Reps H (Av c σ δ) vs ds) (x:Aft c σ δ H σ' δ' H'):Reps H' (Av c σ' δ') vs ds:=⟨h.1,fun i v d e1 e2=>Rep.aft (h.2 i v d e1 e2) x⟩
def RepS (c:Fc) (σ:St) (δ:Dl) (Hs H:Hp) (v:V):S→Prop
 | .pure d=>Rep H (Av c σ δ) v d
 | .own d=>∃ a,v = .ref a∧OwnAt H (Av (c.plus a) σ δ) a d∧¬ c.B a∧c.H₀ a=none∧Ok (c.plus a) σ δ H∧Hs a=none
theorem z2P (k:Ok (c.plus a) σ δ H):¬ Own σ δ a:=fun ⟨i,d,e1,e2⟩=>by
 obtain ⟨b,e3,_,_,n⟩:=k.own i d e1
 rw [e2] at e3; cases e3
 exact n (.inr rfl)
theorem RepS.rep (h:RepS c σ δ Hs H v r):Rep H (Av c σ δ) v r.d:=by
 cases r with
 | pure d=>exact h
 | own d =>
  obtain ⟨a,rfl,o,n,f,k,_⟩:=h
  refine (o.anti fun b z=>.inl ?_).rep fun z=>z.elim n (z2P k)
  exact z.elim (fun z=>.inl (.inl z)) .inr
theorem RepS.back (h:RepS c σ δ Hs H v r) (x:Aft c σ₀ δ₀ H' σ' δ' Hs):RepS c σ δ H' H v r:=by
 cases r with
 | pure d=>exact h
 | own d =>
  obtain ⟨a,e,o,n,f,k,hs⟩:=h
  refine ⟨a,e,o,n,f,k,?_⟩
  cases q:H' a with
  | none=>rfl
  | some o =>
   obtain ⟨o',e'⟩:=x.there a o q
   rw [hs] at e'; cases e'
theorem RepS.home (h:RepS c σ δ Hs H v r):RepS c σ δ c.H₀ H v r:=by
 cases r with
 | pure d=>exact h
 | own d =>
  obtain ⟨a,e,o,n,f,k,hs⟩:=h
  exact ⟨a,e,o,n,f,k,f⟩
theorem Ok.alloc (k:Ok c σ δ H) (hp:H p=none) (o:HO):Ok c σ δ (upd H p o):=by
 have up:∀ a w,H a=some w→upd H p o a=some w:=fun a w e=>by
  rw [z06 (z0j e hp)]; exact e
 refine ⟨fun a w e n=>up a w (k.keep a w e n),fun a z=>(k.bd a z).elim fun w e=>⟨w,up a w e⟩,fun a z=>(k.ith a z).elim fun w e=>⟨w,up a w e⟩,k.len,fun i d e=>?_,fun i d e=>?_,k.inj,k.pinned⟩
 ·obtain ⟨v,e1,r⟩:=k.slot i d e
  exact ⟨v,e1,r.keep fun a w q _=>up a w q⟩
 ·obtain ⟨a,e1,r,q⟩:=k.own i d e
  exact ⟨a,e1,r.keep (fun b w q _=>up b w q) fun w q=>up a w q,q⟩
theorem Aft.alloc (k:Ok c σ δ H) (hp:H p=none) (o:HO):Aft c σ δ H σ δ (upd H p o):=by
 have up:∀ a w,H a=some w→upd H p o a=some w:=fun a w e=>by
  rw [z06 (z0j e hp)]; exact e
 exact ⟨k.alloc hp o,fun a w e _=>up a w e,fun a h=>.inl h,fun a w e=>⟨w,up a w e⟩⟩
theorem Ok.fresh₀ (k:Ok c σ δ H) (hp:H p=none):c.H₀ p=none:=by
 cases e:c.H₀ p with
 | none=>rfl
 | some o =>
  by_cases q:c.I p
  ·obtain ⟨w,e'⟩:=k.ith p q
   rw [hp] at e'; cases e'
  ·have:=k.keep p o e q
   rw [hp] at this; cases this
theorem Ok.plus (k:Ok c σ δ H) (hp:H p=none) (o:HO):Ok (c.plus p) σ δ (upd H p o):=by
 have k':=k.alloc hp o
 have sub:∀ b,Av (c.plus p) σ δ b→Av c σ δ b∨b=p:=fun b z=>by
  rcases z with (z | z) | z
  ·exact .inl (.inl z)
  ·exact .inr z
  ·exact .inl (.inr z)
 have sub2:∀ b,Av (c.plus p) σ δ b→Av c σ δ b∨H b=none:=fun b z=>(sub b z).elim .inl fun e=>.inr (by rw [e]; exact hp)
 have up:∀ a w,H a=some w→upd H p o a=some w:=fun a w e=>by
  rw [z06 (z0j e hp)]; exact e
 refine ⟨k'.keep,fun a z=>?_,k'.ith,k.len,fun i d e=>?_,fun i d e=>?_,k.inj,k.pinned⟩
 ·rcases z with z | z
  ·exact k'.bd a z
  ·exact ⟨o,by rw [z]; exact z0d⟩
 ·obtain ⟨v,e1,r⟩:=k.slot i d e
  exact ⟨v,e1,(r.anti sub2).keep fun a w q _=>up a w q⟩
 ·obtain ⟨a,e1,r,q,nb⟩:=k.own i d e
  refine ⟨a,e1,(r.anti sub2).keep (fun b w q _=>up b w q) (fun w q=>up a w q),q,fun z=>?_⟩
  rcases z with z | z
  ·exact nb z
  ·obtain ⟨w,ew⟩:=r.some
   rw [z,hp] at ew; cases ew
theorem RepS.newL (k:Ok c σ δ H) (r:Reps H (Av c σ δ) vs ds) (hp:H p=none):RepS c σ δ H (upd H p (.lst vs)) (.ref p) (.own (.lst ds)):=by
 have up:∀ a w,H a=some w→upd H p (.lst vs) a=some w:=fun a w e=>by
  rw [z06 (z0j e hp)]; exact e
 refine ⟨p,rfl,⟨vs,z0d,?_⟩,fun z=>k.nav hp (.inl z),k.fresh₀ hp,k.plus hp _,hp⟩
 have r1:Reps H (Av (c.plus p) σ δ) vs ds:=Reps.anti r fun b z=>by
  rcases z with (z | z) | z
  ·exact .inl (.inl z)
  ·exact .inr (by rw [z]; exact hp)
  ·exact .inl (.inr z)
 exact Reps.keep r1 fun b w e _=>up b w e
theorem RepS.newT (k:Ok c σ δ H) (r:Reps H (Av c σ δ) vs ds) (hp:H p=none):RepS c σ δ H (upd H p (.tup vs)) (.ref p) (.pure (.tup ds)):=by
 have up:∀ a w,H a=some w→upd H p (.tup vs) a=some w:=fun a w e=>by
  rw [z06 (z0j e hp)]; exact e
 have r1:=Reps.keep r (H':=upd H p (.tup vs)) fun b w e _=>up b w e
 exact .tup (k.nav hp) z0d r1.1 r1.2
end
inductive Rs (α:Type) where
 | ok (a:α) (δ:Dl)
 | exc (x:Xc) (δ:Dl)
 | stuck
def Rs.bind {α β:Type} (r:Rs α) (f:α→Dl→Rs β):Rs β:=match r with
 | .ok a δ=>f a δ
 | .exc x δ=>.exc x δ
 | .stuck=>.stuck
abbrev DE:=Dl→Rs S
def XC (c:Fc) (x:Xc) (δ:Dl):Prop:=c.xc x δ
def post {α:Type} (c:Fc) (r:Rs α) (k:α→Dl→Prop):Prop:=match r with
 | .ok a δ=>k a δ
 | .exc x δ=>XC c x δ
 | .stuck=>False
theorem z01:post c (r.bind f) k ↔ post c r fun a δ=>post c (f a δ) k:=by
 cases r <;> exact Iff.rfl
theorem z00 (h:post c r k) (m:∀ a δ,k a δ→k' a δ):post c r k':=by
 cases r with
 | ok a δ=>exact m a δ h
 | exc x δ=>exact h
 | stuck=>exact h
def tD (c:Fc) (f:DE):TE:=fun σ H Q=>∃ δ,Ok c σ δ H∧post c (f δ) fun r δ'=>∀ v H',Aft c σ δ H σ δ' H'→RepS c σ δ' H H' v r→Q v H'
abbrev SE (X:Cx) (c:Fc) (e:Expr) (f:DE):Prop:=PE X e (tD c f)
def RepB (c:Fc) (σ:St) (δ:Dl) (H:Hp) (v:V) (d:D):Prop:=Rep H (Av c σ δ) v d∨∃ a,v = .ref a∧OwnAt H (Av c σ δ) a d
abbrev BE:=Dl→Rs D
def tB (c:Fc) (f:BE):TE:=fun σ H Q=>∃ δ,Ok c σ δ H∧post c (f δ) fun d δ'=>∀ v H',Aft c σ δ H σ δ' H'→RepB c σ δ' H' v d→Q v H'
abbrev SB (X:Cx) (c:Fc) (e:Expr) (f:BE):Prop:=PE X e (tB c f)
theorem PE.weak (h:PE X e t) (w:∀ σ H Q,t' σ H Q→t σ H Q):PE X e t':=fun pins s σ H Q I q=>h pins s σ H Q I (w σ H Q q)
def bOf (f:DE):BE:=fun δ=>(f δ).bind fun r δ'=>.ok r.d δ'
theorem RepS.b (h:RepS c σ δ Hs H v r):RepB c σ δ H v r.d:=.inl h.rep
theorem z0c {X:Cx} {c:Fc} {e:Expr} {f:DE} (h:SE X c e f):SB X c e (bOf f):=PE.weak h fun σ H Q ⟨δ,k,p⟩=>⟨δ,k,by
 unfold bOf at p
 rw [z01] at p
 exact z00 p fun r δ' q v H' a s=>q v H' a s.b⟩
def bVar (i:Nat):BE:=fun δ=>match δ[i]? with
 | some (some r)=>.ok r.d δ
 | _=>.stuck
def eVar (i:Nat):DE:=fun δ=>match δ[i]? with
 | some (some (.pure d))=>.ok (.pure d) δ
 | some (some (.own d))=>.ok (.pure d) (δ.set i (some (.pure d)))
 | _=>.stuck
def eD (d:D):DE:=fun δ=>.ok (.pure d) δ
section
variable {X:Cx} {c:Fc}
theorem z0n {i:Nat} {e:Expr} (h:PE X e (tVar i)):SB X c e (bVar i):=PE.weak h fun σ H Q ⟨δ,k,p⟩=>by
 unfold bVar at p
 cases e:δ[i]? with
 | none=>rw [e] at p; exact p.elim
 | some o =>
  cases o with
  | none=>rw [e] at p; exact p.elim
  | some r =>
   rw [e] at p
   cases r with
   | pure d =>
    obtain ⟨v,e1,r⟩:=k.slot i d e
    exact ⟨v,e1,p v H (.refl k) (.inl r)⟩
   | own d =>
    obtain ⟨a,e1,r,_⟩:=k.own i d e
    exact ⟨.ref a,e1,p _ H (.refl k) (.inr ⟨a,rfl,r⟩)⟩
theorem Own.sub (h:Own σ (δ.set i (some (.pure d))) a):Own σ δ a:=by
 obtain ⟨j,d',e1,e2⟩:=h
 by_cases hj:i=j
 ·subst hj
  rw [WW] at e1
  simp at e1
 ·rw [W9 hj] at e1
  exact ⟨j,d',e1,e2⟩
theorem Ok.give (k:Ok c σ δ H) (e:δ[i]? = some (some (.own d))) :
  ∃ a,σ[i]? = some (some (.ref a))∧Aft c σ δ H σ (δ.set i (some (.pure d))) H∧Rep H (Av c σ (δ.set i (some (.pure d)))) (.ref a) d:=by
 obtain ⟨a,e1,r,q,nb⟩:=k.own i d e
 have hi:i < δ.length:=(Wl.mp e).1
 have sub:∀ b,Av c σ (δ.set i (some (.pure d))) b→Av c σ δ b:=fun b z=>z.elim .inl fun z=>.inr z.sub
 have na:¬ Av c σ (δ.set i (some (.pure d))) a:=by
  rintro (z | ⟨j,d',f1,f2⟩)
  ·exact nb z
  ·by_cases hj:i=j
   ·subst hj
    rw [WW] at f1
    simp at f1
   ·rw [W9 hj] at f1
    exact hj (k.inj i j a d d' e f1 e1 f2)
 have rep:Rep H (Av c σ (δ.set i (some (.pure d)))) (.ref a) d:=(r.anti fun b z=>.inl (sub b z)).rep na
 refine ⟨a,e1,⟨⟨k.keep,k.bd,k.ith,by rw [QS]; exact k.len,fun j d' f=>?_,fun j d' f=>?_,fun j l b d1 d2 f1 f2=>?_,k.pinned⟩,fun _ _ w _=>w,fun b z=>.inl z.sub,fun _ o w=>⟨o,w⟩⟩,rep⟩
 ·by_cases hj:i=j
  ·subst hj
   rw [Wt hi] at f
   cases f
   exact ⟨.ref a,e1,rep⟩
  ·rw [W9 hj] at f
   obtain ⟨v,g1,g2⟩:=k.slot j d' f
   exact ⟨v,g1,g2.anti fun b z=>.inl (sub b z)⟩
 ·by_cases hj:i=j
  ·subst hj
   rw [Wt hi] at f
   cases f
  ·rw [W9 hj] at f
   obtain ⟨b,g1,g2,g3⟩:=k.own j d' f
   exact ⟨b,g1,g2.anti fun b z=>.inl (sub b z),g3⟩
 ·have h1:δ[j]? = some (some (.own d1)):=by
   by_cases hj:i=j
   ·subst hj; rw [Wt hi] at f1; cases f1
   ·rw [W9 hj] at f1; exact f1
  have h2:δ[l]? = some (some (.own d2)):=by
   by_cases hj:i=l
   ·subst hj; rw [Wt hi] at f2; cases f2
   ·rw [W9 hj] at f2; exact f2
  exact k.inj j l b d1 d2 h1 h2
theorem z09 {i:Nat} {e:Expr} (h:PE X e (tVar i)):SE X c e (eVar i):=PE.weak h fun σ H Q ⟨δ,k,p⟩=>by
 unfold eVar at p
 cases e:δ[i]? with
 | none=>rw [e] at p; exact p.elim
 | some o =>
  cases o with
  | none=>rw [e] at p; exact p.elim
  | some r =>
   rw [e] at p
   cases r with
   | pure d =>
    obtain ⟨v,e1,r⟩:=k.slot i d e
    exact ⟨v,e1,p v H (.refl k) r⟩
   | own d =>
    obtain ⟨a,e1,x,r⟩:=k.give e
    exact ⟨.ref a,e1,p _ H x r⟩
theorem z05 {i j pos}:SE X c (.Constant (.int i) j pos) (eD (.int i)):=PE.weak zcR fun σ H Q ⟨δ,k,p⟩=>p _ H (.refl k) (.int i)
theorem z8f {b j pos}:SE X c (.Constant (.bool b) j pos) (eD (.bl b)):=PE.weak pe_bl fun σ H Q ⟨δ,k,p⟩=>p _ H (.refl k) (.bl b)
theorem z4r {j pos}:SE X c (.Constant .none j pos) (eD .non):=PE.weak zcO fun σ H Q ⟨δ,k,p⟩=>p _ H (.refl k) .non
theorem z8b {x j pos} (y:Tx) (h:x=toS y:=by decide +kernel):SE X c (.Constant (.str x) j pos) (eD (.str y)):=by
 subst h
 exact PE.weak zay fun σ H Q ⟨δ,k,p⟩=>p _ H (.refl k) (.str y)
end
open PySem PySem.Spec PyProof.Rows L2 PySem.SeqAt
mutual
def eqD:D→D→Bool
 | .non,.non=>true
 | .bl a,.bl b=>a == b
 | .int a,.int b=>a == b
 | .bl a,.int b=>(if a then 1 else 0) == b
 | .int a,.bl b=>a == (if b then 1 else 0)
 | .str a,.str b=>a == b
 | .tup xs,.tup ys=>eqDs xs ys
 | .lst xs,.lst ys=>eqDs xs ys
 | _,_=>false
def eqDs:List D→List D→Bool
 | [],[]=>true
 | x :: xs,y :: ys=>eqD x y && eqDs xs ys
 | _,_=>false
end
mutual
def flat:Nat→D→Bool
 | _,.non=>true
 | _,.bl _=>true
 | _,.int _=>true
 | _,.str _=>true
 | 0,.tup _=>false
 | n + 1,.tup xs=>z40 n xs
 | 0,.lst _=>false
 | n + 1,.lst xs=>z40 n xs
 | _,.dct _=>false
 | _,.exc _ _=>false
 | _,.xd _=>false
 | _,.fn _=>false
def z40:Nat→List D→Bool
 | _,[]=>true
 | n,x :: xs=>flat n x && z40 n xs
end
example:eqD (.tup [.int 1,.str [2]]) (.tup [.int 1,.str [2]])=true:=by decide +kernel
theorem z1q:∀ {xs:List D} {x:D},z40 n xs=true→x ∈ xs→flat n x=true
 | [],_,_,h=>by simp at h
 | y :: ys,x,h,hm=>by
  simp only [z40,Ws] at h
  rcases Wf.mp hm with e | hm
  ·rw [e]; exact h.1
  ·exact z1q h.2 hm
theorem z3z:∀ {xs ys:List D} {f:Nat→Bool},xs.length=ys.length→(∀ (j:Nat) x y,xs[j]? = some x→ys[j]? = some y→f j=eqD x y)→(Wr xs.length).all f=eqDs xs ys
 | [],[],f,_,_=>rfl
 | [],y :: ys,f,h,_=>by simp at h
 | x :: xs,[],f,h,_=>by simp at h
 | x :: xs,y :: ys,f,h,hf=>by
  simp only [eqDs]
  rw [WL,QV,Jl,hf 0 x y rfl rfl,List.all_map]
  rw [← z3z (f:=fun j=>f (j + 1)) (by simpa using h) (fun j a b e1 e2=>hf (j + 1) a b (by simpa using e1) (by simpa using e2))]
  rfl
theorem z3y:∀ {xs ys:List D},xs.length≠ys.length→eqDs xs ys=false
 | [],[],h=>absurd rfl h
 | [],y :: ys,_=>rfl
 | x :: xs,[],_=>rfl
 | x :: xs,y :: ys,h=>by
  simp only [eqDs]
  rw [z3y (xs:=xs) (ys:=ys) (by intro e; exact h (by simp [e]))]
  simp
mutual
theorem z5e:∀ {n:Nat} {d:D},flat n d=true→eqD d d=true
 | _,.non,_=>rfl
 | _,.bl b,_=>by simp [eqD]
 | _,.int i,_=>by simp [eqD]
 | _,.str x,_=>by simp [eqD]
 | 0,.tup xs,h=>by simp [flat] at h
 | n + 1,.tup xs,h=>by simp only [eqD]; exact z42 (n:=n) (by simpa [flat] using h)
 | 0,.lst xs,h=>by simp [flat] at h
 | n + 1,.lst xs,h=>by simp only [eqD]; exact z42 (n:=n) (by simpa [flat] using h)
 | _,.dct xs,h=>by simp [flat] at h
 | _,.exc n _,h=>by simp [flat] at h
 | _,.xd n,h=>by simp [flat] at h
theorem z42:∀ {n:Nat} {ds:List D},z40 n ds=true→eqDs ds ds=true
 | _,[],_=>rfl
 | n,x :: xs,h=>by
  simp only [z40,Ws] at h
  simp only [eqDs]
  rw [z5e h.1,z42 h.2]
  rfl
end
abbrev NoO:Addr→Prop:=fun _=>False
theorem Rep.un (h:Rep H O v d):Rep H NoO v d:=Rep.anti h fun _ z=>z.elim
theorem RepB.un (h:RepB c σ δ H v d):Rep H NoO v d:=by
 rcases h with h | ⟨a,rfl,o⟩
 ·exact Rep.un h
 ·exact (o.anti (O':=NoO) fun _ z=>z.elim).rep fun z=>z
section
variable {X:Cx} {pins:List (Addr×Obj)} {σ:St} {H:Hp} {s:W1}
theorem Inv.rdL (I:Inv X pins σ H s) (h:Rd H a (.lst vs)):∃ its:List Value,Vals vs its∧s.heap.IsList a its.toArray:=by
 obtain ⟨its,r,p,_⟩:=I.list (.inl h)
 exact ⟨its,r,p.isList⟩
theorem Inv.rdT (I:Inv X pins σ H s) (h:H a=some (.tup vs)):∃ its:List Value,Vals vs its∧s.heap.IsTuple a its.toArray:=by
 obtain ⟨its,r,p,_⟩:=I.tuple (.of h)
 exact ⟨its,r,p⟩
theorem z6n (x y:Tx):((toS x:Str) == toS y)=(x == y):=by
 rw [Bool.eq_iff_iff]
 simp only [beq_iff_eq]
 exact ⟨z4I,fun e=>by rw [e]⟩
theorem z90 (A:Wm):A.in1.units=A.units + 1:=rfl
theorem Rd.inj (h:Rd H a u) (k:Rd H a w) (hu:∀ o z,u≠.frz o z) (hw:∀ o z,w≠.frz o z):u=w:=by
 rcases h with h | ⟨o,h⟩ <;> rcases k with k | ⟨o',k⟩
 ·rw [h] at k; exact Ww k
 ·rw [h] at k; exact absurd (Ww k) (hu _ _)
 ·rw [h] at k; exact absurd (Ww k).symm (hw _ _)
 ·rw [h] at k
  have:=Ww k
  injection this
theorem Reps.inj {vs:List V}:∀ {ds es:List D},vs.length=ds.length→vs.length=es.length→(∀ (i:Nat) v d e,vs[i]? = some v→ds[i]? = some d→es[i]? = some e→d=e)→ds=es:=by
 intro ds es h1 h2 h
 apply List.ext_getElem?
 intro i
 by_cases hi:i < vs.length
 ·have a1:i < ds.length:=by omega
  have a2:i < es.length:=by omega
  rw [Wo a1,Wo a2]
  rw [h i vs[i] ds[i] es[i] (by simp [hi]) (by simp [a1]) (by simp [a2])]
 ·rw [WJ (by omega),WJ (by omega)]
theorem Rep.inj {O:Addr→Prop} {v:V} {d:D} (h:Rep H O v d):∀ {n:Nat} {e:D},flat n d=true→flat n e=true→Rep H O v e→d=e:=by
 induction h with
 | non=>intro n e _ _ k; cases k; rfl
 | bl b=>intro n e _ _ k; cases k; rfl
 | int i=>intro n e _ _ k; cases k; rfl
 | str x =>
  intro n e _ _ k
  generalize hz:V.str (toS x)=z at k
  cases k with
  | str y=>injection hz with hz; rw [z4I hz]
  | _=>cases hz
 | @tup a vs ds h1 h2 h3 h4 ih =>
  intro n e fd fe k
  cases n with
  | zero=>simp [flat] at fd
  | succ n =>
   simp only [flat] at fd
   cases k with
   | @tup _ ws es k1 k2 k3 k4 =>
    simp only [flat] at fe
    have e1:=Rd.inj (.inl h2) (.inl k2) (fun _ _ z=>by cases z) (fun _ _ z=>by cases z)
    injection e1 with e1
    subst e1
    rw [Reps.inj h3 k3 fun i v d e q1 q2 q3=>ih i v d q1 q2 (z1q fd (WR q2)) (z1q fe (WR q3)) (k4 i v e q1 q3)]
   | lst k1 k2=>exact absurd (Rd.inj (.inl h2) k2 (fun _ _ z=>by cases z) (fun _ _ z=>by cases z)) (fun z=>by cases z)
   | dct k1 k2=>exact absurd (Rd.inj (.inl h2) (.inl k2) (fun _ _ z=>by cases z) (fun _ _ z=>by cases z)) (fun z=>by cases z)
   | exc k1 k2=>simp [flat] at fe
   | xd k1 k2=>simp [flat] at fe
   | fn _=>simp [flat] at fe
 | @lst a vs ds h1 h2 h3 h4 ih =>
  intro n e fd fe k
  cases n with
  | zero=>simp [flat] at fd
  | succ n =>
   simp only [flat] at fd
   cases k with
   | @lst _ ws es k1 k2 k3 k4 =>
    simp only [flat] at fe
    have e1:=Rd.inj h2 k2 (fun _ _ z=>by cases z) (fun _ _ z=>by cases z)
    injection e1 with e1
    subst e1
    rw [Reps.inj h3 k3 fun i v d e q1 q2 q3=>ih i v d q1 q2 (z1q fd (WR q2)) (z1q fe (WR q3)) (k4 i v e q1 q3)]
   | tup k1 k2=>exact absurd (Rd.inj h2 (.inl k2) (fun _ _ z=>by cases z) (fun _ _ z=>by cases z)) (fun z=>by cases z)
   | dct k1 k2=>exact absurd (Rd.inj h2 (.inl k2) (fun _ _ z=>by cases z) (fun _ _ z=>by cases z)) (fun z=>by cases z)
   | exc k1 k2=>simp [flat] at fe
   | xd k1 k2=>simp [flat] at fe
   | fn _=>simp [flat] at fe
 | dct h1 h2 h3 h4 ih =>
  intro n e fd _ _
  cases n <;> simp [flat] at fd
 | exc h1 h2 =>
  intro n e fd _ _
  cases n <;> simp [flat] at fd
 | xd h1 h2 =>
  intro n e fd _ _
  cases n <;> simp [flat] at fd
 | fn _ =>
  intro n e fd _ _
  cases n <;> simp [flat] at fd
def EqIt (H:Hp) (s:W1) (n:Nat):Prop:=∀ (A:Wm) (x y:V) (u w:Value) (d e:D),A.units + n + 1 < Qh→flat n d=true→flat n e=true→Rep H NoO x d→Rep H NoO y e→RelV x u→RelV y w→EqAt A s u w (eqD d e)
def z6O (H:Hp) (s:W1) (A:Wm) (n:Nat):Prop:=match n with
 | 0=>True
 | m + 1=>A.units + m + 2 < Qh∧EqIt H s m
def itE (ds es:List D) (j:Nat):Bool:=match ds[j]?,es[j]? with
 | some p,some q=>eqD p q
 | _,_=>false
theorem z7b (j:Nat) (p q:D) (e1:ds[j]? = some p) (e2:es[j]? = some q):itE ds es j=eqD p q:=by unfold itE; rw [e1,e2]
theorem z3w {n:Nat} {A:Wm} {vs ws:List V} {ds es:List D} {its jts:List Value} (hu:A.units + n + 2 < Qh) (ih:EqIt H s n) (r1:Vals vs its) (r2:Vals ws jts) (l1:vs.length=ds.length) (l2:ws.length=es.length)
  (g1:∀ (i:Nat) v d,vs[i]? = some v→ds[i]? = some d→Rep H NoO v d) (g2:∀ (i:Nat) v d,ws[i]? = some v→es[i]? = some d→Rep H NoO v d) (f1:z40 n ds=true) (f2:z40 n es=true) :
  ∀ j (h1:j < its.toArray.size) (h2:j < jts.toArray.size),EqAt A.in1 s its.toArray[j] jts.toArray[j] (itE ds es j):=by
 intro j h1 h2
 have e1:=r1.length
 have e2:=r2.length
 simp at h1 h2
 have hd:j < ds.length:=by omega
 have he:j < es.length:=by omega
 have hv:j < vs.length:=by omega
 have hw:j < ws.length:=by omega
 obtain ⟨u',hu',ru'⟩:=r1.get (i:=j) (x:=vs[j]) (by simp [hv])
 obtain ⟨w',hw',rw''⟩:=r2.get (i:=j) (x:=ws[j]) (by simp [hw])
 have eu:its.toArray[j]=u':=by simpa [h1] using hu'
 have ew:jts.toArray[j]=w':=by simpa [h2] using hw'
 rw [eu,ew,z7b j ds[j] es[j] (by simp [hd]) (by simp [he])]
 exact ih A.in1 vs[j] ws[j] u' w' ds[j] es[j] (by rw [z90]; omega) (z1q f1 (Qj hd)) (z1q f2 (Qj he)) (g1 j _ _ (by simp [hv]) (by simp [hd])) (g2 j _ _ (by simp [hw]) (by simp [he])) ru' rw''
theorem z9v (h1:n=ds.length) (h2:m=es.length):((Wr (min n m)).all (itE ds es) && n == m)=eqDs ds es:=by
 subst h1 h2
 by_cases hl:ds.length=es.length
 ·rw [← hl,Nat.min_self,z3z hl z7b]
  simp
 ·rw [z3y hl]
  simp [hl]
theorem rcT (I:Inv X pins σ H s) (n:Nat) (A:Wm) (hu0:A.units < Qh) (t1:s.heap.IsTuple a its.toArray) (t2:s.heap.IsTuple b jts.toArray) (r1:Vals vs its) (r2:Vals ws jts) (l1:vs.length=ds.length) (l2:ws.length=es.length)
  (g1:∀ (i:Nat) v d,vs[i]? = some v→ds[i]? = some d→Rep H NoO v d) (g2:∀ (i:Nat) v d,ws[i]? = some v→es[i]? = some d→Rep H NoO v d) (f1:flat n (.tup ds)=true) (f2:flat n (.tup es)=true) (ih:z6O H s A n) :
  RcAt A s (.ref a) (.ref b) (eqDs ds es):=by
 cases n with
 | zero=>simp [flat] at f1
 | succ n =>
  simp only [flat] at f1 f2
  obtain ⟨hu,ih⟩:=ih
  have q:=RcAt.tuples (A:=A) (s:=s) t1 t2 hu0 (z3w hu ih r1 r2 l1 l2 g1 g2 f1 f2)
  rw [z9v (by have:=r1.length; simp; omega) (by have:=r2.length; simp; omega)] at q
  exact q
theorem rnT (I:Inv X pins σ H s) (n:Nat) (A:Wm) (hu0:A.units < Qh) (t1:s.heap.IsTuple a its.toArray) (t2:s.heap.IsTuple b jts.toArray) (r1:Vals vs its) (r2:Vals ws jts) (l1:vs.length=ds.length) (l2:ws.length=es.length)
  (g1:∀ (i:Nat) v d,vs[i]? = some v→ds[i]? = some d→Rep H NoO v d) (g2:∀ (i:Nat) v d,ws[i]? = some v→es[i]? = some d→Rep H NoO v d) (f1:flat n (.tup ds)=true) (f2:flat n (.tup es)=true) (ih:z6O H s A n) :
  RcNeAt A s (.ref a) (.ref b) (!eqDs ds es):=by
 cases n with
 | zero=>simp [flat] at f1
 | succ n =>
  simp only [flat] at f1 f2
  obtain ⟨hu,ih⟩:=ih
  have q:=RcNeAt.tuples (A:=A) (s:=s) t1 t2 hu0 (z3w hu ih r1 r2 l1 l2 g1 g2 f1 f2)
  rw [z9v (by have:=r1.length; simp; omega) (by have:=r2.length; simp; omega)] at q
  exact q
theorem rcL (I:Inv X pins σ H s) (n:Nat) (A:Wm) (hu0:A.units < Qh) (t1:s.heap.IsList a its.toArray) (t2:s.heap.IsList b jts.toArray) (r1:Vals vs its) (r2:Vals ws jts) (l1:vs.length=ds.length) (l2:ws.length=es.length)
  (g1:∀ (i:Nat) v d,vs[i]? = some v→ds[i]? = some d→Rep H NoO v d) (g2:∀ (i:Nat) v d,ws[i]? = some v→es[i]? = some d→Rep H NoO v d) (f1:flat n (.lst ds)=true) (f2:flat n (.lst es)=true) (ih:z6O H s A n) :
  RcAt A s (.ref a) (.ref b) (eqDs ds es):=by
 cases n with
 | zero=>simp [flat] at f1
 | succ n =>
  simp only [flat] at f1 f2
  obtain ⟨hu,ih⟩:=ih
  have z1:its.toArray.size=ds.length:=by have:=r1.length; simp; omega
  have z2:jts.toArray.size=es.length:=by have:=r2.length; simp; omega
  by_cases hl:ds.length=es.length
  ·have q:=RcAt.lists (A:=A) (s:=s) t1 t2 (by rw [z1,z2]; exact hl) hu0 (z3w hu ih r1 r2 l1 l2 g1 g2 f1 f2)
   rw [z1,z3z hl z7b] at q
   exact q
  ·rw [z3y hl]
   exact RcAt.lists_lengths (A:=A) (s:=s) t1 t2 (by rw [z1,z2]; simpa using hl) hu0
theorem rnL (I:Inv X pins σ H s) (n:Nat) (A:Wm) (hu0:A.units < Qh) (t1:s.heap.IsList a its.toArray) (t2:s.heap.IsList b jts.toArray) (r1:Vals vs its) (r2:Vals ws jts) (l1:vs.length=ds.length) (l2:ws.length=es.length)
  (g1:∀ (i:Nat) v d,vs[i]? = some v→ds[i]? = some d→Rep H NoO v d) (g2:∀ (i:Nat) v d,ws[i]? = some v→es[i]? = some d→Rep H NoO v d) (f1:flat n (.lst ds)=true) (f2:flat n (.lst es)=true) (ih:z6O H s A n) :
  RcNeAt A s (.ref a) (.ref b) (!eqDs ds es):=by
 cases n with
 | zero=>simp [flat] at f1
 | succ n =>
  simp only [flat] at f1 f2
  obtain ⟨hu,ih⟩:=ih
  have z1:its.toArray.size=ds.length:=by have:=r1.length; simp; omega
  have z2:jts.toArray.size=es.length:=by have:=r2.length; simp; omega
  by_cases hl:ds.length=es.length
  ·have q:=RcNeAt.lists (A:=A) (s:=s) t1 t2 (by rw [z1,z2]; exact hl) hu0 (z3w hu ih r1 r2 l1 l2 g1 g2 f1 f2)
   rw [z1,z3z hl z7b] at q
   exact q
  ·rw [z3y hl]
   exact RcNeAt.lists_lengths (A:=A) (s:=s) t1 t2 (by rw [z1,z2]; simpa using hl) hu0
theorem rcD (I:Inv X pins σ H s) (n:Nat) (A:Wm) (x y:V) (u w:Value) (d e:D) (hu0:A.units < Qh) (fd:flat n d=true) (fe:flat n e=true) (ih:z6O H s A n) (rx:Rep H NoO x d) (ry:Rep H NoO y e) (ru:RelV x u) (rw':RelV y w):RcAt A s u w (eqD d e):=by
 cases rx with
 | non =>
  cases ru
  cases ry with
  | non =>
   cases rw'
   simp only [eqD]; exact RcAt.none_none
  | bl q =>
   cases rw'
   simp only [eqD]; exact RcAt.none_bool _
  | int q =>
   obtain ⟨t2,rfl⟩:=rw'
   simp only [eqD]; exact RcAt.none_int _ _
  | str q =>
   obtain ⟨t2,rfl⟩:=rw'
   simp only [eqD]; exact RcAt.none_str _ _
  | tup k1 k2 k3 k4 =>
   cases rw'; obtain ⟨its2,r2,t2⟩:=Inv.rdT I k2
   simp only [eqD]; exact RcAt.none_tuple t2 hu0
  | lst k1 k2 k3 k4 =>
   cases rw'; obtain ⟨its2,r2,t2⟩:=Inv.rdL I k2
   simp only [eqD]; exact RcAt.none_list t2 hu0
  | dct k1 k2 k3 k4=>(cases n <;> simp [flat] at fe)
  | exc k1 k2=>(cases n <;> simp [flat] at fe)
  | xd k1 k2=>(cases n <;> simp [flat] at fe)
  | fn _=>(cases n <;> simp [flat] at fe)
 | bl p =>
  cases ru
  cases ry with
  | non =>
   cases rw'
   simp only [eqD]; exact RcAt.bool_none _
  | bl q =>
   cases rw'
   simp only [eqD]; exact RcAt.bool_bool _ _
  | int q =>
   obtain ⟨t2,rfl⟩:=rw'
   simp only [eqD]; exact RcAt.bool_int _ _ _
  | str q =>
   obtain ⟨t2,rfl⟩:=rw'
   simp only [eqD]; exact RcAt.bool_str _ _ _
  | tup k1 k2 k3 k4 =>
   cases rw'; obtain ⟨its2,r2,t2⟩:=Inv.rdT I k2
   simp only [eqD]; exact RcAt.bool_tuple _ t2 hu0
  | lst k1 k2 k3 k4 =>
   cases rw'; obtain ⟨its2,r2,t2⟩:=Inv.rdL I k2
   simp only [eqD]; exact RcAt.bool_list _ t2 hu0
  | dct k1 k2 k3 k4=>(cases n <;> simp [flat] at fe)
  | exc k1 k2=>(cases n <;> simp [flat] at fe)
  | xd k1 k2=>(cases n <;> simp [flat] at fe)
  | fn _=>(cases n <;> simp [flat] at fe)
 | int p =>
  obtain ⟨t1,rfl⟩:=ru
  cases ry with
  | non =>
   cases rw'
   simp only [eqD]; exact RcAt.int_none _ _
  | bl q =>
   cases rw'
   simp only [eqD]; exact RcAt.int_bool _ _ _
  | int q =>
   obtain ⟨t2,rfl⟩:=rw'
   simp only [eqD]; exact RcAt.int_int _ _ _ _
  | str q =>
   obtain ⟨t2,rfl⟩:=rw'
   simp only [eqD]; exact RcAt.int_str _ _ _ _
  | tup k1 k2 k3 k4 =>
   cases rw'; obtain ⟨its2,r2,t2⟩:=Inv.rdT I k2
   simp only [eqD]; exact RcAt.int_tuple _ _ t2 hu0
  | lst k1 k2 k3 k4 =>
   cases rw'; obtain ⟨its2,r2,t2⟩:=Inv.rdL I k2
   simp only [eqD]; exact RcAt.int_list _ _ t2 hu0
  | dct k1 k2 k3 k4=>(cases n <;> simp [flat] at fe)
  | exc k1 k2=>(cases n <;> simp [flat] at fe)
  | xd k1 k2=>(cases n <;> simp [flat] at fe)
  | fn _=>(cases n <;> simp [flat] at fe)
 | str p =>
  obtain ⟨t1,rfl⟩:=ru
  cases ry with
  | non =>
   cases rw'
   simp only [eqD]; exact RcAt.str_none _ _
  | bl q =>
   cases rw'
   simp only [eqD]; exact RcAt.str_bool _ _ _
  | int q =>
   obtain ⟨t2,rfl⟩:=rw'
   simp only [eqD]; exact RcAt.str_int _ _ _ _
  | str q =>
   obtain ⟨t2,rfl⟩:=rw'
   simp only [eqD]; rw [← z6n]; exact RcAt.str_str _ _ _ _
  | tup k1 k2 k3 k4 =>
   cases rw'; obtain ⟨its2,r2,t2⟩:=Inv.rdT I k2
   simp only [eqD]; exact RcAt.str_tuple _ _ t2 hu0
  | lst k1 k2 k3 k4 =>
   cases rw'; obtain ⟨its2,r2,t2⟩:=Inv.rdL I k2
   simp only [eqD]; exact RcAt.str_list _ _ t2 hu0
  | dct k1 k2 k3 k4=>(cases n <;> simp [flat] at fe)
  | exc k1 k2=>(cases n <;> simp [flat] at fe)
  | xd k1 k2=>(cases n <;> simp [flat] at fe)
  | fn _=>(cases n <;> simp [flat] at fe)
 | tup h1 h2 h3 h4 =>
  cases ru; obtain ⟨its1,r1,t1⟩:=Inv.rdT I h2
  cases ry with
  | non =>
   cases rw'
   simp only [eqD]; exact RcAt.tuple_none t1 hu0
  | bl q =>
   cases rw'
   simp only [eqD]; exact RcAt.tuple_bool _ t1 hu0
  | int q =>
   obtain ⟨t2,rfl⟩:=rw'
   simp only [eqD]; exact RcAt.tuple_int _ _ t1 hu0
  | str q =>
   obtain ⟨t2,rfl⟩:=rw'
   simp only [eqD]; exact RcAt.tuple_str _ _ t1 hu0
  | tup k1 k2 k3 k4 =>
   cases rw'; obtain ⟨its2,r2,t2⟩:=Inv.rdT I k2
   simp only [eqD]; exact rcT I n A hu0 t1 t2 r1 r2 h3 k3 h4 k4 fd fe ih
  | lst k1 k2 k3 k4 =>
   cases rw'; obtain ⟨its2,r2,t2⟩:=Inv.rdL I k2
   simp only [eqD]; exact RcAt.tuple_list t1 t2 hu0
  | dct k1 k2 k3 k4=>(cases n <;> simp [flat] at fe)
  | exc k1 k2=>(cases n <;> simp [flat] at fe)
  | xd k1 k2=>(cases n <;> simp [flat] at fe)
  | fn _=>(cases n <;> simp [flat] at fe)
 | lst h1 h2 h3 h4 =>
  cases ru; obtain ⟨its1,r1,t1⟩:=Inv.rdL I h2
  cases ry with
  | non =>
   cases rw'
   simp only [eqD]; exact RcAt.list_none t1 hu0
  | bl q =>
   cases rw'
   simp only [eqD]; exact RcAt.list_bool _ t1 hu0
  | int q =>
   obtain ⟨t2,rfl⟩:=rw'
   simp only [eqD]; exact RcAt.list_int _ _ t1 hu0
  | str q =>
   obtain ⟨t2,rfl⟩:=rw'
   simp only [eqD]; exact RcAt.list_str _ _ t1 hu0
  | tup k1 k2 k3 k4 =>
   cases rw'; obtain ⟨its2,r2,t2⟩:=Inv.rdT I k2
   simp only [eqD]; exact RcAt.list_tuple t1 t2 hu0
  | lst k1 k2 k3 k4 =>
   cases rw'; obtain ⟨its2,r2,t2⟩:=Inv.rdL I k2
   simp only [eqD]; exact rcL I n A hu0 t1 t2 r1 r2 h3 k3 h4 k4 fd fe ih
  | dct k1 k2 k3 k4=>(cases n <;> simp [flat] at fe)
  | exc k1 k2=>(cases n <;> simp [flat] at fe)
  | xd k1 k2=>(cases n <;> simp [flat] at fe)
  | fn _=>(cases n <;> simp [flat] at fe)
 | dct h1 h2 h3 h4=>(cases n <;> simp [flat] at fd)
 | exc h1 h2=>(cases n <;> simp [flat] at fd)
 | xd h1 h2=>(cases n <;> simp [flat] at fd)
 | fn _=>(cases n <;> simp [flat] at fd)
theorem rnD (I:Inv X pins σ H s) (n:Nat) (A:Wm) (x y:V) (u w:Value) (d e:D) (hu0:A.units < Qh) (fd:flat n d=true) (fe:flat n e=true) (ih:z6O H s A n) (rx:Rep H NoO x d) (ry:Rep H NoO y e) (ru:RelV x u) (rw':RelV y w):RcNeAt A s u w (!eqD d e):=by
 cases rx with
 | non =>
  cases ru
  cases ry with
  | non =>
   cases rw'
   simp only [eqD]; exact RcNeAt.none_none
  | bl q =>
   cases rw'
   simp only [eqD]; exact RcNeAt.none_bool _
  | int q =>
   obtain ⟨t2,rfl⟩:=rw'
   simp only [eqD]; exact RcNeAt.none_int _ _
  | str q =>
   obtain ⟨t2,rfl⟩:=rw'
   simp only [eqD]; exact RcNeAt.none_str _ _
  | tup k1 k2 k3 k4 =>
   cases rw'; obtain ⟨its2,r2,t2⟩:=Inv.rdT I k2
   simp only [eqD]; exact RcNeAt.none_tuple t2 hu0
  | lst k1 k2 k3 k4 =>
   cases rw'; obtain ⟨its2,r2,t2⟩:=Inv.rdL I k2
   simp only [eqD]; exact RcNeAt.none_list t2 hu0
  | dct k1 k2 k3 k4=>(cases n <;> simp [flat] at fe)
  | exc k1 k2=>(cases n <;> simp [flat] at fe)
  | xd k1 k2=>(cases n <;> simp [flat] at fe)
  | fn _=>(cases n <;> simp [flat] at fe)
 | bl p =>
  cases ru
  cases ry with
  | non =>
   cases rw'
   simp only [eqD]; exact RcNeAt.bool_none _
  | bl q =>
   cases rw'
   simp only [eqD]; exact RcNeAt.bool_bool _ _
  | int q =>
   obtain ⟨t2,rfl⟩:=rw'
   simp only [eqD]; exact RcNeAt.bool_int _ _ _
  | str q =>
   obtain ⟨t2,rfl⟩:=rw'
   simp only [eqD]; exact RcNeAt.bool_str _ _ _
  | tup k1 k2 k3 k4 =>
   cases rw'; obtain ⟨its2,r2,t2⟩:=Inv.rdT I k2
   simp only [eqD]; exact RcNeAt.bool_tuple _ t2 hu0
  | lst k1 k2 k3 k4 =>
   cases rw'; obtain ⟨its2,r2,t2⟩:=Inv.rdL I k2
   simp only [eqD]; exact RcNeAt.bool_list _ t2 hu0
  | dct k1 k2 k3 k4=>(cases n <;> simp [flat] at fe)
  | exc k1 k2=>(cases n <;> simp [flat] at fe)
  | xd k1 k2=>(cases n <;> simp [flat] at fe)
  | fn _=>(cases n <;> simp [flat] at fe)
 | int p =>
  obtain ⟨t1,rfl⟩:=ru
  cases ry with
  | non =>
   cases rw'
   simp only [eqD]; exact RcNeAt.int_none _ _
  | bl q =>
   cases rw'
   simp only [eqD]; exact RcNeAt.int_bool _ _ _
  | int q =>
   obtain ⟨t2,rfl⟩:=rw'
   simp only [eqD]; exact RcNeAt.int_int _ _ _ _
  | str q =>
   obtain ⟨t2,rfl⟩:=rw'
   simp only [eqD]; exact RcNeAt.int_str _ _ _ _
  | tup k1 k2 k3 k4 =>
   cases rw'; obtain ⟨its2,r2,t2⟩:=Inv.rdT I k2
   simp only [eqD]; exact RcNeAt.int_tuple _ _ t2 hu0
  | lst k1 k2 k3 k4 =>
   cases rw'; obtain ⟨its2,r2,t2⟩:=Inv.rdL I k2
   simp only [eqD]; exact RcNeAt.int_list _ _ t2 hu0
  | dct k1 k2 k3 k4=>(cases n <;> simp [flat] at fe)
  | exc k1 k2=>(cases n <;> simp [flat] at fe)
  | xd k1 k2=>(cases n <;> simp [flat] at fe)
  | fn _=>(cases n <;> simp [flat] at fe)
 | str p =>
  obtain ⟨t1,rfl⟩:=ru
  cases ry with
  | non =>
   cases rw'
   simp only [eqD]; exact RcNeAt.str_none _ _
  | bl q =>
   cases rw'
   simp only [eqD]; exact RcNeAt.str_bool _ _ _
  | int q =>
   obtain ⟨t2,rfl⟩:=rw'
   simp only [eqD]; exact RcNeAt.str_int _ _ _ _
  | str q =>
   obtain ⟨t2,rfl⟩:=rw'
   simp only [eqD]; rw [← z6n]; exact RcNeAt.str_str _ _ _ _
  | tup k1 k2 k3 k4 =>
   cases rw'; obtain ⟨its2,r2,t2⟩:=Inv.rdT I k2
   simp only [eqD]; exact RcNeAt.str_tuple _ _ t2 hu0
  | lst k1 k2 k3 k4 =>
   cases rw'; obtain ⟨its2,r2,t2⟩:=Inv.rdL I k2
   simp only [eqD]; exact RcNeAt.str_list _ _ t2 hu0
  | dct k1 k2 k3 k4=>(cases n <;> simp [flat] at fe)
  | exc k1 k2=>(cases n <;> simp [flat] at fe)
  | xd k1 k2=>(cases n <;> simp [flat] at fe)
  | fn _=>(cases n <;> simp [flat] at fe)
 | tup h1 h2 h3 h4 =>
  cases ru; obtain ⟨its1,r1,t1⟩:=Inv.rdT I h2
  cases ry with
  | non =>
   cases rw'
   simp only [eqD]; exact RcNeAt.tuple_none t1 hu0
  | bl q =>
   cases rw'
   simp only [eqD]; exact RcNeAt.tuple_bool _ t1 hu0
  | int q =>
   obtain ⟨t2,rfl⟩:=rw'
   simp only [eqD]; exact RcNeAt.tuple_int _ _ t1 hu0
  | str q =>
   obtain ⟨t2,rfl⟩:=rw'
   simp only [eqD]; exact RcNeAt.tuple_str _ _ t1 hu0
  | tup k1 k2 k3 k4 =>
   cases rw'; obtain ⟨its2,r2,t2⟩:=Inv.rdT I k2
   simp only [eqD]; exact rnT I n A hu0 t1 t2 r1 r2 h3 k3 h4 k4 fd fe ih
  | lst k1 k2 k3 k4 =>
   cases rw'; obtain ⟨its2,r2,t2⟩:=Inv.rdL I k2
   simp only [eqD]; exact RcNeAt.tuple_list t1 t2 hu0
  | dct k1 k2 k3 k4=>(cases n <;> simp [flat] at fe)
  | exc k1 k2=>(cases n <;> simp [flat] at fe)
  | xd k1 k2=>(cases n <;> simp [flat] at fe)
  | fn _=>(cases n <;> simp [flat] at fe)
 | lst h1 h2 h3 h4 =>
  cases ru; obtain ⟨its1,r1,t1⟩:=Inv.rdL I h2
  cases ry with
  | non =>
   cases rw'
   simp only [eqD]; exact RcNeAt.list_none t1 hu0
  | bl q =>
   cases rw'
   simp only [eqD]; exact RcNeAt.list_bool _ t1 hu0
  | int q =>
   obtain ⟨t2,rfl⟩:=rw'
   simp only [eqD]; exact RcNeAt.list_int _ _ t1 hu0
  | str q =>
   obtain ⟨t2,rfl⟩:=rw'
   simp only [eqD]; exact RcNeAt.list_str _ _ t1 hu0
  | tup k1 k2 k3 k4 =>
   cases rw'; obtain ⟨its2,r2,t2⟩:=Inv.rdT I k2
   simp only [eqD]; exact RcNeAt.list_tuple t1 t2 hu0
  | lst k1 k2 k3 k4 =>
   cases rw'; obtain ⟨its2,r2,t2⟩:=Inv.rdL I k2
   simp only [eqD]; exact rnL I n A hu0 t1 t2 r1 r2 h3 k3 h4 k4 fd fe ih
  | dct k1 k2 k3 k4=>(cases n <;> simp [flat] at fe)
  | exc k1 k2=>(cases n <;> simp [flat] at fe)
  | xd k1 k2=>(cases n <;> simp [flat] at fe)
  | fn _=>(cases n <;> simp [flat] at fe)
 | dct h1 h2 h3 h4=>(cases n <;> simp [flat] at fd)
 | exc h1 h2=>(cases n <;> simp [flat] at fd)
 | xd h1 h2=>(cases n <;> simp [flat] at fd)
 | fn _=>(cases n <;> simp [flat] at fd)
theorem z97 (h:RcAt A s u w k) (hs:u=w→k=true) (hf:∀ b t,u≠Value.float b t):EqAt A s u w k:=fun prog w' E Q hq=>by
 unfold eqBool
 refine WP ?_
 refine J7 (fun hab=>?_) (fun _=>?_)
 ·have e:=eq_of_beq hab
  rw [hs e] at hq
  exact W0 (QG (W4 hq))
 ·cases u with
  | float b t=>exact absurd rfl (hf b t)
  | _=>exact W0 (h prog w' E _ (Qo hq))
theorem z8L (r:Rep H NoO x d) (ru:RelV x u) (b:UInt64) (t:Tok):u≠Value.float b t:=by
 intro e
 subst e
 cases r <;> first | (cases ru; done) | (obtain ⟨t',e⟩:=ru; cases e)
theorem eqAtD (I:Inv X pins σ H s) (n:Nat):EqIt H s n:=by
 induction n with
 | zero =>
  intro A x y u w d e hu fd fe rx ry ru rw'
  refine z97 (rcD I 0 A x y u w d e (by omega) fd fe trivial rx ry ru rw') (fun h=>?_) (z8L rx ru)
  subst h
  have:=ru.inj rw'
  subst this
  rw [Rep.inj rx fd fe ry]
  exact z5e fe
 | succ n ih =>
  intro A x y u w d e hu fd fe rx ry ru rw'
  refine z97 (rcD I (n + 1) A x y u w d e (by omega) fd fe ⟨by omega,ih⟩ rx ry ru rw') (fun h=>?_) (z8L rx ru)
  subst h
  have:=ru.inj rw'
  subst this
  rw [Rep.inj rx fd fe ry]
  exact z5e fe
theorem zdz (I:Inv X pins σ H s):∀ n:Nat,A.units + n + 1 < Qh→z6O H s A n
 | 0,_=>trivial
 | n + 1,h=>⟨by omega,eqAtD I n⟩
def rEqD:R2:=fun x y H Q=>∃ d e,Rep H NoO x d∧Rep H NoO y e∧flat 50 d=true∧flat 50 e=true∧Q (.bl (eqD d e)) H
def rNeD:R2:=fun x y H Q=>∃ d e,Rep H NoO x d∧Rep H NoO y e∧flat 50 d=true∧flat 50 e=true∧Q (.bl (!eqD d e)) H
theorem z2p (hu:X.A.units + 64 < Qh):OpR X (WE .Eq) rEqD:=by
 intro pins s σ H x y v u Q I rx ry h
 obtain ⟨d,e,r1,r2,f1,f2,q⟩:=h
 exact rcD I 50 X.A x y v u d e (by omega) f1 f2 (zdz I 50 (by omega)) r1 r2 rx ry X.prog X.w X.xe _ ⟨.bl _,H,I,rfl,q⟩
theorem zcZ (hu:X.A.units + 64 < Qh):OpR X (WE .NotEq) rNeD:=by
 intro pins s σ H x y v u Q I rx ry h
 obtain ⟨d,e,r1,r2,f1,f2,q⟩:=h
 exact rnD I 50 X.A x y v u d e (by omega) f1 f2 (zdz I 50 (by omega)) r1 r2 rx ry X.prog X.w X.xe _ ⟨.bl _,H,I,rfl,q⟩
end
def cutL {α:Type} (xs:List α) (lo hi:Option Int):List α:=(xs.drop (HT.sIx xs.length 0 lo)).take (HT.sIx xs.length xs.length hi - HT.sIx xs.length 0 lo)
theorem zaK (xs:List V) (lo hi:Option Int):cutL xs lo hi=cutV xs lo hi:=rfl
theorem zad (xs:List α) (lo hi:Option Int):(cutL xs lo hi).length≤xs.length:=by
 unfold cutL
 rw [Jm,List.length_drop]
 omega
theorem Reps.cut (lo hi:Option Int) (h:Reps H O vs ds):Reps H O (cutL vs lo hi) (cutL ds lo hi):=by
 unfold cutL
 rw [h.1]
 exact Reps.take _ (Reps.drop _ h)
theorem z9i {α:Type} {xs:List α} {lo hi:Option Int} (h:HT.sIx xs.length 0 lo=0∧HT.sIx xs.length xs.length hi=xs.length):cutL xs lo hi=xs:=by
 unfold cutL
 rw [h.1,h.2]
 simp
section
variable {prog:We} {w:Wk} {A:Wm} {E:Value→W1→Prop} {s:W1}
theorem z2C {t sl:Addr} {items:Array Value} {vl vu:Value} {lo hi:Option Int} {Q:Value→W1→Prop} (ht:IsTup s.heap t items) (hs:s.heap.IsSliceOf sl vl vu .none) (pl:IsPart vl lo) (pu:IsPart vu hi)
  (hw:HT.sIx items.size 0 lo=0∧HT.sIx items.size items.size hi=items.size) (h:Q (.ref t) s):W6 (model prog w) A (getItem (.ref t) (.ref sl)) Q E s:=by
 obtain ⟨os,hos,hcs,hds⟩:=id hs
 have hTs:s.TypeIs (.ref sl) "slice":=⟨os,hos,hcs⟩
 unfold getItem
 try with_reducible refine WP ?_
 first | refine W0 (W4 ?_) | skip
 refine W0 (wpAny_sequenceKey ht.typeIs (by decide) ?_)
 refine W0 (Qb (name:=Str.ofString "__getitem__") ht.typeIs Qn
  (Qi Qn ht.typeIs entry_tuple_getitem ?_ (args_tuple_getitem _ _)))
 show W6 _ _ (Builtin.Tuple.tupleItemsOf (.ref t) >>= _) _ _ s
 refine W0 (tupleItemsOf_ ht ?_)
 refine W0 (QJ hTs ?_)
 rw [if_pos (by decide)]
 refine W0 (HT.sliceApplied_gen hs pl pu ?_)
 show W6 _ _ (if (((HT.sIx items.size 0 lo:Nat):Int) == 0 && (1:Int) == 1 && (HT.sIx items.size items.size hi - HT.sIx items.size 0 lo) == items.size)=true then _ else _) _ _ s
 rw [hw.1,hw.2]
 rw [if_pos (by simp)]
 refine W0 (m:=Builtin.Tuple.tupleIsExact (.ref t)) ?_
 unfold Builtin.Tuple.tupleIsExact
 refine W0 (QJ ht.typeIs (W4 ?_))
 rw [if_pos (by decide)]
 exact W0 (QG (W0 (W4 (W4 ⟨_,rfl,W4 h⟩))))
end
section
variable {X:Cx}
def zcu (K:W2):V→Option Int→Option Int→Hp→VK→Prop:=fun x lo hi H Q=>∃ a xs,x = .ref a∧SqT K H a xs ∧
 ((HT.sIx xs.length 0 lo=0∧HT.sIx xs.length xs.length hi=xs.length)→Q (.ref a) H)∧(¬ (HT.sIx xs.length 0 lo=0∧HT.sIx xs.length xs.length hi=xs.length)→∀ p,H p=none→Q (.ref p) (upd H p (.tup (cutV xs lo hi))))
theorem sl_tup2:SlR X (zcu X.K):=by
 intro pins s σ H x v vl vu lo hi sl Q I rx hs pl pu h
 obtain ⟨a,xs,rfl,hx,q1,q2⟩:=h
 by_cases hw:HT.sIx xs.length 0 lo=0∧HT.sIx xs.length xs.length hi=xs.length
 ·cases rx
  obtain ⟨its,r,ht,hz⟩:=I.tuple hx
  have hlen:its.toArray.size=xs.length:=by rw [Wn]; exact r.length.symm
  refine ⟨"tuple",_,PyProof.Rows.slot_tuple_getitem.lookup,ht.typeIs,?_⟩
  exact z2C ht hs pl pu (by rw [hlen]; exact hw) ⟨.ref a,H,I,rfl,q1 hw⟩
 ·exact zcf pins s σ H (.ref a) v vl vu lo hi sl Q I rx hs pl pu ⟨a,xs,rfl,hx,hw,q2 hw⟩
theorem z8o (a b:Nat):sliceRange (a:Int) (b:Int) 1=(Wr (b - a)).map (fun k=>a + k):=by
 have h0:((1:Int) > 0)=True:=by simp
 unfold sliceRange
 simp only [h0,if_true]
 by_cases hlt:(a:Int) < (b:Int)
 ·rw [if_pos hlt]
  have e3:(((b:Int) - (a:Int) + 1 - 1) / 1).toNat=b - a:=by
   rw [Int.ediv_one]; omega
  rw [e3]
  refine List.map_congr_left fun k _=>?_
  omega
 ·rw [if_neg hlt]
  have:b - a=0:=by omega
  rw [this]
  rfl
theorem z4l (lo hi:Option Int) (n:Nat):Qd lo hi 1 n=(Wr (HT.sIx n n hi - HT.sIx n 0 lo)).map (fun k=>HT.sIx n 0 lo + k):=by
 have c:∀ (i:Int) (d:Nat),max 0 (min (if i < 0 then i + (n:Int) else i) (n:Int))=((HT.sIx n d (some i):Nat):Int):=by
  intro i d
  show max 0 (min (if i < 0 then i + (n:Int) else i) (n:Int))=(((if i < 0 then (i + (n:Int)).toNat else min i.toNat n):Nat):Int)
  by_cases hi:i < 0
  ·simp only [if_pos hi]; omega
  ·simp only [if_neg hi]; omega
 have h0:((1:Int) > 0)=True:=by simp
 rw [← z8o]
 unfold Qd
 simp only [h0,if_true]
 cases lo with
 | none =>
  cases hi with
  | none=>rfl
  | some j=>show sliceRange 0 (max 0 (min (if j < 0 then j + (n:Int) else j) (n:Int))) 1=_; rw [c j n]; rfl
 | some i =>
  cases hi with
  | none=>show sliceRange (max 0 (min (if i < 0 then i + (n:Int) else i) (n:Int))) (n:Int) 1=_; rw [c i 0]; rfl
  | some j=>show sliceRange (max 0 (min (if i < 0 then i + (n:Int) else i) (n:Int))) (max 0 (min (if j < 0 then j + (n:Int) else j) (n:Int))) 1=_; rw [c i 0,c j n]
theorem zaV (x:Tx) (lo hi:Option Int):(⟨((Qd lo hi 1 (toS x).length).filterMap ((toS x).cps[·]?)).toArray⟩:Str)=toS (cutL x lo hi):=by
 unfold toS
 congr 1
 rw [z4l]
 have:=pick_run (x.toArray) (HT.sIx x.length 0 lo) (HT.sIx x.length x.length hi - HT.sIx x.length 0 lo)
 have hl:({ cps:=x.toArray }:Str).length=x.length:=by simp [Str.length]
 rw [hl]
 rw [this]
 rfl
def rSlS:V→Option Int→Option Int→Hp→VK→Prop:=fun x lo hi H Q=>∃ z:Tx,x = .str (toS z)∧z.length≤W7∧Q (.str (toS (cutL z lo hi))) H
theorem z8y (p:IsPart v o):∃ q:Option (Int×Tok),v=partValue q∧q.map (·.1)=o:=by
 cases p with
 | none=>exact ⟨none,rfl,rfl⟩
 | int i t=>exact ⟨some (i,t),rfl,rfl⟩
theorem sl_str:SlR X rSlS:=by
 intro pins s σ H x v vl vu lo hi sl Q I rx hs pl pu h
 obtain ⟨z,rfl,hz,q⟩:=h
 obtain ⟨t,rfl⟩:=rx
 obtain ⟨l,rfl,el⟩:=z8y pl
 obtain ⟨u,rfl,eu⟩:=z8y pu
 obtain ⟨o,ho,hc,hd⟩:=hs
 refine ⟨"str",_,F.slot_str_getitem.lookup,typeIs_str s _ t,?_⟩
 refine wpAny_getItem_str_slice (l:=l) (u:=u) (st:=none) ⟨o,ho,hc,hd⟩ rfl ?_
 unfold sliceMade
 have e:(slicePicked (toS z) l u none)=Qd lo hi 1 (toS z).length:=by
  unfold slicePicked
  rw [el,eu]
  rfl
 rw [e]
 by_cases hw:(((none:Option (Int×Tok)).map (·.1)).getD 1 == 1 && (Qd lo hi 1 (toS z).length).length == (toS z).length)=true
 ·rw [if_pos hw]
  refine ⟨.str (toS (cutL z lo hi)),H,I,⟨t,?_⟩,q⟩
  congr 1
  rw [Ws] at hw
  have hw2:=eq_of_beq hw.2
  rw [z4l,Wx,List.length_range,z1x] at hw2
  have h1:=HT.sIx_le z.length 0 (Qf _) lo
  have h2:=HT.sIx_le z.length z.length (Wb _) hi
  unfold cutL
  congr 1
  by_cases h0:z.length=0
  ·have:z=[]:=Qs h0
   subst this
   simp
  ·have a1:HT.sIx z.length 0 lo=0:=by omega
   rw [a1] at hw2 ⊢
   rw [hw2]
   simp
 ·rw [if_neg hw]
  show Made.post (.str _) _ _
  rw [zaV]
  exact ⟨by rw [z1x]; exact WQ (zad z lo hi) hz,.str (toS (cutL z lo hi)),H,I.tok _,⟨_,rfl⟩,q⟩
theorem op_catT0:OpR X (Q5 .Add) (fun x y H Q=>∃ a b ys,x = .ref a∧y = .ref b∧SqT X.K H a []∧SqT X.K H b ys∧Q (.ref b) H):=by
 intro pins s σ H x y v u Q I rx ry h
 obtain ⟨a,b,ys,rfl,rfl,ha,hb,q⟩:=h
 cases rx
 cases ry
 obtain ⟨its,r1,p1,_⟩:=I.tuple ha
 obtain ⟨its2,r2,p2,_⟩:=I.tuple hb
 cases r1
 obtain ⟨⟨cls,dd,data,sl⟩,ho,hc,n,hd⟩:=id p1
 obtain ⟨⟨cls2,dd2,data2,sl2⟩,ho2,hc2,n2,hd2⟩:=id p2
 simp only at hc hd hc2 hd2
 subst hc hd hc2 hd2
 exact concat_meets ⟨_,ho,rfl⟩ ⟨_,ho2,rfl⟩ noFill_tuple_add seq_tuple_add PySem.F.slot_tuple_add PySem.F.entry_tuple_add (PySem.F.args_tuple_add_2 _ _)
   (tuple_addW0 a b #[] its2.toArray n n2 dd dd2 sl sl2 rfl) ⟨ho,ho2,.ref b,H,I,rfl,q⟩
def zcz (K:W2):R2:=fun x y H Q=>∃ l b xs zs,x = .ref l∧y = .ref b∧SqL K H l xs∧SqL K H b zs∧xs.length + zs.length≤W7∧∀ p,H p=none→Q (.ref p) (upd H p (.lst (xs ++ zs)))
theorem zbv:OpR X (Q5 .Add) (zcz X.K):=by
 intro pins s σ H x y v u Q I rx ry h
 obtain ⟨l,b,xs,zs,rfl,rfl,hH,hB,hz,q⟩:=h
 cases rx
 cases ry
 obtain ⟨its,r,⟨⟨cls,dd,data,sl⟩,n,e,hc,hdd,hd⟩,z⟩:=I.list hH
 obtain ⟨its2,r2,⟨⟨cls2,dd2,data2,sl2⟩,n2,e2,hc2,hdd2,hd2⟩,z2⟩:=I.list hB
 simp only at hc hd hdd hc2 hd2 hdd2
 subst hc hd hdd hc2 hd2 hdd2
 have hl:=r.length
 have hl2:=r2.length
 refine concat_meets ⟨_,e,rfl⟩ ⟨_,e2,rfl⟩ noFill_list_add seq_list_add PySem.F.slot_list_add PySem.F.entry_list_add (PySem.F.args_list_add_2 _ _)
   (list_addW l b its.toArray its2.toArray n n2 none none sl sl2 (by rw [Wn,Wn]; omega)) ⟨e,e2,?_⟩
 have ea:its.toArray ++ its2.toArray=(its ++ its2).toArray:=by simp
 rw [ea]
 exact ⟨.ref _,_,I.lnew (t':=s.toks) (r.append r2) (by rw [WS]; omega),rfl,q _ I.fresh⟩
theorem z2f:∀ {ys:List Str} {us:List Value},Vals (ys.map V.str) us→StrsAre us ys
 | [],us,r=>by cases r; exact .nil
 | y :: ys,us,r=>by
  cases r with
  | cons r1 r2 =>
   obtain ⟨t,rfl⟩:=r1
   exact .cons y t (z2f r2)
theorem vals_strs:∀ {ys:List Str} {us:List Value},StrsAre us ys→Vals (ys.map V.str) us
 | _,_,.nil=>.nil
 | _,_,.cons y t h=>.cons ⟨t,rfl⟩ (vals_strs h)
def z9H (K:W2):V→List V→Hp→VK→Prop:=fun x vs H Q=>∃ (z:Str) (a:Addr) (ys:List Str),x = .str z∧vs=[.ref a]∧(SqL K H a (ys.map V.str)∨SqT K H a (ys.map V.str)) ∧
 (ys.map (·.length)).sum + ys.length * z.length≤16777216∧Q (.str (Txt.join z ys)) H
theorem zby:MtR X "str.join" (z9H X.K):=by
 intro pins s σ H x vs v us Q I rx rv h
 obtain ⟨z,a,ys,rfl,rfl,hq,hz,q⟩:=h
 obtain ⟨t,rfl⟩:=rx
 obtain ⟨u,rfl,ru⟩:=rv.one
 cases ru
 rcases hq with hq | hq
 ·obtain ⟨its,r,p,_⟩:=I.list hq
  exact join_list p.isList (by simpa using z2f r) hz fun t' k=>⟨.str _,H,I.tok _,⟨t',rfl⟩,q⟩
 ·obtain ⟨its,r,p,_⟩:=I.tuple hq
  exact join_tuple p (by simpa using z2f r) hz fun t' k=>⟨.str _,H,I.tok _,⟨t',rfl⟩,q⟩
theorem z6d:∀ {bs:List Bool} {us:List Value},Vals (bs.map V.bl) us→∀ (i:Nat) v,us[i]? = some v→∃ b,bs[i]? = some b∧v = .bool b
 | [],us,r,i,v,e=>by cases r; simp at e
 | b :: bs,us,r,i,v,e=>by
  cases r with
  | cons r1 r2 =>
   cases i with
   | zero =>
    simp at e
    subst e
    exact ⟨b,rfl,r1⟩
   | succ i=>exact z6d r2 i v (by simpa using e)
theorem z4t:∀ bs:List Bool,((Wr bs.length).all fun i=>(bs[i]?).getD true)=bs.all id
 | []=>rfl
 | b :: bs=>by
  rw [WL,QV,Jl,List.all_map]
  have:=z4t bs
  simp only [List.getElem?_cons_zero,Option.getD_some,Jl,id]
  rw [← this]
  rfl
theorem zaj (hc:X.calm=true):CallR X (.builtin "all") (fun xs H Q=>∃ (a:Addr) (bs:List Bool),xs=[.ref a]∧SqL X.K H a (bs.map V.bl)∧Q (.bl (bs.all (fun b=>b))) H):=by
 intro pins s σ H xs us Q I r h
 obtain ⟨a,bs,rfl,hq,q⟩:=h
 obtain ⟨u,rfl,ru⟩:=z33 r
 cases ru
 obtain ⟨its,r',p,_⟩:=I.list hq
 have hl:=p.isList
 have hlt:a < s.heap.objs.size:=by obtain ⟨_,e,_⟩:=hl; exact Wi e
 have hlen:=r'.length
 rw [Wx] at hlen
 refine call_all_walk (wpAny_pyIter_list hl ?_)
 refine ⟨s.heap.objs.size,[s.heap.objs.size,a],[s.heap.objs.size],its.toArray.size,_,_,fun i=>(bs[i]?).getD true,rfl,Walks.list (A:=X.A.in1) (I.ok.hd hc) _ a (Wu hlt) its.toArray,
  ⟨⟨_,Wh _ rfl,rfl,rfl⟩,hl.push _⟩,fun i v s' Q' E' hP hQ=>?_,fun h' tk hk=>?_⟩
 ·obtain ⟨b,e,rfl⟩:=z6d r' i v (by simpa using hP)
  simp only [e,Option.getD_some] at hQ
  exact Qo hQ
 ·have e:((Wr its.toArray.size).all fun i=>(bs[i]?).getD true)=bs.all id:=by
   rw [Wn,← hlen]; exact z4t bs
  rw [e]
  exact ⟨.bl _,H,I.kept fun b o e=>hk b o (fun hm=>by rw [List.mem_singleton.mp hm] at e; exact WX _ (Wi e)) (W3 _ e),rfl,q⟩
def insT (x:Tx):List Tx→List Tx
 | []=>[x]
 | y :: r=>if y < x then y :: insT x r else x :: y :: r
def z1Q:List Tx→List Tx
 | []=>[]
 | x :: r=>insT x (z1Q r)
theorem z3X (x:Tx):∀ l:List Tx,(insT x l).Perm (x :: l)
 | []=>.refl _
 | y :: r=>by
  unfold insT
  split
  ·exact ((z3X x r).cons y).trans (.swap x y r)
  ·exact .refl _
theorem z2g:∀ l:List Tx,(z1Q l).Perm l
 | []=>.refl _
 | x :: r=>(z3X x _).trans ((z2g r).cons x)
abbrev leT (a b:Tx):Prop:=¬ b < a
theorem z5R (h1:leT a b) (h2:leT b c):leT a c:=List.not_lt.mpr (List.le_trans (List.not_lt.mp h1) (List.not_lt.mp h2))
theorem z9Z (h1:leT a b) (h2:leT b a):a=b:=List.le_antisymm (List.not_lt.mp h1) (List.not_lt.mp h2)
theorem z3W (x:Tx):∀ l:List Tx,l.Pairwise leT→(insT x l).Pairwise leT
 | [],_=>by simp [insT]
 | y :: r,h=>by
  unfold insT
  obtain ⟨h1,h2⟩:=Q9.mp h
  split
  ·rename_i hlt
   refine Q9.mpr ⟨fun z hz=>?_,z3W x r h2⟩
   rcases Wf.mp ((z3X x r).mem_iff.mp hz) with e | hz
   ·subst e
    intro q
    exact absurd (List.lt_trans hlt q) (List.lt_irrefl _)
   ·exact h1 z hz
  ·rename_i hge
   refine Q9.mpr ⟨fun z hz=>?_,h⟩
   rcases Wf.mp hz with e | hz
   ·subst e; exact hge
   ·exact z5R hge (h1 z hz)
theorem z3g:∀ l:List Tx,(z1Q l).Pairwise leT
 | []=>.nil
 | x :: r=>z3W x _ (z3g r)
theorem z6V (hp:l'.Perm l) (hs:l'.Pairwise leT):l'=z1Q l :=
 List.Perm.eq_of_pairwise (fun _ _ _ _ h1 h2=>z9Z h1 h2) hs (z3g l) (hp.trans (z2g l).symm)
theorem z3K:∀ (x:Str) (r:List Str),risingS x r=true→((x :: r).map fun z:Str=>z.cps.toList).Pairwise leT
 | x,[],_=>by simp
 | x,y :: r,h=>by
  have h':(!ltCps y.cps.toList x.cps.toList && risingS y r)=true:=h
  rw [Ws] at h'
  have ih:=z3K y r h'.2
  have hxy:leT x.cps.toList y.cps.toList:=by
   have:=h'.1
   rw [ltCps_eq] at this
   simpa using this
  rw [Wj]
  refine Q9.mpr ⟨fun z hz=>?_,ih⟩
  rw [Wj] at hz ih
  rcases Wf.mp hz with e | hz
  ·subst e; exact hxy
  ·exact z5R hxy ((Q9.mp ih).1 z hz)
theorem z6a:CallR X (.builtin "sorted") (fun xs H Q=>∃ (a:Addr) (ts:List Tx),xs=[.ref a]∧SqL X.K H a (ts.map fun z=>V.str (toS z))∧ts.length < 64∧∀ p,H p=none→Q (.ref p) (upd H p (.lst ((z1Q ts).map fun z=>V.str (toS z))))):=by
 intro pins s σ H xs us Q I r h
 obtain ⟨a,ts,rfl,hq,hz,q⟩:=h
 obtain ⟨u,rfl,ru⟩:=z33 r
 cases ru
 obtain ⟨its,r',p,_⟩:=I.list hq
 have r2:Vals ((ts.map toS).map V.str) its:=by rw [Wy]; exact r'
 have hlen:=r'.length
 rw [Wx] at hlen
 refine sorted_strs p.isList (z2f r2) (by omega) fun out ss hS hp hs=>?_
 have e:ss=(z1Q ts).map toS:=by
  have hpw:(ss.map fun z:Str=>z.cps.toList).Pairwise leT:=by
   cases ss with
   | nil=>simp
   | cons x r=>exact z3K x r hs
  have hpp:(ss.map fun z:Str=>z.cps.toList).Perm ts:=by
   have:=hp.map fun z:Str=>z.cps.toList
   rw [Wy] at this
   have e2:ts.map ((fun z:Str=>z.cps.toList) ∘ toS)=ts:=by
    rw [show ((fun z:Str=>z.cps.toList) ∘ toS)=id from funext fun z=>z3C z,List.map_id]
   rw [e2] at this
   exact this
  rw [← z6V hpp hpw,Wy]
  have:(toS ∘ fun z:Str=>z.cps.toList)=id:=funext fun z=>(z7U z).symm
  rw [this,List.map_id]
 obtain ⟨ep,he⟩:=sortedAll_at s.heap its out
 have hv:Vals ((z1Q ts).map fun z=>V.str (toS z)) out.toList:=by
  have:=vals_strs hS
  rw [e,Wy] at this
  exact this
 have hl2:((z1Q ts).map fun z=>V.str (toS z)).length≤W7:=by
  rw [Wx,(z2g ts).length_eq]
  exact WQ (QW hz) (by rw [QT]; decide)
 refine ⟨.ref (s.heap.objs.size + 1),_,I.laid (a:=s.heap.objs.size + 1) (o:=.lst ((z1Q ts).map fun z=>V.str (toS z))) (t':=s.toks) (fun b u e=>sortedAll_old e) (Nat.le_succ _) ?_,rfl,q _ (I.hok.fresh (Nat.le_succ _))⟩
 exact ⟨hl2,out.toList,ep,hv,by simpa [seqObj] using he⟩
end
def p2 (p:D→D→Option S) (x y:D) (δ:Dl):Rs S:=match p x y with
 | some s=>.ok s δ
 | none=>.stuck
def eOp (p:D→D→Option S) (fa:DE) (fb:BE):DE:=fun δ=>(fa δ).bind fun x δ1=>(fb δ1).bind fun y δ2=>p2 p x.d y δ2
def eOpN (p:D→D→Option S) (i:Nat) (fb:BE):DE:=fun δ=>(fb δ).bind fun y δ1=>(bVar i δ1).bind fun x δ2=>p2 p x y δ2
def Op2 (r:R2) (p:D→D→Option S):Prop:=∀ (c:Fc) (σ:St) (δ:Dl) (H:Hp) (x y:V) (d e:D) (s:S) (Q:VK),Ok c σ δ H→RepB c σ δ H x d→RepB c σ δ H y e→p d e=some s →
 (∀ v H',Aft c σ δ H σ δ H'→RepS c σ δ H H' v s→Q v H')→r x y H Q
section
variable {X:Cx} {c:Fc} {a b:Expr} {fa:DE} {fb:BE} {r:R2} {p:D→D→Option S} {pos:Pos}
theorem z8z (hp:Op2 r p) (k:Ok c σ δ H) (rx:RepB c σ δ H x d) (ry:RepB c σ δ H y e)
  (h:post c (p2 p d e δ) fun s δ'=>∀ v H',Aft c σ δ H σ δ' H'→RepS c σ δ' H H' v s→Q v H'):r x y H Q:=by
 unfold p2 at h
 cases e1:p d e with
 | none=>rw [e1] at h; exact h.elim
 | some s=>rw [e1] at h; exact hp c σ δ H x y d e s Q k rx ry e1 h
theorem z6v (hp:Op2 r p) (h:tD c (eOp p fa fb) σ H Q):tOp r (tD c fa) (tB c fb) σ H Q:=by
 obtain ⟨δ,k,q⟩:=h
 refine ⟨δ,k,?_⟩
 unfold eOp at q
 rw [z01] at q
 refine z00 q fun x δ1 q1 v H1 a1 r1=>⟨δ1,a1.ok,?_⟩
 rw [z01] at q1
 refine z00 q1 fun y δ2 q2 u H2 a2 r2=>?_
 exact z8z hp a2.ok (.inl (Rep.aft r1.rep a2)) r2 (z00 q2 fun s δ3 q3 v' H3 a3 r3=>q3 v' H3 (a1.trans (a2.trans a3)) (RepS.back r3 (a1.trans a2)))
theorem z9Q (hp:Op2 r p) (h:tD c (eOpN p i fb) σ H Q) (hv:∀ δ,Ok c σ δ H→post c (fb δ) (fun _ _=>True)→∃ v,σ[i]? = some (some v)):tOp r (tVar i) (tB c fb) σ H Q:=by
 obtain ⟨δ,k,q⟩:=h
 unfold eOpN at q
 rw [z01] at q
 obtain ⟨v,ev⟩:=hv δ k (z00 q fun _ _ _=>trivial)
 refine ⟨v,ev,δ,k,z00 q fun y δ1 q1 u H1 a1 r1=>?_⟩
 rw [z01] at q1
 unfold bVar at q1
 cases e:δ1[i]? with
 | none=>rw [e] at q1; exact q1.elim
 | some o =>
  cases o with
  | none=>rw [e] at q1; exact q1.elim
  | some w =>
   rw [e] at q1
   have q1':post c (p2 p w.d y δ1) fun s δ'=>∀ v H',Aft c σ δ H σ δ' H'→RepS c σ δ' H H' v s→Q v H':=q1
   have rb:RepB c σ δ1 H1 v w.d:=by
    cases w with
    | pure d =>
     obtain ⟨v',e1,r⟩:=a1.ok.slot i d e
     rw [ev] at e1; cases e1
     exact .inl r
    | own d =>
     obtain ⟨a,e1,r,_⟩:=a1.ok.own i d e
     rw [ev] at e1; cases e1
     exact .inr ⟨a,rfl,r⟩
   exact z8z hp a1.ok rb r1 (z00 q1' fun s δ3 q3 v' H3 a3 r3=>q3 v' H3 (a1.trans a3) (RepS.back r3 a1))
theorem z39 {i:Nat} {σ:St} {δ:Dl} {H:Hp} (k:Ok c σ δ H) {w:S} (e:δ[i]? = some (some w)):∃ v,σ[i]? = some (some v):=by
 cases w with
 | pure d=>obtain ⟨v,e1,_⟩:=k.slot i d e; exact ⟨v,e1⟩
 | own d=>obtain ⟨a,e1,_⟩:=k.own i d e; exact ⟨_,e1⟩
end
def eOpF (p:D→D→Option S) (i:Nat) (fb:BE):DE:=fun δ=>match δ[i]? with
 | some (some _)=>eOpN p i fb δ
 | _=>.stuck
section
variable {X:Cx} {c:Fc} {a b:Expr} {fa:DE} {fb:BE} {r:R2} {p:D→D→Option S} {pos:Pos}
theorem z3v (hp:Op2 r p) {i:Nat} {σ:St} {H:Hp} {Q:VK} (h:tD c (eOpF p i fb) σ H Q):tOp r (tVar i) (tB c fb) σ H Q:=by
 obtain ⟨δ,k,q⟩:=h
 unfold eOpF at q
 cases e:δ[i]? with
 | none=>rw [e] at q; exact q.elim
 | some o =>
  cases o with
  | none=>rw [e] at q; exact q.elim
  | some w =>
   rw [e] at q
   obtain ⟨v,ev⟩:=z39 k e
   exact z9Q hp (i:=i) ⟨δ,k,q⟩ fun _ _ _=>⟨v,ev⟩
theorem z1j {op:Operator} (ho:OpR X (Q5 op) r) (hp:Op2 r p) (ha:SE X c a fa) (hb:SB X c b fb):SE X c (.BinOp a op b pos) (eOp p fa fb):=PE.weak (zcL ho ha hb) fun _ _ _ h=>z6v hp h
theorem z2o {op:Operator} {i:Nat} (ho:OpR X (Q5 op) r) (hp:Op2 r p) (ha:PE X a (tVar i)) (hb:SB X c b fb):SE X c (.BinOp a op b pos) (eOpF p i fb):=PE.weak (zcL ho ha hb) fun _ _ _ h=>z3v hp h
theorem z8e {op:CmpOp} {i:Nat} (ho:OpR X (WE op) r) (hp:Op2 r p) (ha:PE X a (tVar i)) (hb:SB X c b fb) (hm:Qg op b=false):SE X c (.Compare a [op] [b] pos) (eOpF p i fb):=PE.weak (zbq ho ha hb hm) fun _ _ _ h=>z3v hp h
theorem se_ix (hr:IxR X r) (hp:Op2 r p) (ha:SE X c a fa) (hb:SB X c b fb) (hs:z6N b):SE X c (.Subscript a b pos) (eOp p fa fb):=PE.weak (zcQ hr ha hb hs) fun _ _ _ h=>z6v hp h
theorem z0I {i:Nat} (hr:IxR X r) (hp:Op2 r p) (ha:PE X a (tVar i)) (hb:SB X c b fb) (hs:z6N b):SE X c (.Subscript a b pos) (eOpF p i fb):=PE.weak (zcQ hr ha hb hs) fun _ _ _ h=>z3v hp h
end
abbrev DT:=Dl→Rs Bool
def tT (c:Fc) (f:DT):TT:=fun σ H Q=>∃ δ,Ok c σ δ H∧post c (f δ) fun b δ'=>∀ H',Aft c σ δ H σ δ' H'→Q b H'
abbrev ST (X:Cx) (c:Fc) (e:Expr) (f:DT):Prop:=PT X e (tT c f)
theorem PT.weak (h:PT X e t) (w:∀ σ H Q,t' σ H Q→t σ H Q):PT X e t':=fun pins s σ H Q I q=>h pins s σ H Q I (w σ H Q q)
def dTr (f:DE):DT:=fun δ=>(f δ).bind fun r δ'=>match r with
 | .pure (.bl b)=>.ok b δ'
 | _=>.stuck
section
variable {X:Cx} {c:Fc} {a b:Expr} {fa f:DE} {fb:BE} {r:R2} {p:D→D→Option S} {pos:Pos}
theorem z6m (h:tT c (dTr f) σ H Q):tD c f σ H fun x H'=>∃ k,x = .bl k∧Q k H':=by
 obtain ⟨δ,k,q⟩:=h
 refine ⟨δ,k,?_⟩
 unfold dTr at q
 rw [z01] at q
 refine z00 q fun r δ1 q1 v H1 a1 r1=>?_
 cases r with
 | own d=>exact q1.elim
 | pure d =>
  cases d <;> first | exact q1.elim | skip
  rename_i b
  cases r1
  exact ⟨b,rfl,q1 H1 a1⟩
theorem z24 {op:CmpOp} (ho:OpR X (WE op) r) (hp:Op2 r p) (ha:SE X c a fa) (hb:SB X c b fb) (hm:Qg op b=false):ST X c (.Compare a [op] [b] pos) (dTr (eOp p fa fb)) :=
 PT.weak (z8s ho ha hb hm) fun σ H Q h=>z6v hp (z6m h)
theorem z36 {op:CmpOp} {i:Nat} (ho:OpR X (WE op) r) (hp:Op2 r p) (ha:PE X a (tVar i)) (hb:SB X c b fb) (hm:Qg op b=false):ST X c (.Compare a [op] [b] pos) (dTr (eOpF p i fb)) :=
 PT.weak (z8s ho ha hb hm) fun σ H Q h=>z3v hp (z6m h)
theorem zaq {e:Expr} (h:SE X c e f) (he:∀ whole,isTrue e X.env whole=(do let v ← whole; standAt e.pos; holding [v] (truthy v)):=by intro _; rfl):ST X c e (dTr f) :=
 PT.weak (zcD h he) fun σ H Q h=>z6m h
def dAnd (t u:DT):DT:=fun δ=>(t δ).bind fun b δ1=>if b then u δ1 else .ok false δ1
def dOr (t u:DT):DT:=fun δ=>(t δ).bind fun b δ1=>if b then .ok true δ1 else u δ1
def dNot (t:DT):DT:=fun δ=>(t δ).bind fun b δ1=>.ok (!b) δ1
abbrev SW (X:Cx) (c:Fc) (e:Expr) (f:DT):Prop:=PW X e (tT c f)
theorem PW.weak (h:PW X e t) (w:∀ σ H Q,t' σ H Q→t σ H Q):PW X e t':=fun wh pins s σ H Q I q=>h wh pins s σ H Q I (w σ H Q q)
variable {t u:DT} {rest:List Expr}
theorem z4J (ha:ST X c a t):SW X c (.BoolOp .And [a] pos) t:=zbe ha
theorem zca (ha:ST X c a t):SW X c (.BoolOp .Or [a] pos) t:=zcB ha
theorem z6S (ha:ST X c a t) (hb:SW X c (.BoolOp .And (b :: rest) pos) u):SW X c (.BoolOp .And (a :: b :: rest) pos) (dAnd t u):=PW.weak (zcC ha hb) fun σ H Q ⟨δ,k,q⟩=>by
 unfold dAnd at q
 rw [z01] at q
 refine ⟨δ,k,z00 q fun x δ1 q1 H1 a1=>?_⟩
 cases x with
 | true=>exact ⟨δ1,a1.ok,z00 q1 fun y δ2 q2 H2 a2=>q2 H2 (a1.trans a2)⟩
 | false=>exact q1 H1 a1
theorem sw_or (ha:ST X c a t) (hb:SW X c (.BoolOp .Or (b :: rest) pos) u):SW X c (.BoolOp .Or (a :: b :: rest) pos) (dOr t u):=PW.weak (pw_or ha hb) fun σ H Q ⟨δ,k,q⟩=>by
 unfold dOr at q
 rw [z01] at q
 refine ⟨δ,k,z00 q fun x δ1 q1 H1 a1=>?_⟩
 cases x with
 | false=>exact ⟨δ1,a1.ok,z00 q1 fun y δ2 q2 H2 a2=>q2 H2 (a1.trans a2)⟩
 | true=>exact q1 H1 a1
theorem z7X (h:SW X c a t):ST X c a t:=PW.pt h
theorem zcd (ha:ST X c a t):ST X c (.UnaryOp .Not a pos) (dNot t):=PT.weak (zcE ha) fun σ H Q ⟨δ,k,q⟩=>by
 unfold dNot at q
 rw [z01] at q
 exact ⟨δ,k,q⟩
def eAnd (f g:DE):DE:=fun δ=>(f δ).bind fun r δ1=>match r with
 | .pure (.bl true)=>g δ1
 | .pure (.bl false)=>.ok (.pure (.bl false)) δ1
 | _=>.stuck
def eNot (f:DE):DE:=fun δ=>(f δ).bind fun r δ1=>match r with
 | .pure (.bl b)=>.ok (.pure (.bl (!b))) δ1
 | _=>.stuck
def eIf (t:DT) (f g:DE):DE:=fun δ=>(t δ).bind fun b δ1=>if b then f δ1 else g δ1
variable {g:DE}
theorem zci {op} (h:SE X c a f):SE X c (.BoolOp op [a] pos) f:=zcM h
theorem zck (ha:SE X c a f) (hb:SE X c (.BoolOp .And (b :: rest) pos) g):SE X c (.BoolOp .And (a :: b :: rest) pos) (eAnd f g):=PE.weak (zcT ha hb) fun σ H Q ⟨δ,k,q⟩=>by
 unfold eAnd at q
 rw [z01] at q
 refine ⟨δ,k,z00 q fun r δ1 q1 v H1 a1 r1=>?_⟩
 cases r with
 | own d=>exact q1.elim
 | pure d =>
  cases d <;> first | exact q1.elim | skip
  rename_i b
  cases r1
  refine ⟨b,rfl,?_⟩
  cases b with
  | true=>exact ⟨δ1,a1.ok,z00 q1 fun y δ2 q2 v H2 a2 r2=>q2 v H2 (a1.trans a2) (RepS.back r2 a1)⟩
  | false=>exact q1 _ H1 a1 (.bl false)
theorem zcj (ha:SE X c a f):SE X c (.UnaryOp .Not a pos) (eNot f):=PE.weak (zcN ha) fun σ H Q ⟨δ,k,q⟩=>by
 unfold eNot at q
 rw [z01] at q
 refine ⟨δ,k,z00 q fun r δ1 q1 v H1 a1 r1=>?_⟩
 cases r with
 | own d=>exact q1.elim
 | pure d =>
  cases d <;> first | exact q1.elim | skip
  rename_i b
  cases r1
  exact ⟨b,rfl,q1 _ H1 a1 (.bl _)⟩
end
section
variable {c:Fc} {σ:St} {δ:Dl} {H:Hp} {x:V}
theorem RepB.int (h:RepB c σ δ H x (.int i)):x = .int i:=by
 rcases h with h | ⟨_,_,h⟩
 ·cases h; rfl
 ·exact h.elim
theorem RepB.bl (h:RepB c σ δ H x (.bl b)):x = .bl b:=by
 rcases h with h | ⟨_,_,h⟩
 ·cases h; rfl
 ·exact h.elim
theorem RepB.str (h:RepB c σ δ H x (.str z)):x = .str (toS z):=by
 rcases h with h | ⟨_,_,h⟩
 ·cases h; rfl
 ·exact h.elim
theorem RepB.tup (h:RepB c σ δ H x (.tup ds)):∃ a vs,x = .ref a∧H a=some (.tup vs)∧Reps H (Av c σ δ) vs ds:=by
 rcases h with h | ⟨_,_,h⟩
 ·cases h with
  | tup h1 h2 h3 h4=>exact ⟨_,_,rfl,h2,h3,h4⟩
 ·exact h.elim
theorem RepB.lst (h:RepB c σ δ H x (.lst ds)):∃ a vs,x = .ref a∧Rd H a (.lst vs)∧Reps H (Av c σ δ) vs ds:=by
 rcases h with h | ⟨a,e,h⟩
 ·cases h with
  | lst h1 h2 h3 h4=>exact ⟨_,_,rfl,h2,h3,h4⟩
 ·obtain ⟨vs,h1,h2⟩:=h
  exact ⟨a,vs,e,.inl h1,h2⟩
theorem RepB.dct (h:RepB c σ δ H x (.dct ds)):∃ a ws,x = .ref a∧H a=some (.dK ws)∧ws.map (·.1)=ds.map (fun p=>kOf p.1)∧∀ (i:Nat) p q,ws[i]? = some p→ds[i]? = some q→Rep H (Av c σ δ) p.2 q.2:=by
 rcases h with h | ⟨a,e,h⟩
 ·cases h with
  | dct h1 h2 h3 h4=>exact ⟨_,_,rfl,h2,h3,h4⟩
 ·obtain ⟨ws,h1,h2,h3⟩:=h
  exact ⟨a,ws,e,h1,h2,h3⟩
end
theorem z4k (h:z.length≤W7):(toS z).length≤W7:=by rw [z1x]; exact h
theorem zaR (x y:Tx):toS x ++ toS y=toS (x ++ y):=by
 show Str.append (toS x) (toS y)=_
 simp [toS,Str.append]
def pAdd:D→D→Option S
 | .int i,.int j=>some (.pure (.int (i + j)))
 | .str x,.str y=>if x.length + y.length≤W7 then some (.pure (.str (x ++ y))) else none
 | .tup xs,.tup ys=>if xs.length + ys.length≤W7 then some (.pure (.tup (xs ++ ys))) else none
 | .lst xs,.lst ys=>if xs.length + ys.length≤W7 then some (.own (.lst (xs ++ ys))) else none
 | _,_=>none
def zcA (K:W2):R2:=fun x y H Q=>rI0 (fun i j=>V.int (i + j)) x y H Q∨(∃ i j,x = .str i∧y = .str j∧i.length + j.length≤W7∧Q (.str (i ++ j)) H) ∨
 (∃ a b ys,x = .ref a∧y = .ref b∧SqT K H a []∧SqT K H b ys∧Q (.ref b) H)∨zcy K x y H Q∨zcz K x y H Q
theorem z0L:OpR X (Q5 .Add) (zcA X.K):=op_add.or (op_add_str.or (op_catT0.or (op_catT.or zbv)))
theorem z1e {K:W2}:Op2 (zcA K) pAdd:=by
 intro c σ δ H x y d e s Q k rx ry hp q
 cases d <;> cases e <;> first
  | (simp [pAdd] at hp; done)
  | skip
 ·rename_i i j
  simp only [pAdd,W5] at hp
  subst hp
  exact .inl ⟨i,j,rx.int,ry.int,q _ H (.refl k) (.int _)⟩
 ·rename_i u w
  simp only [pAdd] at hp
  split at hp
  ·rename_i hz
   simp only [W5] at hp
   subst hp
   refine .inr (.inl ⟨toS u,toS w,rx.str,ry.str,by rw [z1x,z1x]; exact hz,?_⟩)
   rw [zaR]
   exact q _ H (.refl k) (.str _)
  ·cases hp
 ·rename_i us ws
  simp only [pAdd] at hp
  split at hp
  ·rename_i hz
   simp only [W5] at hp
   subst hp
   obtain ⟨a,vs,ea,ha,ra⟩:=rx.tup
   obtain ⟨b,zs,eb,hb,rb⟩:=ry.tup
   cases vs with
   | nil =>
    have:us=[]:=by have:=ra.1; simpa using this.symm
    subst this
    refine .inr (.inr (.inl ⟨a,b,zs,ea,eb,.of ha,.of hb,?_⟩))
    rw [eb] at ry
    rcases ry with ry | ⟨_,_,ry⟩
    ·exact q _ H (.refl k) ry
    ·exact ry.elim
   | cons v0 vr =>
    refine .inr (.inr (.inr (.inl ⟨a,b,_,zs,ea,eb,.of ha,.of hb,by simp,by rw [ra.1,rb.1]; exact hz,fun e0=>?_,fun _ p hp=>?_⟩)))
    ·subst e0
     have:ws=[]:=by have:=rb.1; simpa using this.symm
     subst this
     rw [ea] at rx
     rcases rx with rx | ⟨_,_,rx⟩
     ·rw [Qx] at q
      exact q _ H (.refl k) rx
     ·exact rx.elim
    ·exact q _ _ (.alloc k hp _) (RepS.newT k (ra.append rb) hp)
  ·cases hp
 ·rename_i us ws
  simp only [pAdd] at hp
  split at hp
  ·rename_i hz
   simp only [W5] at hp
   subst hp
   obtain ⟨a,vs,ea,ha,ra⟩:=rx.lst
   obtain ⟨b,zs,eb,hb,rb⟩:=ry.lst
   exact .inr (.inr (.inr (.inr ⟨a,b,vs,zs,ea,eb,.inl ha,.inl hb,by rw [ra.1,rb.1]; exact hz,fun p hp=>q _ _ (.alloc k hp _) (RepS.newL k (ra.append rb) hp)⟩)))
  ·cases hp
def pII (C:Int→Int→Bool) (g:Int→Int→D):D→D→Option S
 | .int i,.int j=>if C i j then some (.pure (g i j)) else none
 | _,_=>none
theorem z8J (hC:∀ i j,C' i j=true→C i j) (hg:∀ i j H O,Rep H O (g i j) (g' i j)):Op2 (rI C g) (pII C' g'):=by
 intro c σ δ H x y d e s Q k rx ry hp q
 cases d <;> cases e <;> first
  | (simp [pII] at hp; done)
  | skip
 rename_i i j
 simp only [pII] at hp
 split at hp
 ·rename_i hc
  simp only [W5] at hp
  subst hp
  exact ⟨i,j,rx.int,ry.int,hC i j hc,q _ H (.refl k) (hg i j H _)⟩
 ·cases hp
theorem zd9 (hg:∀ i j H O,Rep H O (g i j) (g' i j)):Op2 (rI0 g) (pII (fun _ _=>true) g'):=by
 intro c σ δ H x y d e s Q k rx ry hp q
 cases d <;> cases e <;> first
  | (simp [pII] at hp; done)
  | skip
 rename_i i j
 simp only [pII,if_true,W5] at hp
 subst hp
 exact ⟨i,j,rx.int,ry.int,q _ H (.refl k) (hg i j H _)⟩
def pSub:=pII (fun _ _=>true) fun i j=>.int (i - j)
theorem zd4:Op2 (rI0 fun i j=>V.int (i - j)) pSub:=zd9 fun _ _ _ _=>.int _
def cMul (i j:Int):Bool:=(decide (-(2 ^ 64) < i) && decide (i < 2 ^ 64)) || (decide (-(2 ^ 64) < j) && decide (j < 2 ^ 64))
def pMul:=pII cMul fun i j=>.int (i * j)
theorem zd6:Op2 (rI CMul fun i j=>V.int (i * j)) pMul:=z8J (fun i j h=>by
 unfold cMul at h
 simp only [Bool.or_eq_true,Ws,decide_eq_true_eq] at h
 exact h) fun _ _ _ _=>.int _
def cDiv (_ j:Int):Bool:=decide (0 < j) && decide (j < 1073741824)
def pDiv:=pII cDiv fun i j=>.int (i / j)
theorem zda:Op2 (rI CDiv fun i j=>V.int (i / j)) pDiv:=z8J (fun i j h=>by
 unfold cDiv at h
 simp only [Ws,decide_eq_true_eq] at h
 exact h) fun _ _ _ _=>.int _
def pMod:=pII (fun _ j=>decide (0 < j)) fun i j=>.int (i % j)
theorem z3j:Op2 (rI (fun _ j=>0 < j) fun i j=>V.int (i % j)) pMod:=z8J (fun i j h=>by simpa using h) fun _ _ _ _=>.int _
def cPow (i j:Int):Bool:=decide (0≤j) && decide (j≤1000000) && decide (i.natAbs < 2 ^ 64)
def pPow:=pII cPow fun i j=>.int (i ^ j.toNat)
theorem zd5:Op2 (rI CPow fun i j=>V.int (i ^ j.toNat)) pPow:=z8J (fun i j h=>by
 unfold cPow at h
 simp only [Ws,decide_eq_true_eq] at h
 exact ⟨h.1.1,h.1.2,h.2⟩) fun _ _ _ _=>.int _
def pEq (d e:D):Option S:=if flat 50 d && flat 50 e then some (.pure (.bl (eqD d e))) else none
def pNe (d e:D):Option S:=if flat 50 d && flat 50 e then some (.pure (.bl (!eqD d e))) else none
theorem z4f:Op2 rEqD pEq:=by
 intro c σ δ H x y d e s Q k rx ry hp q
 unfold pEq at hp
 split at hp
 ·rename_i hf
  rw [Ws] at hf
  simp only [W5] at hp
  subst hp
  exact ⟨d,e,rx.un,ry.un,hf.1,hf.2,q _ H (.refl k) (.bl _)⟩
 ·cases hp
theorem o2_ne:Op2 rNeD pNe:=by
 intro c σ δ H x y d e s Q k rx ry hp q
 unfold pNe at hp
 split at hp
 ·rename_i hf
  rw [Ws] at hf
  simp only [W5] at hp
  subst hp
  exact ⟨d,e,rx.un,ry.un,hf.1,hf.2,q _ H (.refl k) (.bl _)⟩
 ·cases hp
def pCmp (f:Int→Int→Bool) (g:Tx→Tx→Bool):D→D→Option S
 | .int i,.int j=>some (.pure (.bl (f i j)))
 | .str x,.str y=>some (.pure (.bl (g x y)))
 | _,_=>none
def rCmp (f:Int→Int→Bool) (g:List Nat→List Nat→Bool):R2:=fun x y H Q=>rI0 (fun i j=>V.bl (f i j)) x y H Q∨∃ i j,x = .str i∧y = .str j∧Q (.bl (g i.cps.toList j.cps.toList)) H
theorem z8K:Op2 (rCmp f g) (pCmp f g):=by
 intro c σ δ H x y d e s Q k rx ry hp q
 cases d <;> cases e <;> first
  | (simp [pCmp] at hp; done)
  | skip
 ·rename_i i j
  simp only [pCmp,W5] at hp
  subst hp
  exact .inl ⟨i,j,rx.int,ry.int,q _ H (.refl k) (.bl _)⟩
 ·rename_i i j
  simp only [pCmp,W5] at hp
  subst hp
  refine .inr ⟨toS i,toS j,rx.str,ry.str,?_⟩
  rw [z3C,z3C]
  exact q _ H (.refl k) (.bl _)
theorem z8A {X:Cx} {op:CmpOp} {g:List Nat→List Nat→Bool} (rule:∀ (i j:Str) (t u:Tok) (Q:Value→W1→Prop) (s:W1),Q (.bool (g i.cps.toList j.cps.toList)) s→W6 (model X.prog X.w) X.A (WE op (.str i t) (.str j u)) Q X.xe s) :
  OpR X (WE op) (fun x y H Q=>∃ i j,x = .str i∧y = .str j∧Q (.bl (g i.cps.toList j.cps.toList)) H):=by
 intro pins s σ H x y v u Q I rx ry h
 obtain ⟨i,j,rfl,rfl,q⟩:=h
 obtain ⟨t,rfl⟩:=rx
 obtain ⟨t',rfl⟩:=ry
 exact rule i j t t' _ s ⟨.bl _,H,I,rfl,q⟩
def pLt:=pCmp (fun i j=>decide (i < j)) fun x y=>decide (x < y)
theorem zaz:OpR X (WE .Lt) (rCmp (fun i j=>decide (i < j)) fun x y=>decide (x < y)):=op_lt.or z8D
theorem zd7:Op2 (rCmp (fun i j=>decide (i < j)) fun x y=>decide (x < y)) pLt:=z8K
def pIx:D→D→Option S
 | .lst ds,.int i=>(atI ds i).map .pure
 | .tup ds,.int i=>(atI ds i).map .pure
 | .str x,.int i=>if x.length≤W7 then (atI x i).map fun n=>.pure (.str [n]) else none
 | _,_=>none
theorem z6Z (r:Reps H O vs ds) (h:atI ds i=some d):∃ v,atI vs i=some v∧Rep H O v d:=by
 unfold atI at h ⊢
 rw [r.1]
 cases e:ixN ds.length i with
 | none=>rw [e] at h; cases h
 | some j =>
  rw [e] at h
  exact r.get h
theorem z1n {K:W2}:Op2 (rIx K) pIx:=by
 intro c σ δ H x y d e s Q k rx ry hp q
 cases d <;> cases e <;> first
  | (simp [pIx] at hp; done)
  | skip
 ·rename_i z i
  simp only [pIx] at hp
  split at hp
  ·rename_i hz
   cases e1:atI z i with
   | none=>rw [e1] at hp; cases hp
   | some n =>
    rw [e1] at hp
    simp only [WD,W5] at hp
    subst hp
    refine .inr (.inr ⟨toS z,i,n,rx.str,ry.int,z4k hz,by rw [z3C]; exact e1,?_⟩)
    exact q (.str (toS [n])) H (.refl k) (.str [n])
  ·cases hp
 ·rename_i ds i
  simp only [pIx] at hp
  cases e1:atI ds i with
  | none=>rw [e1] at hp; cases hp
  | some n =>
   rw [e1] at hp
   simp only [WD,W5] at hp
   subst hp
   obtain ⟨a,vs,ea,ha,ra⟩:=rx.tup
   obtain ⟨v,e2,r2⟩:=z6Z ra e1
   exact .inr (.inl ⟨a,vs,i,v,ea,ry.int,.of ha,e2,q v H (.refl k) r2⟩)
 ·rename_i ds i
  simp only [pIx] at hp
  cases e1:atI ds i with
  | none=>rw [e1] at hp; cases hp
  | some n =>
   rw [e1] at hp
   simp only [WD,W5] at hp
   subst hp
   obtain ⟨a,vs,ea,ha,ra⟩:=rx.lst
   obtain ⟨v,e2,r2⟩:=z6Z ra e1
   exact .inl ⟨a,vs,i,v,ea,ry.int,.inl ha,e2,q v H (.refl k) r2⟩
def pGt:=pCmp (fun i j=>decide (j < i)) fun x y=>decide (y < x)
def pGe:=pCmp (fun i j=>decide (j≤i)) fun x y=>!decide (x < y)
theorem zd1:OpR X (WE .Gt) (rCmp (fun i j=>decide (j < i)) fun x y=>decide (y < x)):=op_gt.or (z8A (g:=fun x y=>decide (y < x)) fun _ _ _ _ _ _ h=>PySem.P.gt_str h)
theorem zd2:OpR X (WE .GtE) (rCmp (fun i j=>decide (j≤i)) fun x y=>!decide (x < y)):=op_ge.or (z8A (g:=fun x y=>!decide (x < y)) fun _ _ _ _ _ _ h=>PySem.P.ge_str h)
abbrev DA:=Dl→Rs (List D)
def tAD (c:Fc) (f:DA):TA:=fun σ H Q=>∃ δ,Ok c σ δ H∧post c (f δ) fun ds δ'=>∀ vs H',Aft c σ δ H σ δ' H'→Reps H' (Av c σ δ') vs ds→Q vs H'
structure SA (X:Cx) (c:Fc) (es:List Expr) (f:DA):Prop where
 pa:PA X es (tAD c f)
 len:∀ δ ds δ',f δ = .ok ds δ'→ds.length=es.length
theorem PA.weak (h:PA X es t) (w:∀ σ H Q,t' σ H Q→t σ H Q):PA X es t':=fun pos pins s σ H Q I q=>h pos pins s σ H Q I (w σ H Q q)
def aNil:DA:=fun δ=>.ok [] δ
def z0F (f:DE) (g:DA):DA:=fun δ=>(f δ).bind fun x δ1=>(g δ1).bind fun xs δ2=>.ok (x.d :: xs) δ2
section
variable {X:Cx} {c:Fc} {e:Expr} {es:List Expr} {f:DE} {g:DA} {pos:Pos}
theorem z1k:SA X c [] aNil:=⟨PA.weak z1M fun σ H Q ⟨δ,k,q⟩=>q [] H (.refl k) .nil,fun δ ds δ' h=>by cases h; rfl⟩
theorem z8h (ha:SE X c e f) (hr:SA X c es g) (hs:Wa (e :: es) X.env=(false,eval e X.env) :: Wa es X.env:=by rfl):SA X c (e :: es) (z0F f g):=by
 refine ⟨PA.weak (z0K ha hr.pa hs) fun σ H Q ⟨δ,k,q⟩=>?_,fun δ ds δ' h=>?_⟩
 ·unfold z0F at q
  rw [z01] at q
  refine ⟨δ,k,z00 q fun x δ1 q1 v H1 a1 r1=>⟨δ1,a1.ok,?_⟩⟩
  rw [z01] at q1
  exact z00 q1 fun xs δ2 q2 vs H2 a2 r2=>q2 (v :: vs) H2 (a1.trans a2) (.cons (Rep.aft r1.rep a2) r2)
 ·unfold z0F at h
  cases h1:f δ with
  | ok x δ1 =>
   rw [h1] at h
   cases h2:g δ1 with
   | ok xs δ2 =>
    simp only [Rs.bind,h2] at h
    cases h
    simp [hr.len _ _ _ h2]
   | exc x δx=>simp only [Rs.bind,h2] at h; cases h
   | stuck=>simp only [Rs.bind,h2] at h; cases h
  | exc x δx=>rw [h1] at h; cases h
  | stuck=>rw [h1] at h; cases h
def eTup (f:DA):DE:=fun δ=>(f δ).bind fun ds δ'=>.ok (.pure (.tup ds)) δ'
def eLst (f:DA):DE:=fun δ=>(f δ).bind fun ds δ'=>.ok (.own (.lst ds)) δ'
theorem z4o (h:n≤1000):n≤W7:=QW (z87 h)
theorem z5D (h:post c r k):post c r fun a δ=>r = .ok a δ∧k a δ:=by
 cases r with
 | ok a δ=>exact ⟨rfl,h⟩
 | exc x δx=>exact h
 | stuck=>exact h
theorem z2M {x1} (h:SA X c es g) (hz:es.length≤1000:=by decide):SE X c (.Tuple es x1 pos) (eTup g):=PE.weak (zcK h.pa) fun σ H Q ⟨δ,k,q⟩=>by
 unfold eTup at q
 rw [z01] at q
 refine ⟨δ,k,z00 (z5D q) fun ds δ1 ⟨e1,q1⟩ vs H1 a1 r1=>?_⟩
 have hl:=h.len _ _ _ e1
 exact ⟨by rw [r1.1,hl]; exact z4o hz,fun p hp=>q1 _ _ (a1.trans (.alloc a1.ok hp _)) (RepS.back (RepS.newT a1.ok r1 hp) a1)⟩
theorem z3G (h:SA X c es g) (hz:es.length≤1000:=by decide):SE X c (.List es pos) (eLst g):=PE.weak (zcP h.pa) fun σ H Q ⟨δ,k,q⟩=>by
 unfold eLst at q
 rw [z01] at q
 refine ⟨δ,k,z00 (z5D q) fun ds δ1 ⟨e1,q1⟩ vs H1 a1 r1=>?_⟩
 have hl:=h.len _ _ _ e1
 exact ⟨by rw [r1.1,hl]; exact z4o hz,fun p hp=>q1 _ _ (a1.trans (.alloc a1.ok hp _)) (RepS.back (RepS.newL a1.ok r1 hp) a1)⟩
end
def p1 (p:D→Option S) (x:D) (δ:Dl):Rs S:=match p x with
 | some s=>.ok s δ
 | none=>.stuck
def eC1 (p:D→Option S) (fb:BE):DE:=fun δ=>(fb δ).bind fun x δ1=>p1 p x δ1
def Op1 (r:V→Hp→VK→Prop) (p:D→Option S):Prop:=∀ (c:Fc) (σ:St) (δ:Dl) (H:Hp) (x:V) (d:D) (s:S) (Q:VK),Ok c σ δ H→RepB c σ δ H x d→p d=some s →
 (∀ v H',Aft c σ δ H σ δ H'→RepS c σ δ H H' v s→Q v H')→r x H Q
section
variable {X:Cx} {c:Fc} {e:Expr} {fb:BE} {r:V→Hp→VK→Prop} {p:D→Option S} {x:Str} {id T:String} {pp pos:Pos}
theorem z6u (hp:Op1 r p) (k:Ok c σ δ H) (rx:RepB c σ δ H v d)
  (h:post c (p1 p d δ) fun s δ'=>∀ v H',Aft c σ δ H σ δ' H'→RepS c σ δ' H H' v s→Q v H'):r v H Q:=by
 unfold p1 at h
 cases e1:p d with
 | none=>rw [e1] at h; exact h.elim
 | some s=>rw [e1] at h; exact hp c σ δ H v d s Q k rx e1 h
theorem z6l (hp:Op1 r p) (h:tD c (eC1 p fb) σ H Q):tUn r (tB c fb) σ H Q:=by
 obtain ⟨δ,k,q⟩:=h
 unfold eC1 at q
 rw [z01] at q
 exact ⟨δ,k,z00 q fun y δ1 q1 v H1 a1 r1=>z6u hp a1.ok r1 (z00 q1 fun s δ2 q2 w H2 a2 r2=>q2 w H2 (a1.trans a2) (RepS.back r2 a1))⟩
theorem z4O (hc:CallR X (.builtin id) rl) (hl:∀ v H Q,r v H Q→rl [v] H Q) (hp:Op1 r p) (hg:Gl X x) (hm:X.mg x=none) (hv:Q7 x=some (.builtin id)) (he:SB X c e fb)
  (hn:x≠"__name__":=by decide) (hdb:(x == ("__debug__" : Str))=false:=by decide) (hs:Wa [e] X.env=(false,eval e X.env) :: Wa [] X.env:=by rfl) (hpl:(Q8 pos (Wa [] X.env)).any (·.1)=false:=by rfl) :
  SE X c (.Call (.Name x pp) [e] [] pos) (eC1 p fb):=PE.weak (z3u hc hg hm hv (z0K he z1M hs) hn hdb hs hpl) fun σ H Q h=>by
 obtain ⟨δ,k,q⟩:=z6l hp h
 exact ⟨δ,k,z00 q fun y δ1 q1 v H1 a1 r1=>hl _ _ _ (q1 v H1 a1 r1)⟩
theorem z2N (hc:CallR X (.type T) rl) (hl:∀ v H Q,r v H Q→rl [v] H Q) (hp:Op1 r p) (hg:Gl X x) (hm:X.mg x=none) (hv:Q7 x=some (.type T)) (he:SB X c e fb)
  (hn:x≠"__name__":=by decide) (hdb:(x == ("__debug__" : Str))=false:=by decide) (hs:Wa [e] X.env=(false,eval e X.env) :: Wa [] X.env:=by rfl) (hpl:(Q8 pos (Wa [] X.env)).any (·.1)=false:=by rfl) :
  SE X c (.Call (.Name x pp) [e] [] pos) (eC1 p fb):=PE.weak (z5G hc hg hm hv (z0K he z1M hs) hn hdb hs hpl) fun σ H Q h=>by
 obtain ⟨δ,k,q⟩:=z6l hp h
 exact ⟨δ,k,z00 q fun y δ1 q1 v H1 a1 r1=>hl _ _ _ (q1 v H1 a1 r1)⟩
def pLen:D→Option S
 | .lst ds=>some (.pure (.int ds.length))
 | .tup ds=>some (.pure (.int ds.length))
 | .str z=>if z.length≤W7 then some (.pure (.int z.length)) else none
 | .dct ds=>some (.pure (.int ds.length))
 | _=>none
def rLen (K:W2):V→Hp→VK→Prop:=fun v H Q=>((∃ p ys,v = .ref p∧(SqL K H p ys∨SqT K H p ys)∧Q (.int ys.length) H)∨∃ z,v = .str z∧z.length≤W7∧Q (.int z.length) H)∨∃ a kvs,v=V.ref a∧H a=some (.dK kvs)∧Q (.int kvs.length) H
theorem zdc {K:W2}:Op1 (rLen K) pLen:=by
 intro c σ δ H x d s Q k rx hp q
 cases d with
 | lst ds =>
  simp only [pLen,W5] at hp
  subst hp
  obtain ⟨a,vs,ea,ha,ra⟩:=rx.lst
  exact .inl (.inl ⟨a,vs,ea,.inl (.inl ha),by rw [ra.1]; exact q _ H (.refl k) (.int _)⟩)
 | tup ds =>
  simp only [pLen,W5] at hp
  subst hp
  obtain ⟨a,vs,ea,ha,ra⟩:=rx.tup
  exact .inl (.inl ⟨a,vs,ea,.inr (.of ha),by rw [ra.1]; exact q _ H (.refl k) (.int _)⟩)
 | str z =>
  simp only [pLen] at hp
  split at hp
  ·rename_i hz
   simp only [W5] at hp
   subst hp
   exact .inl (.inr ⟨toS z,rx.str,z4k hz,by rw [z1x]; exact q _ H (.refl k) (.int _)⟩)
  ·cases hp
 | dct ds =>
  simp only [pLen,W5] at hp
  subst hp
  obtain ⟨a,ws,ea,ha,h1,h2⟩:=rx.dct
  have hl:ws.length=ds.length:=by have:=congrArg Qu h1; simpa using this
  exact .inr ⟨a,ws,ea,ha,by rw [hl]; exact q _ H (.refl k) (.int _)⟩
 | _=>simp [pLen] at hp
theorem z3h (hg:Gl X "len") (hm:X.mg "len" = none) (he:SB X c e fb) (hs:Wa [e] X.env=(false,eval e X.env) :: Wa [] X.env:=by rfl):SE X c (.Call (.Name "len" pp) [e] [] pos) (eC1 pLen fb) :=
 z4O ((call_len_seq.or z6b).or z9p) (fun v H Q h=>by
  rcases h with (⟨p,ys,e,h⟩ | ⟨z,e,h⟩) | ⟨a,kvs,e,h⟩
  ·exact .inl (.inl ⟨p,ys,by rw [e],h⟩)
  ·exact .inl (.inr ⟨z,by rw [e],h⟩)
  ·exact .inr ⟨a,kvs,by rw [e],h⟩) (zdc (K:=X.K)) hg hm PySem.boot_len he (by decide) (by decide) hs
def z1u:D→Option S
 | .lst ds=>some (.pure (.tup ds))
 | .tup ds=>some (.pure (.tup ds))
 | _=>none
def zct (K:W2):V→Hp→VK→Prop:=fun v H Q=>∃ p ys,v = .ref p∧((SqL K H p ys∧∀ l,H l=none→Q (.ref l) (upd H l (.tup ys)))∨(SqT K H p ys∧Q (.ref p) H))
theorem z9S {K:W2}:Op1 (zct K) z1u:=by
 intro c σ δ H x d s Q k rx hp q
 cases d with
 | lst ds =>
  simp only [z1u,W5] at hp
  subst hp
  obtain ⟨a,vs,ea,ha,ra⟩:=rx.lst
  exact ⟨a,vs,ea,.inl ⟨.inl ha,fun l hl=>q _ _ (.alloc k hl _) (RepS.newT k ra hl)⟩⟩
 | tup ds =>
  simp only [z1u,W5] at hp
  subst hp
  obtain ⟨a,vs,ea,ha,ra⟩:=rx.tup
  refine ⟨a,vs,ea,.inr ⟨.of ha,?_⟩⟩
  rw [ea] at rx
  rcases rx with rx | ⟨_,_,rx⟩
  ·exact q _ H (.refl k) rx
  ·exact rx.elim
 | _=>simp [z1u] at hp
theorem z4N (hg:Gl X "tuple") (hm:X.mg "tuple" = none) (he:SB X c e fb) (hs:Wa [e] X.env=(false,eval e X.env) :: Wa [] X.env:=by rfl):SE X c (.Call (.Name "tuple" pp) [e] [] pos) (eC1 z1u fb) :=
 z2N z5k (fun v H Q ⟨p,ys,e,h⟩=>⟨p,ys,by rw [e],h⟩) (z9S (K:=X.K)) hg hm PyProof.Rows.boot_tuple he (by decide) (by decide) hs
def pInt:D→Option S
 | .int i=>some (.pure (.int i))
 | .bl b=>some (.pure (.int (if b then 1 else 0)))
 | _=>none
theorem zb6 (hg:Gl X "int") (hm:X.mg "int" = none) (he:SB X c e fb) (hs:Wa [e] X.env=(false,eval e X.env) :: Wa [] X.env:=by rfl):SE X c (.Call (.Name "int" pp) [e] [] pos) (eC1 pInt fb) :=
 z2N (r:=fun v H Q=>(∃ i,v = .int i∧Q (.int i) H)∨∃ k,v = .bl k∧Q (.int (if k then 1 else 0)) H) z9q (fun v H Q h=>by
  rcases h with ⟨i,e,q⟩ | ⟨k,e,q⟩
  ·exact .inl ⟨i,by rw [e],q⟩
  ·exact .inr ⟨k,by rw [e],q⟩) (fun c σ δ H x d s Q k rx hp q=>by
  cases d with
  | int i =>
   simp only [pInt,W5] at hp
   subst hp
   exact .inl ⟨i,rx.int,q _ H (.refl k) (.int _)⟩
  | bl b =>
   simp only [pInt,W5] at hp
   subst hp
   exact .inr ⟨b,rx.bl,q _ H (.refl k) (.int _)⟩
  | _=>simp [pInt] at hp) hg hm PyProof.Rows.boot_int he (by decide) (by decide) hs
def z48:List D→Option (List Bool)
 | []=>some []
 | .bl b :: r=>(z48 r).map (b :: ·)
 | _ :: _=>none
def z2m:List D→Option (List Tx)
 | []=>some []
 | .str x :: r=>(z2m r).map (x :: ·)
 | _ :: _=>none
theorem z4s:∀ {ds:List D} {vs:List V} {bs:List Bool},z48 ds=some bs→Reps H O vs ds→vs=bs.map V.bl
 | [],vs,bs,h,r=>by
  simp only [z48,W5] at h
  subst h
  have:=r.1
  simpa using this
 | d :: ds,[],bs,h,r=>by have:=r.1; simp at this
 | d :: ds,v :: vs,bs,h,r=>by
  cases d with
  | bl b =>
   simp only [z48] at h
   cases e:z48 ds with
   | none=>rw [e] at h; cases h
   | some bs' =>
    rw [e] at h
    simp only [WD,W5] at h
    subst h
    have:=r.head
    cases this
    rw [z4s e r.tail]
    rfl
  | _=>simp [z48] at h
theorem z1L:∀ {ds:List D} {vs:List V} {bs:List Tx},z2m ds=some bs→Reps H O vs ds→vs=bs.map fun z=>V.str (toS z)
 | [],vs,bs,h,r=>by
  simp only [z2m,W5] at h
  subst h
  have:=r.1
  simpa using this
 | d :: ds,[],bs,h,r=>by have:=r.1; simp at this
 | d :: ds,v :: vs,bs,h,r=>by
  cases d with
  | str b =>
   simp only [z2m] at h
   cases e:z2m ds with
   | none=>rw [e] at h; cases h
   | some bs' =>
    rw [e] at h
    simp only [WD,W5] at h
    subst h
    have:=r.head
    cases this
    rw [z1L e r.tail]
    rfl
  | _=>simp [z2m] at h
theorem z1U:∀ ts:List Tx,Reps H O (ts.map fun z=>V.str (toS z)) (ts.map D.str)
 | []=>.nil
 | t :: ts=>.cons (.str t) (z1U ts)
def pAll:D→Option S
 | .lst ds=>(z48 ds).map fun bs=>.pure (.bl (bs.all (fun b=>b)))
 | _=>none
def z2y:D→Option S
 | .lst ds=>match z2m ds with
  | some ts=>if ts.length < 64 then some (.own (.lst ((z1Q ts).map D.str))) else none
  | none=>none
 | _=>none
theorem zak:Q7 "all" = some (.builtin "all"):=by decide +kernel
theorem zcl (hc:X.calm=true) (hg:Gl X "all") (hm:X.mg "all" = none) (he:SB X c e fb) (hs:Wa [e] X.env=(false,eval e X.env) :: Wa [] X.env:=by rfl):SE X c (.Call (.Name "all" pp) [e] [] pos) (eC1 pAll fb) :=
 z4O (r:=fun v H Q=>∃ (a:Addr) (bs:List Bool),v = .ref a∧SqL X.K H a (bs.map V.bl)∧Q (.bl (bs.all (fun b=>b))) H) (zaj hc) (fun v H Q ⟨a,bs,e,h⟩=>⟨a,bs,by rw [e],h⟩) (fun c σ δ H x d s Q k rx hp q=>by
  cases d with
  | lst ds =>
   simp only [pAll] at hp
   cases e:z48 ds with
   | none=>rw [e] at hp; cases hp
   | some bs =>
    rw [e] at hp
    simp only [WD,W5] at hp
    subst hp
    obtain ⟨a,vs,ea,ha,ra⟩:=rx.lst
    have:=z4s e ra
    subst this
    exact ⟨a,bs,ea,.inl ha,q _ H (.refl k) (.bl _)⟩
  | _=>simp [pAll] at hp) hg hm zak he (by decide) (by decide) hs
theorem z5t (hg:Gl X "sorted") (hm:X.mg "sorted" = none) (he:SB X c e fb) (hs:Wa [e] X.env=(false,eval e X.env) :: Wa [] X.env:=by rfl):SE X c (.Call (.Name "sorted" pp) [e] [] pos) (eC1 z2y fb) :=
 z4O (r:=fun v H Q=>∃ (a:Addr) (ts:List Tx),v = .ref a∧SqL X.K H a (ts.map fun z=>V.str (toS z))∧ts.length < 64∧∀ p,H p=none→Q (.ref p) (upd H p (.lst ((z1Q ts).map fun z=>V.str (toS z))))) z6a (fun v H Q ⟨a,bs,e,h⟩=>⟨a,bs,by rw [e],h⟩) (fun c σ δ H x d s Q k rx hp q=>by
  cases d with
  | lst ds =>
   simp only [z2y] at hp
   cases e:z2m ds with
   | none=>rw [e] at hp; cases hp
   | some ts =>
    rw [e] at hp
    simp only at hp
    split at hp
    ·rename_i hz
     simp only [W5] at hp
     subst hp
     obtain ⟨a,vs,ea,ha,ra⟩:=rx.lst
     have:=z1L e ra
     subst this
     exact ⟨a,ts,ea,.inl ha,hz,fun p hp=>q _ _ (.alloc k hp _) (RepS.newL k (z1U _) hp)⟩
    ·cases hp
  | _=>simp [z2y] at hp) hg hm PyProof.Rows.boot_sorted he (by decide) (by decide) hs
def pMax:D→D→Option S
 | .int i,.int j=>some (.pure (.int (if j > i then j else i)))
 | _,_=>none
def eMax (f g:DE):DE:=fun δ=>(f δ).bind fun x δ1=>(g δ1).bind fun y δ2=>p2 pMax x.d y.d δ2
theorem zas {a b:Expr} {f g:DE} (hc:X.calm=true) (hg:Gl X "max") (hm:X.mg "max" = none) (ha:SE X c a f) (hb:SE X c b g) (hs:Wa [a,b] X.env=(false,eval a X.env) :: Wa [b] X.env:=by rfl)
  (hs2:Wa [b] X.env=(false,eval b X.env) :: Wa [] X.env:=by rfl) (hpl:(Q8 pos (Wa [b] X.env)).any (·.1)=false:=by rfl):SE X c (.Call (.Name "max" pp) [a,b] [] pos) (eMax f g) :=
 PE.weak (z3u (z9o hc) hg hm PyProof.Rows.boot_max (z0K ha (z0K hb z1M hs2) hs) (by decide) (by decide) hs hpl) fun σ H Q ⟨δ,k,q⟩=>by
  unfold eMax at q
  rw [z01] at q
  refine ⟨δ,k,z00 q fun x δ1 q1 v H1 a1 r1=>⟨δ1,a1.ok,?_⟩⟩
  rw [z01] at q1
  refine z00 q1 fun y δ2 q2 u H2 a2 r2=>?_
  unfold p2 at q2
  have hx:RepB c σ δ2 H2 v x.d:=.inl (Rep.aft r1.rep a2)
  have hy:=r2.b
  generalize x.d=dx at q2 hx
  generalize y.d=dy at q2 hy
  cases dx <;> cases dy <;> first
   | exact q2.elim
   | skip
  rename_i i j
  exact ⟨i,j,by rw [hx.int,hy.int],q2 _ H2 (a1.trans a2) (.int _)⟩
def isTy (T:String):D→Option Bool
 | .non=>some (T == "NoneType")
 | .bl _=>some (T == "bool" || T == "int")
 | .int _=>some (T == "int")
 | .str _=>some (T == "str")
 | .tup _=>some (T == "tuple")
 | .lst _=>some (T == "list")
 | .dct _=>some (T == "dict")
 | .exc _ _=>none
 | .xd _=>none
 | .fn _=>none
structure TyK (K:W2) (T:String):Prop where
 non:Ql K (.type "NoneType") (.type T)=some (T == "NoneType")
 bl:Ql K (.type "bool") (.type T)=some (T == "bool" || T == "int")
 int:Ql K (.type "int") (.type T)=some (T == "int")
 str:Ql K (.type "str") (.type T)=some (T == "str")
 tup:Ql K (.type "tuple") (.type T)=some (T == "tuple")
 lst:Ql K (.type "list") (.type T)=some (T == "list")
 dct:Ql K (.type "dict") (.type T)=some (T == "dict")
def eIsi (T:String) (fb:BE):DE:=fun δ=>(fb δ).bind fun d δ'=>match isTy T d with
 | some b=>.ok (.pure (.bl b)) δ'
 | none=>.stuck
theorem za2 (ty:TyK X.K T) (I:Inv X pins σ H s) (ru:RelV v u) (r:Rep H NoO v d) (e:isTy T d=some b) (q:Q (.bl b) H) :
  W6 (model X.prog X.w) X.A (call (.builtin "isinstance") [u,.type T]) (EP X pins σ Q) X.xe s:=by
 have fin:∀ tk,EP X pins σ Q (.bool b) { s with toks:=tk }:=fun tk=>⟨.bl b,H,I.tok tk,rfl,q⟩
 cases r with
 | non=>exact z1f I ru .non (ty.non.trans e) fin
 | bl x=>exact z1f I ru (.bl x) (ty.bl.trans e) fin
 | int x=>exact z1f I ru (.int x) (ty.int.trans e) fin
 | str x=>exact z1f I ru (.str _) (ty.str.trans e) fin
 | tup _ h2 _ _=>exact z1f I ru (.tup h2) (ty.tup.trans e) fin
 | lst _ h2 _ _ =>
  rcases h2 with h2 | ⟨o,h2⟩
  ·exact z1f I ru (.lst h2) (ty.lst.trans e) fin
  ·exact z1f I ru (.frz h2) (ty.lst.trans e) fin
 | dct _ h2 _ _=>exact z1f I ru (.dK h2) (ty.dct.trans e) fin
 | exc _ _=>cases e
 | xd _ _=>cases e
 | fn _=>cases e
theorem zai (ty:TyK X.K T):CallR X (.builtin "isinstance") (fun xs H Q=>∃ v d b,xs=[v,.ty T]∧Rep H NoO v d∧isTy T d=some b∧Q (.bl b) H):=by
 intro pins s σ H xs us Q I r h
 obtain ⟨v,d,b,rfl,rp,e,q⟩:=h
 obtain ⟨u,w',rfl,r1,r2⟩:=zbX r
 cases r2
 exact za2 ty I r1 rp e q
theorem zat {y:Str} {py:Pos} (ty:TyK X.K T) (hg:Gl X "isinstance") (hm:X.mg "isinstance" = none) (hgy:Gl X y) (hmy:X.mg y=none) (hvy:Q7 y=some (.type T)) (he:SB X c e fb)
  (hny:y≠"__name__":=by decide) (hdy:(y == ("__debug__" : Str))=false:=by decide)
  (hs:Wa [e,.Name y py] X.env=(false,eval e X.env) :: Wa [.Name y py] X.env:=by rfl) (hpl:(Q8 pos (Wa [.Name y py] X.env)).any (·.1)=false:=by rfl) :
  SE X c (.Call (.Name "isinstance" pp) [e,.Name y py] [] pos) (eIsi T fb) :=
 PE.weak (z3u (zai ty) hg hm PyProof.Rows.boot_isinstance (z0K he (z0K (zbr (v:=.ty T) hgy hmy hvy rfl hny hdy) z1M) hs) (by decide) (by decide) hs hpl) fun σ H Q ⟨δ,k,q⟩=>by
  unfold eIsi at q
  rw [z01] at q
  refine ⟨δ,k,z00 q fun d δ1 q1 v H1 a1 r1=>?_⟩
  cases e1:isTy T d with
  | none=>rw [e1] at q1; exact q1.elim
  | some b =>
   rw [e1] at q1
   exact ⟨v,d,b,rfl,r1.un,e1,q1 _ H1 a1 (.bl _)⟩
end
abbrev DOp:=Dl→Rs (Option Int)
def tOD (c:Fc) (f:DOp):TO:=fun σ H Q=>∃ δ,Ok c σ δ H∧post c (f δ) fun o δ'=>∀ H',Aft c σ δ H σ δ' H'→Q o H'
abbrev SO (X:Cx) (c:Fc) (e:Option Expr) (f:DOp):Prop:=PO X e (tOD c f)
theorem PO.weak (h:PO X e t) (w:∀ σ H Q,t' σ H Q→t σ H Q):PO X e t':=fun pins s σ H Q I q=>h pins s σ H Q I (w σ H Q q)
def z5N:DOp:=fun δ=>.ok none δ
def z3b (f:DE):DOp:=fun δ=>(f δ).bind fun r δ'=>match r with
 | .pure (.int i)=>.ok (some i) δ'
 | _=>.stuck
section
variable {X:Cx} {c:Fc} {e:Expr} {f:DE} {fb:BE} {fl fh:DOp} {lo hi:Option Expr} {pos p2:Pos}
theorem z85:SO X c none z5N:=PO.weak zbm fun σ H Q ⟨δ,k,q⟩=>q H (.refl k)
theorem z4L (h:SE X c e f):SO X c (some e) (z3b f):=PO.weak (zbl h) fun σ H Q ⟨δ,k,q⟩=>by
 unfold z3b at q
 rw [z01] at q
 refine ⟨δ,k,z00 q fun r δ1 q1 v H1 a1 r1=>?_⟩
 cases r with
 | own d=>exact q1.elim
 | pure d =>
  cases d <;> first | exact q1.elim | skip
  rename_i i
  cases r1
  exact ⟨i,rfl,q1 H1 a1⟩
def pSl (lo hi:Option Int):D→Option S
 | .str x=>if x.length≤W7 then some (.pure (.str (cutL x lo hi))) else none
 | .tup ds=>some (.pure (.tup (cutL ds lo hi)))
 | .lst ds=>some (.own (.lst (cutL ds lo hi)))
 | _=>none
def rSlD (K:W2):V→Option Int→Option Int→Hp→VK→Prop:=fun x lo hi H Q=>rSlS x lo hi H Q∨zcu K x lo hi H Q∨rSlL K x lo hi H Q
theorem sl_D:SlR X (rSlD X.K):=sl_str.or (sl_tup2.or zb0)
theorem zdb {K:W2} (lo hi:Option Int):Op1 (fun x H Q=>rSlD K x lo hi H Q) (pSl lo hi):=by
 intro c σ δ H x d s Q k rx hp q
 cases d with
 | str z =>
  simp only [pSl] at hp
  split at hp
  ·rename_i hz
   simp only [W5] at hp
   subst hp
   exact .inl ⟨z,rx.str,hz,q _ H (.refl k) (.str _)⟩
  ·cases hp
 | tup ds =>
  simp only [pSl,W5] at hp
  subst hp
  obtain ⟨a,vs,ea,ha,ra⟩:=rx.tup
  refine .inr (.inl ⟨a,vs,ea,.of ha,fun hw=>?_,fun _ p hp=>?_⟩)
  ·rw [ra.1] at hw
   rw [z9i hw] at q
   rw [ea] at rx
   rcases rx with rx | ⟨_,_,rx⟩
   ·exact q _ H (.refl k) rx
   ·exact rx.elim
  ·rw [← zaK]
   exact q _ _ (.alloc k hp _) (RepS.newT k (ra.cut lo hi) hp)
 | lst ds =>
  simp only [pSl,W5] at hp
  subst hp
  obtain ⟨a,vs,ea,ha,ra⟩:=rx.lst
  refine .inr (.inr ⟨a,vs,ea,.inl ha,fun p hp=>?_⟩)
  rw [← zaK]
  exact q _ _ (.alloc k hp _) (RepS.newL k (ra.cut lo hi) hp)
 | _=>simp [pSl] at hp
def eSl (f:DE) (fl fh:DOp):DE:=fun δ=>(f δ).bind fun x δ1=>(fl δ1).bind fun l δ2=>(fh δ2).bind fun h δ3=>p1 (pSl l h) x.d δ3
theorem zch (he:SE X c e f) (hl:SO X c lo fl) (hh:SO X c hi fh):SE X c (.Subscript e (.Slice lo hi none p2) pos) (eSl f fl fh):=PE.weak (z73 sl_D he hl hh) fun σ H Q ⟨δ,k,q⟩=>by
 unfold eSl at q
 rw [z01] at q
 refine ⟨δ,k,z00 q fun x δ1 q1 v H1 a1 r1=>⟨δ1,a1.ok,?_⟩⟩
 rw [z01] at q1
 refine z00 q1 fun l δ2 q2 H2 a2=>⟨δ2,a2.ok,?_⟩
 rw [z01] at q2
 refine z00 q2 fun h δ3 q3 H3 a3=>?_
 exact z6u (zdb l h) a3.ok (.inl (Rep.aft r1.rep (a2.trans a3))) (z00 q3 fun s δ4 q4 w H4 a4 r4=>q4 w H4 (a1.trans (a2.trans (a3.trans a4))) (RepS.back r4 (a1.trans (a2.trans a3))))
def eSlN (i:Nat) (fl fh:DOp):DE:=fun δ=>match δ[i]? with
 | some (some _)=>(fl δ).bind fun l δ2=>(fh δ2).bind fun h δ3=>(bVar i δ3).bind fun x δ4=>p1 (pSl l h) x δ4
 | _=>.stuck
theorem zaZ {i:Nat} {σ:St} {δ:Dl} {H:Hp} {v:V} {w:S} (k:Ok c σ δ H) (e:δ[i]? = some (some w)) (ev:σ[i]? = some (some v)):RepB c σ δ H v w.d:=by
 cases w with
 | pure d =>
  obtain ⟨v',e1,r⟩:=k.slot i d e
  rw [ev] at e1; cases e1
  exact .inl r
 | own d =>
  obtain ⟨a,e1,r,_⟩:=k.own i d e
  rw [ev] at e1; cases e1
  exact .inr ⟨a,rfl,r⟩
theorem z9s (h:post c ((bVar i δ).bind g) kk):∃ w,δ[i]? = some (some w)∧post c (g w.d δ) kk:=by
 unfold bVar at h
 cases e:δ[i]? with
 | none=>rw [e] at h; exact h.elim
 | some o =>
  cases o with
  | none=>rw [e] at h; exact h.elim
  | some w=>rw [e] at h; exact ⟨w,rfl,h⟩
theorem zcg {i:Nat} (he:PE X e (tVar i)) (hl:SO X c lo fl) (hh:SO X c hi fh):SE X c (.Subscript e (.Slice lo hi none p2) pos) (eSlN i fl fh):=PE.weak (z73 sl_D he hl hh) fun σ H Q ⟨δ,k,q⟩=>by
 unfold eSlN at q
 cases e:δ[i]? with
 | none=>rw [e] at q; exact q.elim
 | some o =>
  cases o with
  | none=>rw [e] at q; exact q.elim
  | some w =>
   rw [e] at q
   obtain ⟨v,ev⟩:=z39 k e
   have q':post c ((fl δ).bind fun l δ2=>(fh δ2).bind fun h δ3=>(bVar i δ3).bind fun x δ4=>p1 (pSl l h) x δ4) fun r δ'=>∀ v H',Aft c σ δ H σ δ' H'→RepS c σ δ' H H' v r→Q v H':=q
   rw [z01] at q'
   refine ⟨v,ev,δ,k,z00 q' fun l δ2 q2 H2 a2=>⟨δ2,a2.ok,?_⟩⟩
   rw [z01] at q2
   refine z00 q2 fun h δ3 q3 H3 a3=>?_
   obtain ⟨w3,e3,q4⟩:=z9s q3
   exact z6u (zdb l h) a3.ok (zaZ a3.ok e3 ev) (z00 q4 fun s δ4 q4 w H4 a4 r4=>q4 w H4 (a2.trans (a3.trans a4)) (RepS.back r4 (a2.trans a3)))
def z3U (z:Tx):List Tx→Tx
 | []=>[]
 | [x]=>x
 | x :: y :: r=>x ++ z ++ z3U z (y :: r)
theorem z7e (z:Tx):∀ (r:List Tx) (acc:Tx),((r.map toS).foldl (fun (acc:Array Nat) p=>acc ++ (toS z).cps ++ p.cps) acc.toArray)=(match r with | []=>acc | x :: r'=>acc ++ z ++ z3U z (x :: r')).toArray
 | [],acc=>rfl
 | x :: r,acc=>by
  rw [Wj,Qz]
  have e:acc.toArray ++ (toS z).cps ++ (toS x).cps=(acc ++ z ++ x).toArray:=by simp [toS]
  rw [e,z7e z r (acc ++ z ++ x)]
  cases r with
  | nil=>simp [z3U]
  | cons y r'=>simp [z3U]
theorem zbC (z:Tx) (ts:List Tx):Txt.join (toS z) (ts.map toS)=toS (z3U z ts):=by
 show Builtin.Str.glued _ _=_
 unfold Builtin.Str.glued
 cases ts with
 | nil=>rfl
 | cons x r =>
  rw [Wj]
  show (⟨(List.foldl _ (toS x).cps (r.map toS))⟩:Str)=_
  have:=z7e z r x
  have e:(toS x).cps=x.toArray:=rfl
  rw [e,this]
  cases r with
  | nil=>rfl
  | cons y r'=>rfl
def z1v (ts:List Tx):Nat:=(ts.map (·.length)).sum
def z1m (z:Tx):D→Option S
 | .lst ds=>match z2m ds with
  | some ts=>if z1v ts + ts.length * z.length≤16777216 then some (.pure (.str (z3U z ts))) else none
  | none=>none
 | .tup ds=>match z2m ds with
  | some ts=>if z1v ts + ts.length * z.length≤16777216 then some (.pure (.str (z3U z ts))) else none
  | none=>none
 | _=>none
theorem zbx {K:W2} (z:Tx):Op1 (fun x H Q=>z9H K (.str (toS z)) [x] H Q) (z1m z):=by
 intro c σ δ H x d s Q k rx hp q
 have key:∀ (a:Addr) (vs:List V) (ds:List D),x = .ref a→(SqL K H a vs∨SqT K H a vs)→Reps H (Av c σ δ) vs ds→(match z2m ds with | some ts=>if z1v ts + ts.length * z.length≤16777216 then some (S.pure (.str (z3U z ts))) else none | none=>none)=some s→z9H K (.str (toS z)) [x] H Q:=by
  intro a vs ds ea ha ra hp
  cases e:z2m ds with
  | none=>rw [e] at hp; cases hp
  | some ts =>
   rw [e] at hp
   simp only at hp
   split at hp
   ·rename_i hz
    simp only [W5] at hp
    subst hp
    have:=z1L e ra
    subst this
    refine ⟨toS z,a,ts.map toS,rfl,by rw [ea],?_,?_,?_⟩
    ·rw [Wy]; exact ha
    ·rw [Wy,Wx,z1x]
     have:((fun x:Str=>x.length) ∘ toS)=fun x:Tx=>x.length:=funext fun x=>z1x x
     rw [this]
     exact hz
    ·rw [zbC]
     exact q _ H (.refl k) (.str _)
   ·cases hp
 cases d with
 | lst ds =>
  obtain ⟨a,vs,ea,ha,ra⟩:=rx.lst
  exact key a vs ds ea (.inl (.inl ha)) ra hp
 | tup ds =>
  obtain ⟨a,vs,ea,ha,ra⟩:=rx.tup
  exact key a vs ds ea (.inr (.of ha)) ra hp
 | _=>simp [z1m] at hp
theorem z3H {x:Str} {j} {p0 apos cpos:Pos} (z:Tx) (he:SB X c e fb) (hx:x=toS z:=by decide +kernel)
  (hbase:attributeBase (.Constant (.str x) j p0) "join" X.env (eval (.Constant (.str x) j p0) X.env)=eval (.Constant (.str x) j p0) X.env:=by rfl)
  (hfew:((Q8 cpos (Wa [e] X.env)).all (fun x=>!x.1) && (backToKw cpos (Jk [] X.env)).all (fun x=>x.1.isSome)
   && decide ([e].length + ([]:List Keyword).length + (if ([]:List Keyword).isEmpty then 0 else 1) < 30))=true:=by rfl)
  (hline:(apos.endLine == cpos.line)=true:=by rfl) (hs:Wa [e] X.env=(false,eval e X.env) :: Wa [] X.env:=by rfl) :
  SE X c (.Call (.Attribute (.Constant (.str x) j p0) "join" apos) [e] [] cpos) (eC1 (z1m z) fb):=by
 subst hx
 refine PE.weak (zcS PySem.F.plainAttrs_str PySem.F.slot_str_join PySem.F.type_str_join zby zay (z0K he z1M hs) hbase hfew hline hs rfl) fun σ H Q h=>?_
 obtain ⟨δ,k,q⟩:=z6l (r:=fun x H Q=>z9H X.K (.str (toS z)) [x] H Q) (zbx z) h
 refine ⟨?_,δ,k,q⟩
 show ("str" : String) = "str"
 rfl
end
inductive Fl where
 | next | ret (r:S) | brk | cont
abbrev DS:=Dl→Rs Fl
def fin (c:Fc) (D:Ends) (σ:St) (δ:Dl) (H:Hp):Fl→Prop
 | .next=>D.nx σ H
 | .ret r=>∀ v,RepS c σ δ c.H₀ H v r→D.rt v H
 | .brk=>D.bk σ H
 | .cont=>D.ct σ H
def z22 (c:Fc) (D:Ends) (σ:St) (δ:Dl) (H:Hp) (r:Rs Fl):Prop:=post c r fun fl δ'=>∀ σ' H',Aft c σ δ H σ' δ' H'→fin c D σ' δ' H' fl
def tDS (c:Fc) (f:DS):TS:=fun D σ H=>∃ δ,Ok c σ δ H∧z22 c D σ δ H (f δ)
abbrev SS (X:Cx) (c:Fc) (st:Stmt) (f:DS):Prop:=PS X st (tDS c f)
abbrev SSs (X:Cx) (c:Fc) (st:List Stmt) (f:DS):Prop:=PSs X st (tDS c f)
theorem PS.weak {X:Cx} {st:Stmt} {t t':TS} (h:PS X st t) (w:∀ D σ H,t' D σ H→t D σ H):PS X st t':=fun pins s σ H D I q=>h pins s σ H D I (w D σ H q)
theorem PSs.weak {X:Cx} {st:List Stmt} {t t':TS} (h:PSs X st t) (w:∀ D σ H,t' D σ H→t D σ H):PSs X st t':=fun pins s σ H D I q=>h pins s σ H D I (w D σ H q)
def z1C:DS:=fun δ=>.ok .next δ
def dSeq (f g:DS):DS:=fun δ=>(f δ).bind fun fl δ1=>match fl with
 | .next=>g δ1
 | .ret r=>.ok (.ret r) δ1
 | .brk=>.ok .brk δ1
 | .cont=>.ok .cont δ1
def dDrop (f:DE):DS:=fun δ=>(f δ).bind fun _ δ1=>.ok .next δ1
def dRet (f:DE):DS:=fun δ=>(f δ).bind fun r δ1=>.ok (.ret r) δ1
def dIf (t:DT) (f g:DS):DS:=fun δ=>(t δ).bind fun b δ1=>if b then f δ1 else g δ1
def eRetN (np:List Nat) (i:Nat):DE:=fun δ=>match δ[i]? with
 | some (some (.own d))=>if np.contains i then .ok (.pure d) (δ.set i (some (.pure d))) else .ok (.own d) (δ.set i none)
 | some (some (.pure d))=>.ok (.pure d) δ
 | _=>.stuck
section
variable {X:Cx} {c:Fc} {st:Stmt} {sts:List Stmt} {e a:Expr} {f g:DS} {fe:DE} {t:DT} {pos pos':Pos}
theorem z1I:SSs X c [] z1C:=PSs.weak zbh fun D σ H ⟨δ,k,q⟩=>q σ H (.refl k)
theorem z04 (h1:SS X c st f) (h2:SSs X c sts g):SSs X c (st :: sts) (dSeq f g):=PSs.weak (z9J h1 h2) fun D σ H ⟨δ,k,q⟩=>by
 unfold dSeq z22 at q
 rw [z01] at q
 refine ⟨δ,k,z00 q fun fl δ1 q1 σ1 H1 a1=>?_⟩
 cases fl with
 | next=>exact ⟨δ1,a1.ok,z00 q1 fun fl2 δ2 q2 σ2 H2 a2=>q2 σ2 H2 (a1.trans a2)⟩
 | ret r=>exact q1 σ1 H1 a1
 | brk=>exact q1 σ1 H1 a1
 | cont=>exact q1 σ1 H1 a1
theorem z0g (h1:SS X c st f):SSs X c [st] f:=PSs.weak (zbg h1) fun D σ H h=>h
theorem z0D (he:SE X c e fe):SS X c (.Return (some e) pos) (dRet fe):=PS.weak (zcG he) fun D σ H ⟨δ,k,q⟩=>by
 unfold dRet z22 at q
 rw [z01] at q
 exact ⟨δ,k,z00 q fun r δ1 q1 v H1 a1 r1=>q1 σ H1 a1 v r1.home⟩
theorem z37 {b1 b2:List Stmt} (ht:ST X c e t) (h1:SSs X c b1 f) (h2:SSs X c b2 g):SS X c (.If e b1 b2 pos) (dIf t f g):=PS.weak (ps_if ht h1 h2) fun D σ H ⟨δ,k,q⟩=>by
 unfold dIf z22 at q
 rw [z01] at q
 refine ⟨δ,k,z00 q fun b δ1 q1 H1 a1=>?_⟩
 cases b with
 | true=>exact ⟨δ1,a1.ok,z00 q1 fun fl δ2 q2 σ2 H2 a2=>q2 σ2 H2 (a1.trans a2)⟩
 | false=>exact ⟨δ1,a1.ok,z00 q1 fun fl δ2 q2 σ2 H2 a2=>q2 σ2 H2 (a1.trans a2)⟩
theorem Own.of_set (h:Own (σ.set i (some v)) (δ.set i (some r)) b):Own σ δ b∨(v = .ref b∧∃ d,r = .own d):=by
 obtain ⟨j,d,e1,e2⟩:=h
 by_cases hj:i=j
 ·subst hj
  right
  rw [WW] at e1 e2
  simp at e1 e2
  obtain ⟨_,h1⟩:=e1
  obtain ⟨_,h2⟩:=e2
  exact ⟨h2,d,h1⟩
 ·rw [W9 hj] at e1 e2
  exact .inl ⟨j,d,e1,e2⟩
theorem Ok.set (x:Aft c σ₀ δ₀ H₁ σ δ H) (hr:RepS c σ δ H₁ H v r) (hp:∀ p ∈ c.pin,p.1≠i):Aft c σ₀ δ₀ H₁ (σ.set i (some v)) (δ.set i (some r)) H:=by
 have k:=x.ok
 -- all slots avoid the new address,too
 have all:∃ c':Fc,c'.H₀=c.H₀∧c'.pin=c.pin∧Ok c' σ δ H∧(∀ b,Av c (σ.set i (some v)) (δ.set i (some r)) b→Av c' σ δ b):=by
  cases r with
  | pure d =>
   refine ⟨c,rfl,rfl,k,fun b z=>?_⟩
   rcases z with z | z
   ·exact .inl z
   ·rcases z.of_set with z | ⟨_,d',e⟩
    ·exact .inr z
    ·cases e
  | own d =>
   obtain ⟨a,ea,o,n,f,k2,_⟩:=hr
   refine ⟨c.plus a,rfl,rfl,k2,fun b z=>?_⟩
   rcases z with z | z
   ·exact .inl (.inl z)
   ·rcases z.of_set with z | ⟨e,_⟩
    ·exact .inr z
    ·rw [ea] at e; cases e
     exact .inl (.inr rfl)
 obtain ⟨c',eH,eP,k2,sub⟩:=all
 have eI:∀ a,c'.I a ↔ c.I a:=fun a=>by unfold Fc.I; rw [eP]
 have hrep:Rep H (Av c (σ.set i (some v)) (δ.set i (some r))) v r.d∨∃ d,r = .own d:=by
  cases r with
  | pure d =>
   left
   refine Rep.anti hr fun b z=>?_
   rcases z with z | z
   ·exact .inl (.inl z)
   ·rcases z.of_set with z | ⟨_,d',e⟩
    ·exact .inl (.inr z)
    ·cases e
  | own d=>exact .inr ⟨d,rfl⟩
 refine ⟨⟨k.keep,k.bd,k.ith,by rw [QS,QS]; exact k.len,fun j d e=>?_,fun j d e=>?_,fun j l a d d' e1 e2 e3 e4=>?_,fun p hm=>?_⟩,x.keep,fun b z=>?_,x.there⟩
 ·by_cases hj:i=j
  ·subst hj
   rw [WW] at e
   simp at e
   obtain ⟨hi,rfl⟩:=e
   have hi':i < σ.length:=by rw [← k.len]; exact hi
   rcases hrep with h | ⟨_,h⟩
   ·exact ⟨v,by rw [Wt hi'],h⟩
   ·cases h
  ·rw [W9 hj] at e
   obtain ⟨w,e1,q⟩:=k2.slot j d e
   exact ⟨w,by rw [W9 hj]; exact e1,q.anti fun b z=>.inl (sub b z)⟩
 ·by_cases hj:i=j
  ·subst hj
   rw [WW] at e
   simp at e
   obtain ⟨hi,rfl⟩:=e
   have hi':i < σ.length:=by rw [← k.len]; exact hi
   obtain ⟨a,ea,o,n,f,k3,_⟩:=hr
   refine ⟨a,by rw [Wt hi',ea],o.anti fun b z=>.inl ?_,.inr f,n⟩
   rcases z with z | z
   ·exact .inl (.inl z)
   ·rcases z.of_set with z | ⟨e,_⟩
    ·exact .inr z
    ·rw [ea] at e; cases e
     exact .inl (.inr rfl)
  ·rw [W9 hj] at e
   obtain ⟨a,e1,q,q2,q3⟩:=k.own j d e
   obtain ⟨a',e1',q',_,_⟩:=k2.own j d e
   rw [e1] at e1'; cases e1'
   exact ⟨a,by rw [W9 hj]; exact e1,q'.anti fun b z=>.inl (sub b z),q2,q3⟩
 ·by_cases hj:i=j
  ·subst hj
   by_cases hl:i=l
   ·exact hl
   ·rw [W9 hl] at e2 e4
    rw [WW] at e1 e3
    simp at e1 e3
    obtain ⟨_,rfl⟩:=e1
    obtain ⟨_,rfl⟩:=e3
    obtain ⟨a',ea,o,n,f,k3,_⟩:=hr
    cases ea
    exact absurd ⟨l,d',e2,e4⟩ (z2P k3)
  ·rw [W9 hj] at e1 e3
   by_cases hl:i=l
   ·subst hl
    rw [WW] at e2 e4
    simp at e2 e4
    obtain ⟨_,rfl⟩:=e2
    obtain ⟨_,rfl⟩:=e4
    obtain ⟨a',ea,o,n,f,k3,_⟩:=hr
    cases ea
    exact absurd ⟨j,d,e1,e3⟩ (z2P k3)
   ·rw [W9 hl] at e2 e4
    exact k.inj j l a d d' e1 e2 e3 e4
 ·rw [W9 (Ne.symm (hp p hm))]
  exact k.pinned p hm
 ·rcases z.of_set with z | ⟨e,d,ed⟩
  ·exact x.own b z
  ·subst ed
   obtain ⟨a,ea,_,_,_,_,hs⟩:=hr
   rw [ea] at e; cases e
   exact .inr hs
abbrev DG:=S→Dl→Option Dl
def tGD (c:Fc) (g:DG):TG:=fun v σ H Q=>∃ σ₀ δ₀ H₁ δ r δ',Aft c σ₀ δ₀ H₁ σ δ H∧RepS c σ δ H₁ H v r∧g r δ=some δ'∧∀ σ',Aft c σ₀ δ₀ H₁ σ' δ' H→Q σ' H
abbrev SG (X:Cx) (c:Fc) (tg:Expr) (g:DG):Prop:=PG X tg (tGD c g)
def gNm (np:List Nat) (i:Nat):DG:=fun r δ=>if np.contains i then none else some (δ.set i (some r))
def Np (c:Fc) (np:List Nat):Prop:=∀ p ∈ c.pin,np.contains p.1=true
theorem z56 (hp:Np c np) (h:tGD c (gNm np i) v σ H Q):za3 i v σ H Q:=by
 obtain ⟨σ₀,δ₀,H₁,δ,r,δ',x,rr,e,q⟩:=h
 unfold gNm at e
 split at e
 ·cases e
 ·rename_i hn
  cases e
  exact q _ (Ok.set x rr fun p hm e=>hn (by rw [← e]; exact hp p hm))
theorem PG.weak {tg:Expr} {t t':TG} (h:PG X tg t) (w:∀ v σ H Q,t' v σ H Q→t v σ H Q):PG X tg t':=fun pins s σ H v u Q I r q=>h pins s σ H v u Q I r (w v σ H Q q)
theorem PGs.weak {tg:List Expr} {t t':TGs} (h:PGs X tg t) (w:∀ v σ H Q,t' v σ H Q→t v σ H Q):PGs X tg t':=fun pins s σ H v u Q I r q=>h pins s σ H v u Q I r (w v σ H Q q)
theorem z0U {np:List Nat} {i:Nat} {x:Str} (hp:Np c np) (hN:X.N.Nodup) (hi:X.N[i]? = some x) (hx:Loc X.env.scope x) (hf:X.fn x=true∨X.env.scope.names.lookup x=some .local):SG X c (.Name x pos) (gNm np i) :=
 PG.weak (z8w hN hi hx hf) fun v σ H Q h=>z56 hp h
abbrev DGs:=List D→Dl→Option Dl
def tGDs (c:Fc) (g:DGs):TGs:=fun vs σ H Q=>∃ δ ds δ',Ok c σ δ H∧Reps H (Av c σ δ) vs ds∧g ds δ=some δ'∧∀ σ',Aft c σ δ H σ' δ' H→Q σ' H
abbrev SGs (X:Cx) (c:Fc) (tg:List Expr) (g:DGs):Prop:=PGs X tg (tGDs c g)
def z1W:DGs:=fun ds δ=>match ds with
 | []=>some δ
 | _=>none
def z0u (g:DG) (gs:DGs):DGs:=fun ds δ=>match ds with
 | []=>none
 | d :: r=>(g (.pure d) δ).bind fun δ1=>gs r δ1
theorem z6p:SGs X c [] z1W:=PGs.weak z8v fun vs σ H Q ⟨δ,ds,δ',k,r,e,q⟩=>by
 cases ds with
 | nil =>
  cases e
  have:vs=[]:=by have:=r.1; simpa using this
  exact ⟨this,q σ (.refl k)⟩
 | cons d r=>cases e
theorem z2h {es:List Expr} {g:DG} {gs:DGs} (h1:SG X c e g) (h2:SGs X c es gs) (hs:(Q2 (e :: es) X.env).map (·.2)=assign e X.env :: (Q2 es X.env).map (·.2):=by rfl):SGs X c (e :: es) (z0u g gs) :=
 PGs.weak (z72 h1 h2 hs) fun vs σ H Q ⟨δ,ds,δ',k,r,e,q⟩=>by
  cases ds with
  | nil=>cases e
  | cons d ds =>
   cases vs with
   | nil=>have:=r.1; simp at this
   | cons v vs =>
    simp only [z0u] at e
    cases e1:g (.pure d) δ with
    | none=>rw [e1] at e; cases e
    | some δ1 =>
     rw [e1] at e
     refine ⟨v,vs,rfl,σ,δ,H,δ,.pure d,δ1,.refl k,r.head,e1,fun σ1 a1=>?_⟩
     exact ⟨δ1,ds,δ',a1.ok,Reps.aft r.tail a1,e,fun σ2 a2=>q σ2 (a1.trans a2)⟩
def gTp (n:Nat) (gs:DGs):DG:=fun r δ=>match r.d with
 | .tup ds=>if ds.length=n then gs ds δ else none
 | _=>none
theorem z8a {es:List Expr} {k:Nat} {gs:DGs} {n:Nat} (hc:X.calm=true) (h:SGs X c es gs) (hn:(Q2 es X.env).length=n:=by rfl) (hst:(Q2 es X.env).findIdx? (·.1)=none:=by rfl) :
  SG X c (.Tuple es k pos) (gTp n gs):=PG.weak (zax hc h hn hst) fun v σ H Q hw=>by
 obtain ⟨σ₀,δ₀,H₁,δ,r,δ',x,rr,e,q⟩:=hw
 have hb:=rr.b
 unfold gTp at e
 generalize r.d=d at e hb
 cases d <;> first | (cases e; done) | skip
 rename_i ds
 simp only at e
 split at e
 ·rename_i hl
  obtain ⟨a,vs,ea,ha,ra⟩:=hb.tup
  exact ⟨a,vs,ea,.of ha,by rw [ra.1]; exact hl,δ,ds,δ',x.ok,ra,e,fun σ' a1=>q σ' (x.trans a1)⟩
 ·cases e
def dAsg (f:DE) (g:DG):DS:=fun δ=>(f δ).bind fun r δ1=>match g r δ1 with
 | some δ2=>.ok .next δ2
 | none=>.stuck
theorem z5m {g:DG} {D:Ends} {σ:St} {H:Hp} {te:TE} {tg:TG} (he:∀ σ H Q,tD c fe σ H Q→te σ H Q) (hg:∀ v σ H Q,tGD c g v σ H Q→tg v σ H Q) (h:tDS c (dAsg fe g) D σ H):tAsg te tg D σ H:=by
 obtain ⟨δ,k,q⟩:=h
 unfold dAsg z22 at q
 rw [z01] at q
 refine he _ _ _ ⟨δ,k,z00 q fun r δ1 q1 v H1 a1 r1=>hg _ _ _ _ ?_⟩
 cases e:g r δ1 with
 | none=>rw [e] at q1; exact q1.elim
 | some δ2 =>
  rw [e] at q1
  exact ⟨σ,δ,H,δ1,r,δ2,a1,r1,e,fun σ' a2=>q1 σ' H1 a2⟩
theorem z80 {tg:Expr} {g:DG} (he:SE X c e fe) (hg:SG X c tg g) (hs:swapsWithSole [tg] e pos.line X.env=pure false:=by rfl) (hw:swappedStores [tg] e X.env=pure none:=by rfl)
  (h1:(Q2 [tg] X.env).map (·.2)=[assign tg X.env]:=by rfl):SS X c (.Assign [tg] e pos) (dAsg fe g):=PS.weak (zaw he hg hs hw h1) fun D σ H h=>z5m (fun _ _ _ h=>h) (fun _ _ _ _ h=>h) h
theorem z0p {np:List Nat} {i:Nat} {x:Str} (hp:Np c np) (hN:X.N.Nodup) (hi:X.N[i]? = some x) (hx:Loc X.env.scope x) (he:SE X c e fe) (hs:Ja e (some (.Name x pos')) pos.line X.env=pure false) (hf:X.fn x=true∨X.env.scope.names.lookup x=some .local) :
  SS X c (.Assign [.Name x pos'] e pos) (dAsg fe (gNm np i)):=PS.weak (zcF hN hi hx he hs hf) fun D σ H h=>z5m (fun _ _ _ h=>h) (fun _ _ _ _ h=>z56 hp h) h
theorem Ok.mutL {σ:St} {δ:Dl} {H:Hp} {i:Nat} {ds ds':List D} {a:Addr} {vs':List V} (k:Ok c σ δ H) (e:δ[i]? = some (some (.own (.lst ds)))) (ea:σ[i]? = some (some (.ref a))) (r:Reps H (Av c σ δ) vs' ds') :
  Aft c σ δ H σ (δ.set i (some (.own (.lst ds')))) (upd H a (.lst vs')):=by
 have hi:i < δ.length:=(Wl.mp e).1
 obtain ⟨a',ea',oa,ia,nb⟩:=k.own i _ e
 rw [ea] at ea'; cases ea'
 obtain ⟨vs,ha,_⟩:=oa
 have ownA:Own σ δ a:=⟨i,_,e,ea⟩
 have avA:Av c σ δ a:=.inr ownA
 have own_iff:∀ b,Own σ (δ.set i (some (.own (.lst ds')))) b ↔ Own σ δ b:=fun b=>by
  constructor
  ·rintro ⟨j,d,e1,e2⟩
   by_cases hj:i=j
   ·subst hj
    exact ⟨i,_,e,e2⟩
   ·rw [W9 hj] at e1
    exact ⟨j,d,e1,e2⟩
  ·rintro ⟨j,d,e1,e2⟩
   by_cases hj:i=j
   ·subst hj
    exact ⟨i,_,by rw [Wt hi],e2⟩
   ·exact ⟨j,d,by rw [W9 hj]; exact e1,e2⟩
 have av_iff:∀ b,Av c σ (δ.set i (some (.own (.lst ds')))) b→Av c σ δ b:=fun b z=>z.elim .inl fun z=>.inr ((own_iff b).mp z)
 have ne:∀ b,¬ Av c σ δ b→b≠a:=fun b n z=>n (by rw [z]; exact avA)
 have kp:∀ b o,H b=some o→¬ Av c σ δ b→upd H a (.lst vs') b=some o:=fun b o h n=>by rw [z06 (ne b n)]; exact h
 have hup:∀ b o,H b=some o→∃ o',upd H a (.lst vs') b=some o':=fun b o h=>by
  by_cases hb:b=a
  ·exact ⟨_,by rw [hb]; exact z0d⟩
  ·exact ⟨o,by rw [z06 hb]; exact h⟩
 refine ⟨⟨fun b o h n=>?_,fun b z=>?_,fun b z=>?_,by rw [QS]; exact k.len,fun j d h=>?_,fun j d h=>?_,fun j l b d d' h1 h2 h3 h4=>?_,k.pinned⟩,fun b o h n=>?_,fun b z=>.inl ((own_iff b).mp z),hup⟩
 ·have hb:b≠a:=fun z=>by
   subst z
   rcases ia with z | z
   ·exact n z
   ·rw [z] at h; cases h
  rw [z06 hb]
  exact k.keep b o h n
 ·obtain ⟨o,h⟩:=k.bd b z
  exact hup b o h
 ·obtain ⟨o,h⟩:=k.ith b z
  exact hup b o h
 ·have hj:i≠j:=fun z=>by subst z; rw [Wt hi] at h; cases h
  rw [W9 hj] at h
  obtain ⟨v,h1,h2⟩:=k.slot j d h
  exact ⟨v,h1,(h2.keep kp).anti fun b z=>.inl (av_iff b z)⟩
 ·by_cases hj:i=j
  ·subst hj
   rw [Wt hi] at h
   cases h
   exact ⟨a,ea,⟨vs',z0d,Reps.anti (Reps.keep r kp) fun b z=>.inl (av_iff b z)⟩,ia,nb⟩
  ·rw [W9 hj] at h
   obtain ⟨b,h1,h2,h3,h4⟩:=k.own j d h
   have hb:b≠a:=fun z=>by subst z; exact hj (k.inj i j b _ d e h ea h1)
   exact ⟨b,h1,(h2.keep kp fun o q=>by rw [z06 hb]; exact q).anti fun b z=>.inl (av_iff b z),h3,h4⟩
 ·have f1:∃ d,δ[j]? = some (some (.own d)):=by
   by_cases hj:i=j
   ·subst hj; exact ⟨_,e⟩
   ·rw [W9 hj] at h1; exact ⟨d,h1⟩
  have f2:∃ d,δ[l]? = some (some (.own d)):=by
   by_cases hj:i=l
   ·subst hj; exact ⟨_,e⟩
   ·rw [W9 hj] at h2; exact ⟨d',h2⟩
  obtain ⟨_,f1⟩:=f1
  obtain ⟨_,f2⟩:=f2
  exact k.inj j l b _ _ f1 f2 h3 h4
 ·have hb:b≠a:=fun z=>n (by rw [z]; exact ownA)
  rw [z06 hb]; exact h
def z2q (δ:Dl) (i:Nat):Bool:=match δ[i]? with
 | some (some (.own (.lst _)))=>true
 | _=>false
def putL (δ:Dl) (i:Nat) (f:List D→Option (List D)):Rs Fl:=match δ[i]? with
 | some (some (.own (.lst ds)))=>match f ds with
  | some ds'=>.ok .next (δ.set i (some (.own (.lst ds'))))
  | none=>.stuck
 | _=>.stuck
theorem z5W (h:z2q δ i=true):∃ ds,δ[i]? = some (some (.own (.lst ds))):=by
 unfold z2q at h
 split at h
 ·rename_i ds e; exact ⟨ds,e⟩
 ·cases h
theorem z5B {δ:Dl} {i:Nat} {g:List D→Option (List D)} {kk:Fl→Dl→Prop} (h:post c (putL δ i g) kk):∃ ds ds',δ[i]? = some (some (.own (.lst ds)))∧g ds=some ds'∧kk .next (δ.set i (some (.own (.lst ds')))):=by
 unfold putL at h
 split at h
 ·rename_i ds e
  split at h
  ·rename_i ds' e2
   exact ⟨ds,ds',e,e2,h⟩
  ·exact h.elim
 ·exact h.elim
def z0W (i:Nat) (f:DE):DS:=fun δ=>if z2q δ i then (f δ).bind fun r δ1=>putL δ1 i fun ds=>if ds.length < W7 then some (ds ++ [r.d]) else none else .stuck
theorem z81 {i:Nat} {o:Expr} {p0 apos cpos:Pos} (ho:PE X o (tVar i)) (he:SE X c e fe)
  (h:PS X (.Expr (.Call (.Attribute o "append" apos) [e] [] cpos) pos) (zc5 (tBM X.K "list" z8q (tVar i) (zc7 (tD c fe) tNil)))):SS X c (.Expr (.Call (.Attribute o "append" apos) [e] [] cpos) pos) (z0W i fe) :=
 PS.weak h fun D σ H ⟨δ,k,q⟩=>by
  unfold z0W z22 at q
  split at q
  ·rename_i hown
   obtain ⟨ds0,e0⟩:=z5W hown
   rw [z01] at q
   obtain ⟨a,ea,oa,_⟩:=k.own i _ e0
   refine ⟨.ref a,ea,?_,δ,k,z00 q fun r δ1 q1 v H1 a1 r1=>?_⟩
   ·obtain ⟨vs,ha,_⟩:=oa
    exact .inl ⟨rfl,vs,.of ha⟩
   ·obtain ⟨ds,ds',e1,e2,q2⟩:=z5B q1
    split at e2
    ·rename_i hz
     cases e2
     obtain ⟨a',ea',oa1,_⟩:=a1.ok.own i _ e1
     rw [ea] at ea'; cases ea'
     obtain ⟨vs,ha,ra⟩:=id oa1
     refine ⟨a,vs,v,rfl,rfl,ha,by rw [ra.1]; exact hz,?_⟩
     exact q2 σ _ (a1.trans (Ok.mutL a1.ok e1 ea (ra.append (.cons r1.rep .nil))))
    ·cases e2
  ·exact q.elim
def z7G (i:Nat) (fi:DE) (fe:DE):DS:=fun δ=>if z2q δ i then (fe δ).bind fun r δ1=>(fi δ1).bind fun k δ2=>match k with
 | .pure (.int j)=>putL δ2 i fun ds=>(ixN ds.length j).map fun n=>ds.set n r.d
 | _=>.stuck else .stuck
theorem z7Y {i:Nat} {o ix:Expr} {fi:DE} {sp:Pos} (ho:PE X o (tVar i)) (hi:SE X c ix fi) (he:SE X c e fe)
  (ha:∀ v,assign (.Subscript o ix sp) X.env v=(do
   let ov ← holding [v] (eval o X.env)
   let iv ← holding [v,ov] (eval ix X.env)
   standAt sp
   holding [v,ov,iv] (setItem ov iv v)
   release [v,ov,iv] []):=by intro _; rfl)
  (hs:swapsWithSole [.Subscript o ix sp] e pos.line X.env=pure false:=by rfl) (hw:swappedStores [.Subscript o ix sp] e X.env=pure none:=by rfl)
  (h1:(Q2 [.Subscript o ix sp] X.env).map (·.2)=[assign (.Subscript o ix sp) X.env]:=by rfl):SS X c (.Assign [.Subscript o ix sp] e pos) (z7G i fi fe) :=
 PS.weak (zaw he (zcI ho hi z9B ha) hs hw h1) fun D σ H ⟨δ,k,q⟩=>by
  unfold z7G z22 at q
  split at q
  ·rename_i hown
   obtain ⟨ds0,e0⟩:=z5W hown
   rw [z01] at q
   obtain ⟨a,ea,_,_⟩:=k.own i _ e0
   refine ⟨δ,k,z00 q fun r δ1 q1 v H1 a1 r1=>⟨.ref a,ea,δ1,a1.ok,?_⟩⟩
   rw [z01] at q1
   refine z00 q1 fun kx δ2 q2 u H2 a2 r2=>?_
   cases kx with
   | own d=>exact q2.elim
   | pure d =>
    cases d <;> first | exact q2.elim | skip
    rename_i j
    cases r2
    obtain ⟨ds,ds',e1,e2,q3⟩:=z5B q2
    cases e3:ixN ds.length j with
    | none=>rw [e3] at e2; cases e2
    | some n =>
     rw [e3] at e2
     cases e2
     obtain ⟨a',ea',oa1,_⟩:=a2.ok.own i _ e1
     rw [ea] at ea'; cases ea'
     obtain ⟨vs,ha,ra⟩:=id oa1
     refine ⟨a,vs,j,n,rfl,rfl,ha,by rw [ra.1]; exact e3,?_⟩
     exact q3 σ _ (a1.trans (a2.trans (Ok.mutL a2.ok e1 ea (ra.set (Rep.aft r1.rep a2) n))))
  ·exact q.elim
end
abbrev DI:=Dl→Rs (List D)
def ItOk (c:Fc) (σ:St) (δ:Dl) (H:Hp) (J:It) (ds:List D):Prop:=∀ H2,(∀ a o,H a=some o→¬ Own σ δ a→H2 a=some o)→J.stop ds.length H2 ∧
 ∀ (i:Nat) d,ds[i]? = some d→J.go i H2∧∀ x H3,J.yld i H2 x H3→(H3=H2∧Rep H (Av c σ δ) x d) ∨
  ∃ p vs es,H2 p=none∧H3=upd H2 p (.tup vs)∧x = .ref p∧d = .tup es∧Reps H (Av c σ δ) vs es
def tI (c:Fc) (f:DI):TI:=fun σ H R=>∃ δ,Ok c σ δ H∧post c (f δ) fun ds δ'=>∀ J H',Aft c σ δ H σ δ' H'→ItOk c σ δ' H' J ds→R J H'
abbrev SI (X:Cx) (c:Fc) (tg iter:Expr) (f:DI):Prop:=PI X tg iter (tI c f)
theorem PI.weak (h:PI X tg iter t) (w:∀ σ H R,t' σ H R→t σ H R):PI X tg iter t':=fun pins s σ H R I q=>h pins s σ H R I (w σ H R q)
section
variable {X:Cx} {c:Fc} {tg e:Expr} {fe:DE} {pos pp:Pos}
theorem zdo (K:W2) (h:H a=some (.tup vs)) (n:¬ Own σ δ a) (r:Reps H (Av c σ δ) vs ds):ItOk c σ δ H (Itt K a) ds:=by
 intro H2 kp
 have h2:=kp a _ h n
 refine ⟨⟨vs,.of h2,by rw [r.1]; exact Wb _⟩,fun i d e=>?_⟩
 obtain ⟨v,ev,rv⟩:=r.get e
 refine ⟨⟨vs,v,.of h2,ev⟩,fun x H3 ⟨e3,y⟩=>.inl ⟨e3,?_⟩⟩
 have:=y vs (.of h2)
 rw [ev] at this
 cases this
 exact rv
def z0k (lo:Int) (n:Nat):List D:=(Wr n).map fun k:Nat=>D.int (lo + k)
theorem z4u {lo:Int} {n i:Nat} {d:D} (h:(z0k lo n)[i]? = some d):i < n∧d = .int (lo + i):=by
 unfold z0k at h
 rw [Wz] at h
 by_cases hi:i < n
 ·rw [J4 hi] at h
  simp at h
  exact ⟨hi,h.symm⟩
 ·rw [WJ (by simpa using hi)] at h
  cases h
theorem z7a (lo:Int) (n:Nat):ItOk c σ δ H (Itr lo n) (z0k lo n):=by
 intro H2 kp
 refine ⟨by show n≤(z0k lo n).length; simp [z0k],fun i d e=>?_⟩
 obtain ⟨hi,rfl⟩:=z4u e
 exact ⟨hi,fun x H3 ⟨e3,ex⟩=>.inl ⟨e3,by rw [ex]; exact .int _⟩⟩
def z4p (j:Int):Bool:=decide (-(2 ^ 62)≤j) && decide (j < 2 ^ 62)
def z0N (f:DE):DI:=fun δ=>(f δ).bind fun r δ1=>match r with
 | .pure (.int j)=>if z4p j then .ok (z0k 0 j.toNat) δ1 else .stuck
 | _=>.stuck
theorem z1K (hg:Gl X "range") (hm:X.mg "range" = none) (he:SE X c e fe) (hs:Wa [e] X.env=[(false,eval e X.env)]:=by rfl):SI X c tg (.Call (.Name "range" pp) [e] [] pos) (z0N fe) :=
 PI.weak (z8u hg hm (z0K he z1M hs) hs) fun σ H R ⟨δ,k,q⟩=>by
  unfold z0N at q
  rw [z01] at q
  refine ⟨δ,k,z00 q fun r δ1 q1 v H1 a1 r1=>?_⟩
  cases r with
  | own d=>exact q1.elim
  | pure d =>
   cases d <;> first | exact q1.elim | skip
   rename_i j
   cases r1
   simp only at q1
   split at q1
   ·rename_i hj
    unfold z4p at hj
    simp only [Ws,decide_eq_true_eq] at hj
    exact ⟨j,rfl,hj.1,hj.2,q1 _ H1 a1 (z7a 0 j.toNat)⟩
   ·exact q1.elim
def forL (g:DG) (b:DS):List D→DS
 | [],δ=>.ok .next δ
 | d :: r,δ=>match g (.pure d) δ with
  | none=>.stuck
  | some δ1=>(b δ1).bind fun fl δ2=>match fl with
   | .next=>forL g b r δ2
   | .cont=>forL g b r δ2
   | .brk=>.ok .next δ2
   | .ret v=>.ok (.ret v) δ2
def dFor (it:DI) (g:DG) (b:DS):DS:=fun δ=>(it δ).bind fun ds δ1=>forL g b ds δ1
theorem z6R (io:ItOk c σ δ H J ds) (a:Aft c σ δ H σ2 δ2 H2) (e:ds[i]? = some d) (y:J.yld i H2 x H3):Aft c σ2 δ2 H2 σ2 δ2 H3∧Rep H3 (Av c σ2 δ2) x d:=by
 obtain ⟨_,t⟩:=io H2 a.keep
 rcases (t i d e).2 x H3 y with ⟨e3,r⟩ | ⟨p,vs,es,hp,e3,ex,ed,r⟩
 ·subst e3
  exact ⟨.refl a.ok,Rep.aft r a⟩
 ·subst e3 ex ed
  have:=RepS.newT a.ok (Reps.aft r a) hp
  exact ⟨.alloc a.ok hp _,this⟩
theorem z2K {iter:Expr} {body:List Stmt} {it:DI} {g:DG} {b:DS} (hp:PassesOwn (model X.prog X.w) X.A X.env X.xe) (hc:X.calm=true) (hi:SI X c tg iter it) (hg:SG X c tg g) (hb:SSs X c body b)
  (hs:∀ x,QB iter X.env x=pure x:=by intro _; rfl):SS X c (.For tg iter body [] pos) (dFor it g b):=PS.weak (zcH hp hc hi hg hb hs) fun D σ H ⟨δ,k,q⟩=>by
 unfold dFor z22 at q
 rw [z01] at q
 refine ⟨δ,k,z00 q fun ds δ1 q1 J H1 a1 io=>?_⟩
 refine ⟨fun i m σ2 H2=>∃ δ2,m=ds.length - i∧i≤ds.length∧Aft c σ δ1 H1 σ2 δ2 H2∧z22 c D σ2 δ2 H2 (forL g b (ds.drop i) δ2),⟨ds.length,δ1,by simp,Qf _,.refl a1.ok,?_⟩,?_⟩
 ·rw [List.drop_zero]
  exact z00 q1 fun fl δ2 q2 σ2 H2 a2=>q2 σ2 H2 (a1.trans a2)
 ·rintro i m σ2 H2 ⟨δ2,rfl,hil,a2,p2⟩
  by_cases hlt:i < ds.length
  ·right
   have e:ds[i]? = some ds[i]:=by simp [hlt]
   rw [List.drop_eq_getElem_cons hlt] at p2
   refine ⟨((io H2 a2.keep).2 i _ e).1,fun σ4 H4=>∃ δ4,Aft c σ δ1 H1 σ4 δ4 H4∧z22 c D σ4 δ4 H4 (forL g b (ds.drop (i + 1)) δ4),fun σ4 H4 ⟨δ4,a4,p4⟩=>⟨ds.length - (i + 1),by omega,δ4,rfl,hlt,a4,p4⟩,fun x H3 y=>?_⟩
   obtain ⟨a3,r3⟩:=z6R io a2 e y
   simp only [forL,z22] at p2
   cases eg:g (.pure ds[i]) δ2 with
   | none=>rw [eg] at p2; exact p2.elim
   | some δ3 =>
    rw [eg] at p2
    refine ⟨σ2,δ2,H3,δ2,.pure ds[i],δ3,.refl a3.ok,r3,eg,fun σ3 a3'=>?_⟩
    have p3:post c ((b δ3).bind fun fl δ2=>match fl with
     | .next=>forL g b (ds.drop (i + 1)) δ2
     | .cont=>forL g b (ds.drop (i + 1)) δ2
     | .brk=>.ok .next δ2
     | .ret v=>.ok (.ret v) δ2) fun fl δ'=>∀ σ' H',Aft c σ2 δ2 H2 σ' δ' H'→fin c D σ' δ' H' fl:=p2
    rw [z01] at p3
    have a23:Aft c σ2 δ2 H2 σ3 δ3 H3:=a3.trans a3'
    refine ⟨δ3,a3'.ok,z00 p3 fun fl δ4 p4 σ4 H4 a4=>?_⟩
    have a24:=a23.trans a4
    cases fl with
    | next=>exact ⟨δ4,a2.trans a24,z00 p4 fun fl δ5 p5 σ5 H5 a5=>p5 σ5 H5 (a24.trans a5)⟩
    | cont=>exact ⟨δ4,a2.trans a24,z00 p4 fun fl δ5 p5 σ5 H5 a5=>p5 σ5 H5 (a24.trans a5)⟩
    | brk=>exact p4 σ4 H4 a24
    | ret r=>exact p4 σ4 H4 a24
  ·left
   have hi2:i=ds.length:=by omega
   subst hi2
   rw [List.drop_length] at p2
   exact ⟨(io H2 a2.keep).1,p2 σ2 H2 (.refl a2.ok)⟩
def z1H (t:DT) (b:DS):Nat→DS
 | 0,_=>.stuck
 | n + 1,δ=>(t δ).bind fun x δ1=>if x then (b δ1).bind fun fl δ2=>match fl with
   | .next=>z1H t b n δ2
   | .cont=>z1H t b n δ2
   | .brk=>.ok .next δ2
   | .ret v=>.ok (.ret v) δ2
  else .ok .next δ1
theorem z9A {e:Expr} {body:List Stmt} {t:DT} {b:DS} (n:Nat) (hw:∀ {tt:TT} {tb:TS},PT X e tt→PSs X body tb→PS X (.While e body [] pos) (zao tt tb)) (ht:ST X c e t) (hb:SSs X c body b):SS X c (.While e body [] pos) (z1H t b n) :=
 PS.weak (hw ht hb) fun D σ H ⟨δ,k,q⟩=>by
  refine ⟨fun m σ2 H2=>∃ δ2,Ok c σ2 δ2 H2∧z22 c D σ2 δ2 H2 (z1H t b m δ2),⟨n,δ,k,q⟩,?_⟩
  rintro m σ2 H2 ⟨δ2,k2,q2⟩
  cases m with
  | zero=>exact q2.elim
  | succ m =>
   simp only [z1H,z22] at q2
   rw [z01] at q2
   refine ⟨δ2,k2,z00 q2 fun x δ3 q3 H3 a3=>?_⟩
   cases x with
   | false=>exact q3 σ2 H3 a3
   | true =>
    have p3:post c ((b δ3).bind fun fl δ2=>match fl with
     | .next=>z1H t b m δ2
     | .cont=>z1H t b m δ2
     | .brk=>.ok .next δ2
     | .ret v=>.ok (.ret v) δ2) fun fl δ'=>∀ σ' H',Aft c σ2 δ2 H2 σ' δ' H'→fin c D σ' δ' H' fl:=q3
    rw [z01] at p3
    refine ⟨fun σ4 H4=>∃ δ4,Ok c σ4 δ4 H4∧z22 c D σ4 δ4 H4 (z1H t b m δ4),fun σ4 H4 w=>⟨m,Jn _,w⟩,δ3,a3.ok,z00 p3 fun fl δ4 p4 σ4 H4 a4=>?_⟩
    have a24:=a3.trans a4
    cases fl with
    | next=>exact ⟨δ4,a4.ok,z00 p4 fun fl δ5 p5 σ5 H5 a5=>p5 σ5 H5 (a24.trans a5)⟩
    | cont=>exact ⟨δ4,a4.ok,z00 p4 fun fl δ5 p5 σ5 H5 a5=>p5 σ5 H5 (a24.trans a5)⟩
    | brk=>exact p4 σ4 H4 a24
    | ret r=>exact p4 σ4 H4 a24
end
def clrD (cs:List Nat) (δ:Dl):Dl:=cs.foldl (fun δ i=>δ.set i none) δ
def z1r (cs:List Nat) (δ₁ δ:Dl):Dl:=cs.foldl (fun δ i=>match δ₁[i]? with | some o=>δ.set i o | none=>δ) δ
def z0C (δ:Dl) (i:Nat):Bool:=match δ[i]? with
 | some (some (.own _))=>true
 | _=>false
theorem z7m (cs:List Nat):∀ δ:Dl,(clrD cs δ).length=δ.length:=by
 induction cs with
 | nil=>intro δ; rfl
 | cons i r ih =>
  intro δ
  show (clrD r (δ.set i none)).length=_
  rw [ih]; simp
theorem z0T:∀ (cs:List Nat) (δ:Dl) (i:Nat) (v:S),(clrD cs δ)[i]? = some (some v)→δ[i]? = some (some v)∧i ∉ cs:=by
 intro cs
 induction cs with
 | nil=>intro δ i v h; exact ⟨h,by simp⟩
 | cons j r ih =>
  intro δ i v h
  have h':(clrD r (δ.set j none))[i]? = some (some v):=h
  obtain ⟨h1,h2⟩:=ih _ i v h'
  by_cases e:j=i
  ·subst e
   rw [WW] at h1
   simp at h1
  ·rw [W9 e] at h1
   exact ⟨h1,by simp only [Wf,not_or]; exact ⟨Ne.symm e,h2⟩⟩
theorem z1X:∀ (cs:List Nat) (σ:St) (i:Nat),i ∉ cs→(clr cs σ)[i]? = σ[i]?:=by
 intro cs
 induction cs with
 | nil=>intro σ i _; rfl
 | cons j r ih =>
  intro σ i h
  simp only [Wf,not_or] at h
  show (clr r (σ.set j none))[i]? = _
  rw [ih _ _ h.2,W9 (Ne.symm h.1)]
theorem zaf:∀ (cs:List Nat) (δ:Dl) (i:Nat),i ∉ cs→(clrD cs δ)[i]? = δ[i]?:=by
 intro cs
 induction cs with
 | nil=>intro σ i _; rfl
 | cons j r ih =>
  intro σ i h
  simp only [Wf,not_or] at h
  show (clrD r (σ.set j none))[i]? = _
  rw [ih _ _ h.2,W9 (Ne.symm h.1)]
theorem z9u (cs:List Nat) (δ₁:Dl):∀ δ:Dl,(z1r cs δ₁ δ).length=δ.length:=by
 induction cs with
 | nil=>intro δ; rfl
 | cons i r ih =>
  intro δ
  unfold z1r
  rw [Qz]
  have:=ih (match δ₁[i]? with | some o=>δ.set i o | none=>δ)
  unfold z1r at this
  rw [this]
  cases δ₁[i]? <;> simp
theorem z31:∀ (cs:List Nat) (δ₁ δ:Dl) (i:Nat),i ∉ cs→(z1r cs δ₁ δ)[i]? = δ[i]?:=by
 intro cs δ₁
 induction cs with
 | nil=>intro δ i _; rfl
 | cons j r ih =>
  intro δ i h
  simp only [Wf,not_or] at h
  unfold z1r
  rw [Qz]
  have:=ih (match δ₁[j]? with | some o=>δ.set j o | none=>δ) i h.2
  unfold z1r at this
  rw [this]
  cases δ₁[j]? with
  | none=>rfl
  | some o=>simp only; rw [W9 (Ne.symm h.1)]
theorem z5l:∀ (cs:List Nat) (δ₁ δ:Dl) (i:Nat),δ₁.length=δ.length→i ∈ cs→(z1r cs δ₁ δ)[i]? = δ₁[i]?:=by
 intro cs δ₁
 induction cs with
 | nil=>intro δ i _ h; simp at h
 | cons j r ih =>
  intro δ i hl h
  unfold z1r
  rw [Qz]
  have hl2:δ₁.length=(match δ₁[j]? with | some o=>δ.set j o | none=>δ).length:=by cases δ₁[j]? <;> simp [hl]
  by_cases hr:i ∈ r
  ·have:=ih (match δ₁[j]? with | some o=>δ.set j o | none=>δ) i hl2 hr
   unfold z1r at this
   exact this
  ·have e:i=j:=by
    rcases Wf.mp h with e | e
    ·exact e
    ·exact absurd e hr
   subst e
   have:=z31 r δ₁ (match δ₁[i]? with | some o=>δ.set i o | none=>δ) i hr
   unfold z1r at this
   rw [this]
   cases e:δ₁[i]? with
   | none =>
    simp only
    have:=List.getElem?_eq_none_iff.mp e
    exact WJ (by omega)
   | some o =>
    simp only
    have:=(Wl.mp e).1
    rw [Wt (by omega)]
section
variable {c:Fc} {σ:St} {δ δ':Dl} {H H':Hp} {l:Addr} {cs:List Nat}
theorem Ok.less (k:Ok (c.plus l) σ δ H):Ok c σ δ H:=by
 have sub:∀ b,Av c σ δ b→Av (c.plus l) σ δ b:=fun b z=>z.elim (fun z=>.inl (.inl z)) .inr
 refine ⟨k.keep,fun a z=>k.bd a (.inl z),k.ith,k.len,fun i d e=>?_,fun i d e=>?_,k.inj,k.pinned⟩
 ·obtain ⟨v,h1,h2⟩:=k.slot i d e
  exact ⟨v,h1,h2.anti fun b z=>.inl (sub b z)⟩
 ·obtain ⟨a,h1,h2,h3,h4⟩:=k.own i d e
  exact ⟨a,h1,h2.anti fun b z=>.inl (sub b z),h3,fun z=>h4 (.inl z)⟩
theorem Ok.updB (k:Ok c σ δ H) (hb:c.B l) (h0:c.H₀ l=none) (o:HO):Ok c σ δ (upd H l o):=by
 have kp:∀ b w,H b=some w→¬ Av c σ δ b→upd H l o b=some w:=fun b w e n=>by
  rw [z06 (fun z=>n (by rw [z]; exact .inl hb))]; exact e
 have hup:∀ b w,H b=some w→∃ w',upd H l o b=some w':=fun b w h=>by
  by_cases hb:b=l
  ·exact ⟨_,by rw [hb]; exact z0d⟩
  ·exact ⟨w,by rw [z06 hb]; exact h⟩
 refine ⟨fun a w e n=>?_,fun a z=>?_,fun a z=>?_,k.len,fun i d e=>?_,fun i d e=>?_,k.inj,k.pinned⟩
 ·have:a≠l:=fun z=>by rw [z,h0] at e; cases e
  rw [z06 this]; exact k.keep a w e n
 ·obtain ⟨w,e⟩:=k.bd a z; exact hup a w e
 ·obtain ⟨w,e⟩:=k.ith a z; exact hup a w e
 ·obtain ⟨v,h1,h2⟩:=k.slot i d e
  exact ⟨v,h1,h2.keep kp⟩
 ·obtain ⟨a,h1,h2,h3,h4⟩:=k.own i d e
  have:a≠l:=fun z=>h4 (by rw [z]; exact hb)
  exact ⟨a,h1,h2.keep kp fun w q=>by rw [z06 this]; exact q,h3,h4⟩
theorem Own.clr (h:Own (clr cs σ) (clrD cs δ) l):Own σ δ l:=by
 obtain ⟨i,d,e1,e2⟩:=h
 exact ⟨i,d,(z0T cs δ i _ e1).1,(z2d cs σ i _ e2).1⟩
theorem Ok.clr (k:Ok c σ δ H) (hp:∀ p ∈ c.pin,p.1 ∉ cs):Ok c (L2.clr cs σ) (clrD cs δ) H:=by
 have sub:∀ b,Av c (L2.clr cs σ) (clrD cs δ) b→Av c σ δ b:=fun b z=>z.elim .inl fun z=>.inr z.clr
 refine ⟨k.keep,k.bd,k.ith,by rw [z7m,z5j]; exact k.len,fun i d e=>?_,fun i d e=>?_,fun i j a d d' e1 e2 e3 e4=>?_,fun p hm=>?_⟩
 ·obtain ⟨e',hi⟩:=z0T cs δ i _ e
  obtain ⟨v,h1,h2⟩:=k.slot i d e'
  exact ⟨v,by rw [z1X cs σ i hi]; exact h1,h2.anti fun b z=>.inl (sub b z)⟩
 ·obtain ⟨e',hi⟩:=z0T cs δ i _ e
  obtain ⟨a,h1,h2,h3⟩:=k.own i d e'
  exact ⟨a,by rw [z1X cs σ i hi]; exact h1,h2.anti fun b z=>.inl (sub b z),h3⟩
 ·exact k.inj i j a d d' (z0T cs δ i _ e1).1 (z0T cs δ j _ e2).1 (z2d cs σ i _ e3).1 (z2d cs σ j _ e4).1
 ·rw [z1X cs σ _ (hp p hm)]; exact k.pinned p hm
theorem Aft.back (k:Ok c₀ σ δ H) (hpin:c.pin=c₀.pin) (hB:∀ b,c.B b→c₀.B b∨H b=none) (hno:cs.any (z0C δ)=false) (x:Aft c (L2.clr cs σ) (clrD cs δ) H (L2.clr cs σ) δ' H'):Aft c σ δ H σ (z1r cs δ δ') H':=by
 have len:δ.length=δ'.length:=by
  have:=x.ok.len
  rw [z5j] at this
  rw [this]; exact k.len
 have nown:∀ i d,i ∈ cs→δ[i]?≠some (some (.own d)):=fun i d hi e=>by
  have:=List.any_eq_false.mp hno i hi
  unfold z0C at this
  rw [e] at this
  simp at this
 have ownOut:∀ i d,(z1r cs δ δ')[i]? = some (some (.own d))→i ∉ cs∧δ'[i]? = some (some (.own d)):=fun i d e=>by
  by_cases hi:i ∈ cs
  ·rw [z5l cs δ δ' i len hi] at e
   exact absurd e (nown i d hi)
  ·rw [z31 cs δ δ' i hi] at e
   exact ⟨hi,e⟩
 have sub:∀ b,Own σ (z1r cs δ δ') b→Own (L2.clr cs σ) δ' b:=fun b ⟨i,d,e1,e2⟩=>by
  obtain ⟨hi,e⟩:=ownOut i d e1
  exact ⟨i,d,e,by rw [z1X cs σ i hi]; exact e2⟩
 have subA:∀ b,Av c σ (z1r cs δ δ') b→Av c (L2.clr cs σ) δ' b:=fun b z=>z.elim .inl fun z=>.inr (sub b z)
 have ownEq:∀ b,Own σ δ b→Own (L2.clr cs σ) (clrD cs δ) b:=fun b ⟨i,d,e1,e2⟩=>by
  have hi:i ∉ cs:=fun z=>nown i d z e1
  exact ⟨i,d,by rw [zaf cs δ i hi]; exact e1,by rw [z1X cs σ i hi]; exact e2⟩
 refine ⟨⟨x.ok.keep,x.ok.bd,x.ok.ith,by rw [z9u,← len]; exact k.len,fun i d e=>?_,fun i d e=>?_,fun i j a d d' e1 e2 e3 e4=>?_,by rw [hpin]; exact k.pinned⟩,fun a o e n=>?_,fun a z=>?_,x.there⟩
 ·by_cases hi:i ∈ cs
  ·rw [z5l cs δ δ' i len hi] at e
   obtain ⟨v,h1,h2⟩:=k.slot i d e
   have h3:Rep H (Av c (L2.clr cs σ) (clrD cs δ)) v d:=h2.anti fun b z=>by
    rcases z with z | z
    ·exact (hB b z).elim (fun z=>.inl (.inl z)) .inr
    ·exact .inl (.inr z.clr)
   exact ⟨v,h1,(Rep.aft h3 x).anti fun b z=>.inl (subA b z)⟩
  ·rw [z31 cs δ δ' i hi] at e
   obtain ⟨v,h1,h2⟩:=x.ok.slot i d e
   exact ⟨v,(z2d cs σ i v h1).1,h2.anti fun b z=>.inl (subA b z)⟩
 ·obtain ⟨hi,e'⟩:=ownOut i d e
  obtain ⟨a,h1,h2,h3⟩:=x.ok.own i d e'
  exact ⟨a,(z2d cs σ i _ h1).1,h2.anti fun b z=>.inl (subA b z),h3⟩
 ·obtain ⟨hi,f1⟩:=ownOut i d e1
  obtain ⟨hj,f2⟩:=ownOut j d' e2
  exact x.ok.inj i j a d d' f1 f2 (by rw [z1X cs σ i hi]; exact e3) (by rw [z1X cs σ j hj]; exact e4)
 ·exact x.keep a o e fun z=>n z.clr
 ·rcases x.own a (sub a z) with q | q
  ·exact .inl q.clr
  ·exact .inr q
end
def z1D (cs:List Nat) (g:DG) (t:DT) (el:DE):List D→Dl→List D→Rs (List D)
 | [],δ,acc=>.ok acc δ
 | d :: r,δ,acc=>match g (.pure d) δ with
  | none=>.stuck
  | some δ1=>(t δ1).bind fun b δ2=>if b then (el δ2).bind fun x δ3=>if acc.length < W7 then z1D cs g t el r (clrD cs δ3) (acc ++ [x.d]) else .stuck
   else z1D cs g t el r (clrD cs δ2) acc
def z1t (cs:List Nat) (it:DI) (g:DG) (t:DT) (el:DE):DE:=fun δ=>(it δ).bind fun ds δ1=>if cs.any (z0C δ1) then .stuck else
 (z1D cs g t el ds (clrD cs δ1) []).bind fun acc δ2=>.ok (.own (.lst acc)) (z1r cs δ1 δ2)
def dYes:DT:=fun δ=>.ok true δ
abbrev STs (X:Cx) (c:Fc) (ifs:List Expr) (t:DT):Prop:=PTs X ifs (tT c t)
theorem z1P {X:Cx} {c:Fc}:STs X c [] dYes:=fun pins s σ H Q I ⟨δ,k,q⟩=>zbf pins s σ H Q I (q H (.refl k))
section
variable {X:Cx} {c:Fc} {cs:List Nat} {tg iter elt:Expr} {ifs:List Expr} {scope:Scope} {pos:Pos} {it:DI} {g:DG} {t:DT} {el:DE}
theorem Aft.clear (x:Aft c (L2.clr cs σ) δ H σ4 δ4 H4) (le:Le (L2.clr cs σ) σ4) (hp:∀ p ∈ c.pin,p.1 ∉ cs) (hs:∀ (i:Nat) v,σ4[i]? = some (some v)→i ∉ cs→σ[i]? = some (some v)):Aft c (L2.clr cs σ) δ H (L2.clr cs σ) (clrD cs δ4) H4:=by
 have eq:∀ i,i ∉ cs→∀ v,σ4[i]? = some (some v)→(L2.clr cs σ)[i]? = some (some v):=fun i hi v e=>by rw [z1X cs σ i hi]; exact hs i v e hi
 have own:∀ b,Own (L2.clr cs σ) (clrD cs δ4) b→Own σ4 δ4 b:=fun b ⟨i,d,e1,e2⟩=>by
  exact ⟨i,d,(z0T cs δ4 i _ e1).1,le.2 i _ e2⟩
 have sub:∀ b,Av c (L2.clr cs σ) (clrD cs δ4) b→Av c σ4 δ4 b:=fun b z=>z.elim .inl fun z=>.inr (own b z)
 have k:=x.ok
 refine ⟨⟨k.keep,k.bd,k.ith,by rw [z7m,k.len]; exact le.1,fun i d e=>?_,fun i d e=>?_,fun i j a d d' e1 e2 e3 e4=>?_,fun p hm=>?_⟩,x.keep,fun a z=>x.own a (own a z),x.there⟩
 ·obtain ⟨e',hi⟩:=z0T cs δ4 i _ e
  obtain ⟨v,h1,h2⟩:=k.slot i d e'
  exact ⟨v,eq i hi v h1,h2.anti fun b z=>.inl (sub b z)⟩
 ·obtain ⟨e',hi⟩:=z0T cs δ4 i _ e
  obtain ⟨a,h1,h2,h3⟩:=k.own i d e'
  exact ⟨a,eq i hi _ h1,h2.anti fun b z=>.inl (sub b z),h3⟩
 ·exact k.inj i j a d d' (z0T cs δ4 i _ e1).1 (z0T cs δ4 j _ e2).1 (le.2 i _ e3) (le.2 j _ e4)
 ·exact eq p.1 (hp p hm) _ (k.pinned p hm)
def Out (cs:List Nat) (σ σ':St):Prop:=σ'.length=σ.length∧∀ i,i ∉ cs→σ'[i]? = σ[i]?
theorem Out.trans (a:Out cs σ σ') (b:Out cs σ' σ''):Out cs σ σ'':=⟨b.1.trans a.1,fun i h=>(b.2 i h).trans (a.2 i h)⟩
def tGC (cs:List Nat) (c:Fc) (g:DG):TG:=fun v σ H Q=>∃ σ₀ δ₀ H₁ δ r δ',Aft c σ₀ δ₀ H₁ σ δ H∧RepS c σ δ H₁ H v r∧g r δ=some δ'∧∀ σ',Aft c σ₀ δ₀ H₁ σ' δ' H→Out cs σ σ'→Q σ' H
abbrev SGC (X:Cx) (c:Fc) (cs:List Nat) (tg:Expr) (g:DG):Prop:=PG X tg (tGC cs c g)
theorem z13 {np:List Nat} {i:Nat} {x:Str} (hp:Np c np) (hN:X.N.Nodup) (hi:X.N[i]? = some x) (hx:Loc X.env.scope x) (hf:X.fn x=true∨X.env.scope.names.lookup x=some .local) (hc:i ∈ cs):SGC X c cs (.Name x pos) (gNm np i) :=
 PG.weak (z8w hN hi hx hf) fun v σ H Q ⟨σ₀,δ₀,H₁,δ,r,δ',x,rr,e,q⟩=>by
  unfold gNm at e
  split at e
  ·cases e
  ·rename_i hn
   cases e
   refine q _ (Ok.set x rr fun p hm e=>hn (by rw [← e]; exact hp p hm)) ⟨by simp,fun j hj=>?_⟩
   rw [W9 (fun z=>hj (by rw [← z]; exact hc))]
def tGCs (cs:List Nat) (c:Fc) (g:DGs):TGs:=fun vs σ H Q=>∃ δ ds δ',Ok c σ δ H∧Reps H (Av c σ δ) vs ds∧g ds δ=some δ'∧∀ σ',Aft c σ δ H σ' δ' H→Out cs σ σ'→Q σ' H
abbrev SGCs (X:Cx) (c:Fc) (cs:List Nat) (tg:List Expr) (g:DGs):Prop:=PGs X tg (tGCs cs c g)
theorem z6W:SGCs X c cs [] z1W:=PGs.weak z8v fun vs σ H Q ⟨δ,ds,δ',k,r,e,q⟩=>by
 cases ds with
 | nil =>
  cases e
  have:vs=[]:=by have:=r.1; simpa using this
  exact ⟨this,q σ (.refl k) ⟨rfl,fun _ _=>rfl⟩⟩
 | cons d r=>cases e
theorem z2L {e:Expr} {es:List Expr} {g:DG} {gs:DGs} (h1:SGC X c cs e g) (h2:SGCs X c cs es gs) (hs:(Q2 (e :: es) X.env).map (·.2)=assign e X.env :: (Q2 es X.env).map (·.2):=by rfl):SGCs X c cs (e :: es) (z0u g gs) :=
 PGs.weak (z72 h1 h2 hs) fun vs σ H Q ⟨δ,ds,δ',k,r,e,q⟩=>by
  cases ds with
  | nil=>cases e
  | cons d ds =>
   cases vs with
   | nil=>have:=r.1; simp at this
   | cons v vs =>
    simp only [z0u] at e
    cases e1:g (.pure d) δ with
    | none=>rw [e1] at e; cases e
    | some δ1 =>
     rw [e1] at e
     refine ⟨v,vs,rfl,σ,δ,H,δ,.pure d,δ1,.refl k,r.head,e1,fun σ1 a1 o1=>?_⟩
     exact ⟨δ1,ds,δ',a1.ok,Reps.aft r.tail a1,e,fun σ2 a2 o2=>q σ2 (a1.trans a2) (o1.trans o2)⟩
theorem z89 {es:List Expr} {k:Nat} {gs:DGs} {n:Nat} (hc:X.calm=true) (h:SGCs X c cs es gs) (hn:(Q2 es X.env).length=n:=by rfl) (hst:(Q2 es X.env).findIdx? (·.1)=none:=by rfl) :
  SGC X c cs (.Tuple es k pos) (gTp n gs):=PG.weak (zax hc h hn hst) fun v σ H Q hw=>by
 obtain ⟨σ₀,δ₀,H₁,δ,r,δ',x,rr,e,q⟩:=hw
 have hb:=rr.b
 unfold gTp at e
 generalize r.d=d at e hb
 cases d <;> first | (cases e; done) | skip
 rename_i ds
 simp only at e
 split at e
 ·rename_i hl
  obtain ⟨a,vs,ea,ha,ra⟩:=hb.tup
  exact ⟨a,vs,ea,.of ha,by rw [ra.1]; exact hl,δ,ds,δ',x.ok,ra,e,fun σ' a1 o1=>q σ' (x.trans a1) o1⟩
 ·cases e
theorem Aft.less (x:Aft (c.plus l) σ δ H σ' δ' H'):Aft c σ δ H σ' δ' H':=⟨x.ok.less,x.keep,x.own,x.there⟩
theorem z67 (hwi:∀ σ H R,tI c it σ H R→wi σ H R) (hg:∀ l v σ H Q,tGC cs (c.plus l) g v σ H Q→gt v σ H Q) (ht:∀ l σ H Q,tT (c.plus l) t σ H Q→tt σ H Q) (he:∀ l σ H Q,tD (c.plus l) el σ H Q→te σ H Q)
  (hp:∀ p ∈ c.pin,p.1 ∉ cs) (h:tD c (z1t cs it g t el) σ H Q):zaT cs wi gt tt te σ H Q:=by
 obtain ⟨δ,k,q⟩:=h
 unfold z1t at q
 rw [z01] at q
 refine hwi _ _ _ ⟨δ,k,z00 q fun ds δ1 q1 J H1 a1 io=>?_⟩
 intro l hl
 split at q1
 ·exact q1.elim
 ·rename_i hno
  have hno':cs.any (z0C δ1)=false:=by simpa using hno
  rw [z01] at q1
  have k1:=a1.ok
  have kp:=k1.plus hl (.lst [])
  have k0:Ok (c.plus l) (L2.clr cs σ) (clrD cs δ1) (upd H1 l (.lst [])):=kp.clr hp
  have up:∀ a w,H1 a=some w→upd H1 l (.lst []) a=some w:=fun a w e=>by
   rw [z06 (z0j e hl)]; exact e
  have h0:c.H₀ l=none:=k1.fresh₀ hl
  -- the walked things,as the block sees them
  have io':ItOk (c.plus l) (L2.clr cs σ) (clrD cs δ1) H1 J ds:=by
   intro H2 kp2
   obtain ⟨s1,s2⟩:=io H2 fun a o e n=>kp2 a o e fun z=>n z.clr
   have cv:∀ {x:V} {d:D},Rep H1 (Av c σ δ1) x d→Rep H1 (Av (c.plus l) (L2.clr cs σ) (clrD cs δ1)) x d:=fun {x d} r =>
    r.anti fun b z=>by
     rcases z with (z | z) | z
     ·exact .inl (.inl z)
     ·exact .inr (by rw [z]; exact hl)
     ·exact .inl (.inr z.clr)
   refine ⟨s1,fun i d e=>⟨(s2 i d e).1,fun x H3 y=>?_⟩⟩
   rcases (s2 i d e).2 x H3 y with ⟨e3,r⟩ | ⟨p,vs,es,hp,e3,ex,ed,r⟩
   ·exact .inl ⟨e3,cv r⟩
   ·exact .inr ⟨p,vs,es,hp,e3,ex,ed,r.1,fun i v d e1 e2=>cv (r.2 i v d e1 e2)⟩
  let Fin:List D→Dl→Prop:=fun acc δ'=>∀ H' vs,Aft (c.plus l) (L2.clr cs σ) (clrD cs δ1) H1 (L2.clr cs σ) δ' H'→H' l=some (.lst vs)→Reps H' (Av (c.plus l) (L2.clr cs σ) δ') vs acc→Q (.ref l) H'
  have q2:post c (z1D cs g t el ds (clrD cs δ1) []) Fin:=z00 q1 fun acc δ2 q2 H' vs x hv r=>by
   have b1:Aft (c.plus l) σ δ1 H1 σ (z1r cs δ1 δ2) H':=Aft.back k1 rfl (fun b z=>z.elim .inl fun z=>.inr (by rw [z]; exact hl)) hno' x
   have b2:Aft c σ δ1 H1 σ (z1r cs δ1 δ2) H':=b1.less
   have len:δ1.length=δ2.length:=by
    have:=x.ok.len
    rw [z5j] at this
    rw [this]; exact k1.len
   have hlH:H l=none:=by
    cases e:H l with
    | none=>rfl
    | some o =>
     obtain ⟨o',e'⟩:=a1.there l o e
     rw [hl] at e'; cases e'
   refine q2 _ H' (a1.trans b2) ⟨l,rfl,⟨vs,hv,Reps.anti r fun b z=>.inl ?_⟩,fun z=>k1.nav hl (.inl z),h0,b1.ok,hlH⟩
   rcases z with z | ⟨i,d,e1,e2⟩
   ·exact .inl z
   ·have hi:i ∉ cs:=fun hi=>by
     rw [z5l cs δ1 δ2 i len hi] at e1
     have:=List.any_eq_false.mp hno' i hi
     unfold z0C at this
     rw [e1] at this
     simp at this
    rw [z31 cs δ1 δ2 i hi] at e1
    exact .inr ⟨i,d,e1,by rw [z1X cs σ i hi]; exact e2⟩
  refine ⟨fun i m H2=>∃ δ2 acc vs,m=ds.length - i∧i≤ds.length∧Aft (c.plus l) (L2.clr cs σ) (clrD cs δ1) H1 (L2.clr cs σ) δ2 H2∧H2 l=some (.lst vs)∧Reps H2 (Av (c.plus l) (L2.clr cs σ) δ2) vs acc ∧
   post c (z1D cs g t el (ds.drop i) δ2 acc) Fin,⟨ds.length,clrD cs δ1,[],[],by simp,Qf _,⟨k0,fun a w e _=>up a w e,fun a z=>.inl z,fun a w e=>⟨w,up a w e⟩⟩,z0d,.nil,by rw [List.drop_zero]; exact q2⟩,?_⟩
  rintro i m H2 ⟨δ2,acc,vs,rfl,hil,a2,hv,rv,p2⟩
  by_cases hlt:i < ds.length
  ·right
   have e:ds[i]? = some ds[i]:=by simp [hlt]
   rw [List.drop_eq_getElem_cons hlt] at p2
   refine ⟨((io' H2 a2.keep).2 i _ e).1,fun x H3 y=>hg l _ _ _ _ ?_⟩
   obtain ⟨a3,r3⟩:=z6R io' a2 e y
   simp only [z1D] at p2
   cases eg:g (.pure ds[i]) δ2 with
   | none=>rw [eg] at p2; exact p2.elim
   | some δ3 =>
    rw [eg] at p2
    have p3:post c ((t δ3).bind fun b δ2=>if b then (el δ2).bind fun x δ3=>if acc.length < W7 then z1D cs g t el (ds.drop (i + 1)) (clrD cs δ3) (acc ++ [x.d]) else .stuck
     else z1D cs g t el (ds.drop (i + 1)) (clrD cs δ2) acc) Fin:=p2
    refine ⟨L2.clr cs σ,δ2,H3,δ2,.pure ds[i],δ3,.refl a3.ok,r3,eg,fun σ4 a4 o4=>?_⟩
    have le:Le (L2.clr cs σ) σ4:=⟨o4.1,fun j v ej=>by
     rw [o4.2 j (z2d cs σ j v ej).2]; exact ej⟩
    have hs:∀ (j:Nat) v,σ4[j]? = some (some v)→j ∉ cs→σ[j]? = some (some v):=fun j v ej hj=>by
     rw [o4.2 j hj] at ej
     exact (z2d cs σ j v ej).1
    refine ⟨le,ht l _ _ _ ⟨δ3,a4.ok,?_⟩⟩
    rw [z01] at p3
    have pinp:∀ p ∈ (c.plus l).pin,p.1 ∉ cs:=hp
    have a24:=a2.trans (a3.trans a4)
    have ln:∀ {σ':St} {δ':Dl} {H':Hp},Ok (c.plus l) σ' δ' H'→¬ Own σ' δ' l:=fun {σ' δ' H'} k=>z2P k
    have p3':post (c.plus l) (t δ3) fun b δ5=>post c (if b then (el δ5).bind fun x δ3=>if acc.length < W7 then z1D cs g t el (ds.drop (i + 1)) (clrD cs δ3) (acc ++ [x.d]) else .stuck
     else z1D cs g t el (ds.drop (i + 1)) (clrD cs δ5) acc) Fin:=p3
    refine z00 p3' fun b δ5 p5 H5 a5=>?_
    have a25:=a24.trans a5
    have hv3:H3 l=some (.lst vs):=a3.keep l _ hv (ln a2.ok)
    have hv5:H5 l=some (.lst vs):=a5.keep l _ hv3 (ln a4.ok)
    have rv3:=Reps.aft (Reps.aft (Reps.aft rv a3) a4) a5
    cases b with
    | false =>
     have c5:=a25.clear le pinp hs
     refine ⟨ds.length - (i + 1),by omega,clrD cs δ5,acc,vs,rfl,hlt,c5,hv5,Reps.anti rv3 fun b z=>.inl ?_,p5⟩
     exact z.elim .inl fun ⟨j,d,e1,e2⟩=>.inr ⟨j,d,(z0T cs δ5 j _ e1).1,le.2 j _ e2⟩
    | true =>
     have p5':post c ((el δ5).bind fun x δ3=>if acc.length < W7 then z1D cs g t el (ds.drop (i + 1)) (clrD cs δ3) (acc ++ [x.d]) else .stuck) Fin:=p5
     rw [z01] at p5'
     refine he l _ _ _ ⟨δ5,a5.ok,?_⟩
     have p6:post (c.plus l) (el δ5) fun x δ6=>post c (if acc.length < W7 then z1D cs g t el (ds.drop (i + 1)) (clrD cs δ6) (acc ++ [x.d]) else .stuck) Fin:=p5'
     refine z00 p6 fun x δ6 p7 v H6 a6 r6=>?_
     split at p7
     ·rename_i hz
      have a26:=a25.trans a6
      have hv6:H6 l=some (.lst vs):=a6.keep l _ hv5 (ln a5.ok)
      have rv6:=Reps.aft rv3 a6
      have rr:Reps H6 (Av (c.plus l) σ4 δ6) (vs ++ [v]) (acc ++ [x.d]):=rv6.append (.cons r6.rep .nil)
      have c6:=a26.clear le pinp hs
      have kpl:∀ b o,H6 b=some o→¬ Av (c.plus l) σ4 δ6 b→upd H6 l (.lst (vs ++ [v])) b=some o:=fun b o e n=>by
       rw [z06 (fun z=>n (by rw [z]; exact .inl (.inr rfl)))]; exact e
      have sub6:∀ b,Av (c.plus l) (L2.clr cs σ) (clrD cs δ6) b→Av (c.plus l) σ4 δ6 b:=fun b z=>z.elim .inl fun ⟨j,d,e1,e2⟩=>.inr ⟨j,d,(z0T cs δ6 j _ e1).1,le.2 j _ e2⟩
      refine ⟨vs,ds.length - (i + 1),hv6,by rw [rv6.1]; exact hz,by omega,clrD cs δ6,acc ++ [x.d],vs ++ [v],rfl,hlt,?_,z0d,Reps.anti (Reps.keep rr kpl) fun b z=>.inl (sub6 b z),p7⟩
      -- the list that is built has grown
      refine ⟨c6.ok.updB (.inr rfl) h0 _,fun a o ea n=>?_,fun a z=>c6.own a z,fun a o ea=>?_⟩
      ·have hal:a≠l:=fun z=>by rw [z,hl] at ea; cases ea
       rw [z06 hal]; exact c6.keep a o ea n
      ·by_cases hal:a=l
       ·exact ⟨_,by rw [hal]; exact z0d⟩
       ·obtain ⟨o',e'⟩:=c6.there a o ea
        exact ⟨o',by rw [z06 hal]; exact e'⟩
     ·exact p7.elim
  ·left
   have hi2:i=ds.length:=by omega
   subst hi2
   rw [List.drop_length] at p2
   exact ⟨(io' H2 a2.keep).1,p2 H2 vs a2 hv rv⟩
theorem z2t (hc:X.calm=true) (S:CScope X scope cs) (hi:SI X c tg iter it) (hg:∀ l s₀ H₀ ex,SGC (z16 X scope s₀ H₀ ex) (c.plus l) cs tg g) (ht:∀ l s₀ H₀ ex,STs (z16 X scope s₀ H₀ ex) (c.plus l) ifs t)
  (he:∀ l s₀ H₀ ex,SE (z16 X scope s₀ H₀ ex) (c.plus l) elt el) (hp:∀ p ∈ c.pin,p.1 ∉ cs) (hs:∀ x,QB iter X.env x=pure x:=by intro _; rfl) :
  SE X c (.ListComp elt [⟨tg,iter,ifs,0⟩] scope pos) (z1t cs it g t el) :=
 PE.weak (zbp (g:=fun v σ H Q=>∃ l,tGC cs (c.plus l) g v σ H Q) (tt:=fun σ H Q=>∃ l,tT (c.plus l) t σ H Q) (te:=fun σ H Q=>∃ l,tD (c.plus l) el σ H Q) hc S hi
  (fun s₀ H₀ ex pins s σ H v u Q I r ⟨l,q⟩=>hg l s₀ H₀ ex pins s σ H v u Q I r q) (fun s₀ H₀ ex pins s σ H Q I ⟨l,q⟩=>ht l s₀ H₀ ex pins s σ H Q I q) (fun s₀ H₀ ex pins s σ H Q I ⟨l,q⟩=>he l s₀ H₀ ex pins s σ H Q I q) hs)
  fun σ H Q h=>z67 (fun _ _ _ h=>h) (fun l _ _ _ _ h=>⟨l,h⟩) (fun l _ _ _ h=>⟨l,h⟩) (fun l _ _ _ h=>⟨l,h⟩) hp h
theorem z4n {np:List Nat} {i:Nat} {y:Str} {py spos:Pos} (hnp:Np c np) (hc:X.calm=true) (S:CScope X scope cs) (hN:X.N.Nodup) (hi':X.N[i]? = some y) (hy:X.env.scope.names.lookup y=some .local)
  (hi:SI X c tg iter it) (hg:∀ l s₀ H₀ ex,SGC (z16 X scope s₀ H₀ ex) (c.plus l) cs tg g) (ht:∀ l s₀ H₀ ex,STs (z16 X scope s₀ H₀ ex) (c.plus l) ifs t)
  (he:∀ l s₀ H₀ ex,SE (z16 X scope s₀ H₀ ex) (c.plus l) elt el) (hp:∀ p ∈ c.pin,p.1 ∉ cs)
  (hsw:Ja (.ListComp elt [⟨tg,iter,ifs,0⟩] scope pos) (some (.Name y py)) spos.line X.env=pure true:=by rfl) (hs:∀ x,QB iter X.env x=pure x:=by intro _; rfl) :
  SS X c (.Assign [.Name y py] (.ListComp elt [⟨tg,iter,ifs,0⟩] scope pos) spos) (dAsg (z1t cs it g t el) (gNm np i)) :=
 PS.weak (z7t (g:=fun v σ H Q=>∃ l,tGC cs (c.plus l) g v σ H Q) (tt:=fun σ H Q=>∃ l,tT (c.plus l) t σ H Q) (te:=fun σ H Q=>∃ l,tD (c.plus l) el σ H Q) hc S hN hi' hy hi
  (fun s₀ H₀ ex pins s σ H v u Q I r ⟨l,q⟩=>hg l s₀ H₀ ex pins s σ H v u Q I r q) (fun s₀ H₀ ex pins s σ H Q I ⟨l,q⟩=>ht l s₀ H₀ ex pins s σ H Q I q) (fun s₀ H₀ ex pins s σ H Q I ⟨l,q⟩=>he l s₀ H₀ ex pins s σ H Q I q) hsw hs)
  fun D σ H h=>z5m (fun σ H Q h=>z67 (fun _ _ _ h=>h) (fun l _ _ _ _ h=>⟨l,h⟩) (fun l _ _ _ h=>⟨l,h⟩) (fun l _ _ _ h=>⟨l,h⟩) hp h) (fun _ _ _ _ h=>z56 hnp h) h
end
abbrev DF:=List S→Option (S×List S)
def z0q:Nat→List S→List V→List (Nat×Addr)
 | n,.own _ :: ss,.ref a :: vs=>(n,a) :: z0q (n + 1) ss vs
 | n,_ :: ss,_ :: vs=>z0q (n + 1) ss vs
 | _,_,_=>[]
theorem z19:∀ {n:Nat} {ss:List S} {vs:List V} {i:Nat} {a:Addr},(i,a) ∈ z0q n ss vs→∃ j d,i=n + j∧ss[j]? = some (.own d)∧vs[j]? = some (.ref a)
 | n,[],vs,i,a,h=>by simp [z0q] at h
 | n,s :: ss,[],i,a,h=>by cases s <;> simp [z0q] at h
 | n,s :: ss,v :: vs,i,a,h=>by
  have rec':(i,a) ∈ z0q (n + 1) ss vs→∃ j d,i=n + j∧(s :: ss)[j]? = some (.own d)∧(v :: vs)[j]? = some (.ref a):=fun h=>by
   obtain ⟨j,d,e,h1,h2⟩:=z19 h
   exact ⟨j + 1,d,by omega,by simpa using h1,by simpa using h2⟩
  cases s with
  | pure d=>exact rec' h
  | own d =>
   cases v with
   | ref b =>
    rcases Wf.mp h with e | h
    ·cases e
     exact ⟨0,d,rfl,rfl,rfl⟩
    ·exact rec' h
   | _=>exact rec' h
theorem z2R:∀ {n:Nat} {ss:List S} {vs:List V} {j:Nat} {d:D} {a:Addr},ss[j]? = some (.own d)→vs[j]? = some (.ref a)→(n + j,a) ∈ z0q n ss vs
 | n,[],vs,j,d,a,h,_=>by simp at h
 | n,s :: ss,[],j,d,a,_,h=>by simp at h
 | n,s :: ss,v :: vs,0,d,a,h1,h2=>by
  simp at h1 h2
  subst h1 h2
  exact Wg
 | n,s :: ss,v :: vs,j + 1,d,a,h1,h2=>by
  have ih:=z2R (n:=n + 1) (ss:=ss) (vs:=vs) (j:=j) (d:=d) (a:=a) (by simpa using h1) (by simpa using h2)
  have e:n + 1 + j=n + (j + 1):=by omega
  rw [e] at ih
  cases s with
  | pure d=>exact ih
  | own d =>
   cases v with
   | ref b=>exact Wd _ ih
   | _=>exact ih
abbrev z0S (vs:List V):St:=vs.map some
abbrev z0R (ss:List S):Dl:=ss.map some
theorem someS_get {ss:List S} {i:Nat} {r:S}:(z0R ss)[i]? = some (some r) ↔ ss[i]? = some r:=by
 rw [Wz]
 cases ss[i]? <;> simp
theorem some'_get {vs:List V} {i:Nat} {v:V}:(z0S vs)[i]? = some (some v) ↔ vs[i]? = some v:=by
 rw [Wz]
 cases vs[i]? <;> simp
def spD (n:Nat) (G:DF):Sp:=fun vs H Q _=>∃ ss B,vs.length=n∧Ok ⟨H,B,z0q 0 ss vs,fun _ _=>False⟩ (z0S vs) (z0R ss) H∧∃ r outs,G ss=some (r,outs) ∧
 ∀ v H',Aft ⟨H,B,z0q 0 ss vs,fun _ _=>False⟩ (z0S vs) (z0R ss) H (z0S vs) (z0R outs) H'→RepS ⟨H,B,z0q 0 ss vs,fun _ _=>False⟩ (z0S vs) (z0R outs) H H' v r→Q v H'
def KFn (P:We) (w:Wk) (K:W2) (mg:Str→Option Value) (base:Heap) (k:Nat) (x:Str) (n:Nat) (G:DF):Prop :=
 ∃ (f:Addr) (fd:WC) (ps:List Str),mg x=some (.ref f)∧Qk K (.ref f)=true∧Binds K fd ps []∧FnOk P w K mg base CX0 k f fd ps (spD n G)
def z0f (n:Nat) (ss:List S):Dl:=z0R ss ++ Wc (n - ss.length) none
def z0h:Nat→List S→Dl→Option (List S)
 | _,[],_=>some []
 | n,.pure d :: ss,δ=>(z0h (n + 1) ss δ).map (.pure d :: ·)
 | n,.own _ :: ss,δ=>match δ[n]? with
  | some (some (.own d'))=>(z0h (n + 1) ss δ).map (.own d' :: ·)
  | _=>none
def z0V:Fl→Option S
 | .next=>some (.pure .non)
 | .ret r=>some r
 | _=>none
def runD (f:DS) (n:Nat) (ss:List S):Option (S×List S):=match f (z0f n ss) with
 | .ok fl δ=>(z0V fl).bind fun r=>(z0h 0 ss δ).map fun outs=>(r,outs)
 | _=>none
def ioOk (np:List Nat):Nat→List S→Bool
 | _,[]=>true
 | n,.own _ :: ss=>np.contains n && ioOk np (n + 1) ss
 | n,.pure _ :: ss=>ioOk np (n + 1) ss
theorem z6E:∀ {n:Nat} {ss:List S} {j:Nat} {d:D},ioOk np n ss=true→ss[j]? = some (.own d)→np.contains (n + j)=true
 | n,[],j,d,_,h=>by simp at h
 | n,s :: ss,0,d,h,e=>by
  simp at e
  subst e
  simp only [ioOk,Ws] at h
  exact h.1
 | n,s :: ss,j + 1,d,h,e=>by
  have h':ioOk np (n + 1) ss=true:=by
   cases s with
   | pure d=>exact h
   | own d=>simp only [ioOk,Ws] at h; exact h.2
  have:=z6E (n:=n + 1) (j:=j) h' (by simpa using e)
  rw [show n + (j + 1)=n + 1 + j by omega]
  exact this
theorem z4V:∀ {n:Nat} {ss outs:List S} {δ:Dl},z0h n ss δ=some outs→outs.length=ss.length∧∀ (i:Nat) s,ss[i]? = some s→(∃ d,s = .pure d∧outs[i]? = some (.pure d))∨∃ d d',s = .own d∧δ[n + i]? = some (some (.own d'))∧outs[i]? = some (.own d')
 | n,[],outs,δ,h=>by
  simp only [z0h,W5] at h
  subst h
  exact ⟨rfl,fun i s e=>by simp at e⟩
 | n,.pure d :: ss,outs,δ,h=>by
  simp only [z0h] at h
  cases e:z0h (n + 1) ss δ with
  | none=>rw [e] at h; cases h
  | some os =>
   rw [e] at h
   simp only [WD,W5] at h
   subst h
   obtain ⟨h1,h2⟩:=z4V e
   refine ⟨by simp [h1],fun i s es=>?_⟩
   cases i with
   | zero=>simp at es; subst es; exact .inl ⟨d,rfl,rfl⟩
   | succ i =>
    rcases h2 i s (by simpa using es) with ⟨d,z1,z2⟩ | ⟨d,d',z1,z2,z3⟩
    ·exact .inl ⟨d,z1,by simpa using z2⟩
    ·exact .inr ⟨d,d',z1,by rw [show n + (i + 1)=n + 1 + i by omega]; exact z2,by simpa using z3⟩
 | n,.own d :: ss,outs,δ,h=>by
  simp only [z0h] at h
  split at h
  ·rename_i d' ed
   cases e:z0h (n + 1) ss δ with
   | none=>rw [e] at h; cases h
   | some os =>
    rw [e] at h
    simp only [WD,W5] at h
    subst h
    obtain ⟨h1,h2⟩:=z4V e
    refine ⟨by simp [h1],fun i s es=>?_⟩
    cases i with
    | zero=>simp at es; subst es; exact .inr ⟨d,d',rfl,ed,rfl⟩
    | succ i =>
     rcases h2 i s (by simpa using es) with ⟨d,z1,z2⟩ | ⟨d,d',z1,z2,z3⟩
     ·exact .inl ⟨d,z1,by simpa using z2⟩
     ·exact .inr ⟨d,d',z1,by rw [show n + (i + 1)=n + 1 + i by omega]; exact z2,by simpa using z3⟩
  ·cases h
section
variable {c:Fc} {H H':Hp} {vs:List V} {ss outs:List S} {σ':St} {δ':Dl}
theorem z28 {α:Type} {l:List (Option α)} {k i:Nat} {v:α} (h:(l ++ Wc k none)[i]? = some (some v)):l[i]? = some (some v):=by
 by_cases hi:i < l.length
 ·rw [List.getElem?_append_left hi] at h; exact h
 ·rw [List.getElem?_append_right (by omega),List.getElem?_replicate] at h
  split at h <;> cases h
theorem z1V {α:Type} {l:List (Option α)} {k i:Nat} {v:α} (h:l[i]? = some (some v)):(l ++ Wc k none)[i]? = some (some v):=by
 have hi:i < l.length:=(Wl.mp h).1
 rw [List.getElem?_append_left hi]; exact h
theorem Own.ext {σ:St} {δ:Dl} {k:Nat} {a:Addr}:Own (σ ++ Wc k none) (δ ++ Wc k none) a ↔ Own σ δ a :=
 ⟨fun ⟨i,d,e1,e2⟩=>⟨i,d,z28 e1,z28 e2⟩,fun ⟨i,d,e1,e2⟩=>⟨i,d,z1V e1,z1V e2⟩⟩
theorem Ok.ext {σ:St} {δ:Dl} (k:Ok c σ δ H) (n:Nat):Ok c (σ ++ Wc n none) (δ ++ Wc n none) H:=by
 have sub:∀ b,Av c (σ ++ Wc n none) (δ ++ Wc n none) b→Av c σ δ b:=fun b z=>z.elim .inl fun z=>.inr (Own.ext.mp z)
 refine ⟨k.keep,k.bd,k.ith,by simp [k.len],fun i d e=>?_,fun i d e=>?_,fun i j a d d' e1 e2 e3 e4=>k.inj i j a d d' (z28 e1) (z28 e2) (z28 e3) (z28 e4),fun p hm=>z1V (k.pinned p hm)⟩
 ·obtain ⟨v,h1,h2⟩:=k.slot i d (z28 e)
  exact ⟨v,z1V h1,h2.anti fun b z=>.inl (sub b z)⟩
 ·obtain ⟨a,h1,h2,h3⟩:=k.own i d (z28 e)
  exact ⟨a,z1V h1,h2.anti fun b z=>.inl (sub b z),h3⟩
theorem z7C {B:Addr→Prop} {n:Nat} (hc:c = ⟨H,B,z0q 0 ss vs,fun _ _=>False⟩) (k:Ok c (z0S vs) (z0R ss) H) (x:Aft c (z0S vs ++ Wc n none) (z0R ss ++ Wc n none) H σ' δ' H') (ho:z0h 0 ss δ'=some outs) :
  Aft c (z0S vs) (z0R ss) H (z0S vs) (z0R outs) H'∧∀ v r,RepS c σ' δ' H H' v r→RepS c (z0S vs) (z0R outs) H H' v r:=by
 obtain ⟨hlen,hat⟩:=z4V ho
 have hvs:ss.length=vs.length:=by have:=k.len; simpa using this
 have pin:∀ (i:Nat) (a:Addr) (d:D),ss[i]? = some (.own d)→vs[i]? = some (.ref a)→σ'[i]? = some (some (.ref a)):=fun i a d h1 h2=>by
  have:=z2R (n:=0) h1 h2
  rw [J0] at this
  exact x.ok.pinned (i,a) (by rw [hc]; exact this)
 have ownS:∀ (i:Nat) (d:D),outs[i]? = some (.own d)→(∃ d₀,ss[i]? = some (.own d₀))∧δ'[i]? = some (some (.own d)):=fun i d e=>by
  have hi:i < ss.length:=by rw [← hlen]; exact (Wl.mp e).1
  rcases hat i ss[i] (by simp [hi]) with ⟨d₁,z1,z2⟩ | ⟨d₁,d',z1,z2,z3⟩
  ·rw [e] at z2; cases z2
  ·rw [e] at z3; cases z3
   rw [J0] at z2
   exact ⟨⟨d₁,by rw [Wo hi,z1]⟩,z2⟩
 have sub:∀ b,Own (z0S vs) (z0R outs) b→Own σ' δ' b:=fun b ⟨i,d,e1,e2⟩=>by
  obtain ⟨⟨d₀,h0⟩,h1⟩:=ownS i d (someS_get.mp e1)
  exact ⟨i,d,h1,pin i b d₀ h0 (some'_get.mp e2)⟩
 have subA:∀ b,Av c (z0S vs) (z0R outs) b→Av c σ' δ' b:=fun b z=>z.elim .inl fun z=>.inr (sub b z)
 have okO:∀ {c':Fc},c'.pin=c.pin→Ok c' σ' δ' H'→(∀ b,c.B b→c'.B b)→(∀ (i:Nat) d v,ss[i]? = some (.pure d)→vs[i]? = some v→Rep H' (Av c' σ' δ') v d)→Ok c' (z0S vs) (z0R outs) H':=fun {c'} ep k' hB hsl=>by
  have subA':∀ b,Av c' (z0S vs) (z0R outs) b→Av c' σ' δ' b:=fun b z=>z.elim .inl fun z=>.inr (sub b z)
  refine ⟨k'.keep,k'.bd,k'.ith,by simp [hlen,hvs],fun i d e=>?_,fun i d e=>?_,fun i j a d d' e1 e2 e3 e4=>?_,fun p hm=>?_⟩
  ·have e':=someS_get.mp e
   have hi:i < ss.length:=by rw [← hlen]; exact (Wl.mp e').1
   have hv:i < vs.length:=by omega
   rcases hat i ss[i] (by simp [hi]) with ⟨d₁,z1,z2⟩ | ⟨d₁,d',z1,z2,z3⟩
   ·rw [e'] at z2; cases z2
    exact ⟨vs[i],by simp [hv],(hsl i d vs[i] (by rw [Wo hi,z1]) (by simp [hv])).anti fun b z=>.inl (subA' b z)⟩
   ·rw [e'] at z3; cases z3
  ·have e':=someS_get.mp e
   obtain ⟨⟨d₀,h0⟩,h1⟩:=ownS i d e'
   obtain ⟨a₀,h2,_⟩:=k.own i d₀ (someS_get.mpr h0)
   obtain ⟨a,h3,h4,h5⟩:=k'.own i d h1
   rw [pin i a₀ d₀ h0 (some'_get.mp h2)] at h3
   cases h3
   exact ⟨a₀,h2,h4.anti fun b z=>.inl (subA' b z),h5⟩
  ·obtain ⟨⟨d₀,h0⟩,h1⟩:=ownS i d (someS_get.mp e1)
   obtain ⟨⟨d₁,h2⟩,h3⟩:=ownS j d' (someS_get.mp e2)
   exact k'.inj i j a d d' h1 h3 (pin i a d₀ h0 (some'_get.mp e3)) (pin j a d₁ h2 (some'_get.mp e4))
  ·exact k.pinned p (by rw [← ep]; exact hm)
 have slots:∀ (i:Nat) d v,ss[i]? = some (.pure d)→vs[i]? = some v→Rep H' (Av c σ' δ') v d:=fun i d v h1 h2=>by
  obtain ⟨w,e1,r⟩:=(k.ext n).slot i d (z1V (someS_get.mpr h1))
  rw [z1V (some'_get.mpr h2)] at e1
  cases e1
  exact Rep.aft r x
 refine ⟨⟨okO rfl x.ok (fun _ z=>z) slots,fun a o e m=>x.keep a o e fun z=>m (Own.ext.mp z),fun a z=>(x.own a (sub a z)).elim (fun z=>.inl (Own.ext.mp z)) .inr,x.there⟩,fun v r hr=>?_⟩
 cases r with
 | pure d=>exact Rep.anti hr fun b z=>.inl (subA b z)
 | own d =>
  obtain ⟨a,ea,o,nb,h0,kp,hs⟩:=hr
  refine ⟨a,ea,o.anti fun b z=>.inl (z.elim .inl fun z=>.inr (sub b z)),nb,h0,okO rfl kp (fun _ z=>.inl z) fun i d v h1 h2=>?_,hs⟩
  obtain ⟨w,e1,r⟩:=(k.ext n).slot i d (z1V (someS_get.mpr h1))
  rw [z1V (some'_get.mpr h2)] at e1
  cases e1
  have hHa:H a=none:=hs
  have r1:Rep H (Av c (z0S vs ++ Wc n none) (z0R ss ++ Wc n none)) v d:=r
  have r2:Rep H (fun b=>Av c (z0S vs ++ Wc n none) (z0R ss ++ Wc n none) b∨Av (c.plus a) σ' δ' b) v d:=r1.anti fun b z=>by
   rcases z with z | (z | z) | z
   ·exact .inl z
   ·exact .inl (.inl z)
   ·exact .inr (by rw [z]; exact hHa)
   ·rcases x.own b z with q | q
    ·exact .inl (.inr q)
    ·exact .inr q
  exact (r2.keep fun b o e m=>x.keep b o e fun z=>m (.inl (.inr z))).anti fun b z=>.inl (.inr z)
end
section
variable {P:We} {w:Wk} {K:W2} {mg:Str→Option Value} {base:Heap}
theorem fn_ok {x qual:Str} {st:Stmt} {f:Addr} {fd:WC} {N ps:List Str} {k:Nat} {np:List Nat} {fb:DS} {G:DF} (F:Fun K x qual st f fd) (S:FnScope N ps (z02 st))
  (hbody:∀ (c:Fc) (cdv:Value) (A:Wm) (outer:List Env) (s:W1) (H:Hp) (E:XK),Room k (A.deeper (QI qual (z02 st) s.heap.objs.size f cdv))→Np c np→SSs (cxOf CX0 P w K mg base N qual (z02 st) f cdv A outer s H E).nox c (z0v st) fb)
  (hG:∀ ss y,G ss=some y→ioOk np 0 ss=true∧runD fb N.length ss=some y):FnOk P w K mg base CX0 (k + 1) f fd ps (spD ps.length G):=by
 refine F.ok S (fun vs H Q E h=>?_) fun cdv A outer s H vs Q E hr h=>?_
 ·obtain ⟨ss,B,hl,_⟩:=h
  exact hl
 ·obtain ⟨ss,B,hl,ok,r,outs,hg,q⟩:=h
  obtain ⟨hio,hrun⟩:=hG ss _ hg
  have hvs:ss.length=vs.length:=by have:=ok.len; simpa using this
  have np':Np ⟨H,B,z0q 0 ss vs,fun _ _=>False⟩ np:=fun p hp=>by
   obtain ⟨j,d,e,h1,_⟩:=z19 (i:=p.1) (a:=p.2) hp
   rw [e]
   exact z6E hio h1
  refine ⟨tDS ⟨H,B,z0q 0 ss vs,fun _ _=>False⟩ fb,hbody ⟨H,B,z0q 0 ss vs,fun _ _=>False⟩ cdv A outer s H E hr np',?_⟩
  have hst:z1y N vs=z0S vs ++ Wc (N.length - ss.length) none:=by rw [hvs]; rfl
  refine ⟨z0f N.length ss,by rw [hst]; exact ok.ext _,?_⟩
  unfold runD at hrun
  unfold z22
  cases e:fb (z0f N.length ss) with
  | exc x δx=>rw [e] at hrun; cases hrun
  | stuck=>rw [e] at hrun; cases hrun
  | ok fl δ' =>
   rw [e] at hrun
   show ∀ σ' H',Aft _ (z1y N vs) (z0f N.length ss) H σ' δ' H'→fin _ _ σ' δ' H' fl
   intro σ' H' a
   rw [hst] at a
   simp only at hrun
   cases fl with
   | brk=>cases hrun
   | cont=>cases hrun
   | next =>
    simp only [z0V,WB] at hrun
    cases eo:z0h 0 ss δ' with
    | none=>rw [eo] at hrun; cases hrun
    | some os =>
     rw [eo] at hrun
     cases hrun
     obtain ⟨l1,l2⟩:=z7C rfl ok a eo
     exact q .non H' l1 .non
   | ret r' =>
    simp only [z0V,WB] at hrun
    cases eo:z0h 0 ss δ' with
    | none=>rw [eo] at hrun; cases hrun
    | some os =>
     rw [eo] at hrun
     cases hrun
     obtain ⟨l1,l2⟩:=z7C rfl ok a eo
     exact fun v rv=>q v H' l1 (l2 v _ rv)
theorem z1O {x qual:Str} {st:Stmt} {f:Addr} {fd:WC} {N ps:List Str} {k:Nat} {np:List Nat} {fb:DS} {G:DF} (F:Fun K x qual st f fd) (hm:mg x=some (.ref f)) (hb:Binds K fd ps []) (S:FnScope N ps (z02 st))
  (hbody:∀ (c:Fc) (cdv:Value) (A:Wm) (outer:List Env) (s:W1) (H:Hp) (E:XK),Room k (A.deeper (QI qual (z02 st) s.heap.objs.size f cdv))→Np c np→SSs (cxOf CX0 P w K mg base N qual (z02 st) f cdv A outer s H E).nox c (z0v st) fb)
  (hG:∀ ss y,G ss=some y→ioOk np 0 ss=true∧runD fb N.length ss=some y):KFn P w K mg base (k + 1) x ps.length G:=⟨f,fd,ps,hm,F.kp,hb,fn_ok F S hbody hG⟩
end
inductive Ak where
 | val (f:DE)
 | io (i:Nat)
def evX:List Ak→Dl→Rs (List (Option D))
 | [],δ=>.ok [] δ
 | .val f :: r,δ=>(f δ).bind fun x δ1=>(evX r δ1).bind fun xs δ2=>.ok (some x.d :: xs) δ2
 | .io _ :: r,δ=>(evX r δ).bind fun xs δ2=>.ok (none :: xs) δ2
inductive ArgR (c:Fc) (σ:St) (δ:Dl) (H:Hp):List V→List Ak→List (Option D)→Prop
 | nil:ArgR c σ δ H [] [] []
 | val {v:V} {d:D} {f:DE} {vs:List V} {as:List Ak} {ds:List (Option D)}:Rep H (Av c σ δ) v d→ArgR c σ δ H vs as ds→ArgR c σ δ H (v :: vs) (.val f :: as) (some d :: ds)
 | io {v:V} {i:Nat} {vs:List V} {as:List Ak} {ds:List (Option D)}:σ[i]? = some (some v)→ArgR c σ δ H vs as ds→ArgR c σ δ H (v :: vs) (.io i :: as) (none :: ds)
def tX (c:Fc) (as:List Ak):TA:=fun σ H Q=>∃ δ,Ok c σ δ H∧(∀ i,Ak.io i ∈ as→∃ v,σ[i]? = some (some v))∧post c (evX as δ) fun ds δ'=>∀ vs H',Aft c σ δ H σ δ' H'→ArgR c σ δ' H' vs as ds→Q vs H'
abbrev SX (X:Cx) (c:Fc) (es:List Expr) (as:List Ak):Prop:=PA X es (tX c as)
section
variable {X:Cx} {c:Fc} {e:Expr} {es:List Expr} {fe:DE} {as:List Ak} {pos pp:Pos}
theorem z0t:SX X c [] []:=PA.weak z1M fun σ H Q ⟨δ,k,_,q⟩=>q [] H (.refl k) .nil
theorem zc9 (ha:SE X c e fe) (hr:SX X c es as) (hs:Wa (e :: es) X.env=(false,eval e X.env) :: Wa es X.env:=by rfl):SX X c (e :: es) (.val fe :: as):=PA.weak (z0K ha hr hs) fun σ H Q ⟨δ,k,hio,q⟩=>by
 unfold evX at q
 rw [z01] at q
 refine ⟨δ,k,z00 q fun x δ1 q1 v H1 a1 r1=>⟨δ1,a1.ok,fun i hi=>hio i (Wd _ hi),?_⟩⟩
 rw [z01] at q1
 exact z00 q1 fun xs δ2 q2 vs H2 a2 r2=>q2 (v :: vs) H2 (a1.trans a2) (.val (Rep.aft r1.rep a2) r2)
theorem sx_io (ha:PE X e (tVar i)) (hr:SX X c es as) (hs:Wa (e :: es) X.env=(false,eval e X.env) :: Wa es X.env:=by rfl):SX X c (e :: es) (.io i :: as):=PA.weak (z0K ha hr hs) fun σ H Q ⟨δ,k,hio,q⟩=>by
 obtain ⟨v,ev⟩:=hio i Wg
 unfold evX at q
 rw [z01] at q
 exact ⟨v,ev,δ,k,fun i hi=>hio i (Wd _ hi),z00 q fun xs δ2 q2 vs H2 a2 r2=>q2 (v :: vs) H2 a2 (.io ev r2)⟩
end
def mkA:List Ak→List (Option D)→Dl→Option (List S)
 | [],[],_=>some []
 | .val _ :: as,some d :: ds,δ=>(mkA as ds δ).map (.pure d :: ·)
 | .io i :: as,none :: ds,δ=>match δ[i]? with
  | some (some (.own d))=>(mkA as ds δ).map (.own d :: ·)
  | _=>none
 | _,_,_=>none
def ios:List Ak→List Nat
 | []=>[]
 | .val _ :: as=>ios as
 | .io i :: as=>i :: ios as
def putA:List Ak→List S→Dl→Dl
 | .io i :: as,r :: rs,δ=>putA as rs (δ.set i (some r))
 | .val _ :: as,_ :: rs,δ=>putA as rs δ
 | _,_,δ=>δ
def ndup:List Nat→Bool
 | []=>true
 | i :: r=>!r.contains i && ndup r
def z07 (G:DF) (as:List Ak):DE:=fun δ=>if (ios as).all (z0C δ) && ndup (ios as) then (evX as δ).bind fun ds δ1=>match mkA as ds δ1 with
  | none=>.stuck
  | some ss=>match G ss with
   | none=>.stuck
   | some (r,outs)=>.ok r (putA as outs δ1)
 else .stuck
theorem z4w:∀ {l:List Nat},ndup l=true→l.Nodup
 | [],_=>.nil
 | i :: r,h=>by
  simp only [ndup,Ws,Bool.not_eq_true'] at h
  exact WI.mpr ⟨fun hm=>by have:=h.1; simp at this; exact this hm,z4w h.2⟩
theorem ios_mem:∀ {as:List Ak} {i:Nat},i ∈ ios as ↔ Ak.io i ∈ as
 | [],i=>by simp [ios]
 | .val f :: as,i=>by simp [ios,ios_mem (as:=as)]
 | .io j :: as,i=>by simp [ios,ios_mem (as:=as)]
theorem z8Y:∀ {as:List Ak} {i j k:Nat},(ios as).Nodup→as[j]? = some (.io i)→as[k]? = some (.io i)→j=k
 | [],i,j,k,_,h,_=>by simp at h
 | .val f :: as,i,j,k,nd,h1,h2=>by
  cases j with
  | zero=>simp at h1
  | succ j =>
   cases k with
   | zero=>simp at h2
   | succ k=>exact congrArg (· + 1) (z8Y (as:=as) nd (by simpa using h1) (by simpa using h2))
 | .io n :: as,i,j,k,nd,h1,h2=>by
  have nd':=WI.mp nd
  cases j with
  | zero =>
   simp at h1
   subst h1
   cases k with
   | zero=>rfl
   | succ k=>exact absurd (ios_mem.mpr (WR (by simpa using h2))) nd'.1
  | succ j =>
   cases k with
   | zero =>
    simp at h2
    subst h2
    exact absurd (ios_mem.mpr (WR (by simpa using h1))) nd'.1
   | succ k=>exact congrArg (· + 1) (z8Y (as:=as) nd'.2 (by simpa using h1) (by simpa using h2))
section
variable {c:Fc} {σ:St} {δ:Dl} {H:Hp} {vs:List V} {as:List Ak} {ds:List (Option D)} {ss:List S}
theorem z8M (h:ArgR c σ δ H vs as ds):∀ {ss:List S},mkA as ds δ=some ss→ss.length=vs.length∧as.length=vs.length∧∀ (j:Nat) s v,ss[j]? = some s→vs[j]? = some v →
  (∃ d f,s = .pure d∧as[j]? = some (.val f)∧Rep H (Av c σ δ) v d)∨∃ d i,s = .own d∧as[j]? = some (.io i)∧σ[i]? = some (some v)∧δ[i]? = some (some (.own d)):=by
 induction h with
 | nil =>
  intro ss h
  simp only [mkA,W5] at h
  subst h
  exact ⟨rfl,rfl,fun j s v e _=>by simp at e⟩
 | @val v d f vs as ds r _ ih =>
  intro ss h
  simp only [mkA] at h
  cases e:mkA as ds δ with
  | none=>rw [e] at h; cases h
  | some rs =>
   rw [e] at h
   simp only [WD,W5] at h
   subst h
   obtain ⟨h1,h2,h3⟩:=ih e
   refine ⟨by simp [h1],by simp [h2],fun j s v' e1 e2=>?_⟩
   cases j with
   | zero=>simp at e1 e2; subst e1 e2; exact .inl ⟨d,f,rfl,rfl,r⟩
   | succ j=>simpa using h3 j s v' (by simpa using e1) (by simpa using e2)
 | @io v i vs as ds ev _ ih =>
  intro ss h
  simp only [mkA] at h
  split at h
  ·rename_i d ed
   cases e:mkA as ds δ with
   | none=>rw [e] at h; cases h
   | some rs =>
    rw [e] at h
    simp only [WD,W5] at h
    subst h
    obtain ⟨h1,h2,h3⟩:=ih e
    refine ⟨by simp [h1],by simp [h2],fun j s v' e1 e2=>?_⟩
    cases j with
    | zero=>simp at e1 e2; subst e1 e2; exact .inr ⟨d,i,rfl,rfl,ev,ed⟩
    | succ j=>simpa using h3 j s v' (by simpa using e1) (by simpa using e2)
  ·cases h
theorem z4S:∀ (as:List Ak) (rs:List S) (δ:Dl),(putA as rs δ).length=δ.length
 | [],rs,δ=>by simp [putA]
 | .val f :: as,[],δ=>by simp [putA]
 | .io i :: as,[],δ=>by simp [putA]
 | .val f :: as,r :: rs,δ=>by simp [putA,z4S as rs δ]
 | .io i :: as,r :: rs,δ=>by simp [putA,z4S as rs]
theorem z2O:∀ (as:List Ak) (rs:List S) (δ:Dl) (i:Nat),i ∉ ios as→(putA as rs δ)[i]? = δ[i]?
 | [],rs,δ,i,_=>by simp [putA]
 | .val f :: as,[],δ,i,_=>by simp [putA]
 | .io j :: as,[],δ,i,_=>by simp [putA]
 | .val f :: as,r :: rs,δ,i,h=>by rw [putA]; exact z2O as rs δ i h
 | .io j :: as,r :: rs,δ,i,h=>by
  simp only [ios,Wf,not_or] at h
  rw [putA,z2O as rs _ i h.2,W9 (Ne.symm h.1)]
theorem z4T:∀ (as:List Ak) (rs:List S) (δ:Dl) (i j:Nat) (r:S),(ios as).Nodup→as[j]? = some (.io i)→rs[j]? = some r→i < δ.length→(putA as rs δ)[i]? = some (some r)
 | [],rs,δ,i,j,r,_,h,_,_=>by simp at h
 | a :: as,[],δ,i,j,r,_,_,h,_=>by simp at h
 | .val f :: as,r0 :: rs,δ,i,j,r,nd,h1,h2,hi=>by
  cases j with
  | zero=>simp at h1
  | succ j=>rw [putA]; exact z4T as rs δ i j r nd (by simpa using h1) (by simpa using h2) hi
 | .io k :: as,r0 :: rs,δ,i,j,r,nd,h1,h2,hi=>by
  have nd':=WI.mp nd
  cases j with
  | zero =>
   simp at h1 h2
   subst h1 h2
   rw [putA,z2O as rs _ k nd'.1,Wt hi]
  | succ j=>rw [putA]; exact z4T as rs _ i j r nd'.2 (by simpa using h1) (by simpa using h2) (by simpa using hi)
theorem zbQ (k:Ok c σ δ H) (hr:ArgR c σ δ H vs as ds) (hm:mkA as ds δ=some ss) (nd:(ios as).Nodup) :
  Ok ⟨H,fun a=>Av c σ δ a∧¬ ∃ (j:Nat) (d:D),ss[j]? = some (S.own d)∧vs[j]? = some (V.ref a),z0q 0 ss vs,fun _ _=>False⟩ (z0S vs) (z0R ss) H:=by
 obtain ⟨h1,h2,h3⟩:=z8M hr hm
 have at':∀ (j:Nat) s,ss[j]? = some s→∃ v,vs[j]? = some v:=fun j s e=>by
  have:j < vs.length:=by rw [← h1]; exact (Wl.mp e).1
  exact ⟨vs[j],by simp [this]⟩
 have ownE:∀ a,Own (z0S vs) (z0R ss) a ↔ ∃ (j:Nat) (d:D),ss[j]? = some (S.own d)∧vs[j]? = some (V.ref a):=fun a =>
  ⟨fun ⟨j,d,e1,e2⟩=>⟨j,d,someS_get.mp e1,some'_get.mp e2⟩,fun ⟨j,d,e1,e2⟩=>⟨j,d,someS_get.mpr e1,some'_get.mpr e2⟩⟩
 have own2:∀ a,Own (z0S vs) (z0R ss) a→Own σ δ a:=fun a z=>by
  obtain ⟨j,d,e1,e2⟩:=(ownE a).mp z
  rcases h3 j _ _ e1 e2 with ⟨d',f,e,_⟩ | ⟨d',i,e,_,es,ed⟩
  ·cases e
  ·exact ⟨i,d',ed,es⟩
 have sub:∀ a,Av ⟨H,fun a=>Av c σ δ a∧¬ ∃ (j:Nat) (d:D),ss[j]? = some (S.own d)∧vs[j]? = some (V.ref a),z0q 0 ss vs,fun _ _=>False⟩ (z0S vs) (z0R ss) a→Av c σ δ a:=fun a z=>z.elim (fun z=>z.1) fun z=>.inr (own2 a z)
 refine ⟨fun a o e _=>e,fun a z=>k.avthere z.1,fun a ⟨i,hi⟩=>?_,by simp [h1],fun j d e=>?_,fun j d e=>?_,fun i j a d d' e1 e2 e3 e4=>?_,fun p hp=>?_⟩
 ·obtain ⟨j,d,_,e1,e2⟩:=z19 hi
  exact k.othere (own2 a ((ownE a).mpr ⟨j,d,e1,e2⟩))
 ·have e':=someS_get.mp e
  obtain ⟨v,ev⟩:=at' j _ e'
  rcases h3 j _ v e' ev with ⟨d',f,e,_,r⟩ | ⟨d',i,e,_⟩
  ·cases e
   exact ⟨v,some'_get.mpr ev,r.anti fun b z=>.inl (sub b z)⟩
  ·cases e
 ·have e':=someS_get.mp e
  obtain ⟨v,ev⟩:=at' j _ e'
  rcases h3 j _ v e' ev with ⟨d',f,e,_,r⟩ | ⟨d',i,e,_,es,ed⟩
  ·cases e
  ·cases e
   obtain ⟨a,g1,g2,g3⟩:=k.own i d ed
   rw [es] at g1
   cases g1
   refine ⟨a,some'_get.mpr ev,g2.anti fun b z=>.inl (sub b z),.inl ⟨0 + j,z2R e' ev⟩,fun z=>z.2 ⟨j,d,e',ev⟩⟩
 ·have f1:=someS_get.mp e1
  have f2:=someS_get.mp e2
  rcases h3 i _ _ f1 (some'_get.mp e3) with ⟨_,_,e,_⟩ | ⟨d1,i1,e,a1,s1,x1⟩
  ·cases e
  ·rcases h3 j _ _ f2 (some'_get.mp e4) with ⟨_,_,e',_⟩ | ⟨d2,i2,e',a2,s2,x2⟩
   ·cases e'
   ·have:=k.inj i1 i2 a d1 d2 x1 x2 s1 s2
    subst this
    exact z8Y nd a1 a2
 ·obtain ⟨j,d,e,e1,e2⟩:=z19 (i:=p.1) (a:=p.2) hp
  rw [J0] at e
  rw [e]
  exact some'_get.mpr e2
theorem zah (k:Ok c σ δ H) (hr:ArgR c σ δ H vs as ds) (hm:mkA as ds δ=some ss) (nd:(ios as).Nodup) (hB:B=fun a=>Av c σ δ a∧¬ ∃ (j:Nat) (d:D),ss[j]? = some (S.own d)∧vs[j]? = some (V.ref a))
  (x:Aft ⟨H,B,z0q 0 ss vs,fun _ _=>False⟩ (z0S vs) (z0R ss) H (z0S vs) (z0R outs) H') (hio:∀ (j:Nat) d,ss[j]? = some (.own d)→∃ d',outs[j]? = some (.own d')) (hpo:∀ (j:Nat) d,ss[j]? = some (.pure d)→∃ d',outs[j]? = some (.pure d')) :
  Aft c σ δ H σ (putA as outs δ) H'∧∀ v r,RepS ⟨H,B,z0q 0 ss vs,fun _ _=>False⟩ (z0S vs) (z0R outs) H H' v r→RepS c σ (putA as outs δ) H H' v r:=by
 obtain ⟨h1,h2,h3⟩:=z8M hr hm
 have inIdx:∀ i,i ∈ ios as→∃ (j:Nat) (d:D) (a:Addr),as[j]? = some (.io i)∧ss[j]? = some (.own d)∧vs[j]? = some (.ref a)∧σ[i]? = some (some (.ref a))∧δ[i]? = some (some (.own d)):=fun i hi=>by
  obtain ⟨j,hj,ej⟩:=List.mem_iff_getElem.mp (ios_mem.mp hi)
  have hv:j < vs.length:=by omega
  have hs:j < ss.length:=by omega
  have ej':as[j]? = some (.io i):=by rw [Wo hj,ej]
  rcases h3 j ss[j] vs[j] (by simp [hs]) (by simp [hv]) with ⟨d,f,e,a1,_⟩ | ⟨d,i',e,a1,s1,x1⟩
  ·rw [ej'] at a1; cases a1
  ·rw [ej'] at a1; cases a1
   obtain ⟨a,g1,_⟩:=k.own i d x1
   rw [s1] at g1
   have g2:vs[j] = .ref a:=by
    have:=Ww g1
    exact Ww this
   exact ⟨j,d,a,ej',by rw [Wo hs,e],by rw [Wo hv,g2],by rw [s1,g2],x1⟩
 have passed:∀ a,(∃ (j:Nat) (d:D),ss[j]? = some (S.own d)∧vs[j]? = some (V.ref a))→Own σ δ a:=fun a ⟨j,d,e1,e2⟩=>by
  rcases h3 j _ _ e1 e2 with ⟨d',f,e,_⟩ | ⟨d',i,e,_,es,ed⟩
  ·cases e
  ·exact ⟨i,d',ed,es⟩
 have Iiff:∀ a,(⟨H,B,z0q 0 ss vs,fun _ _=>False⟩:Fc).I a ↔ ∃ (j:Nat) (d:D),ss[j]? = some (S.own d)∧vs[j]? = some (V.ref a):=fun a =>
  ⟨fun ⟨i,hi⟩=>by obtain ⟨j,d,_,e1,e2⟩:=z19 hi; exact ⟨j,d,e1,e2⟩,fun ⟨j,d,e1,e2⟩=>⟨0 + j,z2R e1 e2⟩⟩
 have ownIn:∀ a,Own (z0S vs) (z0R ss) a→∃ (j:Nat) (d:D),ss[j]? = some (S.own d)∧vs[j]? = some (V.ref a):=fun a ⟨j,d,e1,e2⟩=>⟨j,d,someS_get.mp e1,some'_get.mp e2⟩
 -- the owned addresses are the same
 have slotP:∀ (i:Nat) (d:D),(putA as outs δ)[i]? = some (some (.own d))→(i ∉ ios as∧δ[i]? = some (some (.own d)))∨(i ∈ ios as∧∃ (j:Nat) (d0:D) (a:Addr),as[j]? = some (.io i)∧ss[j]? = some (.own d0)∧vs[j]? = some (.ref a)∧σ[i]? = some (some (.ref a))∧outs[j]? = some (.own d)):=fun i d e=>by
  by_cases hi:i ∈ ios as
  ·right
   obtain ⟨j,d0,a,a1,a2,a3,a4,a5⟩:=inIdx i hi
   obtain ⟨d',ed'⟩:=hio j d0 a2
   have hlt:i < δ.length:=(Wl.mp a5).1
   have:=z4T as outs δ i j (.own d') nd a1 ed' hlt
   rw [e] at this
   cases this
   exact ⟨hi,j,d0,a,a1,a2,a3,a4,ed'⟩
  ·rw [z2O as outs δ i hi] at e
   exact .inl ⟨hi,e⟩
 have own_sub:∀ b,Own σ (putA as outs δ) b→Own σ δ b:=fun b ⟨i,d,e1,e2⟩=>by
  rcases slotP i d e1 with ⟨_,e⟩ | ⟨hi,j,d0,a,_,a2,a3,a4,_⟩
  ·exact ⟨i,d,e,e2⟩
  ·rw [e2] at a4
   have:b=a:=by injection (Ww (Ww a4))
   subst this
   exact passed b ⟨j,d0,a2,a3⟩
 have pureP:∀ (i:Nat) (d:D),(putA as outs δ)[i]? = some (some (.pure d))→i ∉ ios as∧δ[i]? = some (some (.pure d)):=fun i d e=>by
  by_cases hi:i ∈ ios as
  ·obtain ⟨j,d0,a,a1,a2,a3,a4,a5⟩:=inIdx i hi
   obtain ⟨d',ed'⟩:=hio j d0 a2
   have hlt:i < δ.length:=(Wl.mp a5).1
   have:=z4T as outs δ i j (.own d') nd a1 ed' hlt
   rw [e] at this
   cases this
  ·rw [z2O as outs δ i hi] at e
   exact ⟨hi,e⟩
 have kpAv:∀ a o,H a=some o→¬ Av c σ δ a→H' a=some o:=fun a o e n=>x.keep a o e fun z=>n (.inr (passed a (ownIn a z)))
 have subA:∀ b,Av c σ (putA as outs δ) b→Av c σ δ b:=fun b z=>z.elim .inl fun z=>.inr (own_sub b z)
 -- the callee's set holds ours
 have big:∀ {c':Fc},c'.B=B→∀ b,Av c σ δ b→Av c' (z0S vs) (z0R outs) b:=fun {c'} hB' b z=>by
  by_cases hp:∃ (j:Nat) (d:D),ss[j]? = some (S.own d)∧vs[j]? = some (V.ref b)
  ·obtain ⟨j,d,e1,e2⟩:=hp
   obtain ⟨d',ed'⟩:=hio j d e1
   exact .inr ⟨j,d',someS_get.mpr ed',some'_get.mpr e2⟩
  ·exact .inl (by rw [hB',hB]; exact ⟨z,hp⟩)
 have okc:∀ (c1 c2:Fc),c1.H₀=c.H₀→c1.pin=c.pin→(∀ b,c1.B b→c.B b∨(c2.B b∧H b=none))→c2.pin=z0q 0 ss vs→(∀ b,B b→c2.B b)→Ok c2 (z0S vs) (z0R outs) H'→(∀ b,c1.B b→∃ o,H' b=some o)→Ok c1 σ (putA as outs δ) H':=fun c1 c2 e0 e1 e2 e3 e4 k2 hex=>by
  have sub1:∀ b,Av c1 σ (putA as outs δ) b→Av c σ δ b∨H b=none:=fun b z=>by
   rcases z with z | z
   ·rcases e2 b z with z | ⟨_,z⟩
    ·exact .inl (.inl z)
    ·exact .inr z
   ·exact .inl (.inr (own_sub b z))
  have sub2:∀ b,Av c1 σ (putA as outs δ) b→Av c2 (z0S vs) (z0R outs) b:=fun b z=>by
   have bg:∀ b,Av c σ δ b→Av c2 (z0S vs) (z0R outs) b:=fun b z=>by
    by_cases hp:∃ (j:Nat) (d:D),ss[j]? = some (S.own d)∧vs[j]? = some (V.ref b)
    ·obtain ⟨j,d,e1,e2⟩:=hp
     obtain ⟨d',ed'⟩:=hio j d e1
     exact .inr ⟨j,d',someS_get.mpr ed',some'_get.mpr e2⟩
    ·exact .inl (e4 b (by rw [hB]; exact ⟨z,hp⟩))
   rcases z with z | z
   ·rcases e2 b z with z | ⟨z,_⟩
    ·exact bg b (.inl z)
    ·exact .inl z
   ·exact bg b (.inr (own_sub b z))
  have kp':∀ {v:V} {d:D},Rep H (Av c σ δ) v d→Rep H' (Av c1 σ (putA as outs δ)) v d:=fun {v d} r=>by
   have r1:Rep H (fun b=>Av c σ δ b∨Av c1 σ (putA as outs δ) b) v d:=r.anti fun b z=>z.elim .inl (sub1 b)
   exact (r1.keep fun b o e n=>kpAv b o e fun z=>n (.inl z)).anti fun b z=>.inl (.inr z)
  refine ⟨fun a o e n=>?_,hex,fun a z=>?_,by rw [z4S]; exact k.len,fun i d e=>?_,fun i d e=>?_,fun i j a d d' f1 f2 f3 f4=>?_,by rw [e1]; exact k.pinned⟩
  ·rw [e0] at e
   have n':¬ c.I a:=fun z=>n (by unfold Fc.I at z ⊢; rw [e1]; exact z)
   refine x.keep a o (k.keep a o e n') fun z=>?_
   obtain ⟨i,d,g1,g2⟩:=passed a (ownIn a z)
   obtain ⟨a',g3,_,g4,_⟩:=k.own i d g1
   rw [g2] at g3; cases g3
   rcases g4 with g4 | g4
   ·exact n' g4
   ·rw [g4] at e; cases e
  ·have z':c.I a:=by unfold Fc.I at z ⊢; rw [← e1]; exact z
   obtain ⟨o,e⟩:=k.ith a z'
   exact x.there a o e
  ·obtain ⟨hi,e'⟩:=pureP i d e
   obtain ⟨v,g1,g2⟩:=k.slot i d e'
   exact ⟨v,g1,kp' g2⟩
  ·rcases slotP i d e with ⟨hi,e'⟩ | ⟨hi,j,d0,a,b1,b2,b3,b4,b5⟩
   ·obtain ⟨a,g1,g2,g3,g4⟩:=k.own i d e'
    have na:¬ Own (z0S vs) (z0R ss) a:=fun z=>by
     obtain ⟨j,d1,q1,q2⟩:=ownIn a z
     rcases h3 j _ _ q1 q2 with ⟨d',f,ee,_⟩ | ⟨d',i',ee,ai,es,ed⟩
     ·cases ee
     ·have:=k.inj i i' a d d' e' ed g1 es
      subst this
      exact hi (ios_mem.mpr (WR ai))
    have g2':OwnAt H' (Av c1 σ (putA as outs δ)) a d:=by
     have o1:OwnAt H (fun b=>Av c σ δ b∨Av c1 σ (putA as outs δ) b) a d:=g2.anti fun b z=>z.elim .inl (sub1 b)
     exact (o1.keep (fun b o e n=>kpAv b o e fun z=>n (.inl z)) fun o e=>x.keep a o e na).anti fun b z=>.inl (.inr z)
    refine ⟨a,g1,g2',by unfold Fc.I at g3 ⊢; rw [e0,e1]; exact g3,fun z=>?_⟩
    rcases e2 a z with z | ⟨_,z⟩
    ·exact g4 z
    ·obtain ⟨o,eo⟩:=g2.some
     rw [z] at eo; cases eo
   ·obtain ⟨a',g1,g2,g3,g4⟩:=k2.own j d (someS_get.mpr b5)
    rw [some'_get.mpr b3] at g1
    cases g1
    obtain ⟨i0,d1,q1,q2⟩:=passed a ⟨j,d0,b2,b3⟩
    obtain ⟨a'',q3,q4,q5,q6⟩:=k.own i0 d1 q1
    rw [q2] at q3; cases q3
    refine ⟨a,b4,g2.anti fun b z=>.inl (sub2 b z),by unfold Fc.I at q5 ⊢; rw [e0,e1]; exact q5,fun z=>?_⟩
    rcases e2 a z with z | ⟨_,z⟩
    ·exact q6 z
    ·obtain ⟨o,eo⟩:=q4.some
     rw [z] at eo; cases eo
  ·obtain ⟨d1,g1⟩:∃ d1,δ[i]? = some (some (.own d1)):=by
    rcases slotP i d f1 with ⟨_,e'⟩ | ⟨hi,_⟩
    ·exact ⟨d,e'⟩
    ·obtain ⟨_,d1,_,_,_,_,_,a5⟩:=inIdx i hi
     exact ⟨d1,a5⟩
   obtain ⟨d2,g2⟩:∃ d2,δ[j]? = some (some (.own d2)):=by
    rcases slotP j d' f2 with ⟨_,e'⟩ | ⟨hi,_⟩
    ·exact ⟨d',e'⟩
    ·obtain ⟨_,d1,_,_,_,_,_,a5⟩:=inIdx j hi
     exact ⟨d1,a5⟩
   exact k.inj i j a d1 d2 g1 g2 f3 f4
 have ok1:Ok c σ (putA as outs δ) H':=okc c ⟨H,B,z0q 0 ss vs,fun _ _=>False⟩ rfl rfl (fun b z=>.inl z) rfl (fun b z=>z) x.ok fun b z=>by
  obtain ⟨o,e⟩:=k.bd b z
  exact x.there b o e
 refine ⟨⟨ok1,fun a o e n=>x.keep a o e fun z=>n (passed a (ownIn a z)),fun a z=>.inl (own_sub a z),x.there⟩,fun v r hr=>?_⟩
 cases r with
 | pure d=>exact Rep.anti hr fun b z=>.inl (big rfl b (subA b z))
 | own d =>
  obtain ⟨a,ea,o,nb,h0,kp,hs⟩:=hr
  have hHa:H a=none:=hs
  have nav:¬ Av c σ δ a:=k.nav hHa
  refine ⟨a,ea,o.anti fun b z=>.inl ?_,fun z=>nav (.inl z),k.fresh₀ hHa,?_,hHa⟩
  ·rcases z with (z | z) | z
   ·exact (big rfl b (.inl z)).elim (fun z=>.inl (.inl z)) .inr
   ·exact .inl (.inr z)
   ·exact (big rfl b (.inr (own_sub b z))).elim (fun z=>.inl (.inl z)) .inr
  ·refine okc (c.plus a) (Fc.plus ⟨H,B,z0q 0 ss vs,fun _ _=>False⟩ a) rfl rfl (fun b z=>?_) rfl (fun b z=>.inl z) kp fun b z=>?_
   ·rcases z with z | z
    ·exact .inl z
    ·exact .inr ⟨.inr z,by rw [z]; exact hHa⟩
   ·rcases z with z | z
    ·obtain ⟨o,e⟩:=k.bd b z
     exact x.there b o e
    ·rw [z]; exact o.some
end
def z1G (G:DF):Prop:=∀ ss r outs,G ss=some (r,outs)→outs.length=ss.length∧∀ (j:Nat),(∀ d,ss[j]? = some (.own d)→∃ d',outs[j]? = some (.own d'))∧∀ d,ss[j]? = some (.pure d)→∃ d',outs[j]? = some (.pure d')
theorem z7q (hG:∀ ss y,G ss=some y→runD fb n ss=some y):z1G G:=fun ss r outs h=>by
 have:=hG ss _ h
 unfold runD at this
 cases e:fb (z0f n ss) with
 | exc x δx=>rw [e] at this; cases this
 | stuck=>rw [e] at this; cases this
 | ok fl δ =>
  rw [e] at this
  simp only at this
  cases e1:z0V fl with
  | none=>rw [e1] at this; cases this
  | some r' =>
   rw [e1] at this
   simp only [WB] at this
   cases e2:z0h 0 ss δ with
   | none=>rw [e2] at this; cases this
   | some os =>
    rw [e2] at this
    cases this
    obtain ⟨h1,h2⟩:=z4V e2
    refine ⟨h1,fun j=>⟨fun d ed=>?_,fun d ed=>?_⟩⟩
    ·rcases h2 j _ ed with ⟨d',z,_⟩ | ⟨d',d'',_,_,z⟩
     ·cases z
     ·exact ⟨d'',z⟩
    ·rcases h2 j _ ed with ⟨d',z,z'⟩ | ⟨d',d'',z,_⟩
     ·exact ⟨d',z'⟩
     ·cases z
section
variable {X:Cx} {c:Fc} {e:Expr} {es:List Expr} {as:List Ak} {k n:Nat} {x:Str} {G:DF} {pp pos:Pos}
theorem z69 {ps:List Str} (hK:z1G G) {σ:St} {H:Hp} {Q:VK} (hl:as.length=n) (h:tD c (z07 G as) σ H Q):zc8 (spD n G) [] E0 (tX c as) σ H Q:=by
 obtain ⟨δ,kk,q⟩:=h
 unfold z07 at q
 split at q
 ·rename_i hc
  rw [Ws] at hc
  have nd:=z4w hc.2
  rw [z01] at q
  refine ⟨δ,kk,fun i hi=>?_,z00 q fun ds δ1 q1 vs H1 a1 r1=>?_⟩
  ·have:=QL.mp hc.1 i (ios_mem.mpr hi)
   unfold z0C at this
   split at this
   ·rename_i d ed
    exact z39 kk ed
   ·cases this
  ·cases em:mkA as ds δ1 with
   | none=>rw [em] at q1; exact q1.elim
   | some ss =>
    rw [em] at q1
    simp only at q1
    cases eg:G ss with
    | none=>rw [eg] at q1; exact q1.elim
    | some y =>
     obtain ⟨r,outs⟩:=y
     rw [eg] at q1
     have hin:=zbQ a1.ok r1 em nd
     obtain ⟨m1,m2,_⟩:=z8M r1 em
     obtain ⟨g1,g2⟩:=hK ss r outs eg
     refine ⟨ss,_,by rw [Qx,← m2]; exact hl,by rw [Qx]; exact hin,r,outs,eg,fun v H2 a2 r2=>?_⟩
     rw [Qx] at a2 r2
     obtain ⟨o1,o2⟩:=zah a1.ok r1 em nd rfl a2 (fun j d ed=>(g2 j).1 d ed) fun j d ed=>(g2 j).2 d ed
     exact q1 v H2 (a1.trans o1) (RepS.back (o2 v r r2) a1)
 ·exact q.elim
theorem z0l (F:KFn X.prog X.w X.K X.mg X.base k x n G) (hK:z1G G) (hr:Room k X.A) (hg:Gl X x) (ha:SX X c (e :: es) as) (hl:as.length=n) (hdb:(x == ("__debug__" : Str))=false:=by decide)
  (he:Wa (e :: es) X.env=(false,eval e X.env) :: Wa es X.env:=by rfl) (hpl:(Q8 pos (Wa es X.env)).any (·.1)=false:=by rfl):SE X c (.Call (.Name x pp) (e :: es) [] pos) (z07 G as):=by
 obtain ⟨f,fd,ps,hm,hk,hb,ok⟩:=F
 exact PE.weak (z8x ok hr hg hm hk hb .nil zcU ha hdb he hpl) fun σ H Q h=>z69 (ps:=ps) hK hl h
end
def gOf (np:List Nat) (n:Nat) (b:DS):DF:=fun ss=>if ioOk np 0 ss then runD b n ss else none
theorem z0O (h:gOf np n b ss=some y):ioOk np 0 ss=true∧runD b n ss=some y:=by
 unfold gOf at h
 split at h
 ·rename_i hi; exact ⟨hi,h⟩
 ·cases h
theorem z0r:z1G (gOf np n b):=z7q fun _ _ h=>(z0O h).2
theorem z23 (r:Room k A):A.units + 64 < Qh:=by have:=r.un; omega
theorem z2S {c:Fc} {np cs:List Nat} (h:Np c np) (hc:cs.all (fun i=>!np.contains i)=true):∀ p ∈ c.pin,p.1 ∉ cs:=fun p hp z=>by
 have h1:=h p hp
 have h2:=QL.mp hc p.1 z
 rw [h1] at h2
 cases h2
def ndS:List Str→Bool
 | []=>true
 | x :: r=>!r.contains x && ndS r
theorem zaB:∀ {l:List Str},ndS l=true→l.Nodup
 | [],_=>.nil
 | x :: r,h=>by
  simp only [ndS,Ws,Bool.not_eq_true'] at h
  exact WI.mpr ⟨fun hm=>by have:=h.1; simp at this; exact this hm,zaB h.2⟩
def z3c (names:List (Str×NameKind)) (x:Str) (k:NameKind):Bool:=match names.lookup x with
 | some j=>j == k
 | none=>false
theorem z53 (h:z3c names x k=true):names.lookup x=some k:=by
 unfold z3c at h
 split at h
 ·rename_i j e; rw [e,eq_of_beq h]
 ·cases h
def cscB (names:List (Str×NameKind)) (N:List Str) (sc:List (Str×NameKind)) (cs:List Nat):Bool :=
 sc.all (fun x=>!(x.2 == .local) || z3c sc x.1 .local) && sc.all (fun x=>!(x.2 == .free) || (z3c names x.1 .cell || z3c names x.1 .free)) && ndS (sc.map (·.1)) &&
 (Wr N.length).all fun i=>match N[i]? with
  | some x=>!(z3c sc x .local || z3c sc x .cell) || cs.contains i
  | none=>true
theorem z78 (h:names.lookup x=some k):z3c names x k=true:=by
 unfold z3c; rw [h]; simp
theorem z15 {X:Cx} {scope:Scope} {cs:List Nat} (hk:scope.kind = .function) (h:cscB X.env.scope.names X.N scope.names cs=true):CScope X scope cs:=by
 unfold cscB at h
 simp only [Ws] at h
 obtain ⟨⟨⟨h1,h2⟩,h3⟩,h4⟩:=h
 refine ⟨hk,fun x hx hl=>?_,fun x hx hf=>?_,zaB h3,fun i x hi hl=>?_⟩
 ·have:=QL.mp h1 x hx
  rw [hl] at this
  exact z53 (by simpa using this)
 ·have:=QL.mp h2 x hx
  rw [hf] at this
  have:z3c X.env.scope.names x.1 .cell=true∨z3c X.env.scope.names x.1 .free=true:=by simpa using this
  exact this.elim (fun z=>.inl (z53 z)) fun z=>.inr (z53 z)
 ·have hil:i < X.N.length:=(Wl.mp hi).1
  have:=QL.mp h4 i (List.mem_range.mpr hil)
  rw [hi] at this
  have hl':(z3c scope.names x .local || z3c scope.names x .cell)=true:=by
   rcases hl with z | z
   ·rw [z78 z]; rfl
   ·rw [z78 z]; simp
  simp only [hl',Bool.not_true,Bool.false_or] at this
  simpa using this
theorem zaQ {K:W2}:TyK K "int":=⟨rfl,rfl,rfl,rfl,rfl,rfl,rfl⟩
theorem z9y {K:W2}:TyK K "bool":=⟨rfl,rfl,rfl,rfl,rfl,rfl,rfl⟩
def z2z:Expr→Bool
 | .Starred ..=>false
 | _=>true
theorem z35 (h:z2z e=true):Wa (e :: es) env=(false,eval e env) :: Wa es env:=by
 cases e <;> first | (cases h; done) | rw [Wa] | rfl
 all_goals (intros; contradiction)
section
variable {X:Cx} {c:Fc} {e:Expr} {es:List Expr} {f fe:DE} {g:DA} {as:List Ak}
theorem z0m (ha:SE X c e f) (hr:SA X c es g) (hs:z2z e=true:=by rfl):SA X c (e :: es) (z0F f g):=z8h ha hr (z35 hs)
theorem z0b (ha:SE X c e fe) (hr:SX X c es as) (hs:z2z e=true:=by rfl):SX X c (e :: es) (.val fe :: as):=zc9 ha hr (z35 hs)
theorem z17 {i:Nat} (ha:PE X e (tVar i)) (hr:SX X c es as) (hs:z2z e=true:=by rfl):SX X c (e :: es) (.io i :: as):=sx_io ha hr (z35 hs)
end
mutual
def z2r:Nat→Expr→Option D
 | _,.Constant (.int i) _ _=>some (.int i)
 | _,.Constant (.bool b) _ _=>some (.bl b)
 | _,.Constant .none _ _=>some .non
 | _,.Constant (.str x) _ _=>some (.str x.cps.toList)
 | n + 1,.Tuple es _ _=>if es.length≤1000 then (z2D n es).map .tup else none
 | _,_=>none
def z2D:Nat→List Expr→Option (List D)
 | _,[]=>some []
 | n,e :: es=>match z2r n e,z2D n es with
  | some d,some ds=>some (d :: ds)
  | _,_=>none
end
theorem z7H:∀ {n:Nat} {e:Expr} {d:D},z2r n e=some d→z2z e=true:=fun {n e d} h=>by
 cases e <;> first | rfl | (cases n <;> simp [z2r] at h)
mutual
theorem z8d:∀ {n:Nat} {e:Expr} {d:D},z2r n e=some d→SE X c e (eD d)
 | _,.Constant (.int i) _ _,d,h=>by
  simp only [z2r,W5] at h; subst h; exact z05
 | _,.Constant (.bool b) _ _,d,h=>by
  simp only [z2r,W5] at h; subst h; exact z8f
 | _,.Constant .none _ _,d,h=>by
  simp only [z2r,W5] at h; subst h; exact z4r
 | _,.Constant (.str x) _ _,d,h=>by
  simp only [z2r,W5] at h; subst h; exact z8b _ (z7U x)
 | 0,.Tuple es k pos,d,h=>by simp [z2r] at h
 | n + 1,.Tuple es k pos,d,h=>by
  simp only [z2r] at h
  split at h
  ·rename_i hl
   cases e:z2D n es with
   | none=>rw [e] at h; cases h
   | some ds =>
    rw [e] at h
    simp only [WD,W5] at h
    subst h
    exact z2M (z3J e) hl
  ·cases h
theorem z3J:∀ {n:Nat} {es:List Expr} {ds:List D},z2D n es=some ds→SA X c es (fun δ=>.ok ds δ)
 | _,[],ds,h=>by
  simp only [z2D,W5] at h; subst h; exact z1k
 | n,e :: es,ds,h=>by
  simp only [z2D] at h
  split at h
  ·rename_i d ds' h1 h2
   cases h
   exact z8h (z8d h1) (z3J h2) (z35 (z7H h1))
  ·cases h
end
def zbL (ds:List D):DE:=fun δ=>.ok (.own (.lst ds)) δ
theorem z8c {X:Cx} {c:Fc} {es:List Expr} {ds:List D} {pos:Pos} (h:z2D 9 es=some ds) (hl:es.length≤1000):SE X c (.List es pos) (zbL ds):=z3G (z3J h) hl
section
variable {X:Cx} {c:Fc} {e:Expr} {fe:DE} {pos:Pos} {tg:Expr}
theorem z38 {i:Nat} {o:Expr} {apos cpos:Pos} (ho:PE X o (tVar i)) (he:SE X c e fe)
  (hbase:attributeBase o "append" X.env (eval o X.env)=eval o X.env:=by rfl)
  (hfew:((Q8 cpos (Wa [e] X.env)).all (fun x=>!x.1) && (backToKw cpos (Jk [] X.env)).all (fun x=>x.1.isSome)
   && decide ([e].length + ([]:List Keyword).length + (if ([]:List Keyword).isEmpty then 0 else 1) < 30))=true:=by rfl)
  (hline:(apos.endLine == cpos.line)=true:=by rfl) (hs:Wa [e] X.env=(false,eval e X.env) :: Wa [] X.env:=by rfl)
  (hsw:Ja (.Call (.Attribute o "append" apos) [e] [] cpos) none pos.line X.env=pure false:=by rfl):SS X c (.Expr (.Call (.Attribute o "append" apos) [e] [] cpos) pos) (z0W i fe) :=
 z81 (p0:=apos) ho he (zbi (zcS PySem.F.plainAttrs_list PySem.F.slot_list_append PySem.F.type_list_append z5Q ho (z0K he z1M hs) hbase hfew hline hs rfl) hsw)
end
def noL (K:W2):Bool:=K.all fun p=>match p.2.cls with
 | .type t=>!(t == "list")
 | _=>true
theorem zaC [BEq α] [LawfulBEq α]:∀ {K:List (α×β)} {a:α} {o:β},K.lookup a=some o→(a,o) ∈ K
 | [],a,o,e=>by simp at e
 | (b,o') :: r,a,o,e=>by
  rw [Q3] at e
  cases hb:a == b with
  | true =>
   rw [hb] at e
   have h1:o'=o:=Ww e
   have h2:a=b:=eq_of_beq hb
   rw [h1,h2]
   exact Wg
  | false =>
   rw [hb] at e
   exact Wd _ (zaC e)
theorem zaA {K:W2} {a:Addr} {o:Obj} (h:noL K=true) (e:K.lookup a=some o) (hc:o.cls = .type "list"):False:=by
 have hm:(a,o) ∈ (K:List (Addr×Obj)):=zaC e
 have h1:=QL.mp h (a,o) hm
 have h2:(match o.cls with | .type t=>!(t == "list") | _=>true)=true:=h1
 rw [hc] at h2
 have h3:(!(("list" : String) == "list"))=true:=h2
 rw [beq_self_eq_true] at h3
 cases h3
theorem zde {K:W2} {G:DF} {H:Hp} {a:Addr} {ns:List Int} {E:XK} (hK:noL K=true) (hS:SqL K H a (ns.map V.int)) (hG:∃ outs,G [.pure (.lst (ns.map .int))]=some (.pure (.bl true),outs)) :
  spD 1 G [.ref a] H (fun v _=>v = .bl true) E:=by
 have hR:Rd H a (.lst (ns.map V.int)):=by
  rcases hS with h | ⟨o,its,n,e,hc,_⟩
  ·exact h
  ·exact (zaA hK e hc).elim
 obtain ⟨outs,hg⟩:=hG
 have rep:∀ O:Addr→Prop,¬ O a→Rep H O (.ref a) (.lst (ns.map D.int)):=fun O hO=>.lst hO hR (by simp) fun i v d e1 e2=>by
  rw [Wz] at e1 e2
  cases e:ns[i]? with
  | none=>rw [e] at e1; cases e1
  | some k=>rw [e] at e1 e2; cases e1; cases e2; exact .int k
 refine ⟨[.pure (.lst (ns.map .int))],fun _=>False,rfl,⟨fun b o e _=>e,fun b z=>z.elim,fun b ⟨i,z⟩=>?_,rfl,fun i d e=>?_,fun i d e=>?_,fun i j b d d' e1 e2 e3 e4=>?_,fun p z=>?_⟩,_,outs,hg,fun v H' x r=>?_⟩
 ·simp [z0q] at z
 ·cases i with
  | zero =>
   simp at e
   subst e
   refine ⟨.ref a,rfl,rep _ fun z=>?_⟩
   rcases z with z | ⟨j,d',z1,z2⟩
   ·exact z
   ·cases j with
    | zero=>simp at z1
    | succ j=>simp at z1
  | succ i=>simp at e
 ·cases i with
  | zero=>simp at e
  | succ i=>simp at e
 ·cases i with
  | zero=>simp at e1
  | succ i=>simp at e1
 ·simp [z0q] at z
 ·cases r
  rfl
theorem walkD {l:Jp} {q:We} {loose:List Str} {XP:(Str→Option Value)→Heap→Prop} {YP:Wk→Heap→Prop} {d:DefRec} {K:Params→W2} {k:Nat} {G:DF} (hn:l.most=some 63) (hdf:d.params.defaults=[]) (hr:Room k callerA)
  (hY:∀ (w:Wk) (h:Heap),YP w h→(K w.params).In h) (hL:∀ p:Params,noL (K p)=true)
  (hG:∀ ns:List Int,ns.length≤63→∃ outs,G [.pure (.lst (ns.map .int))]=some (.pure (.bl true),outs))
  (F:∀ (w:Wk) (mg:Str→Option Value) (fa:Addr) (h:Heap),(K w.params).In h→h.Ns Wp mg→mg d.name=some (.ref fa) →
   ∃ fd:WC,(∀ (s:W1) (u:Value),BindsTo s fd ⟨[u],[]⟩ [("script",u)])∧∀ base:Heap,(K w.params).In base→base.Ns Wp mg→FnOk l.prog w (K w.params) mg base CX0 k fa fd ["script"] (spD 1 G)) :
  PySem.W.WalkO q loose XP YP l.row.toRowW d [] (fun f vs=>PySem.call f vs) :=
 L2.walk_of (n:=63) (k:=k) (x:="script") (CX:=fun _=>CX0) (sp:=fun _=>spD 1 G) hn (by decide) hdf hr hY F (fun w H a ns hl _ hS=>zde (hL w.params) hS (hG ns hl)) fun _ _ _ _ _ z=>z
end DV
set_option maxHeartbeats 400000
namespace L2
open PySem PySem.Spec PyProof.Rows
def Its (x:Str):It:=⟨fun i _=>i < x.cps.size,fun i H y H'=>H'=H∧∃ c,x.cps[i]? = some c∧y = .str ⟨#[c]⟩,fun i _=>i=x.cps.size⟩
theorem z9z {P:We} {w:Wk} {K:W2} {tg:Expr} (x:Str) (t:Tok) (it:Addr) (T:String) (hT:T = "str_ascii_iterator"∨T = "str_iterator"):Turn P w K tg (Its x) [it] it (fun i h=>h.IsStrIter it T x t i):=by
 have W:∀ A:Wm,A.handled=none→Walks P w A it [it] [it] x.cps.size (SignAt x) (fun i h=>h.IsStrIter it T x t i):=fun A hh=>by
  rcases hT with rfl | rfl
  ·exact Walks.strAscii hh it x t
  ·exact Walks.strWide hh it x t
 refine ⟨by simp,fun i h st b hb=>?_,fun i h h' st k=>?_,?_,?_,fun A i s Q E st h=>?_⟩
 ·have e:b=it:=by simpa using hb
  subst e
  obtain ⟨o,e,c,d⟩:=st
  exact ⟨o,e,fun v z=>by rw [d] at z; cases z⟩
 ·obtain ⟨o,e,r⟩:=st
  exact ⟨o,k it (by simp) o e,r⟩
 ·intro X hP hw hK hc i pins s σ H E I hf st hg
  subst hP hw hK
  obtain ⟨f0,f1,f2,f3,f4,f5⟩:=hf it (by simp)
  refine (W X.A (I.ok.hd hc)).item i s _ _ hg st fun v h' tk hv st' kk=>?_
  obtain ⟨c,u,hx,rfl⟩:=hv
  have I1:Inv X pins σ H { s with heap:=h',toks:=tk }:=I.turned (fun b o hb e=>kk b o (by simpa using hb) e) f0 f1 f3 f4 f5
  obtain ⟨o,e,c',d⟩:=id st'
  refine ⟨_,rfl,z91 (s:={ s with heap:=h',toks:=tk }) e c' d (by rcases hT with rfl | rfl <;> decide) ⟨.str ⟨#[c]⟩,H,I1,⟨u,rfl⟩,⟨rfl,c,hx,rfl⟩,st',fun b hb=>(hf b hb).1⟩⟩
 ·intro X hP hw hK hc i pins s σ H E I hf st hg
  subst hP hw hK
  have hg':i=x.cps.size:=hg
  subst hg'
  obtain ⟨f0,f1,f2,f3,f4,f5⟩:=hf it (by simp)
  exact (W X.A (I.ok.hd hc)).done s _ _ st fun h' tk eb=>⟨rfl,I.turned (fun b o hb e=>eb b o (by simpa using hb) e) f0 f1 f3 f4 f5⟩
 ·rcases hT with rfl | rfl
  ·exact wpAny_pyIter_striter_ascii st h
  ·exact wpAny_pyIter_striter_wide st h
end L2
namespace DV
open PySem PySem.Spec PyProof.Rows L2
section
variable {X:Cx} {c:Fc} {tg e:Expr} {fe:DE} {pos pp:Pos}
def iSeqS (K:W2) (tl:TE):TI:=fun σ H R=>tl σ H fun x H1=>(∃ a,x = .ref a∧(∃ xs,SqL K H1 a xs)∧R (Itl K a) H1)∨(∃ a,x = .ref a∧(∃ xs,SqT K H1 a xs)∧R (Itt K a) H1)∨∃ z,x = .str z∧R (Its z) H1
theorem zbn {l:Expr} {tl:TE} (hl:PE X l tl):PI X tg l (iSeqS X.K tl):=by
 intro pins s σ H R I h
 refine thn (hl pins s σ H _ I h) fun v s1 ⟨x,H1,I1,r1,q1⟩=>?_
 rcases q1 with q1 | q1 | ⟨z,e,q⟩
 ·obtain ⟨a,e,⟨xs,hq⟩,q⟩:=q1
  subst e
  cases r1
  obtain ⟨its,rv,p,hz⟩:=I1.list hq
  refine wpAny_pyIter_list p.isList ?_
  refine ⟨s1.heap.objs.size,[s1.heap.objs.size],_,_,H1,rfl,I1.kept (t':=s1.toks) fun b o e=>W3 _ e,z7S a _,⟨_,Wh _ rfl,rfl,rfl⟩,fun b hb=>?_,q⟩
  have e:b=s1.heap.objs.size:=by simpa using hb
  subst e
  exact I1.fpOk (Wb _) (I1.hok.fresh (Wb _))
 ·obtain ⟨a,e,⟨xs,hq⟩,q⟩:=q1
  subst e
  cases r1
  obtain ⟨its,rv,p,hz⟩:=I1.tuple hq
  refine wpAny_pyIter_tuple (show s1.heap.IsTuple a its.toArray from p) ?_
  refine ⟨s1.heap.objs.size,[s1.heap.objs.size],_,_,H1,rfl,I1.kept (t':=s1.toks) fun b o e=>W3 _ e,z7o a _,⟨_,Wh _ rfl,rfl,rfl⟩,fun b hb=>?_,q⟩
  have e:b=s1.heap.objs.size:=by simpa using hb
  subst e
  exact I1.fpOk (Wb _) (I1.hok.fresh (Wb _))
 ·subst e
  obtain ⟨t,rfl⟩:=r1
  refine wpAny_pyIter_strU ?_
  have hT:strIterType z = "str_ascii_iterator"∨strIterType z = "str_iterator":=by
   unfold strIterType
   split
   ·exact .inl rfl
   ·exact .inr rfl
  refine ⟨s1.heap.objs.size,[s1.heap.objs.size],_,_,H1,rfl,I1.kept (t':=s1.toks) fun b o e=>W3 _ e,z9z z t _ _ hT,⟨_,Wh _ rfl,rfl,rfl⟩,fun b hb=>?_,q⟩
  have e:b=s1.heap.objs.size:=by simpa using hb
  subst e
  exact I1.fpOk (Wb _) (I1.hok.fresh (Wb _))
theorem zdp (z:Tx):ItOk c σ δ H (Its (toS z)) (z.map fun n=>D.str [n]):=by
 intro H2 kp
 have hsz:(toS z).cps.size=z.length:=by simp [toS]
 refine ⟨by show (z.map _).length=_; rw [hsz]; simp,fun i d e=>?_⟩
 rw [Wz] at e
 cases ez:z[i]? with
 | none=>rw [ez] at e; cases e
 | some n =>
  rw [ez] at e
  cases e
  have hi:i < z.length:=(Wl.mp ez).1
  refine ⟨by show i < _; rw [hsz]; exact hi,fun x H3 ⟨e3,cc,hc,hx⟩=>.inl ⟨e3,?_⟩⟩
  have:(toS z).cps[i]? = z[i]?:=by simp [toS]
  rw [this,ez] at hc
  cases hc
  rw [hx]
  exact .str [n]
def iSq (f:DE):DI:=fun δ=>(f δ).bind fun r δ1=>match r.d with
 | .lst ds=>.ok ds δ1
 | .tup ds=>.ok ds δ1
 | .str x=>.ok (x.map fun n=>.str [n]) δ1
 | _=>.stuck
theorem z3F (he:SE X c e fe):SI X c tg e (iSq fe):=PI.weak (zbn he) fun σ H R ⟨δ,k,q⟩=>by
 unfold iSq at q
 rw [z01] at q
 refine ⟨δ,k,z00 q fun r δ1 q1 v H1 a1 r1=>?_⟩
 have rr:=r1.rep
 generalize r.d=d at q1 rr
 cases d <;> first | exact q1.elim | skip
 ·cases rr
  exact .inr (.inr ⟨_,rfl,q1 _ H1 a1 (zdp _)⟩)
 ·cases rr with
  | tup h1 h2 h3 h4=>exact .inr (.inl ⟨_,rfl,⟨_,.of h2⟩,q1 _ H1 a1 (zdo _ h2 (fun z=>h1 (.inr z)) ⟨h3,h4⟩)⟩)
 ·cases rr with
  | lst h1 h2 h3 h4 =>
   refine .inl ⟨_,rfl,⟨_,.inl h2⟩,q1 _ H1 a1 ?_⟩
   intro H2 kp
   rename_i a vs
   have h5:Rd H2 a (.lst vs):=Rd.keep h2 fun o e=>kp a o e fun z=>h1 (.inr z)
   have r':Reps H1 (Av c σ δ1) vs _:=⟨h3,h4⟩
   refine ⟨⟨vs,.inl h5,by rw [r'.1]; exact Wb _⟩,fun i d e=>?_⟩
   obtain ⟨v,ev,rv⟩:=r'.get e
   refine ⟨⟨vs,v,.inl h5,ev⟩,fun x H3 ⟨e3,y⟩=>.inl ⟨e3,?_⟩⟩
   have:=y vs (.inl h5)
   rw [ev] at this
   cases this
   exact rv
end
end DV
namespace L2
open PySem PySem.Spec PyProof.Rows
theorem z4i (a:Int) (t:Tok) (l:Addr) (dd:Option Addr) (items:Array Value) (n:Nat) (sl:Array (Option Value)) :
  Meets (Builtin.«int.__rmul__» ⟨[.int a t,.ref l],[]⟩) (fun _ R s=>s.heap.get? l=some { cls:=.type "tuple",dict:=dd,data:=.seq items n,slots:=sl }∧R (.ok (.ret Value.notImplemented)) s) :=
 .of_wp fun prog w A R s h=>by obtain ⟨hp,g,d,tk,os⟩:=s; obtain ⟨hl,h⟩:=h; wp_walk; exact ⟨_,rfl,h⟩
theorem z3n:fillsNumberSlot (.type "tuple") "mul" = pure false :=
 PySem.fillsNumberSlot_seq (id:="tuple.__mul__") (r:=some (.builtin "tuple.__rmul__")) F.slot_tuple_mul.lookup (by decide +kernel) F.slot_tuple_rmul.lookup (by decide +kernel)
theorem z5z:seqRepeat? (.type "tuple")=pure (some (.builtin "tuple.__mul__")):=by
 unfold seqRepeat?
 rw [PySem.seqSlot_of (T:="tuple") (name:="__mul__") (id:="tuple.__mul__") F.slot_tuple_mul.lookup (by decide +kernel),PySem.seqSlot_of (T:="tuple") (name:="__rmul__") (id:="tuple.__rmul__") F.slot_tuple_rmul.lookup (by decide +kernel)]
 rfl
theorem z4a (l:Addr) (dd:Option Addr) (items:Array Value) (n:Nat) (sl:Array (Option Value)) (x:Int) (u:Tok) (h1:¬ (decide (x < -(2 ^ 63)) || decide (x ≥ 2 ^ 63))=true) (h2:¬ (items.isEmpty || x == 1)=true) (h3:¬ (decide (x≤0) || items.isEmpty)=true) (h4:¬ items.size * x > (2 ^ 63 - 1) / 8) (h5:¬ Builtin.Tuple.tupleTooMany (items.size * x)=true) (h6:((Wc x.toNat items).foldl (· ++ ·) #[]).size≤W7) :
  Meets (Builtin.«tuple.__mul__» ⟨[.ref l,.int x u],[]⟩) (fun _ R s=>s.heap.get? l=some { cls:=.type "tuple",dict:=dd,data:=.seq items n,slots:=sl } ∧
   R (.ok (.ret (.ref s.heap.objs.size))) { s with heap:=s.heap.push { cls:=.type "tuple",data:=.seq ((Wc x.toNat items).foldl (· ++ ·) #[]) } }) :=
 .of_wp fun prog w A R s h=>by
  obtain ⟨hp,g,d,tk,os⟩:=s; obtain ⟨hl,h⟩:=h
  wp_walk
  rw [if_neg h1]
  wp_walk
  try rw [if_neg h2]
  try wp_walk
  try rw [if_neg h3]
  try wp_walk
  try rw [if_neg h4]
  try wp_walk
  try rw [if_neg h5]
  try wp_walk
  exact ⟨_,rfl,h⟩
theorem z59 (its:List α):∀ (k:Nat) (acc:List α),List.foldl (fun x1 x2:Array α=>x1 ++ x2) acc.toArray (Wc k its.toArray)=(acc ++ (Wc k its).flatten).toArray
 | 0,acc=>by simp
 | k + 1,acc=>by
  rw [WV,Qz,show acc.toArray ++ its.toArray=(acc ++ its).toArray by simp,z59 its k]
  simp [WV]
section
variable {X:Cx}
def zcv (K:W2):R2:=fun x y H Q=>∃ l k xs,x = .ref l∧y = .int k∧SqT K H l xs∧xs≠[]∧2≤k∧k≤1000000∧xs.length * k.toNat≤W7∧∀ p,H p=none→Q (.ref p) (upd H p (.tup (Wc k.toNat xs).flatten))
theorem zbt:OpR X (Q5 .Mult) (zcv X.K):=by
 intro pins s σ H x y v u Q I rx ry h
 obtain ⟨l,k,xs,rfl,rfl,hH,hne,h1,h2,hz,q⟩:=h
 cases rx
 obtain ⟨t,rfl⟩:=ry
 obtain ⟨its,r,pl,hl⟩:=I.tuple hH
 obtain ⟨⟨cls,dd,data,sl⟩,ho,hc,n,hd⟩:=id pl
 simp only at hc hd
 subst hc hd
 have hlen:its.toArray.size=xs.length:=by rw [Wn]; exact r.length.symm
 have hem:its.toArray.isEmpty=false:=by
  cases its with
  | nil=>exact absurd (r.nil_iff.mp rfl) hne
  | cons a b=>rfl
 have hline:W7=16777216:=rfl
 have hk:(k.toNat:Int)=k:=by omega
 have hmul:((its.toArray.size:Nat):Int) * k=((xs.length * k.toNat:Nat):Int):=by rw [hlen,Int.natCast_mul,hk]
 have hfold:List.foldl (fun x1 x2=>x1 ++ x2) #[] (Wc k.toNat its.toArray)=(Wc k.toNat its).flatten.toArray:=by
  have:=z61 its k.toNat []
  rw [Qe] at this
  exact this
 refine wpAny_binaryOp_repeat_ref (T:="tuple") (U:="int") (by decide) ⟨_,ho,rfl⟩ (fun s'=>Jg s' k t) z3n F.fills_int_mul F.slot_int_rmul z5z F.slot_int_index.lookup
  (call_meets F.slot_int_rmul (Jg s k t) F.entry_int_rmul (F.args_int_rmul_2 _ _) (z4i k t l dd its.toArray n sl)
   ⟨ho,rfl,⟨_,ho,rfl⟩,call_meets F.slot_tuple_mul ⟨_,ho,rfl⟩ F.entry_tuple_mul (F.args_tuple_mul_2 _ _) (z4a l dd its.toArray n sl k t ?_ ?_ ?_ ?_ ?_ ?_) ⟨ho,?_⟩⟩)
 ·simp; omega
 ·rw [hem]; simp; omega
 ·rw [hem]; simp; omega
 ·rw [hmul]; omega
 ·rw [hmul]
  unfold Builtin.Tuple.tupleTooMany
  rw [hline] at hz
  generalize xs.length * k.toNat=m at hz
  simp only [hline,decide_eq_true_eq]
  omega
 ·rw [hfold,Wn,z6B,← r.length,Nat.mul_comm]; exact hz
 ·rw [hfold]
  have I1:Inv X pins σ (upd H s.heap.objs.size (.tup (Wc k.toNat xs).flatten)) { s with heap:=s.heap.push { cls:=.type "tuple",data:=.seq (Wc k.toNat its).flatten.toArray } } :=
   I.laid (t':=s.toks) (fun b o e=>W3 _ e) (Wb _) (show ObjOk X.prog X.w _ _ _ (.tup (Wc k.toNat xs).flatten) from ⟨by rw [z6B,Nat.mul_comm]; exact hz,(Wc k.toNat its).flatten,r.rep k.toNat,IsTupN.new _ _⟩)
  exact ⟨.ref _,_,I1,rfl,q _ (I.hok.fresh (Wb _))⟩
def zcw:R2:=fun x y H Q=>∃ z k,x = .str z∧y = .int k∧2≤k∧k≤1000000∧0 < z.length∧z.length * k.toNat≤W7∧Q (.str ⟨(Wc k.toNat z.cps).foldl (· ++ ·) #[]⟩) H
theorem op_repS:OpR X (Q5 .Mult) zcw:=by
 intro pins s σ H x y v u Q I rx ry h
 obtain ⟨z,k,rfl,rfl,h1,h2,h0,hz,q⟩:=h
 obtain ⟨t,rfl⟩:=rx
 obtain ⟨t',rfl⟩:=ry
 have hline:W7=16777216:=rfl
 have c1:¬ k < 1:=by omega
 have c2:(k == 1 || z.length == 0)=false:=by
  simp
  omega
 refine PySem.P.mul_str (by simp; omega) (fun _ _=>?_) (fun _ _=>?_) ?_
 ·have hm:(z.length:Int) * k≤16777216:=by
   have:(z.length:Int) * k=((z.length * k.toNat:Nat):Int):=by rw [Int.natCast_mul,show (k.toNat:Int)=k by omega]
   rw [this]
   rw [hline] at hz
   omega
  have:(z.length:Int)≤(2 ^ 63 - 1) / k:=(Int.le_ediv_iff_mul_le (by omega)).mpr (by omega)
  omega
 ·unfold Builtin.Str.tooLong
  rw [hline] at hz
  generalize z.length * k.toNat=m at hz
  simp only [hline,decide_eq_false_iff_not]
  omega
 ·rw [if_neg c1,if_neg (by rw [c2]; simp)]
  have hsz:((Wc k.toNat z.cps).foldl (· ++ ·) #[]).size=k.toNat * z.length:=by
   have h:=z59 z.cps.toList k.toNat []
   simp only [Qe,Array.toArray_toList] at h
   rw [h,Wn,z6B]
   simp [Str.length]
  exact ⟨by show ((Wc k.toNat z.cps).foldl (· ++ ·) #[]).size≤_; rw [hsz,Nat.mul_comm]; exact hz,.str _,H,I.tok _,⟨_,rfl⟩,q⟩
end
end L2
namespace DV
open PySem PySem.Spec PyProof.Rows L2
def z2n:D→D→Option S
 | .int i,.int j=>pMul (.int i) (.int j)
 | .str x,.int k=>if 2≤k∧k≤1000000∧0 < x.length∧x.length * k.toNat≤W7 then some (.pure (.str (Wc k.toNat x).flatten)) else none
 | .tup xs,.int k=>if 2≤k∧k≤1000000∧0 < xs.length∧xs.length * k.toNat≤W7 then some (.pure (.tup (Wc k.toNat xs).flatten)) else none
 | _,_=>none
def zcx (K:W2):R2:=fun x y H Q=>rI CMul (fun i j=>V.int (i * j)) x y H Q∨zcw x y H Q∨zcv K x y H Q
theorem z4W:OpR X (Q5 .Mult) (zcx X.K):=op_mul.or (op_repS.or zbt)
theorem Reps.rep (h:Reps H O vs ds):∀ k:Nat,Reps H O (Wc k vs).flatten (Wc k ds).flatten
 | 0=>.nil
 | k + 1=>by rw [WV,WV,Qp,Qp]; exact h.append (Reps.rep h k)
theorem z4Z {K:W2}:Op2 (zcx K) z2n:=by
 intro c σ δ H x y d e s Q k rx ry hp q
 cases d <;> cases e <;> first | (simp [z2n] at hp; done) | skip
 ·exact .inl (zd6 c σ δ H x y _ _ s Q k rx ry hp q)
 ·rename_i z n
  simp only [z2n] at hp
  split at hp
  ·rename_i h
   cases hp
   refine .inr (.inl ⟨toS z,n,rx.str,ry.int,h.1,h.2.1,by rw [z1x]; exact h.2.2.1,by rw [z1x]; exact h.2.2.2,?_⟩)
   have e:(⟨(Wc n.toNat (toS z).cps).foldl (· ++ ·) #[]⟩:Str)=toS (Wc n.toNat z).flatten:=by
    unfold toS
    congr 1
    have:=z59 z n.toNat []
    rw [Qe] at this
    exact this
   rw [e]
   exact q _ H (.refl k) (.str _)
  ·cases hp
 ·rename_i ds n
  simp only [z2n] at hp
  split at hp
  ·rename_i h
   cases hp
   obtain ⟨a,vs,ex,ha,r⟩:=rx.tup
   refine .inr (.inr ⟨a,n,vs,ex,ry.int,.of ha,?_,h.1,h.2.1,by rw [r.1]; exact h.2.2.2,fun p hp'=>?_⟩)
   ·intro z
    rw [z] at r
    have:=r.1
    simp at this
    omega
   ·exact q _ _ (.alloc k hp' _) (RepS.newT k (Reps.rep r _) hp')
  ·cases hp
theorem RepS.newD (k:Ok c σ δ H) (hp:H p=none):RepS c σ δ H (upd H p (.dK [])) (.ref p) (.own (.dct [])):=by
 refine ⟨p,rfl,⟨[],z0d,rfl,fun i p q e=>by simp at e⟩,fun z=>k.nav hp (.inl z),k.fresh₀ hp,k.plus hp _,hp⟩
def z65:DE:=fun δ=>.ok (.own (.dct [])) δ
theorem z6Y {X:Cx} {c:Fc} {pos:Pos}:SE X c (.Dict [] [] pos) z65:=PE.weak z9N fun σ H Q ⟨δ,k,q⟩=>fun p hp=>q _ _ (.alloc k hp _) (RepS.newD k hp)
section
variable {X:Cx} {c:Fc} {e a x y:Expr} {fb:BE} {f g fa:DE} {pos pp p p2:Pos}
def eInR (neg:Bool) (fa f g:DE):DE:=fun δ=>(fa δ).bind fun v δ1=>(f δ1).bind fun lo δ2=>(g δ2).bind fun hi δ3=>match v.d,lo.d,hi.d with
 | .int i,.int l,.int h=>.ok (.pure (.bl (if neg then !(decide (l≤i) && decide (i < h)) else (decide (l≤i) && decide (i < h))))) δ3
 | _,_,_=>.stuck
end
end DV
set_option maxHeartbeats 1000000
namespace L2
open PySem PySem.Spec PyProof.Rows
theorem z2c:entryFor table "dict.update.loop" = some Builtin.«dict.update.loop»:=entryFor_of_tree (by kernel_rfl)
theorem z0J:plainId "dict.update.loop" = true:=by decide +kernel
theorem z3P:typeLookup (.type "tuple") "keys" = pure none:=by rw [typeLookup_type,J1]; kernel_rfl
theorem z4g:typeLookup (.type "list") "keys" = pure none:=by rw [typeLookup_type,J1]; kernel_rfl
set_option maxRecDepth 8000 in
theorem z5O
  (hx:s.heap.get? a=some o) (hc:o.cls = .type "tuple") (hdat:o.data = .seq xs k) (hd:o.dict=none) (hA:A.handled=none)
  (h:∀ h' tk,(∀ b ob,s.heap.get? b=some ob→h'.get? b=some ob)→Q none { s with heap:=h',toks:=tk }) :
  W6 (model prog w) A (getAttr? (.ref a) "keys") Q E s:=by
 obtain ⟨c,dct,dat,sl⟩:=o
 simp only at hc hdat hd
 subst hc hdat hd
 obtain ⟨hp,g,d,tk,os⟩:=s
 have hT:∀ tk',(⟨hp,g,d,tk',os⟩:W1).TypeIs (.ref a) "tuple":=fun _=>⟨_,hx,rfl⟩
 have f1:=sub_AttributeError
 have f3:=F.slot_tuple_getattribute.lookup
 have f4:=F.slot_tuple_getattribute.bind (.ref a)
 have f5:=am_tuple_getattr_none
 have hmiss:=z3P
 unfold getAttr? getAttrBy? getAttrBy
 repeat (any_goals (first | assumption | exact hT _ | ((with_reducible show W6 _ _ (call (Value.builtin "tuple.__getattribute__") _ _) _ _ _); refine call_meets F.slot_tuple_getattribute (hT _) am_entry_tuple_getattribute (F.args_tuple_getattribute_2 _ _) (meets_getattribute_miss_tuple a xs k sl "keys" _ hmiss (by decide +kernel)) ⟨hx,hA,fun h' tk' e hx'=>?_⟩) | wp_step))
 obtain ⟨t',u',he⟩:=hx'.there
 show W6 _ _ (Je _ _ _ _ _ _ _) _ _ _
 unfold Je
 repeat (any_goals (first | assumption | wp_step))
 exact h _ _ hx'.keeps
set_option maxRecDepth 8000 in
theorem z6y
  (hx:s.heap.get? a=some o) (hc:o.cls = .type "list") (hdat:o.data = .seq xs k) (hd:o.dict=none) (hA:A.handled=none)
  (h:∀ h' tk,(∀ b ob,s.heap.get? b=some ob→h'.get? b=some ob)→Q none { s with heap:=h',toks:=tk }) :
  W6 (model prog w) A (getAttr? (.ref a) "keys") Q E s:=by
 obtain ⟨c,dct,dat,sl⟩:=o
 simp only at hc hdat hd
 subst hc hdat hd
 obtain ⟨hp,g,d,tk,os⟩:=s
 have hT:∀ tk',(⟨hp,g,d,tk',os⟩:W1).TypeIs (.ref a) "list":=fun _=>⟨_,hx,rfl⟩
 have f1:=sub_AttributeError
 have f3:=F.slot_list_getattribute.lookup
 have f4:=F.slot_list_getattribute.bind (.ref a)
 have f5:=am_list_getattr_none
 have hmiss:=z4g
 unfold getAttr? getAttrBy? getAttrBy
 repeat (any_goals (first | assumption | exact hT _ | ((with_reducible show W6 _ _ (call (Value.builtin "list.__getattribute__") _ _) _ _ _); refine call_meets F.slot_list_getattribute (hT _) am_entry_list_getattribute (F.args_list_getattribute_2 _ _) (meets_getattribute_miss_list a xs k sl "keys" _ hmiss (by decide +kernel)) ⟨hx,hA,fun h' tk' e hx'=>?_⟩) | wp_step))
 obtain ⟨t',u',he⟩:=hx'.there
 show W6 _ _ (Je _ _ _ _ _ _ _) _ _ _
 unfold Je
 repeat (any_goals (first | assumption | wp_step))
 exact h _ _ hx'.keeps
def z1d (kps:List (Key×V)) (acc:List (Key×V)):List (Key×V):=kps.foldl (fun a kv=>putK a kv.1 kv.2) acc
theorem z9c {prog:We} {w:Wk} {A:Wm} {R:Result→W1→Prop} {s:W1} {dl it:Addr} {i:Int} {t0:Tok}
  (hn:W6 (model prog w) A.in1 (Qa (.ref it)) (fun r s1=>∃ (q:Addr) (k v:Value) (n:Nat),r=some (.ref q)∧s1.heap.get? q=some { cls:=.type "tuple",dict:=none,data:=.seq #[k,v] n,slots:=#[] } ∧
   W6 (model prog w) A.in1 (dictSet dl k v) (fun _ s2=>Q1 (model prog w) A (.builtin "dict.update.loop" ⟨[.ref dl,.ref it,QH (i + 1),.none],[]⟩) R s2) (fun _ _=>False) s1) (fun _ _=>False) s) :
  Q1 (model prog w) A (.builtin "dict.update.loop" ⟨[.ref dl,.ref it,.int i t0,.none],[]⟩) R s:=by
 refine Q6 z2c ?_
 rw [Around.under_plainId z0J _]
 show W6 _ A.in1 (Qa (.ref it) >>= _) _ _ s
 refine W0 (WA hn (fun r s1 hr=>?_) fun _ _ z=>z.elim)
 obtain ⟨q,k,v,n,rfl,hq,hd⟩:=hr
 dsimp only
 refine W0 ?_
 try with_reducible refine WP ?_
 refine W0 (wpAny_tryCatch ?_)
 have hT:s1.TypeIs (.ref q) "tuple":=⟨_,hq,rfl⟩
 unfold Builtin.Dict.pairItems
 refine W0 (QJ hT ?_)
 rw [if_pos (by decide)]
 refine W0 ?_
 unfold seqItems?
 refine W0 (wpAny_load hq (W4 ?_))
 refine W4 ?_
 show W6 _ A.in1 (holding [k,v] (dictSet dl k v)) _ _ s1
 try with_reducible refine WP ?_
 refine WA hd (fun _ s2 h2=>?_) fun _ _ z=>z.elim
 exact W4 ⟨Qr z0J _,h2⟩
theorem z9d {prog:We} {w:Wk} {A:Wm} {R:Result→W1→Prop} {s:W1} {dl it:Addr} {i:Int} {t0:Tok}
  (hn:W6 (model prog w) A.in1 (Qa (.ref it)) (fun r s1=>r=none∧R (.ok (.ret .none)) s1) (fun _ _=>False) s) :
  Q1 (model prog w) A (.builtin "dict.update.loop" ⟨[.ref dl,.ref it,.int i t0,.none],[]⟩) R s:=by
 refine Q6 z2c ?_
 rw [Around.under_plainId z0J _]
 show W6 _ A.in1 (Qa (.ref it) >>= _) _ _ s
 refine W0 (WA hn (fun r s1 hr=>?_) fun _ _ z=>z.elim)
 obtain ⟨rfl,hd⟩:=hr
 dsimp only
 show W6 _ A.in1 (Builtin.Dict.addKeywords dl [] >>= _) _ _ s1
 exact W0 (W4 (W4 hd))
section
variable {X:Cx} {pins:List (Addr×Obj)} {σ:St} {H:Hp}
theorem Rd.sub (h:Rd H a u) (k:∀ b o,H b=some o→H' b=some o):Rd H' a u:=by
 rcases h with h | ⟨o,h⟩
 ·exact .inl (k _ _ h)
 ·exact .inr ⟨o,k _ _ h⟩
def z5o (H:Hp) (ys:List V) (kps:List (Key×V)):Prop:=ys.length=kps.length∧∀ (i:Nat) y kv,ys[i]? = some y→kps[i]? = some kv→∃ q,y = .ref q∧H q=some (.tup [kV kv.1,kv.2])
theorem z2T:∀ (kps acc:List (Key×V)),(z1d kps acc).length≤acc.length + kps.length
 | [],acc=>Wb _
 | kv :: r,acc=>by
  have h1:=z2T r (putK acc kv.1 kv.2)
  have h2:=z1p acc kv.1 kv.2
  show (z1d r (putK acc kv.1 kv.2)).length≤_
  simp only [WL]
  omega
theorem z6t (kps:List (Key×V)) (kv:Key×V) (acc:List (Key×V)):z1d (kps ++ [kv]) acc=putK (z1d kps acc) kv.1 kv.2:=by
 unfold z1d
 rw [List.foldl_append]
 rfl
theorem z66 {A:Wm} {R:Result→W1→Prop} {dl it:Addr} {ys:List V} {kps:List (Key×V)} {tn:Nat→Heap→Prop} (hP:z5o H ys kps) (hdl:H dl=none) (hz:kps.length≤W7)
  (item:∀ (i:Nat) (y:V) (H':Hp) (s:W1) (Q:Option Value→W1→Prop),(∀ b o,H b=some o→H' b=some o)→H' it=none→Inv X pins σ H' s→tn i s.heap→ys[i]? = some y→(∀ u s',RelV y u→Inv X pins σ H' s'→tn (i + 1) s'.heap→Q (some u) s')→W6 (model X.prog X.w) A.in1 (Qa (.ref it)) Q (fun _ _=>False) s)
  (done:∀ (H':Hp) (s:W1) (Q:Option Value→W1→Prop),(∀ b o,H b=some o→H' b=some o)→H' it=none→Inv X pins σ H' s→tn ys.length s.heap→(∀ s',Inv X pins σ H' s'→Q none s')→W6 (model X.prog X.w) A.in1 (Qa (.ref it)) Q (fun _ _=>False) s)
  (keep:∀ (i:Nat) (h h':Heap),tn i h→(∀ o,h.get? it=some o→h'.get? it=some o)→tn i h') (hit:H it=none) (hne:it≠dl) (hR:∀ s',Inv X pins σ (upd H dl (.dK (z1d kps []))) s'→R (.ok (.ret .none)) s') :
  ∀ (k i:Nat) (s:W1) (j:Int) (t0:Tok),ys.length - i=k→i≤ys.length→Inv X pins σ (upd H dl (.dK (z1d (kps.take i) []))) s→tn i s.heap →
   Q1 (model X.prog X.w) A (.builtin "dict.update.loop" ⟨[.ref dl,.ref it,.int j t0,.none],[]⟩) R s:=by
 have up:∀ (acc:List (Key×V)) b o,H b=some o→upd H dl (.dK acc) b=some o:=fun acc b o e=>by rw [z06 (z0j e hdl)]; exact e
 have nit:∀ acc:List (Key×V),upd H dl (.dK acc) it=none:=fun acc=>by rw [z06 hne]; exact hit
 intro k
 induction k with
 | zero =>
  intro i s j t0 hk hi I st
  have e:i=ys.length:=by omega
  subst e
  rw [hP.1,List.take_of_length_le (Wb _)] at I
  refine z9d (done _ s _ (up _) (nit _) I st fun s' I'=>⟨rfl,hR s' I'⟩)
 | succ k ih =>
  intro i s j t0 hk hi I st
  have hlt:i < ys.length:=by omega
  have hlk:i < kps.length:=by rw [← hP.1]; exact hlt
  obtain ⟨q,ey,hq⟩:=hP.2 i ys[i] kps[i] (by simp [hlt]) (by simp [hlk])
  -- the item is a tuple of two
  have main:∀ s1,Inv X pins σ (upd H dl (.dK (z1d (kps.take i) []))) s1→tn (i + 1) s1.heap→∃ (kk vv:Value) (n:Nat),s1.heap.get? q=some { cls:=.type "tuple",dict:=none,data:=.seq #[kk,vv] n,slots:=#[] }∧RelV (kV kps[i].1) kk∧RelV kps[i].2 vv:=fun s1 I1 _=>by
   obtain ⟨_,its,r,n,e⟩:=(show ObjOk X.prog X.w _ s1.heap q (.tup [kV kps[i].1,kps[i].2]) from I1.hok q _ (up _ q _ hq))
   obtain ⟨u,v,rfl,r1,r2⟩:=Vals.two r
   exact ⟨u,v,n,e,r1,r2⟩
  refine z9c (item i ys[i] _ s _ (up _) (nit _) I st (by simp [hlt]) fun u s' ru I' st'=>?_)
  rw [ey] at ru
  cases ru
  obtain ⟨kk,vv,n,e,r1,r2⟩:=main s' I' st'
  refine ⟨q,kk,vv,n,rfl,e,?_⟩
  obtain ⟨z,hd,vs,rel,dd⟩:=zab I'.hok z0d
  have hvs:vs.length≤W7:=by rw [← rel.length]; exact z
  have hl:(putK (z1d (kps.take i) []) kps[i].1 kps[i].2).length≤W7:=by
   have h1:=z1p (z1d (kps.take i) []) kps[i].1 kps[i].2
   have h2:=z2T (kps.take i) []
   simp at h2
   omega
  refine wpAny_dictSet_pairs (hsz:=hvs) (z6D r1) dd fun h' dd' hs=>?_
  have he:∃ q,h'.get? dl=some q:=let ⟨q,_,_,hq,_⟩:=dd'; ⟨q,hq⟩
  have I2:=z5i (t':=s'.toks + 1) I' (by rw [z0d]; exact True.intro) hs he (z9a hl hd (rel.put kps[i].1 r2) dd')
  rw [zaP] at I2
  have et:kps.take (i + 1)=kps.take i ++ [kps[i]]:=by rw [List.take_add_one]; simp [hlk]
  rw [show putK (z1d (kps.take i) []) kps[i].1 kps[i].2=z1d (kps.take (i + 1)) [] by rw [et,z6t]] at I2
  exact ih (i + 1) _ (j + 1) _ (by omega) hlt I2 (keep (i + 1) _ _ st' fun o eo=>(hs.2 it hne).trans eo)
theorem z47 (hc:X.calm=true):CallR X (.type "dict") (fun xs H Q=>∃ p ys kps,xs=[.ref p]∧(H p=some (.tup ys)∨Rd H p (.lst ys))∧z5o H ys kps∧kps.length≤W7∧∀ l,H l=none→Q (.ref l) (upd H l (.dK (z1d kps [])))):=by
 intro pins s σ H xs us Q I r h
 obtain ⟨p,ys,kps,rfl,hp,hP,hz,q⟩:=h
 obtain ⟨u,rfl,rx⟩:=z33 r
 cases rx
 have hA:X.A.handled=none:=I.ok.hd hc
 refine callType_codes (Q₁:=fun obj s₁=>obj = .ref s.heap.objs.size∧s₁ = { s with heap:=s.heap.push { cls:=.type "dict",data:=.dict #[] } }) F.kt_called_dict (F.kt_typeCall_dict_1 _) F.entry_dict_init (kt_code_dict_new _ ⟨rfl,rfl⟩) ?_
 rintro obj s₁ ⟨rfl,rfl⟩
 have hdl:H s.heap.objs.size=none:=I.hok.fresh (Wb _)
 have I1:Inv X pins σ (upd H s.heap.objs.size (.dK [])) { s with heap:=s.heap.push { cls:=.type "dict",data:=.dict #[] } }:=I.laid (t':=s.toks) (fun _ _ q=>W3 _ q) (Wb _) (z5f s.heap I.big)
 generalize hdd:s.heap.objs.size=dl at hdl I1
 have up:∀ (acc:List (Key×V)) b o,H b=some o→upd H dl (.dK acc) b=some o:=fun acc b o e=>by rw [z06 (z0j e hdl)]; exact e
 have hTd:({ s with heap:=s.heap.push { cls:=.type "dict",data:=.dict #[] } }:W1).TypeIs (.ref dl) "dict":=⟨_,by rw [← hdd]; exact Wh _ rfl,rfl⟩
 refine ⟨hTd,F.args_dict_init_2 _ _,?_⟩
 unfold Builtin.«dict.__init__»
 refine W0 ?_
 unfold Builtin.Dict.selfAndRest
 refine W0 (wpAny_notOrdered_dict hTd ?_)
 show W6 _ _ (pure (dl,[Value.ref p])) _ _ _
 refine W4 ?_
 show W6 _ _ (Builtin.Dict.updateFrom "dict.__init__" dl (.ref p) [] .none) _ _ _
 unfold Builtin.Dict.updateFrom
 have fin:∀ s',Inv X pins σ (upd H dl (.dK (z1d kps []))) s'→EP X pins σ Q (.ref dl) s':=fun s' I'=>⟨.ref dl,_,I',rfl,q dl hdl⟩
 rcases hp with hp | hp
 ·obtain ⟨_,its,r,n,e⟩:=(show ObjOk X.prog X.w _ (s.heap.push { cls:=.type "dict",data:=.dict #[] }) p (.tup ys) from I1.hok p _ (up _ p _ hp))
  refine W0 (QJ ⟨_,e,rfl⟩ ?_)
  rw [if_pos (by decide)]
  refine W0 (z5O e rfl rfl rfl hA fun h' tk kp=>?_)
  rw [if_pos (show (none:Option Value).isNone=true from rfl)]
  refine W0 (QG ?_)
  have I2:Inv X pins σ (upd H dl (.dK [])) { s with heap:=h',toks:=tk }:=I1.kept kp
  have isT:h'.IsTuple p its.toArray:=⟨_,kp _ _ e,rfl,n,rfl⟩
  refine W0 (wpAny_pyIter_tuple (s:={ s with heap:=h',toks:=tk }) isT ?_)
  refine W4 ⟨Qr z0J _,?_⟩
  have hfr:upd H dl (.dK []) h'.objs.size=none:=I2.hok.fresh (Wb _)
  have hne:h'.objs.size≠dl:=fun z=>by rw [z,z0d] at hfr; cases hfr
  have hit:H h'.objs.size=none:=by rw [z06 hne] at hfr; exact hfr
  have fp:∀ H':Hp,H' h'.objs.size=none→FpOk X pins H' h'.objs.size:=fun H' hn=>I2.fpOk (Wb _) hn
  refine z66 (X:=X) (pins:=pins) (σ:=σ) (H:=H) (dl:=dl) (it:=h'.objs.size) (ys:=ys) (kps:=kps) (tn:=fun i h=>h.IsTupleIter h'.objs.size p i) hP hdl hz ?_ ?_ (fun i h h2 st k=>st.at k) hit hne (fun s' I'=>⟨rfl,fin s' I'⟩) ys.length 0 _ 0 _ (Nat.sub_zero _) (Qf _) ?_ ?_
  ·intro i y H' s' Q' sub hn I' st hy k
   obtain ⟨_,its2,r2,n2,e2⟩:=(show ObjOk X.prog X.w _ s'.heap p (.tup ys) from I'.hok p _ (sub p _ hp))
   obtain ⟨v,hv,rv⟩:=r2.get hy
   obtain ⟨f0,f1,f2,f3,f4,f5⟩:=fp H' hn
   refine wpAny_pyNext_tuple_item st (items:=its2.toArray) ⟨_,e2,rfl,n2,rfl⟩ (x:=v) (by simpa using hv) fun h3 st3 sb=>?_
   exact k v { s' with heap:=h3 } rv (I'.turned (t':=s'.toks) (fun b o hb e=>(sb.2 b hb).trans e) f0 f1 f3 f4 f5) st3
  ·intro H' s' Q' sub hn I' st k
   obtain ⟨_,its2,r2,n2,e2⟩:=(show ObjOk X.prog X.w _ s'.heap p (.tup ys) from I'.hok p _ (sub p _ hp))
   obtain ⟨f0,f1,f2,f3,f4,f5⟩:=fp H' hn
   have hl2:=r2.length
   exact wpAny_pyNext_tuple_end (show X.A.in1.in1.handled=none from hA) st (items:=its2.toArray) ⟨_,e2,rfl,n2,rfl⟩ (by simp; omega) fun h3 eb=>k { s' with heap:=h3 } (I'.turned (t':=s'.toks) (fun b o hb e=>eb b o hb e) f0 f1 f3 f4 f5)
  ·exact I2.kept (t':=tk) fun b o e=>W3 _ e
  ·exact ⟨_,Wh _ rfl,rfl,rfl⟩
 ·obtain ⟨_,its,n,r,e⟩:=(show ObjOk X.prog X.w _ (s.heap.push { cls:=.type "dict",data:=.dict #[] }) p (.lst ys) from (Rd.sub hp (up _)).ok I1.hok)
  refine W0 (QJ ⟨_,e,rfl⟩ ?_)
  rw [if_pos (by decide)]
  refine W0 (z6y e rfl rfl rfl hA fun h' tk kp=>?_)
  rw [if_pos (show (none:Option Value).isNone=true from rfl)]
  refine W0 (QG ?_)
  have I2:Inv X pins σ (upd H dl (.dK [])) { s with heap:=h',toks:=tk }:=I1.kept kp
  have isT:h'.IsList p its.toArray:=⟨_,kp _ _ e,rfl,n,rfl⟩
  refine W0 (wpAny_pyIter_list (s:={ s with heap:=h',toks:=tk }) isT ?_)
  refine W4 ⟨Qr z0J _,?_⟩
  have hfr:upd H dl (.dK []) h'.objs.size=none:=I2.hok.fresh (Wb _)
  have hne:h'.objs.size≠dl:=fun z=>by rw [z,z0d] at hfr; cases hfr
  have hit:H h'.objs.size=none:=by rw [z06 hne] at hfr; exact hfr
  have fp:∀ H':Hp,H' h'.objs.size=none→FpOk X pins H' h'.objs.size:=fun H' hn=>I2.fpOk (Wb _) hn
  refine z66 (X:=X) (pins:=pins) (σ:=σ) (H:=H) (dl:=dl) (it:=h'.objs.size) (ys:=ys) (kps:=kps) (tn:=fun i h=>h.IsListIter h'.objs.size p i) hP hdl hz ?_ ?_ (fun i h h2 st k=>st.at k) hit hne (fun s' I'=>⟨rfl,fin s' I'⟩) ys.length 0 _ 0 _ (Nat.sub_zero _) (Qf _) ?_ ?_
  ·intro i y H' s' Q' sub hn I' st hy k
   obtain ⟨_,its2,n2,r2,e2⟩:=(show ObjOk X.prog X.w _ s'.heap p (.lst ys) from (Rd.sub hp sub).ok I'.hok)
   obtain ⟨v,hv,rv⟩:=r2.get hy
   obtain ⟨f0,f1,f2,f3,f4,f5⟩:=fp H' hn
   refine wpAny_pyNext_list_item st (items:=its2.toArray) ⟨_,e2,rfl,n2,rfl⟩ (x:=v) (by simpa using hv) fun h3 st3 sb=>?_
   exact k v { s' with heap:=h3 } rv (I'.turned (t':=s'.toks) (fun b o hb e=>(sb.2 b hb).trans e) f0 f1 f3 f4 f5) st3
  ·intro H' s' Q' sub hn I' st k
   obtain ⟨_,its2,n2,r2,e2⟩:=(show ObjOk X.prog X.w _ s'.heap p (.lst ys) from (Rd.sub hp sub).ok I'.hok)
   obtain ⟨f0,f1,f2,f3,f4,f5⟩:=fp H' hn
   have hl2:=r2.length
   exact wpAny_pyNext_list_end (show X.A.in1.in1.handled=none from hA) st (items:=its2.toArray) ⟨_,e2,rfl,n2,rfl⟩ (by simp; omega) fun h3 eb=>k { s' with heap:=h3 } (I'.turned (t':=s'.toks) (fun b o hb e=>eb b o hb e) f0 f1 f3 f4 f5)
  ·exact I2.kept (t':=tk) fun b o e=>W3 _ e
  ·exact ⟨_,Wh _ rfl,rfl,rfl⟩
end
end L2
set_option maxHeartbeats 400000
namespace DV
open PySem PySem.Spec PyProof.Rows L2
def valD (kvs:List (DKey×D)) (k:DKey):Option D:=(kvs.find? fun kv=>decide (kv.1=k)).map (·.2)
def putD (kvs:List (DKey×D)) (k:DKey) (v:D):List (DKey×D) :=
 if (kvs.any fun kv=>decide (kv.1=k))=true then kvs.map (fun kv=>if kv.1=k then (kv.1,v) else kv) else kvs ++ [(k,v)]
def z6s (kps acc:List (DKey×D)):List (DKey×D):=kps.foldl (fun a kv=>putD a kv.1 kv.2) acc
theorem zbB (h:kOf k=kOf j):k=j:=by
 cases k <;> cases j <;> simp [kOf] at h
 ·rw [h]
 ·rw [z4I h]
def DR (H:Hp) (O:Addr→Prop):List (Key×V)→List (DKey×D)→Prop
 | [],[]=>True
 | p :: ws,q :: ds=>p.1=kOf q.1∧Rep H O p.2 q.2∧DR H O ws ds
 | _,_=>False
section
variable {H H':Hp} {O O':Addr→Prop}
theorem DR.of:∀ {ws:List (Key×V)} {ds:List (DKey×D)},ws.map (·.1)=ds.map (fun p=>kOf p.1)→(∀ (i:Nat) p q,ws[i]? = some p→ds[i]? = some q→Rep H O p.2 q.2)→DR H O ws ds
 | [],[],_,_=>trivial
 | [],_ :: _,h,_=>by simp at h
 | _ :: _,[],h,_=>by simp at h
 | p :: ws,q :: ds,h,k=>by
  simp only [Wj,List.cons.injEq] at h
  exact ⟨h.1,k 0 p q rfl rfl,DR.of h.2 fun i p' q' e1 e2=>k (i + 1) p' q' (by simpa using e1) (by simpa using e2)⟩
theorem DR.keys:∀ {ws:List (Key×V)} {ds:List (DKey×D)},DR H O ws ds→ws.map (·.1)=ds.map (fun p=>kOf p.1)
 | [],[],_=>rfl
 | [],_ :: _,h=>h.elim
 | _ :: _,[],h=>h.elim
 | p :: ws,q :: ds,h=>by simp only [Wj,h.1,DR.keys h.2.2]
theorem DR.vals:∀ {ws:List (Key×V)} {ds:List (DKey×D)},DR H O ws ds→∀ (i:Nat) p q,ws[i]? = some p→ds[i]? = some q→Rep H O p.2 q.2
 | [],[],_,i,p,q,e,_=>by simp at e
 | [],_ :: _,h,_,_,_,_,_=>h.elim
 | _ :: _,[],h,_,_,_,_,_=>h.elim
 | p :: ws,q :: ds,h,i,p',q',e1,e2=>by
  cases i with
  | zero=>simp at e1 e2; subst e1 e2; exact h.2.1
  | succ i=>exact DR.vals h.2.2 i p' q' (by simpa using e1) (by simpa using e2)
theorem DR.map:∀ {ws:List (Key×V)} {ds:List (DKey×D)},DR H O ws ds→(∀ v d,Rep H O v d→Rep H' O' v d)→DR H' O' ws ds
 | [],[],_,_=>trivial
 | [],_ :: _,h,_=>h.elim
 | _ :: _,[],h,_=>h.elim
 | p :: ws,q :: ds,h,k=>⟨h.1,k _ _ h.2.1,DR.map h.2.2 k⟩
theorem z2A (h:p=kOf q):(p=kOf k) ↔ q=k:=⟨fun e=>zbB (by rw [← h]; exact e),fun e=>by rw [h,e]⟩
theorem DR.any:∀ {ws:List (Key×V)} {ds:List (DKey×D)} (k:DKey),DR H O ws ds→(ws.any fun kv=>decide (kv.1=kOf k))=ds.any fun kv=>decide (kv.1=k)
 | [],[],_,_=>rfl
 | [],_ :: _,_,h=>h.elim
 | _ :: _,[],_,h=>h.elim
 | p :: ws,q :: ds,k,h=>by
  rw [QA,QA,DR.any k h.2.2]
  congr 1
  exact decide_eq_decide.mpr (z2A h.1)
theorem DR.val:∀ {ws:List (Key×V)} {ds:List (DKey×D)} (k:DKey),DR H O ws ds→(valD ds k=none∧valV ws (kOf k)=none)∨∃ v d,valD ds k=some d∧valV ws (kOf k)=some v∧Rep H O v d
 | [],[],_,_=>.inl ⟨rfl,rfl⟩
 | [],_ :: _,_,h=>h.elim
 | _ :: _,[],_,h=>h.elim
 | p :: ws,q :: ds,k,h=>by
  by_cases e:q.1=k
  ·have e':=(z2A h.1).mpr e
   exact .inr ⟨p.2,q.2,by simp [valD,WT,e],z3q e',h.2.1⟩
  ·have e':¬ p.1=kOf k:=fun z=>e ((z2A h.1).mp z)
   have ev:valD (q :: ds) k=valD ds k:=by simp [valD,WT,e]
   rw [ev,z3r e']
   exact DR.val k h.2.2
theorem DR.append:∀ {ws ws':List (Key×V)} {ds ds':List (DKey×D)},DR H O ws ds→DR H O ws' ds'→DR H O (ws ++ ws') (ds ++ ds')
 | [],_,[],_,_,h'=>h'
 | [],_,_ :: _,_,h,_=>h.elim
 | _ :: _,_,[],_,h,_=>h.elim
 | p :: ws,_,q :: ds,_,h,h'=>⟨h.1,h.2.1,DR.append h.2.2 h'⟩
theorem DR.store:∀ {ws:List (Key×V)} {ds:List (DKey×D)} {k:DKey} {v:V} {d:D},DR H O ws ds→Rep H O v d→DR H O (ws.map fun kv=>if kv.1=kOf k then (kv.1,v) else kv) (ds.map fun kv=>if kv.1=k then (kv.1,d) else kv)
 | [],[],_,_,_,_,_=>trivial
 | [],_ :: _,_,_,_,h,_=>h.elim
 | _ :: _,[],_,_,_,h,_=>h.elim
 | p :: ws,q :: ds,k,v,d,h,r=>by
  refine ⟨?_,?_,DR.store h.2.2 r⟩
  ·by_cases e:q.1=k
   ·dsimp only; rw [if_pos ((z2A h.1).mpr e),if_pos e]; exact h.1
   ·dsimp only; rw [if_neg fun z=>e ((z2A h.1).mp z),if_neg e]; exact h.1
  ·by_cases e:q.1=k
   ·dsimp only; rw [if_pos ((z2A h.1).mpr e),if_pos e]; exact r
   ·dsimp only; rw [if_neg fun z=>e ((z2A h.1).mp z),if_neg e]; exact h.2.1
theorem DR.put (h:DR H O ws ds) (r:Rep H O v d):DR H O (putK ws (kOf k) v) (putD ds k d):=by
 unfold putK putD
 rw [DR.any k h]
 split
 ·exact DR.store h r
 ·exact DR.append h ⟨rfl,r,trivial⟩
theorem DR.puts:∀ {kps:List (Key×V)} {dps:List (DKey×D)} {ws:List (Key×V)} {ds:List (DKey×D)},DR H O kps dps→DR H O ws ds→DR H O (z1d kps ws) (z6s dps ds)
 | [],[],_,_,_,h=>h
 | [],_ :: _,_,_,h,_=>h.elim
 | _ :: _,[],_,_,h,_=>h.elim
 | p :: kps,q :: dps,ws,ds,h,h'=>by
  show DR H O (z1d kps (putK ws p.1 p.2)) (z6s dps (putD ds q.1 q.2))
  rw [h.1]
  exact DR.puts h.2.2 (DR.put h' h.2.1)
end
def keyD:D→Option DKey
 | .int i=>some (.inl i)
 | .str x=>some (.inr x)
 | _=>none
theorem z8k (h:keyD d=some k) (r:Rep H O v d):v=kV (kOf k):=by
 cases d <;> simp [keyD] at h <;> subst h <;> cases r <;> rfl
theorem z3t (h:keyD d=some k) (r:RepB c σ δ H v d):v=kV (kOf k):=by
 rcases r with r | ⟨a,rfl,r⟩
 ·exact z8k h r
 ·cases d <;> simp [keyD] at h <;> exact r.elim
def z21:List D→Option (List (DKey×D))
 | []=>some []
 | .tup [k,v] :: r=>match keyD k,z21 r with
  | some k',some r'=>some ((k',v) :: r')
  | _,_=>none
 | _ :: _=>none
def z1B:D→Option S
 | .lst ds=>(z21 ds).bind fun ps=>if ps.length≤W7 then some (.own (.dct (z6s ps []))) else none
 | .tup ds=>(z21 ds).bind fun ps=>if ps.length≤W7 then some (.own (.dct (z6s ps []))) else none
 | _=>none
theorem z4U:∀ {ds:List D} {vs:List V} {ps:List (DKey×D)},z21 ds=some ps→Reps H O vs ds→∃ kps,z5o H vs kps∧DR H O kps ps∧kps.length=ps.length
 | [],[],ps,h,_=>by
  simp [z21] at h
  subst h
  exact ⟨[],⟨rfl,fun i y kv e=>by simp at e⟩,trivial,rfl⟩
 | [],_ :: _,_,_,r=>by have:=r.1; simp at this
 | _ :: _,[],_,_,r=>by have:=r.1; simp at this
 | d :: ds,v :: vs,ps,h,r=>by
  unfold z21 at h
  split at h
  ·rename_i heq; cases heq
  ·rename_i k w r' heq
   cases heq
   split at h
   ·rename_i k' r'' hk hr
    cases h
    obtain ⟨kps,hP,hD,hL⟩:=z4U hr r.tail
    have rp:=r.head
    cases rp with
    | tup h1 h2 h3 h4 =>
     rename_i a us
     match us,h3,h4,h2 with
     | [x,y],_,h4,h2 =>
      have rk:=h4 0 x k rfl rfl
      have rv:=h4 1 y w rfl rfl
      have ek:=z8k hk rk
      subst ek
      refine ⟨(kOf k',y) :: kps,⟨by simp [hP.1],fun i z kv e1 e2=>?_⟩,⟨rfl,rv,hD⟩,by simp [hL]⟩
      cases i with
      | zero=>simp at e1 e2; subst e1 e2; exact ⟨a,rfl,h2⟩
      | succ i=>exact hP.2 i z kv (by simpa using e1) (by simpa using e2)
   ·cases h
  ·cases h
theorem RepS.newDk (k:Ok c σ δ H) (hp:H p=none) (r:DR H (Av c σ δ) ws ds):RepS c σ δ H (upd H p (.dK ws)) (.ref p) (.own (.dct ds)):=by
 have up:∀ a w,H a=some w→upd H p (.dK ws) a=some w:=fun a w e=>by rw [z06 (z0j e hp)]; exact e
 have r1:DR (upd H p (.dK ws)) (Av (c.plus p) σ δ) ws ds:=r.map fun v d h=>(h.anti fun b z=>by
  rcases z with (z | z) | z
  ·exact .inl (.inl z)
  ·exact .inr (by rw [z]; exact hp)
  ·exact .inl (.inr z)).keep fun b w e _=>up b w e
 exact ⟨p,rfl,⟨ws,z0d,r1.keys,r1.vals⟩,fun z=>k.nav hp (.inl z),k.fresh₀ hp,k.plus hp _,hp⟩
section
variable {X:Cx} {c:Fc} {e:Expr} {fb:BE} {pos pp:Pos}
theorem z7M:Q7 "dict" = some (.type "dict"):=by decide +kernel
theorem z5u (hc:X.calm=true) (hg:Gl X "dict") (hm:X.mg "dict" = none) (he:SB X c e fb) (hs:z2z e=true:=by rfl):SE X c (.Call (.Name "dict" pp) [e] [] pos) (eC1 z1B fb) :=
 z2N (r:=fun v H Q=>∃ p ys kps,v = .ref p∧(H p=some (.tup ys)∨Rd H p (.lst ys))∧z5o H ys kps∧kps.length≤W7∧∀ l,H l=none→Q (.ref l) (upd H l (.dK (z1d kps []))))
  (z47 hc) (fun v H Q ⟨p,ys,kps,e,h⟩=>⟨p,ys,kps,by rw [e],h⟩)
  (fun c σ δ H x d s Q k rx hp q=>by
   cases d with
   | lst ds =>
    simp only [z1B] at hp
    cases hps:z21 ds with
    | none=>rw [hps] at hp; cases hp
    | some ps =>
     rw [hps] at hp
     simp only [WB] at hp
     split at hp
     ·rename_i hz
      cases hp
      obtain ⟨a,vs,ex,ha,r⟩:=rx.lst
      obtain ⟨kps,hP,hD,hL⟩:=z4U hps r
      exact ⟨a,vs,kps,ex,.inr ha,hP,by rw [hL]; exact hz,fun l hl=>q _ _ (.alloc k hl _) (RepS.newDk k hl (DR.puts hD (ws:=[]) (ds:=[]) trivial))⟩
     ·cases hp
   | tup ds =>
    simp only [z1B] at hp
    cases hps:z21 ds with
    | none=>rw [hps] at hp; cases hp
    | some ps =>
     rw [hps] at hp
     simp only [WB] at hp
     split at hp
     ·rename_i hz
      cases hp
      obtain ⟨a,vs,ex,ha,r⟩:=rx.tup
      obtain ⟨kps,hP,hD,hL⟩:=z4U hps r
      exact ⟨a,vs,kps,ex,.inl ha,hP,by rw [hL]; exact hz,fun l hl=>q _ _ (.alloc k hl _) (RepS.newDk k hl (DR.puts hD (ws:=[]) (ds:=[]) trivial))⟩
     ·cases hp
   | _=>simp [z1B] at hp) hg hm z7M he (by decide) (by decide) (z35 hs)
end
theorem z70 (r:RepB c σ δ H v (.dct ds)):∃ a ws,v = .ref a∧H a=some (.dK ws)∧DR H (Av c σ δ) ws ds:=by
 obtain ⟨a,ws,e,h,k1,k2⟩:=r.dct
 exact ⟨a,ws,e,h,DR.of k1 k2⟩
def rInD (neg:Bool):R2:=fun x y H Q=>∃ a kvs k,y = .ref a∧H a=some (.dK kvs)∧x=kV k∧Q (.bl (if neg then !(valV kvs k).isSome else (valV kvs k).isSome)) H
theorem op_inD (hu:X.A.units + 64 < Qh):OpR X (WE .In) (rInD false):=by
 intro pins s σ H x y v u Q I rx ry h
 obtain ⟨a,kvs,k,rfl,ha,rfl,q⟩:=h
 cases ry
 exact d_in (by omega) I (DGet.k ha) rx fun s' I'=>⟨.bl _,H,I',rfl,q⟩
theorem z8B (hu:X.A.units + 64 < Qh):OpR X (WE .NotIn) (rInD true):=by
 intro pins s σ H x y v u Q I rx ry h
 obtain ⟨a,kvs,k,rfl,ha,rfl,q⟩:=h
 cases ry
 exact zbO (by omega) I (DGet.k ha) rx fun s' I'=>⟨.bl _,H,I',rfl,q⟩
def zav (K:W2) (neg:Bool):R2:=fun x y H Q=>rInD neg x y H Q∨rIn K neg x y H Q∨∃ i j,x = .str i∧y = .str j∧Q (.bl (if neg then !(!(Builtin.Str.occurrences j i 0 j.length 1).isEmpty) else !(Builtin.Str.occurrences j i 0 j.length 1).isEmpty)) H
theorem z6w {X:Cx} (hu:X.A.units + 64 < Qh):OpR X (WE .NotIn) (zav X.K true):=(z8B hu).or (op_notIn_seq.or z5H)
def pIn (neg:Bool) (x y:D):Option S:=match y with
 | .dct ds=>(keyD x).map fun k=>.pure (.bl (if neg then !(valD ds k).isSome else (valD ds k).isSome))
 | .str y=>match x with
  | .str [n]=>some (.pure (.bl (if neg then !decide (n ∈ y) else decide (n ∈ y))))
  | _=>none
 | .lst ds=>match x,z2m ds with
  | .str z,some ts=>some (.pure (.bl (if neg then !ts.contains z else ts.contains z)))
  | _,_=>none
 | .tup ds=>match x,z2m ds with
  | .str z,some ts=>some (.pure (.bl (if neg then !ts.contains z else ts.contains z)))
  | _,_=>none
 | _=>none
theorem z5Y (z:Tx) (ts:List Tx):inV (V.str (toS z)) (ts.map fun z=>V.str (toS z))=ts.contains z:=by
 unfold inV
 rw [List.any_map]
 induction ts with
 | nil=>rfl
 | cons t r ih =>
  rw [QA,List.contains_cons,ih]
  congr 1
  show (toS t == toS z)=(z == t)
  rw [z6n,Bool.beq_comm]
theorem z4B (ts:List Tx):(ts.map fun z=>V.str (toS z)).all z5c=true:=by
 rw [List.all_map]
 exact List.all_eq_true.mpr fun _ _=>rfl
theorem z9R {K:W2} (neg:Bool):Op2 (zav K neg) (pIn neg):=by
 intro c σ δ H x y d e s Q k rx ry hp q
 cases e <;> first | (simp [pIn] at hp; done) | skip
 ·rename_i z
  simp only [pIn] at hp
  split at hp <;> first | (cases hp; done) | skip
  rename_i n
  cases hp
  refine .inr (.inr ⟨toS [n],toS z,rx.str,ry.str,?_⟩)
  rw [show toS [n] = ⟨#[n]⟩ from rfl,PySem.StrLaws.found_one,show (toS z).cps.toList=z by simp [toS]]
  exact q _ H (.refl k) (.bl _)
 ·rename_i ds
  simp only [pIn] at hp
  split at hp <;> first | (cases hp; done) | skip
  rename_i z ts ht
  cases hp
  obtain ⟨a,vs,ea,ha,r⟩:=ry.tup
  have ev:=z1L ht r
  refine .inr (.inl ⟨a,vs,ea,.inr (.of ha),by rw [rx.str]; rfl,by rw [ev]; exact z4B ts,?_⟩)
  rw [rx.str,ev,z5Y]
  exact q _ H (.refl k) (.bl _)
 ·rename_i ds
  simp only [pIn] at hp
  split at hp <;> first | (cases hp; done) | skip
  rename_i z ts ht
  cases hp
  obtain ⟨a,vs,ea,ha,r⟩:=ry.lst
  have ev:=z1L ht r
  refine .inr (.inl ⟨a,vs,ea,.inl (.inl ha),by rw [rx.str]; rfl,by rw [ev]; exact z4B ts,?_⟩)
  rw [rx.str,ev,z5Y]
  exact q _ H (.refl k) (.bl _)
 ·rename_i ds
  simp only [pIn] at hp
  cases hk:keyD d with
  | none=>rw [hk] at hp; cases hp
  | some kk =>
   rw [hk] at hp
   cases hp
   obtain ⟨a,ws,ea,ha,dr⟩:=z70 ry
   refine .inl ⟨a,ws,kOf kk,ea,ha,z3t hk rx,?_⟩
   have:(valV ws (kOf kk)).isSome=(valD ds kk).isSome:=by
    rcases dr.val kk with ⟨e1,e2⟩ | ⟨v,d,e1,e2,_⟩
    ·rw [e1,e2]; rfl
    ·rw [e1,e2]; rfl
   rw [this]
   exact q _ H (.refl k) (.bl _)
def rIxD:R2:=fun x y H Q=>∃ a kvs k v,x = .ref a∧H a=some (.dK kvs)∧y=kV k∧valV kvs k=some v∧Q v H
def pIxX:D→D→Option S
 | .dct ds,k=>(keyD k).bind fun k=>(valD ds k).map .pure
 | x,y=>pIx x y
theorem zbE (hu:X.A.units + 64 < Qh):IxR X rIxD:=by
 intro value slice pins s σ H x y v u Q I rx ry h hs
 obtain ⟨a,kvs,k,w,rfl,ha,rfl,hv,q⟩:=h
 cases rx
 obtain ⟨_,_,vs,_,dd⟩:=zab I.hok ha
 have hT:s.TypeIs (.ref a) "dict":=dd.typeIs
 exact tail_any hT F.slot_dict_getitem.lookup (z9g (v:=w) (by omega) I (by rw [← hv]; exact DGet.k ha) ry fun w' s' I' rw'=>⟨w,H,I',rw',q⟩) hs
theorem z8I {K:W2}:Op2 (fun x y H Q=>rIxD x y H Q∨rIx K x y H Q) pIxX:=by
 intro c σ δ H x y d e s Q k rx ry hp q
 cases d with
 | dct ds =>
  simp only [pIxX] at hp
  cases hk:keyD e with
  | none=>rw [hk] at hp; cases hp
  | some kk =>
   rw [hk] at hp
   simp only [WB,Option.map_eq_some_iff] at hp
   obtain ⟨dv,hv,rfl⟩:=hp
   obtain ⟨a,ws,ea,ha,dr⟩:=z70 rx
   rcases dr.val kk with ⟨e1,e2⟩ | ⟨v,d',e1,e2,r⟩
   ·rw [e1] at hv; cases hv
   ·rw [e1] at hv; cases hv
    exact .inl ⟨a,ws,kOf kk,v,ea,ha,z3t hk ry,e2,q v H (.refl k) r⟩
 | _=>exact .inr (z1n c σ δ H x y _ e s Q k rx ry hp q)
end DV
namespace PySem
open Sem (wp)
open AutoSeq1 (wpAny_loadPart')
section
variable {prog:We} {w:Wk} {A:Wm} {E:Value→W1→Prop} {s:W1}
end
end PySem
namespace L2
open PySem PySem.Spec PyProof.Rows
section
variable {X:Cx} {pins:List (Addr×Obj)} {σ:St} {H:Hp} {s:W1} {h':Heap}
end
end L2
namespace DV
open PySem PySem.Spec PyProof.Rows L2
section
variable {X:Cx} {c:Fc} {tg e:Expr} {fe:DE} {pos pp:Pos}
end
end DV
namespace HT
open PySem PySem.Spec PyProof.Rows
section
variable {prog:We} {w:Wk} {A:Wm} {E:Value→W1→Prop} {s:W1}
end
end HT
namespace DV
open PySem PySem.Spec PyProof.Rows L2
section
variable {X:Cx} {c:Fc} {e:Expr} {fb:BE} {pos p2:Pos}
def z54:D→Bool
 | .non=>true
 | _=>false
def pIsN (neg:Bool) (d e:D):Option S:=match e with
 | .non=>some (.pure (.bl (neg != z54 d)))
 | _=>none
theorem zd8:Op2 (fun x y H Q=>y = .non∧Q (.bl (decide (x = .non))) H) (pIsN false):=by
 intro c σ δ H x y d e s Q k rx ry hp q
 cases e with
 | non =>
  simp only [pIsN,W5] at hp
  subst hp
  have ey:y = .non:=by
   rcases ry with r | ⟨a,e,o⟩
   ·cases r; rfl
   ·exact o.elim
  have:decide (x=V.non)=(false != z54 d):=by
   rcases rx with r | ⟨a,e,o⟩
   ·cases r <;> simp [z54]
   ·subst e
    cases d <;> first | exact o.elim | simp [z54]
  exact ⟨ey,by rw [this]; exact q _ H (.refl k) (.bl _)⟩
 | _=>simp [pIsN] at hp
theorem z8H:Op2 (fun x y H Q=>y = .non∧Q (.bl (!decide (x = .non))) H) (pIsN true):=by
 intro c σ δ H x y d e s Q k rx ry hp q
 cases e with
 | non =>
  simp only [pIsN,W5] at hp
  subst hp
  have ey:y = .non:=by
   rcases ry with r | ⟨a,e,o⟩
   ·cases r; rfl
   ·exact o.elim
  have:(!decide (x=V.non))=(true != z54 d):=by
   rcases rx with r | ⟨a,e,o⟩
   ·cases r <;> simp [z54]
   ·subst e
    cases d <;> first | exact o.elim | simp [z54]
  exact ⟨ey,by rw [this]; exact q _ H (.refl k) (.bl _)⟩
 | _=>simp [pIsN] at hp
end
def Fc.park (c:Fc) (i:Nat) (a:Addr):Fc:=⟨c.H₀,fun b=>c.B b∨b=a,(i,a) :: c.pin,c.xc⟩
section
variable {c:Fc} {σ σ':St} {δ δ':Dl} {H H':Hp} {i:Nat} {a:Addr} {ds:List D}
end
section
variable {X:Cx} {c:Fc} {tg iter:Expr} {body:List Stmt} {g:DG} {b:DS} {i:Nat} {pos:Pos}
end
theorem ix_X (hu:X.A.units + 64 < Qh):IxR X (fun x y H Q=>rIxD x y H Q∨rIx X.K x y H Q):=(zbE hu).or z0M
end DV
namespace L2
open PySem PySem.Spec PyProof.Rows
section
variable {X:Cx}
end
end L2
namespace DV
open PySem PySem.Spec PyProof.Rows L2
section
variable {X:Cx} {c:Fc} {e:Expr} {fe:DE} {pos:Pos}
end
section
variable {c:Fc} {σ:St} {δ δ':Dl} {H H':Hp} {i:Nat} {a p:Addr} {ds:List D}
end
open Classical in
noncomputable def itAt (δ₀:Dl) (ds:List D):DI:=fun δ=>if δ=δ₀ then .ok ds δ else .stuck
section
variable {X:Cx} {c:Fc} {cs:List Nat} {tg iter elt:Expr} {ifs:List Expr} {scope:Scope} {pos:Pos} {g:DG} {t:DT} {el:DE} {i:Nat}
end
section
variable {X:Cx} {c:Fc} {e:Expr} {fe:DE} {pos pos':Pos}
end
section
variable {X:Cx} {c:Fc} {pp pos:Pos}
end
section
variable {c:Fc} {σ:St} {δ:Dl} {H:Hp} {a:Addr} {d:D}
end
section
variable {X:Cx} {c:Fc} {e:Expr} {es:List Expr} {as:List Ak} {f0:DE} {k n:Nat} {x:Str} {G:DF} {pp pos:Pos}
end
section
variable {X:Cx} {c:Fc} {e:Expr} {fe:DE} {pos:Pos}
theorem Ok.mutD (k:Ok c σ δ H) (e:δ[i]? = some (some (.own (.dct ds)))) (ea:σ[i]? = some (some (.ref a))) (r:DR H (Av c σ δ) vs' ds') :
  Aft c σ δ H σ (δ.set i (some (.own (.dct ds')))) (upd H a (.dK vs')):=by
 have hi:i < δ.length:=(Wl.mp e).1
 obtain ⟨a',ea',oa,ia,nb⟩:=k.own i _ e
 rw [ea] at ea'; cases ea'
 obtain ⟨vs,ha,_⟩:=oa
 have ownA:Own σ δ a:=⟨i,_,e,ea⟩
 have avA:Av c σ δ a:=.inr ownA
 have own_iff:∀ b,Own σ (δ.set i (some (.own (.dct ds')))) b ↔ Own σ δ b:=fun b=>by
  constructor
  ·rintro ⟨j,d,e1,e2⟩
   by_cases hj:i=j
   ·subst hj
    exact ⟨i,_,e,e2⟩
   ·rw [W9 hj] at e1
    exact ⟨j,d,e1,e2⟩
  ·rintro ⟨j,d,e1,e2⟩
   by_cases hj:i=j
   ·subst hj
    exact ⟨i,_,by rw [Wt hi],e2⟩
   ·exact ⟨j,d,by rw [W9 hj]; exact e1,e2⟩
 have av_iff:∀ b,Av c σ (δ.set i (some (.own (.dct ds')))) b→Av c σ δ b:=fun b z=>z.elim .inl fun z=>.inr ((own_iff b).mp z)
 have ne:∀ b,¬ Av c σ δ b→b≠a:=fun b n z=>n (by rw [z]; exact avA)
 have kp:∀ b o,H b=some o→¬ Av c σ δ b→upd H a (.dK vs') b=some o:=fun b o h n=>by rw [z06 (ne b n)]; exact h
 have hup:∀ b o,H b=some o→∃ o',upd H a (.dK vs') b=some o':=fun b o h=>by
  by_cases hb:b=a
  ·exact ⟨_,by rw [hb]; exact z0d⟩
  ·exact ⟨o,by rw [z06 hb]; exact h⟩
 refine ⟨⟨fun b o h n=>?_,fun b z=>?_,fun b z=>?_,by rw [QS]; exact k.len,fun j d h=>?_,fun j d h=>?_,fun j l b d d' h1 h2 h3 h4=>?_,k.pinned⟩,fun b o h n=>?_,fun b z=>.inl ((own_iff b).mp z),hup⟩
 ·have hb:b≠a:=fun z=>by
   subst z
   rcases ia with z | z
   ·exact n z
   ·rw [z] at h; cases h
  rw [z06 hb]
  exact k.keep b o h n
 ·obtain ⟨o,h⟩:=k.bd b z
  exact hup b o h
 ·obtain ⟨o,h⟩:=k.ith b z
  exact hup b o h
 ·have hj:i≠j:=fun z=>by subst z; rw [Wt hi] at h; cases h
  rw [W9 hj] at h
  obtain ⟨v,h1,h2⟩:=k.slot j d h
  exact ⟨v,h1,(h2.keep kp).anti fun b z=>.inl (av_iff b z)⟩
 ·by_cases hj:i=j
  ·subst hj
   rw [Wt hi] at h
   cases h
   exact ⟨a,ea,(let r':=r.map fun v d h=>(Rep.keep h kp).anti fun b z=>.inl (av_iff b z); ⟨vs',z0d,r'.keys,r'.vals⟩),ia,nb⟩
  ·rw [W9 hj] at h
   obtain ⟨b,h1,h2,h3,h4⟩:=k.own j d h
   have hb:b≠a:=fun z=>by subst z; exact hj (k.inj i j b _ d e h ea h1)
   exact ⟨b,h1,(h2.keep kp fun o q=>by rw [z06 hb]; exact q).anti fun b z=>.inl (av_iff b z),h3,h4⟩
 ·have f1:∃ d,δ[j]? = some (some (.own d)):=by
   by_cases hj:i=j
   ·subst hj; exact ⟨_,e⟩
   ·rw [W9 hj] at h1; exact ⟨d,h1⟩
  have f2:∃ d,δ[l]? = some (some (.own d)):=by
   by_cases hj:i=l
   ·subst hj; exact ⟨_,e⟩
   ·rw [W9 hj] at h2; exact ⟨d',h2⟩
  obtain ⟨_,f1⟩:=f1
  obtain ⟨_,f2⟩:=f2
  exact k.inj j l b _ _ f1 f2 h3 h4
 ·have hb:b≠a:=fun z=>n (by rw [z]; exact ownA)
  rw [z06 hb]; exact h
def z4z (δ:Dl) (i:Nat):Bool:=match δ[i]? with
 | some (some (.own (.dct _)))=>true
 | _=>false
def z43 (i:Nat) (fi fe:DE):DS:=fun δ=>if z4z δ i then (fe δ).bind fun r δ1=>if z4z δ1 i then (fi δ1).bind fun k δ2=>match δ2[i]? with
  | some (some (.own (.dct ds)))=>match keyD k.d with
   | some kk=>if ds.length < W7 then .ok .next (δ2.set i (some (.own (.dct (putD ds kk r.d))))) else .stuck
   | none=>.stuck
  | _=>.stuck else .stuck else .stuck
theorem z8X (h:z4z δ i=true):∃ ds,δ[i]? = some (some (.own (.dct ds))):=by
 unfold z4z at h
 split at h
 ·rename_i ds e; exact ⟨ds,e⟩
 ·cases h
theorem z7Z {i:Nat} {o ix:Expr} {fi:DE} {sp:Pos} (hu:X.A.units + 64 < Qh) (ho:PE X o (tVar i)) (hi:SE X c ix fi) (he:SE X c e fe)
  (hs:Ja e (some (.Subscript o ix sp)) pos.line X.env=pure false:=by rfl):SS X c (.Assign [.Subscript o ix sp] e pos) (z43 i fi fe) :=
 PS.weak (zbj (by omega) ho hi he hs) fun D σ H ⟨δ,k,q⟩=>by
  unfold z43 z22 at q
  split at q
  case isFalse=>exact q.elim
  rename_i hown
  rw [z01] at q
  refine ⟨δ,k,z00 q fun r δ1 q1 v H1 a1 r1=>?_⟩
  split at q1
  case isFalse=>exact q1.elim
  rename_i hown1
  obtain ⟨ds1,e1⟩:=z8X hown1
  obtain ⟨a,ea,_,_⟩:=a1.ok.own i _ e1
  refine ⟨.ref a,ea,δ1,a1.ok,?_⟩
  rw [z01] at q1
  refine z00 q1 fun kx δ2 q2 u H2 a2 r2=>?_
  split at q2
  ·rename_i ds e2
   split at q2
   ·rename_i kk hk
    split at q2
    ·rename_i hz
     obtain ⟨a',ea',oa,_⟩:=a2.ok.own i _ e2
     rw [ea] at ea'; cases ea'
     obtain ⟨ws,ha,hk1,hk2⟩:=id oa
     have dr:DR H2 (Av c σ δ2) ws ds:=DR.of hk1 hk2
     have hu':=z3t hk r2.b
     subst hu'
     have hlen:ws.length=ds.length:=by have:=congrArg Qu hk1; simpa using this
     have rv:Rep H2 (Av c σ δ2) v r.d:=Rep.aft r1.rep a2
     refine ⟨a,_,rfl,DPut.k ha (by rw [hlen]; exact hz),?_⟩
     exact q2 σ _ (a1.trans (a2.trans (Ok.mutD a2.ok e2 ea (dr.put rv))))
    ·exact q2.elim
   ·exact q2.elim
  ·exact q2.elim
end
section
variable {X:Cx} {c:Fc} {o e f:Expr} {fe ff:DE} {i:Nat} {apos cpos:Pos}
end
def bigB:Int:=2 ^ 1000
def zdE (_ j:Int):Prop:=0 < j∧j < bigB
theorem zal (h0:0 < j) (h1:j < bigB):j.natAbs.log2 < 9000:=by
 have e:j.natAbs < 2 ^ 1000:=by
  unfold bigB at h1
  have:((2 ^ 1000:Nat):Int)=(2:Int) ^ 1000:=by exact_mod_cast rfl
  omega
 have:=(Nat.log2_lt (by omega:j.natAbs≠0)).mpr e
 omega
section
variable {X:Cx}
theorem z9P:OpR X (Q5 .FloorDiv) (rI zdE fun i j=>.int (i / j)):=opI fun i j _ _ _ _ _ hc q=>by
 have h1:(0:Int) < j:=hc.1
 exact floordiv_int (by omega) (by rw [Int.fdiv_eq_ediv_of_nonneg i (by omega)]; exact q) (.inl (PyProof.noPylong_of_log2 (zal h1 hc.2)))
end
def z9r (_ j:Int):Bool:=decide (0 < j) && decide (j < bigB)
def zbs:=pII z9r fun i j=>.int (i / j)
theorem zbw:Op2 (rI zdE fun i j=>V.int (i / j)) zbs:=z8J (fun i j h=>by
 unfold z9r at h
 simp only [Ws,decide_eq_true_eq] at h
 exact h) fun _ _ _ _=>.int _
theorem z9O (i j:Int) (h0:0 < j) (h1:j < bigB):zbs (.int i) (.int j)=some (.pure (.int (i / j))):=by
 show (if z9r i j then some (S.pure (.int (i / j))) else none)=_
 have:z9r i j=true:=by unfold z9r; simp only [h0,h1,decide_true,Bool.and_self]
 rw [this]; rfl
end DV
namespace L2
open PySem PySem.Spec PyProof.Rows
theorem z7R {P:We} {w:Wk} {K:W2} {tg:Expr} (it:Addr) (lo:Int) (n:Nat):Turn P w K tg (Itr lo n) [it] it (fun i h=>IsLongIter h it (lo + (i:Nat) * 1) ((n:Int) - (i:Nat)) 1) where
 mem:=by simp
 obj:=fun i h st b hb=>by
  have e:b=it:=by simpa using hb
  subst e
  exact ⟨_,st,fun v z=>by
   have z':Data.fields _=Data.cell v:=z
   cases z'⟩
 keep:=fun i h h' st k=>k it (by simp) _ st
 item:=by
  intro X hP hw hK hc i pins s σ H E I hf st hg
  subst hP hw hK
  obtain ⟨f0,f1,f2,f3,f4,f5⟩:=hf it (by simp)
  have W:=Walks.longrange (prog:=X.prog) (w:=X.w) (I.ok.hd hc) it lo 1 n
  refine W.item i s _ _ hg st fun v h' tk hv st' kk=>?_
  obtain ⟨t,rfl⟩:=hv
  have I1:Inv X pins σ H { s with heap:=h',toks:=tk }:=I.turned (fun b o hb e=>kk b o (by simpa using hb) e) f0 f1 f3 f4 f5
  refine ⟨_,rfl,z91 (s:={ s with heap:=h',toks:=tk }) (n:="longrange_iterator") st' rfl rfl (by decide) ⟨.int (lo + i),H,I1,⟨t,?_⟩,⟨rfl,rfl⟩,st',fun b hb=>(hf b hb).1⟩⟩
  rw [Int.mul_one]
 done:=by
  intro X hP hw hK hc i pins s σ H E I hf st hg
  subst hP hw hK
  obtain ⟨f0,f1,f2,f3,f4,f5⟩:=hf it (by simp)
  exact wpAny_pyNext_long_end (I.ok.hd hc) st (by have:n≤i:=hg; omega) fun h' eb=>⟨rfl,I.turned (t':=s.toks) (fun b o hb e=>eb b o hb e) f0 f1 f3 f4 f5⟩
 self:=fun _ _ _ _ _ st h=>wpAny_pyIter_longiter st h
section
variable {X:Cx} {tg:Expr}
theorem z8n {pins:List (Addr×Obj)} {σ:St} {H:Hp} {s:W1} {R:It→Hp→Prop} {E:Value→W1→Prop} {lo hi:Int} {t u v:Tok} {tk:Nat} (I:Inv X pins σ H s)
  (q:R (Itr lo (hi - lo).toNat) H):W6 (model X.prog X.w) X.A (pyIter (.ref s.heap.objs.size)) (PIE X pins σ tg R) E { s with heap:=s.heap.push { cls:=.type "range",data:=.fields #[.int lo t,.int hi u,.int 1 v] },toks:=tk }:=by
 have e1:lo + ((0:Nat):Int) * 1=lo:=by simp
 have e2:(((hi - lo).toNat:Nat):Int) - ((0:Nat):Int)=Builtin.Range.rangeSize lo hi 1:=by rw [rangeSize_one]; split <;> omega
 have I1:Inv X pins σ H { s with heap:=s.heap.push { cls:=.type "range",data:=.fields #[.int lo t,.int hi u,.int 1 v] },toks:=tk }:=I.kept fun b o e=>W3 _ e
 have fp:∀ (o':Obj) (b:Addr),b ∈ [(s.heap.push { cls:=.type "range",data:=.fields #[.int lo t,.int hi u,.int 1 v] }).objs.size]→FpOk X pins H b:=fun _ b hb=>by
  have e:b=(s.heap.push { cls:=.type "range",data:=.fields #[.int lo t,.int hi u,.int 1 v] }).objs.size:=by simpa using hb
  subst e
  exact I1.fpOk (Wb _) (I1.hok.fresh (Wb _))
 by_cases hsm:Builtin.Range.small lo hi 1=true
 ·refine wpAny_pyIter_range (IsRange.new ..) hsm ?_
  refine ⟨(s.heap.push { cls:=.type "range",data:=.fields #[.int lo t,.int hi u,.int 1 v] }).objs.size,[(s.heap.push { cls:=.type "range",data:=.fields #[.int lo t,.int hi u,.int 1 v] }).objs.size],_,_,H,rfl,
   I1.kept (t':=tk) fun b o e=>W3 _ e,z4j _ lo (hi - lo).toNat,?_,fp ⟨.type "range",none,.fields #[],#[]⟩,q⟩
  show IsRangeIter _ _ (lo + ((0:Nat):Int) * 1) ((((hi - lo).toNat:Nat):Int) - ((0:Nat):Int)) 1
  rw [e1,e2]
  exact Wh _ rfl
 ·refine wpAny_pyIter_longrange (IsRange.new ..) (by simpa using hsm) ?_
  refine ⟨(s.heap.push { cls:=.type "range",data:=.fields #[.int lo t,.int hi u,.int 1 v] }).objs.size,[(s.heap.push { cls:=.type "range",data:=.fields #[.int lo t,.int hi u,.int 1 v] }).objs.size],_,_,H,rfl,
   I1.kept (t':=tk) fun b o e=>W3 _ e,z7R _ lo (hi - lo).toNat,?_,fp ⟨.type "range",none,.fields #[],#[]⟩,q⟩
  show IsLongIter _ _ (lo + ((0:Nat):Int) * 1) ((((hi - lo).toNat:Nat):Int) - ((0:Nat):Int)) 1
  rw [e1,e2]
  exact Wh _ rfl
def zdr (ta:TA):TI:=fun σ H R=>ta σ H fun vs H1=>∃ i j:Int,vs=[.int i,.int j]∧R (Itr i (j - i).toNat) H1
theorem z7v (hg:Gl X "range") (hm:X.mg "range" = none) (ha:PA X [a,b] ta) (hs:Wa [a,b] X.env=[(false,eval a X.env),(false,eval b X.env)]:=by rfl) (hs2:Wa [b] X.env=[(false,eval b X.env)]:=by rfl) :
  PI X tg (.Call (.Name "range" p) [a,b] [] pos) (zdr ta):=by
 intro pins s σ H R I h
 refine Call_ (z5S I hg hm boot_range (PyProof.Rows.callWith_type1 (thn (ha pos pins s σ H _ I h) fun us s1 ⟨vs,H1,I1,r1,q1⟩=>?_) (by rw [hs,hs2]) (by rw [hs2]; rfl)))
 obtain ⟨i,j,e,q⟩:=q1
 subst e
 cases r1 with
 | cons r rr =>
  cases rr with
  | cons r' rr =>
   cases rr
   obtain ⟨t,rfl⟩:=r
   obtain ⟨t',rfl⟩:=r'
   exact call_range_2 (z8n I1 q)
end
end L2
namespace DV
open PySem PySem.Spec PyProof.Rows L2
variable {X:Cx} {c:Fc} {tg e:Expr} {fe:DE} {pp pos:Pos}
def z2j (f g:DE):DI:=fun δ=>(f δ).bind fun r δ1=>(g δ1).bind fun s δ2=>match r,s with
 | .pure (.int i),.pure (.int j)=>.ok (z0k i (j - i).toNat) δ2
 | _,_=>.stuck
theorem z7p {e2:Expr} {fe2:DE} (hg:Gl X "range") (hm:X.mg "range" = none) (he:SE X c e fe) (he2:SE X c e2 fe2) (hs:Wa [e,e2] X.env=[(false,eval e X.env),(false,eval e2 X.env)]:=by rfl) (hs2:Wa [e2] X.env=[(false,eval e2 X.env)]:=by rfl)
  (hs3:Wa [e,e2] X.env=(false,eval e X.env) :: Wa [e2] X.env:=by rfl):SI X c tg (.Call (.Name "range" pp) [e,e2] [] pos) (z2j fe fe2) :=
 PI.weak (z7v hg hm (z0K he (z0K he2 z1M hs2) hs3) hs hs2) fun σ H R ⟨δ,k,q⟩=>by
  unfold z2j at q
  rw [z01] at q
  refine ⟨δ,k,z00 q fun r δ1 q1 v H1 a1 r1=>⟨δ1,a1.ok,?_⟩⟩
  rw [z01] at q1
  refine z00 q1 fun r2 δ2 q2 v2 H2 a2 r2'=>?_
  cases r with
  | own d=>exact q2.elim
  | pure d =>
   cases d <;> first | exact q2.elim | skip
   rename_i i
   cases r1
   cases r2 with
   | own d=>exact q2.elim
   | pure d =>
    cases d <;> first | exact q2.elim | skip
    rename_i j
    cases r2'
    exact ⟨i,j,rfl,q2 _ H2 (a1.trans a2) (z7a i (j - i).toNat)⟩
section
variable {X:Cx}
end
theorem vals_ints:∀ {ns:List Int} {us:List Value},Vals (ns.map V.int) us→∃ ys:List (Int×Tok),us=(ys.map fun p=>Value.int p.1 p.2)∧ns=ys.map (·.1)
 | [],us,r=>by cases r; exact ⟨[],rfl,rfl⟩
 | n :: ns,us,r=>by
  cases r with
  | cons r1 r2 =>
   obtain ⟨ys,e1,e2⟩:=vals_ints r2
   obtain ⟨t,rfl⟩:=r1
   exact ⟨(n,t) :: ys,by rw [e1]; rfl,by rw [e2]; rfl⟩
section
variable {X:Cx}
end
section
variable {X:Cx} {c:Fc} {e:Expr} {fb:BE} {pos pp:Pos}
end
end DV
namespace L2
open PySem PySem.Spec PyProof.Rows
section
variable {prog:We} {w:Wk} {A:Wm} {E:Value→W1→Prop} {s:W1}
end
section
variable {X:Cx} {pos:Pos}
end
end L2
namespace DV
open PySem PySem.Spec PyProof.Rows L2
section
variable {X:Cx} {c:Fc} {pos:Pos}
end
open PySem PySem.Builtin PySem.Builtin.Str PySem.StrLaws
section
variable {X:Cx}
end
section
variable {X:Cx} {c:Fc} {e:Expr} {fb:BE}
end
end DV
set_option maxHeartbeats 1000000
namespace PySem
open Sem (wp)
open AutoSeq1 (wpAny_loadPart')
section
variable {prog:We} {w:Wk} {A:Wm} {E:Value→W1→Prop} {s:W1}
end
end PySem
namespace PyProof.Rows
open PySem
section
variable {M:Model} {A:Wm} {E:Value→W1→Prop} {s:W1} {env:Env}
end
end PyProof.Rows
set_option maxHeartbeats 400000
namespace L2
open PySem PySem.Spec PyProof.Rows
end L2
namespace DV
open PySem PySem.Spec PyProof.Rows L2
section
variable {X:Cx} {c:Fc} {tg e:Expr} {fe:DE} {pos pp:Pos}
end
end DV
namespace L2
open PySem PySem.Spec PyProof.Rows
structure Noted (h h':Heap) (fs:List Addr) (a T:Addr) (old:Value):Prop where
 new:h.get? T=none
 keep:∀ b o,h.get? b=some o→b≠a→old≠.ref b→b ∉ fs→h'.get? b=some o
 frame:∀ b o,h.get? b=some o→(∀ vs,o.data≠.fields vs)→∃ sl,h'.get? b=some { o with slots:=sl }
section
variable {M:Model} {A:Wm} {E:Value→W1→Prop} {s:W1}
end
abbrev vErr:List Value:=[.type "ValueError",.type "Exception",.type "BaseException",.type "object"]
section
variable {X:Cx} {x:Str} {C:Addr} {np cpos pos:Pos}
end
section
variable {X:Cx} {pins:List (Addr×Obj)} {σ:St} {H:Hp} {s:W1} {h':Heap}
end
structure Apart (X:Cx) (pins:List (Addr×Obj)) (H:Hp) (b:Addr):Prop where
 old:X.s₀.heap.get? b=none
 free:H b=none
 loc:b≠X.env.locals
 cel:∀ x c,X.env.cells.lookup x=some c→c≠b
 pin:∀ p ∈ X.pn ++ pins,p.1≠b
section
variable {X:Cx} {pins:List (Addr×Obj)} {σ:St} {H:Hp} {s:W1} {h':Heap} {a T:Addr}
end
section
variable {prog:We} {w:Wk} {A:Wm} {E:Value→W1→Prop} {K:W2}
end
section
variable {X:Cx} {pins ps:List (Addr×Obj)} {σ:St} {H:Hp} {s:W1} {a:Addr} {xe:Value→W1→Prop} {pn:List (Addr×Obj)}
section
variable {M:Model} {E:Value→W1→Prop} {C L:Addr} {dx:Option Addr} {Q:Unit→W1→Prop}
end
end
section
variable {X:Cx} {pins:List (Addr×Obj)} {σ:St} {H:Hp} {s:W1} {b:Addr}
end
section
variable {X:Cx} {k:Nat} {f:Addr} {fd:WC} {ps:List Str} {sp:Sp} {x:Str} {p pos:Pos} {e:Expr} {es:List Expr} {t:TA} {W:Addr→Option Addr→St→Hp→Prop}
end
section
variable {P:We} {w:Wk} {K:W2} {mg:Str→Option Value} {base:Heap} {N:List Str} {qual:Str} {scope:Scope} {f:Addr} {cd:Value} {A:Wm} {outer:List Env} {s₀:W1} {H₀:Hp} {E:XK}
end
def Cx.loop (X:Cx):Cx:={ X with xe:=notedBy (model X.prog X.w) X.A X.env (cameBackBy (model X.prog X.w) X.A X.env X.xe) }
section
variable {X:Cx} {pins ps:List (Addr×Obj)} {σ:St} {H:Hp} {s:W1}
end
end L2
namespace DV
open PySem PySem.Spec PyProof.Rows L2
section
variable {c:Fc} {σ σ':St} {δ δ':Dl} {H H':Hp} {g:Xc→Dl→Prop}
end
abbrev DX:=List S→Option ((S×List S) ⊕ (Xc×List S))
section
variable {P:We} {w:Wk} {K:W2} {mg:Str→Option Value} {base:Heap}
end
section
variable {X:Cx} {c:Fc} {e:Expr} {es:List Expr} {as:List Ak} {k n:Nat} {x:Str} {G:DX} {pp pos:Pos}
end
section
variable {c:Fc} {σ σ':St} {δ δ':Dl} {H H':Hp}
end
section
variable {c:Fc} {σ σ':St} {δ δ':Dl} {H H':Hp} {B':Addr→Prop} {g:Xc→Dl→Prop}
end
end DV
namespace L2
open PySem PySem.Spec PyProof.Rows PySem.W Builtin Builtin.ObjectAttr Builtin.Getset_descriptor
section
variable {prog:We} {w:Wk} {A:Wm} {E:Value→W1→Prop} {K:W2} {C e:Addr} {oe:Obj} {h:Heap} {g:Array GenState} {d:Drawn} {t:Nat} {os:OsState}
structure ExcK (K:W2) (C:Addr):Prop where
 ga:findIn K (.ref C) "__getattribute__" = some (some (.builtin "BaseException.__getattribute__"))
 gt:findIn K (.ref C) "__getattr__" = some none
 cl:findIn K (.ref C) "__class__" = some (some (.builtin "object.__class__"))
 sp:specialIn K (.builtin "object.__class__") "__get__" = some (some (.builtin "getset_descriptor.__get__"))
 tk:takesIn K (.builtin "object.__class__")=some true
 mo:mroIn K C (.type "object")=some true
 mb:mroIn K C (.type "BaseException")=some true
end
section
variable {X:Cx} {y:Str} {D:Addr} {pos:Pos}
structure IsT (K:W2) (ce:DV.Tx→Nat) (ys:List DV.Tx) (cv:Value) (tab:DV.Tx→Bool):Prop where
 k:∀ z ∈ ys,ExcK K (ce z)
 c:∀ z ∈ ys,(PySem.W.clsIn K (ce z)).isSome=true
 one:∀ z ∈ ys,Ql K (.ref (ce z)) cv=some (tab z)
end
structure RoomH (k:Nat) (A:Wm):Prop where
 dp:A.depth + 3 * k + 5 < recursionLimit
 un:A.units + 16 * k + 200 < Qh
structure FnOkH (P:We) (w:Wk) (K:W2) (mg:Str→Option Value) (base:Heap) (k:Nat) (f:Addr) (fd:WC) (ps:List Str) (sp:Sp):Prop where
 len:∀ vs H Q E,sp vs H Q E→vs.length=ps.length
 run:∀ (A:Wm) (outer:List Env) (s:W1) (H:Hp) (args:Args) (us:List Value) (vs:List V) (Q:VK),RoomH k A→Env0 P w K mg base A outer s H→BindsTo s fd args (ps.zip us)→Vals vs us→sp vs H Q E0 →
  Q1 (model P w) A (.call (.ref f) args) (CR CX0 outer P w H s Q E0) s
section
variable {P:We} {w:Wk} {K:W2} {mg:Str→Option Value} {base:Heap} {k:Nat} {f:Addr}
end
section
variable {X:Cx} {k:Nat} {f:Addr} {fd:WC} {ps:List Str} {sp:Sp} {x:Str} {p pos:Pos} {e:Expr} {es:List Expr} {t:TA}
end
end L2
namespace DV
open PySem PySem.Spec PyProof.Rows L2
section
variable {X:Cx} {c:Fc} {e:Expr} {fb:BE} {pp py pos:Pos} {y:Str} {ce:Tx→Nat} {ys:List Tx} {tab:Tx→Bool}
end
section
variable {P:We} {w:Wk} {K:W2} {mg:Str→Option Value} {base:Heap}
end
section
variable {X:Cx} {c:Fc} {e:Expr} {es:List Expr} {as:List Ak} {k n:Nat} {x:Str} {G:DF} {pp pos:Pos}
end
end DV
namespace L2
open PySem PySem.Spec PyProof.Rows PySem.SeqAt
section
variable {X:Cx}
end
end L2
namespace DV
open PySem PySem.Spec PyProof.Rows L2
section
variable {X:Cx} {c:Fc} {e:Expr} {fb:BE}
end
end DV
namespace L2
open PySem PySem.Spec PyProof.Rows
section
variable {X:Cx}
end
end L2
namespace DV
open PySem PySem.Spec PyProof.Rows L2
end DV
namespace PySem
open Sem (wp)
structure ZA (z TI TO i1 i2:Addr) (f1 f2:List Addr):Prop where
 m1:i1 ∈ f1
 m2:i2 ∈ f2
 z1:z ∉ f1
 z2:z ∉ f2
 t1:TO ∉ f1
 t2:TO ∉ f2
 k1:i1 ∉ f2
 k2:i2 ∉ f1
 tz:TO≠z
 iz:TI≠z
 io:TI≠TO
 n1:TI≠i1
 n2:TI≠i2
section
variable {prog:We} {w:Wk} {A:Wm} {E:Value→W1→Prop} {s:W1}
end
def itO (b:Bool) (a:Addr):Obj:={ cls:=.type (match b with | true=>"list_iterator" | false=>"tuple_iterator"),data:=.fields #[.ref a,.int 0 0] }
end PySem
namespace L2
open PySem PySem.Spec PyProof.Rows
section
variable {X:Cx} {pins:List (Addr×Obj)} {σ:St} {H:Hp} {s:W1} {h':Heap}
end
end L2
namespace DV
open PySem PySem.Spec PyProof.Rows L2
section
variable {X:Cx} {c:Fc} {tg e:Expr} {fe:DE} {pos pp:Pos}
end
section
variable {X:Cx} {c:Fc} {e:Expr} {es:List Expr} {as:List Ak} {k n:Nat} {x:Str} {G:DX} {pp pos:Pos}
end
end DV
namespace PySem
open Sem (wp)
section
variable {prog:We} {w:Wk} {A:Wm} {E:Value→W1→Prop} {hp:Heap} {g:Array GenState} {d:Drawn} {t:Nat} {os:OsState}
variable {nm qn:Str} {C N:Addr} {bs bm bmB:List Value} {hdct:Bool} {sn:List Str} {sub:List Value} {ab:Bool} {col:Option Bool} {dd:Option Addr} {k0 k1 k2 k3 k5:Option Value} {B newId initId:String}
end
end PySem
namespace L2
open PySem PySem.Spec PyProof.Rows PySem.W PySem.Builtin PySem.Builtin.ObjectAttr
def zcV:List Value→Bool
 | .ref _ :: r=>zcV r
 | l=>l == vErr
def zcW (K:W2) (C:Addr):Bool:=(clsIn K C).any fun cd=>zcV cd.mro
section
variable {prog:We} {w:Wk} {A:Wm} {E:Value→W1→Prop} {s:W1} {K:W2} {x C:Addr} {name:Str} {v:Value} {R:Result→W1→Prop}
end
section
variable {P:We} {w:Wk} {H:Hp} {h:Heap} {C a:Addr}
end
structure ExcS (K:W2) (C:Addr) (f:Str):Prop where
 set:findIn K (.ref C) "__setattr__" = some (some (.builtin "object.__setattr__"))
 over:zcW K C=true
 hd:hasDictIn K C=true
 tk:takerIn K C f=some none
section
variable {X:Cx} {o value:Expr} {f:Str} {ta tv:TE} {pos pos':Pos}
end
section
variable {X:Cx} {k:Nat} {f C:Addr} {fd:WC} {ps:List Str} {sp:Sp} {x:Str} {p pos:Pos} {e:Expr} {es:List Expr} {t:TA}
end
section
variable {P:We} {w:Wk} {K:W2} {mg:Str→Option Value} {base:Heap} {x qual f1 f2:Str} {st:Stmt} {f:Addr} {fd:WC} {N ps:List Str} {k:Nat}
end
section
variable {X:Cx} {C f:Addr} {call:Expr} {te:TE} {pos:Pos}
end
end L2
namespace DV
open PySem PySem.Spec PyProof.Rows L2 PySem.W
section
variable {X:Cx} {c:Fc} {e:Expr} {fb:BE}
end
end DV
namespace L2
open PySem PySem.Spec PyProof.Rows
section
variable {X:Cx} {tg:Expr}
end
end L2
namespace DV
open PySem PySem.Spec PyProof.Rows L2
section
variable {X:Cx} {c:Fc} {tg e:Expr} {fe:DE} {pos pp:Pos}
end
end DV
namespace PySem.SeqAt
open AutoSeq1 (wpAny_loadPart')
open MeetsSeq
section
variable {A:Wm} {s:W1}
end
end PySem.SeqAt
namespace DV
open PySem PySem.Spec PyProof.Rows L2
end DV
namespace PySem.SeqAt
open AutoSeq1 (wpAny_loadPart')
open MeetsSeq
abbrev prO (dd:Option Addr) (a1 a2:Int) (t1 t2:Tok) (n:Nat) (sl:Array (Option Value)):Obj:={ cls:=.type "tuple",dict:=dd,data:=.seq #[.int a1 t1,.int a2 t2] n,slots:=sl }
def ltP (a1 a2 b1 b2:Int):Bool:=if a1 == b1 then decide (a2 < b2) else decide (a1 < b1)
theorem z7T (l b:Addr) (a1 a2 b1 b2:Int) (t1 t2 u1 u2:Tok) (n n2:Nat) (dd dd2:Option Addr) (sl sl2:Array (Option Value)) :
  Meets (Builtin.«tuple.__lt__» ⟨[.ref l,.ref b],[]⟩)
   (fun _ R s=>s.heap.get? l=some (prO dd a1 a2 t1 t2 n sl)∧s.heap.get? b=some (prO dd2 b1 b2 u1 u2 n2 sl2)∧R (.ok (.ret (.bool (ltP a1 a2 b1 b2)))) s) :=
 .of_wp fun prog w A R s h=>by
  obtain ⟨hp,g,d,tk,os⟩:=s; obtain ⟨hl,hb,h⟩:=h
  have f2:=AutoSeq1.sub_tuple_tuple
  wp_walk using Qy hl,Qy hb,wpAny_forIn_list _ (fun rest c s'=>c.1=none∧s' = ⟨hp,g,d,tk,os⟩ ∧
   (rest=[(.int a1 t1,.int b1 u1),(.int a2 t2,.int b2 u2)]∨(rest=[(.int a2 t2,.int b2 u2)]∧a1=b1)∨(rest=[]∧a1=b1∧a2=b2))) _
  case turn =>
   rintro ⟨y,x⟩ rest c s' ⟨hc,rfl,hz⟩
   rcases hz with hz | ⟨hz,e1⟩ | ⟨hz,_⟩
   ·injection hz with hyx hrest
    cases hyx
    refine W0 (EqAt.int_int a1 t1 b1 u1 prog w _ _ ?_)
    by_cases e:a1=b1
    ·rw [show (a1 == b1)=true by simp [e]]
     wp_walk
     exact ⟨rfl,rfl,.inr (.inl ⟨hrest,e⟩)⟩
    ·rw [show (a1 == b1)=false by simp [e]]
     have hlt:ltP a1 a2 b1 b2=decide (a1 < b1):=by simp [ltP,e]
     rw [hlt] at h
     simp only [Bool.not_false,if_true]
     refine W0 (QG ?_)
     refine W0 (richCompare_gives (op:=.Lt) (Jg _ _ t1) (Jg _ _ u1) F.slot_int_lt F.entry_int_lt (F.args_int_lt_2 _ _) (gives_int_lt _ _ t1 u1) (fun x=>nomatch x) ?_)
     refine W0 (W4 ?_)
     exact W4 (W4 ⟨_,rfl,h⟩)
   ·injection hz with hyx hrest
    cases hyx
    refine W0 (EqAt.int_int a2 t2 b2 u2 prog w _ _ ?_)
    by_cases e:a2=b2
    ·rw [show (a2 == b2)=true by simp [e]]
     wp_walk
     exact ⟨rfl,rfl,.inr (.inr ⟨hrest,e1,e⟩)⟩
    ·rw [show (a2 == b2)=false by simp [e]]
     have hlt:ltP a1 a2 b1 b2=decide (a2 < b2):=by simp [ltP,e1]
     rw [hlt] at h
     simp only [Bool.not_false,if_true]
     refine W0 (QG ?_)
     refine W0 (richCompare_gives (op:=.Lt) (Jg _ _ t2) (Jg _ _ u2) F.slot_int_lt F.entry_int_lt (F.args_int_lt_2 _ _) (gives_int_lt _ _ t2 u2) (fun x=>nomatch x) ?_)
     refine W0 (W4 ?_)
     exact W4 (W4 ⟨_,rfl,h⟩)
   ·cases hz
  case fin =>
   rintro ⟨c1,c2⟩ s' ⟨hc,rfl,hz⟩
   simp only at hc
   subst hc
   rcases hz with hz | ⟨hz,e1⟩ | ⟨_,e1,e2⟩
   ·cases hz
   ·cases hz
   ·have hlt:ltP a1 a2 b1 b2=false:=by simp [ltP,e1,e2]
    rw [hlt] at h
    wp_walk
    exact ⟨_,rfl,h⟩
  case h=>exact ⟨rfl,rfl,.inl rfl⟩
end PySem.SeqAt
namespace PySem
open SeqAt (prO ltP z7T)
section
variable {prog:We} {w:Wk} {A:Wm} {R:Result→W1→Prop} {I:Addr} {fp wr:List Addr} {n:Nat} {P:Nat→Value→Prop} {St:Nat→Heap→Prop}
end
section
variable {prog:We} {w:Wk} {A:Wm} {E:Value→W1→Prop} {s:W1}
end
end PySem
namespace DV
open PySem PySem.Spec PyProof.Rows L2
open PySem.SeqAt (prO ltP)
section
variable {X:Cx} {c:Fc} {e:Expr} {fb:BE} {pos pp:Pos}
end
def z64 (fk fv:DE):DE:=fun δ=>(fk δ).bind fun r δ1=>(fv δ1).bind fun s δ2=>match r,s with
 | .pure dk,.pure d=>match keyD dk with
  | some kk=>.ok (.own (.dct [(kk,d)])) δ2
  | none=>.stuck
 | _,_=>.stuck
section
variable {c:Fc} {σ:St} {δ δ':Dl} {H H':Hp} {p:Addr}
theorem Ok.updP (k:Ok (c.plus p) σ δ H) (h0:c.H₀ p=none) (o:HO):Ok (c.plus p) σ δ (upd H p o):=by
 have kpl:∀ b w,H b=some w→¬ Av (c.plus p) σ δ b→upd H p o b=some w:=fun b w e n=>by
  rw [z06 (fun z:b=p=>n (.inl (.inr z)))]; exact e
 have ex:∀ b,(∃ w,H b=some w)→∃ w,upd H p o b=some w:=fun b ⟨w,e⟩=>by
  by_cases z:b=p
  ·rw [z]; exact ⟨o,z0d⟩
  ·rw [z06 z]; exact ⟨w,e⟩
 refine ⟨fun a w e n=>?_,fun a z=>ex a (k.bd a z),fun a z=>ex a (k.ith a z),k.len,fun i d e=>?_,fun i d e=>?_,k.inj,k.pinned⟩
 ·rw [z06 (fun z:a=p=>by have e':c.H₀ a=some w:=e; rw [z,h0] at e'; cases e')]
  exact k.keep a w e n
 ·obtain ⟨v,e1,r⟩:=k.slot i d e
  exact ⟨v,e1,r.keep kpl⟩
 ·obtain ⟨a,e1,oa,h1,h2⟩:=k.own i d e
  exact ⟨a,e1,oa.keep kpl (fun w e=>by rw [z06 (fun z:a=p=>h2 (.inr z))]; exact e),h1,h2⟩
theorem z5C (h:post c r k) (m:∀ a δ,k a δ→k' a δ):post (c.plus p) r k':=by
 cases r with
 | ok a δ=>exact m a δ h
 | exc x δ=>exact h
 | stuck=>exact h
end
theorem z9D {X:Cx} {c:Fc} {k v:Expr} {fk fv:DE} {pos:Pos} (hk:∀ c',SE X c' k fk) (hv:∀ c',SE X c' v fv):SE X c (.Dict [some k] [v] pos) (z64 fk fv):=by
 have PK:PE X k (fun σ H Q=>∃ c',tD c' fk σ H Q):=fun pins s σ H Q I ⟨c',h⟩=>hk c' pins s σ H Q I h
 have PV:PE X v (fun σ H Q=>∃ c',tD c' fv σ H Q):=fun pins s σ H Q I ⟨c',h⟩=>hv c' pins s σ H Q I h
 refine PE.weak (zbo (z9L PK PV zbk) rfl rfl (by simp) (by simp)) fun σ H Q ⟨δ,kk,q⟩=>?_
 intro p hp
 show ∃ c',tD c' fk σ (upd H p (.dK [])) fun x H1=>∃ c',tD c' fv σ H1 fun y H2=>H2 p=some (.dK [])∧∃ kvs:List (Key×V),[(x,y)]=kvs.map (fun kv=>(kV kv.1,kv.2))∧kvs.length≤15∧Q (.ref p) (upd H2 p (.dK (z3Q [] kvs)))
 unfold z64 at q
 rw [z01] at q
 refine ⟨c.plus p,δ,kk.plus hp _,z5C q fun r δ1 q1 x H1 a1 rx=>?_⟩
 rw [z01] at q1
 refine ⟨c.plus p,δ1,a1.ok,z5C q1 fun s δ2 q2 y H2 a2 ry=>?_⟩
 have A:=a1.trans a2
 have h0:=kk.fresh₀ hp
 have nb:¬ c.B p:=fun z=>kk.nav hp (.inl z)
 have Hp2:H2 p=some (.dK []):=A.keep p _ z0d fun z=>kk.nav hp (.inr z)
 cases r with
 | own d=>exact q2.elim
 | pure dk =>
  cases s with
  | own d=>exact q2.elim
  | pure d =>
   cases hkd:keyD dk with
   | none=>simp only [hkd] at q2; exact q2.elim
   | some kd =>
    simp only [hkd] at q2
    have ex:x=kV (kOf kd):=z3t hkd (.inl rx)
    refine ⟨Hp2,[(kOf kd,y)],by rw [ex]; rfl,by simp,?_⟩
    have em:z3Q [] [(kOf kd,y)]=[(kOf kd,y)]:=rfl
    rw [em]
    have ok':=A.ok.updP h0 (.dK [(kOf kd,y)])
    have ne:∀ {a w},H a=some w→a≠p:=fun e z=>by rw [z,hp] at e; cases e
    refine q2 (.ref p) _ ⟨ok'.less,fun a w e n=>?_,fun a z=>?_,fun a w e=>?_⟩ ⟨p,rfl,⟨[(kOf kd,y)],z0d,rfl,fun i u t e1 e2=>?_⟩,nb,h0,ok',hp⟩
    ·rw [z06 (ne e)]
     exact A.keep a w (by rw [z06 (ne e)]; exact e) n
    ·by_cases zp:a=p
     ·rw [zp]; exact .inr hp
     ·rcases A.own a z with z | z
      ·exact .inl z
      ·rw [z06 zp] at z; exact .inr z
    ·obtain ⟨w',e'⟩:=A.there a w (by rw [z06 (ne e)]; exact e)
     exact ⟨w',by rw [z06 (ne e)]; exact e'⟩
    ·match i with
     | 0 =>
      cases e1
      cases e2
      exact Rep.keep (show Rep H2 (Av (c.plus p) σ δ2) y d from ry) fun b w e n=>by rw [z06 (fun z:b=p=>n (.inl (.inr z)))]; exact e
     | i + 1=>cases e1
end DV
namespace L2
open PySem PySem.Spec PyProof.Rows
end L2
namespace DV
open PySem PySem.Spec PyProof.Rows L2
section
variable {X:Cx} {c:Fc} {tg e:Expr} {fe:DE} {pos pp:Pos}
end
section
variable {K:W2} {h:Heap} {mg:Str→Option Value} {x q:Str} {st:Stmt} {f:Addr} {fd:WC}
abbrev FnH (K:W2) (x:Str) (st:Stmt):Prop:=∃ (f:Addr) (oc:Value) (od:Option Addr) (kV dc pm:Value) (an:Option Addr) (cd ct:Value) (sl:Array (Option Value)),
 PySem.W.nsIn K Wp x=some (some (.ref f))∧K.lookup f=some ⟨oc,od,.func (WN x x (z14 st) (z0v st) (z02 st) .none kV dc pm an cd ct),sl⟩∧PySem.W.codeIn K cd x=true∧Qk K (.ref f)=true
theorem fnH (X:K.In h) (G:h.Ns Wp mg) (d:FnH K x st):∃ f fd,Fun K x x st f fd∧mg x=some (.ref f):=by
 obtain ⟨f,oc,od,kV,dc,pm,an,cd,ct,sl,a,l,c,k⟩:=d
 exact ⟨f,_,z94 l c k,PySem.W.mg_of X G a⟩
abbrev Bd (x q:Str) (st:Stmt) (ps:List Str) (us:List Value):Prop:=∀ (kV doc pm:Value) (an:Option Addr) (cdv ct:Value),bindArgs (WN x q (z14 st) (z0v st) (z02 st) .none kV doc pm an cdv ct) ⟨us,[]⟩=pure (ps.zip us)
variable {p1 p2 p3 p4 p5 p6:Str}
theorem bd1 (F:Fun K x q st f fd) (h:∀ a,Bd x q st [p1] [a]):Binds K fd [p1] []:=F.binds fun _ _ _ _ _ _ us hl=>match us,hl with
 | [a],_=>h a _ _ _ _ _ _
theorem bd2 (F:Fun K x q st f fd) (h:∀ a b,Bd x q st [p1,p2] [a,b]):Binds K fd [p1,p2] []:=F.binds fun _ _ _ _ _ _ us hl=>match us,hl with
 | [a,b],_=>h a b _ _ _ _ _ _
theorem bd4 (F:Fun K x q st f fd) (h:∀ a b c d,Bd x q st [p1,p2,p3,p4] [a,b,c,d]):Binds K fd [p1,p2,p3,p4] []:=F.binds fun _ _ _ _ _ _ us hl=>match us,hl with
 | [a,b,c,d],_=>h a b c d _ _ _ _ _ _
end
theorem fm1 {α:Type} {P:α→Prop} {a:α} (x:P a):∀ z ∈ [a],P z:=fun _ h=>by cases h with | head=>exact x | tail _ h=>cases h
end DV
namespace L2
open PySem PySem.Spec PyProof.Rows
section
variable {X:Cx} {tg:Expr}
end
section
variable {X:Cx} {e:Expr} {ta:TE} {f:Str} {pos:Pos}
structure AtT (K:W2) (ce:DV.Tx→Nat) (ys:List DV.Tx) (f:Str):Prop where
 k:∀ z ∈ ys,ExcK K (ce z)
 no:∀ z ∈ ys,QY K (.ref (ce z)) f=some none
 hd:∀ z ∈ ys,PySem.W.hasDictIn K (ce z)=true
end
end L2
namespace DV
open PySem PySem.Spec PyProof.Rows L2
section
variable {X:Cx} {c:Fc} {tg e:Expr} {fe:DE} {pos pp:Pos}
end
end DV
namespace L2
open PySem PySem.Spec PyProof.Rows
section
variable {X:Cx}
end
end L2
namespace DV
open PySem PySem.Spec PyProof.Rows L2
end DV
namespace L2
open PySem PySem.Spec PyProof.Rows PySem.SeqAt DV
section
variable {X:Cx}
end
end L2
namespace DV
open PySem PySem.Spec PyProof.Rows L2
section
variable {X:Cx} {c:Fc} {o e:Expr} {fa fb:DE}
end
end DV
namespace L2
open PySem PySem.Spec PyProof.Rows PySem.W DV
section
variable {α β:Type} {n:Nat}
end
section
variable {n:Nat} {p:Array Nat}
end
structure TupK (h:Heap) (vs:List Value) (ks:List Tx):Prop where
 len:ks.length=vs.length
 at':∀ i v,vs[i]? = some v→∃ b o xs m t,v = .ref b∧h.get? b=some o∧o.cls = .type "tuple"∧o.data = .seq xs m∧xs[0]? = some (.str (toS (ks.getD i [])) t)
section
variable {prog:We} {w:Wk} {A:Wm} {E:Value→W1→Prop} {s:W1} {vs:List Value} {ks:List Tx}
end
section
variable {X:Cx}
end
end L2
namespace DV
open PySem PySem.Spec PyProof.Rows L2
section
variable {X:Cx} {c:Fc} {e:Expr} {fb:BE} {pp pos:Pos}
end
section
variable {X:Cx} {c:Fc} {e:Expr} {fe:DE} {fb:BE} {pos:Pos}
end
section
variable {X:Cx}
end
section
variable {X:Cx} {c:Fc} {e:Expr} {fb:BE}
end
section
variable {X:Cx} {c:Fc} {e:Expr} {fe:DE}
end
section
variable {H H':Hp} {O:Addr→Prop} {v:V} {a:Addr} {us:List V}
end
section
variable {c:Fc} {σ:St} {δ δ1:Dl} {H H1:Hp} {i:Nat} {ds:List D} {g:Xc→Dl→Prop}
end
section
variable {X:Cx} {c:Fc} {e:Expr} {es:List Expr} {as:List Ak} {k n i:Nat} {x:Str} {G:DX} {pp pos:Pos}
end
section
variable {c:Fc} {σ σ':St} {δ δ':Dl} {H H':Hp} {B':Addr→Prop} {g:Xc→Dl→Prop} {i0:Nat} {a:Addr} {ds:List D}
end
end DV
namespace L2
open PySem PySem.Spec PyProof.Rows PySem.W DV
section
variable {prog:We} {w:Wk} {A:Wm} {E:Value→W1→Prop} {s:W1} {vs:List Value}
end
section
variable {lt:Nat→Nat→Bool} {r:Nat→Nat} {n:Nat} {α β:Type}
structure Lt (lt:Nat→Nat→Bool) (r:Nat→Nat) (n:Nat):Prop where
 lt:∀ i j,i < n→j < n→lt i j=decide (r i < r j)
 inj:∀ i j,i < n→j < n→i≠j→r i≠r j
end
end L2
namespace DV
open PySem PySem.Spec PyProof.Rows L2
section
variable {X:Cx} {c:Fc} {e:Expr} {fb:BE} {pp pos:Pos}
end
end DV
set_option maxHeartbeats 1000000
namespace SU
open PySem PyProof.Rows
def bt (w:Wk):Bool:=w.params.followText "set-order"
def elE (prog:We) (w:Wk) (x:Str×Tok):Int×Value:=((strKind prog w).hash x.1,.str x.1 x.2)
structure SetX (prog:We) (w:Wk) (h:Heap) (a:Addr) (ks:List Str) (o:Obj) (es:Array (Int×Value)) (ep:Nat) (t:SetTable) (xs:List (Str×Tok)):Prop where
 g:h.get? a=some o
 ex:o.ExactSet
 d:o.data = .set es ep t
 e:es.toList=xs.map (elE prog w)
 p:(xs.map (·.1)).Perm ks
 nd:ks.Nodup
 f:t.fits es.size=true
 b:es.size < Jf
 l:bt w=false→t.led=true
 q:t.plain=true→ks=[]
def SetL (prog:We) (w:Wk) (h:Heap) (a:Addr) (ks:List Str):Prop:=∃ o es ep t xs,SetX prog w h a ks o es ep t xs
def dd (σ:List Str) (v:Str):List Str:=if v ∈ σ then σ else σ ++ [v]
def fm (val:Nat→Str) (i:Nat):List Str:=((Wr i).map val).foldl dd []
theorem z96 (val:Nat→Str) (i:Nat):fm val (i + 1)=dd (fm val i) (val i):=by
 unfold fm
 simp [Jq,List.foldl_append]
theorem zac (v:Str) (h:σ.Nodup):(dd σ v).Nodup:=by
 unfold dd
 split
 ·exact h
 ·rename_i hv
  exact Jj.mpr ⟨h,by simp,fun x hx y hy e=>hv (by simp at hy; rw [← hy,← e]; exact hx)⟩
theorem zdC (σ:List Str) (v:Str):(dd σ v).length≤σ.length + 1:=by
 unfold dd
 split
 ·omega
 ·simp
theorem zaG (val:Nat→Str):∀ i,(fm val i).length≤i
 | 0=>Wb _
 | i + 1=>by
  rw [z96]
  have:=zaG val i
  have:=zdC (fm val i) (val i)
  omega
section
variable {prog:We} {w:Wk} {A:Wm} {E:Value→W1→Prop} {s:W1}
theorem zaE (h:(strKind prog w).is k v=true):∃ t,v = .str k t:=by
 cases v <;> simp [PySem.strKind,Value.isStrOf] at h
 rename_i y t
 exact ⟨t,by rw [h]⟩
theorem z6P (xs:List (Str×Tok)):ElemsOf (strKind prog w) (xs.map (elE prog w)):=fun e he=>by
 obtain ⟨x,_,rfl⟩:=WU.mp he
 exact ⟨⟨x.1,strKind_is _ _ _ _,rfl⟩,rfl⟩
theorem z7j:∀ (l:List (Int×Value)),ElemsOf (strKind prog w) l→∃ xs:List (Str×Tok),l=xs.map (elE prog w)
 | [],_=>⟨[],rfl⟩
 | e :: l,h=>by
  obtain ⟨xs,e1⟩:=z7j l h.tail
  obtain ⟨⟨k,q,r⟩,_⟩:=h.head
  obtain ⟨t,et⟩:=zaE q
  obtain ⟨e0,ev⟩:=e
  simp only at r et
  subst r; subst et
  exact ⟨(k,t) :: xs,by rw [Wj,← e1]; rfl⟩
theorem z6j {l:List (Int×Value)} {xs:List (Str×Tok)} (p:l.Perm (xs.map (elE prog w))):∃ zs:List (Str×Tok),l=zs.map (elE prog w)∧(zs.map (·.1)).Perm (xs.map (·.1)):=by
 obtain ⟨zs,ez⟩:=z7j l fun e he=>z6P xs e (p.mem_iff.mp he)
 refine ⟨zs,ez,?_⟩
 have q1:=p.map fun e:Int×Value=>match e.2 with | .str k _=>k | _=>default
 rw [ez,Wy,Wy] at q1
 exact q1
theorem z7O (xs:List (Str×Tok)) (k:Str):(∃ e ∈ xs.map (elE prog w),(strKind prog w).is k e.2=true) ↔ k ∈ xs.map (·.1):=by
 constructor
 ·rintro ⟨e,he,q⟩
  obtain ⟨x,hx,rfl⟩:=WU.mp he
  obtain ⟨t,et⟩:=zaE q
  have:x.1=k:=by injection et
  exact WU.mpr ⟨x,hx,this⟩
 ·intro h
  obtain ⟨x,hx,rfl⟩:=WU.mp h
  exact ⟨elE prog w x,WK hx,strKind_is _ _ _ _⟩
section
variable {h:Heap} {a:Addr} {ks:List Str} {o:Obj} {es:Array (Int×Value)} {ep:Nat} {t:SetTable} {xs:List (Str×Tok)}
theorem SetX.sz (x:SetX prog w h a ks o es ep t xs):es.size=ks.length:=by
 rw [← x.p.length_eq,Wx,← Q4,x.e,Wx]
theorem SetX.el (x:SetX prog w h a ks o es ep t xs):ElemsOf (strKind prog w) es.toList:=by
 rw [x.e]; exact z6P _
theorem SetX.so (x:SetX prog w h a ks o es ep t xs):h.SetOf (strKind prog w) a (fun k=>decide (k ∈ ks)) ks.length :=
 ⟨o,es,ep,t,x.g,x.ex,x.d,x.el,fun k=>by rw [x.e,z7O,x.p.mem_iff]; simp,x.b,x.f,x.sz⟩
theorem SetL.so (x:SetL prog w h a ks):h.SetOf (strKind prog w) a (fun k=>decide (k ∈ ks)) ks.length:=by
 obtain ⟨o,es,ep,t,xs,x⟩:=x
 exact x.so
theorem SetL.at' (x:SetL prog w h a ks) (k:∀ o,h.get? a=some o→h'.get? a=some o):SetL prog w h' a ks:=by
 obtain ⟨o,es,ep,t,xs,x⟩:=x
 exact ⟨o,es,ep,t,xs,{ x with g:=k o x.g }⟩
end
theorem zap (ho:s.heap.get? a=some o) (hex:o.ExactSet) (hd:o.data = .set es0 ep t0)
  (he:es'.toList=xs.map (elE prog w)) (hp:(xs.map (·.1)).Perm ks) (nd:ks.Nodup) (hf:t'.fits es'.size=true) (hb:es'.size < Jf) (hl:bt w=false→t'.led=true) (hq:t'.plain=true→ks=[])
  (h:∀ h',QX a s.heap h'→SetX prog w h' a ks { o with data:=.set es' (ep + 1) t' } es' (ep + 1) t' xs→Q () { s with heap:=h' }) :
  W6 (model prog w) A (storeSet a es' t') Q E s:=by
 refine wpAny_storeSet_of ho hd ?_ (fits_of_scanBound hb)
 have g2:=WG (Obj.putSet es' t') ho (by rw [putSet_of _ _ hd]; rfl)
 rw [putSet_of _ _ hd] at g2
 exact h _ (.update _ _ _) ⟨g2,hex,rfl,he,hp,nd,hf,hb,hl,hq⟩
theorem zbA (t:SetTable) (es:Array (Int×Value)) (h:Int) (x:Value):(layNew t es h x).2.1.led=t.led:=by
 unfold layNew
 split
 ·unfold SetTable.orStandIn
  simp only
  split <;> rfl
 ·rfl
theorem z8l (t:SetTable) (es:Array (Int×Value)) (n:Nat):(relayAll t es n).2.1.led=t.led∧((relayAll t es n).2.1.plain=true→t.plain=true):=by
 unfold relayAll
 split
 ·rename_i t' order e
  have hl:t'.led=t.led∧t'.plain=t.plain:=by
   unfold SetTable.relaid SetTable.laid at e
   cases e1:SetTable.layClean (SetTable.sizeAbove n - 1) (es.map (·.1)) with
   | none=>rw [e1] at e; cases e
   | some ow =>
    rw [e1] at e
    simp only [Option.bind_eq_bind,WB,Option.pure_def,W5,Prod.mk.injEq] at e
    rw [← e.1]
    exact ⟨rfl,rfl⟩
  simp only
  split
  ·exact ⟨hl.1,fun z=>hl.2 ▸ z⟩
  ·exact ⟨rfl,fun z=>by cases z⟩
 ·exact ⟨rfl,fun z=>by cases z⟩
theorem addL (hS:SetL prog w s.heap a ks) (hb:ks.length + 1 < Jf)
  (h:∀ h',QX a s.heap h'→SetL prog w h' a (dd ks k)→Q (!decide (k ∈ ks)) { s with heap:=h' }) :
  W6 (model prog w) A (setAddHashed a (.str k tk) ((strKind prog w).hash k)) Q E s:=by
 obtain ⟨o,es,ep,t,xs,x⟩:=hS
 have kk:(strKind prog w).is k (.str k tk)=true:=strKind_is _ _ _ _
 have hz:=x.sz
 unfold setAddHashed setAddHashedIn
 refine WP (W0 (QC x.g x.d x.f ?_))
 dsimp only
 rw [byScan_of (knd:=strKind prog w) (x:=.str k tk) rfl x.b x.el,if_pos rfl]
 unfold setAddByScan
 refine W0 (W0 (QG (W0 (wpAny_setScan_of kk x.g x.d x.f x.el ?_))))
 cases hr:List.findIdx? (fun e=>(strKind prog w).is k e.2) es.toList with
 | some j =>
  dsimp only
  obtain ⟨hj,hp,_⟩:=List.findIdx?_eq_some_iff_getElem.mp hr
  have hk:k ∈ ks:=x.p.mem_iff.mp ((z7O (prog:=prog) (w:=w) xs k).mp ⟨_,by rw [← x.e]; exact Qj hj,hp⟩)
  have e:dd ks k=ks:=by unfold dd; rw [if_pos hk]
  have:=h s.heap (.refl _ _) (by rw [e]; exact ⟨o,es,ep,t,xs,x⟩)
  rw [decide_eq_true hk] at this
  exact W4 (W4 this)
 | none =>
  dsimp only
  have hk:k ∉ ks:=fun hk=>by
   obtain ⟨e,he,q⟩:=(z7O (prog:=prog) (w:=w) xs k).mpr (x.p.mem_iff.mpr hk)
   have:=List.findIdx?_eq_none_iff.mp hr e (by rw [x.e]; exact he)
   rw [q] at this
   cases this
  have e:dd ks k=ks ++ [k]:=by unfold dd; rw [if_neg hk]
  have nd:=zac k x.nd
  rw [decide_eq_false hk] at h
  rw [e] at h nd
  have hperm:=layNew_perm t es ((strKind prog w).hash k) (.str k tk)
  have hfits:=layNew_fits t es ((strKind prog w).hash k) (.str k tk)
  have hled:=zbA t es ((strKind prog w).hash k) (.str k tk)
  generalize layNew t es ((strKind prog w).hash k) (.str k tk)=L at hperm hfits hled ⊢
  obtain ⟨es1,t1,wd,gave⟩:=L
  dsimp only at hperm hfits hled ⊢
  rw [Array.toList_push,x.e] at hperm
  have hp2:es1.toList.Perm ((xs ++ [(k,tk)]).map (elE prog w)):=by rw [WZ]; exact hperm
  obtain ⟨zs,ez,pz⟩:=z6j hp2
  have pz2:(zs.map (·.1)).Perm (ks ++ [k]):=pz.trans (by rw [WZ]; exact x.p.append_right _)
  have hb1:es1.size < Jf:=by rw [← Q4,hperm.length_eq,WS,Wx]; have:=x.p.length_eq; simp at this ⊢; omega
  have gw:∀ (b:Bool) (s₁:W1) (Q':Unit→W1→Prop),Q' () s₁→W6 (model prog w) A (match b with | true=>rule "set.scan.the-table-gave-way" | false=>pure ()) Q' E s₁ :=
   fun b s₁ Q' hq=>by cases b <;> first | exact W4 hq | exact QG hq
  refine W0 (gw _ _ _ ?_)
  have tail:∀ t2:SetTable,t2.fits es1.size=true→t2.led=t1.led→t2.plain=false→W6 (model prog w) A (do
    storeSet a es1 t2
    if (!wd && t2.tooFull)=true then do
      (match (relayAll t2 es1 (SetTable.grown es1.size)).2.2 with | true=>rule "set.scan.the-table-gave-way" | false=>pure ())
      storeSet a (relayAll t2 es1 (SetTable.grown es1.size)).1 (relayAll t2 es1 (SetTable.grown es1.size)).2.1
      pure (some true)
     else pure (some true)) (fun r s'=>W6 (model prog w) A (match r with | some added=>pure added | none=>setAddHashedIn a (.str k tk) ((strKind prog w).hash k) 99999) Q E s') E s:=fun t2 f2 l2 p2=>by
   refine W0 (zap x.g x.ex x.d ez pz2 nd f2 hb1 (fun z=>by rw [l2,hled]; exact x.l z) (fun z=>by rw [p2] at z; cases z) fun h1 sb1 x1=>?_)
   split
   ·have rp:=relayAll_perm t2 es1 (SetTable.grown es1.size)
    have rf:=relayAll_fits t2 es1 (SetTable.grown es1.size)
    obtain ⟨rl,rq⟩:=z8l t2 es1 (SetTable.grown es1.size)
    generalize relayAll t2 es1 (SetTable.grown es1.size)=Rl at rp rf rl rq ⊢
    obtain ⟨es2,t3,gave2⟩:=Rl
    dsimp only at rp rf rl rq ⊢
    rw [ez] at rp
    obtain ⟨ys,ey,py⟩:=z6j rp
    have hb2:es2.size < Jf:=by rw [← Q4,rp.length_eq,← ez,Q4]; exact hb1
    refine W0 (gw _ _ _ ?_)
    refine W0 (zap (s:={ s with heap:=h1 }) x1.g x1.ex x1.d ey (py.trans pz2) nd rf hb2 (fun z=>by rw [rl,l2,hled]; exact x.l z) (fun z=>by have:=rq z; rw [p2] at this; cases this) fun h2 sb2 x2=>?_)
    exact W4 (W4 (h h2 (sb1.trans sb2) ⟨_,_,_,_,_,x2⟩))
   ·exact W4 (W4 (h h1 sb1 ⟨_,_,_,_,_,x1⟩))
  split
  ·refine W0 ?_
   rw [hashByValue_scannable 8 (x:=.str k tk) rfl]
   refine W4 ?_
   exact tail _ (SetTable.fits_plain_off hfits) rfl rfl
  ·rename_i hpl
   refine W0 (W4 ?_)
   simp only [if_true]
   exact tail _ hfits rfl (by simpa using hpl)
end
section
variable {prog:We} {w:Wk} {A:Wm} {R:Result→W1→Prop} {I:Addr} {fp wr:List Addr} {G:Array GenState→Array GenState→Prop} {n:Nat} {P:Nat→Value→Prop} {St:Nat→W1→Prop}
theorem loopL (W:WalksS prog w A.in1 I fp wr G n P St) (S:Addr) (hSf:S ∉ fp) (val:Nat→Str) (hval:∀ i v,P i v→∃ t,v = .str (val i) t) (hb:n + 1 < Jf) :
  ∀ (k i:Nat) (s:W1),n - i=k→i≤n→St i s→SetL prog w s.heap S (fm val i) →
   (∀ s',Moved (S :: wr) G s s'→SetL prog w s'.heap S (fm val n)→R (.ok (.ret .none)) s') →
   Q1 (model prog w) A (.builtin "set.update.loop" ⟨[.ref S,.ref I],[]⟩) R s:=by
 have nw:S ∉ wr:=fun z=>hSf (W.sub _ z)
 have up:∀ b ∈ wr,b ∈ S :: wr:=fun b z=>Wd _ z
 intro k
 induction k with
 | zero =>
  intro i s e1 e2 st x fin
  obtain rfl:i=n:=by omega
  refine Q6 PyProof.Rows.F.entry_set_update_loop ?_
  rw [Around.under_plainId PyProof.Rows.F.plain_set_update_loop _]
  show W6 _ A.in1 (Qa (.ref I) >>= _) _ _ s
  refine W0 (W.done s _ _ st fun s' mv=>?_)
  show W6 _ A.in1 (ret Value.none) _ _ s'
  exact W4 (fin s' (mv.mono up) (x.at' fun o e=>mv.heap S _ nw e))
 | succ k ih =>
  intro i s e1 e2 st x fin
  have lt:i < n:=by omega
  refine Q6 PyProof.Rows.F.entry_set_update_loop ?_
  rw [Around.under_plainId PyProof.Rows.F.plain_set_update_loop _]
  show W6 _ A.in1 (Qa (.ref I) >>= _) _ _ s
  refine W0 (W.item i s _ _ lt st fun v s' pv st' mv=>?_)
  obtain ⟨t,rfl⟩:=hval i v pv
  have x':SetL prog w s'.heap S (fm val i):=x.at' fun o e=>mv.heap S _ nw e
  show W6 _ A.in1 (holding [Value.str (val i) t] (setAdd S (.str (val i) t)) >>= _) _ _ s'
  refine W0 (WP ?_)
  unfold setAdd
  refine WP ?_
  refine W0 ((strKind prog w).pyHash (k:=val i) (strKind_is _ _ _ _) ?_)
  refine addL (s:={ s' with toks:=s'.toks + 1 }) x' (by have:=zaG val i; omega) fun h' sb y=>?_
  rw [← z96] at y
  refine W4 ⟨Qr PyProof.Rows.F.plain_set_update_loop _,ih (i + 1) _ (by omega) lt (W.frame _ s' _ _ st' (Nat.le_succ _) fun b z o e=>?_) y fun s'' mv' z=>?_⟩
  ·rw [sb.2 b (fun q:b=S=>hSf (by rw [← q]; exact z))]; exact e
  ·refine fin s'' (Moved.trans W.gtrans ((mv.mono up).then_heap (Nat.le_succ _) fun b o z e=>?_) mv') z
   rw [sb.2 b (fun q:b=S=>z (by rw [q]; exact Wg))]; exact e
end
abbrev so0 (w:Wk):Obj:={ cls:=.type "set",dict:=none,data:=.set #[] 0 (.fresh 0 0 (!bt w)) }
section
variable {prog:We} {w:Wk} {A:Wm} {E:Value→W1→Prop} {s:W1}
theorem zbH (h:Heap):SetX prog w (h.push (so0 w)) h.objs.size [] (so0 w) #[] 0 (.fresh 0 0 (!bt w)) [] :=
 ⟨Wh _ rfl,⟨rfl,rfl,rfl⟩,rfl,rfl,.refl _,List.nodup_nil,rfl,by decide,fun z=>by rw [z]; rfl,fun _=>rfl⟩
theorem zbI (h:Heap):SetL prog w (h.push (so0 w)) h.objs.size []:=⟨_,_,_,_,_,zbH h⟩
theorem new1 (a:Value) (h:Q₁ (.ref s.heap.objs.size) { s with heap:=s.heap.push (so0 w) }) :
  Q1 (model prog w) A (.call (.builtin "set.__new__") ⟨[.type "set",a],[]⟩) (wants Q₁ E) s:=by
 refine codeAny_of_tree ?_
 show W6 _ A.in1 (do checkBuiltinCall "set.__new__" ⟨[.type "set",a],[]⟩; again (.builtin "set.__new__" ⟨[.type "set",a],[]⟩)) _ _ s
 refine W0 (wpAny_of_eq (PySem.F.newCall_set_1 a) (W4 ⟨Qr PySem.F.plain_set_new _,Q6 PySem.F.entry_set_new ?_⟩))
 rw [Around.under_plainId PySem.F.plain_set_new _]
 unfold Builtin.«set.__new__» Builtin.Frozenset.newClass
 have e:=sub_set_self
 obtain ⟨hp,g,d,tk,os⟩:=s
 dsimp only
 wp_walk
 refine QM (W4 ?_)
 dsimp only
 simp only [newObj]
 refine W0 (wpAny_alloc (W4 ?_))
 exact W4 h
theorem callS
  (hi:W6 (model prog w) A.in1.in1 (Builtin.«set.__init__» ⟨[.ref s.heap.objs.size,v],[]⟩)
   (fun fin s'=>match fin with | .done f=>wants (fun r s₂=>r = .none∧Q (.ref s.heap.objs.size) s₂) E (.ok f) s' | .again c'=>c'.quiet=true∧Q1 (model prog w) A.in1 c' (wants (fun r s₂=>r = .none∧Q (.ref s.heap.objs.size) s₂) E) s')
   (fun e s'=>wants (fun r s₂=>r = .none∧Q (.ref s.heap.objs.size) s₂) E (.error e) s') { s with heap:=s.heap.push (so0 w) }) :
  W6 (model prog w) A (call (.type "set") [v]) Q E s:=by
 obtain ⟨c,tl,hmro⟩:=PySem.F.called_set.mro
 have g1:=PySem.F.called_set.made
 have g2:=PySem.F.called_set.sub
 refine wpAny_call (codeAny_of_tree ?_)
 show W6 _ _ (callAny (.type "set") _) _ _ _
 refine W4 ⟨Code.quiet_builtin _ (by decide +kernel),Q6 PySem.F.entry_type_call ?_⟩
 rw [Around.under_plain (weight_type_call_type "set" [v] []) rfl]
 have g3:=PySem.F.called_set.notType
 have g4:=PySem.F.called_set.canCreate
 have g5:=PySem.F.typeCall_set_1 v
 repeat (any_goals (first | assumption | wp_step))
 refine Qv (new1 v (E:=E) (Q₁:=fun obj s₁=>obj = .ref s.heap.objs.size∧s₁ = { s with heap:=s.heap.push (so0 w) }) ⟨rfl,rfl⟩) fun r s₁ x=>?_
 cases r with
 | error e=>exact x
 | ok fl =>
  cases fl with
  | ret obj =>
   obtain ⟨rfl,rfl⟩:=x
   have hT:Shared.TypeIs { s with heap:=s.heap.push (so0 w) } (.ref s.heap.objs.size) "set":=⟨_,Wh _ rfl,rfl⟩
   have g6:=PySem.F.called_set.init.lookup
   have g7:=PySem.F.called_set.init.bind (.ref s.heap.objs.size)
   repeat (any_goals (first | assumption | wp_step))
   refine Qv (codeAny_call_builtin (R:=wants (fun r s₂=>r = .none∧Q (.ref s.heap.objs.size) s₂) E) PySem.F.called_set.init.plain PySem.F.entry_set_init (check_set_init_1 hT hi)) fun r₂ s₂ y=>?_
   cases r₂ with
   | error e=>exact y
   | ok f2 =>
    cases f2 with
    | ret r =>
     obtain ⟨rfl,q⟩:=y
     repeat (any_goals (first | assumption | wp_step))
    | _=>exact y.elim
  | _=>exact x.elim
end
section
variable {mask:Nat} {owner:Array (Option Nat)}
end
section
variable {prog:We} {w:Wk} {A:Wm} {E:Value→W1→Prop} {s:W1}
theorem z55 {α:Type}:∀ (l:List α) (i:Nat) (h:i < l.length),l.Perm (l[i] :: l.eraseIdx i)
 | [],i,h=>by simp at h
 | x :: l,0,h=>.refl _
 | x :: l,i + 1,h=>by
  have:=z55 l i (by simpa using h)
  exact (this.cons x).trans (.swap _ _ _)
theorem z6k {α β:Type} {f:α→β→Sem (ForInStep β)} {Q:β→W1→Prop} (J:List α→β→W1→Prop)
  (step:∀ x r b s,J (x :: r) b s→W6 (model prog w) A (f x b) (fun st s'=>∃ b',st = .yield b'∧J r b' s') E s):∀ (l:List α) (b:β) (s:W1),J l b s→(∀ b' s',J [] b' s'→Q b' s')→W6 (model prog w) A (forIn l b f) Q E s
 | [],b,s,h,q=>by
  rw [List.forIn_nil]
  exact W4 (q b s h)
 | x :: l,b,s,h,q=>by
  rw [List.forIn_cons]
  refine W0 (WA (step x l b s h) (fun st s' ⟨b',e,h'⟩=>?_) fun _ _ e=>e)
  subst e
  exact z6k J step l b' s' h' q
theorem zaO {α β:Type} {f:α→β→Sem (ForInStep β)} {Q:β→W1→Prop} (J:List α→β→W1→Prop)
  (step:∀ x r b s,J (x :: r) b s→W6 (model prog w) A (f x b) (fun st s'=>∃ b',st = .yield b'∧J r b' s') E s) (l:Array α) (b:β) (s:W1) (h:J l.toList b s) (q:∀ b' s',J [] b' s'→Q b' s'):W6 (model prog w) A (forIn l b f) Q E s:=by
 rw [← Array.forIn_toList]
 exact z6k J step l.toList b s h q
theorem quiet {l:List Addr} {Q:Bool→W1→Prop} (hl:∀ a ∈ l,∃ ks,SetL prog w s.heap a ks) (h:Q true s):W6 (model prog w) A (setsQuiet l) Q E s:=by
 unfold setsQuiet
 refine W0 (z6k (fun r b s'=>b=(none,())∧s'=s∧∀ a ∈ r,∃ ks,SetL prog w s.heap a ks) ?st l _ s ⟨rfl,rfl,hl⟩ ?fin)
 case fin =>
  rintro b s' ⟨rfl,rfl,_⟩
  exact W4 h
 case st =>
  rintro a r b s' ⟨rfl,rfl,e3⟩
  obtain ⟨ks,x⟩:=e3 a Wg
  obtain ⟨o,es,ep,t,xs,x⟩:=x
  refine W0 (Qt x.g x.d x.f ?_)
  refine W0 (zaO (fun r b s''=>b=(none,())∧s''=s'∧∀ e ∈ r,∃ z,e=elE prog w z) ?st es _ s' ⟨rfl,rfl,fun e he=>?el⟩ ?fin)
  case st =>
   rintro e r b s'' ⟨rfl,rfl,q3⟩
   obtain ⟨z,rfl⟩:=q3 e Wg
   exact W4 ⟨_,rfl,rfl,rfl,fun e he=>q3 e (Wd _ he)⟩
  case el =>
   rw [x.e] at he
   obtain ⟨z,_,rfl⟩:=WU.mp he
   exact ⟨z,rfl⟩
  case fin =>
   rintro b s'' ⟨rfl,rfl,_⟩
   exact W4 ⟨_,rfl,rfl,rfl,fun a ha=>e3 a (Wd _ ha)⟩
theorem z5F {α:Type} (next:Nat→Nat) (xs:Array α):(pickOrder next xs).toList.Perm xs.toList:=by
 have go:∀ (f k:Nat) (left:List α) (out:Array α),left.length=f→(pickOrder.go next f k left out).toList.Perm (out.toList ++ left):=by
  intro f
  induction f with
  | zero =>
   intro k left out h
   rw [Qs h]
   unfold pickOrder.go
   simp
  | succ f ih =>
   intro k left out h
   unfold pickOrder.go
   have hi:next k % left.length < left.length:=Nat.mod_lt _ (by omega)
   rw [Wo hi]
   simp only
   refine (ih _ _ _ (by rw [List.length_eraseIdx_of_lt hi]; omega)).trans ?_
   rw [Array.toList_push,List.append_assoc]
   exact List.Perm.append_left _ (z55 _ _ hi).symm
 have:=go xs.size 0 xs.toList #[] (by simp)
 simpa [pickOrder] using this
end
section
variable {prog:We} {w:Wk} {A:Wm} {E:Value→W1→Prop} {s:W1}
end
theorem z7F:entryFor table "set.__iter__" = some Builtin.«frozenset.__iter__» :=
 entryFor_alias (id':="frozenset.__iter__") (by kernel_rfl) rfl (by decide +kernel) (by kernel_rfl)
theorem slot_next:Slot "set_iterator" "__next__" "set_iterator.__next__" :=
 .of (owner:="set_iterator") (n:="__next__") (by rw [typeLookup_type,J1]; kernel_rfl) (by decide +kernel) (by decide +kernel) (by decide +kernel)
  (by first | exact .inl (by decide +kernel) | exact .inr (by decide +kernel)) (by rw [isSubtype_type]; kernel_rfl)
theorem z2l:entryFor table "set_iterator.__next__" = some Builtin.«set_iterator.__next__»:=entryFor_of_tree (by kernel_rfl)
theorem z32 (a:Value):argsOk "set_iterator.__next__" ⟨[a],[]⟩:=by
 unfold argsOk; rw [signature?_of (id:="set_iterator.__next__") (n:="__txen__".toList) (o:="rotareti_tes".toList) (by kernel_rfl) (show Manifest.owners.lookup (String.ofList "rotareti_tes".toList.reverse)=some Manifest.sig_set_iterator by kernel_rfl)]; kernel_rfl
theorem zbz:typeLookup (.type "set") "__len__" = pure (some (.builtin "set.__len__")):=by rw [typeLookup_type,J1]; kernel_rfl
abbrev itO (f:Value) (i:Nat) (a:Addr) (n ep:Nat):Obj:={ cls:=.type "set_iterator",data:=.fields #[f,.int i 0,.ref a,.int n 0,.int ep 0] }
section
variable {prog:We} {w:Wk} {A:Wm} {E:Value→W1→Prop} {s:W1}
theorem z5p (h0:n≠0) (h:∀ i d,i < n→Q i { s with drawn:=d }):W6 (model prog w) A (choose src n) Q E s:=fun Γ p hΓ=>by
 show Sem.wp _ Γ (.choose src n .pure) _ _ p s
 rw [Sem.wp_choose]
 refine ⟨h0,?_⟩
 exact h _ _ (Nat.mod_lt _ (by omega))
theorem zdB:∀ (n:Nat) (l:List α) (s:W1) (Q:List α→W1→Prop),l.length=n→(∀ l' d,l'.Perm l→Q l' { s with drawn:=d })→W6 (model prog w) A (drawOrder n l) Q E s
 | 0,l,s,Q,hn,h=>by
  rw [Qs hn] at h
  exact W4 (h [] s.drawn (.refl _))
 | n + 1,l,s,Q,hn,h=>by
  have e:drawOrder (n + 1) l=(do
    let i ← choose .order l.length
    match l[i]? with
    | some x=>return x :: (← drawOrder n (l.eraseIdx i))
    | none=>unsupported "internal:drawOrder"):=by
   cases l with
   | nil=>simp at hn
   | cons=>rfl
  rw [e]
  refine W0 (z5p (by omega) fun i d hi=>?_)
  rw [Wo hi]
  refine W0 (zdB n (l.eraseIdx i) _ _ (by rw [List.length_eraseIdx_of_lt hi]; omega) fun l' d' pl=>?_)
  exact W4 (h _ d' ((pl.cons _).trans (z55 l i hi).symm))
section
variable {a it:Addr} {ks:List Str} {o:Obj} {es:Array (Int×Value)} {ep:Nat} {t:SetTable} {xs:List (Str×Tok)} {i:Nat}
theorem z5P {sl nx:Nat} {v:Value} {Q:Option Value→W1→Prop} (x:SetX prog w s.heap a ks o es ep t xs) (hi:s.heap.get? it=some (itO (.int sl 0) i a es.size ep))
  (hn:∀ E':Value→W1→Prop,W6 (model prog w) A.in1 (setNext a sl i ep) (fun r s'=>r=some (v,nx)∧s'=s) E' s)
  (h:∀ h',QX it s.heap h'→h'.get? it=some (itO (.int nx 0) (i + 1) a es.size ep)→Q (some v) { s with heap:=h' }):W6 (model prog w) A (Qa (.ref it)) Q E s:=by
 have hT:s.TypeIs (.ref it) "set_iterator":=⟨_,hi,rfl⟩
 unfold Qa
 refine W0 (wpAny_attempt (Qb (name:=Str.ofString "__next__") hT slot_next (Qi slot_next hT z2l ?_ (z32 _))))
 unfold Builtin.«set_iterator.__next__»
 refine W0 (m:=slotArgs "__next__" 0 _) (W4 ?_)
 refine W0 (wpAny_fieldsOf hi rfl ?_)
 dsimp only
 refine W0 (Qt x.g x.d x.f ?_)
 rw [if_neg (by simp)]
 simp only [QD]
 refine W0 (WA (hn _) (fun r s' ⟨e1,e2⟩=>?_) fun _ _ e=>e)
 subst e1; subst e2
 dsimp only
 refine W0 (Jh hi rfl (by simp) ?_)
 have g1:=WG (Obj.mapFields (·.setIfInBounds 0 (QH (nx:Int)))) hi (by rfl)
 refine W0 (Jh (s:={ s' with heap:=_ }) g1 rfl (by simp) ?_)
 have g2:=WG (Obj.mapFields (·.setIfInBounds 1 (QH ((i:Int) + 1)))) g1 (by rfl)
 refine W4 ⟨_,rfl,W4 (h _ ((J5 ..).trans (J5 ..)) ?_)⟩
 rw [g2]
 rfl
theorem z7W {Q:Option Value→W1→Prop} {f:Value} {n' j:Nat} {v:Value} (hh:A.handled=none) (hi:s.heap.get? it=some (itO f i a n' ep)) (hj:j < 5)
  (h:∀ h',Heap.ExtBut it s.heap h'→Q none { s with heap:=h' }) :
  W6 (model prog w) A.in1 (do
   setField (.ref it) j v
   raiseNew (← newExc (.type "StopIteration") [])) (fun (_:PySem.Fin) _=>False) (fun e s'=>W6 (model prog w) A (do
    if ← isInstance e (.type "StopIteration") then pure none else throw e) Q E s') s:=by
 refine W0 (Jh hi rfl (by simpa using hj) ?_)
 refine W0 ?_
 simp only [newExc,newTuple]
 refine W0 (WO ?_ (by size_fits))
 refine W0 (m:=firstArgMember _ _) (wpAny_of_eq (a:=Value.none) (by first | rfl | (simp only [firstArgMember]; rfl)) ?_)
 refine WO ?_ (by size_fits)
 simp only [raiseNew]
 refine W0 (wpAny_handled ?_)
 rw [show A.in1.handled=none from hh]
 refine W0 (W4 (wpAny_throw ?_))
 refine W0 (wpAny_isInstance (T:="StopIteration") (b:=true) ⟨_,Wh _ rfl,rfl⟩ isSubtype_stop ?_)
 exact W4 (h _ (((J5 ..).extBut.push _).push _))
end
end
section
variable {prog:We} {w:Wk} {A:Wm} {E:Value→W1→Prop} {s:W1}
variable {a it:Addr} {ks:List Str} {o:Obj} {es:Array (Int×Value)} {ep:Nat} {t:SetTable} {xs:List (Str×Tok)} {i:Nat}
theorem z50 {sl:Nat} {Q:Option Value→W1→Prop} (hh:A.handled=none) (x:SetX prog w s.heap a ks o es ep t xs) (hi:s.heap.get? it=some (itO (.int sl 0) i a es.size ep))
  (hn:∀ E':Value→W1→Prop,W6 (model prog w) A.in1 (setNext a sl i ep) (fun r s'=>r=none∧s'=s) E' s)
  (h:∀ h',Heap.ExtBut it s.heap h'→Q none { s with heap:=h' }):W6 (model prog w) A (Qa (.ref it)) Q E s:=by
 have hT:s.TypeIs (.ref it) "set_iterator":=⟨_,hi,rfl⟩
 unfold Qa
 refine W0 (wpAny_attempt (Qb (name:=Str.ofString "__next__") hT slot_next (Qi slot_next hT z2l ?_ (z32 _))))
 unfold Builtin.«set_iterator.__next__»
 refine W0 (m:=slotArgs "__next__" 0 _) (W4 ?_)
 refine W0 (wpAny_fieldsOf hi rfl ?_)
 dsimp only
 refine W0 (Qt x.g x.d x.f ?_)
 rw [if_neg (by simp)]
 simp only [QD]
 refine W0 (WA (hn _) (fun r s' ⟨e1,e2⟩=>?_) fun _ _ e=>e)
 subst e1; subst e2
 dsimp only
 exact WA (z7W hh hi (by decide) h) (fun _ _ e=>e.elim) fun _ _ e=>e
theorem z7x {T:Addr} {ps:List Nat} {oT:Obj} {nT p:Nat} {hv:Int} {v:Value} {Q:Option Value→W1→Prop} (x:SetX prog w s.heap a ks o es ep t xs) (hi:s.heap.get? it=some (itO (.ref T) i a es.size ep))
  (gT:s.heap.get? T=some oT) (dT:oT.data = .seq (ps.map fun j:Nat=>QH j).toArray nT) (hp:ps[i]? = some p) (hv':es[p]? = some (hv,v))
  (h:∀ h',QX it s.heap h'→h'.get? it=some (itO (.ref T) (i + 1) a es.size ep)→Q (some v) { s with heap:=h' }):W6 (model prog w) A (Qa (.ref it)) Q E s:=by
 have hT:s.TypeIs (.ref it) "set_iterator":=⟨_,hi,rfl⟩
 unfold Qa
 refine W0 (wpAny_attempt (Qb (name:=Str.ofString "__next__") hT slot_next (Qi slot_next hT z2l ?_ (z32 _))))
 unfold Builtin.«set_iterator.__next__»
 refine W0 (m:=slotArgs "__next__" 0 _) (W4 ?_)
 refine W0 (wpAny_fieldsOf hi rfl ?_)
 dsimp only
 refine W0 (Qt x.g x.d x.f ?_)
 rw [if_neg (by simp)]
 refine W0 (wpAny_seqItems gT dT ?_)
 dsimp only
 have e1:(ps.map fun j:Nat=>QH j).toArray[i]? = some (.int (p:Int) 0):=by simp [hp,QH]
 rw [QD,e1]
 dsimp only
 refine W0 ?_
 unfold setNextDrawn
 refine W0 (QC x.g x.d x.f ?_)
 simp only [QD,bne_self_eq_false,Bool.false_eq_true,if_false]
 rw [hv']
 refine W4 ?_
 refine W0 (Jh hi rfl (by simp) ?_)
 have g2:=WG (Obj.mapFields (·.setIfInBounds 1 (QH ((i:Int) + 1)))) hi (by rfl)
 refine W4 ⟨_,rfl,W4 (h _ (J5 ..) ?_)⟩
 rw [g2]
 rfl
theorem z98 {T:Addr} {ps:List Nat} {oT:Obj} {nT:Nat} {Q:Option Value→W1→Prop} (hh:A.handled=none) (x:SetX prog w s.heap a ks o es ep t xs) (hi:s.heap.get? it=some (itO (.ref T) i a es.size ep))
  (gT:s.heap.get? T=some oT) (dT:oT.data = .seq (ps.map fun j:Nat=>QH j).toArray nT) (hp:ps[i]? = none)
  (h:∀ h',Heap.ExtBut it s.heap h'→Q none { s with heap:=h' }):W6 (model prog w) A (Qa (.ref it)) Q E s:=by
 have hT:s.TypeIs (.ref it) "set_iterator":=⟨_,hi,rfl⟩
 unfold Qa
 refine W0 (wpAny_attempt (Qb (name:=Str.ofString "__next__") hT slot_next (Qi slot_next hT z2l ?_ (z32 _))))
 unfold Builtin.«set_iterator.__next__»
 refine W0 (m:=slotArgs "__next__" 0 _) (W4 ?_)
 refine W0 (wpAny_fieldsOf hi rfl ?_)
 dsimp only
 refine W0 (Qt x.g x.d x.f ?_)
 rw [if_neg (by simp)]
 refine W0 (wpAny_seqItems gT dT ?_)
 dsimp only
 have e1:(ps.map fun j:Nat=>QH j).toArray[i]? = none:=by simpa using hp
 rw [QD,e1]
 dsimp only
 refine W0 (Jh hi rfl (by simp) ?_)
 have g1:(s.heap.update it (Obj.mapFields (·.setIfInBounds 0 (QH 0)))).get? it=some (itO (QH 0) i a es.size ep):=by
  rw [WG (Obj.mapFields (·.setIfInBounds 0 (QH 0))) hi (by rfl)]
  rfl
 refine WA (z7W (s:={ s with heap:=s.heap.update it (Obj.mapFields (·.setIfInBounds 0 (QH 0))) }) (j:=2) hh g1 (by decide) fun h' eb=>h h' fun b ob hb e=>?_) (fun _ _ e=>e.elim) fun _ _ e=>e
 exact eb b ob hb ((WM _ _ (Ne.symm hb)).trans e)
theorem z4A (hb:bt w=true) (x:SetX prog w s.heap a ks o es ep t xs) (E':Value→W1→Prop) :
  W6 (model prog w) A (setNext a 0 i ep) (fun r s'=>r=((pickOrder (w.params.setOrder a ep) es)[i]?).map (fun e=>(e.2,0))∧s'=s) E' s:=by
 unfold setNext setsByText
 refine W0 (QC x.g x.d x.f ?_)
 dsimp only
 refine W0 (W0 (QM (W4 ?_)))
 have hb':Params.followText w.params "set-order" = true:=hb
 show W6 _ _ (if Params.followText w.params "set-order" = true then _ else _) _ _ _
 rw [if_pos hb']
 simp only [bne_self_eq_false,Bool.false_eq_true,if_false]
 refine W0 ?_
 unfold setWalk setsByText
 refine W0 (QC x.g x.d x.f ?_)
 dsimp only
 refine W0 (W0 (QM (W4 ?_)))
 show W6 _ _ (if Params.followText w.params "set-order" = true then _ else _) _ _ _
 rw [if_pos hb']
 refine W0 (QM ?_)
 exact W4 (W4 ⟨rfl,rfl⟩)
theorem z3Y (hb:bt w=false) (x:SetX prog w s.heap a ks o es ep t xs) (h1:es.size≤1) (sl:Nat) (E':Value→W1→Prop) :
  W6 (model prog w) A (setNext a sl i ep) (fun r s'=>r=(match es[SetTable.below t.place sl]?,t.place[SetTable.below t.place sl]? with | some (_,v),some j=>some (v,j + 1) | _,_=>none)∧s'=s) E' s:=by
 unfold setNext setsByText
 refine W0 (QC x.g x.d x.f ?_)
 dsimp only
 refine W0 (W0 (QM (W4 ?_)))
 have hb':¬ Params.followText w.params "set-order" = true:=by rw [show Params.followText w.params "set-order" = false from hb]; decide
 show W6 _ _ (if Params.followText w.params "set-order" = true then _ else _) _ _ _
 rw [if_neg hb']
 show W6 _ _ (if (!t.plain && decide (es.size > 1))=true then _ else _) _ _ _
 rw [if_neg (by simp; omega)]
 refine W0 ?_
 show W6 _ _ (if (!t.led && !es.isEmpty)=true then _ else _) _ _ _
 rw [if_neg (by rw [x.l hb]; simp)]
 exact W4 (W4 ⟨rfl,rfl⟩)
theorem z9X {St:Nat→Heap→Prop} {n:Nat} {val:Nat→Value} {S:Addr} {res:Value} {R:Result→W1→Prop} (hne:S≠it) (hn:n≤1000)
  (fr:∀ i h h',St i h→(∀ b ob,b≠S→h.get? b=some ob→h'.get? b=some ob)→St i h')
  (item:∀ (i:Nat) (s:W1) (Q:Option Value→W1→Prop) (E:Value→W1→Prop),i < n→St i s.heap→(∀ h',(∀ b ob,b≠it→s.heap.get? b=some ob→h'.get? b=some ob)→St (i + 1) h'→Q (some (val i)) { s with heap:=h' })→W6 (model prog w) A.in1 (Qa (.ref it)) Q E s)
  (done:∀ (s:W1) (Q:Option Value→W1→Prop) (E:Value→W1→Prop),St n s.heap→(∀ h',(∀ b ob,b≠it→s.heap.get? b=some ob→h'.get? b=some ob)→Q none { s with heap:=h' })→W6 (model prog w) A.in1 (Qa (.ref it)) Q E s) :
  ∀ (k i:Nat) (s:W1) (acc:Array Value) (c:Nat),n - i=k→i≤n→St i s.heap→s.heap.get? S=some { cls:=.type "list",data:=.seq acc c }→acc.toList=(Wr i).map val →
   (∀ h' acc' c',(∀ b ob,b≠S→b≠it→s.heap.get? b=some ob→h'.get? b=some ob)→h'.get? S=some { cls:=.type "list",data:=.seq acc' c' }→acc'.toList=(Wr n).map val→R (.ok (.ret res)) { s with heap:=h' }) →
   Q1 (model prog w) A (.builtin "list.extend.loop" ⟨[.ref S,.ref it,res],[]⟩) R s:=by
 intro k
 induction k with
 | zero =>
  intro i s acc c e1 e2 st g ea fin
  obtain rfl:i=n:=by omega
  refine Q6 PySem.F.entry_extend_loop ?_
  rw [Around.under_plainId Qm _]
  show W6 _ A.in1 (Qa (.ref it) >>= _) _ _ _
  refine W0 (done s _ _ st fun h' kp=>?_)
  exact W4 (fin h' acc c (fun b ob _ hb e=>kp b ob hb e) (kp S _ hne g) ea)
 | succ k ih =>
  intro i s acc c e1 e2 st g ea fin
  refine Q6 PySem.F.entry_extend_loop ?_
  rw [Around.under_plainId Qm _]
  show W6 _ A.in1 (Qa (.ref it) >>= _) _ _ _
  refine W0 (item i s _ _ (by omega) st fun h' kp st'=>?_)
  have g':=kp S _ hne g
  have za:acc.size=i:=by rw [← Q4,ea]; simp
  show W6 _ A.in1 (updateSeq S (·.push (val i)) >>= _) _ _ _
  refine W0 (J8 (hz:=by rw [za,QT]; omega) g' rfl ?_)
  have g2:=WG (Obj.mapSeq (·.push (val i))) g' rfl
  refine W4 ⟨Qr Qm _,ih (i + 1) _ (acc.push (val i)) _ (by omega) (by omega) (fr _ _ _ st' fun b ob hb e=>(WM _ _ (Ne.symm hb)).trans e) g2 (by rw [Array.toList_push,ea,Jq,WZ]; rfl) fun h2 acc' c' kp2 g3 ea'=>?_⟩
  exact fin h2 acc' c' (fun b ob hb hi e=>kp2 b ob hb hi ((WM _ _ (Ne.symm hb)).trans (kp b ob hi e))) g3 ea'
end
section
variable {prog:We} {w:Wk} {A:Wm} {E:Value→W1→Prop} {s:W1}
variable {a it:Addr} {ks:List Str} {o:Obj} {es:Array (Int×Value)} {ep:Nat} {t:SetTable} {xs:List (Str×Tok)} {i:Nat}
abbrev tupO (ps:List Nat):Obj:={ cls:=.type "tuple",data:=.seq (ps.map fun j:Nat=>QH j).toArray }
theorem iterL (x:SetX prog w s.heap a ks o es ep t xs) (hz:es.size≤1000)
  (hI:(bt w=true∨es.size≤1)→Q (.ref s.heap.objs.size) { s with heap:=s.heap.push (itO (.int 0 0) 0 a es.size ep) })
  (hD:∀ ps d,ps.Perm (Wr es.size)→Q (.ref (s.heap.push (tupO ps)).objs.size) { s with heap:=(s.heap.push (tupO ps)).push (itO (.ref s.heap.objs.size) 0 a es.size ep),drawn:=d }):W6 (model prog w) A (pyIter (.ref a)) Q E s:=by
 refine wpAny_pyIter_slot x.so.typeIs PySem.F.slot_set_iter (Qi PySem.F.slot_set_iter x.so.typeIs z7F ?_ (PySem.F.args_set_iter_1 _))
 unfold Builtin.«frozenset.__iter__»
 refine W0 (m:=Builtin.Frozenset.slot0 "__iter__" _) (W4 ?_)
 unfold Builtin.Frozenset.sizeOf
 refine W0 (W0 (Qt x.g x.d x.f (W4 ?_)))
 unfold setDrawn setsByText
 refine W0 (W0 (QC x.g x.d x.f ?_))
 dsimp only
 refine W0 (W0 (QM (W4 ?_)))
 refine W4 ?_
 show W6 _ _ (if (!bt w && (!t.plain && decide (es.size > 1)))=true then _ else _) _ _ _
 by_cases hc:(!bt w && (!t.plain && decide (es.size > 1)))=true
 ·rw [if_pos hc]
  refine W0 (zdB es.size (Wr es.size) s _ (by simp) fun ps d pp=>?_)
  have hl:ps.length=es.size:=by rw [pp.length_eq,List.length_range]
  unfold newTuple
  refine W0 (WO ?_ (by show (ps.map fun j:Nat=>QH j).toArray.size≤W7; rw [Wn,Wx,hl,QT]; omega))
  have x1:SetX prog w (s.heap.push (tupO ps)) a ks o es ep t xs:={ x with g:=W3 _ x.g }
  refine W0 (wpAny_setEpoch_of (s:={ s with heap:=s.heap.push (tupO ps),drawn:=d }) x1.g x1.d x1.f ?_)
  refine W0 (WO (W4 ⟨_,rfl,"set_iterator",_,⟨_,Wh _ rfl,rfl⟩,slot_next.lookup,?_⟩))
  exact hD ps d pp
 ·rw [if_neg hc]
  refine W0 (W4 ?_)
  refine W0 (wpAny_setEpoch_of x.g x.d x.f ?_)
  refine W0 (WO (W4 ⟨_,rfl,"set_iterator",_,⟨_,Wh _ rfl,rfl⟩,slot_next.lookup,?_⟩))
  refine hI ?_
  cases hb:bt w with
  | true=>exact .inl rfl
  | false =>
   right
   rw [hb] at hc
   refine Nat.le_of_not_lt fun hgt=>hc ?_
   have hp:t.plain=false:=by
    cases e:t.plain with
    | false=>rfl
    | true =>
     have hs:es.size=0:=by rw [x.sz,x.q e]; rfl
     omega
   rw [hp]
   simpa using hgt
theorem zds (x:SetL prog w s.heap a ks) (h:Q false s):W6 (model prog w) A (Builtin.List.listLengthHint (.ref a)) Q E s:=by
 have hT:=x.so.typeIs
 unfold Builtin.List.listLengthHint
 refine W0 (wpAny_specialOf hT zbz ?_)
 generalize hid:("set.__len__" : String)=id0
 wp_delta
 rw [show splitId id0=some ("set","__len__") from by subst hid; decide +kernel]
 subst hid
 refine W0 (wpAny_isInstance (T:="set") (b:=true) hT (by rw [isSubtype_type]; kernel_rfl) ?_)
 refine J7 (fun hab=>absurd hab (by decide)) (fun _=>?_)
 refine J7 (fun _=>?_) (fun hab=>absurd (by decide +kernel) hab)
 refine W0 (QJ hT ?_)
 exact W4 h
theorem walkI (hh:A.handled=none) (x:SetX prog w s.heap a ks o es ep t xs) (hz:es.size≤1000) (hS:S≠it) (hSa:S≠a) (hai:a≠it) (hc:bt w=true∨es.size≤1)
  (hi:s.heap.get? it=some (itO (.int 0 0) 0 a es.size ep)) (gS:s.heap.get? S=some { cls:=.type "list",data:=.seq #[] c })
  (fin:∀ h' acc' c' (zs:List (Str×Tok)),(∀ b ob,b≠S→b≠it→s.heap.get? b=some ob→h'.get? b=some ob)→h'.get? S=some { cls:=.type "list",data:=.seq acc' c' }→acc'.toList=zs.map (fun z=>Value.str z.1 z.2)→(zs.map (·.1)).Perm ks→R (.ok (.ret res)) { s with heap:=h' }) :
  Q1 (model prog w) A (.builtin "list.extend.loop" ⟨[.ref S,.ref it,res],[]⟩) R s:=by
 have fr:∀ (F:Nat→Value) (i:Nat) (h h':Heap),(h.get? it=some (itO (F i) i a es.size ep)∧SetX prog w h a ks o es ep t xs)→(∀ b ob,b≠S→h.get? b=some ob→h'.get? b=some ob)→(h'.get? it=some (itO (F i) i a es.size ep)∧SetX prog w h' a ks o es ep t xs) :=
  fun F i h h' ⟨q1,q2⟩ k=>⟨k _ _ (Ne.symm hS) q1,{ q2 with g:=k _ _ (Ne.symm hSa) q2.g }⟩
 cases hb:bt w with
 | true =>
  have pp:=z5F (w.params.setOrder a ep) es
  rw [x.e] at pp
  obtain ⟨zs,ez,pz⟩:=z6j pp
  have hl:zs.length=es.size:=by
   have:=congrArg Qu ez
   have q:=(z5F (w.params.setOrder a ep) es).length_eq
   simp at this q
   omega
  have gt:∀ i,(pickOrder (w.params.setOrder a ep) es)[i]? = (zs[i]?).map (elE prog w):=fun i=>by
   rw [← Array.getElem?_toList,ez,Wz]
  refine z9X (it:=it) (St:=fun i h=>h.get? it=some (itO (.int 0 0) i a es.size ep)∧SetX prog w h a ks o es ep t xs) (n:=es.size) (val:=fun i=>((zs[i]?).map fun z=>Value.str z.1 z.2).getD .none) hS hz (fr fun _=>.int 0 0) ?item ?done es.size 0 s #[] c (by omega) (Qf _) ⟨hi,x⟩ gS rfl ?fin
  case item =>
   rintro i s Q E' hlt ⟨q1,q2⟩ k
   have hi':i < zs.length:=by omega
   refine z5P (A:=A.in1) (sl:=0) (nx:=0) (v:=Value.str zs[i].1 zs[i].2) q2 q1 (fun E2=>WA (z4A (i:=i) hb q2 E2) (fun r s' ⟨e1,e2⟩=>⟨by rw [e1,gt i,Wo hi']; rfl,e2⟩) fun _ _ e=>e) fun h' sb g=>?_
   have:((zs[i]?).map fun z=>Value.str z.1 z.2).getD .none=Value.str zs[i].1 zs[i].2:=by rw [Wo hi']; rfl
   rw [← this]
   exact k h' (fun b ob hb' e=>(sb.2 b hb').trans e) ⟨g,{ q2 with g:=(sb.2 a hai).trans q2.g }⟩
  case done =>
   rintro s Q E' ⟨q1,q2⟩ k
   refine z50 (A:=A.in1) (sl:=0) hh q2 q1 (fun E2=>WA (z4A hb q2 E2) (fun r s' ⟨e1,e2⟩=>⟨by rw [e1,gt,WJ (by omega)]; rfl,e2⟩) fun _ _ e=>e) fun h' eb=>k h' fun b ob hb' e=>eb b ob hb' e
  case fin =>
   intro h' acc' c' k g ea
   refine fin h' acc' c' zs k g ?_ (pz.trans x.p)
   rw [ea,← hl]
   refine List.ext_getElem (by simp) fun i h1 h2=>?_
   simp at h1 h2
   simp [h2]
 | false =>
  have h1:es.size≤1:=hc.resolve_left (by rw [hb]; decide)
  have hps:t.place.size=es.size:=by
   have:=x.f
   unfold SetTable.fits at this
   simp at this
   exact this.1
  have hxl:xs.length=es.size:=by
   have:=congrArg Qu x.e
   simp at this
   omega
  by_cases h0:es.size=0
  ·refine z9X (it:=it) (St:=fun i h=>h.get? it=some (itO (.int 0 0) i a es.size ep)∧SetX prog w h a ks o es ep t xs) (n:=0) (val:=fun i=>.none) hS (by decide) (fr fun _=>.int 0 0) (fun i s Q E' hlt=>by omega) ?done 0 0 s #[] c rfl (Wb _) ⟨hi,x⟩ gS rfl ?fin
   case done =>
    rintro s Q E' ⟨q1,q2⟩ k
    refine z50 (A:=A.in1) (sl:=0) hh q2 q1 (fun E2=>WA (z3Y hb q2 h1 0 E2) (fun r s' ⟨e1,e2⟩=>⟨by
     rw [e1,Array.getElem?_eq_none (by omega)],e2⟩) fun _ _ e=>e) fun h' eb=>k h' fun b ob hb' e=>eb b ob hb' e
   case fin =>
    intro h' acc' c' k g ea
    have:xs=[]:=Qs (by omega)
    refine fin h' acc' c' xs k g ?_ x.p
    rw [ea,this]; rfl
  ·have hone:es.size=1:=by omega
   obtain ⟨z,ez⟩:∃ z,xs=[z]:=by
    match xs,hxl with
    | [z],_=>exact ⟨z,rfl⟩
    | [],h=>simp at h; omega
    | _ :: _ :: _,h=>simp at h; omega
   obtain ⟨j,ej⟩:∃ j,t.place = #[j]:=by
    have:t.place.toList.length=1:=by simp; omega
    match hp:t.place.toList,this with
    | [j],_=>exact ⟨j,by rw [← Array.toArray_toList (xs:=t.place),hp]⟩
   have e0:es[0]? = some (elE prog w z):=by rw [← Array.getElem?_toList,x.e,ez]; rfl
   have b0:SetTable.below t.place 0=0:=by rw [ej]; simp [SetTable.below,SetTable.below.go]
   have b1:SetTable.below t.place (j + 1)=1:=by rw [ej]; simp [SetTable.below,SetTable.below.go]
   refine z9X (it:=it) (St:=fun i h=>h.get? it=some (itO (.int ((if i=0 then 0 else j + 1:Nat):Int) 0) i a es.size ep)∧SetX prog w h a ks o es ep t xs) (n:=1) (val:=fun i=>Value.str z.1 z.2) hS (by decide) (fr fun i=>.int ((if i=0 then 0 else j + 1:Nat):Int) 0) ?item ?done 1 0 s #[] c rfl (by decide) ⟨hi,x⟩ gS rfl ?fin
   case item =>
    rintro i s Q E' hlt ⟨q1,q2⟩ k
    obtain rfl:i=0:=by omega
    refine z5P (A:=A.in1) (sl:=0) (nx:=j + 1) (v:=Value.str z.1 z.2) q2 q1 (fun E2=>WA (z3Y (i:=0) hb q2 h1 0 E2) (fun r s' ⟨e1,e2⟩=>⟨by
     rw [e1,b0,e0,ej]; rfl,e2⟩) fun _ _ e=>e) fun h' sb g=>?_
    exact k h' (fun b ob hb' e=>(sb.2 b hb').trans e) ⟨g,{ q2 with g:=(sb.2 a hai).trans q2.g }⟩
   case done =>
    rintro s Q E' ⟨q1,q2⟩ k
    refine z50 (A:=A.in1) (sl:=j + 1) hh q2 q1 (fun E2=>WA (z3Y hb q2 h1 (j + 1) E2) (fun r s' ⟨e1,e2⟩=>⟨by
     rw [e1,b1,Array.getElem?_eq_none (by omega)],e2⟩) fun _ _ e=>e) fun h' eb=>k h' fun b ob hb' e=>eb b ob hb' e
   case fin =>
    intro h' acc' c' k g ea
    refine fin h' acc' c' xs k g ?_ x.p
    rw [ea,ez]; rfl
theorem walkD {S T:Addr} {res:Value} {R:Result→W1→Prop} {c:Nat} {ps:List Nat} (hh:A.handled=none) (x:SetX prog w s.heap a ks o es ep t xs) (hz:es.size≤1000) (hS:S≠it) (hSa:S≠a) (hai:a≠it) (hST:S≠T) (hTi:T≠it) (pp:ps.Perm (Wr es.size))
  (hi:s.heap.get? it=some (itO (.ref T) 0 a es.size ep)) (gT:s.heap.get? T=some (tupO ps)) (gS:s.heap.get? S=some { cls:=.type "list",data:=.seq #[] c })
  (fin:∀ h' acc' c' (zs:List (Str×Tok)),(∀ b ob,b≠S→b≠it→s.heap.get? b=some ob→h'.get? b=some ob)→h'.get? S=some { cls:=.type "list",data:=.seq acc' c' }→acc'.toList=zs.map (fun z=>Value.str z.1 z.2)→(zs.map (·.1)).Perm ks→R (.ok (.ret res)) { s with heap:=h' }) :
  Q1 (model prog w) A (.builtin "list.extend.loop" ⟨[.ref S,.ref it,res],[]⟩) R s:=by
 have hl:ps.length=es.size:=by rw [pp.length_eq,List.length_range]
 have hxl:xs.length=es.size:=by
  have:=congrArg Qu x.e
  simp at this
  omega
 have hin:∀ i (h:i < ps.length),ps[i] < xs.length:=fun i h=>by
  have:=List.mem_range.mp (pp.mem_iff.mp (Qj h))
  omega
 have ge:∀ p (h:p < xs.length),es[p]? = some (elE prog w xs[p]):=fun p h=>by
  rw [← Array.getElem?_toList,x.e,Wz,Wo h]; rfl
 refine z9X (it:=it) (St:=fun i h=>h.get? it=some (itO (.ref T) i a es.size ep)∧SetX prog w h a ks o es ep t xs∧h.get? T=some (tupO ps)) (n:=es.size) (val:=fun i=>((ps[i]?).bind fun p=>(xs[p]?).map fun z=>Value.str z.1 z.2).getD .none) hS hz (fun i h h' ⟨q1,q2,q3⟩ k=>⟨k _ _ (Ne.symm hS) q1,{ q2 with g:=k _ _ (Ne.symm hSa) q2.g },k _ _ (Ne.symm hST) q3⟩) ?item ?done es.size 0 s #[] c (by omega) (Qf _) ⟨hi,x,gT⟩ gS rfl ?fin
 case item =>
  rintro i s Q E' hlt ⟨q1,q2,q3⟩ k
  have hi':i < ps.length:=by omega
  have hp:=hin i hi'
  refine z7x (A:=A.in1) (T:=T) (ps:=ps) (p:=ps[i]) q2 q1 q3 rfl (Wo hi') (ge _ hp) fun h' sb g=>?_
  have:((ps[i]?).bind fun p=>(xs[p]?).map fun z=>Value.str z.1 z.2).getD .none=Value.str (xs[ps[i]]).1 (xs[ps[i]]).2:=by
   rw [Wo hi',WB,Wo hp]; rfl
  have k2:=k h' (fun b ob hb' e=>(sb.2 b hb').trans e) ⟨g,{ q2 with g:=(sb.2 a hai).trans q2.g },(sb.2 T hTi).trans q3⟩
  rw [this] at k2
  exact k2
 case done =>
  rintro s Q E' ⟨q1,q2,q3⟩ k
  exact z98 (A:=A.in1) (T:=T) (ps:=ps) hh q2 q1 q3 rfl (WJ (by omega)) fun h' eb=>k h' fun b ob hb' e=>eb b ob hb' e
 case fin =>
  intro h' acc' c' k g ea
  refine fin h' acc' c' (ps.filterMap (xs[·]?)) k g ?_ ?_
  ·rw [ea,← hl]
   have all:∀ p ∈ ps,p < xs.length:=fun p hp=>by have:=List.mem_range.mp (pp.mem_iff.mp hp); omega
   clear pp fin ea g k hl hin ge hi gT
   have:∀ ps:List Nat,(∀ p ∈ ps,p < xs.length)→(Wr ps.length).map (fun i=>((ps[i]?).bind fun p=>(xs[p]?).map fun z=>Value.str z.1 z.2).getD .none)=(ps.filterMap (xs[·]?)).map fun z=>Value.str z.1 z.2:=fun ps=>by
    induction ps with
    | nil=>intro _; rfl
    | cons p ps ih =>
     intro all
     have hp:=all p Wg
     rw [WL,QV,Wj,Wy]
     have ih':=ih fun q hq=>all q (Wd _ hq)
     have e1:(p :: ps).filterMap (xs[·]?)=xs[p] :: ps.filterMap (xs[·]?):=List.filterMap_cons_some (Wo hp)
     rw [e1,Wj,← ih']
     simp [Wo hp,Function.comp_def]
   exact this ps all
  ·have p1:(ps.filterMap (xs[·]?)).Perm xs:=(pp.filterMap _).trans (by rw [← hxl,List.filterMap_getElem?_range_length])
   exact (p1.map (·.1)).trans x.p
end
section
variable {prog:We} {w:Wk} {A:Wm} {E:Value→W1→Prop} {s:W1}
theorem zbJ (hh:A.handled=none) (x:SetX prog w s.heap a ks o es ep t xs) (hz:es.size≤1000) (hSa:S≠a) (gS:s.heap.get? S=some { cls:=.type "list",data:=.seq #[] c0 })
  (fin:∀ (h3:Heap) (d:Drawn) (acc:Array Value) (c:Nat) (ys:List (Str×Tok)),(∀ b ob,b≠S→s.heap.get? b=some ob→h3.get? b=some ob)→h3.get? S=some { cls:=.type "list",data:=.seq acc c }→acc.toList=ys.map (fun z=>Value.str z.1 z.2)→(ys.map (·.1)).Perm ks→R (.ok (.ret res)) { s with heap:=h3,drawn:=d }) :
  W6 (model prog w) A.in1 (Builtin.List.listExtendWith (.ref S) (.ref a) res) (fun fin s'=>match fin with | .done f=>R (.ok f) s' | .again c'=>c'.quiet=true∧Q1 (model prog w) A c' R s') (fun e s'=>R (.error e) s') s:=by
 have lt:=Wi x.g
 have lS:=Wi gS
 unfold Builtin.List.listExtendWith
 refine W0 (QJ (T:="set") x.so.typeIs ?_)
 have n1:Builtin.List.listSameRef (.ref S) (.ref a)=false:=by simp only [Builtin.List.listSameRef]; exact beq_eq_false_iff_ne.mpr hSa
 have n2:(Value.type "set" == Value.type "list")=false:=by decide
 have n3:(Value.type "set" == Value.type "tuple")=false:=by decide
 simp only [n1,n2,n3,Bool.or_false,Bool.false_eq_true,if_false]
 refine W0 (iterL x hz (fun hc=>?_) (fun ps d pp=>?_))
 ·have x2:SetX prog w (s.heap.push (itO (.int 0 0) 0 a es.size ep)) a ks o es ep t xs:={ x with g:=W3 _ x.g }
  have g1:(s.heap.push (itO (.int 0 0) 0 a es.size ep)).get? S=some { cls:=.type "list",data:=.seq #[] c0 }:=W3 _ gS
  have g2:(s.heap.push (itO (.int 0 0) 0 a es.size ep)).get? s.heap.objs.size=some (itO (.int 0 0) 0 a es.size ep):=Wh _ rfl
  refine W0 (WP (zds (s:={ s with heap:=s.heap.push (itO (.int 0 0) 0 a es.size ep) }) ⟨_,_,_,_,_,x2⟩ ?_))
  refine J7 (fun _=>?_) (fun hn=>absurd (by decide) hn)
  refine W0 (QG ?_)
  refine W0 ?_
  show W6 _ _ (updateSeq S (·.push .none) >>= fun _=>updateSeq S (·.pop)) _ _ _
  refine W0 (J8 (s:={ s with heap:=s.heap.push (itO (.int 0 0) 0 a es.size ep) }) g1 rfl ?_)
  have g4:=WG (Obj.mapSeq (·.push Value.none)) g1 rfl
  refine J8 (hz:=by seq_fits) g4 rfl ?_
  have g5:=WG (Obj.mapSeq (·.pop)) g4 rfl
  have k2:∀ b ob,b≠S→(s.heap.push (itO (.int 0 0) 0 a es.size ep)).get? b=some ob→(((s.heap.push (itO (.int 0 0) 0 a es.size ep)).update S (Obj.mapSeq (·.push Value.none))).update S (Obj.mapSeq (·.pop))).get? b=some ob:=fun b ob hb e =>
   (WM _ _ (Ne.symm hb)).trans ((WM _ _ (Ne.symm hb)).trans e)
  refine W4 ⟨Qr Qm _,?_⟩
  refine walkI (s:={ s with heap:=_ }) hh { x2 with g:=k2 a _ (Ne.symm hSa) x2.g } hz (Wu lS) hSa (Wu lt) hc (k2 _ _ (Jb lS) g2) g5 fun h3 acc c' ys k3 g6 ea pp=>fin h3 s.drawn acc c' ys (fun b ob hb e=>?_) g6 ea pp
  have lb:=Wi e
  exact k3 b ob hb (Wu lb) (k2 b ob hb (W3 _ e))
 ·have zT:(s.heap.push (tupO ps)).objs.size=s.heap.objs.size + 1:=QZ _ _
  have x2:SetX prog w ((s.heap.push (tupO ps)).push (itO (.ref s.heap.objs.size) 0 a es.size ep)) a ks o es ep t xs:={ x with g:=W3 _ (W3 _ x.g) }
  have g1:((s.heap.push (tupO ps)).push (itO (.ref s.heap.objs.size) 0 a es.size ep)).get? S=some { cls:=.type "list",data:=.seq #[] c0 }:=W3 _ (W3 _ gS)
  have g2:((s.heap.push (tupO ps)).push (itO (.ref s.heap.objs.size) 0 a es.size ep)).get? (s.heap.push (tupO ps)).objs.size=some (itO (.ref s.heap.objs.size) 0 a es.size ep):=Wh _ rfl
  have gT:((s.heap.push (tupO ps)).push (itO (.ref s.heap.objs.size) 0 a es.size ep)).get? s.heap.objs.size=some (tupO ps):=W3 _ (Wh _ rfl)
  have lI:S < (s.heap.push (tupO ps)).objs.size:=by rw [zT]; exact Qq lS
  refine W0 (WP (zds (s:={ s with heap:=(s.heap.push (tupO ps)).push (itO (.ref s.heap.objs.size) 0 a es.size ep),drawn:=d }) ⟨_,_,_,_,_,x2⟩ ?_))
  refine J7 (fun _=>?_) (fun hn=>absurd (by decide) hn)
  refine W0 (QG ?_)
  refine W0 ?_
  show W6 _ _ (updateSeq S (·.push .none) >>= fun _=>updateSeq S (·.pop)) _ _ _
  refine W0 (J8 (s:={ s with heap:=(s.heap.push (tupO ps)).push (itO (.ref s.heap.objs.size) 0 a es.size ep),drawn:=d }) g1 rfl ?_)
  have g4:=WG (Obj.mapSeq (·.push Value.none)) g1 rfl
  refine J8 (hz:=by seq_fits) g4 rfl ?_
  have g5:=WG (Obj.mapSeq (·.pop)) g4 rfl
  have k2:∀ b ob,b≠S→((s.heap.push (tupO ps)).push (itO (.ref s.heap.objs.size) 0 a es.size ep)).get? b=some ob→((((s.heap.push (tupO ps)).push (itO (.ref s.heap.objs.size) 0 a es.size ep)).update S (Obj.mapSeq (·.push Value.none))).update S (Obj.mapSeq (·.pop))).get? b=some ob:=fun b ob hb e =>
   (WM _ _ (Ne.symm hb)).trans ((WM _ _ (Ne.symm hb)).trans e)
  refine W4 ⟨Qr Qm _,?_⟩
  refine walkD (s:={ s with heap:=_,drawn:=d }) (T:=s.heap.objs.size) (ps:=ps) hh { x2 with g:=k2 a _ (Ne.symm hSa) x2.g } hz (Wu lI) hSa (Wu (by rw [zT]; exact Qq lt)) (Wu lS) (by rw [zT]; exact Wu (Jn _)) pp (k2 _ _ (Jb lI) g2) (k2 _ _ (Jb lS) gT) g5 fun h3 acc c' ys k3 g6 ea pp=>fin h3 d acc c' ys (fun b ob hb e=>?_) g6 ea pp
  have lb:=Wi e
  exact k3 b ob hb (Wu (by rw [zT]; exact Qq lb)) (k2 b ob hb (W3 _ (W3 _ e)))
theorem zae (hh:A.handled=none) (hA:SetL prog w s.heap a ks) (hn:ks.length≤1000)
  (h:∀ (h':Heap) (d:Drawn) (zs:List (Str×Tok)),(zs.map (·.1)).Perm ks→(∀ b o,s.heap.get? b=some o→h'.get? b=some o)→s.heap.objs.size < h'.objs.size→Q (zs.map fun z=>Value.str z.1 z.2) { s with heap:=h',drawn:=d }):W6 (model prog w) A (collect (.ref a)) Q E s:=by
 obtain ⟨o,es,ep,t,xs,x⟩:=hA
 have hz:es.size≤1000:=by rw [x.sz]; exact hn
 have lt:=Wi x.g
 unfold collect
 refine W0 (wpAny_runValue (Q6 PySem.F.entry_proto_collect ?_))
 rw [Around.under_plainId PySem.F.plain_proto_collect _]
 show W6 _ A.in1 (newList [] >>= fun l=>again (.builtin "list.__iadd__" ⟨[l,.ref a],[]⟩)) _ _ s
 refine W0 (WO ?_)
 refine W4 ⟨Qr PySem.F.plain_list_iadd _,Q6 PySem.F.entry_list_iadd ?_⟩
 rw [Around.under_plainId PySem.F.plain_list_iadd _]
 generalize hL:({ cls:=.type "list",data:=.seq ([]:List Value).toArray }:Obj)=L0
 have g0:(s.heap.push L0).get? s.heap.objs.size=some { cls:=.type "list",data:=.seq #[] }:=by rw [← hL]; exact Wh _ rfl
 have x1:SetX prog w (s.heap.push L0) a ks o es ep t xs:={ x with g:=W3 _ x.g }
 show W6 _ A.in1 (Builtin.List.listExtendWith (.ref s.heap.objs.size) (.ref a) (.ref s.heap.objs.size)) _ _ _
 have key:=zbJ (A:=A) (s:={ s with heap:=s.heap.push L0 }) (res:=.ref s.heap.objs.size) (R:=fun q s'=>∃ (h3:Heap) (d:Drawn) (acc:Array Value) (c:Nat) (ys:List (Str×Tok)),q = .ok (.ret (.ref s.heap.objs.size))∧s' = { s with heap:=h3,drawn:=d }∧(∀ b ob,s.heap.get? b=some ob→h3.get? b=some ob)∧h3.get? s.heap.objs.size=some { cls:=.type "list",data:=.seq acc c }∧acc.toList=ys.map (fun z=>Value.str z.1 z.2)∧(ys.map (·.1)).Perm ks) hh x1 hz (Jb lt) g0 fun h3 d acc c ys k3 g3 ea pp =>
  ⟨h3,d,acc,c,ys,rfl,rfl,fun b ob e=>k3 b ob (Wu (Wi e)) (W3 _ e),g3,ea,pp⟩
 have last:∀ (h3:Heap) (d:Drawn) (acc:Array Value) (c:Nat) (ys:List (Str×Tok)),(∀ b ob,s.heap.get? b=some ob→h3.get? b=some ob)→h3.get? s.heap.objs.size=some { cls:=.type "list",data:=.seq acc c }→acc.toList=ys.map (fun z=>Value.str z.1 z.2)→(ys.map (·.1)).Perm ks →
   W6 (model prog w) A (do
    match (← load s.heap.objs.size).data with
    | .seq xs _=>pure xs.toList
    | _=>unsupported "internal:collect") Q E { s with heap:=h3,drawn:=d }:=fun h3 d acc c ys k3 g3 ea pp=>by
  refine W0 (wpAny_load g3 ?_)
  refine W4 ?_
  show Q acc.toList _
  rw [ea]
  exact h h3 d ys pp k3 (Wi g3)
 refine WA key (fun fin s' z=>?_) fun e s' z=>?_
 ·cases fin with
  | done f =>
   obtain ⟨h3,d,acc,c,ys,e,rfl,k3,g3,ea,pp⟩:=z
   cases e
   exact last h3 d acc c ys k3 g3 ea pp
  | again c₁ =>
   refine ⟨z.1,Qv z.2 fun q s₂ y=>?_⟩
   obtain ⟨h3,d,acc,c,ys,rfl,rfl,k3,g3,ea,pp⟩:=y
   exact last h3 d acc c ys k3 g3 ea pp
 ·obtain ⟨_,_,_,_,_,e',_⟩:=z
  cases e'
theorem zaU (zs:List (Str×Tok)):StrsAre (zs.map fun z=>Value.str z.1 z.2) (zs.map (·.1)):=by
 induction zs with
 | nil=>exact .nil
 | cons z zs ih=>exact .cons _ _ ih
theorem zaX (hh:A.handled=none) (hA:SetL prog w s.heap a ks) (hn:ks.length < 64)
  (h:∀ (h':Heap) (d:Drawn) (p:Addr) (e:Nat) (out:Array Value) (ss:List Str),StrsAre out.toList ss→ss.Perm ks→sortedS ss=true→(∀ b o,s.heap.get? b=some o→h'.get? b=some o)→s.heap.objs.size≤p→h'.get? p=some (seqObj "list" out e)→Q (.ref p) { s with heap:=h',drawn:=d }) :
  W6 (model prog w) A (call (.builtin "sorted") [.ref a]) Q E s:=by
 refine Calls.call_function_entry kind_sorted plain_sorted entry_sorted (args_sorted1 _) ?_
 unfold Builtin.«sorted»
 refine W0 (m:=checkCount "sorted" 1 1 _) (W4 (W0 (zae (A:=A.in1) hh hA (by omega) fun h1 d zs pz k1 hz=>?_)))
 have hl:(zs.map fun z=>Value.str z.1 z.2).length < 64:=by have:=pz.length_eq; simp at this ⊢; omega
 refine W0 (wpAny_newList ?_ (by rw [QT]; omega))
 have hS:=zaU zs
 generalize (zs.map fun z=>Value.str z.1 z.2)=vs at hl hS ⊢
 have ho:(h1.push (seqObj "list" vs.toArray 0)).get? h1.objs.size=some (seqObj "list" vs.toArray 0):=Wh _ rfl
 refine W0 (WP (Qi slot_list_sort ⟨_,ho,rfl⟩ entry_list_sort (list_sort_treeK (s:={ s with heap:=h1.push (seqObj "list" vs.toArray 0),drawn:=d }) strKind_oneLt ho hS.keysOf (fun v₁ v₂ rest e=>keyKind_strs (by rw [← e]; exact hS)) hl fun st' hp hs=>⟨_,rfl,?_⟩) (args_list_sort _)))
 obtain ⟨ss',q1,q2,q3⟩:=sorted_out_str hS hp hs
 obtain ⟨e,he⟩:=sortedHeap_at (out:=(arrOf st').map (·.2)) ho
 refine W4 ⟨_,rfl,h _ d h1.objs.size e _ ss' q1 (q2.trans pz) q3 (fun b o q=>?_) (QW hz) he⟩
 have r1:=k1 b o q
 have lb:=Wi r1
 rw [sortedHeap_old (Wu lb) (by rw [size_push']; exact Qq lb)]
 exact W3 _ r1
end
end SU
set_option maxHeartbeats 400000
namespace L2
open PySem PySem.Spec PyProof.Rows PySem.W DV SU
def setO (X:Cx) (a:Addr) (ks:List Str):HO:=.ext fun h=>SetL X.prog X.w h a ks
theorem zb2 (x:SetL X.prog X.w h a ks):ObjOk X.prog X.w H h a (setO X a ks):=by
 refine ⟨x,?_,fun h1 h2 y k=>y.at' k⟩
 obtain ⟨o,es,ep,t,xs,z⟩:=x
 exact ⟨o,z.g⟩
theorem z9C (ok:HOk X.prog X.w H h) (e:H a=some (setO X a ks)):SetL X.prog X.w h a ks :=
 (show ObjOk X.prog X.w H h a (setO X a ks) from ok a _ e).1
section
variable {X:Cx}
theorem Inv.drawn (I:Inv X pins σ H s) (d:Drawn):Inv X pins σ H { s with drawn:=d } :=
 ⟨I.ok,I.os,I.bare,I.base,I.loc,I.cell,I.free,I.freeC,I.pin,I.hok,I.len⟩
theorem vals_strs:∀ {vs:List Value} {ss:List Str},StrsAre vs ss→Vals (ss.map V.str) vs
 | _,_,.nil=>.nil
 | _,_,.cons x t h=>.cons ⟨t,rfl⟩ (vals_strs h)
theorem z7J (hc:X.calm=true):CallR X (.builtin "sorted") (fun xs H Q=>∃ (a:Addr) (ts:List Tx),xs=[.ref a]∧H a=some (setO X a (ts.map toS))∧ts.length < 64∧∀ p,H p=none→Q (.ref p) (upd H p (.lst ((z1Q ts).map fun z=>V.str (toS z))))):=by
 intro pins s σ H xs us Q I r h
 obtain ⟨a,ts,rfl,ha,hz,q⟩:=h
 obtain ⟨u,rfl,ru⟩:=z33 r
 cases ru
 refine zaX (I.ok.hd hc) (z9C I.hok ha) (by simpa using hz) fun h' d p e out ss hS hp hs k hpz g=>?_
 have e2:ss=(z1Q ts).map toS:=by
  have hpw:(ss.map fun z:Str=>z.cps.toList).Pairwise leT:=by
   cases ss with
   | nil=>simp
   | cons x r=>exact z3K x r hs
  have hpp:(ss.map fun z:Str=>z.cps.toList).Perm ts:=by
   have:=hp.map fun z:Str=>z.cps.toList
   rw [Wy] at this
   have e2:ts.map ((fun z:Str=>z.cps.toList) ∘ toS)=ts:=by
    rw [show ((fun z:Str=>z.cps.toList) ∘ toS)=id from funext fun z=>z3C z,List.map_id]
   rw [e2] at this
   exact this
  rw [← z6V hpp hpw,Wy]
  rw [show (toS ∘ fun z:Str=>z.cps.toList)=id from funext fun z=>(z7U z).symm,List.map_id]
 have rv:Vals ((z1Q ts).map fun z=>V.str (toS z)) out.toList:=by
  have:=vals_strs hS
  rw [e2,Wy] at this
  exact this
 have hl:(z1Q ts).length=ts.length:=(z2g ts).length_eq
 have I1:=(I.drawn d).laid (h':=h') (t':=s.toks) (o:=.lst ((z1Q ts).map fun z=>V.str (toS z))) k hpz (show ObjOk X.prog X.w _ _ _ (.lst _) from ⟨by rw [Wx,hl,QT]; omega,out.toList,e,rv,g⟩)
 exact ⟨.ref _,_,I1,rfl,q _ (I.hok.fresh hpz)⟩
end
end L2
namespace DV
open PySem PySem.Spec PyProof.Rows L2 SU
section
variable {X:Cx} {c:Fc} {a b:Expr} {f g:DE} {pp pos p1 p2' p3 p4 p5:Pos}
end
end DV
namespace L2
open PySem PySem.Spec PyProof.Rows PySem.W DV
section
variable {X:Cx}
end
end L2
namespace DV
open PySem PySem.Spec PyProof.Rows L2
section
variable {X:Cx} {c:Fc} {e:Expr} {fb:BE} {pp pos:Pos}
end
section
variable {X:Cx}
end
section
variable {X:Cx} {c:Fc} {o e:Expr} {fa fb:DE}
end
end DV
set_option maxHeartbeats 3200000
namespace SU
open PySem PyProof.Rows
theorem z6o:isSubtype (.type "str") (.type "set")=pure false:=by rw [isSubtype_type]; kernel_rfl
theorem z34:isSubtype (.type "str") (.type "frozenset")=pure false:=by rw [isSubtype_type]; kernel_rfl
section
variable {prog:We} {w:Wk} {A:Wm} {E:Value→W1→Prop} {s:W1}
theorem callT (hh:A.handled=none) (hb:x.cps.size + 1 < Jf)
  (h:∀ (h':Heap) (tk:Nat),SetL prog w h' s.heap.objs.size (fm (fun i=>⟨#[x.cps.getD i 0]⟩) x.cps.size)→(∀ b o,s.heap.get? b=some o→h'.get? b=some o)→Q (.ref s.heap.objs.size) { s with heap:=h',toks:=tk }) :
  W6 (model prog w) A (call (.type "set") [.str x t]) Q E s:=by
 refine callS ?_
 have e1:=z6o
 have e2:=z34
 have e3:(Value.type "str" == Value.type "dict")=false:=by decide
 unfold Builtin.«set.__init__» noKeywords Builtin.Frozenset.updateFrom
 generalize hPI:pyIter=PI
 wp_walk
 subst hPI
 refine wpAny_pyIter_str fun o St W hst=>?_
 refine W0 (wpAny_runValue ?_)
 have hh3:A.in1.in1.in1.handled=none:=by simp [hh]
 have nin:s.heap.objs.size ∉ [(s.heap.push (so0 w)).objs.size]:=by
  rw [QZ,List.mem_singleton]
  exact Wu (Jn _)
 refine loopL ((W _ hh3).toS) s.heap.objs.size nin (fun i=>⟨#[x.cps.getD i 0]⟩) (fun i v ⟨c,u,e,ev⟩=>⟨u,by rw [ev,Array.getD_eq_getD_getElem?,e]; rfl⟩) hb (x.cps.size - 0) 0 _ (by omega) (Qf _) hst ((zbI s.heap).at' fun o' e=>W3 _ e) fun s' mv z=>?_
 obtain ⟨h',g',d',tk',os'⟩:=s'
 have q1:g'=s.gens:=mv.gens
 have q2:d'=s.drawn:=mv.drawn
 have q3:os'=s.os:=mv.os
 subst q1; subst q2; subst q3
 show W6 _ _ _ _ _ _
 refine W4 ?_
 show W6 _ _ (ret Value.none) _ _ _
 refine W4 ⟨rfl,h h' tk' z fun b ob e=>?_⟩
 have lb:=Wi e
 refine mv.heap b ob ?_ (W3 _ (W3 _ e))
 rw [QZ]
 simp only [Wf,List.not_mem_nil,or_false,not_or]
 exact ⟨Wu lb,Wu (Qq lb)⟩
end
end SU
set_option maxHeartbeats 1000000
namespace DV
open PySem (sizeLine)
open L2
section
variable {α β:Type}
@[simp] theorem z0Q (a:α) (δ:Dl) (f:α→Dl→Rs β):(Rs.ok a δ).bind f=f a δ:=id rfl
@[simp] theorem za7 (f:α→Dl→Rs β):(Rs.stuck:Rs α).bind f = .stuck:=id rfl
@[simp] theorem ev_d1 (d:D):(S.pure d).d=d:=id rfl
@[simp] theorem ev_d2 (d:D):(S.own d).d=d:=id rfl
end
section
variable (δ:Dl) (i:Nat) (d e:D) (f g:DE) (fb:BE) (t u:DT) (p:D→D→Option S)
@[simp] theorem ev_eD:eD d δ = .ok (.pure d) δ:=id rfl
@[simp] theorem zdy:bOf f δ=(f δ).bind fun r δ'=>.ok r.d δ':=id rfl
@[simp] theorem zdx:eOp p f fb δ=(f δ).bind fun x δ1=>(fb δ1).bind fun y δ2=>p2 p x.d y δ2:=id rfl
@[simp] theorem ev_dAnd:dAnd t u δ=(t δ).bind fun b δ1=>if b then u δ1 else .ok false δ1:=id rfl
@[simp] theorem ev_dOr:dOr t u δ=(t δ).bind fun b δ1=>if b then .ok true δ1 else u δ1:=id rfl
@[simp] theorem ev_dNot:dNot t δ=(t δ).bind fun b δ1=>.ok (!b) δ1:=id rfl
@[simp] theorem ev_eIf:eIf t f g δ=(t δ).bind fun b δ1=>if b then f δ1 else g δ1:=id rfl
@[simp] theorem ev_dNext:z1C δ = .ok .next δ:=id rfl
@[simp] theorem ev_dYes:dYes δ = .ok true δ:=id rfl
@[simp] theorem ev_dDrop:dDrop f δ=(f δ).bind fun _ δ1=>.ok .next δ1:=id rfl
@[simp] theorem ev_dRet:dRet f δ=(f δ).bind fun r δ1=>.ok (.ret r) δ1:=id rfl
@[simp] theorem ev_dIf (a b:DS):dIf t a b δ=(t δ).bind fun x δ1=>if x then a δ1 else b δ1:=id rfl
@[simp] theorem ev_dFor (it:DI) (gg:DG) (b:DS):dFor it gg b δ=(it δ).bind fun ds δ1=>forL gg b ds δ1:=id rfl
@[simp] theorem ev_eTup (a:DA):eTup a δ=(a δ).bind fun ds δ'=>.ok (.pure (.tup ds)) δ':=id rfl
@[simp] theorem ev_eLst (a:DA):eLst a δ=(a δ).bind fun ds δ'=>.ok (.own (.lst ds)) δ':=id rfl
@[simp] theorem ev_eLstC (ds:List D):zbL ds δ = .ok (.own (.lst ds)) δ:=id rfl
@[simp] theorem ev_aNil:aNil δ = .ok [] δ:=id rfl
@[simp] theorem ev_aCons (a:DA):z0F f a δ=(f δ).bind fun x δ1=>(a δ1).bind fun xs δ2=>.ok (x.d :: xs) δ2:=id rfl
@[simp] theorem ev_eC1 (q:D→Option S):eC1 q fb δ=(fb δ).bind fun x δ1=>p1 q x δ1:=id rfl
@[simp] theorem ev_eMax:eMax f g δ=(f δ).bind fun x δ1=>(g δ1).bind fun y δ2=>p2 pMax x.d y.d δ2:=id rfl
@[simp] theorem ev_eSl (fl fh:DOp):eSl f fl fh δ=(f δ).bind fun x δ1=>(fl δ1).bind fun l δ2=>(fh δ2).bind fun h δ3=>p1 (pSl l h) x.d δ3:=id rfl
@[simp] theorem ev_oNone:z5N δ = .ok none δ:=id rfl
@[simp] theorem z5d (cs:List Nat) (it:DI) (gg:DG) (el:DE):z1t cs it gg t el δ=(it δ).bind fun ds δ1=>if cs.any (z0C δ1) then .stuck else
 (z1D cs gg t el ds (clrD cs δ1) []).bind fun acc δ2=>.ok (.own (.lst acc)) (z1r cs δ1 δ2):=id rfl
@[simp] theorem ev_gNm (np:List Nat) (r:S):gNm np i r δ=if np.contains i then none else some (δ.set i (some r)):=id rfl
@[simp] theorem zbK (gg:DG) (b:DS):forL gg b [] δ = .ok .next δ:=id rfl
end
section
variable (δ:Dl) (i:Nat) (d e:D) (f g:DE) (fb:BE) (p:D→D→Option S) (s:S)
@[simp] theorem ev_p2 (x y:D):p2 p x y δ=match p x y with | some s=>.ok s δ | none=>.stuck:=id rfl
@[simp] theorem ev_p1 (q:D→Option S) (x:D):p1 q x δ=match q x with | some s=>.ok s δ | none=>.stuck:=id rfl
@[simp] theorem ev_dSeq (a b:DS):dSeq a b δ=(a δ).bind fun fl δ1=>match fl with | .next=>b δ1 | .ret r=>.ok (.ret r) δ1 | .brk=>.ok .brk δ1 | .cont=>.ok .cont δ1:=id rfl
@[simp] theorem zbV {α β:Type} (c:Prop) [Decidable c] (x y:Rs α) (k:α→Dl→Rs β):(if c then x else y).bind k=if c then x.bind k else y.bind k:=by split <;> rfl
end
theorem z0E:W7=16777216:=rfl
theorem z1c (xs:List α) (i:Nat):atI xs (i:Int)=xs[i]?:=by
 unfold atI ixN
 by_cases h:i < xs.length
 ·rw [if_pos (by omega),if_pos (by omega)]
  simp
 ·rw [if_pos (by omega),if_neg (by omega)]
  simp [WJ (Nat.le_of_not_lt h)]
theorem z6J (xs:List α):atI xs 2=xs[2]?:=z1c xs 2
theorem z3A (xs:List α):atI xs 0=xs[0]?:=z1c xs 0
theorem z6K (xs:List α):atI xs 1=xs[1]?:=z1c xs 1
theorem z45 (I:Dl→Prop) (R:D→D→Prop) :
  ∀ (ds:List D) (δ:Dl) (acc:List D),I δ→acc.length + ds.length≤W7 →
   (∀ d ∈ ds,∀ δ,I δ→∃ δ1 δ2 x δ3,g (.pure d) δ=some δ1∧t δ1 = .ok true δ2∧el δ2 = .ok x δ3∧I (clrD cs δ3)∧R d x.d) →
   ∃ xs δ',z1D cs g t el ds δ acc = .ok (acc ++ xs) δ'∧I δ'∧xs.length=ds.length∧∀ (i:Nat) d x,ds[i]? = some d→xs[i]? = some x→R d x
 | [],δ,acc,h,_,_=>⟨[],δ,by simp [z1D],h,rfl,fun i d x e=>by simp at e⟩
 | d :: r,δ,acc,h,hl,hs=>by
  obtain ⟨δ1,δ2,x,δ3,e1,e2,e3,h3,hr⟩:=hs d Wg δ h
  have hl':acc.length < W7:=by simp at hl; omega
  obtain ⟨xs,δ',e4,h4,hn,hf⟩:=z45 (g:=g) (t:=t) (el:=el) I R r (clrD cs δ3) (acc ++ [x.d]) h3 (by simp at hl ⊢; omega) (fun d hd=>hs d (Wd _ hd))
  refine ⟨x.d :: xs,δ',?_,h4,by simp [hn],fun i d' x' f1 f2=>?_⟩
  ·unfold z1D
   rw [e1]
   simp only [e2,z0Q,if_true,e3,if_pos hl',e4]
   simp
  ·cases i with
   | zero=>simp at f1 f2; subst f1 f2; exact hr
   | succ i=>exact hf i d' x' (by simpa using f1) (by simpa using f2)
theorem z9j (F:D→D) (δ:Dl) :
  ∀ (ds:List D) (acc:List D),acc.length + ds.length≤W7 →
   (∀ d ∈ ds,∃ δ1 δ2 x δ3,g (.pure d) δ=some δ1∧t δ1 = .ok true δ2∧el δ2 = .ok x δ3∧clrD cs δ3=δ∧x.d=F d) →
   z1D cs g t el ds δ acc = .ok (acc ++ ds.map F) δ:=by
 intro ds acc hl hs
 obtain ⟨xs,δ',e,h,hn,hf⟩:=z45 (cs:=cs) (g:=g) (t:=t) (el:=el) (fun δ'=>δ'=δ) (fun d x=>x=F d) ds δ acc rfl hl (fun d hd δ' h=>by
  subst h
  obtain ⟨δ1,δ2,x,δ3,a,b,c,d,e⟩:=hs d hd
  exact ⟨δ1,δ2,x,δ3,a,b,c,d,e⟩)
 subst h
 rw [e]
 congr 2
 apply List.ext_getElem?
 intro i
 by_cases hi:i < ds.length
 ·have:=hf i ds[i] (xs[i]'(by omega)) (by simp [hi]) (by simp [hn,hi])
  simp [hn,hi,this]
 ·rw [WJ (by omega),WJ (by simp; omega)]
theorem z2k (I:Nat→Dl→Prop) :
  ∀ (ds:List D) (n:Nat) (δ:Dl),I n δ →
   (∀ (i:Nat) d δ,ds[i]? = some d→I (n + i) δ→∃ δ1 δ2,g (.pure d) δ=some δ1∧b δ1 = .ok .next δ2∧I (n + i + 1) δ2) →
   ∃ δ',forL g b ds δ = .ok .next δ'∧I (n + ds.length) δ'
 | [],n,δ,h,_=>⟨δ,rfl,h⟩
 | d :: r,n,δ,h,hs=>by
  obtain ⟨δ1,δ2,e1,e2,h2⟩:=hs 0 d δ rfl h
  obtain ⟨δ',e3,h3⟩:=z2k (g:=g) (b:=b) I r (n + 1) δ2 h2 (fun i d' δ' e hi=>by
   have:=hs (i + 1) d' δ' (by simpa using e) (by rw [show n + (i + 1)=n + 1 + i by omega]; exact hi)
   rw [show n + (i + 1) + 1=n + 1 + i + 1 by omega] at this
   exact this)
  refine ⟨δ',?_,by rw [WL,show n + (r.length + 1)=n + 1 + r.length by omega]; exact h3⟩
  unfold forL
  rw [e1]
  simp only [e2,z0Q,e3]
theorem z3x (xs:List Tx):z2m (xs.map .str)=some xs:=by
 induction xs with
 | nil=>rfl
 | cons x r ih=>simp [z2m,ih]
theorem z1w:∀ ts:List Tx,z3U [] ts=ts.flatten
 | []=>rfl
 | [x]=>by simp [z3U]
 | x :: y :: r=>by rw [z3U,z1w (y :: r)]; simp
theorem z7E (xs:List Nat):z1v (xs.map fun n=>[n])=xs.length:=by
 unfold z1v
 induction xs with
 | nil=>rfl
 | cons x r ih=>simp at ih ⊢; omega
theorem za6 (xs:List Nat):(xs.map fun n=>[n]).flatten=xs:=by
 induction xs with
 | nil=>rfl
 | cons x r ih=>simp [ih]
theorem za5 (xs:List Nat) (h:xs.length≤16777216):z1m [] (.lst (xs.map fun n=>.str [n]))=some (.pure (.str xs)):=by
 have e:(xs.map fun n=>D.str [n])=(xs.map fun n=>[n]).map D.str:=by simp
 unfold z1m
 simp only [e,z3x,z7E,z1w,za6]
 rw [if_pos (by simpa using h)]
theorem z62 (r:Tx) (c:Nat) (h:c < r.length) (hl:r.length≤64):pIx (.str r) (.int c)=some (.pure (.str [r.getD c 0])):=by
 unfold pIx
 have:W7=16777216:=rfl
 simp only
 rw [if_pos (by omega),z1c]
 simp [h]
abbrev flD (fl:List Tx):D:=.tup (fl.map .str)
structure Rect (w:Nat) (fl:List Tx):Prop where
 h0:0 < fl.length
 h1:fl.length≤64
 w0:0 < w
 w1:w≤64
 all:∀ r ∈ fl,r.length=w
def turn (w:Nat) (fl:List Tx):List Tx:=(Wr w).map fun c=>fl.map fun r=>r.getD c 0
def back (fl:List Tx):List Tx:=fl.map List.reverse
def rng (r:S) (δ1:Dl):Rs (List D):=match r with
 | .pure (.int j)=>if z4p j then .ok (z0k 0 j.toNat) δ1 else .stuck
 | _=>.stuck
@[simp] theorem zdw (f:DE) (δ:Dl):z0N f δ=(f δ).bind fun r δ1=>rng r δ1:=id rfl
theorem z86 (w:Nat) (hw:w≤1000000):z4p (w:Int)=true:=by
 have h1 : -(4611686018427387904:Int)≤(w:Int):=by omega
 have h2:(w:Int) < 4611686018427387904:=by omega
 unfold z4p
 rw [Ws]
 exact ⟨decide_eq_true h1,decide_eq_true h2⟩
theorem zcn (j:Int) (hs:z4p j=true) (δ:Dl):rng (.pure (.int j)) δ = .ok (z0k 0 j.toNat) δ:=by unfold rng; simp only [hs,if_true]
theorem z5x (w:Nat) (hw:w≤1000000) (δ:Dl):rng (.pure (.int w)) δ = .ok (z0k 0 w) δ:=by
 have:=zcn (w:Int) (z86 w hw) δ
 rwa [QD] at this
theorem z2b (h:(z0k 0 n)[i]? = some d):i < n∧d = .int (i:Int):=by
 unfold z0k at h
 rw [Wz] at h
 by_cases hi:i < n
 ·rw [J4 hi] at h
  simp at h
  exact ⟨hi,h.symm⟩
 ·rw [WJ (by simpa using hi)] at h
  cases h
theorem z3k (h:d ∈ z0k 0 n):∃ i:Nat,i < n∧d = .int (i:Int):=by
 obtain ⟨i,hi⟩:=List.getElem?_of_mem h
 exact ⟨i,z2b hi⟩
@[simp] theorem zaH (lo:Int) (n:Nat):(z0k lo n).length=n:=by simp [z0k]
def insN (x:Nat):List Nat→List Nat
 | []=>[x]
 | y :: r=>if y < x then y :: insN x r else x :: y :: r
def z1J:List Nat→List Nat
 | []=>[]
 | x :: r=>insN x (z1J r)
theorem lt1 (a b:Nat):(([a]:Tx) < [b]) ↔ a < b:=by
 constructor
 ·intro h
  cases h with
  | cons h=>cases h
  | rel h=>exact h
 ·intro h; exact List.Lex.rel h
theorem zdq (x:Nat):∀ xs:List Nat,insT [x] (xs.map fun n=>[n])=(insN x xs).map fun n=>[n]
 | []=>rfl
 | y :: r=>by
  simp only [Wj,insT,insN]
  by_cases h:y < x
  ·rw [if_pos ((lt1 y x).mpr h),if_pos h,zdq x r]; rfl
  ·rw [if_neg fun z=>h ((lt1 y x).mp z),if_neg h]; rfl
theorem z84:∀ xs:List Nat,z1Q (xs.map fun n=>[n])=(z1J xs).map fun n=>[n]
 | []=>rfl
 | x :: r=>by rw [Wj,z1Q,z84 r,zdq]; rfl
theorem insN_mem:∀ {xs:List Nat},y ∈ insN x xs ↔ y=x∨y ∈ xs
 | []=>by simp [insN]
 | z :: r=>by
  unfold insN
  split
  ·simp [insN_mem (xs:=r)]; constructor <;> (rintro (h | h | h) <;> simp [h])
  ·simp
theorem sortN_mem:∀ {xs:List Nat},y ∈ z1J xs ↔ y ∈ xs
 | []=>by simp [z1J]
 | x :: r=>by rw [z1J,insN_mem,sortN_mem (xs:=r)]; simp
theorem z7c (x:Nat):∀ xs:List Nat,(insN x xs).length=xs.length + 1
 | []=>rfl
 | y :: r=>by unfold insN; split <;> simp [z7c x r]
theorem z3E:∀ xs:List Nat,(z1J xs).length=xs.length
 | []=>rfl
 | x :: r=>by rw [z1J,z7c,z3E r]; rfl
theorem z8Z:∀ {xs:List Nat},xs.Pairwise (· < ·)→x ∉ xs→(insN x xs).Pairwise (· < ·)
 | [],_,_=>by simp [insN]
 | y :: r,h,hx=>by
  rw [List.pairwise_cons] at h
  simp at hx
  unfold insN
  split
  ·rename_i hl
   rw [List.pairwise_cons]
   refine ⟨fun z hz=>?_,z8Z h.2 hx.2⟩
   rcases insN_mem.mp hz with rfl | hz
   ·exact hl
   ·exact h.1 z hz
  ·rename_i hl
   rw [List.pairwise_cons]
   refine ⟨fun z hz=>?_,Q9.mpr h⟩
   rcases Wf.mp hz with rfl | hz
   ·omega
   ·have:=h.1 z hz; omega
theorem z3s:∀ {xs:List Nat},xs.Nodup→(z1J xs).Pairwise (· < ·)
 | [],_=>by simp [z1J]
 | x :: r,h=>by
  rw [List.nodup_cons] at h
  exact z8Z (z3s h.2) fun z=>h.1 (sortN_mem.mp z)
theorem z88 {P:Nat→Prop}:∀ {xs:List D},(∀ x ∈ xs,∃ n,P n∧x = .str [n])→∃ row:List Nat,xs=row.map (fun n=>.str [n])∧∀ n ∈ row,P n
 | [],_=>⟨[],rfl,by simp⟩
 | x :: r,h=>by
  obtain ⟨n,hn,rfl⟩:=h x Wg
  obtain ⟨row,rfl,hr⟩:=z88 (xs:=r) fun y hy=>h y (Wd _ hy)
  exact ⟨n :: row,rfl,by simpa using ⟨hn,hr⟩⟩
theorem zb9 {R:D→D→Prop} {ds xs:List D} {Q:D→Prop} (hn:xs.length=ds.length) (hf:∀ (i:Nat) d x,ds[i]? = some d→xs[i]? = some x→R d x) (hq:∀ d x,d ∈ ds→R d x→Q x):∀ x ∈ xs,Q x:=fun x hx=>by
 obtain ⟨i,hi⟩:=List.getElem?_of_mem hx
 have h1:=(Wl.mp hi).1
 have h2:ds[i]? = some (ds[i]'(by omega)):=by simp [show i < ds.length by omega]
 exact hq _ x (Qj _) (hf i _ x h2 hi)
theorem z8i (w:Nat) (hw:w≤100000) (δ:Dl):rng (.pure (.int (1 + (w:Int)))) δ = .ok (z0k 0 (1 + w)) δ:=by
 have:=z5x (1 + w) (by omega) δ
 rwa [show (((1 + w:Nat):Int))=1 + (w:Int) by omega] at this
abbrev blD (b:Nat×List Tx):D:=.tup [.str [b.1],flD b.2]
abbrev ruD (h w:Nat) (bs:List (Nat×List Tx)):D:=.tup [.int h,.int w,.tup (bs.map blD)]
structure Rul (h w:Nat) (bs:List (Nat×List Tx)):Prop where
 h0:0 < h
 h1:h≤4
 w0:0 < w
 w1:w≤4
 hw:2 < h + w
 n0:0 < bs.length
 n1:bs.length≤26
 up:(bs.map (·.1)).Pairwise (· < ·)
 let':∀ b ∈ bs,97≤b.1∧b.1≤122
 blk:∀ b ∈ bs,b.2.length=h∧∀ r ∈ b.2,r.length=w∧∀ n ∈ r,n ∈ bs.map (·.1)
theorem z0Z (f F:A→D) (δ:Dl):∀ (as:List A) (acc:List D),acc.length + as.length≤W7 →
  (∀ a ∈ as,∃ δ1 δ2 x δ3,g (.pure (f a)) δ=some δ1∧t δ1 = .ok true δ2∧el δ2 = .ok x δ3∧clrD cs δ3=δ∧x.d=F a)→z1D cs g t el (as.map f) δ acc = .ok (acc ++ as.map F) δ
 | [],acc,_,_=>by simp [z1D]
 | a :: r,acc,hl,hs=>by
  obtain ⟨δ1,δ2,x,δ3,e1,e2,e3,e4,e5⟩:=hs a Wg
  have hl':acc.length < W7:=by simp at hl; omega
  have ih:=z0Z (cs:=cs) (g:=g) (t:=t) (el:=el) f F δ r (acc ++ [x.d]) (by simp at hl ⊢; omega) (fun a ha=>hs a (Wd _ ha))
  rw [Wj]
  unfold z1D
  rw [e1]
  rw [e5] at ih
  simp only [e2,z0Q,if_true,e3,if_pos hl',e4,e5,ih]
  simp
end DV
set_option maxHeartbeats 400000
namespace L2
open PySem PySem.Spec PyProof.Rows PySem.W DV SU
section
variable {X:Cx}
theorem z9n (hc:X.calm=true):CallR X (.type "set") (fun xs H Q=>∃ z:Tx,xs=[.str (toS z)]∧z.length < 1000∧∀ p,H p=none→Q (.ref p) (upd H p (setO X p ((z.map fun n=>toS [n]).foldl dd [])))):=by
 intro pins s σ H xs us Q I r h
 obtain ⟨z,rfl,hz,q⟩:=h
 obtain ⟨u,rfl,ru⟩:=z33 r
 obtain ⟨t,rfl⟩:=ru
 have sz:(toS z).cps.size=z.length:=by simp [toS]
 refine callT (I.ok.hd hc) (by rw [sz]; unfold Jf; omega) fun h' tk y k=>?_
 have e:fm (fun i=>⟨#[(toS z).cps.getD i 0]⟩) (toS z).cps.size=(z.map fun n=>toS [n]).foldl dd []:=by
  unfold fm
  congr 1
  rw [sz]
  refine List.ext_getElem (by simp) fun i h1 h2=>?_
  simp at h1 h2
  simp [toS,h2]
 rw [e] at y
 exact ⟨.ref _,_,I.laid (t':=tk) k (Wb _) (zb2 y),rfl,q _ (I.hok.fresh (Wb _))⟩
end
end L2
namespace DV
open PySem PySem.Spec PyProof.Rows L2 SU
def ddN:List Nat→List Nat→List Nat
 | σ,[]=>σ
 | σ,n :: r=>if n ∈ σ then ddN σ r else ddN (σ ++ [n]) r
theorem z9e:∀ (z σ:List Nat),(z.map fun n=>toS [n]).foldl dd (σ.map fun n=>toS [n])=(ddN σ z).map fun n=>toS [n]
 | [],σ=>rfl
 | n :: z,σ=>by
  rw [Wj,Qz]
  unfold ddN
  by_cases h:n ∈ σ
  ·rw [if_pos h]
   have e:dd (σ.map fun n=>toS [n]) (toS [n])=σ.map fun n=>toS [n]:=by
    unfold dd
    rw [if_pos (WK h)]
   rw [e]
   exact z9e z σ
  ·rw [if_neg h]
   have e:dd (σ.map fun n=>toS [n]) (toS [n])=(σ ++ [n]).map fun n=>toS [n]:=by
    unfold dd
    rw [if_neg (fun y=>by
     obtain ⟨m,hm,e⟩:=WU.mp y
     have:=z4I e
     simp at this
     exact h (this ▸ hm)),WZ]
    rfl
   rw [e]
   exact z9e z (σ ++ [n])
theorem z5h:∀ (z σ:List Nat),(ddN σ z).length≤σ.length + z.length
 | [],σ=>by simp [ddN]
 | n :: z,σ=>by
  unfold ddN
  split
  ·have:=z5h z σ; simp; omega
  ·have:=z5h z (σ ++ [n]); simp at this ⊢; omega
def z7w:D→Option S
 | .str z=>if z.length < 64 then some (.own (.lst ((z1J (ddN [] z)).map fun n=>.str [n]))) else none
 | _=>none
section
variable {X:Cx} {c:Fc} {e:Expr} {fb:BE} {pp pos ps1 ps2:Pos}
theorem zb5 (hc:X.calm=true) (hg:Gl X "sorted") (hm:X.mg "sorted" = none) (hg':Gl X "set") (hm':X.mg "set" = none) (he:SB X c e fb)
  (h1:Wa [e] X.env=(false,eval e X.env) :: Wa [] X.env:=by rfl)
  (h3:Wa [.Call (.Name "set" ps1) [e] [] ps2] X.env=(false,eval (.Call (.Name "set" ps1) [e] [] ps2) X.env) :: Wa [] X.env:=by rfl) :
  SE X c (.Call (.Name "sorted" pp) [.Call (.Name "set" ps1) [e] [] ps2] [] pos) (eC1 z7w fb) :=
 PE.weak (z3u (z7J hc) hg hm PyProof.Rows.boot_sorted (z0K (z5G (z9n hc) hg' hm' PyProof.Rows.boot_set (z0K he z1M h1) (by decide) (by decide) h1) z1M h3) (by decide) (by decide) h3) fun σ H Q ⟨δ,k,q⟩=>by
  unfold eC1 at q
  rw [z01] at q
  refine ⟨δ,k,z00 q fun x δ1 q1 v H1 a1 r1=>?_⟩
  unfold p1 at q1
  cases ex:z7w x with
  | none=>rw [ex] at q1; exact q1.elim
  | some s =>
   rw [ex] at q1
   cases x with
   | str z =>
    simp only [z7w] at ex
    split at ex
    ·rename_i hz
     cases ex
     have ev:=r1.str
     subst ev
     refine ⟨z,rfl,by omega,fun p hp=>?_⟩
     have e0:=z9e z []
     rw [List.map_nil] at e0
     rw [e0]
     have b1:=Aft.alloc a1.ok hp (setO X p ((ddN [] z).map fun n=>toS [n]))
     have l1:=z5h z []
     simp at l1
     refine ⟨p,(ddN [] z).map fun n=>[n],rfl,by rw [Wy]; exact z0d,by simp; omega,fun p4 hp4=>?_⟩
     have e5:(z1Q ((ddN [] z).map fun n=>[n])).map (fun z=>V.str (toS z))=(z1J (ddN [] z)).map fun n=>V.str (toS [n]):=by
      rw [z84,Wy]; rfl
     rw [e5]
     have e6:Reps (upd H1 p (setO X p ((ddN [] z).map fun n=>toS [n]))) (Av c σ δ1) ((z1J (ddN [] z)).map fun n=>V.str (toS [n])) ((z1J (ddN [] z)).map fun n=>D.str [n]):=by
      have:=z1U (H:=upd H1 p (setO X p ((ddN [] z).map fun n=>toS [n]))) (O:=Av c σ δ1) ((z1J (ddN [] z)).map fun n=>[n])
      rw [Wy,Wy] at this
      exact this
     exact q1 _ _ (a1.trans (b1.trans (.alloc b1.ok hp4 _))) (RepS.back (RepS.newL b1.ok e6 hp4) (a1.trans b1))
    ·cases ex
   | _=>cases ex
end
end DV
namespace PySem
end PySem
namespace L2
open PySem PySem.Spec PyProof.Rows
section
variable {X:Cx} {o:Expr} {apos cpos:Pos} {elts:List Expr} {ctx:Nat} {tp:Pos} {td:TE}
end
end L2
namespace DV
open PySem PySem.Spec PyProof.Rows L2
section
variable {X:Cx} {c:Fc} {o:Expr} {i:Nat} {apos cpos:Pos} {elts:List Expr} {ctx:Nat} {tp:Pos}
end
end DV
namespace L2
open PySem PySem.Spec PyProof.Rows
section
variable {X:Cx}
end
end L2
namespace DV
open PySem PySem.Spec PyProof.Rows L2
end DV
namespace L2
open PySem PySem.Spec PyProof.Rows
section
variable {X:Cx} {a b:Expr} {ta:TA} {pp pos pp1 pos1:Pos}
end
end L2
namespace DV
open PySem PySem.Spec PyProof.Rows L2
section
variable {X:Cx} {c:Fc} {a b:Expr} {f g:DE} {pp pos pp1 pos1:Pos}
end
section
variable {c:Fc} {σ σ':St} {δ δ':Dl} {H H':Hp} {i:Nat} {a p d:Addr} {dd:D}
end
structure Gh (c:Fc) (i:Nat) (p d:Addr) (σ0:St) (δ0:Dl) (H0:Hp) (ws:List (Key×V)) (ds:List (DKey×D)) (t:Tx) (σ:St) (δ:Dl) (H:Hp) (vs:List V) (xs:List D):Prop where
 ok:Ok ((c.plus p).park i d) σ δ H
 hd:H d=some (.dK (putK ws (.inr (toS t)) (.ref p)))
 hp:H p=some (.lst vs)
 rv:Reps H (Av ((c.plus p).park i d) σ δ) vs xs
 dr:DR H (Av ((c.plus p).park i d) σ δ) ws ds
 keep:∀ a o,H0 a=some o→¬ Own σ0 δ0 a→H a=some o
 own:∀ a,Own σ δ a→Own σ0 δ0 a∨H0 a=none
 there:∀ a o,H0 a=some o→∃ o',H a=some o'
section
variable {c:Fc} {i:Nat} {p d:Addr} {σ0 σ σ':St} {δ0 δ δ':Dl} {H0 H H':Hp} {ws:List (Key×V)} {ds:List (DKey×D)} {t:Tx} {vs vs':List V} {xs xs':List D}
end
section
variable {X:Cx} {c:Fc}
end
section
variable {X:Cx} {c:Fc} {σ:St} {δ:Dl} {H:Hp} {x y:Nat} {a:Addr} {d:D}
end
end DV
namespace PySem.ZW
open Sem (wp)
structure ZS (i1 i2 l1 l2:Addr) (xs ys:Array Value) (k:Nat) (h:Heap):Prop where
 i1:h.IsListIter i1 l1 k
 i2:h.IsListIter i2 l2 k
 l1:h.IsList l1 xs
 l2:h.IsList l2 ys
section
variable {prog:We} {w:Wk} {A:Wm} {E:Value→W1→Prop} {s:W1} {z TI TO i1 i2 l1 l2 a:Addr} {f:Bool} {oa:Obj} {k:Nat} {xs ys:Array Value} {x y:Value}
end
end PySem.ZW
namespace PySem.ZW
open Sem (wp)
structure ZG (xs ys:Array Value) (lo:Addr) (h:Heap) (as:List Addr):Prop where
 rise:as.Pairwise (· < ·)
 above:∀ a ∈ as,lo < a
 pairs:∀ (j:Nat) a,as[j]? = some a→∃ x y,xs[j]? = some x∧ys[j]? = some y∧IsPair h a x y
structure ZL (z TI TO i1 i2 l1 l2 S:Addr) (xs ys:Array Value) (h0:Heap) (h:Heap) (acc:Array Value) (c:Nat) (as:List Addr):Prop where
 keep:∀ b o,b≠S→b≠z→b≠TO→b≠i1→b≠i2→h0.get? b=some o→h.get? b=some o
 lst:h.get? S=some { cls:=.type "list",dict:=none,data:=.seq acc c,slots:=#[] }
 items:acc.toList=as.map Value.ref
 G:ZG xs ys S h as
section
variable {prog:We} {w:Wk} {A:Wm} {E:Value→W1→Prop} {s:W1} {z TI TO i1 i2 l1 l2 S:Addr} {xs ys:Array Value} {R:Result→W1→Prop} {res:Value}
end
end PySem.ZW
namespace PySem.ZW
open Sem (wp)
section
variable {prog:We} {w:Wk} {A:Wm} {E:Value→W1→Prop} {s:W1} {z TI TO i1 i2 l1 l2:Addr} {xs ys:Array Value}
end
end PySem.ZW
namespace L2
open PySem PySem.Spec PyProof.Rows
section
variable {X:Cx} {a b:Expr} {ta:TA} {pp pos pp1 pos1:Pos} {elts:List Expr} {ctx:Nat} {tp:Pos}
end
end L2
namespace DV
open PySem PySem.Spec PyProof.Rows L2
section
variable {X:Cx} {c:Fc} {a b:Expr} {f g:DE} {pp pos pp1 pos1:Pos} {elts:List Expr} {ctx:Nat} {tp:Pos}
end
section
variable {X:Cx}
end
section
variable {X:Cx} {c:Fc} {e:Expr} {fb:BE} {pos pp:Pos}
end
end DV
namespace L2
open PySem PySem.Spec PyProof.Rows
structure FnOkS (P:We) (w:Wk) (K:W2) (mg:Str→Option Value) (base:Heap) (k:Nat) (f:Addr) (fd:WC) (ps:List Str) (sp:List Env→W1→Sp):Prop where
 len:∀ outer s vs H Q E,sp outer s vs H Q E→vs.length=ps.length
 run:∀ (A:Wm) (outer:List Env) (s:W1) (H:Hp) (args:Args) (us:List Value) (vs:List V) (Q:VK) (E:XK),Room k A→Env0 P w K mg base A outer s H→BindsTo s fd args (ps.zip us)→Vals vs us→sp outer s vs H Q E →
  Q1 (model P w) A (.call (.ref f) args) (CR CX0 outer P w H s Q E) s
section
variable {P:We} {w:Wk} {K:W2} {mg:Str→Option Value} {base:Heap}
theorem Fun.okS {x qual:Str} {st:Stmt} {f:Addr} {fd:WC} {N ps:List Str} {k:Nat} {sp:List Env→W1→Sp} (F:Fun K x qual st f fd) (S:FnScope N ps (z02 st)) (len:∀ outer s vs H Q E,sp outer s vs H Q E→vs.length=ps.length)
  (hbody:∀ (cdv:Value) (A:Wm) (outer:List Env) (s:W1) (H:Hp) (vs:List V) (Q:VK) (E:XK),Room k (A.deeper (QI qual (z02 st) s.heap.objs.size f cdv))→A.frames=some outer→sp outer s vs H Q E →
   ∃ t,PSs (cxOf CX0 P w K mg base N qual (z02 st) f cdv A outer s H E).nox (z0v st) t∧t { nx:=fun _ H'=>Q .non H',rt:=Q } (z1y N vs) H):FnOkS P w K mg base (k + 1) f fd ps sp:=by
 obtain ⟨oc,od,kV,doc,pm,an,cdv,ct,osl,rfl,lk,hcd⟩:=F.ex
 refine ⟨len,fun A outer s H args us vs Q E hr e0 hb r hsp=>?_⟩
 have hl:=len _ _ _ _ _ _ hsp
 have KX:K.In s.heap:=e0.mod.kin.keeps fun b o e=>(e0.bs b o e).1
 have lim:s.heap.NoLimit:=e0.mod.nolimit.keeps fun b o e=>(e0.bs b o e).1
 have hkind:∀ y ∈ ps.zip us,(z02 st).names.lookup y.1=some .local∨((z02 st).names.lookup y.1=some .cell∧((Qc (s.heap.objs.size + 1) (z02 st).names []).lookup y.1).isSome=true):=fun ⟨n,v⟩ hy=>by
  rcases S.par n (Jo hy).1 with q | q
  ·exact .inl q
  ·exact .inr ⟨q,QU _ _ _ (.inl q)⟩
 refine codeAny_call_function hr.depth (KX _ _ lk) rfl S.co S.gen rfl (PySem.W.codeRec_of KX hcd) (hb _ _ _ _ ?_)
 refine wpAny_newFunctionEnv_cells S.kind hkind fun env he s1 x=>?_
 subst he
 refine ⟨lim.keeps x.toInCall.keep,codeAny_func ?_⟩
 obtain ⟨t,ht0,hq⟩:=hbody cdv A outer s H vs Q E (hr.deeper _) e0.frames hsp
 have ht:=ht0.nox
 have I:Inv (cxOf CX0 P w K mg base N qual (z02 st) f cdv A outer s H E) [] (z1y N vs) H s1:=z5X S hr.hd e0 hl r x
 refine WA (ht [] s1 (z1y N vs) H _ I hq) (fun fl s' hs=>?_) fun e s' hs=>hs
 have fin:∀ {σ':St} {H':Hp} {v:V} {u:Value},Inv (cxOf CX0 P w K mg base N qual (z02 st) f cdv A outer s H E) [] σ' H' s'→RelV v u→Q v H'→CE outer P w H s Q u s' :=
  fun {σ' H' v u} J rv q=>⟨v,H',J.os,J.bare,J.base,J.hok,rv,q⟩
 cases fl with
 | ret u =>
  obtain ⟨v,σ',H',J,rv,q⟩:=hs
  exact fin J rv q
 | next =>
  obtain ⟨σ',H',J,q⟩:=hs
  exact fin (v:=V.non) (u:=Value.none) J rfl q
 | brk =>
  obtain ⟨_,_,_,q⟩:=hs
  exact False.elim q
 | cont =>
  obtain ⟨_,_,_,q⟩:=hs
  exact False.elim q
end
structure CloAt (H:Hp) (fs:List Addr) (h:Heap) (fa:Addr) (qual:Str) (params:Arguments) (body:Expr) (scope:Scope) (cl:List (Str×Addr)) (fr:List Str) (fv:List V):Prop where
 obj:∃ pm c' ctv oc,h.get? fa=some (J9 "<lambda>" qual params body scope cl pm c' ctv)∧H fa=none∧fa ∉ fs∧H c'=some (.frz oc (.ext fun _=>True))∧∃ vs tq,oc.data = .fields vs∧vs[1]? = some (.str qual tq)
 cell:∀ x c,cl.lookup x=some c→(∃ v,h.IsCell c v)∧H c=none∧c ∉ fs
 inj:∀ x y c,cl.lookup x=some c→cl.lookup y=some c→x=y
 val:∀ (i:Nat) x v,fr[i]? = some x→fv[i]? = some v→∃ c u,cl.lookup x=some c∧h.IsCell c (some u)∧RelV v u
 flen:fv.length=fr.length
theorem CloAt.keep {H H':Hp} {fs:List Addr} {h h':Heap} {fa:Addr} {qual:Str} {params:Arguments} {body:Expr} {scope:Scope} {cl:List (Str×Addr)} {fr:List Str} {fv:List V} (C:CloAt H fs h fa qual params body scope cl fr fv)
  (k:∀ b o,h.get? b=some o→H b=none→b ∉ fs→h'.get? b=some o∧H' b=none) (kf:∀ b o u,H b=some (.frz o u)→H' b=some (.frz o u)):CloAt H' fs h' fa qual params body scope cl fr fv:=by
 have kc:∀ x c v,cl.lookup x=some c→h.IsCell c v→h'.IsCell c v:=fun x c v e ⟨o,ho,hd⟩=>⟨o,(k c o ho (C.cell x c e).2.1 (C.cell x c e).2.2).1,hd⟩
 obtain ⟨pm,c',ctv,oc,h1,h2,h3,h4,h5⟩:=C.obj
 refine ⟨⟨pm,c',ctv,oc,(k _ _ h1 h2 h3).1,(k _ _ h1 h2 h3).2,h3,kf _ _ _ h4,h5⟩,fun x c e=>?_,C.inj,fun i x v e1 e2=>?_,C.flen⟩
 ·obtain ⟨⟨v,o,ho,hd⟩,q1,q2⟩:=C.cell x c e
  exact ⟨⟨v,o,(k c o ho q1 q2).1,hd⟩,(k c o ho q1 q2).2,q2⟩
 ·obtain ⟨c,u,q1,q2,q3⟩:=C.val i x v e1 e2
  exact ⟨c,u,q1,kc x c _ q1 q2,q3⟩
def z9h (P:We) (w:Wk) (K:W2) (mg:Str→Option Value) (base:Heap) (N:List Str) (qual:Str) (scope:Scope) (f:Addr) (cd:Value) (cl:List (Str×Addr)) (A:Wm) (outer:List Env) (s:W1) (H:Hp):Cx where
 prog:=P
 w:=w
 K:=K
 mg:=mg
 base:=base
 A:=A.deeper (J2 qual scope s.heap.objs.size f cd cl)
 N:=N
 s₀:=s
 H₀:=H
 env:=J2 qual scope s.heap.objs.size f cd cl
 outer:=outer
 stack:=J2 qual scope s.heap.objs.size f cd cl :: outer
 ex:=[]
 calm:=true
 fn:=fun _=>false
 pn:=[]
 xe:=fun _ _=>False
structure LamScope (p:Str) (fr:List Str) (sc:Scope):Prop where
 kind:sc.kind = .function
 co:sc.isCoroutine=false
 gen:sc.isGenerator=false
 loc:sc.names.lookup p=some .local
 nocell:∀ y ∈ sc.names,y.2≠.cell
 free:∀ x,sc.names.lookup x=some .free→x ∈ fr
 fre:∀ x ∈ fr,sc.names.lookup x=some .free
section
variable {X:Cx} {pins:List (Addr×Obj)} {σ:St} {H:Hp} {s:W1} {fa:Addr} {qual:Str} {params:Arguments} {body:Expr} {scope:Scope} {cl:List (Str×Addr)} {fr:List Str} {fv:List V} {p:Str} {u:Value} {v:V} {k:Nat} {t:TE} {Q:VK}
theorem zb7 (I:Inv X pins σ H s) (C:CloAt H X.fs s.heap fa qual params body scope cl fr fv) (L:LamScope p fr scope) (hr:Room (k + 1) X.A) (rv:RelV v u)
  (hb:∀ pm cdv ctv (u:Value),bindArgs (PySem.W.kla_fn "<lambda>" qual params body scope cl pm cdv ctv) ⟨[u],[]⟩=pure [(p,u)])
  (hbody:∀ cd,Room k (X.A.deeper (J2 qual scope s.heap.objs.size fa cd cl))→PE (z9h X.prog X.w X.K X.mg X.base (p :: fr) qual scope fa cd cl X.A X.stack s H) body t)
  (q:t (some v :: fv.map some) H Q):W6 (model X.prog X.w) X.A (call (.ref fa) [u]) (EP X pins σ Q) X.xe s:=by
 obtain ⟨pm,c',ctv,oc,h1,h2,h3,h4',vs,tq,h5,h6⟩:=C.obj
 have h4:s.heap.get? c'=some oc:=(I.hok c' _ h4').1
 have e0:=I.env0
 have lim:s.heap.NoLimit:=e0.mod.nolimit.keeps fun b o e=>(e0.bs b o e).1
 refine wpAny_call (Qv (R:=CR CX0 X.stack X.prog X.w H s Q E0) ?_ fun r s' hq=>?_)
 ·refine PySem.W.kla_callFunE hr.depth h1 rfl L.co L.gen rfl ⟨c',oc,vs,tq,rfl,h4,h5,h6⟩ ?_
  rw [hb]
  refine W4 ?_
  refine wpAny_newFunctionEnv L.nocell (fun y hy=>by
   have:y=(p,u):=by simpa using hy
   subst this
   exact L.loc) (fun h' hns hsb=>?_) L.kind
  have hk:∀ b o,s.heap.get? b=some o→h'.get? b=some o:=fun b o e=>hsb.extBut b o (Wu (Wi e)) (W3 _ e)
  refine ⟨lim.keeps hk,?_⟩
  show Q1 _ _ (.expr body (J2 qual scope s.heap.objs.size fa (.ref c') cl)) _ _
  refine PySem.W.kla_codeExpr ?_
  have J:Inv (z9h X.prog X.w X.K X.mg X.base (p :: fr) qual scope fa (.ref c') cl X.A X.stack s H) [] (some v :: fv.map some) H { s with heap:=h',toks:=s.toks + [(p,u)].length }:=by
   have noA:∀ b:Addr,b ∉ (z9h X.prog X.w X.K X.mg X.base (p :: fr) qual scope fa (.ref c') cl X.A X.stack s H).ex:=fun b z=>absurd (show b ∈ ([]:List Addr) from z) (by simp)
   refine ⟨⟨e0.mod,L.kind,rfl,rfl,Wb _,C.inj,fun y hy=>?_,fun y c z _=>by (have z':false=true:=z; cases z'),fun _=>hr.hd,Around.frames_deeper e0.frames,.inr ⟨rfl,rfl⟩,fun b z=>absurd z (noA b),e0.bs,e0.bsz,fun b _ _=>noA b,fun b z=>absurd z (noA b),e0.funs,e0.frf⟩,
    rfl,e0.bare,Un.kept hk,⟨_,hns,fun i y w e1 e2 e3=>?_⟩,fun y c e=>?_,e0.hok.fresh (Wb _),fun y c e=>(C.cell y c e).2.1,fun z hz=>absurd (show z ∈ ([]:List (Addr×Obj)) from hz) (by simp),e0.hok.kept hk,?_⟩
   ·have hy:scope.names.lookup y=some .cell∨scope.names.lookup y=some .free:=hy
    rcases hy with hy | hy
    ·exact absurd rfl (L.nocell _ (Wq hy))
    ·obtain ⟨i,hi,rfl⟩:=List.getElem_of_mem (L.free y hy)
     have hfv:i < fv.length:=by rw [C.flen]; exact hi
     obtain ⟨c,u',q1,_⟩:=C.val i fr[i] fv[i] (by simp [hi]) (by simp [hfv])
     exact ⟨c,q1⟩
   ·cases i with
    | zero =>
     simp at e2
     have e1:some p=some y:=e1
     cases e1
     subst e2
     refine ⟨u,rv,.inl ⟨L.loc,?_⟩⟩
     simp
    | succ i =>
     have e1:fr[i]? = some y:=e1
     have e2:fv[i]? = some w:=by
      have e2':(fv.map some)[i]? = some (some w):=e2
      rw [Wz] at e2'
      cases z:fv[i]? with
      | none=>rw [z] at e2'; cases e2'
      | some a=>rw [z] at e2'; cases e2'; rfl
     obtain ⟨c,u',q1,⟨o,ho,hd⟩,q3⟩:=C.val i y w e1 e2
     exact ⟨u',q3,.inr ⟨.inr (L.fre y (WR e1)),c,q1,o,hk c o ho,hd⟩⟩
   ·obtain ⟨⟨w,o,ho,hd⟩,_⟩:=C.cell y c e
    exact ⟨w,o,hk c o ho,hd⟩
   ·show (some v :: fv.map some).length=(p :: fr).length
    simp [C.flen]
  refine WA (hbody (.ref c') (hr.deeper _) [] _ _ H Q J q) (fun u' s' ⟨v',H',J',r',q'⟩=>?_) fun e s' z=>z.elim
  exact ⟨v',H',J'.os,J'.bare,J'.base,J'.hok,r',q'⟩
 ·cases r with
  | error e=>exact hq.elim
  | ok fl =>
   cases fl with
   | ret u=>exact I.after hq
   | next=>exact False.elim hq
   | brk=>exact False.elim hq
   | cont=>exact False.elim hq
end
end L2
namespace DV
open PySem PySem.Spec PyProof.Rows L2
section
variable {c:Fc} {σ:St} {δ:Dl} {H H':Hp}
theorem Ok.mono (k:Ok c σ δ H) (up:∀ a o,H a=some o→H' a=some o):Ok c σ δ H' :=
 ⟨fun a o e n=>up _ _ (k.keep a o e n),fun a z=>(k.bd a z).elim fun w e=>⟨w,up _ _ e⟩,fun a z=>(k.ith a z).elim fun w e=>⟨w,up _ _ e⟩,k.len,fun i d e=>let ⟨v,e1,r⟩:=k.slot i d e; ⟨v,e1,r.keep fun a o q _=>up a o q⟩,
  fun i d e=>let ⟨a,e1,r,q⟩:=k.own i d e; ⟨a,e1,r.keep (fun b o q _=>up b o q) (fun o q=>up a o q),q⟩,k.inj,k.pinned⟩
theorem Aft.mono (k:Ok c σ δ H) (up:∀ a o,H a=some o→H' a=some o):Aft c σ δ H σ δ H':=⟨k.mono up,fun a o e _=>up a o e,fun a h=>.inl h,fun a o e=>⟨o,up a o e⟩⟩
end
structure CloX (X:Cx) (c:Fc) (fa:Addr) (F:D→Option D):Prop where
 there:∀ pins σ H s,Inv X pins σ H s→∃ fd,s.heap.get? fa=some { cls:=.type "function",data:=.func fd }
 run:∀ pins s σ δ H v u d d' Q,Inv X pins σ H s→Ok c σ δ H→Rep H (Av c σ δ) v d→RelV v u→F d=some d'→(∀ v' H',Aft c σ δ H σ δ H'→Rep H' (Av c σ δ) v' d'→Q v' H')→W6 (model X.prog X.w) X.A (call (.ref fa) [u]) (EP X pins σ Q) X.xe s
def cloF (fb:DE) (dv:List D):D→Option D:=fun d=>match fb (some (.pure d) :: dv.map fun x=>some (.pure x)) with
 | .ok r _=>some r.d
 | _=>none
theorem zdD {X:Cx} {c:Fc} {fa:Addr} {qual:Str} {params:Arguments} {body:Expr} {scope:Scope} {cl:List (Str×Addr)} {fr:List Str} {fv:List V} {dv:List D} {p:Str} {k:Nat} {fb:DE}
  (hex:X.ex=[]) (hH:c.H₀=X.H₀) (hp:c.pin=[]) (C:CloAt X.H₀ X.fs X.s₀.heap fa qual params body scope cl fr fv) (L:LamScope p fr scope) (hr:Room (k + 1) X.A)
  (hb:∀ pm cdv ctv (u:Value),bindArgs (PySem.W.kla_fn "<lambda>" qual params body scope cl pm cdv ctv) ⟨[u],[]⟩=pure [(p,u)]) (rv:Reps X.H₀ c.B fv dv)
  (hbody:∀ (c':Fc) (cd:Value) (s:W1) (H:Hp),Room k (X.A.deeper (J2 qual scope s.heap.objs.size fa cd cl))→c'.pin=[]→SE (z9h X.prog X.w X.K X.mg X.base (p :: fr) qual scope fa cd cl X.A X.stack s H) c' body fb) :
  CloX X c fa (cloF fb dv):=by
 have noI:∀ a,¬ c.I a:=fun a ⟨i,z⟩=>by rw [hp] at z; simp at z
 have CC:∀ pins σ H s,Inv X pins σ H s→CloAt H X.fs s.heap fa qual params body scope cl fr fv:=fun pins σ H s I =>
  C.keep (fun b o e n hb=>⟨I.base.keep b o e n hb (by rw [hex]; simp),I.base.free b o e n (by rw [hex]; simp)⟩) I.base.frzs
 refine ⟨fun pins σ H s I=>?_,fun pins s σ δ H v u d d' Q I ok rd ru hF q=>?_⟩
 ·obtain ⟨pm,c',ctv,oc,h1,_⟩:=(CC pins σ H s I).obj
  exact ⟨_,h1⟩
 ·have key:∀ (i:Nat) w x,fv[i]? = some w→dv[i]? = some x→Rep H (Av c σ δ) w x:=fun i w x e1 e2=>by
   have r0:=rv.2 i w x e1 e2
   have r1:Rep X.H₀ (Av c σ δ) w x:=r0.anti fun a z=>by
    rcases z with z | ⟨j,d,z1,z2⟩
    ·exact .inl z
    ·obtain ⟨b,z3,_,z4,_⟩:=ok.own j d z1
     rw [z2] at z3; cases z3
     rcases z4 with z4 | z4
     ·exact absurd z4 (noI _)
     ·exact .inr (by rw [← hH]; exact z4)
   exact r1.keep fun a o e _=>ok.keep a o (by rw [hH]; exact e) (noI a)
  have c'':Fc:=⟨H,Av c σ δ,[],fun _ _=>False⟩
  refine zb7 (t:=tD ⟨H,Av c σ δ,[],fun _ _=>False⟩ fb) I (CC pins σ H s I) L hr ru hb (fun cd hr'=>hbody _ cd s H hr' rfl) ?_
  have nown:∀ (i:Nat) x,(some (S.pure d) :: dv.map fun x=>some (S.pure x))[i]? = some (some (.own x))→False:=fun i x e=>by
   cases i with
   | zero=>simp at e
   | succ i =>
    rw [QO,Wz] at e
    cases z:dv[i]? with
    | none=>rw [z] at e; cases e
    | some y=>rw [z] at e; cases e
  have avs:∀ b,Av ⟨H,Av c σ δ,[],fun _ _=>False⟩ (some v :: fv.map some) (some (S.pure d) :: dv.map fun x=>some (S.pure x)) b→Av c σ δ b:=fun b z=>by
   rcases z with z | ⟨i,x,z1,_⟩
   ·exact z
   ·exact (nown i x z1).elim
  refine ⟨some (.pure d) :: dv.map fun x=>some (.pure x),⟨fun a o e _=>e,fun a z=>ok.avthere z,fun a ⟨i,z⟩=>by simp at z,?_,fun i x e=>?_,fun i x e=>(nown i x e).elim,fun i j a x x' e=>(nown i x e).elim,fun z hz=>by simp at hz⟩,?_⟩
  ·simp [rv.1]
  ·cases i with
   | zero =>
    simp at e
    subst e
    exact ⟨v,rfl,rd.anti fun b z=>.inl (avs b z)⟩
   | succ i =>
    rw [QO,Wz] at e
    cases z:dv[i]? with
    | none=>rw [z] at e; cases e
    | some y =>
     rw [z] at e; cases e
     have hi:i < fv.length:=by rw [rv.1]; exact (Wl.mp z).1
     refine ⟨fv[i],?_,(key i fv[i] x (by simp [hi]) z).anti fun b z=>.inl (avs b z)⟩
     rw [QO,Wz]
     simp [hi]
  ·unfold cloF at hF
   cases e:fb (some (.pure d) :: dv.map fun x=>some (.pure x)) with
   | exc x δx=>rw [e] at hF; cases hF
   | stuck=>rw [e] at hF; cases hF
   | ok r δ' =>
    rw [e] at hF
    cases hF
    intro v' H' a rs
    have up:∀ b o,H b=some o→H' b=some o:=fun b o eb=>a.ok.keep b o eb fun ⟨i,z⟩=>by simp at z
    exact q v' H' (.mono ok up) (rs.rep.anti fun b z=>.inl (.inl z))
end DV
namespace L2
open PySem PySem.Spec PyProof.Rows
theorem z5T {P:We} {w:Wk}:∀ {kvs:List (Key×V)} {vs:List (Key×Value)} {us:List Value},KV kvs vs→us.length=vs.length→(∀ (j:Nat) v,us[j]? = some v→∃ k x,vs[j]? = some (k,x)∧(z0H P w).is k v=true)→Vals (kvs.map fun p=>kV p.1) us
 | [],_,[],.nil,_,_=>.nil
 | [],_,_ :: _,.nil,h,_=>by simp at h
 | p :: r,_,[],.cons _ _,h,_=>by simp at h
 | p :: r,q :: vs,u :: us,.cons h1 h2,hl,hk=>by
  refine .cons ?_ (z5T h2 (by simpa using hl) fun j v e=>by simpa using hk (j + 1) v (by simpa using e))
  obtain ⟨k,x,e,z⟩:=hk 0 u rfl
  simp at e
  rw [z7z] at z
  rcases z0z z with ⟨i,t,e1,e2⟩ | ⟨y,t,e1,e2⟩
  ·show RelV (kV p.1) u
   rw [h1.1,e]
   subst e1
   exact ⟨t,e2⟩
  ·show RelV (kV p.1) u
   rw [h1.1,e]
   subst e1
   exact ⟨t,e2⟩
theorem z7K {X:Cx} (hc:X.calm=true):CallR X (.type "list") (fun xs H Q=>∃ a kvs,xs=[V.ref a]∧H a=some (.dK kvs)∧∀ l,H l=none→Q (.ref l) (upd H l (.lst (kvs.map fun p=>kV p.1)))):=by
 intro pins s σ H xs us Q I r h
 obtain ⟨a,kvs,rfl,ha,q⟩:=h
 obtain ⟨u,rfl,ru⟩:=z33 r
 cases ru
 obtain ⟨z,lo,vs,kv,hD⟩:=I.hok a _ ha
 obtain ⟨ep,hat⟩:=hD.dictAt
 have hl:kvs.length=vs.length:=Paired.length kv
 refine PySem.W.kdl_call (PySem.W.kdl_dict (knd:=z0H X.prog X.w) (kvs:=vs) (ep:=ep) lo) (I.ok.hd hc) hat (by omega) fun h' tk acc c' kp e hacc=>?_
 have hv:Vals (kvs.map fun p=>kV p.1) acc.toList:=z5T (P:=X.prog) (w:=X.w) kv (by simp [hacc.1]) fun j v e=>hacc.2 j v (by simpa using e)
 exact ⟨.ref s.heap.objs.size,_,I.laid (t':=tk) kp (Wb _) (show ObjOk X.prog X.w _ h' _ (.lst _) from ⟨by simpa using z,acc.toList,c',hv,by simpa using e⟩),rfl,q _ (I.hok.fresh (Wb _))⟩
end L2
namespace DV
open PySem PySem.Spec PyProof.Rows L2
def kyD:DKey→D
 | .inl i=>.int i
 | .inr x=>.str x
def z4v:D→Option S
 | .dct ds=>some (.own (.lst (ds.map fun p=>kyD p.1)))
 | _=>none
theorem z5y {H:Hp} {O:Addr→Prop}:∀ {ws:List (Key×V)} {ds:List (DKey×D)},ws.map (·.1)=ds.map (fun p=>kOf p.1)→Reps H O (ws.map fun p=>kV p.1) (ds.map fun p=>kyD p.1)
 | [],[],_=>.nil
 | [],_ :: _,h=>by simp at h
 | _ :: _,[],h=>by simp at h
 | p :: ws,q :: ds,h=>by
  simp only [Wj,List.cons.injEq] at h
  refine .cons ?_ (z5y h.2)
  show Rep H O (kV p.1) (kyD q.1)
  rw [h.1]
  cases q.1 with
  | inl i=>exact .int i
  | inr x=>exact .str x
section
variable {X:Cx} {c:Fc} {e:Expr} {fb:BE} {pos pp p:Pos}
theorem z6X (hc:X.calm=true) (hg:Gl X "list") (hm:X.mg "list" = none) (he:SB X c e fb) (hs:z2z e=true:=by rfl):SE X c (.Call (.Name "list" pp) [e] [] pos) (eC1 z4v fb) :=
 z2N (r:=fun v H Q=>∃ a kvs,v=V.ref a∧H a=some (.dK kvs)∧∀ l,H l=none→Q (.ref l) (upd H l (.lst (kvs.map fun p=>kV p.1)))) (z7K hc) (fun v H Q ⟨a,kvs,e,h⟩=>⟨a,kvs,by rw [e],h⟩)
  (fun c σ δ H x d s Q k rx hp q=>by
   cases d with
   | dct ds =>
    cases hp
    obtain ⟨a,ws,ex,ha,r1,_⟩:=rx.dct
    exact ⟨a,ws,ex,ha,fun l hl=>q _ _ (.alloc k hl _) (RepS.newL k (z5y r1) hl)⟩
   | _=>simp [z4v] at hp) hg hm PyProof.Rows.boot_list he (by decide) (by decide) (z35 hs)
end
def z6G (fa:Addr) (F:D→Option D) (i:Nat) (fe:DE):DE:=fun δ=>match δ[i]? with
 | some (some (.pure (.fn a)))=>if a=fa then (fe δ).bind fun r δ1=>match F r.d with
   | some d'=>.ok (.pure d') δ1
   | none=>.stuck
  else .stuck
 | _=>.stuck
theorem z7L {M:Model} {A:Wm} {E:Value→W1→Prop} {s:W1} {env:Env} {pos:Pos} {a:Addr} {first:List Value} {Q:Value→W1→Prop} {e:Expr} {rest:List Expr}
  (h:W6 M A (spliced (Q8 pos (Wa (e :: rest) env))) (fun vs s₁=>(∃ fd,s₁.heap.get? a=some { cls:=.type "function",data:=.func fd })∧W6 M A (call (.ref a) (first ++ vs)) Q E s₁) E s)
  (he:Wa (e :: rest) env=(false,eval e env) :: Wa rest env:=by rfl) (hplain:(Q8 pos (Wa rest env)).any (·.1)=false:=by rfl) :
  W6 M A (callWith pos (.ref a) first (Q8 pos (Wa (e :: rest) env)) []) Q E s:=by
 rw [he] at h ⊢
 exact PySem.W.callWith_of (P:=fun h=>∃ fd,h.get? a=some { cls:=.type "function",data:=.func fd }) (by show ((false || (Q8 pos (Wa rest env)).any (·.1)) || false)=false; rw [hplain]; rfl)
  (fun h ⟨fd,hf⟩=>⟨.frame,.inl rfl,(PySem.W.Looks.ld (part:=none) hf).andThen .now⟩) (Calls.evalArgs_plain h)
theorem zb4 {X:Cx} {c:Fc} {fa:Addr} {F:D→Option D} {i:Nat} {x:Str} {e:Expr} {fe:DE} {p pos:Pos} (hc:CloX X c fa F) (hv:PE X (.Name x p) (tVar i)) (he:SE X c e fe)
  (hs:Wa [e] X.env=(false,eval e X.env) :: Wa [] X.env:=by rfl):SE X c (.Call (.Name x p) [e] [] pos) (z6G fa F i fe):=by
 intro pins s σ H Q I ⟨δ,k,q⟩
 unfold z6G at q
 split at q
 ·rename_i a e1
  split at q
  ·rename_i ea
   subst ea
   obtain ⟨v,e2,r⟩:=k.slot i (.fn a) e1
   cases r
   refine QR (WA (hv pins s σ H (fun v' H'=>v' = .ref a∧H'=H) I ⟨.ref a,e2,rfl,rfl⟩) (fun u s1 ⟨v',H',I1,ru,ev,eH⟩=>?_) fun _ _ z=>z)
   subst ev eH
   obtain rfl:u=Value.ref a:=ru
   have ha:=z0K he z1M hs
   refine z7L (thn (ha pos pins s1 σ H' (fun vs H2=>∃ r δ1 d',vs.length=1∧F r=some d'∧(∀ v ∈ vs,Rep H2 (Av c σ δ1) v r)∧Aft c σ δ H' σ δ1 H2∧∀ v' H3,Aft c σ δ H' σ δ1 H3→Rep H3 (Av c σ δ1) v' d'→Q v' H3) I1 ⟨δ,k,?_⟩) fun us s2 ⟨vs,H2,I2,rr,r,δ1,d',hl,hF,hr,af,hq⟩=>⟨hc.there _ _ _ _ I2,?_⟩) hs rfl
   ·rw [z01] at q
    refine z00 q fun r δ1 q1 v H1 a1 r1=>?_
    cases hF:F r.d with
    | none=>rw [hF] at q1; exact q1.elim
    | some d' =>
     rw [hF] at q1
     exact ⟨r.d,δ1,d',rfl,hF,fun v' hv'=>by
      have:v'=v:=by simpa using hv'
      subst this
      exact r1.rep,a1,fun v' H3 a3 r3=>q1 v' H3 a3 r3⟩
   ·obtain ⟨v,rfl⟩:∃ v,vs=[v]:=by
     match vs,hl with
     | [v],_=>exact ⟨v,rfl⟩
    obtain ⟨u,rfl,ru⟩:=z33 rr
    exact hc.run pins s2 σ δ1 H2 v u r d' Q I2 af.ok (hr v (by simp)) ru hF fun v' H3 a3 r3=>hq v' H3 (af.trans a3) r3
  ·exact q.elim
 ·exact q.elim
end DV
namespace L2
open PySem PySem.Spec PyProof.Rows
theorem z3B {a b:Value} {x y:Int} {t u:Tok}:∀ {l:List Value},TriplesOk l→TriplesOk (l ++ [.int x t,.int y u,b])
 | [],_=>trivial
 | .int _ _ :: .int _ _ :: _ :: r,h=>z3B (a:=a) (l:=r) h
theorem z6i {pos:Pos} {b cv:Value} {x y:Int} {t u:Tok}:∀ {l:List Value},TriplesOk l→codeAmong pos l=none→codeAmong pos (l ++ [.int x t,.int y u,b])=some cv→cv=b
 | [],_,_,h=>by
  simp only [Qe,codeAmong] at h
  split at h
  ·exact (Ww h).symm
  ·cases h
 | .int i _ :: .int j _ :: c :: r,h,hn,e=>by
  simp only [codeAmong] at hn
  split at hn
  ·cases hn
  ·rename_i q
   simp only [List.cons_append,codeAmong] at e
   rw [if_neg q] at e
   exact z6i (l:=r) h hn e
section
variable {X:Cx} {pins:List (Addr×Obj)} {σ:St} {H:Hp} {s:W1} {params:Arguments} {body:Expr} {scope:Scope} {pos:Pos} {cl:List (Str×Addr)} {c P:Addr} {fr:List Str} {fv:List V} {js:List Nat} {Q:Value→W1→Prop} {E:Value→W1→Prop}
theorem Inv.nostk (I:Inv X pins σ H s) {a:Addr} (h:s.heap.objs.size≤a):a ∉ frs X.stack:=fun z=>by
 rcases Wf.mp (I.stkSub a z) with e | e
 ·have:=I.lt
  rw [← e] at this
  exact absurd (Wv this h) (WX _)
 ·exact I.nofs h e
theorem Inv.cellstk (I:Inv X pins σ H s) (hfn:∀ x,X.fn x=true) {x:Str} {c:Addr} (h:X.env.cells.lookup x=some c):c ∉ frs X.stack:=fun z=>by
 rcases Wf.mp (I.stkSub c z) with e | e
 ·exact I.cne x c h e
 ·obtain ⟨_,o,ho,_⟩:=I.ok.funs.mem e
  exact absurd (Wv (Wi ho) (I.ok.cab x c (hfn x) h)) (WX _)
theorem za1 (I:Inv X pins σ H s) (hP:H P=some (.ctab pos (X.env.qual ++ "<lambda>"))) (hfn:∀ x,X.fn x=true) (hdef:defaultsOf params X.env=([],[])) (hcl:closureFor scope X.env=pure cl) (hcode:X.env.code = .ref c)
  (CH:QN X.K c P=true) (hgP:Wp≠P) (hB:X.base.BuiltinsAt X.mg P)
  (hsub:∀ x a,cl.lookup x=some a→X.env.cells.lookup x=some a) (hlen:fv.length=fr.length)
  (hval:∀ (i:Nat) x v,fr[i]? = some x→fv[i]? = some v→∃ (j:Nat) (a:Addr),X.N[j]? = some x∧σ[j]? = some (some v)∧X.env.scope.names.lookup x=some .cell∧cl.lookup x=some a)
  (h:∀ fa H' s',Inv X pins σ H' s'→(∀ a o,H a=some o→H' a=some o)→CloAt H' (frs X.stack) s'.heap fa (X.env.qual ++ "<lambda>") params body scope cl fr fv→Q (.ref fa) s') :
  W6 (model X.prog X.w) X.A (eval (.Lambda params body scope pos) X.env) Q E s:=by
 obtain ⟨ps,hp,ht,hr⟩:=I.hok P _ hP
 have CHh:=PySem.W.codeHd_of_K I.kIn CH
 have hg:s.heap.Ns Wp X.mg:=I.mod.glob.keeps I.bk
 have hb:=hB.keeps I.bk
 -- the closure,once all is laid
 have fin:∀ (H':Hp) (h':Heap) (tk:Tok) (pm ctv:Value) (c':Addr) (oc:Obj),(∀ b o,b≠P→s.heap.get? b=some o→h'.get? b=some o)→s.heap.objs.size≤h'.objs.size→(∀ a o,H a=some o→H' a=some o)→(∀ b,H b=none→b < s.heap.objs.size→H' b=none)→H' h'.objs.size=none →
   H' c'=some (.frz oc (.ext fun _=>True))→(∃ vs tq,oc.data = .fields vs∧vs[1]? = some (.str (X.env.qual ++ "<lambda>") tq))→HOk X.prog X.w H' (h'.push (J9 "<lambda>" (X.env.qual ++ "<lambda>") params body scope cl pm c' ctv))→(∃ o,h'.get? P=some o) →
   Q (.ref h'.objs.size) { s with heap:=h'.push (J9 "<lambda>" (X.env.qual ++ "<lambda>") params body scope cl pm c' ctv),toks:=tk }:=by
  intro H' h' tk pm ctv c' oc hk hsz up dn hfa hc' hoc hok hPo
  have kp:∀ b o,b≠P→s.heap.get? b=some o→(h'.push (J9 "<lambda>" (X.env.qual ++ "<lambda>") params body scope cl pm c' ctv)).get? b=some o:=fun b o nb e=>W3 _ (hk b o nb e)
  have nP:∀ b,H b=none→b≠P:=fun b n z=>by rw [z,hP] at n; cases n
  have J:Inv X pins σ H' { s with heap:=h'.push (J9 "<lambda>" (X.env.qual ++ "<lambda>") params body scope cl pm c' ctv),toks:=tk }:=I.un ⟨fun b o e n _ _=>kp b o (nP b n) e,fun b o e n _ _=>⟨o.slots,kp b o (nP b n) e⟩,fun b o e n _=>dn b n (Wi e),
   fun b o e _=>by
    by_cases z:b=P
    ·obtain ⟨o',q⟩:=hPo
     exact ⟨o',by rw [z]; exact W3 _ q⟩
    ·exact ⟨o,kp b o z e⟩,fun b xs e=>up _ _ e,fun b o u e=>up _ _ e,fun b ps e=>⟨#[],by rw [up _ _ e]; simp⟩⟩ hok
  refine h _ H' _ J up ⟨⟨pm,c',ctv,oc,Wh _ rfl,hfa,I.nostk hsz,hc',hoc⟩,fun x a e=>?_,fun x y a e1 e2=>I.ok.inj x y a (hsub x a e1) (hsub y a e2),fun i x v e1 e2=>?_,hlen⟩
  ·exact ⟨J.cell x a (hsub x a e),J.freeC x a (hsub x a e),J.cellstk hfn (hsub x a e)⟩
  ·obtain ⟨j,a,q1,q2,q3,q4⟩:=hval i x v e1 e2
   obtain ⟨m,_,hl⟩:=J.loc
   obtain ⟨u,r1,r2⟩:=hl j x v q1 q2 (.inr (.inl q3))
   rcases r2 with ⟨z,_⟩ | ⟨_,a',z1,z2⟩
   ·have z':X.env.scope.names.lookup x=some .local:=z
    rw [q3] at z'; cases z'
   ·rw [hsub x a q4] at z1; cases z1
    exact ⟨a,u,q4,z2,r1⟩
 refine PySem.W.kla_eval hdef ?_
 cases e:codeAmong pos ps.toList with
 | some cv =>
  obtain ⟨c',oc,rfl,q1,q2⟩:=hr cv e
  refine PySem.W.kla_makeFunctionHit hcl I.ok.glob hg hcode CHh hp ht e hb fun ctv h' tk hk hsz=>?_
  exact fin H h' tk _ ctv c' oc (fun b o _ q=>hk b o q) hsz (fun _ _ q=>q) (fun _ n _=>n) (I.hok.fresh hsz) q1 q2 (I.hok.kept fun b u q=>W3 _ (hk b u q)) ⟨_,hk _ _ hp⟩
 | none =>
  refine PySem.W.kla_makeFunction hcl I.ok.glob hg hcode CHh hp ht e hgP hb fun c' ctv h' tk hx hge hlt hrec htb=>?_
  obtain ⟨c2,oc,vs,tq,ec,hoc,hd,hv⟩:=hrec
  cases ec
  have hn:H c'=none:=I.hok.fresh hge
  have up:∀ a o,H a=some o→upd H c' (.frz oc (.ext fun _=>True)) a=some o:=fun a o q=>by rw [z06 (z0j q hn)]; exact q
  have hsz:s.heap.objs.size≤h'.objs.size:=WQ hge (QW hlt)
  refine fin (upd H c' (.frz oc (.ext fun _=>True))) h' tk _ ctv c' oc (fun b o nb q=>hx b o nb q) hsz up (fun b n hb=>by rw [z06 (Wu (Wv hb hge))]; exact n) (by rw [z06 (Jb hlt)]; exact I.hok.fresh hsz) z0d ⟨vs,tq,hd,hv⟩ ?_ ⟨_,htb⟩
  intro a o ea
  by_cases h1:a=c'
  ·subst h1
   rw [z0d] at ea; cases ea
   exact ⟨W3 _ hoc,trivial,⟨_,W3 _ hoc⟩,fun _ _ _ _=>trivial⟩
  ·rw [z06 h1] at ea
   by_cases h2:a=P
   ·subst h2
    rw [hP] at ea; cases ea
    refine ⟨_,W3 _ htb,?_,fun cv z=>?_⟩
    ·rw [Array.toList_append]
     exact z3B (a:=.none) ht
    ·rw [Array.toList_append] at z
     have:=z6i ht e z
     subst this
     exact ⟨c',oc,rfl,z0d,vs,tq,hd,hv⟩
   ·refine (I.hok a o ea).stay (fun b u hb q=>W3 _ (hx b u (fun z=>?_) q)) (fun b q=>up _ _ q) (fun b xs q=>up _ _ q) fun b o u q=>up _ _ q
    rcases hb with hb | hb
    ·exact h2 (hb.symm.trans z)
    ·rw [z,hP] at hb; cases hb
end
end L2
namespace DV
open PySem PySem.Spec PyProof.Rows L2
abbrev Tbs:=List (Addr×Pos×Str)
def TH (ts:Tbs) (H:Hp):Prop:=∀ t ∈ ts,H t.1=some (.ctab t.2.1 t.2.2)
structure FT (ts:Tbs) (c:Fc):Prop where
 h:TH ts c.H₀
 n:∀ t ∈ ts,¬ c.I t.1
theorem FT.now {ts:Tbs} {c:Fc} {σ:St} {δ:Dl} {H:Hp} (f:FT ts c) (k:Ok c σ δ H):TH ts H:=fun t ht=>k.keep _ _ (f.h t ht) (f.n t ht)
section
variable {P:We} {w:Wk} {K:W2} {mg:Str→Option Value} {base:Heap}
def spS (P:We) (w:Wk) (K:W2) (mg:Str→Option Value) (base:Heap) (N:List Str) (qual:Str) (scope:Scope) (f:Addr) (k:Nat) (fbW:Addr→(D→Option D)→DS):List Env→W1→Sp:=fun outer s vs H Q _ =>
 ∃ (d:D) (fa:Addr) (F:D→Option D) (B:Addr→Prop) (v:V),vs=[v,.ref fa]∧Ok ⟨H,B,[],fun _ _=>False⟩ [some v,some (.ref fa)] [some (.pure d),some (.pure (.fn fa))] H ∧
  (∀ cdv A E,Room k (A.deeper (QI qual scope s.heap.objs.size f cdv))→A.frames=some outer→CloX (cxOf CX0 P w K mg base N qual scope f cdv A outer s H E).nox ⟨H,B,[],fun _ _=>False⟩ fa F) ∧
  ∃ r outs,runD (fbW fa F) N.length [.pure d,.pure (.fn fa)]=some (r,outs) ∧
   ∀ v' H',Aft ⟨H,B,[],fun _ _=>False⟩ [some v,some (.ref fa)] [some (.pure d),some (.pure (.fn fa))] H [some v,some (.ref fa)] (z0R outs) H'→RepS ⟨H,B,[],fun _ _=>False⟩ [some v,some (.ref fa)] (z0R outs) H H' v' r→Q v' H'
theorem zdu {x qual:Str} {st:Stmt} {f:Addr} {fd:WC} {N ps:List Str} {k:Nat} {fbW:Addr→(D→Option D)→DS} (F:Fun K x qual st f fd) (S:FnScope N ps (z02 st)) (h2:ps.length=2)
  (hbody:∀ (c:Fc) (cdv:Value) (A:Wm) (outer:List Env) (s:W1) (H:Hp) (E:XK) (fa:Addr) (Fn:D→Option D),Room k (A.deeper (QI qual (z02 st) s.heap.objs.size f cdv))→Np c []→CloX (cxOf CX0 P w K mg base N qual (z02 st) f cdv A outer s H E).nox c fa Fn→SSs (cxOf CX0 P w K mg base N qual (z02 st) f cdv A outer s H E).nox c (z0v st) (fbW fa Fn)) :
  FnOkS P w K mg base (k + 1) f fd ps (spS P w K mg base N qual (z02 st) f k fbW):=by
 refine F.okS S (fun outer s vs H Q E h=>?_) fun cdv A outer s H vs Q E hr hfr h=>?_
 ·obtain ⟨d,fa,Fn,B,v,rfl,_⟩:=h
  exact h2.symm
 ·obtain ⟨d,fa,Fn,B,v,rfl,ok,hclo,r,outs,hrun,q⟩:=h
  refine ⟨tDS ⟨H,B,[],fun _ _=>False⟩ (fbW fa Fn),hbody ⟨H,B,[],fun _ _=>False⟩ cdv A outer s H E fa Fn hr (fun p hp=>by simp at hp) (hclo cdv A E hr hfr),?_⟩
  have hst:z1y N [v,.ref fa]=z0S [v,.ref fa] ++ Wc (N.length - 2) none:=rfl
  refine ⟨z0f N.length [.pure d,.pure (.fn fa)],by rw [hst]; exact ok.ext _,?_⟩
  unfold runD at hrun
  unfold z22
  have hpin:z0q 0 [.pure d,.pure (.fn fa)] [v,.ref fa]=[]:=by simp [z0q]
  cases e:fbW fa Fn (z0f N.length [.pure d,.pure (.fn fa)]) with
  | exc x δx=>rw [e] at hrun; cases hrun
  | stuck=>rw [e] at hrun; cases hrun
  | ok fl δ' =>
   rw [e] at hrun
   show ∀ σ' H',Aft _ (z1y N [v,.ref fa]) (z0f N.length [.pure d,.pure (.fn fa)]) H σ' δ' H'→fin _ _ σ' δ' H' fl
   intro σ' H' a
   rw [hst] at a
   simp only at hrun
   cases fl with
   | brk=>cases hrun
   | cont=>cases hrun
   | next =>
    simp only [z0V,WB] at hrun
    cases eo:z0h 0 [.pure d,.pure (.fn fa)] δ' with
    | none=>rw [eo] at hrun; cases hrun
    | some os =>
     rw [eo] at hrun
     cases hrun
     obtain ⟨l1,l2⟩:=z7C (vs:=[v,.ref fa]) (by rw [hpin]) ok a eo
     exact q .non H' l1 .non
   | ret r' =>
    simp only [z0V,WB] at hrun
    cases eo:z0h 0 [.pure d,.pure (.fn fa)] δ' with
    | none=>rw [eo] at hrun; cases hrun
    | some os =>
     rw [eo] at hrun
     cases hrun
     obtain ⟨l1,l2⟩:=z7C (vs:=[v,.ref fa]) (by rw [hpin]) ok a eo
     exact fun v' rv=>q v' H' l1 (l2 v' _ rv)
end
def spDT (ts:Tbs) (n:Nat) (G:DF):Sp:=fun vs H Q E=>TH ts H∧spD n G vs H Q E
def KFnT (P:We) (w:Wk) (K:W2) (mg:Str→Option Value) (base:Heap) (ts:Tbs) (k:Nat) (x:Str) (n:Nat) (G:DF):Prop :=
 ∃ (f:Addr) (fd:WC) (ps:List Str),mg x=some (.ref f)∧Qk K (.ref f)=true∧Binds K fd ps []∧FnOk P w K mg base CX0 k f fd ps (spDT ts n G)
section
variable {P:We} {w:Wk} {K:W2} {mg:Str→Option Value} {base:Heap}
theorem zaF {ts:Tbs} {x qual:Str} {st:Stmt} {f:Addr} {fd:WC} {N ps:List Str} {k:Nat} {np:List Nat} {fb:DS} {G:DF} (F:Fun K x qual st f fd) (S:FnScope N ps (z02 st))
  (hbody:∀ (c:Fc) (cdv:Value) (A:Wm) (outer:List Env) (s:W1) (H:Hp) (E:XK),Room k (A.deeper (QI qual (z02 st) s.heap.objs.size f cdv))→Np c np→FT ts c→(∃ oc od kV doc pm an ct osl,K.lookup f=some ⟨oc,od,.func (WN x qual (z14 st) (z0v st) (z02 st) .none kV doc pm an cdv ct),osl⟩)→SSs (cxOf CX0 P w K mg base N qual (z02 st) f cdv A outer s H E).nox c (z0v st) fb)
  (hG:∀ ss y,G ss=some y→ioOk np 0 ss=true∧runD fb N.length ss=some y):FnOk P w K mg base CX0 (k + 1) f fd ps (spDT ts ps.length G):=by
 obtain ⟨oc,od,kV,doc,pm,an,cdv,ct,osl,rfl,lk,hcd⟩:=F.ex
 refine zdv lk hcd S (fun vs H Q E h=>?_) fun A outer s H vs Q E hr h=>?_
 ·obtain ⟨_,ss,B,hl,_⟩:=h
  exact hl
 ·obtain ⟨hT,ss,B,hl,ok,r,outs,hg,q⟩:=h
  obtain ⟨hio,hrun⟩:=hG ss _ hg
  have hvs:ss.length=vs.length:=by have:=ok.len; simpa using this
  have np':Np ⟨H,B,z0q 0 ss vs,fun _ _=>False⟩ np:=fun p hp=>by
   obtain ⟨j,d,e,h1,_⟩:=z19 (i:=p.1) (a:=p.2) hp
   rw [e]
   exact z6E hio h1
  have ft:FT ts ⟨H,B,z0q 0 ss vs,fun _ _=>False⟩:=⟨hT,fun t ht ⟨i,z⟩=>by
   obtain ⟨j,d,_,h1,h2⟩:=z19 z
   obtain ⟨a,e1,o,_⟩:=ok.own j d (someS_get.mpr h1)
   rw [some'_get.mpr h2] at e1
   cases e1
   have:=hT t ht
   cases d with
   | lst ds=>obtain ⟨_,e,_⟩:=o; rw [this] at e; cases e
   | dct ds=>obtain ⟨_,e,_⟩:=o; rw [this] at e; cases e
   | _=>exact o.elim⟩
  have hb:=hbody ⟨H,B,z0q 0 ss vs,fun _ _=>False⟩ cdv A outer s H E hr np' ft ⟨oc,od,kV,doc,pm,an,ct,osl,lk⟩
  refine ⟨tDS ⟨H,B,z0q 0 ss vs,fun _ _=>False⟩ fb,hb.nox,?_⟩
  have hst:z1y N vs=z0S vs ++ Wc (N.length - ss.length) none:=by rw [hvs]; rfl
  refine ⟨z0f N.length ss,by rw [hst]; exact ok.ext _,?_⟩
  unfold runD at hrun
  unfold z22
  cases e:fb (z0f N.length ss) with
  | exc x δx=>rw [e] at hrun; cases hrun
  | stuck=>rw [e] at hrun; cases hrun
  | ok fl δ' =>
   rw [e] at hrun
   show ∀ σ' H',Aft _ (z1y N vs) (z0f N.length ss) H σ' δ' H'→fin _ _ σ' δ' H' fl
   intro σ' H' a
   rw [hst] at a
   simp only at hrun
   cases fl with
   | brk=>cases hrun
   | cont=>cases hrun
   | next =>
    simp only [z0V,WB] at hrun
    cases eo:z0h 0 ss δ' with
    | none=>rw [eo] at hrun; cases hrun
    | some os =>
     rw [eo] at hrun
     cases hrun
     obtain ⟨l1,l2⟩:=z7C rfl ok a eo
     exact q .non H' l1 .non
   | ret r' =>
    simp only [z0V,WB] at hrun
    cases eo:z0h 0 ss δ' with
    | none=>rw [eo] at hrun; cases hrun
    | some os =>
     rw [eo] at hrun
     cases hrun
     obtain ⟨l1,l2⟩:=z7C rfl ok a eo
     exact fun v rv=>q v H' l1 (l2 v _ rv)
end
section
variable {X:Cx} {c:Fc} {e:Expr} {es:List Expr} {as:List Ak} {k n:Nat} {x:Str} {G:DF} {pp pos:Pos} {ts:Tbs}
theorem z5v (F:KFnT X.prog X.w X.K X.mg X.base ts k x n G) (ft:FT ts c) (hK:z1G G) (hr:Room k X.A) (hg:Gl X x) (ha:SX X c (e :: es) as) (hl:as.length=n) (hdb:(x == ("__debug__" : Str))=false:=by decide)
  (he:Wa (e :: es) X.env=(false,eval e X.env) :: Wa es X.env:=by rfl) (hpl:(Q8 pos (Wa es X.env)).any (·.1)=false:=by rfl):SE X c (.Call (.Name x pp) (e :: es) [] pos) (z07 G as):=by
 obtain ⟨f,fd,ps,hm,hk,hb,ok⟩:=F
 refine PE.weak (z8x ok hr hg hm hk hb .nil zcU ha hdb he hpl) fun σ H Q h=>?_
 obtain ⟨δ,kk,hio,q⟩:=z69 (ps:=ps) hK hl h
 exact ⟨δ,kk,hio,z00 q fun ds δ1 q1 vs H1 a1 r1=>⟨ft.now a1.ok,q1 vs H1 a1 r1⟩⟩
end
def z3Z:List Nat→Dl→Option (List D×Dl)
 | [],δ=>some ([],δ)
 | j :: js,δ=>match δ[j]? with
  | some (some (.pure d))=>(z3Z js δ).map fun p=>(d :: p.1,p.2)
  | some (some (.own d))=>(z3Z js (δ.set j (some (.pure d)))).map fun p=>(d :: p.1,p.2)
  | _=>none
theorem z92 {c:Fc} {σ:St} {H:Hp}:∀ {js:List Nat} {δ δ2:Dl} {dv:List D},Ok c σ δ H→z3Z js δ=some (dv,δ2)→Aft c σ δ H σ δ2 H∧∃ fv:List V,fv.length=js.length∧(∀ (i:Nat) j,js[i]? = some j→∃ v,fv[i]? = some v∧σ[j]? = some (some v))∧Reps H (Av c σ δ2) fv dv
 | [],δ,δ2,dv,k,h=>by
  simp only [z3Z,W5,Prod.mk.injEq] at h
  obtain ⟨rfl,rfl⟩:=h
  exact ⟨.refl k,[],rfl,fun i j e=>by simp at e,.nil⟩
 | j :: js,δ,δ2,dv,k,h=>by
  have core:∀ {δ1:Dl} {d:D} {v:V},Aft c σ δ H σ δ1 H→Rep H (Av c σ δ1) v d→σ[j]? = some (some v)→(z3Z js δ1).map (fun p=>(d :: p.1,p.2))=some (dv,δ2)→Aft c σ δ H σ δ2 H∧∃ fv:List V,fv.length=(j :: js).length∧(∀ (i:Nat) j',(j :: js)[i]? = some j'→∃ v,fv[i]? = some v∧σ[j']? = some (some v))∧Reps H (Av c σ δ2) fv dv:=by
   intro δ1 d v a1 r1 e1 hm
   cases e:z3Z js δ1 with
   | none=>rw [e] at hm; cases hm
   | some p =>
    obtain ⟨dv',δ'⟩:=p
    rw [e] at hm
    simp only [WD,W5,Prod.mk.injEq] at hm
    obtain ⟨rfl,rfl⟩:=hm
    obtain ⟨a2,fv,h1,h2,h3⟩:=z92 a1.ok e
    refine ⟨a1.trans a2,v :: fv,by simp [h1],fun i j' ej=>?_,.cons (Rep.aft r1 a2) h3⟩
    cases i with
    | zero=>simp at ej; subst ej; exact ⟨v,rfl,e1⟩
    | succ i =>
     obtain ⟨v',q1,q2⟩:=h2 i j' (by simpa using ej)
     exact ⟨v',by simpa using q1,q2⟩
  simp only [z3Z] at h
  split at h
  ·rename_i d e
   obtain ⟨v,e1,r⟩:=k.slot j d e
   exact core (.refl k) r e1 h
  ·rename_i d e
   obtain ⟨a,e1,af,r⟩:=k.give e
   exact core af r e1 h
  ·cases h
def za8 (fe:DE) (js:List Nat) (fb:DE) (W:(D→Option D)→D→Option D):DE:=fun δ=>(fe δ).bind fun r δ1=>match z3Z js δ1 with
 | some (dv,δ2)=>match W (cloF fb dv) r.d with
  | some d'=>.ok (.pure d') δ2
  | none=>.stuck
 | none=>.stuck
def zbU (P:We) (w:Wk) (K:W2) (mg:Str→Option Value) (base:Heap) (k:Nat) (x:Str) (m:Nat) (fbW:Addr→(D→Option D)→DS):Prop :=
 ∃ (f:Addr) (fd:WC) (ps:List Str) (qual:Str) (scope:Scope) (N:List Str),N.length=m∧mg x=some (.ref f)∧Qk K (.ref f)=true∧Binds K fd ps []∧ps.length=2∧FnOkS P w K mg base (k + 1) f fd ps (spS P w K mg base N qual scope f k fbW)
theorem zcb {cl cells:List (Str×Addr)} (h:∀ q ∈ cl,cells.lookup q.1=some q.2):∀ x a,cl.lookup x=some a→cells.lookup x=some a:=fun x a e=>h (x,a) (Wq e)
theorem zdf {p:Str} {fr:List Str} {sc:Scope} (h1:sc.kind = .function:=by rfl) (h2:sc.isCoroutine=false:=by rfl) (h3:sc.isGenerator=false:=by rfl) (h4:sc.names.lookup p=some .local:=by rfl) (h5:∀ y ∈ sc.names,y.2≠.cell:=by decide +kernel)
  (h6:∀ y ∈ sc.names,y.2 = .free→y.1 ∈ fr:=by decide +kernel) (h7:∀ x ∈ fr,sc.names.lookup x=some .free:=by decide +kernel):LamScope p fr sc:=⟨h1,h2,h3,h4,h5,fun x e=>h6 _ (Wq e) rfl,h7⟩
section
variable {X:Cx} {c:Fc} {e:Expr} {fe fb:DE} {params:Arguments} {body:Expr} {scope:Scope} {lpos pos pp:Pos} {P code:Addr} {cl:List (Str×Addr)} {fr:List Str} {js:List Nat} {p x:Str} {kl kw m:Nat} {fbW:Addr→(D→Option D)→DS} {W:(D→Option D)→D→Option D} {ts:Tbs}
theorem zb3 (F:zbU X.prog X.w X.K X.mg X.base kw x m fbW) (hW:∀ fa Fn d r,W Fn d=some r→∃ outs,runD (fbW fa Fn) m [.pure d,.pure (.fn fa)]=some (.pure r,outs))
  (ft:FT ts c) (hmem:(P,lpos,X.env.qual ++ "<lambda>") ∈ ts) (hr:Room (kw + 1) X.A) (hkl:kl + 1≤kw) (hg:Gl X x) (he:SE X c e fe) (hfn:∀ x,X.fn x=true)
  (hdef:defaultsOf params X.env=([],[])) (hcl:closureFor scope X.env=pure cl) (hcode:X.env.code = .ref code) (CH:QN X.K code P=true) (hgP:Wp≠P) (hB:X.base.BuiltinsAt X.mg P)
  (hsub:∀ x a,cl.lookup x=some a→X.env.cells.lookup x=some a) (L:LamScope p fr scope) (hjs:js.length=fr.length)
  (hN:∀ (i:Nat) x j,fr[i]? = some x→js[i]? = some j→X.N[j]? = some x∧X.env.scope.names.lookup x=some .cell∧∃ a,cl.lookup x=some a)
  (hb:∀ pm cdv ctv (u:Value),bindArgs (PySem.W.kla_fn "<lambda>" (X.env.qual ++ "<lambda>") params body scope cl pm cdv ctv) ⟨[u],[]⟩=pure [(p,u)])
  (hbody:∀ (c':Fc) (fa:Addr) (cd:Value) (A:Wm) (outer:List Env) (s:W1) (H:Hp),Room kl (A.deeper (J2 (X.env.qual ++ "<lambda>") scope s.heap.objs.size fa cd cl))→c'.pin=[]→SE (z9h X.prog X.w X.K X.mg X.base (p :: fr) (X.env.qual ++ "<lambda>") scope fa cd cl A outer s H) c' body fb)
  (hdb:(x == ("__debug__" : Str))=false:=by decide)
  (hs:Wa [e,.Lambda params body scope lpos] X.env=(false,eval e X.env) :: Wa [.Lambda params body scope lpos] X.env:=by rfl)
  (hs2:Wa [.Lambda params body scope lpos] X.env=[(false,eval (.Lambda params body scope lpos) X.env)]:=by rfl):SE X c (.Call (.Name x pp) [e,.Lambda params body scope lpos] [] pos) (za8 fe js fb W):=by
 obtain ⟨f,fd,ps,qual,sc,N,hNm,hmg,hk,hbi,h2,ok⟩:=F
 intro pins s σ H Q I ⟨δ,k,q⟩
 refine QR (z8R I hg hmg ?_ hdb)
 refine PySem.W.callWith_K (h₀:=X.base) I.ok.mod.kin hk ?_ hs (by rw [hs2]; rfl)
 rw [hs,hs2]
 show W6 _ _ (spliced ((false,eval e X.env) :: [(false,eval (.Lambda params body scope lpos) X.env)])) _ _ s
 unfold za8 at q
 rw [z01] at q
 refine Calls.spliced_cons (thn (he pins s σ H (fun v H1=>∃ r δ1 dv δ2 d',Aft c σ δ H σ δ1 H1∧Rep H1 (Av c σ δ1) v r∧z3Z js δ1=some (dv,δ2)∧W (cloF fb dv) r=some d'∧∀ v' H3,Aft c σ δ H σ δ2 H3→Rep H3 (Av c σ δ2) v' d'→Q v' H3) I ⟨δ,k,z00 q fun r δ1 q1 v H1 a1 r1=>?_⟩) fun u s1 ⟨v,H1,I1,ru,r,δ1,dv,δ2,d',a1,r1,eg,ew,hq⟩=>?_)
 ·cases eg:z3Z js δ1 with
  | none=>rw [eg] at q1; exact q1.elim
  | some z =>
   obtain ⟨dv,δ2⟩:=z
   rw [eg] at q1
   simp only at q1
   cases ew:W (cloF fb dv) r.d with
   | none=>rw [ew] at q1; exact q1.elim
   | some d' =>
    rw [ew] at q1
    exact ⟨r.d,δ1,dv,δ2,d',a1,r1.rep,eg,ew,fun v' H3 a3 r3=>q1 v' H3 a3 r3⟩
 ·obtain ⟨a2,fv,l1,l2,rf⟩:=z92 a1.ok eg
  have k2:=a2.ok
  have hv:∀ (i:Nat) x v,fr[i]? = some x→fv[i]? = some v→∃ (j:Nat) (a:Addr),X.N[j]? = some x∧σ[j]? = some (some v)∧X.env.scope.names.lookup x=some .cell∧cl.lookup x=some a:=fun i y w e1 e2=>by
   have hi:i < js.length:=by rw [hjs]; exact (Wl.mp e1).1
   obtain ⟨w',q1,q2⟩:=l2 i js[i] (by simp [hi])
   rw [e2] at q1; cases q1
   obtain ⟨z1,z2,a,z3⟩:=hN i y js[i] e1 (by simp [hi])
   exact ⟨_,a,z1,q2,z2,z3⟩
  refine Calls.spliced_cons (za1 I1 (ft.now k2 _ hmem) hfn hdef hcl hcode CH hgP hB hsub (by rw [l1,hjs]) hv fun fa H2 s2 I2 up C=>Calls.spliced_nil ⟨I2.kIn,?_⟩)
  have k3:Ok c σ δ2 H2:=k2.mono up
  have sp:spS X.prog X.w X.K X.mg X.base N qual sc f kw fbW X.stack s2 [v,.ref fa] H2 Q E0:=by
   obtain ⟨outs,hrun⟩:=hW fa (cloF fb dv) r d' ew
   have r3:Rep H2 (Av c σ δ2) v r:=(Rep.aft r1 a2).keep fun a o e _=>up a o e
   refine ⟨r,fa,cloF fb dv,Av c σ δ2,v,rfl,?_,fun cdv A E hr' hfr=>?_,.pure d',outs,by rw [hNm]; exact hrun,fun v' H' a r'=>?_⟩
   ·have nown:∀ (i:Nat) z,([some (S.pure r),some (S.pure (.fn fa))]:Dl)[i]? = some (some (.own z))→False:=fun i z e=>by
     match i with
     | 0=>simp at e
     | 1=>simp at e
     | i + 2=>simp at e
    have avs:∀ b,Av ⟨H2,Av c σ δ2,[],fun _ _=>False⟩ [some v,some (.ref fa)] [some (.pure r),some (.pure (.fn fa))] b→Av c σ δ2 b:=fun b z=>by
     rcases z with z | ⟨i,y,z1,_⟩
     ·exact z
     ·exact (nown i y z1).elim
    refine ⟨fun a o e _=>e,fun a z=>k3.avthere z,fun a ⟨i,z⟩=>by simp at z,rfl,fun i z e=>?_,fun i z e=>(nown i z e).elim,fun i j a z z' e=>(nown i z e).elim,fun z hz=>by simp at hz⟩
    match i with
    | 0 =>
     simp at e
     subst e
     exact ⟨v,rfl,r3.anti fun b z=>.inl (avs b z)⟩
    | 1 =>
     simp at e
     subst e
     exact ⟨.ref fa,rfl,.fn fa⟩
    | i + 2=>simp at e
   ·exact zdD (X:=(cxOf CX0 X.prog X.w X.K X.mg X.base N qual sc f cdv A X.stack s2 H2 E).nox) (k:=kl) rfl rfl rfl C L (hr'.mono hkl) hb (Reps.keep rf fun a o e _=>up a o e) fun c' cd s' H' hr2 hp=>hbody c' fa cd _ _ s' H' hr2 hp
   ·have up2:∀ b o,H2 b=some o→H' b=some o:=fun b o eb=>a.ok.keep b o eb fun ⟨i,z⟩=>by simp at z
    exact hq v' H' (((a1.trans a2).trans (.mono k2 up)).trans (.mono k3 up2)) (Rep.anti (show Rep H' _ v' d' from r') fun b z=>.inl (.inl z))
  have rr:Vals [v,.ref fa] [u,.ref fa]:=.cons ru (.cons rfl .nil)
  have hbs:=hbi s2 [u,.ref fa] I2.kIn (by rw [Qx,h2]; rfl)
  rw [Qx] at hbs
  refine wpAny_call (Qv (ok.run X.A X.stack s2 H2 ⟨[u,.ref fa],[]⟩ [u,.ref fa] [v,.ref fa] Q E0 hr I2.env0 hbs rr sp) fun r s' hq'=>?_)
  cases r with
  | error e=>exact hq'.elim
  | ok fl =>
   cases fl with
   | ret u=>exact I2.after hq'
   | next=>exact False.elim hq'
   | brk=>exact False.elim hq'
   | cont=>exact False.elim hq'
end
theorem z8S {P:We} {w:Wk} {K:W2} {mg mb:Str→Option Value} {k:Nat} {fa a T c:Addr} {tpos:Pos} {tq:Str} {fd:WC} {x:Str} {G:DF} {s₁:W1} {vs:List Value} {ns:List Int}
  (KX:K.In s₁.heap) (hns:s₁.heap.Ns Wp mg) (hb:s₁.heap.Ns builtinsNs mb) (hbb:∀ x:Str,x≠"__name__"→mb x=Q7 x) (hlim:s₁.heap.NoLimit) (hg:s₁.gens = #[])
  (ha:s₁.heap.get? a=some { cls:=.type "list",data:=.seq vs.toArray }) (hi:IntsAre vs ns) (hl:ns.length≤W7) (hr:Room k callerA)
  (hL:noL K=true) (hT:s₁.heap.get? T=some (PySem.W.tabObj #[])) (hC:PySem.W.CodeHd s₁.heap c T) (hB:∃ bm o,mg "__builtins__" = some (.ref bm)∧bm≠builtinsNs∧s₁.heap.get? bm=some o∧o.cls = .type "module"∧o.dict=some builtinsNs∧o.data = .plain) (hKT:K.lookup T=none)
  (F:∀ base:Heap,K.In base→base.Ns Wp mg→base.BuiltinsAt mg T→FnOk P w K mg base CX0 k fa fd [x] (spDT [(T,tpos,tq)] 1 G)) (hbind:∀ (s:W1) (u:Value),BindsTo s fd ⟨[u],[]⟩ [(x,u)])
  (hG:∃ outs,G [.pure (.lst (ns.map .int))]=some (.pure (.bl true),outs)) :
  Q1 (model P w) callerA (.call (.ref fa) ⟨[.ref a],[]⟩) (fun r s'=>r = .ok (.ret (.bool true))∧OldK s₁.heap s'.heap∧s'.os=s₁.os∧AllBare s'.gens) s₁:=by
 have rv:=L2.vals_ints hi
 have lenV:=hi.length
 have naT:T≠a:=fun z=>by
  rw [z,ha] at hT
  have:=(Ww hT)
  have h2:=congrArg Obj.cls this
  cases h2
 have hka:K.lookup a=none:=by
  cases hk:K.lookup a with
  | none=>rfl
  | some o =>
   have e:=KX a o hk
   rw [ha] at e
   cases e
   exact (zaA hL hk rfl).elim
 let H:Hp:=fun b=>if b=a then some (.frz { cls:=.type "list",data:=.seq vs.toArray } (.lst (ns.map V.int))) else if b=T then some (.ctab tpos tq) else none
 have Ha:H a=some (.frz { cls:=.type "list",data:=.seq vs.toArray } (.lst (ns.map V.int))):=if_pos rfl
 have HT:H T=some (.ctab tpos tq):=by show (if T=a then _ else _)=_; rw [if_neg naT,if_pos rfl]
 have Hn:∀ b,b≠a→b≠T→H b=none:=fun b h1 h2=>by show (if b=a then _ else _)=_; rw [if_neg h1,if_neg h2]
 have hok:HOk P w H s₁.heap:=fun b u z=>by
  by_cases h1:b=a
  ·subst h1
   rw [Ha] at z; cases z
   exact ⟨ha,by rw [Wx]; exact hl,vs,_,rv,ha⟩
  ·by_cases h2:b=T
   ·subst h2
    rw [HT] at z; cases z
    exact ⟨#[],hT,trivial,fun cv q=>by cases q⟩
   ·rw [Hn b h1 h2] at z; cases z
 have base_of:∀ {b:Addr} {o:Obj},s₁.heap.get? b=some o→H b=none→(hidT s₁.heap H).get? b=some o:=fun e n=>z7d e n
 have noA:∀ {b:Addr} {o:Obj} {es:Array DictEntry} {ep:Nat},s₁.heap.get? b=some o→o.data = .dict es ep→H b=none:=fun {b o es ep} e d=>by
  refine Hn b (fun z=>?_) fun z=>?_
  ·rw [z,ha] at e; cases e
   have d':Data.seq vs.toArray _=Data.dict es ep:=d
   cases d'
  ·rw [z,hT] at e; cases e
   have d':Data.fields #[]=Data.dict es ep:=d
   cases d'
 have nsK:∀ {b:Addr} {m:Str→Option Value},s₁.heap.Ns b m→(hidT s₁.heap H).Ns b m:=fun {b m} ⟨o,es,ep,e,d,r⟩=>⟨o,es,ep,base_of e (noA e d),d,r⟩
 have hKb:K.In (hidT s₁.heap H):=fun b o e=>base_of (KX b o e) (Hn b (fun z=>by rw [z,hka] at e; cases e) fun z=>by rw [z,hKT] at e; cases e)
 have hM:Mod K mg (hidT s₁.heap H):=⟨hKb,nsK hns,⟨mb,nsK hb,hbb⟩,let ⟨mc,h1,h2⟩:=hlim; ⟨mc,nsK h1,h2⟩⟩
 have e0:Env0 P w K mg (hidT s₁.heap H) callerA [] s₁ H:=⟨rfl,hM,fun b o e=>z8G e,Nat.le_of_eq (z5Z _ _),trivial,fun b hb=>absurd (show b ∈ ([]:List Addr) from hb) (by simp),hok,.of_eq hg⟩
 have hTH:TH [(T,tpos,tq)] H:=fun t ht=>by
  have:t=(T,tpos,tq):=by simpa using ht
  subst this
  exact HT
 have hR:Rd H a (.lst (ns.map V.int)):=.inr ⟨_,Ha⟩
 have sp:spDT [(T,tpos,tq)] 1 G [.ref a] H (fun v H'=>v = .bl true∧H' T=some (.ctab tpos tq)) E0:=by
  obtain ⟨outs,hg⟩:=hG
  have rep:∀ O:Addr→Prop,¬ O a→Rep H O (.ref a) (.lst (ns.map D.int)):=fun O hO=>.lst hO hR (by simp) fun i v d e1 e2=>by
   rw [Wz] at e1 e2
   cases e:ns[i]? with
   | none=>rw [e] at e1; cases e1
   | some k=>rw [e] at e1 e2; cases e1; cases e2; exact .int k
  refine ⟨hTH,[.pure (.lst (ns.map .int))],fun _=>False,rfl,⟨fun b o e _=>e,fun b z=>z.elim,fun b ⟨i,z⟩=>?_,rfl,fun i d e=>?_,fun i d e=>?_,fun i j b d d' e1 e2 e3 e4=>?_,fun p z=>?_⟩,_,outs,hg,fun v H' x r=>?_⟩
  ·simp [z0q] at z
  ·cases i with
   | zero =>
    simp at e
    subst e
    refine ⟨.ref a,rfl,rep _ fun z=>?_⟩
    rcases z with z | ⟨j,d',z1,z2⟩
    ·exact z
    ·cases j with
     | zero=>simp at z1
     | succ j=>simp at z1
   | succ i=>simp at e
  ·cases i with
   | zero=>simp at e
   | succ i=>simp at e
  ·cases i with
   | zero=>simp at e1
   | succ i=>simp at e1
  ·simp [z0q] at z
  ·cases r
   exact ⟨rfl,x.ok.keep T _ HT fun ⟨i,z⟩=>by simp [z0q] at z⟩
 have hBb:(hidT s₁.heap H).BuiltinsAt mg T:=by
  obtain ⟨bm,o,b1,b2,b3,b4,b5,b6⟩:=hB
  refine ⟨bm,o,b1,b2,fun z=>?_,fun z=>?_,base_of b3 (Hn bm (fun z=>?_) fun z=>?_),b4,b5,b6⟩
  ·obtain ⟨o2,es,ep,e,d,_⟩:=hns
   rw [z,e] at b3; cases b3
   rw [d] at b6; cases b6
  ·rw [z,hT] at b3; cases b3
   cases b6
  ·rw [z,ha] at b3; cases b3
   cases b6
  ·rw [z,hT] at b3; cases b3
   cases b6
 refine Qv ((F _ hKb (nsK hns) hBb).run callerA [] s₁ H ⟨[.ref a],[]⟩ [.ref a] [.ref a] _ _ hr e0 (hbind s₁ (.ref a)) (.cons rfl .nil) sp) fun r s' h=>?_
 cases r with
 | error e=>exact h.elim
 | ok fl =>
  cases fl with
  | next=>exact False.elim h
  | brk=>exact False.elim h
  | cont=>exact False.elim h
  | ret u =>
   obtain ⟨v,H',os,bare,un,hok',r',q⟩:=h
   obtain ⟨q1,q2⟩:=q
   subst q1
   obtain rfl:u=Value.bool true:=r'
   have old:∀ b o,s₁.heap.get? b=some o→asItWas s₁.heap s'.heap b o∧∃ o',s'.heap.get? b=some o':=fun b o e=>by
    by_cases h1:b=a
    ·subst h1
     have z2:=un.frzs b _ _ Ha
     obtain ⟨e2,_⟩:=hok' b _ z2
     rw [ha] at e; cases e
     exact ⟨.inl e2,_,e2⟩
    ·by_cases h2:b=T
     ·subst h2
      obtain ⟨ps,e2,_⟩:=hok' b _ q2
      rw [hT] at e; cases e
      exact ⟨.inr (.inl ⟨(hC.tab hT).isCodeTable,rfl,#[],ps,rfl,by rw [e2]; simp⟩),_,e2⟩
     ·have:=un.keep b o e (Hn b h1 h2) (by intro z; exact absurd (show b ∈ ([]:List Addr) from z) (by simp)) (by simp)
      exact ⟨.inl this,_,this⟩
   exact ⟨rfl,⟨fun b o e=>(old b o e).1,fun b o e=>(old b o e).2⟩,os,bare⟩
theorem walkDT {l:Jp} {q:We} {loose:List Str} {XP:(Str→Option Value)→Heap→Prop} {YP:Wk→Heap→Prop} {d:DefRec} {K:Params→W2} {k:Nat} {G:DF} {T:Addr} {tpos:Pos} {tq:Str} (hn:l.most=some 63) (hdf:d.params.defaults=[]) (hr:Room k callerA)
  (hY:∀ (w:Wk) (h:Heap),YP w h→(K w.params).In h∧h.get? T=some (PySem.W.tabObj #[])) (hL:∀ p:Params,noL (K p)=true) (hKT:∀ p:Params,(K p).lookup T=none)
  (hG:∀ ns:List Int,ns.length≤63→∃ outs,G [.pure (.lst (ns.map .int))]=some (.pure (.bl true),outs))
  (F:∀ (w:Wk) (mg:Str→Option Value) (fa:Addr) (h:Heap),(K w.params).In h→h.Ns Wp mg→mg d.name=some (.ref fa) →
   (∃ c,QN (K w.params) c T=true)∧∃ fd:WC,(∀ (s:W1) (u:Value),BindsTo s fd ⟨[u],[]⟩ [("script",u)])∧∀ base:Heap,(K w.params).In base→base.Ns Wp mg→base.BuiltinsAt mg T→FnOk l.prog w (K w.params) mg base CX0 k fa fd ["script"] (spDT [(T,tpos,tq)] 1 G)) :
  PySem.W.WalkO q loose XP YP l.row.toRowW d [] (fun f vs=>PySem.call f vs):=by
 refine Att.attach_call hn hdf fun w s₀ s₁ mg mb fa o pm cd doc a vs ns G' Y ho hd hcd hmg hobj hints hlen hg=>?_
 obtain ⟨KX,hT⟩:=hY w _ Y
 obtain ⟨⟨c,hC⟩,fd,hb,hF⟩:=F w mg fa _ KX G'.T.g hmg
 exact z8S KX G'.T.g G'.T.b G'.T.builtins G'.T.nolimit hg hobj hints (WQ hlen (by decide)) hr (hL _) hT (PySem.W.codeHd_of_K KX hC) G'.T.bmain (hKT _) hF hb (hG ns hlen)
open PySem (sizeLine)
def zam (fa:PySem.Addr) (F:D→Option D):DS:=dSeq (dAsg z65 (gNm [] 2)) (dSeq (dAsg (eVar 0) (gNm [] 3)) (dSeq (z1H (dTr (eOp (pIn true) (eVar 3) (bVar 2))) (dSeq (z43 2 (eVar 3) (eC1 pLen (bVar 2))) (dAsg (z6G fa F 1 (eVar 3)) (gNm [] 3))) 1000000) (dRet (eTup (z0F (eC1 z4v (bVar 2)) (z0F (eOpF pIxX 2 (bVar 3)) aNil))))))
def wk (F:D→Option D):Nat→List Tx→Tx→Option (List Tx×Nat)
 | 0,_,_=>none
 | n + 1,seen,here=>if here ∈ seen then some (seen,seen.idxOf here) else match F (.str here) with
  | some (.str y)=>wk F n (seen ++ [here]) y
  | _=>none
def z7Q (F:D→Option D):D→Option D
 | .str x=>(wk F 1000000 [] x).map fun p=>.tup [.lst (p.1.map .str),.int (p.2:Nat)]
 | _=>none
def dkA:Nat→List Tx→List (DKey×D)
 | _,[]=>[]
 | n,x :: r=>(.inr x,.int (n:Int)) :: dkA (n + 1) r
theorem z9b:∀ (n:Nat) (a b:List Tx),dkA n (a ++ b)=dkA n a ++ dkA (n + a.length) b
 | n,[],b=>by simp [dkA]
 | n,x :: r,b=>by
  rw [List.cons_append,dkA,dkA,z9b,List.cons_append,WL]
  congr 3
  omega
theorem z6I:∀ (n:Nat) (a:List Tx),(dkA n a).length=a.length
 | _,[]=>rfl
 | n,x :: r=>by rw [dkA,WL,z6I,WL]
theorem z5g:∀ (n:Nat) (a:List Tx),(dkA n a).map (fun p=>kyD p.1)=a.map .str
 | _,[]=>rfl
 | n,x :: r=>by rw [dkA,Wj,z5g,Wj]; rfl
theorem z6H (x:Tx):∀ (n:Nat) (a:List Tx),valD (dkA n a) (.inr x)=if x ∈ a then some (.int ((n + a.idxOf x:Nat):Int)) else none
 | _,[]=>rfl
 | n,y :: r=>by
  unfold valD dkA
  rw [WT]
  by_cases h:y=x
  ·subst h
   simp
  ·have h':¬ x=y:=fun e=>h e.symm
   have e:(decide ((Sum.inr y:DKey) = .inr x))=false:=by simp [h]
   have ih:=z6H x (n + 1) r
   unfold valD at ih
   simp only [e]
   rw [ih,List.idxOf_cons]
   have hb:(y == x)=false:=by simp [h]
   simp only [hb,Wf,h',false_or]
   by_cases hm:x ∈ r
   ·simp only [hm,if_true,cond_false]
    congr 2
    omega
   ·simp [hm]
theorem zbM {x:Tx} {v:D} {a:List Tx} (h:x ∉ a):putD (dkA 0 a) (.inr x) v=dkA 0 a ++ [(.inr x,v)]:=by
 have hn:((dkA 0 a).any fun kv=>decide (kv.1 = .inr x))=false:=by
  rw [List.any_eq_false]
  intro kv hkv
  have:kyD kv.1 ∈ a.map D.str:=by rw [← z5g 0 a]; exact WK hkv
  simp only [decide_eq_true_eq]
  intro e
  rw [e] at this
  simp [kyD] at this
  exact h this
 unfold putD
 rw [hn]
 simp
theorem z7P (fa:PySem.Addr) (F:D→Option D) (d:D):∀ (n:Nat) (seen:List Tx) (here:Tx) (p:List Tx×Nat),seen.length + n≤1000000→wk F n seen here=some p →
  ∃ last:Tx,last ∈ p.1∧p.1.idxOf last=p.2∧p.1.length≤1000000∧z1H (dTr (eOp (pIn true) (eVar 3) (bVar 2))) (dSeq (z43 2 (eVar 3) (eC1 pLen (bVar 2))) (dAsg (z6G fa F 1 (eVar 3)) (gNm [] 3))) n [some (.pure d),some (.pure (.fn fa)),some (.own (.dct (dkA 0 seen))),some (.pure (.str here))]
   = .ok .next [some (.pure d),some (.pure (.fn fa)),some (.own (.dct (dkA 0 p.1))),some (.pure (.str last))]
 | 0,_,_,_,_,h=>by simp [wk] at h
 | n + 1,seen,here,p,hl,h=>by
  unfold wk at h
  have hin:pIn true (.str here) (.dct (dkA 0 seen))=some (.pure (.bl (!decide (here ∈ seen)))):=by
   show ((keyD (.str here)).map fun k=>S.pure (.bl (if true then !(valD (dkA 0 seen) k).isSome else (valD (dkA 0 seen) k).isSome)))=_
   simp only [keyD,WD,z6H,if_true]
   by_cases hm:here ∈ seen <;> simp [hm]
  by_cases hm:here ∈ seen
  ·rw [if_pos hm] at h
   cases h
   refine ⟨here,hm,rfl,by show seen.length≤_; omega,?_⟩
   simp only [hm,decide_true,Bool.not_true] at hin
   show z1H _ _ (n + 1) _=_
   generalize dkA 0 seen=L at *
   simp [z1H,dTr,eVar,bVar,hin]
  ·rw [if_neg hm] at h
   cases hF:F (.str here) with
   | none=>rw [hF] at h; cases h
   | some y =>
    rw [hF] at h
    cases y with
    | str y =>
     simp only at h
     obtain ⟨last,h1,h2,h3,h4⟩:=z7P fa F d n (seen ++ [here]) y p (by simp; omega) h
     refine ⟨last,h1,h2,h3,?_⟩
     rw [← h4]
     simp only [hm,decide_false,Bool.not_false] at hin
     have hz:(dkA 0 seen).length < W7:=by rw [z6I,z0E]; omega
     have hp:putD (dkA 0 seen) (.inr here) (.int ((dkA 0 seen).length:Nat))=dkA 0 (seen ++ [here]):=by
      rw [zbM hm,z9b,z6I]
      simp [dkA]
     generalize dkA 0 (seen ++ [here])=L1 at *
     generalize dkA 0 seen=L at *
     have e1:dTr (eOp (pIn true) (eVar 3) (bVar 2)) [some (.pure d),some (.pure (.fn fa)),some (.own (.dct L)),some (.pure (.str here))] = .ok true [some (.pure d),some (.pure (.fn fa)),some (.own (.dct L)),some (.pure (.str here))]:=by
      simp [dTr,eVar,bVar,hin]
     have e2:z43 2 (eVar 3) (eC1 pLen (bVar 2)) [some (.pure d),some (.pure (.fn fa)),some (.own (.dct L)),some (.pure (.str here))] = .ok .next [some (.pure d),some (.pure (.fn fa)),some (.own (.dct L1)),some (.pure (.str here))]:=by
      simp [z43,z4z,eVar,bVar,pLen,keyD,hz,hp]
     have e3:dAsg (z6G fa F 1 (eVar 3)) (gNm [] 3) [some (.pure d),some (.pure (.fn fa)),some (.own (.dct L1)),some (.pure (.str here))] = .ok .next [some (.pure d),some (.pure (.fn fa)),some (.own (.dct L1)),some (.pure (.str y))]:=by
      simp [dAsg,z6G,eVar,hF]
     simp only [z1H,e1,z0Q,if_true]
     have e4:dSeq (z43 2 (eVar 3) (eC1 pLen (bVar 2))) (dAsg (z6G fa F 1 (eVar 3)) (gNm [] 3)) [some (.pure d),some (.pure (.fn fa)),some (.own (.dct L)),some (.pure (.str here))] = .ok .next [some (.pure d),some (.pure (.fn fa)),some (.own (.dct L1)),some (.pure (.str y))]:=by
      unfold dSeq
      rw [e2]
      exact e3
     rw [e4]
     rfl
    | _=>simp at h
theorem z9x (fa:PySem.Addr) (F:D→Option D) (d r:D) (h:z7Q F d=some r):∃ outs,runD (zam fa F) 4 [.pure d,.pure (.fn fa)]=some (.pure r,outs):=by
 unfold z7Q at h
 split at h
 ·rename_i x
  cases e:wk F 1000000 [] x with
  | none=>rw [e] at h; cases h
  | some p =>
   rw [e] at h
   simp only [WD,W5] at h
   subst h
   obtain ⟨last,h1,h2,h3,h4⟩:=z7P fa F (.str x) 1000000 [] x p (by simp) e
   have hx:pIxX (.dct (dkA 0 p.1)) (.str last)=some (.pure (.int (p.2:Nat))):=by
    show ((keyD (.str last)).bind fun k=>(valD (dkA 0 p.1) k).map S.pure)=_
    simp only [keyD,WB,z6H,h1,if_true,WD,h2,J0]
   have hk:z4v (.dct (dkA 0 p.1))=some (.own (.lst (p.1.map .str))):=by
    show some (S.own (D.lst ((dkA 0 p.1).map fun p=>kyD p.1)))=_
    rw [z5g]
   have h0:dkA 0 []=[]:=rfl
   rw [h0] at h4
   generalize dkA 0 p.1=L at *
   refine ⟨[.pure (.str x),.pure (.fn fa)],?_⟩
   unfold runD zam
   simp [z0f,dAsg,z65,eVar]
   rw [h4]
   simp [bVar,hk,eOpF,eOpN,hx,z0V,z0h]
 ·cases h
section
variable {P:We} {w:Wk} {K:W2} {mg:Str→Option Value} {base:Heap}
theorem z95 {ts:Tbs} {x qual:Str} {st:Stmt} {f:Addr} {fd:WC} {N ps:List Str} {k:Nat} {np:List Nat} {fb:DS} {G:DF} (F:Fun K x qual st f fd) (hm:mg x=some (.ref f)) (hb:Binds K fd ps []) (S:FnScope N ps (z02 st))
  (hbody:∀ (c:Fc) (cdv:Value) (A:Wm) (outer:List Env) (s:W1) (H:Hp) (E:XK),Room k (A.deeper (QI qual (z02 st) s.heap.objs.size f cdv))→Np c np→FT ts c→(∃ oc od kV doc pm an ct osl,K.lookup f=some ⟨oc,od,.func (WN x qual (z14 st) (z0v st) (z02 st) .none kV doc pm an cdv ct),osl⟩)→SSs (cxOf CX0 P w K mg base N qual (z02 st) f cdv A outer s H E).nox c (z0v st) fb)
  (hG:∀ ss y,G ss=some y→ioOk np 0 ss=true∧runD fb N.length ss=some y):KFnT P w K mg base ts (k + 1) x ps.length G:=⟨f,fd,ps,hm,F.kp,hb,zaF F S hbody hG⟩
theorem zbP {x qual:Str} {st:Stmt} {f code:Addr} {cdv:Value} (h1:∃ oc od kV doc pm an ct osl,K.lookup f=some ⟨oc,od,.func (WN x qual (z14 st) (z0v st) (z02 st) .none kV doc pm an cdv ct),osl⟩)
  (h2:∃ oc od kV doc pm an ct osl,K.lookup f=some ⟨oc,od,.func (WN x qual (z14 st) (z0v st) (z02 st) .none kV doc pm an (.ref code) ct),osl⟩):cdv = .ref code:=by
 obtain ⟨_,_,_,_,_,_,_,_,e1⟩:=h1
 obtain ⟨_,_,_,_,_,_,_,_,e2⟩:=h2
 rw [e1] at e2
 cases e2
 rfl
end
section
variable {X:Cx} {c:Fc} {e:Expr} {es:List Expr} {as:List Ak} {k n:Nat} {x:Str} {G:DX} {pp pos:Pos} {ts:Tbs}
end
end DV
namespace L2
open PySem PySem.Spec PyProof.Rows
section
variable {X:Cx} {pins:List (Addr×Obj)} {σ:St} {H:Hp} {s:W1} {a:Addr} {kvs:List (Key×V)} {k:Key} {u:Value} {A:Wm} {E:Value→W1→Prop}
end
section
variable {X:Cx} {o e f:Expr} {apos cpos:Pos} {td ty tx:TE}
end
end L2
namespace DV
open PySem PySem.Spec PyProof.Rows L2
section
variable {X:Cx} {c:Fc} {e:Expr} {fe:DE} {pos:Pos}
end
end DV
namespace K51
open PySem.W (nsIn keepIn codeIn findIn mroIn kitOne mg_of)
open PySem PySem.Spec PyProof.Rows L2 DV
def top (i:Nat):Stmt:=PySem.Challenge.pw_tilegrow_k51_mixing.main.body.getD i (.Pass ⟨0,0,0,0⟩)
abbrev z1A:Stmt:=top 8
abbrev z1T:Stmt:=top 10
abbrev z2w:Stmt:=top 9
abbrev z2x:Stmt:=top 11
abbrev z1l:Stmt:=top 14
abbrev z2v:Stmt:=top 13
abbrev z1z:Stmt:=top 15
abbrev z2u:Stmt:=top 19
abbrev z18:Stmt:=top 16
abbrev z3a:Stmt:=top 18
abbrev z26:Stmt:=top 1
abbrev z1R:Stmt:=top 4
abbrev z4Q:Stmt:=top 3
abbrev z0x:Stmt:=top 5
abbrev z1S:Stmt:=top 6
abbrev z27:Stmt:=top 12
abbrev z4R:Stmt:=top 20
def lamPos:Pos:=match (z0v z0x).getLast? with | some (.Return (some (.Call _ [_,.Lambda _ _ _ p] _ _)) _)=>p | _=>⟨0,0,0,0⟩
def lamQ:Str:=("tile_sets" : Str) ++ ".<locals>." ++ "<lambda>"
structure Txt (K:W2) (mg:Str→Option Value):Prop where
 z_all:mg "all" = none
 z_bool:mg "bool" = none
 z_dict:mg "dict" = none
 z_int:mg "int" = none
 z_isinstance:mg "isinstance" = none
 z_len:mg "len" = none
 z_list:mg "list" = none
 z_max:mg "max" = none
 z_range:mg "range" = none
 z_set:mg "set" = none
 z_sorted:mg "sorted" = none
 z_tuple:mg "tuple" = none
 ty_bool:TyK K "bool"
 ty_int:TyK K "int"
def z1F:DS:=(dSeq (dIf (dTr (eOpF pLt 1 (bOf (eC1 pLen (bVar 0))))) (dRet (eOpF pIx 0 (bVar 1))) z1C) (dRet (eD (.int 0))))
def z0A:DF:=gOf [] 2 z1F
theorem z2W:z1G z0A:=z0r
theorem z3I:FnScope ["script","k"] ["script","k"] (z02 z1A):=⟨rfl,rfl,rfl,by decide +kernel,rfl,by decide +kernel,by decide +kernel⟩
theorem z3N {K:W2} (F:Fun K "_law_cell_at" "_law_cell_at" z1A f fd) (hm:mg "_law_cell_at" = some (.ref f)) (hb:Binds K fd ["script","k"] []) (T:Txt K mg):KFn P w K mg base 1 "_law_cell_at" 2 z0A :=
 z1O (np:=[]) (fb:=z1F) F hm hb z3I (fun c cdv A outer s H E hr hnp=>by
  have hq:=z23 hr
  refine (z04 ?_ ?_)
  ·refine (z37 ?_ ?_ ?_)
   ·exact (z36 zaz zd7 (pv 1) (z0c (z3h rfl T.z_len (z0n (pv 0)) (by rfl))) (z1o _))
   ·refine (z0g ?_)
    refine (z0D ?_)
    exact (z0I z0M z1n (pv 0) (z0n (pv 1)) (fun _ _=>rfl))
   ·exact z1I
  refine (z0g ?_)
  refine (z0D ?_)
  exact z05) fun ss y h=>z0O h
def z20:DS:=(dSeq (dAsg (eMax (eVar 0) (eOp pSub (eD (.int 0)) (bVar 0))) (gNm [] 1)) (dRet (eLst (z0F (eVar 1) (z0F (eC1 pInt (bOf (eOpF pGe 1 (bOf (eOp pPow (eD (.int 10)) (bOf (eD (.int 18)))))))) (z0F (eOpF pMod 1 (bOf (eD (.int 1000003)))) aNil))))))
def z0G:DF:=gOf [] 2 z20
theorem z3e:z1G z0G:=z0r
theorem sc__law_pen_of:FnScope ["cell","left"] ["cell"] (z02 z1T):=⟨rfl,rfl,rfl,by decide +kernel,rfl,by decide +kernel,by decide +kernel⟩
theorem z4e {K:W2} (F:Fun K "_law_pen_of" "_law_pen_of" z1T f fd) (hm:mg "_law_pen_of" = some (.ref f)) (hb:Binds K fd ["cell"] []) (T:Txt K mg):KFn P w K mg base 1 "_law_pen_of" 1 z0G :=
 z1O (np:=[]) (fb:=z20) F hm hb sc__law_pen_of (fun c cdv A outer s H E hr hnp=>by
  have hq:=z23 hr
  refine (z04 ?_ ?_)
  ·exact (@z0p _ _ _ _ _ _ ([]) (1) _ hnp sc__law_pen_of.nd rfl (Or.inl rfl) (zas rfl rfl T.z_max (z09 (pv 0)) (z1j zcX zd4 z05 (z0n (pv 0))) (by rfl) (by rfl) (by rfl)) rfl (Or.inl rfl))
  refine (z0g ?_)
  refine (z0D ?_)
  exact (z3G (z0m (z09 (pv 1)) (z0m (zb6 rfl T.z_int (z0c (z8e zd2 z8K (pv 1) (z0c (z1j zcY zd5 z05 (z0c z05))) (z1o _))) (by rfl)) (z0m (z2o z3i z3j (pv 1) (z0c z05)) z1k (by rfl)) (by rfl)) (by rfl)) (by decide))) fun ss y h=>z0O h
def z2I:DS:=(dSeq (dAsg (eOp pMod (eOpF pAdd 0 (bOf (eD (.int 7919)))) (bOf (eD (.int 2147483647)))) (gNm [] 0)) (dRet (eOp pMod (eOp pAdd (eOp pAdd (eOpF z2n 0 (bVar 0)) (bOf (eOp z2n (eD (.int 48271)) (bVar 0)))) (bOf (eD (.int 12345)))) (bOf (eD (.int 2147483629))))))
def z0Y:DF:=gOf [] 1 z2I
theorem z2a:z1G z0Y:=z0r
theorem sc__law_next:FnScope ["seed"] ["seed"] (z02 z2w):=⟨rfl,rfl,rfl,by decide +kernel,rfl,by decide +kernel,by decide +kernel⟩
theorem z5L {K:W2} (F:Fun K "_law_next" "_law_next" z2w f fd) (hm:mg "_law_next" = some (.ref f)) (hb:Binds K fd ["seed"] []) (T:Txt K mg):KFn P w K mg base 1 "_law_next" 1 z0Y :=
 z1O (np:=[]) (fb:=z2I) F hm hb sc__law_next (fun c cdv A outer s H E hr hnp=>by
  have hq:=z23 hr
  refine (z04 ?_ ?_)
  ·exact (@z0p _ _ _ _ _ _ ([]) (0) _ hnp sc__law_next.nd rfl (Or.inl rfl) (z1j z3i z3j (z2o z0L z1e (pv 0) (z0c z05)) (z0c z05)) rfl (Or.inl rfl))
  refine (z0g ?_)
  refine (z0D ?_)
  exact (z1j z3i z3j (z1j z0L z1e (z1j z0L z1e (z2o z4W z4Z (pv 0) (z0n (pv 0))) (z0c (z1j z4W z4Z z05 (z0n (pv 0))))) (z0c z05)) (z0c z05))) fun ss y h=>z0O h
def z2J:DS:=(dSeq (dIf (dTr (eOp pEq (eOpF pIx 0 (bOf (eD (.int 1)))) (bOf (eD (.int 1))))) (dSeq (dAsg (eOp pMod (eOpF pIx 0 (bOf (eD (.int 0)))) (bVar 1)) (gNm [0] 2)) (dSeq (z7G 0 (eD (.int 0)) (eOp zbs (eOpF pIx 0 (bOf (eD (.int 0)))) (bVar 1))) (dRet (eVar 2)))) z1C) (dSeq (z7G 0 (eD (.int 2)) (z07 z0Y [.val (eOp pAdd (z07 z0Y [.val (eOpF pIx 0 (bOf (eD (.int 2))))]) (bOf (eD (.int 7))))])) (dRet (eOp pMod (eOp pDiv (eOpF pIx 0 (bOf (eD (.int 2)))) (bOf (eD (.int 64)))) (bVar 1)))))
def z03:DF:=gOf [0] 3 z2J
theorem z08:z1G z03:=z0r
theorem sc__law_draw:FnScope ["pen","many","found"] ["pen","many"] (z02 z2x):=⟨rfl,rfl,rfl,by decide +kernel,rfl,by decide +kernel,by decide +kernel⟩
theorem z5M {K:W2} (F:Fun K "_law_draw" "_law_draw" z2x f fd) (hm:mg "_law_draw" = some (.ref f)) (hb:Binds K fd ["pen","many"] []) (T:Txt K mg) (k__law_next:KFn P w K mg base 1 "_law_next" 1 z0Y):KFn P w K mg base 2 "_law_draw" 2 z03 :=
 z1O (np:=[0]) (fb:=z2J) F hm hb sc__law_draw (fun c cdv A outer s H E hr hnp=>by
  have hq:=z23 hr
  refine (z04 ?_ ?_)
  ·refine (z37 ?_ ?_ ?_)
   ·exact (z24 (z2p hq) z4f (z0I z0M z1n (pv 0) (z0c z05) (fun _ _=>rfl)) (z0c z05) (z1o _))
   ·refine (z04 ?_ ?_)
    ·exact (@z0p _ _ _ _ _ _ ([0]) (2) _ hnp sc__law_draw.nd rfl (Or.inl rfl) (z1j z3i z3j (z0I z0M z1n (pv 0) (z0c z05) (fun _ _=>rfl)) (z0n (pv 1))) rfl (Or.inl rfl))
    refine (z04 ?_ ?_)
    ·exact (z7Y (pv 0) z05 (z1j z9P zbw (z0I z0M z1n (pv 0) (z0c z05) (fun _ _=>rfl)) (z0n (pv 1))) (by intro _; rfl) (by rfl) (by rfl) (by rfl))
    refine (z0g ?_)
    refine (z0D ?_)
    exact (z09 (pv 2))
   ·exact z1I
  refine (z04 ?_ ?_)
  ·exact (z7Y (pv 0) z05 (@z0l _ _ _ _ _ (1) _ _ _ _ _ k__law_next z2a (hr.mono (by decide)) rfl (z0b (z1j z0L z1e (@z0l _ _ _ _ _ (1) _ _ _ _ _ k__law_next z2a (hr.mono (by decide)) rfl (z0b (z0I z0M z1n (pv 0) (z0c z05) (fun _ _=>rfl)) z0t (by rfl)) rfl (by decide) (by rfl) (by rfl)) (z0c z05)) z0t (by rfl)) rfl (by decide) (by rfl) (by rfl)) (by intro _; rfl) (by rfl) (by rfl) (by rfl))
  refine (z0g ?_)
  refine (z0D ?_)
  exact (z1j z3i z3j (z1j zbu zda (z0I z0M z1n (pv 0) (z0c z05) (fun _ _=>rfl)) (z0c z05)) (z0n (pv 1)))) fun ss y h=>z0O h
def z1s:DS:=(dSeq (dAsg (eOp pAdd (eD (.int 1)) (bOf (z07 z03 [.io 0,.val (eD (.int 3))]))) (gNm [0] 1)) (dSeq (dAsg (eOp pAdd (eD (.int 1)) (bOf (z07 z03 [.io 0,.val (eD (.int 3))]))) (gNm [0] 2)) (dSeq (dIf (dTr (eOp pEq (z07 z03 [.io 0,.val (eD (.int 8))]) (bOf (eD (.int 0))))) (dAsg (eOp pIx (zbL [.tup [.int 4,.int 1],.tup [.int 1,.int 4],.tup [.int 4,.int 4],.tup [.int 4,.int 3],.tup [.int 1,.int 2],.tup [.int 2,.int 1]]) (bOf (z07 z03 [.io 0,.val (eD (.int 6))]))) (gTp 2 (z0u (gNm [0] 1) (z0u (gNm [0] 2) z1W)))) z1C) (dSeq (dIf (dTr (eOp pEq (eOpF pAdd 1 (bVar 2)) (bOf (eD (.int 2))))) (dAsg (eD (.int 2)) (gNm [0] 2)) z1C) (dRet (eTup (z0F (eVar 1) (z0F (eVar 2) aNil))))))))
def z0B:DF:=gOf [0] 3 z1s
theorem z2B:z1G z0B:=z0r
theorem sc__law_sizes_by:FnScope ["pen","high","wide"] ["pen"] (z02 z1l):=⟨rfl,rfl,rfl,by decide +kernel,rfl,by decide +kernel,by decide +kernel⟩
theorem z3m {K:W2} (F:Fun K "_law_sizes_by" "_law_sizes_by" z1l f fd) (hm:mg "_law_sizes_by" = some (.ref f)) (hb:Binds K fd ["pen"] []) (T:Txt K mg) (k__law_draw:KFn P w K mg base 2 "_law_draw" 2 z03):KFn P w K mg base 3 "_law_sizes_by" 1 z0B :=
 z1O (np:=[0]) (fb:=z1s) F hm hb sc__law_sizes_by (fun c cdv A outer s H E hr hnp=>by
  have hq:=z23 hr
  refine (@z04 _ _ _ _ _ _ ?_ ?_)
  ·exact (@z0p _ _ _ _ _ _ ([0]) (1) _ hnp sc__law_sizes_by.nd rfl (Or.inl rfl) (@z1j _ _ _ _ _ _ _ _ _ _ z0L z1e (@z05 _ _ _ _ _) (@z0c _ _ _ _ (@z0l _ _ _ _ _ (2) _ _ _ _ _ k__law_draw z08 (hr.mono (by decide)) rfl (@z17 _ _ _ _ _ _ (pv 0) (@z0b _ _ _ _ _ _ (@z05 _ _ _ _ _) (@z0t _ _) (by rfl)) (by rfl)) rfl (by decide) (by rfl) (by rfl)))) rfl (Or.inl rfl))
  refine (@z04 _ _ _ _ _ _ ?_ ?_)
  ·exact (@z0p _ _ _ _ _ _ ([0]) (2) _ hnp sc__law_sizes_by.nd rfl (Or.inl rfl) (@z1j _ _ _ _ _ _ _ _ _ _ z0L z1e (@z05 _ _ _ _ _) (@z0c _ _ _ _ (@z0l _ _ _ _ _ (2) _ _ _ _ _ k__law_draw z08 (hr.mono (by decide)) rfl (@z17 _ _ _ _ _ _ (pv 0) (@z0b _ _ _ _ _ _ (@z05 _ _ _ _ _) (@z0t _ _) (by rfl)) (by rfl)) rfl (by decide) (by rfl) (by rfl)))) rfl (Or.inl rfl))
  refine (@z04 _ _ _ _ _ _ ?_ ?_)
  ·refine (@z37 _ _ _ _ _ _ _ _ _ ?_ ?_ ?_)
   ·exact (@z24 _ _ _ _ _ _ _ _ _ _ (z2p hq) z4f (@z0l _ _ _ _ _ (2) _ _ _ _ _ k__law_draw z08 (hr.mono (by decide)) rfl (@z17 _ _ _ _ _ _ (pv 0) (@z0b _ _ _ _ _ _ (@z05 _ _ _ _ _) (@z0t _ _) (by rfl)) (by rfl)) rfl (by decide) (by rfl) (by rfl)) (@z0c _ _ _ _ (@z05 _ _ _ _ _)) (z1o _))
   ·refine (@z0g _ _ _ _ ?_)
    refine (@z80 _ _ _ _ _ _ _ ?_ ?_ (by rfl) (by rfl) (by rfl))
    ·exact (@se_ix _ _ _ _ _ _ _ _ _ z0M z1n (@z8c _ _ _ _ _ (by rfl) (by decide)) (@z0c _ _ _ _ (@z0l _ _ _ _ _ (2) _ _ _ _ _ k__law_draw z08 (hr.mono (by decide)) rfl (@z17 _ _ _ _ _ _ (pv 0) (@z0b _ _ _ _ _ _ (@z05 _ _ _ _ _) (@z0t _ _) (by rfl)) (by rfl)) rfl (by decide) (by rfl) (by rfl))) (fun _ _=>rfl))
    ·exact (@z8a _ _ _ _ _ _ _ rfl (@z2h _ _ _ _ _ _ (@z0U _ _ _ ([0]) (1) _ hnp sc__law_sizes_by.nd rfl (Or.inl rfl) (Or.inl rfl)) (@z2h _ _ _ _ _ _ (@z0U _ _ _ ([0]) (2) _ hnp sc__law_sizes_by.nd rfl (Or.inl rfl) (Or.inl rfl)) (@z6p _ _) (by rfl)) (by rfl)) (by rfl) (by rfl))
   ·exact z1I
  refine (@z04 _ _ _ _ _ _ ?_ ?_)
  ·refine (@z37 _ _ _ _ _ _ _ _ _ ?_ ?_ ?_)
   ·exact (@z24 _ _ _ _ _ _ _ _ _ _ (z2p hq) z4f (@z2o _ _ _ _ _ _ _ _ _ _ z0L z1e (pv 1) (@z0n _ _ _ _ (pv 2))) (@z0c _ _ _ _ (@z05 _ _ _ _ _)) (z1o _))
   ·refine (@z0g _ _ _ _ ?_)
    exact (@z0p _ _ _ _ _ _ ([0]) (2) _ hnp sc__law_sizes_by.nd rfl (Or.inl rfl) (@z05 _ _ _ _ _) rfl (Or.inl rfl))
   ·exact z1I
  refine (@z0g _ _ _ _ ?_)
  refine (@z0D _ _ _ _ _ ?_)
  exact (@z2M _ _ _ _ _ _ (@z0m _ _ _ _ _ _ (@z09 _ _ _ _ (pv 1)) (@z0m _ _ _ _ _ _ (@z09 _ _ _ _ (pv 2)) (@z1k _ _) (by rfl)) (by rfl)) (by decide))) fun ss y h=>z0O h
def z2H:DS:=(dSeq (dIf (dTr (eOpF pEq 3 (bOf (eD (.int 1))))) (dRet (eOpF pIx 1 (bOf (z07 z03 [.io 0,.val (eOpF pAdd 2 (bOf (eD (.int 1))))])))) z1C) (dSeq (dIf (dTr (eOpF pEq 3 (bOf (eD (.int 2))))) (dRet (eOpF pIx 1 (bOf (eOp pMod (eOpF pAdd 2 (bOf (eD (.int 1)))) (bOf (eC1 pLen (bVar 1))))))) z1C) (dSeq (dIf (dAnd (dTr (eOpF pEq 3 (bOf (eD (.int 3))))) (dTr (eOp pGt (z07 z03 [.io 0,.val (eD (.int 4))]) (bOf (eD (.int 0)))))) (dRet (eOpF pIx 1 (bVar 2))) z1C) (dRet (eOpF pIx 1 (bOf (z07 z03 [.io 0,.val (eC1 pLen (bVar 1))])))))))
def z0o:DF:=gOf [0] 4 z2H
theorem z3T:z1G z0o:=z0r
theorem z5w:FnScope ["pen","tiles","place","way"] ["pen","tiles","place","way"] (z02 z2v):=⟨rfl,rfl,rfl,by decide +kernel,rfl,by decide +kernel,by decide +kernel⟩
theorem z5K {K:W2} (F:Fun K "_law_pick" "_law_pick" z2v f fd) (hm:mg "_law_pick" = some (.ref f)) (hb:Binds K fd ["pen","tiles","place","way"] []) (T:Txt K mg) (k__law_draw:KFn P w K mg base 2 "_law_draw" 2 z03):KFn P w K mg base 3 "_law_pick" 4 z0o :=
 z1O (np:=[0]) (fb:=z2H) F hm hb z5w (fun c cdv A outer s H E hr hnp=>by
  have hq:=z23 hr
  refine (z04 ?_ ?_)
  ·refine (z37 ?_ ?_ ?_)
   ·exact (z36 (z2p hq) z4f (pv 3) (z0c z05) (z1o _))
   ·refine (z0g ?_)
    refine (z0D ?_)
    exact (z0I z0M z1n (pv 1) (z0c (@z0l _ _ _ _ _ (2) _ _ _ _ _ k__law_draw z08 (hr.mono (by decide)) rfl (z17 (pv 0) (z0b (z2o z0L z1e (pv 2) (z0c z05)) z0t (by rfl)) (by rfl)) rfl (by decide) (by rfl) (by rfl))) (fun _ _=>rfl))
   ·exact z1I
  refine (z04 ?_ ?_)
  ·refine (z37 ?_ ?_ ?_)
   ·exact (z36 (z2p hq) z4f (pv 3) (z0c z05) (z1o _))
   ·refine (z0g ?_)
    refine (z0D ?_)
    exact (z0I z0M z1n (pv 1) (z0c (z1j z3i z3j (z2o z0L z1e (pv 2) (z0c z05)) (z0c (z3h rfl T.z_len (z0n (pv 1)) (by rfl))))) (fun _ _=>rfl))
   ·exact z1I
  refine (z04 ?_ ?_)
  ·refine (z37 ?_ ?_ ?_)
   ·exact (z7X (z6S (z36 (z2p hq) z4f (pv 3) (z0c z05) (z1o _)) (z4J (z24 zd1 z8K (@z0l _ _ _ _ _ (2) _ _ _ _ _ k__law_draw z08 (hr.mono (by decide)) rfl (z17 (pv 0) (z0b z05 z0t (by rfl)) (by rfl)) rfl (by decide) (by rfl) (by rfl)) (z0c z05) (z1o _)))))
   ·refine (z0g ?_)
    refine (z0D ?_)
    exact (z0I z0M z1n (pv 1) (z0n (pv 2)) (fun _ _=>rfl))
   ·exact z1I
  refine (z0g ?_)
  refine (z0D ?_)
  exact (z0I z0M z1n (pv 1) (z0c (@z0l _ _ _ _ _ (2) _ _ _ _ _ k__law_draw z08 (hr.mono (by decide)) rfl (z17 (pv 0) (z0b (z3h rfl T.z_len (z0n (pv 1)) (by rfl)) z0t (by rfl)) (by rfl)) rfl (by decide) (by rfl) (by rfl))) (fun _ _=>rfl))) fun ss y h=>z0O h
def z1E:DS:=(dSeq (dAsg (z07 z0B [.io 0]) (gTp 2 (z0u (gNm [0] 2) (z0u (gNm [0] 3) z1W)))) (dSeq (dAsg (eOp pAdd (eD (.int 1)) (bOf (z07 z03 [.io 0,.val (eVar 1)]))) (gNm [0] 4)) (dSeq (dAsg (z07 z03 [.io 0,.val (eD (.int 26))]) (gNm [0] 5)) (dSeq (dAsg (eD (.str [97,98,99,100,101,102,103,104,105,106,107,108,109,110,111,112,113,114,115,116,117,118,119,120,121,122])) (gNm [0] 6)) (dSeq (dAsg (eC1 z2y (bOf (z1t [13] (z0N (eVar 4)) (gNm [0] 13) dYes (eOpF pIx 6 (bOf (eOp pMod (eOpF pAdd 5 (bOf (eOp z2n (eD (.int 5)) (bVar 13)))) (bOf (eD (.int 26))))))))) (gNm [0] 7)) (dSeq (dAsg (z07 z03 [.io 0,.val (eD (.int 5))]) (gNm [0] 8)) (dSeq (dAsg (eLst aNil) (gNm [0] 9)) (dSeq (dFor (z0N (eVar 4)) (gNm [0] 10) (dSeq (dAsg (eLst aNil) (gNm [0] 11)) (dSeq (dFor (z0N (eVar 2)) (gNm [0] 12) (z0W 11 (eC1 (z1m []) (bOf (z1t [14] (z0N (eVar 3)) (gNm [0] 14) dYes (z07 z0o [.io 0,.val (eVar 7),.val (eVar 10),.val (eVar 8)])))))) (z0W 9 (eTup (z0F (eOpF pIx 7 (bVar 10)) (z0F (eC1 z1u (bVar 11)) aNil))))))) (dRet (eTup (z0F (eVar 2) (z0F (eVar 3) (z0F (eC1 z1u (bVar 9)) aNil)))))))))))))
def z0s:DF:=gOf [0] 15 z1E
theorem z2V:z1G z0s:=z0r
theorem sc__law_rule_by:FnScope ["pen","most","high","wide","size","first","letters","tiles","way","blocks","place","block","row","k","column"] ["pen","most"] (z02 z1z):=⟨rfl,rfl,rfl,by decide +kernel,rfl,by decide +kernel,by decide +kernel⟩
theorem z3M {K:W2} (F:Fun K "_law_rule_by" "_law_rule_by" z1z f fd) (hm:mg "_law_rule_by" = some (.ref f)) (hb:Binds K fd ["pen","most"] []) (T:Txt K mg) (k__law_draw:KFn P w K mg base 2 "_law_draw" 2 z03) (k__law_sizes_by:KFn P w K mg base 3 "_law_sizes_by" 1 z0B) (k__law_pick:KFn P w K mg base 3 "_law_pick" 4 z0o):KFn P w K mg base 4 "_law_rule_by" 2 z0s :=
 z1O (np:=[0]) (fb:=z1E) F hm hb sc__law_rule_by (fun c cdv A outer s H E hr hnp=>by
  have hq:=z23 hr
  refine (@z04 _ _ _ _ _ _ ?_ ?_)
  ·refine (@z80 _ _ _ _ _ _ _ ?_ ?_ (by rfl) (by rfl) (by rfl))
   ·exact (@z0l _ _ _ _ _ (3) _ _ _ _ _ k__law_sizes_by z2B (hr.mono (by decide)) rfl (@z17 _ _ _ _ _ _ (pv 0) (@z0t _ _) (by rfl)) rfl (by decide) (by rfl) (by rfl))
   ·exact (@z8a _ _ _ _ _ _ _ rfl (@z2h _ _ _ _ _ _ (@z0U _ _ _ ([0]) (2) _ hnp sc__law_rule_by.nd rfl (by first | exact Or.inl rfl | exact Or.inr rfl) (Or.inl rfl)) (@z2h _ _ _ _ _ _ (@z0U _ _ _ ([0]) (3) _ hnp sc__law_rule_by.nd rfl (by first | exact Or.inl rfl | exact Or.inr rfl) (Or.inl rfl)) (@z6p _ _) (by rfl)) (by rfl)) (by rfl) (by rfl))
  refine (@z04 _ _ _ _ _ _ ?_ ?_)
  ·exact (@z0p _ _ _ _ _ _ ([0]) (4) _ hnp sc__law_rule_by.nd rfl (by first | exact Or.inl rfl | exact Or.inr rfl) (@z1j _ _ _ _ _ _ _ _ _ _ z0L z1e (@z05 _ _ _ _ _) (@z0c _ _ _ _ (@z0l _ _ _ _ _ (2) _ _ _ _ _ k__law_draw z08 (hr.mono (by decide)) rfl (@z17 _ _ _ _ _ _ (pv 0) (@z0b _ _ _ _ _ _ (@z09 _ _ _ _ (pv 1)) (@z0t _ _) (by rfl)) (by rfl)) rfl (by decide) (by rfl) (by rfl)))) rfl (Or.inl rfl))
  refine (@z04 _ _ _ _ _ _ ?_ ?_)
  ·exact (@z0p _ _ _ _ _ _ ([0]) (5) _ hnp sc__law_rule_by.nd rfl (by first | exact Or.inl rfl | exact Or.inr rfl) (@z0l _ _ _ _ _ (2) _ _ _ _ _ k__law_draw z08 (hr.mono (by decide)) rfl (@z17 _ _ _ _ _ _ (pv 0) (@z0b _ _ _ _ _ _ (@z05 _ _ _ _ _) (@z0t _ _) (by rfl)) (by rfl)) rfl (by decide) (by rfl) (by rfl)) rfl (Or.inl rfl))
  refine (@z04 _ _ _ _ _ _ ?_ ?_)
  ·exact (@z0p _ _ _ _ _ _ ([0]) (6) _ hnp sc__law_rule_by.nd rfl (by first | exact Or.inl rfl | exact Or.inr rfl) (@z8b _ _ _ _ _ [97,98,99,100,101,102,103,104,105,106,107,108,109,110,111,112,113,114,115,116,117,118,119,120,121,122] (by decide +kernel)) rfl (Or.inl rfl))
  refine (@z04 _ _ _ _ _ _ ?_ ?_)
  ·exact (@z0p _ _ _ _ _ _ ([0]) (7) _ hnp sc__law_rule_by.nd rfl (by first | exact Or.inl rfl | exact Or.inr rfl) (@z5t _ _ _ _ _ _ rfl T.z_sorted (@z0c _ _ _ _ (@z2t _ _ ([13]) _ _ _ _ _ _ _ _ _ _ rfl (@z15 _ _ _ rfl rfl) (@z1K _ _ _ _ _ _ _ rfl T.z_range (@z09 _ _ _ _ (pv 4)) (by rfl)) (fun l s0 H0 ex=>(@z13 _ _ _ _ ([0]) (13) _ hnp sc__law_rule_by.nd rfl (by first | exact Or.inl rfl | exact Or.inr rfl) (by first | exact Or.inl rfl | exact Or.inr rfl) (by decide))) (fun l s0 H0 ex=>(@z1P _ _)) (fun l s0 H0 ex=>(@z0I _ _ _ _ _ _ _ _ _ z0M z1n (pv 6) (@z0c _ _ _ _ (@z1j _ _ _ _ _ _ _ _ _ _ z3i z3j (@z2o _ _ _ _ _ _ _ _ _ _ z0L z1e (pv 5) (@z0c _ _ _ _ (@z1j _ _ _ _ _ _ _ _ _ _ z4W z4Z (@z05 _ _ _ _ _) (@z0n _ _ _ _ (pv 13))))) (@z0c _ _ _ _ (@z05 _ _ _ _ _)))) (fun _ _=>rfl))) (z2S hnp rfl) (by intro _; rfl))) (by rfl)) rfl (Or.inl rfl))
  refine (@z04 _ _ _ _ _ _ ?_ ?_)
  ·exact (@z0p _ _ _ _ _ _ ([0]) (8) _ hnp sc__law_rule_by.nd rfl (by first | exact Or.inl rfl | exact Or.inr rfl) (@z0l _ _ _ _ _ (2) _ _ _ _ _ k__law_draw z08 (hr.mono (by decide)) rfl (@z17 _ _ _ _ _ _ (pv 0) (@z0b _ _ _ _ _ _ (@z05 _ _ _ _ _) (@z0t _ _) (by rfl)) (by rfl)) rfl (by decide) (by rfl) (by rfl)) rfl (Or.inl rfl))
  refine (@z04 _ _ _ _ _ _ ?_ ?_)
  ·exact (@z0p _ _ _ _ _ _ ([0]) (9) _ hnp sc__law_rule_by.nd rfl (by first | exact Or.inl rfl | exact Or.inr rfl) (@z3G _ _ _ _ _ (@z1k _ _) (by decide)) rfl (Or.inl rfl))
  refine (@z04 _ _ _ _ _ _ ?_ ?_)
  ·refine (@z2K _ _ _ _ _ _ _ _ _ PassesOwn.never rfl ?_ ?_ ?_ (by intro _; rfl))
   ·exact (@z1K _ _ _ _ _ _ _ rfl T.z_range (@z09 _ _ _ _ (pv 4)) (by rfl))
   ·exact (@z0U _ _ _ ([0]) (10) _ hnp sc__law_rule_by.nd rfl (by first | exact Or.inl rfl | exact Or.inr rfl) (Or.inl rfl))
   ·refine (@z04 _ _ _ _ _ _ ?_ ?_)
    ·exact (@z0p _ _ _ _ _ _ ([0]) (11) _ hnp sc__law_rule_by.nd rfl (by first | exact Or.inl rfl | exact Or.inr rfl) (@z3G _ _ _ _ _ (@z1k _ _) (by decide)) rfl (Or.inl rfl))
    refine (@z04 _ _ _ _ _ _ ?_ ?_)
    ·refine (@z2K _ _ _ _ _ _ _ _ _ PassesOwn.never rfl ?_ ?_ ?_ (by intro _; rfl))
     ·exact (@z1K _ _ _ _ _ _ _ rfl T.z_range (@z09 _ _ _ _ (pv 2)) (by rfl))
     ·exact (@z0U _ _ _ ([0]) (12) _ hnp sc__law_rule_by.nd rfl (by first | exact Or.inl rfl | exact Or.inr rfl) (Or.inl rfl))
     ·refine (@z0g _ _ _ _ ?_)
      exact (@z38 _ _ _ _ _ _ _ _ _ (pv 11) (@z3H _ _ _ _ _ _ _ _ _ [] (@z0c _ _ _ _ (@z2t _ _ ([14]) _ _ _ _ _ _ _ _ _ _ rfl (@z15 _ _ _ rfl rfl) (@z1K _ _ _ _ _ _ _ rfl T.z_range (@z09 _ _ _ _ (pv 3)) (by rfl)) (fun l s0 H0 ex=>(@z13 _ _ _ _ ([0]) (14) _ hnp sc__law_rule_by.nd rfl (by first | exact Or.inl rfl | exact Or.inr rfl) (by first | exact Or.inl rfl | exact Or.inr rfl) (by decide))) (fun l s0 H0 ex=>(@z1P _ _)) (fun l s0 H0 ex=>(@z0l _ _ _ _ _ (3) _ _ _ _ _ k__law_pick z3T (hr.mono (by decide)) rfl (@z17 _ _ _ _ _ _ (pv 0) (@z0b _ _ _ _ _ _ (@z09 _ _ _ _ (pv 7)) (@z0b _ _ _ _ _ _ (@z09 _ _ _ _ (pv 10)) (@z0b _ _ _ _ _ _ (@z09 _ _ _ _ (pv 8)) (@z0t _ _) (by rfl)) (by rfl)) (by rfl)) (by rfl)) rfl (by decide) (by rfl) (by rfl))) (z2S hnp rfl) (by intro _; rfl))) (by decide +kernel) (by rfl) (by rfl) (by rfl) (by rfl)) (by rfl) (by rfl) (by rfl) (by rfl) (by rfl))
    refine (@z0g _ _ _ _ ?_)
    exact (@z38 _ _ _ _ _ _ _ _ _ (pv 9) (@z2M _ _ _ _ _ _ (@z0m _ _ _ _ _ _ (@z0I _ _ _ _ _ _ _ _ _ z0M z1n (pv 7) (@z0n _ _ _ _ (pv 10)) (fun _ _=>rfl)) (@z0m _ _ _ _ _ _ (@z4N _ _ _ _ _ _ rfl T.z_tuple (@z0n _ _ _ _ (pv 11)) (by rfl)) (@z1k _ _) (by rfl)) (by rfl)) (by decide)) (by rfl) (by rfl) (by rfl) (by rfl) (by rfl))
  refine (@z0g _ _ _ _ ?_)
  refine (@z0D _ _ _ _ _ ?_)
  exact (@z2M _ _ _ _ _ _ (@z0m _ _ _ _ _ _ (@z09 _ _ _ _ (pv 2)) (@z0m _ _ _ _ _ _ (@z09 _ _ _ _ (pv 3)) (@z0m _ _ _ _ _ _ (@z4N _ _ _ _ _ _ rfl T.z_tuple (@z0n _ _ _ _ (pv 9)) (by rfl)) (@z1k _ _) (by rfl)) (by rfl)) (by rfl)) (by decide))) fun ss y h=>z0O h
def z2G:DS:=(dSeq (dAsg (eOp pAdd (eD (.int 2)) (bOf (z07 z03 [.io 0,.val (eD (.int 5))]))) (gNm [0] 1)) (dSeq (dAsg (eSl (eD (.str [97,98,99,100,101,102])) z5N (z3b (eVar 1))) (gNm [0] 2)) (dSeq (dAsg (eLst aNil) (gNm [0] 3)) (dSeq (dFor (z0N (eVar 1)) (gNm [0] 4) (dSeq (dAsg (eOpF pIx 2 (bOf (eOp pMod (eOpF pAdd 4 (bOf (eD (.int 1)))) (bVar 1)))) (gNm [0] 5)) (dSeq (dIf (dAnd (dTr (eOpF pEq 4 (bOf (eD (.int 0))))) (dTr (eOp pEq (z07 z03 [.io 0,.val (eD (.int 2))]) (bOf (eD (.int 0)))))) (dAsg (eOpF pAdd 5 (bOf (eOpF pIx 2 (bOf (z07 z03 [.io 0,.val (eVar 1)]))))) (gNm [0] 5)) z1C) (z0W 3 (eTup (z0F (eOpF pIx 2 (bVar 4)) (z0F (eTup (z0F (eSl (eOpF pAdd 5 (bVar 5)) z5N (z3b (eD (.int 2)))) aNil)) aNil))))))) (dRet (eTup (z0F (eD (.int 1)) (z0F (eD (.int 2)) (z0F (eC1 z1u (bVar 3)) aNil)))))))))
def z0X:DF:=gOf [0] 6 z2G
theorem z3S:z1G z0X:=z0r
theorem sc__law_ring:FnScope ["pen","size","tiles","blocks","place","other"] ["pen"] (z02 z2u):=⟨rfl,rfl,rfl,by decide +kernel,rfl,by decide +kernel,by decide +kernel⟩
theorem z5J {K:W2} (F:Fun K "_law_ring" "_law_ring" z2u f fd) (hm:mg "_law_ring" = some (.ref f)) (hb:Binds K fd ["pen"] []) (T:Txt K mg) (k__law_draw:KFn P w K mg base 2 "_law_draw" 2 z03):KFn P w K mg base 3 "_law_ring" 1 z0X :=
 z1O (np:=[0]) (fb:=z2G) F hm hb sc__law_ring (fun c cdv A outer s H E hr hnp=>by
  have hq:=z23 hr
  refine (z04 ?_ ?_)
  ·exact (@z0p _ _ _ _ _ _ ([0]) (1) _ hnp sc__law_ring.nd rfl (Or.inl rfl) (z1j z0L z1e z05 (z0c (@z0l _ _ _ _ _ (2) _ _ _ _ _ k__law_draw z08 (hr.mono (by decide)) rfl (z17 (pv 0) (z0b z05 z0t (by rfl)) (by rfl)) rfl (by decide) (by rfl) (by rfl)))) rfl (Or.inl rfl))
  refine (z04 ?_ ?_)
  ·exact (@z0p _ _ _ _ _ _ ([0]) (2) _ hnp sc__law_ring.nd rfl (Or.inl rfl) (zch (z8b [97,98,99,100,101,102] (by decide +kernel)) z85 (z4L (z09 (pv 1)))) rfl (Or.inl rfl))
  refine (z04 ?_ ?_)
  ·exact (@z0p _ _ _ _ _ _ ([0]) (3) _ hnp sc__law_ring.nd rfl (Or.inl rfl) (z3G z1k (by decide)) rfl (Or.inl rfl))
  refine (z04 ?_ ?_)
  ·refine (z2K PassesOwn.never rfl ?_ ?_ ?_ (by intro _; rfl))
   ·exact (z1K rfl T.z_range (z09 (pv 1)) (by rfl))
   ·exact (@z0U _ _ _ ([0]) (4) _ hnp sc__law_ring.nd rfl (Or.inl rfl) (Or.inl rfl))
   ·refine (z04 ?_ ?_)
    ·exact (@z0p _ _ _ _ _ _ ([0]) (5) _ hnp sc__law_ring.nd rfl (Or.inl rfl) (z0I z0M z1n (pv 2) (z0c (z1j z3i z3j (z2o z0L z1e (pv 4) (z0c z05)) (z0n (pv 1)))) (fun _ _=>rfl)) rfl (Or.inl rfl))
    refine (z04 ?_ ?_)
    ·refine (z37 ?_ ?_ ?_)
     ·exact (z7X (z6S (z36 (z2p hq) z4f (pv 4) (z0c z05) (z1o _)) (z4J (z24 (z2p hq) z4f (@z0l _ _ _ _ _ (2) _ _ _ _ _ k__law_draw z08 (hr.mono (by decide)) rfl (z17 (pv 0) (z0b z05 z0t (by rfl)) (by rfl)) rfl (by decide) (by rfl) (by rfl)) (z0c z05) (z1o _)))))
     ·refine (z0g ?_)
      exact (@z0p _ _ _ _ _ _ ([0]) (5) _ hnp sc__law_ring.nd rfl (Or.inl rfl) (z2o z0L z1e (pv 5) (z0c (z0I z0M z1n (pv 2) (z0c (@z0l _ _ _ _ _ (2) _ _ _ _ _ k__law_draw z08 (hr.mono (by decide)) rfl (z17 (pv 0) (z0b (z09 (pv 1)) z0t (by rfl)) (by rfl)) rfl (by decide) (by rfl) (by rfl))) (fun _ _=>rfl)))) rfl (Or.inl rfl))
     ·exact z1I
    refine (z0g ?_)
    exact (z38 (pv 3) (z2M (z0m (z0I z0M z1n (pv 2) (z0n (pv 4)) (fun _ _=>rfl)) (z0m (z2M (z0m (zch (z2o z0L z1e (pv 5) (z0n (pv 5))) z85 (z4L z05)) z1k (by rfl)) (by decide)) z1k (by rfl)) (by rfl)) (by decide)) (by rfl) (by rfl) (by rfl) (by rfl) (by rfl))
  refine (z0g ?_)
  refine (z0D ?_)
  exact (z2M (z0m z05 (z0m z05 (z0m (z4N rfl T.z_tuple (z0n (pv 3)) (by rfl)) z1k (by rfl)) (by rfl)) (by rfl)) (by decide))) fun ss y h=>z0O h
def z1b:DS:=(dSeq (dAsg (eC1 z1B (bOf (eOpF pIx 0 (bOf (eD (.int 2)))))) (gNm [] 2)) (dSeq (dAsg z65 (gNm [] 3)) (dSeq (dFor (iSq (eVar 1)) (gNm [] 4) (dFor (iSq (eC1 (z1m []) (bOf (eOpF pIxX 2 (bVar 4))))) (gNm [] 5) (z43 3 (eVar 5) (eD (.bl true))))) (dRet (eC1 z2y (bOf (eC1 z4v (bVar 3))))))))
def z0a:DF:=gOf [] 6 z1b
theorem z29:z1G z0a:=z0r
theorem sc__law_next_tiles:FnScope ["rule","some","blocks","found","tile","sign"] ["rule","some"] (z02 z18):=⟨rfl,rfl,rfl,by decide +kernel,rfl,by decide +kernel,by decide +kernel⟩
theorem z2Q {K:W2} (F:Fun K "_law_next_tiles" "_law_next_tiles" z18 f fd) (hm:mg "_law_next_tiles" = some (.ref f)) (hb:Binds K fd ["rule","some"] []) (T:Txt K mg):KFn P w K mg base 1 "_law_next_tiles" 2 z0a :=
 z1O (np:=[]) (fb:=z1b) F hm hb sc__law_next_tiles (fun c cdv A outer s H E hr hnp=>by
  have hq:=z23 hr
  refine (z04 ?_ ?_)
  ·exact (@z0p _ _ _ _ _ _ ([]) (2) _ hnp sc__law_next_tiles.nd rfl (Or.inl rfl) (z5u rfl rfl T.z_dict (z0c (z0I z0M z1n (pv 0) (z0c z05) (fun _ _=>rfl))) (by rfl)) rfl (Or.inl rfl))
  refine (z04 ?_ ?_)
  ·exact (@z0p _ _ _ _ _ _ ([]) (3) _ hnp sc__law_next_tiles.nd rfl (Or.inl rfl) z6Y rfl (Or.inl rfl))
  refine (z04 ?_ ?_)
  ·refine (z2K PassesOwn.never rfl ?_ ?_ ?_ (by intro _; rfl))
   ·exact (z3F (z09 (pv 1)))
   ·exact (@z0U _ _ _ ([]) (4) _ hnp sc__law_next_tiles.nd rfl (Or.inl rfl) (Or.inl rfl))
   ·refine (z0g ?_)
    refine (z2K PassesOwn.never rfl ?_ ?_ ?_ (by intro _; rfl))
    ·exact (z3F (z3H [] (z0c (z0I (ix_X hq) z8I (pv 2) (z0n (pv 4)) (fun _ _=>rfl))) (by decide +kernel) (by rfl) (by rfl) (by rfl) (by rfl)))
    ·exact (@z0U _ _ _ ([]) (5) _ hnp sc__law_next_tiles.nd rfl (Or.inl rfl) (Or.inl rfl))
    ·refine (z0g ?_)
     exact (z7Z hq (pv 3) (z09 (pv 5)) z8f (by rfl))
  refine (z0g ?_)
  refine (z0D ?_)
  exact (z5t rfl T.z_sorted (z0c (z6X rfl rfl T.z_list (z0n (pv 3)))) (by rfl))) fun ss y h=>z0O h
def z3f:DS:=(dSeq (dAsg (z1t [4] (iSq (eOpF pIx 0 (bOf (eD (.int 2))))) (gNm [] 4) dYes (eOpF pIx 4 (bOf (eD (.int 0))))) (gNm [] 1)) (dSeq (dAsg (z1t [5] (iSq (eVar 1)) (gNm [] 5) dYes (eLst (z0F (eVar 5) aNil))) (gNm [] 2)) (dSeq (dFor (z2j (eD (.int 1)) (eOp pAdd (eOp z2n (eC1 pLen (bVar 1)) (bOf (eC1 pLen (bVar 1)))) (bOf (eD (.int 2))))) (gNm [] 3) (dSeq (dAsg (z1t [6] (iSq (eVar 2)) (gNm [] 6) dYes (z07 z0a [.val (eVar 0),.val (eVar 6)])) (gNm [] 2)) (dIf (dTr (eC1 pAll (bOf (z1t [6] (iSq (eVar 2)) (gNm [] 6) dYes (eOpF pEq 6 (bVar 1)))))) (dRet (eVar 3)) z1C))) (dRet (eD .non)))))
def z12:DF:=gOf [] 7 z3f
theorem z4h:z1G z12:=z0r
theorem sc__law_due:FnScope ["rule","every","now","often","pair","tile","some"] ["rule"] (z02 z3a):=⟨rfl,rfl,rfl,by decide +kernel,rfl,by decide +kernel,by decide +kernel⟩
theorem z6x {K:W2} (F:Fun K "_law_due" "_law_due" z3a f fd) (hm:mg "_law_due" = some (.ref f)) (hb:Binds K fd ["rule"] []) (T:Txt K mg) (k__law_next_tiles:KFn P w K mg base 1 "_law_next_tiles" 2 z0a):KFn P w K mg base 2 "_law_due" 1 z12 :=
 z1O (np:=[]) (fb:=z3f) F hm hb sc__law_due (fun c cdv A outer s H E hr hnp=>by
  have hq:=z23 hr
  refine (z04 ?_ ?_)
  ·exact (@z0p _ _ _ _ _ _ ([]) (1) _ hnp sc__law_due.nd rfl (by first | exact Or.inl rfl | exact Or.inr rfl) (@z2t _ _ ([4]) _ _ _ _ _ _ _ _ _ _ rfl (z15 rfl rfl) (z3F (z0I z0M z1n (pv 0) (z0c z05) (fun _ _=>rfl))) (fun l s0 H0 ex=>(@z13 _ _ _ _ ([]) (4) _ hnp sc__law_due.nd rfl (by first | exact Or.inl rfl | exact Or.inr rfl) (by first | exact Or.inl rfl | exact Or.inr rfl) (by decide))) (fun l s0 H0 ex=>z1P) (fun l s0 H0 ex=>(z0I z0M z1n (pv 4) (z0c z05) (fun _ _=>rfl))) (z2S hnp rfl) (by intro _; rfl)) rfl (Or.inl rfl))
  refine (z04 ?_ ?_)
  ·exact (@z4n _ _ ([5]) _ _ _ _ _ _ _ _ _ _ ([]) (2) _ _ _ hnp rfl (z15 rfl rfl) sc__law_due.nd rfl rfl (z3F (z09 (pv 1))) (fun l s0 H0 ex=>(@z13 _ _ _ _ ([]) (5) _ hnp sc__law_due.nd rfl (by first | exact Or.inl rfl | exact Or.inr rfl) (by first | exact Or.inl rfl | exact Or.inr rfl) (by decide))) (fun l s0 H0 ex=>z1P) (fun l s0 H0 ex=>(z3G (z0m (z09 (pv 5)) z1k (by rfl)) (by decide))) (z2S hnp rfl) (by rfl) (by intro _; rfl))
  refine (z04 ?_ ?_)
  ·refine (z2K PassesOwn.never rfl ?_ ?_ ?_ (by intro _; rfl))
   ·exact (z7p rfl T.z_range z05 (z1j z0L z1e (z1j z4W z4Z (z3h rfl T.z_len (z0n (pv 1)) (by rfl)) (z0c (z3h rfl T.z_len (z0n (pv 1)) (by rfl)))) (z0c z05)) (by rfl) (by rfl) (by rfl))
   ·exact (@z0U _ _ _ ([]) (3) _ hnp sc__law_due.nd rfl (by first | exact Or.inl rfl | exact Or.inr rfl) (Or.inl rfl))
   ·refine (z04 ?_ ?_)
    ·exact (@z4n _ _ ([6]) _ _ _ _ _ _ _ _ _ _ ([]) (2) _ _ _ hnp rfl (z15 rfl rfl) sc__law_due.nd rfl rfl (z3F (z09 (pv 2))) (fun l s0 H0 ex=>(@z13 _ _ _ _ ([]) (6) _ hnp sc__law_due.nd rfl (by first | exact Or.inl rfl | exact Or.inr rfl) (by first | exact Or.inl rfl | exact Or.inr rfl) (by decide))) (fun l s0 H0 ex=>z1P) (fun l s0 H0 ex=>(@z0l _ _ _ _ _ (1) _ _ _ _ _ k__law_next_tiles z29 (hr.mono (by decide)) rfl (z0b (z09 (pv 0)) (z0b (z09 (pv 6)) z0t (by rfl)) (by rfl)) rfl (by decide) (by rfl) (by rfl))) (z2S hnp rfl) (by rfl) (by intro _; rfl))
    refine (z0g ?_)
    refine (z37 ?_ ?_ ?_)
    ·exact (zaq (zcl rfl rfl T.z_all (z0c (@z2t _ _ ([6]) _ _ _ _ _ _ _ _ _ _ rfl (z15 rfl rfl) (z3F (z09 (pv 2))) (fun l s0 H0 ex=>(@z13 _ _ _ _ ([]) (6) _ hnp sc__law_due.nd rfl (by first | exact Or.inl rfl | exact Or.inr rfl) (by first | exact Or.inl rfl | exact Or.inr rfl) (by decide))) (fun l s0 H0 ex=>z1P) (fun l s0 H0 ex=>(z8e (z2p hq) z4f (pv 6) (z0n (pv 1)) (z1o _))) (z2S hnp rfl) (by intro _; rfl))) (by rfl)) (by intro _; rfl))
    ·refine (z0g ?_)
     refine (z0D ?_)
     exact (z09 (pv 3))
    ·exact z1I
  refine (z0g ?_)
  refine (z0D ?_)
  exact z4r) fun ss y h=>z0O h
def z2e:DS:=(dRet (z1t [1,2] (iSq (eOpF pIx 0 (bOf (eD (.int 2))))) (gTp 2 (z0u (gNm [] 1) (z0u (gNm [] 2) z1W))) dYes (eVar 1)))
def z10:DF:=gOf [] 3 z2e
theorem z3o:z1G z10:=z0r
theorem sc_rule_tiles:FnScope ["rule","tile","block"] ["rule"] (z02 z26):=⟨rfl,rfl,rfl,by decide +kernel,rfl,by decide +kernel,by decide +kernel⟩
theorem z4X {K:W2} (F:Fun K "rule_tiles" "rule_tiles" z26 f fd) (hm:mg "rule_tiles" = some (.ref f)) (hb:Binds K fd ["rule"] []) (T:Txt K mg):KFn P w K mg base 1 "rule_tiles" 1 z10 :=
 z1O (np:=[]) (fb:=z2e) F hm hb sc_rule_tiles (fun c cdv A outer s H E hr hnp=>by
  have hq:=z23 hr
  refine (z0g ?_)
  refine (z0D ?_)
  exact (@z2t _ _ ([1,2]) _ _ _ _ _ _ _ _ _ _ rfl (z15 rfl rfl) (z3F (z0I z0M z1n (pv 0) (z0c z05) (fun _ _=>rfl))) (fun l s0 H0 ex=>(z89 rfl (z2L (@z13 _ _ _ _ ([]) (1) _ hnp sc_rule_tiles.nd rfl (by first | exact Or.inl rfl | exact Or.inr rfl) (by first | exact Or.inl rfl | exact Or.inr rfl) (by decide)) (z2L (@z13 _ _ _ _ ([]) (2) _ hnp sc_rule_tiles.nd rfl (by first | exact Or.inl rfl | exact Or.inr rfl) (by first | exact Or.inl rfl | exact Or.inr rfl) (by decide)) z6W (by rfl)) (by rfl)) (by rfl) (by rfl))) (fun l s0 H0 ex=>z1P) (fun l s0 H0 ex=>(z09 (pv 1))) (z2S hnp rfl) (by intro _; rfl))) fun ss y h=>z0O h
def z1Y:DS:=(dRet (eC1 (z1m []) (bOf (eC1 z7w (bOf (eC1 (z1m []) (bOf (z1t [2] (iSq (eVar 1)) (gNm [] 2) dYes (eOpF pIxX 0 (bVar 2))))))))))
def z0i:DF:=gOf [] 3 z1Y
theorem z1N:z1G z0i:=z0r
theorem sc_tiles_grown:FnScope ["text_of","tiles","tile"] ["text_of","tiles"] (z02 z1R):=⟨rfl,rfl,rfl,by decide +kernel,rfl,by decide +kernel,by decide +kernel⟩
theorem z4c {K:W2} (F:Fun K "tiles_grown" "tiles_grown" z1R f fd) (hm:mg "tiles_grown" = some (.ref f)) (hb:Binds K fd ["text_of","tiles"] []) (T:Txt K mg):KFn P w K mg base 1 "tiles_grown" 2 z0i :=
 z1O (np:=[]) (fb:=z1Y) F hm hb sc_tiles_grown (fun c cdv A outer s H E hr hnp=>by
  have hq:=z23 hr
  refine (z0g ?_)
  refine (z0D ?_)
  exact (z3H [] (z0c (zb5 rfl rfl T.z_sorted rfl T.z_set (z0c (z3H [] (z0c (@z2t _ _ ([2]) _ _ _ _ _ _ _ _ _ _ rfl (z15 rfl rfl) (z3F (z09 (pv 1))) (fun l s0 H0 ex=>(@z13 _ _ _ _ ([]) (2) _ hnp sc_tiles_grown.nd rfl (by first | exact Or.inl rfl | exact Or.inr rfl) (by first | exact Or.inl rfl | exact Or.inr rfl) (by decide))) (fun l s0 H0 ex=>z1P) (fun l s0 H0 ex=>(z0I (ix_X hq) z8I (pv 0) (z0n (pv 2)) (fun _ _=>rfl))) (z2S hnp rfl) (by intro _; rfl))) (by decide +kernel) (by rfl) (by rfl) (by rfl) (by rfl))))) (by decide +kernel) (by rfl) (by rfl) (by rfl) (by rfl))) fun ss y h=>z0O h
theorem sc_walked:FnScope ["first","step","number_of","here"] ["first","step"] (z02 z4Q):=⟨rfl,rfl,rfl,by decide +kernel,rfl,by decide +kernel,by decide +kernel⟩
theorem z8E {K:W2} (F:Fun K "walked" "walked" z4Q f fd) (hm:mg "walked" = some (.ref f)) (hb:Binds K fd ["first","step"] []) (T:Txt K mg):zbU P w K mg base 2 "walked" 4 zam :=
 ⟨f,fd,_,_,_,["first","step","number_of","here"],rfl,hm,F.kp,hb,rfl,zdu F sc_walked rfl (fun c cdv A outer s H E fa Fn hr hnp hclo=>by
  have hq:=z23 hr
  refine (z04 ?_ ?_)
  ·exact (@z0p _ _ _ _ _ _ ([]) (2) _ hnp sc_walked.nd rfl (Or.inl rfl) z6Y rfl (Or.inl rfl))
  refine (z04 ?_ ?_)
  ·exact (@z0p _ _ _ _ _ _ ([]) (3) _ hnp sc_walked.nd rfl (Or.inl rfl) (z09 (pv 0)) rfl (Or.inl rfl))
  refine (z04 ?_ ?_)
  ·refine (z9A 1000000 (fun h1 h2=>z9K PassesOwn.never h1 h2) ?_ ?_)
   ·exact (z24 (z6w hq) (z9R true) (z09 (pv 3)) (z0n (pv 2)) rfl)
   ·refine (z04 ?_ ?_)
    ·exact (z7Z hq (pv 2) (z09 (pv 3)) (z3h rfl T.z_len (z0n (pv 2)) (by rfl)) (by rfl))
    refine (z0g ?_)
    exact (@z0p _ _ _ _ _ _ ([]) (3) _ hnp sc_walked.nd rfl (Or.inl rfl) (zb4 hclo (pv 1) (z09 (pv 3))) rfl (Or.inl rfl))
  refine (z0g ?_)
  refine (z0D ?_)
  exact (z2M (z0m (z6X rfl rfl T.z_list (z0n (pv 2))) (z0m (z0I (ix_X hq) z8I (pv 2) (z0n (pv 3)) (fun _ _=>rfl)) z1k (by rfl)) (by rfl)) (by decide)))⟩
def z2F:DS:=(dSeq (dAsg (eC1 z1B (bOf (z1t [3,4] (iSq (eOpF pIx 0 (bOf (eD (.int 2))))) (gTp 2 (z0u (gNm [] 3) (z0u (gNm [] 4) z1W))) dYes (eTup (z0F (eVar 3) (z0F (z07 z0i [.val (z64 (eVar 3) (eC1 (z1m []) (bVar 4))),.val (eVar 3)]) aNil)))))) (gNm [] 2)) (dRet (za8 (eVar 1) [2] (z07 z0i [.val (eVar 1),.val (eVar 0)]) z7Q)))
def z0P:DF:=gOf [] 5 z2F
theorem z3R:z1G z0P:=z0r
theorem sc_tile_sets:FnScope ["rule","tile","text_of","own","block"] ["rule","tile"] (z02 z0x):=⟨rfl,rfl,rfl,by decide +kernel,rfl,by decide +kernel,by decide +kernel⟩
theorem z5I {K:W2} {tpA tcA:Addr} (F:Fun K "tile_sets" "tile_sets" z0x f fd) (hm:mg "tile_sets" = some (.ref f)) (hb:Binds K fd ["rule","tile"] []) (T:Txt K mg) (lkT:∃ oc od kV doc pm an ct osl,K.lookup f=some ⟨oc,od,.func (WN "tile_sets" "tile_sets" (z14 z0x) (z0v z0x) (z02 z0x) .none kV doc pm an (.ref tcA) ct),osl⟩) (dT:QN K tcA tpA=true) (gT:Wp≠tpA) (tT:base.BuiltinsAt mg tpA) (k_tiles_grown:KFn P w K mg base 1 "tiles_grown" 2 z0i) (k_walked:zbU P w K mg base 2 "walked" 4 zam):KFnT P w K mg base [(tpA,lamPos,lamQ)] 4 "tile_sets" 2 z0P :=
 z95 (np:=[]) (fb:=z2F) F hm hb sc_tile_sets (fun c cdv A outer s H E hr hnp ft hlk=>by
  have hq:=z23 hr
  refine (z04 ?_ ?_)
  ·exact (@z0p _ _ _ _ _ _ ([]) (2) _ hnp sc_tile_sets.nd rfl (by first | exact Or.inl rfl | exact Or.inr rfl) (z5u rfl rfl T.z_dict (z0c (@z2t _ _ ([3,4]) _ _ _ _ _ _ _ _ _ _ rfl (z15 rfl rfl) (z3F (z0I z0M z1n (pv 0) (z0c z05) (fun _ _=>rfl))) (fun l s0 H0 ex=>(z89 rfl (z2L (@z13 _ _ _ _ ([]) (3) _ hnp sc_tile_sets.nd rfl (by first | exact Or.inl rfl | exact Or.inr rfl) (by first | exact Or.inl rfl | exact Or.inr rfl) (by decide)) (z2L (@z13 _ _ _ _ ([]) (4) _ hnp sc_tile_sets.nd rfl (by first | exact Or.inl rfl | exact Or.inr rfl) (by first | exact Or.inl rfl | exact Or.inr rfl) (by decide)) z6W (by rfl)) (by rfl)) (by rfl) (by rfl))) (fun l s0 H0 ex=>z1P) (fun l s0 H0 ex=>(z2M (z0m (z09 (pv 3)) (z0m (@z0l _ _ _ _ _ (1) _ _ _ _ _ k_tiles_grown z1N (hr.mono (by decide)) rfl (z0b (z9D (fun c=>(z09 (pv 3))) (fun c=>(z3H [] (z0n (pv 4)) (by decide +kernel) (by rfl) (by rfl) (by rfl) (by rfl)))) (z0b (z09 (pv 3)) z0t (by rfl)) (by rfl)) rfl (by decide) (by rfl) (by rfl)) z1k (by rfl)) (by rfl)) (by decide))) (z2S hnp rfl) (by intro _; rfl))) (by rfl)) rfl (Or.inl rfl))
  refine (z0g ?_)
  refine (z0D ?_)
  exact (zb3 (P:=tpA) (kl:=1) (kw:=2) (fr:=["text_of"]) (js:=[2]) (p:="tiles") k_walked z9x ft Wg (hr.mono (by decide)) (by decide) rfl (z09 (pv 1)) (fun _=>rfl) rfl rfl (zbP hlk lkT) dT gT tT (zcb (fm1 rfl)) zdf rfl (fun i x j e1 e2=>by rcases i with _ | i; (cases e1; cases e2; exact ⟨rfl,rfl,_,rfl⟩); cases e1) (fun _ _ _ _=>rfl) (fun c fa cd A outer s H hr hp=>by have hq:=z23 hr; exact (@z0l _ _ _ _ _ (1) _ _ _ _ _ k_tiles_grown z1N (hr.mono (by decide)) rfl (z0b (z09 (pv 1)) (z0b (z09 (pv 0)) z0t (by rfl)) (by rfl)) rfl (by decide) (by rfl) (by rfl))))) fun ss y h=>z0O h
def z1Z:DS:=(dSeq (dAsg (z07 z10 [.val (eVar 0)]) (gNm [] 1)) (dSeq (dAsg (eD (.int 1)) (gNm [] 2)) (dSeq (dFor (iSq (eVar 1)) (gNm [] 3) (dSeq (dAsg (z07 z0P [.val (eVar 0),.val (eVar 3)]) (gTp 2 (z0u (gNm [] 4) (z0u (gNm [] 5) z1W)))) (dSeq (dIf (dTr (eOp pLt (eC1 pLen (bOf (eOpF pIx 4 (bVar 5)))) (bOf (eC1 pLen (bVar 1))))) (dRet (eD .non)) z1C) (dAsg (eMax (eVar 2) (eVar 5)) (gNm [] 2))))) (dRet (eVar 2)))))
def z0w:DF:=gOf [] 6 z1Z
theorem z3d:z1G z0w:=z0r
theorem sc_mixing_time:FnScope ["rule","tiles","longest","tile","sets","start"] ["rule"] (z02 z1S):=⟨rfl,rfl,rfl,by decide +kernel,rfl,by decide +kernel,by decide +kernel⟩
theorem z4d {K:W2} {tpA:Addr} (F:Fun K "mixing_time" "mixing_time" z1S f fd) (hm:mg "mixing_time" = some (.ref f)) (hb:Binds K fd ["rule"] []) (T:Txt K mg) (k_rule_tiles:KFn P w K mg base 1 "rule_tiles" 1 z10) (k_tile_sets:KFnT P w K mg base [(tpA,lamPos,lamQ)] 4 "tile_sets" 2 z0P):KFnT P w K mg base [(tpA,lamPos,lamQ)] 5 "mixing_time" 1 z0w :=
 z95 (np:=[]) (fb:=z1Z) F hm hb sc_mixing_time (fun c cdv A outer s H E hr hnp ft hlk=>by
  have hq:=z23 hr
  refine (z04 ?_ ?_)
  ·exact (@z0p _ _ _ _ _ _ ([]) (1) _ hnp sc_mixing_time.nd rfl (Or.inl rfl) (@z0l _ _ _ _ _ (1) _ _ _ _ _ k_rule_tiles z3o (hr.mono (by decide)) rfl (z0b (z09 (pv 0)) z0t (by rfl)) rfl (by decide) (by rfl) (by rfl)) rfl (Or.inl rfl))
  refine (z04 ?_ ?_)
  ·exact (@z0p _ _ _ _ _ _ ([]) (2) _ hnp sc_mixing_time.nd rfl (Or.inl rfl) z05 rfl (Or.inl rfl))
  refine (z04 ?_ ?_)
  ·refine (z2K PassesOwn.never rfl ?_ ?_ ?_ (by intro _; rfl))
   ·exact (z3F (z09 (pv 1)))
   ·exact (@z0U _ _ _ ([]) (3) _ hnp sc_mixing_time.nd rfl (Or.inl rfl) (Or.inl rfl))
   ·refine (z04 ?_ ?_)
    ·refine (z80 ?_ ?_ (by rfl) (by rfl) (by rfl))
     ·exact (z5v (k:=4) k_tile_sets ft z3R (hr.mono (by decide)) rfl (z0b (z09 (pv 0)) (z0b (z09 (pv 3)) z0t (by rfl)) (by rfl)) rfl)
     ·exact (z8a rfl (z2h (@z0U _ _ _ ([]) (4) _ hnp sc_mixing_time.nd rfl (Or.inl rfl) (Or.inl rfl)) (z2h (@z0U _ _ _ ([]) (5) _ hnp sc_mixing_time.nd rfl (Or.inl rfl) (Or.inl rfl)) z6p (by rfl)) (by rfl)) (by rfl) (by rfl))
    refine (z04 ?_ ?_)
    ·refine (z37 ?_ ?_ ?_)
     ·exact (z24 zaz zd7 (z3h rfl T.z_len (z0c (z0I z0M z1n (pv 4) (z0n (pv 5)) (fun _ _=>rfl))) (by rfl)) (z0c (z3h rfl T.z_len (z0n (pv 1)) (by rfl))) (z1o _))
     ·refine (z0g ?_)
      refine (z0D ?_)
      exact z4r
     ·exact z1I
    refine (z0g ?_)
    exact (@z0p _ _ _ _ _ _ ([]) (2) _ hnp sc_mixing_time.nd rfl (Or.inl rfl) (zas rfl rfl T.z_max (z09 (pv 2)) (z09 (pv 5)) (by rfl) (by rfl) (by rfl)) rfl (Or.inl rfl))
  refine (z0g ?_)
  refine (z0D ?_)
  exact (z09 (pv 2))) fun ss y h=>z0O h
def z3l:DS:=(dRet (eAnd (eIsi "int" (bVar 0)) (eNot (eIsi "bool" (bVar 0)))))
def z11:DF:=gOf [] 1 z3l
theorem z3p:z1G z11:=z0r
theorem z4P:FnScope ["found"] ["found"] (z02 z27):=⟨rfl,rfl,rfl,by decide +kernel,rfl,by decide +kernel,by decide +kernel⟩
theorem z4Y {K:W2} (F:Fun K "_law_whole" "_law_whole" z27 f fd) (hm:mg "_law_whole" = some (.ref f)) (hb:Binds K fd ["found"] []) (T:Txt K mg):KFn P w K mg base 1 "_law_whole" 1 z11 :=
 z1O (np:=[]) (fb:=z3l) F hm hb z4P (fun c cdv A outer s H E hr hnp=>by
  have hq:=z23 hr
  refine (z0g ?_)
  refine (z0D ?_)
  exact (zck (zat T.ty_int rfl T.z_isinstance rfl T.z_int boot_int (z0n (pv 0)) (by decide) (by decide) (by rfl) (by rfl)) (zci (zcj (zat T.ty_bool rfl T.z_isinstance rfl T.z_bool boot_bool (z0n (pv 0)) (by decide) (by decide) (by rfl) (by rfl)))))) fun ss y h=>z0O h
def zbR:DS:=(dSeq (dFor (iSq (eOp pAdd (eLst (z0F (z07 z0A [.val (eVar 0),.val (eD (.int 0))]) aNil)) (bOf (eSlN 0 (z3b (eD (.int 1))) (z3b (eD (.int 6))))))) (gNm [] 1) (dSeq (dAsg (z07 z0G [.val (eVar 1)]) (gNm [] 2)) (dSeq (dAsg (z07 z0s [.io 2,.val (eD (.int 6))]) (gNm [] 3)) (dSeq (dIf (dTr (eOp pEq (z07 z03 [.io 2,.val (eD (.int 3))]) (bOf (eD (.int 0))))) (dAsg (z07 z0X [.io 2]) (gNm [] 3)) z1C) (dSeq (dAsg (z07 z12 [.val (eVar 3)]) (gNm [] 4)) (dFor (z0N (eD (.int 2))) (gNm [] 5) (dSeq (dAsg (z07 z0w [.val (eVar 3)]) (gNm [] 6)) (dSeq (dIf (dAnd (dTr (eOp (pIsN false) (eVar 4) (bOf (eD .non)))) (dTr (eOp (pIsN true) (eVar 6) (bOf (eD .non))))) (dRet (eD (.bl false))) z1C) (dIf (dAnd (dTr (eOp (pIsN true) (eVar 4) (bOf (eD .non)))) (dOr (dNot (dTr (z07 z11 [.val (eVar 6)]))) (dTr (eOpF pNe 6 (bVar 4))))) (dRet (eD (.bl false))) z1C))))))))) (dRet (eD (.bl true))))
def G_law:DF:=gOf [] 7 zbR
theorem zdk:z1G G_law:=z0r
theorem sc_law:FnScope ["script","cell","pen","rule","due","turn","found"] ["script"] (z02 z4R):=⟨rfl,rfl,rfl,by decide +kernel,rfl,by decide +kernel,by decide +kernel⟩
theorem zd3 {K:W2} {tpA:Addr} (F:Fun K "law" "law" z4R f fd) (T:Txt K mg) (k__law_cell_at:KFn P w K mg base 1 "_law_cell_at" 2 z0A) (k__law_pen_of:KFn P w K mg base 1 "_law_pen_of" 1 z0G) (k__law_draw:KFn P w K mg base 2 "_law_draw" 2 z03) (k__law_rule_by:KFn P w K mg base 4 "_law_rule_by" 2 z0s) (k__law_ring:KFn P w K mg base 3 "_law_ring" 1 z0X) (k__law_due:KFn P w K mg base 2 "_law_due" 1 z12) (k_mixing_time:KFnT P w K mg base [(tpA,lamPos,lamQ)] 5 "mixing_time" 1 z0w) (k__law_whole:KFn P w K mg base 1 "_law_whole" 1 z11):FnOk P w K mg base CX0 6 f fd ["script"] (spDT [(tpA,lamPos,lamQ)] 1 G_law) :=
 zaF (np:=[]) (fb:=zbR) F sc_law (fun c cdv A outer s H E hr hnp ft hlk=>by
  have hq:=z23 hr
  refine (@z04 _ _ _ _ _ _ ?_ ?_)
  ·refine (@z2K _ _ _ _ _ _ _ _ _ PassesOwn.never rfl ?_ ?_ ?_ (by intro _; rfl))
   ·exact (@z3F _ _ _ _ _ (@z1j _ _ _ _ _ _ _ _ _ _ z0L z1e (@z3G _ _ _ _ _ (@z0m _ _ _ _ _ _ (@z0l _ _ _ _ _ (1) _ _ _ _ _ k__law_cell_at z2W (hr.mono (by decide)) rfl (@z0b _ _ _ _ _ _ (@z09 _ _ _ _ (pv 0)) (@z0b _ _ _ _ _ _ (@z05 _ _ _ _ _) (@z0t _ _) (by rfl)) (by rfl)) rfl (by decide) (by rfl) (by rfl)) (@z1k _ _) (by rfl)) (by decide)) (@z0c _ _ _ _ (@zcg _ _ _ _ _ _ _ _ _ _ (pv 0) (@z4L _ _ _ _ (@z05 _ _ _ _ _)) (@z4L _ _ _ _ (@z05 _ _ _ _ _))))))
   ·exact (@z0U _ _ _ ([]) (1) _ hnp sc_law.nd rfl (Or.inl rfl) (Or.inl rfl))
   ·refine (@z04 _ _ _ _ _ _ ?_ ?_)
    ·exact (@z0p _ _ _ _ _ _ ([]) (2) _ hnp sc_law.nd rfl (Or.inl rfl) (@z0l _ _ _ _ _ (1) _ _ _ _ _ k__law_pen_of z3e (hr.mono (by decide)) rfl (@z0b _ _ _ _ _ _ (@z09 _ _ _ _ (pv 1)) (@z0t _ _) (by rfl)) rfl (by decide) (by rfl) (by rfl)) rfl (Or.inl rfl))
    refine (@z04 _ _ _ _ _ _ ?_ ?_)
    ·exact (@z0p _ _ _ _ _ _ ([]) (3) _ hnp sc_law.nd rfl (Or.inl rfl) (@z0l _ _ _ _ _ (4) _ _ _ _ _ k__law_rule_by z2V (hr.mono (by decide)) rfl (@z17 _ _ _ _ _ _ (pv 2) (@z0b _ _ _ _ _ _ (@z05 _ _ _ _ _) (@z0t _ _) (by rfl)) (by rfl)) rfl (by decide) (by rfl) (by rfl)) rfl (Or.inl rfl))
    refine (@z04 _ _ _ _ _ _ ?_ ?_)
    ·refine (@z37 _ _ _ _ _ _ _ _ _ ?_ ?_ ?_)
     ·exact (@z24 _ _ _ _ _ _ _ _ _ _ (z2p hq) z4f (@z0l _ _ _ _ _ (2) _ _ _ _ _ k__law_draw z08 (hr.mono (by decide)) rfl (@z17 _ _ _ _ _ _ (pv 2) (@z0b _ _ _ _ _ _ (@z05 _ _ _ _ _) (@z0t _ _) (by rfl)) (by rfl)) rfl (by decide) (by rfl) (by rfl)) (@z0c _ _ _ _ (@z05 _ _ _ _ _)) (z1o _))
     ·refine (@z0g _ _ _ _ ?_)
      exact (@z0p _ _ _ _ _ _ ([]) (3) _ hnp sc_law.nd rfl (Or.inl rfl) (@z0l _ _ _ _ _ (3) _ _ _ _ _ k__law_ring z3S (hr.mono (by decide)) rfl (@z17 _ _ _ _ _ _ (pv 2) (@z0t _ _) (by rfl)) rfl (by decide) (by rfl) (by rfl)) rfl (Or.inl rfl))
     ·exact z1I
    refine (@z04 _ _ _ _ _ _ ?_ ?_)
    ·exact (@z0p _ _ _ _ _ _ ([]) (4) _ hnp sc_law.nd rfl (Or.inl rfl) (@z0l _ _ _ _ _ (2) _ _ _ _ _ k__law_due z4h (hr.mono (by decide)) rfl (@z0b _ _ _ _ _ _ (@z09 _ _ _ _ (pv 3)) (@z0t _ _) (by rfl)) rfl (by decide) (by rfl) (by rfl)) rfl (Or.inl rfl))
    refine (@z0g _ _ _ _ ?_)
    refine (@z2K _ _ _ _ _ _ _ _ _ PassesOwn.never rfl ?_ ?_ ?_ (by intro _; rfl))
    ·exact (@z1K _ _ _ _ _ _ _ rfl T.z_range (@z05 _ _ _ _ _) (by rfl))
    ·exact (@z0U _ _ _ ([]) (5) _ hnp sc_law.nd rfl (Or.inl rfl) (Or.inl rfl))
    ·refine (@z04 _ _ _ _ _ _ ?_ ?_)
     ·exact (@z0p _ _ _ _ _ _ ([]) (6) _ hnp sc_law.nd rfl (Or.inl rfl) (z5v (k:=5) k_mixing_time ft z3d (hr.mono (by decide)) rfl (@z0b _ _ _ _ _ _ (@z09 _ _ _ _ (pv 3)) (@z0t _ _) (by rfl)) rfl) rfl (Or.inl rfl))
     refine (@z04 _ _ _ _ _ _ ?_ ?_)
     ·refine (@z37 _ _ _ _ _ _ _ _ _ ?_ ?_ ?_)
      ·exact (@z7X _ _ _ _ (@z6S _ _ _ _ _ _ _ _ (@z24 _ _ _ _ _ _ _ _ _ _ zd0 zd8 (@z09 _ _ _ _ (pv 4)) (@z0c _ _ _ _ (@z4r _ _ _ _)) rfl) (@z4J _ _ _ _ _ (@z24 _ _ _ _ _ _ _ _ _ _ z8C z8H (@z09 _ _ _ _ (pv 6)) (@z0c _ _ _ _ (@z4r _ _ _ _)) rfl))))
      ·refine (@z0g _ _ _ _ ?_)
       refine (@z0D _ _ _ _ _ ?_)
       exact (@z8f _ _ _ _ _)
      ·exact z1I
     refine (@z0g _ _ _ _ ?_)
     refine (@z37 _ _ _ _ _ _ _ _ _ ?_ ?_ ?_)
     ·exact (@z7X _ _ _ _ (@z6S _ _ _ _ _ _ _ _ (@z24 _ _ _ _ _ _ _ _ _ _ z8C z8H (@z09 _ _ _ _ (pv 4)) (@z0c _ _ _ _ (@z4r _ _ _ _)) rfl) (@z4J _ _ _ _ _ (@z7X _ _ _ _ (@sw_or _ _ _ _ _ _ _ _ (@zcd _ _ _ _ _ (@zaq _ _ _ _ (@z0l _ _ _ _ _ (1) _ _ _ _ _ k__law_whole z3p (hr.mono (by decide)) rfl (@z0b _ _ _ _ _ _ (@z09 _ _ _ _ (pv 6)) (@z0t _ _) (by rfl)) rfl (by decide) (by rfl) (by rfl)) (by intro _; rfl))) (@zca _ _ _ _ _ (@z36 _ _ _ _ _ _ _ _ _ _ (zcZ hq) o2_ne (pv 6) (@z0n _ _ _ _ (pv 4)) (z1o _))))))))
     ·refine (@z0g _ _ _ _ ?_)
      refine (@z0D _ _ _ _ _ ?_)
      exact (@z8f _ _ _ _ _)
     ·exact z1I
  refine (@z0g _ _ _ _ ?_)
  refine (@z0D _ _ _ _ _ ?_)
  exact (@z8f _ _ _ _ _)) fun ss y h=>z0O h
theorem all_mk {l:Jp} {w:Wk} {K:W2} {h:Heap} {mg:Str→Option Value} {fa:Addr} (X:K.In h) (G:h.Ns Wp mg) (hfa:mg "law" = some (.ref fa))
  (d0:FnH K "_law_cell_at" z1A)
  (d1:FnH K "_law_pen_of" z1T)
  (d2:FnH K "_law_next" z2w)
  (d3:FnH K "_law_draw" z2x)
  (d4:FnH K "_law_sizes_by" z1l)
  (d5:FnH K "_law_pick" z2v)
  (d6:FnH K "_law_rule_by" z1z)
  (d7:FnH K "_law_ring" z2u)
  (d8:FnH K "_law_next_tiles" z18)
  (d9:FnH K "_law_due" z3a)
  (d10:FnH K "rule_tiles" z26)
  (d11:FnH K "tiles_grown" z1R)
  (d12:FnH K "walked" z4Q)
  (a13:nsIn K Wp "tile_sets" = some (some (.ref f13)))
  (l13:K.lookup f13=some ⟨oc13,od13,.func (WN "tile_sets" "tile_sets" (z14 z0x) (z0v z0x) (z02 z0x) .none kV13 dc13 pm13 an13 (.ref tcA) ct13),sl13⟩)
  (c13:codeIn K (.ref tcA) "tile_sets" = true)
  (k13:keepIn K (.ref f13)=true)
  (dT:QN K tcA tpA=true)
  (gT:(Wp == tpA)=false)
  (d14:FnH K "mixing_time" z1S)
  (d15:FnH K "_law_whole" z27)
  (a16:nsIn K Wp "law" = some (some (.ref f16)))
  (l16:K.lookup f16=some ⟨oc16,od16,.func (WN "law" "law" (z14 z4R) (z0v z4R) (z02 z4R) .none kV16 dc16 pm16 an16 cd16 ct16),sl16⟩)
  (c16:codeIn K cd16 "law" = true)
  (k16:keepIn K (.ref f16)=true)
  (z_all:nsIn K Wp "all" = some none)
  (z_bool:nsIn K Wp "bool" = some none)
  (z_dict:nsIn K Wp "dict" = some none)
  (z_int:nsIn K Wp "int" = some none)
  (z_isinstance:nsIn K Wp "isinstance" = some none)
  (z_len:nsIn K Wp "len" = some none)
  (z_list:nsIn K Wp "list" = some none)
  (z_max:nsIn K Wp "max" = some none)
  (z_range:nsIn K Wp "range" = some none)
  (z_set:nsIn K Wp "set" = some none)
  (z_sorted:nsIn K Wp "sorted" = some none)
  (z_tuple:nsIn K Wp "tuple" = some none)
  : (∃ c,QN K c tpA=true)∧∃ fd:WC,(∀ (s:W1) (v:Value),BindsTo s fd ⟨[v],[]⟩ [("script",v)])∧∀ base:Heap,K.In base→base.Ns Wp mg→base.BuiltinsAt mg tpA→FnOk l.prog w K mg base CX0 6 fa fd ["script"] (spDT [(tpA,lamPos,lamQ)] 1 G_law):=by
 have e:=hfa.symm.trans (mg_of X G a16)
 cases e
 have T:Txt K mg:=⟨WH X G z_all,WH X G z_bool,WH X G z_dict,WH X G z_int,WH X G z_isinstance,WH X G z_len,WH X G z_list,WH X G z_max,WH X G z_range,WH X G z_set,WH X G z_sorted,WH X G z_tuple,z9y,zaQ⟩
 obtain ⟨f0,fd0,F0,m0⟩:=fnH X G d0
 obtain ⟨f1,fd1,F1,m1⟩:=fnH X G d1
 obtain ⟨f2,fd2,F2,m2⟩:=fnH X G d2
 obtain ⟨f3,fd3,F3,m3⟩:=fnH X G d3
 obtain ⟨f4,fd4,F4,m4⟩:=fnH X G d4
 obtain ⟨f5,fd5,F5,m5⟩:=fnH X G d5
 obtain ⟨f6,fd6,F6,m6⟩:=fnH X G d6
 obtain ⟨f7,fd7,F7,m7⟩:=fnH X G d7
 obtain ⟨f8,fd8,F8,m8⟩:=fnH X G d8
 obtain ⟨f9,fd9,F9,m9⟩:=fnH X G d9
 obtain ⟨f10,fd10,F10,m10⟩:=fnH X G d10
 obtain ⟨f11,fd11,F11,m11⟩:=fnH X G d11
 obtain ⟨f12,fd12,F12,m12⟩:=fnH X G d12
 have F13:=z94 (st:=z0x) l13 c13 k13
 have m13:=mg_of X G a13
 obtain ⟨f14,fd14,F14,m14⟩:=fnH X G d14
 obtain ⟨f15,fd15,F15,m15⟩:=fnH X G d15
 have F16:=z94 (st:=z4R) l16 c16 k16
 refine ⟨⟨_,dT⟩,WN "law" "law" (z14 z4R) (z0v z4R) (z02 z4R) .none kV16 dc16 pm16 an16 cd16 ct16,fun s v=>.of_eq rfl,fun base _ _ tT=>?_⟩
 have k__law_cell_at:=z3N (P:=l.prog) (w:=w) (base:=base) F0 m0 (bd2 F0 fun _ _ _ _ _ _ _ _=>rfl) T
 have k__law_pen_of:=z4e (P:=l.prog) (w:=w) (base:=base) F1 m1 (bd1 F1 fun _ _ _ _ _ _ _=>rfl) T
 have k__law_next:=z5L (P:=l.prog) (w:=w) (base:=base) F2 m2 (bd1 F2 fun _ _ _ _ _ _ _=>rfl) T
 have k__law_draw:=z5M F3 m3 (bd2 F3 fun _ _ _ _ _ _ _ _=>rfl) T k__law_next
 have k__law_sizes_by:=z3m F4 m4 (bd1 F4 fun _ _ _ _ _ _ _=>rfl) T k__law_draw
 have k__law_pick:=z5K F5 m5 (bd4 F5 fun _ _ _ _ _ _ _ _ _ _=>rfl) T k__law_draw
 have k__law_rule_by:=z3M F6 m6 (bd2 F6 fun _ _ _ _ _ _ _ _=>rfl) T k__law_draw k__law_sizes_by k__law_pick
 have k__law_ring:=z5J F7 m7 (bd1 F7 fun _ _ _ _ _ _ _=>rfl) T k__law_draw
 have k__law_next_tiles:=z2Q (P:=l.prog) (w:=w) (base:=base) F8 m8 (bd2 F8 fun _ _ _ _ _ _ _ _=>rfl) T
 have k__law_due:=z6x F9 m9 (bd1 F9 fun _ _ _ _ _ _ _=>rfl) T k__law_next_tiles
 have k_rule_tiles:=z4X (P:=l.prog) (w:=w) (base:=base) F10 m10 (bd1 F10 fun _ _ _ _ _ _ _=>rfl) T
 have k_tiles_grown:=z4c (P:=l.prog) (w:=w) (base:=base) F11 m11 (bd2 F11 fun _ _ _ _ _ _ _ _=>rfl) T
 have k_walked:=z8E (P:=l.prog) (w:=w) (base:=base) F12 m12 (bd2 F12 fun _ _ _ _ _ _ _ _=>rfl) T
 have k_tile_sets:=z5I F13 m13 (bd2 F13 fun _ _ _ _ _ _ _ _=>rfl) T ⟨_,_,_,_,_,_,_,_,l13⟩ dT (fun z=>by rw [z] at gT; simp at gT) tT k_tiles_grown k_walked
 have k_mixing_time:=z4d F14 m14 (bd1 F14 fun _ _ _ _ _ _ _=>rfl) T k_rule_tiles k_tile_sets
 have k__law_whole:=z4Y (P:=l.prog) (w:=w) (base:=base) F15 m15 (bd1 F15 fun _ _ _ _ _ _ _=>rfl) T
 exact zd3 F16 T k__law_cell_at k__law_pen_of k__law_draw k__law_rule_by k__law_ring k__law_due k_mixing_time k__law_whole
open PySem (sizeLine)
def blk (bs:List (Nat×List Tx)) (n:Nat):List Tx:=((bs.find? fun b=>decide (b.1=n)).map (·.2)).getD []
theorem z49 (h:n ∈ bs.map (·.1)):∃ b ∈ bs,b.1=n∧(bs.find? fun b=>decide (b.1=n))=some b∧blk bs n=b.2:=by
 cases e:bs.find? fun b=>decide (b.1=n) with
 | none =>
  obtain ⟨b,hb,rfl⟩:=WU.mp h
  have:=List.find?_eq_none.mp e b hb
  simp at this
 | some b =>
  have h1:=List.mem_of_find?_eq_some e
  have h2:=List.find?_some e
  refine ⟨b,h1,by simpa using h2,rfl,?_⟩
  unfold blk
  rw [e]
  rfl
structure Fl2 (bs:List (Nat×List Tx)) (R C:Nat) (fl:List Tx):Prop where
 rows:fl.length=R
 cols:∀ r ∈ fl,r.length=C
 tl:∀ r ∈ fl,∀ n ∈ r,n ∈ bs.map (·.1)
theorem nd_ts (R:Rul h w bs):(bs.map (·.1)).Nodup:=R.up.imp fun h=>Wu h
theorem ddN_mem:∀ {z σ:List Nat},x ∈ ddN σ z ↔ x ∈ σ∨x ∈ z
 | [],σ=>by simp [ddN]
 | n :: r,σ=>by
  unfold ddN
  split
  ·rename_i h
   rw [ddN_mem (z:=r)]
   constructor
   ·rintro (q | q)
    ·exact .inl q
    ·exact .inr (Wd _ q)
   ·rintro (q | q)
    ·exact .inl q
    ·rcases Wf.mp q with q | q
     ·exact .inl (by rw [q]; exact h)
     ·exact .inr q
  ·rw [ddN_mem (z:=r)]
   simp [or_assoc]
theorem z7l:∀ {z σ:List Nat},σ.Nodup→(ddN σ z).Nodup
 | [],σ,h=>by simpa [ddN] using h
 | n :: r,σ,h=>by
  unfold ddN
  split
  ·exact z7l h
  ·rename_i q
   refine z7l (Jj.mpr ⟨h,by simp,fun a ha b hb e=>q ?_⟩)
   have:b=n:=by simpa using hb
   rw [← this,← e]; exact ha
def srt (z:Tx):Tx:=z1J (ddN [] z)
theorem srt_mem {x:Nat} {z:Tx}:x ∈ srt z ↔ x ∈ z:=by unfold srt; rw [sortN_mem,ddN_mem]; simp
theorem z82 (z:Tx):(srt z).Pairwise (· < ·):=z3s (z7l List.nodup_nil)
theorem z8O:∀ {a b:List Nat},a.Pairwise (· < ·)→b.Pairwise (· < ·)→(∀ x,x ∈ a ↔ x ∈ b)→a=b
 | [],[],_,_,_=>rfl
 | [],y :: b,_,_,h=>by have:=(h y).mpr Wg; cases this
 | x :: a,[],_,_,h=>by have:=(h x).mp Wg; cases this
 | x :: a,y :: b,ha,hb,h=>by
  obtain ⟨a1,a2⟩:=Q9.mp ha
  obtain ⟨b1,b2⟩:=Q9.mp hb
  have e:x=y:=by
   rcases Wf.mp ((h x).mp Wg) with q | q
   ·exact q
   ·rcases Wf.mp ((h y).mpr Wg) with p | p
    ·exact p.symm
    ·have:=a1 y p
     have:=b1 x q
     omega
  subst e
  congr 1
  refine z8O a2 b2 fun z=>?_
  constructor
  ·intro hz
   rcases Wf.mp ((h z).mp (Wd _ hz)) with q | q
   ·have:=a1 z hz; omega
   ·exact q
  ·intro hz
   rcases Wf.mp ((h z).mpr (Wd _ hz)) with q | q
   ·have:=b1 z hz; omega
   ·exact q
theorem z8N {a:List Nat} (h:a.Pairwise (· < ·)):a.Nodup:=h.imp fun h=>Wu h
theorem z1i:∀ {l ts:List Nat},l.Nodup→(∀ x ∈ l,x ∈ ts)→l.length≤ts.length
 | [],_,_,_=>Qf _
 | a :: r,ts,nd,h=>by
  obtain ⟨n1,n2⟩:=WI.mp nd
  have ha:=h a Wg
  have:=z1i (l:=r) (ts:=ts.erase a) n2 fun x hx=>by
   have:x≠a:=fun e=>n1 (by rw [← e]; exact hx)
   exact (List.mem_erase_of_ne this).mpr (h x (Wd _ hx))
  rw [List.length_erase_of_mem ha] at this
  have:=List.length_pos_of_mem ha
  simp
  omega
theorem z52:∀ {l ts:List Tx},l.Nodup→(∀ x ∈ l,x ∈ ts)→l.length≤ts.length
 | [],_,_,_=>Qf _
 | a :: r,ts,nd,h=>by
  obtain ⟨n1,n2⟩:=WI.mp nd
  have ha:=h a Wg
  have:=z52 (l:=r) (ts:=ts.erase a) n2 fun x hx=>by
   have:x≠a:=fun e=>n1 (by rw [← e]; exact hx)
   exact (List.mem_erase_of_ne this).mpr (h x (Wd _ hx))
  rw [List.length_erase_of_mem ha] at this
  have:=List.length_pos_of_mem ha
  simp
  omega
def tx (bs:List (Nat×List Tx)) (n:Nat):Tx:=srt (blk bs n).flatten
def nxt (bs:List (Nat×List Tx)) (S:Tx):Tx:=srt (S.flatMap (tx bs))
def sq (bs:List (Nat×List Tx)) (t:Nat):Nat→Tx
 | 0=>[t]
 | k + 1=>nxt bs (sq bs t k)
theorem nxt_mem {bs:List (Nat×List Tx)} {S:Tx} {x:Nat}:x ∈ nxt bs S ↔ ∃ y ∈ S,x ∈ (blk bs y).flatten:=by
 unfold nxt
 rw [srt_mem,List.mem_flatMap]
 unfold tx
 constructor
 ·rintro ⟨y,h1,h2⟩; exact ⟨y,h1,srt_mem.mp h2⟩
 ·rintro ⟨y,h1,h2⟩; exact ⟨y,h1,srt_mem.mpr h2⟩
theorem z5r (bs:List (Nat×List Tx)) (t:Nat):∀ k,(sq bs t k).Pairwise (· < ·)
 | 0=>by simp [sq]
 | k + 1=>z82 _
theorem z30 {h w n x:Nat} {bs:List (Nat×List Tx)} (R:Rul h w bs) (hn:n ∈ bs.map (·.1)) (hx:x ∈ (blk bs n).flatten):x ∈ bs.map (·.1):=by
 obtain ⟨b,hb,_,_,e⟩:=z49 hn
 rw [e] at hx
 obtain ⟨r,hr,hx⟩:=List.mem_flatten.mp hx
 exact ((R.blk b hb).2 r hr).2 x hx
theorem z25 {h w t:Nat} {bs:List (Nat×List Tx)} (R:Rul h w bs) (ht:t ∈ bs.map (·.1)):∀ k,∀ x ∈ sq bs t k,x ∈ bs.map (·.1)
 | 0,x,hx=>by
  have:x=t:=by simpa [sq] using hx
  rw [this]; exact ht
 | k + 1,x,hx=>by
  obtain ⟨y,hy,hx⟩:=nxt_mem.mp hx
  exact z30 R (z25 R ht k y hy) hx
theorem zar {h w t:Nat} {bs:List (Nat×List Tx)} (R:Rul h w bs) (ht:t ∈ bs.map (·.1)) (k:Nat):(sq bs t k).length≤bs.length:=by
 have:=z1i (z8N (z5r bs t k)) (z25 R ht k)
 simpa using this
theorem zaD {P:Nat→Prop} [DecidablePred P]:∀ i,P i→∃ j,j≤i∧P j∧∀ k,k < j→¬ P k
 | 0,h=>⟨0,Wb _,h,fun k hk=>absurd hk (Nat.not_lt_zero _)⟩
 | i + 1,h=>by
  by_cases q:∃ k,k < i + 1∧P k
  ·obtain ⟨k,hk,hp⟩:=q
   obtain ⟨j,a,b,c⟩:=zaD k hp
   exact ⟨j,by omega,b,c⟩
  ·exact ⟨i + 1,Wb _,h,fun k hk hp=>q ⟨k,hk,hp⟩⟩
 termination_by i=>i
theorem zaL {h w t:Nat} {bs:List (Nat×List Tx)} (R:Rul h w bs) (ht:t ∈ bs.map (·.1)):∀ (i x:Nat),x ∈ sq bs t i→(∀ k,k < i→x ∉ sq bs t k)→∃ l:List Nat,l.length=i + 1∧l.Nodup∧(∀ y ∈ l,y ∈ bs.map (·.1))∧∀ y ∈ l,∃ j,j≤i∧y ∈ sq bs t j
 | 0,x,hx,_=>⟨[x],rfl,by simp,fun y hy=>by
   have:y=x:=by simpa using hy
   rw [this]; exact z25 R ht 0 x hx,fun y hy=>by
   have:y=x:=by simpa using hy
   rw [this]; exact ⟨0,Wb _,hx⟩⟩
 | i + 1,x,hx,hn=>by
  obtain ⟨y,hy,hxy⟩:=nxt_mem.mp hx
  have fy:∀ k,k < i→y ∉ sq bs t k:=fun k hk hyk=>hn (k + 1) (by omega) (nxt_mem.mpr ⟨y,hyk,hxy⟩)
  obtain ⟨l,l1,l2,l3,l4⟩:=zaL R ht i y hy fy
  refine ⟨x :: l,by simp [l1],WI.mpr ⟨fun hx'=>?_,l2⟩,fun z hz=>?_,fun z hz=>?_⟩
  ·obtain ⟨j,hj,hxj⟩:=l4 x hx'
   exact hn j (by omega) hxj
  ·rcases Wf.mp hz with rfl | hz
   ·exact z25 R ht (i + 1) z hx
   ·exact l3 z hz
  ·rcases Wf.mp hz with rfl | hz
   ·exact ⟨i + 1,Wb _,hx⟩
   ·obtain ⟨j,hj,q⟩:=l4 z hz
    exact ⟨j,by omega,q⟩
theorem soonB {h w t:Nat} {bs:List (Nat×List Tx)} (R:Rul h w bs) (ht:t ∈ bs.map (·.1)) {x i:Nat} (hx:x ∈ sq bs t i):∃ j,j < bs.length∧x ∈ sq bs t j:=by
 obtain ⟨j,_,hj,hm⟩:=zaD (P:=fun i=>x ∈ sq bs t i) i hx
 obtain ⟨l,l1,l2,l3,_⟩:=zaL R ht j x hj hm
 have:=z1i l2 l3
 rw [l1] at this
 exact ⟨j,by simp at this; omega,hj⟩
theorem zbW {F:D→Option D} {S:Nat→Tx} {L:List Tx} (hL:∀ k,S k ∈ L) (hF:∀ k,F (.str (S k))=some (.str (S (k + 1)))):∀ (n m:Nat),((Wr m).map S).Nodup→L.length + 1≤n + m→1≤n →
  ∃ M s,wk F n ((Wr m).map S) (S m)=some ((Wr M).map S,s)∧s < M∧S M=S s∧M≤L.length∧((Wr M).map S).Nodup
 | 0,m,_,_,h=>by omega
 | n + 1,m,nd,hl,_=>by
  have hs:=z52 nd (ts:=L) fun x hx=>by
   obtain ⟨i,_,rfl⟩:=WU.mp hx
   exact hL i
  simp at hs
  unfold wk
  by_cases h:S m ∈ (Wr m).map S
  ·rw [if_pos h]
   have hi:=List.idxOf_lt_length_of_mem h
   have e:=List.getElem_idxOf hi
   refine ⟨m,_,rfl,by simpa using hi,?_,hs,nd⟩
   simp only [List.getElem_map,List.getElem_range] at e
   exact e.symm
  ·rw [if_neg h,hF m]
   have e:(Wr m).map S ++ [S m]=(Wr (m + 1)).map S:=by rw [Jq,WZ]; rfl
   simp only [e]
   have nd':((Wr (m + 1)).map S).Nodup:=by
    rw [← e]
    exact Jj.mpr ⟨nd,by simp,fun a ha b hb q=>h (by
     have:b=S m:=by simpa using hb
     rw [← this,← q]; exact ha)⟩
   have hs':=z52 nd' (ts:=L) fun x hx=>by
    obtain ⟨i,_,rfl⟩:=WU.mp hx
    exact hL i
   simp at hs'
   exact zbW hL hF n (m + 1) nd' (by omega) (by omega)
theorem zan {S:Nat→Tx} {M s:Nat} (hS:∀ i j,S i=S j→S (i + 1)=S (j + 1)) (hs:s < M) (e:S M=S s):∀ k,∃ j,j < M∧S k=S j
 | k=>by
  by_cases h:k < M
  ·exact ⟨k,h,rfl⟩
  ·have sh:∀ d,S (M + d)=S (s + d):=fun d=>by
    induction d with
    | zero=>exact e
    | succ d ih=>exact hS _ _ ih
   obtain ⟨j,hj,ej⟩:=zan hS hs e (s + (k - M))
   refine ⟨j,hj,?_⟩
   rw [← ej,← sh,show M + (k - M)=k by omega]
 termination_by k=>k
 decreasing_by omega
def z3D:List Nat→List Tx
 | []=>[[]]
 | a :: r=>z3D r ++ (z3D r).map (a :: ·)
theorem z6T:∀ l:List Nat,(z3D l).length=2 ^ l.length
 | []=>rfl
 | a :: r=>by
  show (z3D r ++ (z3D r).map (a :: ·)).length=_
  rw [WS,Wx,z6T r,WL,Nat.pow_succ]
  omega
theorem z2s (p:Nat→Bool):∀ l:List Nat,l.filter p ∈ z3D l
 | []=>by simp [z3D]
 | a :: r=>by
  show _ ∈ z3D r ++ (z3D r).map (a :: ·)
  cases h:p a with
  | true =>
   rw [List.filter_cons_of_pos h]
   exact WF _ (WU.mpr ⟨_,z2s p r,rfl⟩)
  | false =>
   rw [List.filter_cons_of_neg (by simp [h])]
   exact List.mem_append_left _ (z2s p r)
theorem zcc {S ts:List Nat} (h1:S.Pairwise (· < ·)) (h2:ts.Pairwise (· < ·)) (h:∀ x ∈ S,x ∈ ts):S ∈ z3D ts:=by
 have:S=ts.filter fun x=>decide (x ∈ S):=z8O h1 (h2.filter _) fun x=>by
  rw [List.mem_filter]
  constructor
  ·intro hx; exact ⟨h x hx,by simpa using hx⟩
  ·intro hx; simpa using hx.2
 rw [this]
 exact z2s _ ts
structure GoodB (h w:Nat) (bs:List (Nat×List Tx)):Prop where
 R:Rul h w bs
 fin:∀ t ∈ bs.map (·.1),∃ L:List Tx,L.length≤64∧∀ k,sq bs t k ∈ L
 len:∀ n ∈ bs.map (·.1),(tx bs n).length * bs.length < 64
theorem tx_lt (bs:List (Nat×List Tx)) (n:Nat):(tx bs n).Pairwise (· < ·):=z82 _
theorem zc0 {h w n:Nat} {bs:List (Nat×List Tx)} (R:Rul h w bs) (hn:n ∈ bs.map (·.1)) {x:Nat} (hx:x ∈ tx bs n):x ∈ bs.map (·.1):=z30 R hn (srt_mem.mp hx)
theorem zc1 {h w n:Nat} {bs:List (Nat×List Tx)} (R:Rul h w bs) (hn:n ∈ bs.map (·.1)):(tx bs n).length≤bs.length:=by
 have:=z1i (z8N (tx_lt bs n)) fun x hx=>zc0 R hn hx
 simpa using this
theorem zdt {h w:Nat} {bs:List (Nat×List Tx)} (R:Rul h w bs) (h6:bs.length≤6):GoodB h w bs:=by
 refine ⟨R,fun t ht=>⟨z3D (bs.map (·.1)),?_,fun k=>zcc (z5r bs t k) R.up (z25 R ht k)⟩,fun n hn=>?_⟩
 ·rw [z6T,Wx]
  exact WQ (Nat.pow_le_pow_right (by decide) h6) (by decide)
 ·have:=zc1 R hn
  have:=Ji this (Wb bs.length)
  have:=Ji h6 h6
  omega
theorem za4 {h w:Nat} {bs:List (Nat×List Tx)} (G:GoodB h w bs):∀ S:Tx,(∀ n ∈ S,n ∈ bs.map (·.1))→S.length≤bs.length→(S.flatMap (tx bs)).length < 64:=by
 have n0:=G.R.n0
 have key:∀ (c:Nat) (S:Tx),(∀ n ∈ S,n ∈ bs.map (·.1))→(∀ n ∈ bs.map (·.1),(tx bs n).length≤c)→(S.flatMap (tx bs)).length≤c * S.length:=fun c S=>by
  induction S with
  | nil=>intro _ _; simp
  | cons a r ih =>
   intro h1 h2
   have:=ih (fun n hn=>h1 n (Wd _ hn)) h2
   have:=h2 a (h1 a Wg)
   simp only [List.flatMap_cons,WS,WL,Nat.mul_add,Nat.mul_one]
   omega
 intro S h1 h2
 have hc:∀ n ∈ bs.map (·.1),(tx bs n).length≤63 / bs.length:=fun n hn=>by
  have:=G.len n hn
  exact (Nat.le_div_iff_mul_le n0).mpr (by omega)
 have a:=key _ S h1 hc
 have b:=Ji (Wb (63 / bs.length)) h2
 have c:=Nat.div_mul_le_self 63 bs.length
 omega
theorem z4K (bs:List (Nat×List Tx)) (t a x:Nat):∀ b,x ∈ sq bs t (a + b) ↔ ∃ y ∈ sq bs t a,x ∈ sq bs y b:=fun b=>by
 induction b generalizing x with
 | zero =>
  constructor
  ·intro h; exact ⟨x,h,by simp [sq]⟩
  ·rintro ⟨y,h1,h2⟩
   have:x=y:=by simpa [sq] using h2
   rw [this]; exact h1
 | succ b ih =>
  show x ∈ nxt bs (sq bs t (a + b)) ↔ ∃ y ∈ sq bs t a,x ∈ nxt bs (sq bs y b)
  rw [nxt_mem]
  constructor
  ·rintro ⟨z,h1,h2⟩
   obtain ⟨y,h3,h4⟩:=(ih z).mp h1
   exact ⟨y,h3,nxt_mem.mpr ⟨z,h4,h2⟩⟩
  ·rintro ⟨y,h1,h2⟩
   obtain ⟨z,h3,h4⟩:=nxt_mem.mp h2
   exact ⟨z,(ih z).mpr ⟨y,h1,h3⟩,h4⟩
theorem z83 {bs:List (Nat×List Tx)} {t a b:Nat} (e:sq bs t a=sq bs t b):∀ c,sq bs t (a + c)=sq bs t (b + c)
 | 0=>e
 | c + 1=>by
  show nxt bs (sq bs t (a + c))=nxt bs (sq bs t (b + c))
  rw [z83 e c]
section
variable {h w t:Nat} {bs:List (Nat×List Tx)} (R:Rul h w bs) (ht:t ∈ bs.map (·.1))
include R ht
theorem z57 (k:Nat):sq bs t k=bs.map (·.1) ↔ ∀ n ∈ bs.map (·.1),n ∈ sq bs t k:=by
 constructor
 ·intro e n hn; rw [e]; exact hn
 ·intro hf
  exact z8O (z5r bs t k) R.up fun x=>⟨fun hx=>z25 R ht k x hx,hf x⟩
theorem z7g (k:Nat):sq bs t k=bs.map (·.1) ↔ bs.length≤(sq bs t k).length:=by
 constructor
 ·intro e; rw [e]; simp
 ·intro hl
  refine (z57 R ht k).mpr fun n hn=>?_
  by_cases q:n ∈ sq bs t k
  ·exact q
  ·exfalso
   have:=z1i (l:=n :: sq bs t k) (ts:=bs.map (·.1)) (WI.mpr ⟨q,z8N (z5r bs t k)⟩) fun y hy=>by
    rcases Wf.mp hy with rfl | hy
    ·exact hn
    ·exact z25 R ht k y hy
   simp at this
   omega
omit ht in
theorem zaY {n:Nat} (hn:n ∈ bs.map (·.1)):∃ x,x ∈ (blk bs n).flatten:=by
 obtain ⟨b,hb,_,_,e⟩:=z49 hn
 obtain ⟨h1,h2⟩:=R.blk b hb
 have h0:=R.h0
 have w0:=R.w0
 have i:0 < b.2.length:=by omega
 have hr:=(h2 _ (Qj i)).1
 have j:0 < (b.2[0]).length:=by omega
 exact ⟨(b.2[0])[0],by rw [e]; exact List.mem_flatten.mpr ⟨_,Qj i,Qj j⟩⟩
theorem z2X {k:Nat} (hf:sq bs t k=bs.map (·.1)):sq bs t (k + 1)=bs.map (·.1):=by
 have hm:=(z57 R ht k).mp hf
 refine (z57 R ht (k + 1)).mpr fun n hn=>?_
 cases k with
 | zero =>
  have one:∀ n ∈ bs.map (·.1),n=t:=fun n hn=>by simpa [sq] using hm n hn
  obtain ⟨x,hx⟩:=zaY R ht
  have:x=n:=by rw [one x (z30 R ht hx),one n hn]
  exact nxt_mem.mpr ⟨t,by simp [sq],by rw [← this]; exact hx⟩
 | succ k =>
  obtain ⟨y,h1,h2⟩:=nxt_mem.mp (hm n hn)
  exact nxt_mem.mpr ⟨y,hm y (z25 R ht k y h1),h2⟩
theorem z60 {k:Nat} (hf:sq bs t k=bs.map (·.1)):∀ d,sq bs t (k + d)=bs.map (·.1)
 | 0=>hf
 | d + 1=>z2X R ht (z60 hf d)
theorem z58 {k m:Nat} (hf:sq bs t k=bs.map (·.1)) (hm:k≤m):sq bs t m=bs.map (·.1):=by
 have:=z60 R ht hf (m - k)
 rw [show k + (m - k)=m by omega] at this
 exact this
theorem zbG {m:Nat} (hf:sq bs t m=bs.map (·.1)):sq bs t (bs.length * bs.length)=bs.map (·.1):=by
 have n0:=R.n0
 have h1:t ∈ sq bs t (1 + m):=by
  have:=z2X R ht hf
  rw [Nat.add_comm,this]; exact ht
 obtain ⟨y,hy,hm⟩:=(z4K bs t 1 t m).mp h1
 obtain ⟨j,hj,hjm⟩:=soonB R (z25 R ht 1 y hy) hm
 have hs:t ∈ sq bs t (1 + j):=(z4K bs t 1 t j).mpr ⟨y,hy,hjm⟩
 generalize hS:1 + j=s at hs
 have s1:1≤s:=by omega
 have sn:s≤bs.length:=by omega
 have up:∀ i,∀ x ∈ sq bs t (i * s),x ∈ sq bs t ((i + 1) * s):=fun i x hx=>by
  rw [Nat.add_mul,Nat.one_mul,Nat.add_comm]
  exact (z4K bs t s x (i * s)).mpr ⟨t,hs,hx⟩
 have gr:∀ k,(∃ i,i < k∧sq bs t ((i + 1) * s)=sq bs t (i * s))∨k + 1≤(sq bs t (k * s)).length:=fun k=>by
  induction k with
  | zero=>exact .inr (by simp [sq])
  | succ k ih =>
   rcases ih with ⟨i,hi,e⟩ | ih
   ·exact .inl ⟨i,by omega,e⟩
   ·by_cases e:sq bs t ((k + 1) * s)=sq bs t (k * s)
    ·exact .inl ⟨k,by omega,e⟩
    ·refine .inr ?_
     have h1:=z1i (z8N (z5r bs t (k * s))) (up k)
     by_cases e2:(sq bs t ((k + 1) * s)).length=(sq bs t (k * s)).length
     ·exfalso
      apply e
      refine z8O (z5r bs t _) (z5r bs t _) fun x=>⟨fun hx=>?_,up k x⟩
      by_cases hxk:x ∈ sq bs t (k * s)
      ·exact hxk
      ·have:=z1i (l:=x :: sq bs t (k * s)) (ts:=sq bs t ((k + 1) * s)) (WI.mpr ⟨hxk,z8N (z5r bs t _)⟩) fun y hy=>by
        rcases Wf.mp hy with rfl | hy
        ·exact hx
        ·exact up k y hy
       simp at this
       omega
     ·omega
 have key:∃ i,i≤bs.length∧sq bs t (i * s)=bs.map (·.1):=by
  rcases gr bs.length with ⟨i,hi,e⟩ | q
  ·refine ⟨i,by omega,?_⟩
   have stb:∀ d,sq bs t ((i + d) * s)=sq bs t (i * s):=fun d=>by
    induction d with
    | zero=>rfl
    | succ d ih =>
     have:=z83 ih s
     rw [← e,Nat.add_mul i 1,Nat.one_mul,← this]
     congr 1
     rw [← Nat.add_assoc,Nat.add_mul (i + d) 1,Nat.one_mul]
   rw [← stb m]
   refine z58 R ht hf ?_
   have:=Ji (show m≤i + m by omega) s1
   omega
  ·exact ⟨bs.length,Wb _,(z7g R ht _).mpr (by omega)⟩
 obtain ⟨i,hi,e⟩:=key
 exact z58 R ht e (Ji hi sn)
theorem z4m {M s:Nat} (hs:s < M) (e:sq bs t M=sq bs t s) (nd:((Wr M).map (sq bs t)).Nodup) {m:Nat} (hf:sq bs t m=bs.map (·.1)):sq bs t s=bs.map (·.1)∧∀ j,j < s→sq bs t j≠bs.map (·.1):=by
 have inj:∀ i j,i < M→j < M→sq bs t i=sq bs t j→i=j:=fun i j hi hj q=>by
  have a1:((Wr M).map (sq bs t))[i]? = some (sq bs t i):=by simp [hi]
  have a2:((Wr M).map (sq bs t))[j]? = some (sq bs t i):=by simp [hj,q]
  exact (List.getElem?_inj (by simpa using hi) nd).mp (a1.trans a2.symm)
 obtain ⟨j,hj,ej⟩:=zan (fun i j q=>by show nxt bs _=nxt bs _; rw [q]) hs e m
 have fj:sq bs t j=bs.map (·.1):=by rw [← ej]; exact hf
 have jM:j + 1=M:=by
  by_cases q:j + 1 < M
  ·have:=inj j (j + 1) hj q (by rw [fj,z2X R ht fj])
   omega
  ·omega
 have js:s=j:=inj s j hs hj (by rw [← e,← jM,z2X R ht fj,fj])
 subst js
 refine ⟨fj,fun i hi q=>?_⟩
 have:=inj i s (by omega) hs (by rw [q,fj])
 omega
end
def All (bs:List (Nat×List Tx)) (k:Nat):Prop:=∀ t ∈ bs.map (·.1),sq bs t k=bs.map (·.1)
def Res (bs:List (Nat×List Tx)):Option Nat→Prop
 | some m=>1≤m∧All bs m∧∀ j,1≤j→j < m→¬ All bs j
 | none=>∀ j,¬ All bs j
theorem zb8 {bs:List (Nat×List Tx)}:∀ {o o':Option Nat},Res bs o→Res bs o'→o=o'
 | some m,some m',h,h'=>by
  by_cases q:m < m'
  ·exact absurd h.2.1 (h'.2.2 m h.1 q)
  ·by_cases q':m' < m
   ·exact absurd h'.2.1 (h.2.2 m' h'.1 q')
   ·congr 1; omega
 | some m,none,h,h'=>absurd h.2.1 (h' m)
 | none,some m,h,h'=>absurd h'.2.1 (h m)
 | none,none,_,_=>rfl
theorem z41 (f:DE) (δ:Dl):iSq f δ=(f δ).bind fun r δ1=>match r.d with
 | .lst ds=>.ok ds δ1
 | .tup ds=>.ok ds δ1
 | .str x=>.ok (x.map fun n=>.str [n]) δ1
 | _=>.stuck:=id rfl
theorem ev_inR (neg:Bool) (fa f g:DE) (δ:Dl):eInR neg fa f g δ=(fa δ).bind fun v δ1=>(f δ1).bind fun lo δ2=>(g δ2).bind fun hi δ3=>match v.d,lo.d,hi.d with
 | .int i,.int l,.int h=>.ok (.pure (.bl (if neg then !(decide (l≤i) && decide (i < h)) else (decide (l≤i) && decide (i < h))))) δ3
 | _,_,_=>.stuck:=id rfl
def nx (s:Int):Int:=(((s + 7919) % 2147483647) * ((s + 7919) % 2147483647) + 48271 * ((s + 7919) % 2147483647) + 12345) % 2147483629
theorem zcs (s:Int):z0Y [.pure (.int s)]=some (.pure (.int (nx s)),[.pure (.int s)]):=by
 unfold z0Y gOf z2I runD
 have h1:=Int.emod_nonneg (s + 7919) (b:=2147483647) (by decide)
 have h2:=Int.emod_lt_of_pos (s + 7919) (b:=2147483647) (by decide)
 have c1:cMul ((s + 7919) % 2147483647) ((s + 7919) % 2147483647)=true:=by unfold cMul; simp; omega
 have c2:cMul 48271 ((s + 7919) % 2147483647)=true:=by unfold cMul; simp
 simp [ioOk,z0f,dAsg,eOpF,eOpN,bVar,pAdd,pMod,pII,z2n,pMul,c1,c2,z0V,z0h]
 rfl
def Pen (d:D):Prop:=∃ l f s:Int,d = .lst [.int l,.int f,.int s]∧0≤l
theorem z71 (hp:Pen d) (m:Nat) (h0:0 < m) (h1:m < 10000000000000):∃ (r:Nat) (d':D),z03 [.own d,.pure (.int m)]=some (.pure (.int r),[.own d',.pure (.int m)])∧r < m∧Pen d':=by
 obtain ⟨l,f,s,rfl,hl⟩:=hp
 have hm:(0:Int) < (m:Int):=by omega
 have hB:(10000000000000:Int)≤bigB:=by decide +kernel
 have hd:=z9O l m hm (by omega)
 unfold z03 gOf z2J runD
 by_cases hf:f=1
 ·subst hf
  have e1:=Int.emod_nonneg l (b:=(m:Int)) (by omega)
  have e2:=Int.emod_lt_of_pos l hm
  refine ⟨(l % (m:Int)).toNat,.lst [.int (l / m),.int 1,.int s],?_,by omega,⟨_,_,_,rfl,Int.ediv_nonneg hl (by omega)⟩⟩
  simp [ioOk,z0f,dAsg,eOpF,eOpN,bVar,eVar,pIx,pEq,eqD,flat,z3A,z6K,z6J,dTr,pMod,pDiv,pII,h0,hd,cDiv,z7G,z2q,putL,z0V,z0h,ixN]
  omega
 ·have e1:=Int.emod_nonneg (nx (nx s + 7) / 64) (b:=(m:Int)) (by omega)
  have e2:=Int.emod_lt_of_pos (nx (nx s + 7) / 64) hm
  refine ⟨(nx (nx s + 7) / 64 % (m:Int)).toNat,.lst [.int l,.int f,.int (nx (nx s + 7))],?_,by omega,⟨_,_,_,rfl,hl⟩⟩
  simp [ioOk,z0f,dAsg,eOpF,eOpN,bVar,eVar,pIx,pEq,eqD,flat,z3A,z6K,z6J,dTr,pMod,pDiv,pII,h0,hd,cDiv,z7G,z2q,putL,z0V,z0h,ixN,hf,z07,ios,z0C,ndup,evX,mkA,zcs,pAdd,putA,cDiv]
  omega
theorem r_pen (c:Int):∃ d,z0G [.pure (.int c)]=some (.own d,[.pure (.int c)])∧Pen d:=by
 unfold z0G gOf z20 runD
 refine ⟨.lst [.int (if 0 - c > c then 0 - c else c),.int (if decide (1000000000000000000≤(if 0 - c > c then 0 - c else c)) then 1 else 0),.int ((if 0 - c > c then 0 - c else c) % 1000003)],?_,⟨_,_,_,rfl,by split <;> omega⟩⟩
 simp [ioOk,z0f,dAsg,eOpF,eOpN,bVar,eVar,pMax,pSub,pII,pInt,pGe,pCmp,pPow,cPow,pMod,z0V,z0h]
theorem z6r (ns:List Int):∃ c:Int,z0A [.pure (.lst (ns.map .int)),.pure (.int 0)]=some (.pure (.int c),[.pure (.lst (ns.map .int)),.pure (.int 0)]):=by
 unfold z0A gOf z1F runD
 cases ns with
 | nil=>exact ⟨0,by simp [ioOk,z0f,eOpF,eOpN,bVar,pLt,pCmp,dTr,pLen,z0V,z0h]⟩
 | cons n r=>exact ⟨n,by
   have:(0:Int) < (r.length:Int) + 1:=by omega
   simp [ioOk,z0f,eOpF,eOpN,bVar,pLt,pCmp,dTr,pLen,z0V,z0h,pIx,z3A,this]⟩
theorem z1h (hp:Pen d) (m:Nat) (i:Int) (hi:i=m) (h0:0 < m) (h1:m < 10000000000000):∃ (r:Nat) (d':D),z03 [.own d,.pure (.int i)]=some (.pure (.int r),[.own d',.pure (.int i)])∧r < m∧Pen d':=by
 subst hi
 exact z71 hp m h0 h1
def lettersT:Tx:=[97,98,99,100,101,102,103,104,105,106,107,108,109,110,111,112,113,114,115,116,117,118,119,120,121,122]
theorem zbb (hp:Pen d):∃ (h w:Nat) (d':D),z0B [.own d]=some (.pure (.tup [.int h,.int w]),[.own d'])∧0 < h∧h≤4∧0 < w∧w≤4∧2 < h + w∧Pen d':=by
 obtain ⟨r1,d1,e1,l1,p1⟩:=z1h hp 3 3 rfl (by decide) (by decide)
 obtain ⟨r2,d2,e2,l2,p2⟩:=z1h p1 3 3 rfl (by decide) (by decide)
 obtain ⟨r3,d3,e3,l3,p3⟩:=z1h p2 8 8 rfl (by decide) (by decide)
 obtain ⟨r4,d4,e4,l4,p4⟩:=z1h p3 6 6 rfl (by decide) (by decide)
 unfold z0B gOf z1s runD
 by_cases h3:r3=0
 ·subst h3
  have:r4=0∨r4=1∨r4=2∨r4=3∨r4=4∨r4=5:=by omega
  rcases this with rfl | rfl | rfl | rfl | rfl | rfl
  ·exact ⟨4,1,d4,by simp [ioOk,z0f,dAsg,z07,ios,ndup,z0C,evX,mkA,e1,e2,e3,e4,putA,pAdd,pEq,eqD,flat,dTr,pIx,atI,ixN,gTp,z0u,z1W,eOpF,eOpN,bVar,eVar,z0V,z0h],by decide,by decide,by decide,by decide,by decide,p4⟩
  ·exact ⟨1,4,d4,by simp [ioOk,z0f,dAsg,z07,ios,ndup,z0C,evX,mkA,e1,e2,e3,e4,putA,pAdd,pEq,eqD,flat,dTr,pIx,atI,ixN,gTp,z0u,z1W,eOpF,eOpN,bVar,eVar,z0V,z0h],by decide,by decide,by decide,by decide,by decide,p4⟩
  ·exact ⟨4,4,d4,by simp [ioOk,z0f,dAsg,z07,ios,ndup,z0C,evX,mkA,e1,e2,e3,e4,putA,pAdd,pEq,eqD,flat,dTr,pIx,atI,ixN,gTp,z0u,z1W,eOpF,eOpN,bVar,eVar,z0V,z0h],by decide,by decide,by decide,by decide,by decide,p4⟩
  ·exact ⟨4,3,d4,by simp [ioOk,z0f,dAsg,z07,ios,ndup,z0C,evX,mkA,e1,e2,e3,e4,putA,pAdd,pEq,eqD,flat,dTr,pIx,atI,ixN,gTp,z0u,z1W,eOpF,eOpN,bVar,eVar,z0V,z0h],by decide,by decide,by decide,by decide,by decide,p4⟩
  ·exact ⟨1,2,d4,by simp [ioOk,z0f,dAsg,z07,ios,ndup,z0C,evX,mkA,e1,e2,e3,e4,putA,pAdd,pEq,eqD,flat,dTr,pIx,atI,ixN,gTp,z0u,z1W,eOpF,eOpN,bVar,eVar,z0V,z0h],by decide,by decide,by decide,by decide,by decide,p4⟩
  ·exact ⟨2,1,d4,by simp [ioOk,z0f,dAsg,z07,ios,ndup,z0C,evX,mkA,e1,e2,e3,e4,putA,pAdd,pEq,eqD,flat,dTr,pIx,atI,ixN,gTp,z0u,z1W,eOpF,eOpN,bVar,eVar,z0V,z0h],by decide,by decide,by decide,by decide,by decide,p4⟩
 ·by_cases hs:r1=0∧r2=0
  ·obtain ⟨rfl,rfl⟩:=hs
   refine ⟨1,2,d3,?_,by decide,by decide,by decide,by decide,by decide,p3⟩
   simp [ioOk,z0f,dAsg,z07,ios,ndup,z0C,evX,mkA,e1,e2,e3,putA,pAdd,pEq,eqD,flat,dTr,h3,eOpF,eOpN,bVar,eVar,z0V,z0h]
  ·have hn:¬ (1 + (r1:Int) + (1 + (r2:Int))=2):=by omega
   refine ⟨1 + r1,1 + r2,d3,?_,by omega,by omega,by omega,by omega,by omega,p3⟩
   simp [ioOk,z0f,dAsg,z07,ios,ndup,z0C,evX,mkA,e1,e2,e3,putA,pAdd,pEq,eqD,flat,dTr,h3,hn,eOpF,eOpN,bVar,eVar,z0V,z0h]
theorem z63 (ts:List Nat) (r:Nat) (h:r < ts.length):pIx (.lst (ts.map fun n=>.str [n])) (.int r)=some (.pure (.str [ts.getD r 0])):=by
 simp [pIx,z1c,h]
theorem zcr (hp:Pen d) (ts:List Nat) (place way:Nat) (h1:place < ts.length) (h2:ts.length≤64):∃ (n:Nat) (d':D),
  z0o [.own d,.pure (.lst (ts.map fun n=>.str [n])),.pure (.int place),.pure (.int way)]=some (.pure (.str [n]),[.own d',.pure (.lst (ts.map fun n=>.str [n])),.pure (.int place),.pure (.int way)])∧n ∈ ts∧Pen d':=by
 have mem:∀ r,r < ts.length→ts.getD r 0 ∈ ts:=fun r h=>by simp [h]
 unfold z0o gOf z2H runD
 by_cases w1:way=1
 ·subst w1
  obtain ⟨r,d1,e1,l1,p1⟩:=z1h hp (place + 1) ((place:Int) + 1) (by omega) (by omega) (by omega)
  refine ⟨ts.getD r 0,d1,?_,mem r (by omega),p1⟩
  simp [ioOk,z0f,eOpF,eOpN,bVar,pEq,eqD,flat,dTr,z07,ios,ndup,z0C,evX,pAdd,mkA,e1,putA,pIx,z1c,z0V,z0h,show r < ts.length by omega]
 ·by_cases w2:way=2
  ·subst w2
   have hr:(place + 1) % ts.length < ts.length:=Nat.mod_lt _ (by omega)
   refine ⟨ts.getD ((place + 1) % ts.length) 0,d,?_,mem _ hr,hp⟩
   have hm:pMod (.int ((place:Int) + 1)) (.int ts.length)=some (.pure (.int (((place + 1) % ts.length:Nat):Int))):=by
    simp only [pMod,pII]
    rw [if_pos (by simp; omega)]
    simp
   simp [ioOk,z0f,eOpF,eOpN,bVar,pEq,eqD,flat,dTr,pAdd,pLen,hm,z0V,z0h]
   have hx:=z63 ts ((place + 1) % ts.length) hr
   simp at hx
   simp [hx]
  ·by_cases w3:way=3
   ·subst w3
    obtain ⟨r,d1,e1,l1,p1⟩:=z1h hp 4 4 rfl (by decide) (by decide)
    by_cases hr:0 < r
    ·refine ⟨ts.getD place 0,d1,?_,mem place h1,p1⟩
     simp [ioOk,z0f,eOpF,eOpN,bVar,pEq,eqD,flat,dTr,z07,ios,ndup,z0C,evX,mkA,e1,putA,pGt,pCmp,hr,pIx,z1c,h1,z0V,z0h]
    ·obtain ⟨r',d2,e2,l2,p2⟩:=z71 p1 ts.length (by omega) (by omega)
     refine ⟨ts.getD r' 0,d2,?_,mem r' l2,p2⟩
     simp [ioOk,z0f,eOpF,eOpN,bVar,pEq,eqD,flat,dTr,z07,ios,ndup,z0C,evX,mkA,e1,putA,pGt,pCmp,hr,pLen,e2,pIx,z1c,l2,z0V,z0h]
   ·obtain ⟨r',d2,e2,l2,p2⟩:=z71 hp ts.length (by omega) (by omega)
    refine ⟨ts.getD r' 0,d2,?_,mem r' l2,p2⟩
    have c1:¬ (way:Int)=1:=by omega
    have c2:¬ (way:Int)=2:=by omega
    have c3:¬ (way:Int)=3:=by omega
    simp [ioOk,z0f,eOpF,eOpN,bVar,pEq,eqD,flat,dTr,z07,ios,ndup,z0C,evX,mkA,putA,c1,c2,c3,pLen,e2,pIx,z1c,l2,z0V,z0h]
theorem z7B:∀ k,k < 26→lettersT.getD k 0=97 + k:=by decide
theorem z4C (xs:List Nat) (h:xs.length < 64):z2y (.lst (xs.map fun n=>.str [n]))=some (.own (.lst ((z1J xs).map fun n=>.str [n]))):=by
 have e:(xs.map fun n=>D.str [n])=(xs.map fun n=>[n]).map D.str:=by simp
 unfold z2y
 simp only [e,z3x]
 rw [if_pos (by simpa using h),z84]
 simp
def rawT (f n:Nat):List Nat:=(Wr n).map fun k=>97 + (f + 5 * k) % 26
theorem z8m (f n:Nat) (hn:n≤26):(rawT f n).Nodup:=by
 unfold rawT
 rw [List.nodup_iff_pairwise_ne,QE]
 refine (List.pairwise_lt_range (n:=n)).imp_of_mem ?_
 intro a b ha hb hab e
 simp at ha hb
 omega
def rb (pd:D) (m h w n f:Nat) (s7:S) (wy:Nat) (blocks:List D) (a b c:Option S):Dl :=
 [some (.own pd),some (.pure (.int m)),some (.pure (.int h)),some (.pure (.int w)),some (.pure (.int (1 + (n:Int)))),some (.pure (.int f)),some (.pure (.str lettersT)),some s7,some (.pure (.int wy)),some (.own (.lst blocks)),a,b,c,none,none]
def tD (ts:List Nat):D:=.lst (ts.map fun n=>.str [n])
def sT (ts:List Nat) (s:S):Prop:=s = .own (tD ts)∨s = .pure (tD ts)
theorem z7s (hts:ts.length≤64) (hw:w≤4) (hpd:Pen pd) (h7:sT ts s7) (blocks:List D) (place:Nat) (hpl:place < ts.length) (block:List D) (row:Nat) :
  ∃ (x:Tx) (pd':D) (s7':S),z1D [14] (gNm [0] 14) dYes (z07 z0o [.io 0,.val (eVar 7),.val (eVar 10),.val (eVar 8)]) (z0k 0 w) (rb pd m h w n f s7 wy blocks (some (.pure (.int place))) (some (.own (.lst block))) (some (.pure (.int row)))) []
   = .ok (x.map fun n=>.str [n]) (rb pd' m h w n f s7' wy blocks (some (.pure (.int place))) (some (.own (.lst block))) (some (.pure (.int row))))∧x.length=w∧(∀ n ∈ x,n ∈ ts)∧Pen pd'∧sT ts s7':=by
 obtain ⟨xs,δ',e,⟨pd',s7',hpd',h7',rfl⟩,hn,hf⟩:=z45 (cs:=[14]) (g:=gNm [0] 14) (t:=dYes) (el:=z07 z0o [.io 0,.val (eVar 7),.val (eVar 10),.val (eVar 8)]) (fun δ=>∃ pd s7,Pen pd∧sT ts s7∧δ=rb pd m h w n f s7 wy blocks (some (.pure (.int place))) (some (.own (.lst block))) (some (.pure (.int row))))
  (fun _ x=>∃ n,n ∈ ts∧x = .str [n]) (z0k 0 w) _ [] ⟨pd,s7,hpd,h7,rfl⟩ (by rw [z0E]; simp; omega) (fun d hd δ ⟨pd,s7,hpd,h7,e⟩=>by
   subst e
   obtain ⟨i,hi,rfl⟩:=z3k hd
   obtain ⟨k,d',e,hk,p⟩:=zcr hpd ts place wy hpl hts
   have e':z0o [.own pd,.pure (tD ts),.pure (.int place),.pure (.int wy)]=some (.pure (.str [k]),[.own d',.pure (tD ts),.pure (.int place),.pure (.int wy)]):=e
   refine ⟨_,_,.pure (.str [k]),(rb d' m h w n f (.pure (tD ts)) wy blocks (some (.pure (.int place))) (some (.own (.lst block))) (some (.pure (.int row)))).set 14 (some (.pure (.int i))),rfl,rfl,?_,⟨d',_,p,.inr rfl,rfl⟩,⟨_,hk,rfl⟩⟩
   rcases h7 with rfl | rfl
   ·simp [rb,z07,ios,ndup,z0C,evX,eVar,mkA,e',putA]
   ·simp [rb,z07,ios,ndup,z0C,evX,eVar,mkA,e',putA])
 obtain ⟨x,rfl,hx⟩:=z88 (P:=fun n=>n ∈ ts) (zb9 hn hf fun d x _ h=>h)
 exact ⟨x,pd',s7',by simpa using e,by simpa using hn,hx,hpd',h7'⟩
theorem z5A (hts:ts.length≤64) (hw:w≤4) (hh:h≤4) (hpd:Pen pd) (h7:sT ts s7) (blocks:List D) (place:Nat) (hpl:place < ts.length) (rs:Option S) :
  ∃ (fl:List Tx) (pd':D) (s7':S) (rs':Option S),forL (gNm [0] 12) (z0W 11 (eC1 (z1m []) (bOf (z1t [14] (z0N (eVar 3)) (gNm [0] 14) dYes (z07 z0o [.io 0,.val (eVar 7),.val (eVar 10),.val (eVar 8)]))))) (z0k 0 h) (rb pd m h w n f s7 wy blocks (some (.pure (.int place))) (some (.own (.lst []))) rs)
   = .ok .next (rb pd' m h w n f s7' wy blocks (some (.pure (.int place))) (some (.own (.lst (fl.map .str)))) rs')∧fl.length=h∧(∀ r ∈ fl,r.length=w∧∀ n ∈ r,n ∈ ts)∧Pen pd'∧sT ts s7':=by
 obtain ⟨δ',e3,pd',s7',fl,rs',hpd',h7',hfl,hall,rfl⟩:=z2k (g:=gNm [0] 12) (b:=z0W 11 (eC1 (z1m []) (bOf (z1t [14] (z0N (eVar 3)) (gNm [0] 14) dYes (z07 z0o [.io 0,.val (eVar 7),.val (eVar 10),.val (eVar 8)]))))) (fun k δ=>∃ (pd:D) (s7:S) (fl:List Tx) (rs:Option S),Pen pd∧sT ts s7∧fl.length=k∧(∀ r ∈ fl,r.length=w∧∀ n ∈ r,n ∈ ts)∧δ=rb pd m h w n f s7 wy blocks (some (.pure (.int place))) (some (.own (.lst (fl.map .str)))) rs)
  (z0k 0 h) 0 _ ⟨pd,s7,[],rs,hpd,h7,rfl,by simp,rfl⟩ (fun i d δ hd ⟨pd,s7,fl,rs,hpd,h7,hfl,hall,e⟩=>by
   subst e
   obtain ⟨hi,rfl⟩:=z2b hd
   obtain ⟨x,pd',s7',e,hx,hxt,hpd',h7'⟩:=z7s (m:=m) (h:=h) (n:=n) (f:=f) (wy:=wy) hts hw hpd h7 blocks place hpl (fl.map .str) i
   have hz:fl.length < W7:=by rw [z0E]; omega
   have ej:=za5 x (by omega)
   refine ⟨_,rb pd' m h w n f s7' wy blocks (some (.pure (.int place))) (some (.own (.lst ((fl ++ [x]).map .str)))) (some (.pure (.int i))),rfl,?_,⟨pd',s7',fl ++ [x],_,hpd',h7',by simp [hfl],?_,rfl⟩⟩
   ·unfold rb at e ⊢
    simp [z0W,z2q,eVar,z5x w (by omega),z0C,clrD]
    rw [e]
    simp [ej,z1r,putL,hz]
   ·intro r hr
    rcases QQ.mp hr with hr | hr
    ·exact hall r hr
    ·simp at hr; subst hr; exact ⟨hx,hxt⟩)
 exact ⟨fl,pd',s7',rs',e3,by simpa using hfl,hall,hpd',h7'⟩
theorem z8p (hp:Pen d) (m:Nat) (hm0:0 < m) (hm1:m≤26):∃ (h w:Nat) (bs:List (Nat×List Tx)) (d':D),
  z0s [.own d,.pure (.int m)]=some (.pure (ruD h w bs),[.own d',.pure (.int m)])∧Rul h w bs∧bs.length≤m∧Pen d':=by
 obtain ⟨h,w,d1,e1,h0,h1,w0,w1,hw,p1⟩:=zbb hp
 obtain ⟨r,d2,e2,l2,p2⟩:=z71 p1 m hm0 (by omega)
 obtain ⟨f,d3,e3,l3,p3⟩:=z1h p2 26 26 rfl (by decide) (by decide)
 obtain ⟨wy,d4,e4,l4,p4⟩:=z1h p3 5 5 rfl (by decide) (by decide)
 -- the tiles
 have ec:=z9j (cs:=[13]) (g:=gNm [0] 13) (t:=dYes) (el:=eOpF pIx 6 (bOf (eOp pMod (eOpF pAdd 5 (bOf (eOp z2n (eD (.int 5)) (bVar 13)))) (bOf (eD (.int 26)))))) (fun d=>match d with | .int k=>.str [97 + (f + 5 * k.toNat) % 26] | _=>.non)
  [some (.own d3),some (.pure (.int m)),some (.pure (.int h)),some (.pure (.int w)),some (.pure (.int (1 + (r:Int)))),some (.pure (.int f)),some (.pure (.str lettersT)),none,none,none,none,none,none,none,none] (z0k 0 (1 + r)) [] (by rw [z0E]; simp; omega) (fun d hd=>by
   obtain ⟨i,hi,rfl⟩:=z3k hd
   refine ⟨_,_,.pure (.str [97 + (f + 5 * i) % 26]),[some (.own d3),some (.pure (.int m)),some (.pure (.int h)),some (.pure (.int w)),some (.pure (.int (1 + (r:Int)))),some (.pure (.int f)),some (.pure (.str lettersT)),none,none,none,none,none,none,some (.pure (.int i)),none],rfl,rfl,?_,rfl,rfl⟩
   have hk:(f + 5 * i) % 26 < 26:=Nat.mod_lt _ (by decide)
   have hx:=z62 lettersT ((f + 5 * i) % 26) hk (by decide)
   rw [z7B _ hk] at hx
   have hc:((f:Int) + 5 * (i:Int)) % 26=(((f + 5 * i) % 26:Nat):Int):=by omega
   have hmul:z2n (.int 5) (.int i)=some (.pure (.int (5 * (i:Int)))):=by
    unfold z2n pMul pII
    have:cMul 5 i=true:=by unfold cMul; simp
    simp only [this,if_true]
   have hmod:pMod (.int ((f:Int) + 5 * (i:Int))) (.int 26)=some (.pure (.int (((f + 5 * i) % 26:Nat):Int))):=by
    rw [← hc]; rfl
   generalize lettersT=lt at hx ⊢
   simp only [eOpF,eOpN,bVar,zdy,zdx,ev_eD,z0Q,ev_p2,List.set_cons_succ,List.set_cons_zero,QO,List.getElem?_cons_zero,ev_d1,hmul,pAdd,hmod,hx])
 have hraw:List.map (fun (d:D)=>match d with | .int k=>D.str [97 + (f + 5 * k.toNat) % 26] | _=>.non) (z0k 0 (1 + r))=(rawT f (1 + r)).map fun n=>.str [n]:=by
  simp [z0k,rawT]
 rw [hraw] at ec
 simp only [Qe] at ec
 have hrl:(rawT f (1 + r)).length=1 + r:=by simp [rawT]
 have es:=z4C (rawT f (1 + r)) (by rw [hrl]; omega)
 have hts:(z1J (rawT f (1 + r))).length=1 + r:=by rw [z3E,hrl]
 have hlt:=z3s (z8m f (1 + r) (by omega))
 have hle:∀ t ∈ z1J (rawT f (1 + r)),97≤t∧t≤122:=fun t ht=>by
  rw [sortN_mem] at ht
  simp [rawT] at ht
  obtain ⟨k,_,rfl⟩:=ht
  omega
 generalize z1J (rawT f (1 + r))=ts at es hts hlt hle
 -- the blocks
 obtain ⟨δ',e5,pd,s7,bs,a,b,c,hpd,h7,hbl,hbt,hall,rfl⟩:=z2k (g:=gNm [0] 10) (b:=(dSeq (dAsg (eLst aNil) (gNm [0] 11)) (dSeq (dFor (z0N (eVar 2)) (gNm [0] 12) (z0W 11 (eC1 (z1m []) (bOf (z1t [14] (z0N (eVar 3)) (gNm [0] 14) dYes (z07 z0o [.io 0,.val (eVar 7),.val (eVar 10),.val (eVar 8)])))))) (z0W 9 (eTup (z0F (eOpF pIx 7 (bVar 10)) (z0F (eC1 z1u (bVar 11)) aNil)))))))
  (fun k δ=>∃ (pd:D) (s7:S) (bs:List (Nat×List Tx)) (a b c:Option S),Pen pd∧sT ts s7∧bs.length=k∧bs.map (·.1)=ts.take k∧(∀ b ∈ bs,b.2.length=h∧∀ r ∈ b.2,r.length=w∧∀ n ∈ r,n ∈ ts)∧δ=rb pd m h w r f s7 wy (bs.map blD) a b c)
  (z0k 0 (1 + r)) 0 (rb d4 m h w r f (.own (tD ts)) wy [] none none none) ⟨d4,_,[],none,none,none,p4,.inl rfl,rfl,rfl,by simp,rfl⟩ (fun i d δ hd ⟨pd,s7,bs,a,b,c,hpd,h7,hbl,hbt,hall,e⟩=>by
   subst e
   obtain ⟨hi,rfl⟩:=z2b hd
   rw [J0] at hbl hbt
   obtain ⟨fl,pd',s7',rs',e,hfl,hflt,hpd',h7'⟩:=z5A (m:=m) (n:=r) (f:=f) (wy:=wy) (ts:=ts) (by omega) w1 h1 hpd h7 (bs.map blD) i (by omega) c
   have hz:bs.length < W7:=by rw [z0E]; omega
   have hx:=z63 ts i (by omega)
   refine ⟨_,rb pd' m h w r f s7' wy ((bs ++ [(ts.getD i 0,fl)]).map blD) (some (.pure (.int i))) (some (.own (.lst (fl.map .str)))) rs',rfl,?_,⟨pd',s7',bs ++ [(ts.getD i 0,fl)],_,_,_,hpd',h7',by simp [hbl],?_,?_,rfl⟩⟩
   ·unfold rb at e ⊢
    simp [dAsg,eVar,z5x h (by omega)]
    rw [e]
    rcases h7' with rfl | rfl
    ·simp [z0W,z2q,eOpF,eOpN,bVar,tD,hx,z1u,putL,hz,blD]
    ·simp [z0W,z2q,eOpF,eOpN,bVar,tD,hx,z1u,putL,hz,blD]
   ·rw [J0,WZ,hbt,List.take_add_one]
    simp [show i < ts.length by omega]
   ·intro b hb
    rcases QQ.mp hb with hb | hb
    ·exact hall b hb
    ·simp at hb; subst hb; exact ⟨hfl,hflt⟩)
 have hbl':bs.length=1 + r:=by simpa using hbl
 have hbt':bs.map (·.1)=ts:=by
  rw [hbt,List.take_of_length_le]
  simp [hts]
 refine ⟨h,w,bs,pd,?_,⟨h0,h1,w0,w1,hw,by omega,by omega,by rw [hbt']; exact hlt,fun b hb=>hle _ (by rw [← hbt']; exact WK hb),fun b hb=>by rw [hbt']; exact hall b hb⟩,by omega,hpd⟩
 unfold z0s gOf z1E runD
 unfold lettersT at ec
 simp [ioOk,z0f,dAsg,z07,ios,ndup,z0C,evX,mkA,e1,putA,gTp,z0u,z1W,eVar,e2,pAdd,e3,z8i r (by omega),clrD]
 rw [ec]
 simp [z1r,es,e4,putA,eVar,z8i r (by omega)]
 unfold rb lettersT tD at e5
 rw [e5]
 simp [bVar,z1u,z0V,z0h,eVar]
theorem gt_int (i j:Int):pGt (.int i) (.int j)=some (.pure (.bl (decide (j < i)))):=rfl
theorem z4D (i j:Int):pEq (.int i) (.int j)=some (.pure (.bl (i == j))):=rfl
theorem zdd (i j:Int):pNe (.int i) (.int j)=some (.pure (.bl (!(i == j)))):=rfl
theorem add_int (i j:Int):pAdd (.int i) (.int j)=some (.pure (.int (i + j))):=rfl
theorem z9E (h w:Nat) (bs:List (Nat×List Tx)):pIx (ruD h w bs) (.int 0)=some (.pure (.int h))∧pIx (ruD h w bs) (.int 1)=some (.pure (.int w))∧pIx (ruD h w bs) (.int 2)=some (.pure (.tup (bs.map blD))):=by
 refine ⟨?_,?_,?_⟩
 ·simp [pIx,z3A]
 ·simp [pIx,z6K]
 ·simp [pIx,z6J]
theorem z6F (np:List Nat) (n:Nat) (b:DS) (ss:List S):gOf np n b ss=if ioOk np 0 ss then (match b (z0f n ss) with
 | .ok fl δ=>(z0V fl).bind fun r=>(z0h 0 ss δ).map fun outs=>(r,outs)
 | _=>none) else none:=rfl
def dcM (bs:List (Nat×List Tx)):D:=.dct (bs.map fun b=>(Sum.inr [b.1],flD b.2))
theorem z3L:∀ (kps acc:List (DKey×D)),((acc ++ kps).map (·.1)).Nodup→z6s kps acc=acc ++ kps
 | [],acc,_=>by simp [z6s]
 | p :: r,acc,h=>by
  have hn:(acc.any fun kv=>decide (kv.1=p.1))=false:=by
   rw [List.any_eq_false]
   intro kv hkv
   simp only [decide_eq_true_eq]
   intro e
   rw [WZ,List.nodup_append] at h
   exact h.2.2 kv.1 (WK hkv) p.1 (WK Wg) e
  have hp:putD acc p.1 p.2=acc ++ [p]:=by
   unfold putD
   rw [hn]
   simp
  show z6s r (putD acc p.1 p.2)=_
  rw [hp,z3L r (acc ++ [p]) (by simpa using h)]
  simp
theorem z75:∀ bs:List (Nat×List Tx),z21 (bs.map blD)=some (bs.map fun b=>(Sum.inr [b.1],flD b.2))
 | []=>rfl
 | b :: r=>by
  have:=z75 r
  simp only [Wj]
  simp [z21,keyD,this]
theorem dictM (R:Rul h w bs):z1B (.tup (bs.map blD))=some (.own (dcM bs)):=by
 unfold z1B
 simp only [z75,WB,Wx]
 have hz:W7=16777216:=rfl
 rw [if_pos (by have:=R.n1; omega),z3L]
 ·rfl
 ·simp only [Qe,Wy]
  rw [List.nodup_iff_pairwise_ne,QE]
  have:=R.up
  rw [QE] at this
  exact this.imp fun {a b} hab=>by simp; omega
theorem zbY (bs:List (Nat×List Tx)) (n:Nat):valD (bs.map fun b=>((Sum.inr [b.1]:DKey),flD b.2)) (.inr [n])=(bs.find? fun b=>decide (b.1=n)).map fun b=>flD b.2:=by
 unfold valD
 rw [List.find?_map]
 simp [Function.comp_def]
theorem ix_dc (h:n ∈ bs.map (·.1)):pIxX (dcM bs) (.str [n])=some (.pure (flD (blk bs n))):=by
 obtain ⟨b,hb,_,e,e2⟩:=z49 h
 show ((keyD (.str [n])).bind fun k=>(valD (bs.map fun b=>((Sum.inr [b.1]:DKey),flD b.2)) k).map S.pure)=_
 simp only [keyD,WB,zbY,e,WD,e2]
theorem z8Q (xs:List Tx) (m:Nat) (h:∀ x ∈ xs,x.length≤m):z1v xs≤xs.length * m:=by
 induction xs with
 | nil=>simp [z1v]
 | cons x r ih =>
  have h1:=h x Wg
  have h2:=ih fun y hy=>h y (Wd _ hy)
  have e:z1v (x :: r)=x.length + z1v r:=by simp [z1v]
  rw [e,WL,Nat.succ_mul]
  omega
theorem z4y (xs:List Tx) (h:z1v xs≤16777216):z1m [] (.lst (xs.map .str))=some (.pure (.str xs.flatten)):=by
 unfold z1m
 simp only [z3x,z1w]
 rw [if_pos (by simpa using h)]
theorem mul_int (i j:Int) (h0:0≤j) (h1:j≤1000):z2n (.int i) (.int j)=some (.pure (.int (i * j))):=by
 unfold z2n pMul pII
 have:cMul i j=true:=by unfold cMul; simp; omega
 simp only [this,if_true]
theorem z93 (e:b (z0f n [.pure x,.pure y]) = .ok (.ret v) δ1):gOf [] n b [.pure x,.pure y]=some (v,[.pure x,.pure y]):=by
 rw [z6F,e]; rfl
theorem z7f (e:b (z0f n [.pure x]) = .ok (.ret v) δ1):gOf [] n b [.pure x]=some (v,[.pure x]):=by
 rw [z6F,e]; rfl
theorem z0e (h:a δ = .ok .next δ1):dSeq a b δ=b δ1:=by unfold dSeq; rw [h]; rfl
theorem z6q (h:a δ = .ok (.ret v) δ1):dSeq a b δ = .ok (.ret v) δ1:=by unfold dSeq; rw [h]; rfl
theorem z2Y (h:it δ = .ok ds δ1):dFor it g b δ=forL g b ds δ1:=by unfold dFor; rw [h]; rfl
theorem z9Y (x:Tx) (h:x.length≤1000):pLen (.str x)=some (.pure (.int x.length)):=by
 unfold pLen
 have:W7=16777216:=rfl
 simp only
 rw [if_pos (by omega)]
theorem zba (n:Int):z11 [.pure (.int n)]=some (.pure (.bl true),[.pure (.int n)]):=rfl
theorem z79 (xs:List Tx) (h:z1v xs≤16777216):z1m [] (flD xs)=some (.pure (.str xs.flatten)):=by
 unfold z1m
 simp only [z3x,z1w]
 rw [if_pos (by simpa using h)]
theorem z7r (k t:Nat):z0k (k:Int) (t + 1) = .int (k:Int) :: z0k ((k + 1:Nat):Int) t:=by
 unfold z0k
 rw [QV,Wj,Wy]
 simp only [Function.comp_def,List.cons.injEq,D.int.injEq]
 refine ⟨by simp,List.map_congr_left fun i _=>?_⟩
 simp only [D.int.injEq]
 push_cast
 omega
theorem z2Z (h1:g (.pure d) δ=some δ1) (h2:b δ1 = .ok .next δ2):forL g b (d :: r) δ=forL g b r δ2:=by
 conv=>lhs; unfold forL
 rw [h1]
 simp only [h2,z0Q]
theorem z1a:∀ xs:List Tx,z1v xs=xs.flatten.length
 | []=>rfl
 | x :: r=>by
  have:=z1a r
  show x.length + z1v r=_
  rw [this,Qp,WS]
theorem z5b:∀ z:Tx,(z.map fun n=>([n]:Tx)).flatten=z
 | []=>rfl
 | n :: r=>by simp [z5b r]
theorem z8V (z:Tx) (h:z.length≤1000):z1m [] (.lst (z.map fun n=>.str [n]))=some (.pure (.str z)):=by
 have:=z4y (z.map fun n=>[n]) (by rw [z1a,z5b]; omega)
 rw [z5b,Wy] at this
 exact this
theorem zaW (z:Tx):(srt z).length≤z.length:=by
 unfold srt
 rw [z3E]
 have:=z5h z []
 simpa using this
theorem z8r (DD:D) (f:Nat→Tx) (z:Tx) (hd:∀ n ∈ z,pIxX DD (.str [n])=some (.pure (.str (f n)))) (hz:z.length≤100) (hl:(z.flatMap f).length < 64) :
  z0i [.pure DD,.pure (.str z)]=some (.pure (.str (srt (z.flatMap f))),[.pure DD,.pure (.str z)]):=by
 have c:=z0Z (cs:=[2]) (g:=gNm [] 2) (t:=dYes) (el:=eOpF pIxX 0 (bVar 2)) (fun n:Nat=>D.str [n]) (fun n=>D.str (f n)) [some (.pure DD),some (.pure (.str z)),none] z [] (by rw [z0E]; simp; omega) (fun n hn=>by
  have q:=hd n hn
  refine ⟨[some (.pure DD),some (.pure (.str z)),some (.pure (.str [n]))],_,.pure (.str (f n)),[some (.pure DD),some (.pure (.str z)),some (.pure (.str [n]))],rfl,rfl,?_,rfl,rfl⟩
  simp [eOpF,eOpN,bVar,q])
 have j1:z1m [] (.lst (z.map fun n=>D.str (f n)))=some (.pure (.str (z.flatMap f))):=by
  have:=z4y (z.map f) (by rw [z1a,← List.flatMap_def]; omega)
  rw [Wy,← List.flatMap_def] at this
  exact this
 have s1:z7w (.str (z.flatMap f))=some (.own (.lst ((srt (z.flatMap f)).map fun n=>.str [n]))):=by
  simp only [z7w]
  rw [if_pos hl]
  rfl
 have j2:=z8V (srt (z.flatMap f)) (by have:=zaW (z.flatMap f); omega)
 rw [z0i,z1Y]
 refine z93 (δ1:=[some (.pure DD),some (.pure (.str z)),none]) ?_
 generalize srt (z.flatMap f)=W at *
 generalize hY:(z.map fun n=>D.str (f n))=Y at *
 generalize z.flatMap f=X at *
 generalize hZ:(z.map fun n=>D.str [n])=ZS at *
 have e:iSq (eVar 1) [some (.pure DD),some (.pure (.str z)),none] = .ok ZS [some (.pure DD),some (.pure (.str z)),none]:=by
  rw [← hZ]
  simp [z41,eVar]
 simp only [z0f]
 simp [e,z0C,clrD]
 rw [c]
 simp [z1r,j1,s1,j2]
def dtX (bs:List (Nat×List Tx)):D:=.dct (bs.map fun b=>(Sum.inr [b.1],.str (tx bs b.1)))
theorem z74 (g:Nat→Tx):∀ bs:List (Nat×List Tx),z21 (bs.map fun b=>.tup [.str [b.1],.str (g b.1)])=some (bs.map fun b=>(Sum.inr [b.1],.str (g b.1)))
 | []=>rfl
 | b :: r=>by
  have:=z74 g r
  simp only [Wj]
  simp [z21,keyD,this]
theorem zbN {h w:Nat} {bs:List (Nat×List Tx)} (R:Rul h w bs):z1B (.lst (bs.map fun b=>.tup [.str [b.1],.str (tx bs b.1)]))=some (.own (dtX bs)):=by
 unfold z1B
 simp only [z74 (tx bs),WB,Wx]
 have hz:W7=16777216:=rfl
 rw [if_pos (by have:=R.n1; omega),z3L]
 ·rfl
 ·simp only [Qe,Wy]
  rw [List.nodup_iff_pairwise_ne,QE]
  have:=R.up
  rw [QE] at this
  exact this.imp fun {a b} hab=>by simp; omega
theorem ix_tx {bs:List (Nat×List Tx)} {n:Nat} (h:n ∈ bs.map (·.1)):pIxX (dtX bs) (.str [n])=some (.pure (.str (tx bs n))):=by
 have key:∀ l:List (Nat×List Tx),n ∈ l.map (·.1)→valD (l.map fun b=>((Sum.inr [b.1]:DKey),D.str (tx bs b.1))) (.inr [n])=some (.str (tx bs n)):=fun l=>by
  induction l with
  | nil=>intro h; simp at h
  | cons b r ih =>
   intro h
   unfold valD at ih ⊢
   rw [Wj,WT]
   by_cases e:b.1=n
   ·simp [e]
   ·have:decide ((Sum.inr [b.1]:DKey)=Sum.inr [n])=false:=by simp [e]
    simp only [this]
    refine ih ?_
    simp at h ⊢
    rcases h with h | h
    ·exact absurd h.symm e
    ·exact h
 show ((keyD (.str [n])).bind fun k=>(valD (bs.map fun b=>((Sum.inr [b.1]:DKey),D.str (tx bs b.1))) k).map S.pure)=_
 simp [keyD,key bs h]
abbrev fbS:DE:=z07 z0i [.val (eVar 1),.val (eVar 0)]
theorem zag {h w:Nat} {bs:List (Nat×List Tx)} (G:GoodB h w bs) {z:Tx} (hz:∀ n ∈ z,n ∈ bs.map (·.1)) (hl:z.length≤bs.length):cloF fbS [dtX bs] (.str z)=some (.str (nxt bs z)):=by
 have n1:=G.R.n1
 have e:=z8r (dtX bs) (tx bs) z (fun n hn=>ix_tx (hz n hn)) (by omega) (za4 G z hz hl)
 unfold cloF fbS nxt
 generalize dtX bs=DD at *
 generalize srt (z.flatMap (tx bs))=W at *
 simp [z07,ios,ndup,evX,eVar,mkA,e,putA,S.d]
abbrev z4b (bs:List (Nat×List Tx)) (t M:Nat):D:=.lst ((Wr M).map fun k=>.str (sq bs t k))
theorem z7h {b:Nat×List Tx}:∀ {l:List (Nat×List Tx)},(l.map (·.1)).Nodup→b ∈ l→l.find? (fun x=>decide (x.1=b.1))=some b
 | a :: r,nd,hb=>by
  rw [Wj] at nd
  obtain ⟨n1,n2⟩:=WI.mp nd
  rw [WT]
  rcases Wf.mp hb with rfl | hb
  ·simp
  ·have:a.1≠b.1:=fun e=>n1 (by rw [e]; exact WK hb)
   simp only [this,decide_false]
   exact z7h n2 hb
theorem z9t {h w:Nat} {bs:List (Nat×List Tx)} (R:Rul h w bs) {b:Nat×List Tx} (hb:b ∈ bs):b.2.flatten.length≤16∧blk bs b.1=b.2:=by
 obtain ⟨h1,h2⟩:=R.blk b hb
 have hh:=R.h1
 have hw:=R.w1
 refine ⟨?_,?_⟩
 ·have:=z8Q b.2 4 fun r hr=>by have:=(h2 r hr).1; omega
  rw [z1a] at this
  omega
 ·obtain ⟨b',hb',e1,e3,e2⟩:=z49 (bs:=bs) (n:=b.1) (WK hb)
  rw [e2]
  have:=z7h (nd_ts R) hb
  rw [this] at e3
  cases e3
  rfl
theorem zcp {h w t:Nat} {bs:List (Nat×List Tx)} (G:GoodB h w bs) (ht:t ∈ bs.map (·.1)):∃ M s,s < M∧sq bs t M=sq bs t s∧M≤64∧((Wr M).map (sq bs t)).Nodup ∧
  z0P [.pure (ruD h w bs),.pure (.str [t])]=some (.pure (.tup [z4b bs t M,.int (s:Nat)]),[.pure (ruD h w bs),.pure (.str [t])]):=by
 have R:=G.R
 have n1:=R.n1
 obtain ⟨L,hL,hin⟩:=G.fin t ht
 obtain ⟨M,s,hk,hs,e,hM,hnd⟩:=zbW (F:=cloF fbS [dtX bs]) hin (fun k=>zag G (z25 R ht k) (zar R ht k)) 1000000 0 (by simp) (by omega) (by decide)
 refine ⟨M,s,hs,e,by omega,hnd,?_⟩
 have hW:z7Q (cloF fbS [dtX bs]) (.str [t])=some (.tup [z4b bs t M,.int (s:Nat)]):=by
  show (wk (cloF fbS [dtX bs]) 1000000 [] [t]).map _=_
  have:wk (cloF fbS [dtX bs]) 1000000 [] [t]=some ((Wr M).map (sq bs t),s):=hk
  rw [this]
  simp
 have x2:=(z9E h w bs).2.2
 have hd:=zbN R
 have c:=z0Z (cs:=[3,4]) (g:=gTp 2 (z0u (gNm [] 3) (z0u (gNm [] 4) z1W))) (t:=dYes) (el:=eTup (z0F (eVar 3) (z0F (z07 z0i [.val (z64 (eVar 3) (eC1 (z1m []) (bVar 4))),.val (eVar 3)]) aNil))) blD (fun b=>D.tup [.str [b.1],.str (tx bs b.1)]) [some (.pure (ruD h w bs)),some (.pure (.str [t])),none,none,none] bs [] (by rw [z0E]; simp; omega) (fun b hb=>by
  obtain ⟨l1,l2⟩:=z9t R hb
  have j:z1m [] (flD b.2)=some (.pure (.str b.2.flatten)):=z79 b.2 (by rw [z1a]; omega)
  have g:=z8r (.dct [(Sum.inr [b.1],.str b.2.flatten)]) (fun _=>b.2.flatten) [b.1] (fun n hn=>by
   have:n=b.1:=by simpa using hn
   rw [this]
   show ((keyD (.str [b.1])).bind fun k=>(valD [((Sum.inr [b.1]:DKey),D.str b.2.flatten)] k).map S.pure)=_
   simp [keyD,valD]) (by simp) (by rw [show ([b.1].flatMap fun _=>b.2.flatten)=b.2.flatten by simp]; omega)
  have e:srt ([b.1].flatMap fun _=>b.2.flatten)=tx bs b.1:=by
   unfold tx
   rw [l2]
   simp
  rw [e] at g
  refine ⟨[some (.pure (ruD h w bs)),some (.pure (.str [t])),none,some (.pure (.str [b.1])),some (.pure (flD b.2))],_,.pure (.tup [.str [b.1],.str (tx bs b.1)]),[some (.pure (ruD h w bs)),some (.pure (.str [t])),none,some (.pure (.str [b.1])),some (.pure (flD b.2))],rfl,rfl,?_,rfl,rfl⟩
  generalize flD b.2=B at *
  generalize b.2.flatten=BF at *
  generalize tx bs b.1=TX at *
  generalize ruD h w bs=ru at *
  simp [z64,eVar,bVar,j,keyD,z07,ios,ndup,evX,mkA,g,putA])
 rw [z0P,z2F]
 generalize ruD h w bs=ru at *
 generalize hB:bs.map blD=B at *
 generalize (bs.map fun b=>D.tup [.str [b.1],.str (tx bs b.1)])=Y at *
 generalize dtX bs=DD at *
 refine z93 (δ1:=[some (.pure ru),some (.pure (.str [t])),some (.pure DD),none,none]) ?_
 rw [z0e (δ1:=[some (.pure ru),some (.pure (.str [t])),some (.own DD),none,none]) (by
  have i:iSq (eOpF pIx 0 (bOf (eD (.int 2)))) [some (.pure ru),some (.pure (.str [t])),none,none,none] = .ok B [some (.pure ru),some (.pure (.str [t])),none,none,none]:=by
   simp [z41,eOpF,eOpN,bVar,x2]
  simp only [z0f]
  simp [dAsg,i,z0C,clrD]
  rw [c]
  simp [z1r,hd])]
 have hW':z7Q (cloF (z07 z0i [.val (eVar 1),.val (eVar 0)]) [DD]) (.str [t])=some (.tup [z4b bs t M,.int (s:Nat)]):=hW
 clear hW hk
 generalize z07 z0i [.val (eVar 1),.val (eVar 0)]=FB at *
 simp [za8,eVar,z3Z,S.d,hW']
theorem z9I {ds:List (DKey×D)} {k:DKey} {v:D} (h:valD ds k=none):putD ds k v=ds ++ [(k,v)]:=by
 unfold putD
 rw [if_neg]
 intro q
 obtain ⟨kv,h1,h2⟩:=List.any_eq_true.mp q
 unfold valD at h
 have:=List.find?_eq_none.mp (by
  cases e:ds.find? fun kv=>decide (kv.1=k) with
  | none=>rfl
  | some p=>rw [e] at h; cases h) kv h1
 exact this h2
theorem z9G {h w:Nat} {bs:List (Nat×List Tx)} (R:Rul h w bs):z10 [.pure (ruD h w bs)]=some (.own (tD (bs.map (·.1))),[.pure (ruD h w bs)]):=by
 have n1:=R.n1
 have x2:=(z9E h w bs).2.2
 have c:=z0Z (cs:=[1,2]) (g:=gTp 2 (z0u (gNm [] 1) (z0u (gNm [] 2) z1W))) (t:=dYes) (el:=eVar 1) blD (fun b=>D.str [b.1]) [some (.pure (ruD h w bs)),none,none] bs [] (by rw [z0E]; simp; omega) (fun b hb=>⟨[some (.pure (ruD h w bs)),some (.pure (.str [b.1])),some (.pure (flD b.2))],_,.pure (.str [b.1]),[some (.pure (ruD h w bs)),some (.pure (.str [b.1])),some (.pure (flD b.2))],rfl,rfl,by simp [eVar],rfl,rfl⟩)
 have et:tD (bs.map (·.1)) = .lst (bs.map fun b=>D.str [b.1]):=by unfold tD; rw [Wy]; rfl
 rw [z10,z2e,et]
 generalize ruD h w bs=ru at *
 generalize hB:bs.map blD=B at *
 generalize (bs.map fun b=>D.str [b.1])=Y at *
 refine z7f (δ1:=[some (.pure ru),none,none]) ?_
 have i:iSq (eOpF pIx 0 (bOf (eD (.int 2)))) [some (.pure ru),none,none] = .ok B [some (.pure ru),none,none]:=by
  simp [z41,eOpF,eOpN,bVar,x2]
 simp only [z0f]
 simp [i,z0C,clrD]
 rw [c]
 simp [z1r]
def kd (K:List Nat):List (DKey×D):=K.map fun n=>(.inr [n],.bl true)
theorem zdl (K:List Nat) (n:Nat):valD (kd K) (.inr [n])=if n ∈ K then some (.bl true) else none:=by
 induction K with
 | nil=>rfl
 | cons a r ih =>
  unfold valD kd at ih ⊢
  rw [Wj,WT]
  by_cases e:a=n
  ·simp [e]
  ·have e':n≠a:=fun z=>e z.symm
   have:decide ((Sum.inr [a]:DKey)=Sum.inr [n])=false:=by simp [e]
   simp only [this,ih]
   simp [e']
theorem zdm (K:List Nat) (n:Nat):putD (kd K) (.inr [n]) (.bl true)=kd (if n ∈ K then K else K ++ [n]):=by
 by_cases h:n ∈ K
 ·rw [if_pos h]
  unfold putD
  have:(kd K).any (fun kv=>decide (kv.1 = .inr [n]))=true:=List.any_eq_true.mpr ⟨(.inr [n],.bl true),WU.mpr ⟨n,h,rfl⟩,by simp⟩
  rw [if_pos this]
  unfold kd
  rw [Wy]
  refine List.map_congr_left fun a _=>?_
  simp only [Function.comp]
  split
  ·rfl
  ·rfl
 ·rw [if_neg h,z9I (by rw [zdl,if_neg h])]
  unfold kd
  rw [WZ]
  rfl
abbrev s6 (ru so dd:D) (K:List Nat) (o4 o5:Option S):Dl:=[some (.pure ru),some (.pure so),some (.own dd),some (.own (.dct (kd K))),o4,o5]
theorem in2 (ru so dd:D) (ts:List Nat) (ht:ts.length≤26) (o4:Option S):∀ (z:Tx) (K:List Nat) (o5:Option S),(∀ n ∈ z,n ∈ ts)→K.Nodup→(∀ n ∈ K,n ∈ ts) →
  ∃ o5',forL (gNm [] 5) (z43 3 (eVar 5) (eD (.bl true))) (z.map fun n=>D.str [n]) (s6 ru so dd K o4 o5) = .ok .next (s6 ru so dd (ddN K z) o4 o5')
 | [],K,o5,_,_,_=>⟨o5,rfl⟩
 | a :: z,K,o5,hz,nd,hK=>by
  have hl:=z1i nd hK
  have nd':(if a ∈ K then K else K ++ [a]).Nodup:=by
   split
   ·exact nd
   ·rename_i q
    refine Jj.mpr ⟨nd,by simp,fun x hx y hy e=>q ?_⟩
    have:y=a:=by simpa using hy
    rw [← this,← e]; exact hx
  have hK':∀ n ∈ (if a ∈ K then K else K ++ [a]),n ∈ ts:=fun n hn=>by
   split at hn
   ·exact hK n hn
   ·rcases QQ.mp hn with q | q
    ·exact hK n q
    ·have:n=a:=by simpa using q
     rw [this]; exact hz a Wg
  obtain ⟨o5',e⟩:=in2 ru so dd ts ht o4 z _ (some (.pure (.str [a]))) (fun n hn=>hz n (Wd _ hn)) nd' hK'
  have ed:ddN K (a :: z)=ddN (if a ∈ K then K else K ++ [a]) z:=by
   conv=>lhs; unfold ddN
   split <;> rfl
  refine ⟨o5',?_⟩
  rw [ed,← e,Wj,z2Z (δ1:=s6 ru so dd K o4 (some (.pure (.str [a])))) rfl]
  have hz':(kd K).length < W7:=by rw [z0E]; unfold kd; rw [Wx]; omega
  have:=zdm K a
  unfold s6
  rw [← this]
  generalize kd K=ds at *
  simp [z43,z4z,eVar,S.d,keyD,hz']
theorem out2 {h w:Nat} {bs:List (Nat×List Tx)} (R:Rul h w bs) (ru so:D):∀ (z:Tx) (K:List Nat) (o4 o5:Option S),(∀ n ∈ z,n ∈ bs.map (·.1))→K.Nodup→(∀ n ∈ K,n ∈ bs.map (·.1)) →
  ∃ K' o4' o5',K'.Nodup∧(∀ n ∈ K',n ∈ bs.map (·.1))∧(∀ x,x ∈ K' ↔ x ∈ K∨∃ y ∈ z,x ∈ (blk bs y).flatten) ∧
   forL (gNm [] 4) (dFor (iSq (eC1 (z1m []) (bOf (eOpF pIxX 2 (bVar 4))))) (gNm [] 5) (z43 3 (eVar 5) (eD (.bl true)))) (z.map fun n=>D.str [n]) (s6 ru so (dcM bs) K o4 o5) = .ok .next (s6 ru so (dcM bs) K' o4' o5')
 | [],K,o4,o5,_,nd,hK=>⟨K,o4,o5,nd,hK,fun x=>by simp,rfl⟩
 | a :: z,K,o4,o5,hz,nd,hK=>by
  have n1:=R.n1
  have ha:=hz a Wg
  obtain ⟨o5',e⟩:=in2 ru so (dcM bs) (bs.map (·.1)) (by simpa using n1) (some (.pure (.str [a]))) (blk bs a).flatten K o5 (fun n hn=>z30 R ha hn) nd hK
  have nd':=z7l (z:=(blk bs a).flatten) nd
  have hK':∀ n ∈ ddN K (blk bs a).flatten,n ∈ bs.map (·.1):=fun n hn=>by
   rcases ddN_mem.mp hn with q | q
   ·exact hK n q
   ·exact z30 R ha q
  obtain ⟨K',p4,p5,a1,a2,a3,e2⟩:=out2 R ru so z _ (some (.pure (.str [a]))) o5' (fun n hn=>hz n (Wd _ hn)) nd' hK'
  refine ⟨K',p4,p5,a1,a2,fun x=>?_,?_⟩
  ·rw [a3 x,ddN_mem]
   constructor
   ·rintro ((q | q) | ⟨y,q1,q2⟩)
    ·exact .inl q
    ·exact .inr ⟨a,Wg,q⟩
    ·exact .inr ⟨y,Wd _ q1,q2⟩
   ·rintro (q | ⟨y,q1,q2⟩)
    ·exact .inl (.inl q)
    ·rcases Wf.mp q1 with rfl | q1
     ·exact .inl (.inr q2)
     ·exact .inr ⟨y,q1,q2⟩
  ·have hx:=ix_dc ha
   obtain ⟨b,hb,_,_,eb⟩:=z49 ha
   have j:z1m [] (flD (blk bs a))=some (.pure (.str (blk bs a).flatten)):=z79 _ (by
    rw [z1a,eb]
    have:=(z9t R hb).1
    omega)
   rw [← e2,Wj,z2Z (δ1:=s6 ru so (dcM bs) K (some (.pure (.str [a]))) o5) rfl]
   refine (z2Y (ds:=(blk bs a).flatten.map fun n=>D.str [n]) ?_).trans e
   unfold s6
   generalize (blk bs a).flatten=BF at *
   generalize flD (blk bs a)=BB at *
   generalize dcM bs=DD at *
   simp [z41,eOpF,eOpN,bVar,hx,j,S.d]
theorem zbc {h w:Nat} {bs:List (Nat×List Tx)} (R:Rul h w bs) {z:Tx} (hz:∀ n ∈ z,n ∈ bs.map (·.1)):z0a [.pure (ruD h w bs),.pure (tD z)]=some (.own (tD (nxt bs z)),[.pure (ruD h w bs),.pure (tD z)]):=by
 have n1:=R.n1
 have x2:=(z9E h w bs).2.2
 have hd:=dictM R
 obtain ⟨K,o4,o5,nd,hK,hm,e⟩:=out2 R (ruD h w bs) (tD z) z [] none none hz List.nodup_nil (by simp)
 have hl:=z1i nd hK
 rw [Wx] at hl
 have hs:z1J K=nxt bs z:=z8O (z3s nd) (z82 _) fun x=>by
  rw [sortN_mem,hm x,nxt_mem]
  simp
 have p1:z4v (.dct (kd K))=some (.own (.lst (K.map fun n=>.str [n]))):=by
  show some (S.own (D.lst ((kd K).map fun p=>kyD p.1)))=_
  unfold kd
  rw [Wy]
  rfl
 have p2:=z4C K (by omega)
 rw [hs] at p2
 have ez:tD z = .lst (z.map fun n=>D.str [n]):=rfl
 have et:tD (nxt bs z) = .lst ((nxt bs z).map fun n=>D.str [n]):=rfl
 rw [z0a,z1b,et]
 generalize ((nxt bs z).map fun n=>D.str [n])=Y at *
 generalize (z.map fun n=>D.str [n])=ZS at *
 generalize tD z=T at *
 generalize ruD h w bs=ru at *
 generalize D.tup (bs.map blD)=bd at *
 generalize dcM bs=dd at *
 refine z93 (δ1:=s6 ru T dd K o4 o5) ?_
 rw [z0e (δ1:=[some (.pure ru),some (.pure T),some (.own dd),none,none,none]) (by simp [z0f,dAsg,eOpF,eOpN,bVar,x2,hd])]
 rw [z0e (δ1:=s6 ru T dd [] none none) (by simp [dAsg,z65,kd])]
 have i:iSq (eVar 1) (s6 ru T dd [] none none) = .ok ZS (s6 ru T dd [] none none):=by simp [z41,eVar,S.d,ez]
 rw [z0e ((z2Y i).trans e)]
 unfold s6
 generalize kd K=kk at *
 simp [bVar,p1,p2]
theorem zaI:∀ a b:List Nat,eqDs (a.map fun n=>D.str [n]) (b.map fun n=>D.str [n])=decide (a=b)
 | [],[]=>rfl
 | [],_ :: _=>rfl
 | _ :: _,[]=>rfl
 | x :: a,y :: b=>by
  rw [Wj,Wj]
  show (eqD (.str [x]) (.str [y]) && eqDs (a.map fun n=>D.str [n]) (b.map fun n=>D.str [n]))=_
  rw [zaI a b]
  show ((([x]:Tx) == [y]) && decide (a=b))=_
  by_cases h1:x=y <;> by_cases h2:a=b <;> simp [h1,h2]
theorem z5a:∀ a:List Nat,z40 49 (a.map fun n=>D.str [n])=true
 | []=>rfl
 | x :: a=>by
  show (flat 49 (.str [x]) && z40 49 (a.map fun n=>D.str [n]))=true
  rw [z5a a]
  rfl
theorem eq_tD (a b:List Nat):pEq (tD a) (tD b)=some (.pure (.bl (decide (a=b)))):=by
 unfold pEq
 have h1:flat 50 (tD a)=true:=z5a a
 have h2:flat 50 (tD b)=true:=z5a b
 have h3:eqD (tD a) (tD b)=decide (a=b):=zaI a b
 rw [h1,h2,h3]
 rfl
theorem z6c {A:Type} (p:A→Bool):∀ l:List A,z48 (l.map fun a=>D.bl (p a))=some (l.map p)
 | []=>rfl
 | a :: r=>by
  rw [Wj,Wj]
  show (z48 (r.map fun a=>D.bl (p a))).map (p a :: ·)=_
  rw [z6c p r]
  rfl
theorem z7D (f g:DE) (δ:Dl):z2j f g δ=(f δ).bind fun r δ1=>(g δ1).bind fun s δ2=>match r,s with
 | .pure (.int i),.pure (.int j)=>.ok (z0k i (j - i).toNat) δ2
 | _,_=>.stuck:=id rfl
abbrev nowD (bs:List (Nat×List Tx)) (k:Nat):D:=.lst ((bs.map (·.1)).map fun t=>tD (sq bs t k))
abbrev u7 (ru:D) (ev nw:Option S) (o3:Option S):Dl:=[some (.pure ru),ev,nw,o3,none,none,none]
abbrev uB:DS:=(dSeq (dAsg (z1t [6] (iSq (eVar 2)) (gNm [] 6) dYes (z07 z0a [.val (eVar 0),.val (eVar 6)])) (gNm [] 2)) (dIf (dTr (eC1 pAll (bOf (z1t [6] (iSq (eVar 2)) (gNm [] 6) dYes (eOpF pEq 6 (bVar 1)))))) (dRet (eVar 3)) z1C))
theorem zbS (bs:List (Nat×List Tx)) (k:Nat):((bs.map (·.1)).map fun t=>decide (sq bs t k=bs.map (·.1))).all (fun b=>b)=true ↔ All bs k:=by
 rw [List.all_eq_true]
 unfold All
 constructor
 ·intro h t ht
  simpa using h _ (WU.mpr ⟨t,ht,rfl⟩)
 ·intro h b hb
  obtain ⟨t,ht,rfl⟩:=WU.mp hb
  simpa using h t ht
theorem za9 {h w:Nat} {bs:List (Nat×List Tx)} (R:Rul h w bs) (i:Nat) (ii:Int) (s:S) (hs:s = .own (nowD bs i)∨s = .pure (nowD bs i)):∃ (b:Bool),(b=true ↔ All bs (i + 1)) ∧
  uB (u7 (ruD h w bs) (some (.pure (tD (bs.map (·.1))))) (some s) (some (.pure (.int ii)))) = .ok (if b then .ret (.pure (.int ii)) else .next) (u7 (ruD h w bs) (some (.pure (tD (bs.map (·.1))))) (some (.pure (nowD bs (i + 1)))) (some (.pure (.int ii)))):=by
 have n1:=R.n1
 have c1:=z0Z (cs:=[6]) (g:=gNm [] 6) (t:=dYes) (el:=z07 z0a [.val (eVar 0),.val (eVar 6)]) (fun t=>tD (sq bs t i)) (fun t=>tD (sq bs t (i + 1))) (u7 (ruD h w bs) (some (.pure (tD (bs.map (·.1))))) (some (.pure (nowD bs i))) (some (.pure (.int ii)))) (bs.map (·.1)) [] (by rw [z0E]; simp; omega) (fun t ht=>by
  have g:z0a [.pure (ruD h w bs),.pure (tD (sq bs t i))]=some (.own (tD (sq bs t (i + 1))),[.pure (ruD h w bs),.pure (tD (sq bs t i))]):=zbc R (z25 R ht i)
  refine ⟨[some (.pure (ruD h w bs)),some (.pure (tD (bs.map (·.1)))),some (.pure (nowD bs i)),some (.pure (.int ii)),none,none,some (.pure (tD (sq bs t i)))],_,.own (tD (sq bs t (i + 1))),[some (.pure (ruD h w bs)),some (.pure (tD (bs.map (·.1)))),some (.pure (nowD bs i)),some (.pure (.int ii)),none,none,some (.pure (tD (sq bs t i)))],rfl,rfl,?_,rfl,rfl⟩
  generalize tD (sq bs t (i + 1))=N at *
  generalize tD (sq bs t i)=T0 at *
  generalize tD (bs.map (·.1))=TS at *
  generalize nowD bs i=NW at *
  generalize ruD h w bs=ru at *
  simp [z07,ios,ndup,evX,eVar,mkA,g,putA])
 have c2:=z0Z (cs:=[6]) (g:=gNm [] 6) (t:=dYes) (el:=eOpF pEq 6 (bVar 1)) (fun t=>tD (sq bs t (i + 1))) (fun t=>D.bl (decide (sq bs t (i + 1)=bs.map (·.1)))) (u7 (ruD h w bs) (some (.pure (tD (bs.map (·.1))))) (some (.pure (nowD bs (i + 1)))) (some (.pure (.int ii)))) (bs.map (·.1)) [] (by rw [z0E]; simp; omega) (fun t ht=>by
  have q:=eq_tD (sq bs t (i + 1)) (bs.map (·.1))
  refine ⟨[some (.pure (ruD h w bs)),some (.pure (tD (bs.map (·.1)))),some (.pure (nowD bs (i + 1))),some (.pure (.int ii)),none,none,some (.pure (tD (sq bs t (i + 1))))],_,.pure (.bl (decide (sq bs t (i + 1)=bs.map (·.1)))),[some (.pure (ruD h w bs)),some (.pure (tD (bs.map (·.1)))),some (.pure (nowD bs (i + 1))),some (.pure (.int ii)),none,none,some (.pure (tD (sq bs t (i + 1))))],rfl,rfl,?_,rfl,rfl⟩
  generalize decide (sq bs t (i + 1)=bs.map (·.1))=dd at *
  generalize tD (sq bs t (i + 1))=N at *
  generalize tD (bs.map (·.1))=TS at *
  generalize nowD bs (i + 1)=NW at *
  generalize ruD h w bs=ru at *
  simp [eOpF,eOpN,bVar,q])
 have pa:pAll (.lst ((bs.map (·.1)).map fun t=>D.bl (decide (sq bs t (i + 1)=bs.map (·.1)))))=some (.pure (.bl (((bs.map (·.1)).map fun t=>decide (sq bs t (i + 1)=bs.map (·.1))).all fun b=>b))):=by
  show (z48 _).map _=_
  rw [z6c]
  rfl
 refine ⟨((bs.map (·.1)).map fun t=>decide (sq bs t (i + 1)=bs.map (·.1))).all fun b=>b,zbS bs (i + 1),?_⟩
 have e0:nowD bs i = .lst ((bs.map (·.1)).map fun t=>tD (sq bs t i)):=rfl
 have e1:nowD bs (i + 1) = .lst ((bs.map (·.1)).map fun t=>tD (sq bs t (i + 1))):=rfl
 rw [Qe] at c1 c2
 generalize ((bs.map (·.1)).map fun t=>decide (sq bs t (i + 1)=bs.map (·.1))).all (fun b=>b)=bb at *
 generalize ((bs.map (·.1)).map fun t=>D.bl (decide (sq bs t (i + 1)=bs.map (·.1))))=BL at *
 generalize ((bs.map (·.1)).map fun t=>tD (sq bs t (i + 1)))=L1 at *
 generalize ((bs.map (·.1)).map fun t=>tD (sq bs t i))=L0 at *
 generalize nowD bs (i + 1)=N1 at *
 generalize nowD bs i=N0 at *
 generalize tD (bs.map (·.1))=TS at *
 generalize ruD h w bs=ru at *
 have k1:dAsg (z1t [6] (iSq (eVar 2)) (gNm [] 6) dYes (z07 z0a [.val (eVar 0),.val (eVar 6)])) (gNm [] 2) (u7 ru (some (.pure TS)) (some s) (some (.pure (.int ii)))) = .ok .next (u7 ru (some (.pure TS)) (some (.own N1)) (some (.pure (.int ii)))):=by
  have iq:iSq (eVar 2) (u7 ru (some (.pure TS)) (some s) (some (.pure (.int ii)))) = .ok L0 (u7 ru (some (.pure TS)) (some (.pure N0)) (some (.pure (.int ii)))):=by
   rcases hs with rfl | rfl <;> simp [z41,eVar,S.d,e0]
  unfold dAsg
  rw [z5d,iq]
  simp only [z0Q]
  rw [if_neg (by simp [z0C])]
  have:clrD [6] (u7 ru (some (.pure TS)) (some (.pure N0)) (some (.pure (.int ii))))=u7 ru (some (.pure TS)) (some (.pure N0)) (some (.pure (.int ii))):=rfl
  rw [this,c1,e1]
  rfl
 rw [uB,z0e k1]
 have iq:iSq (eVar 2) (u7 ru (some (.pure TS)) (some (.own N1)) (some (.pure (.int ii)))) = .ok L1 (u7 ru (some (.pure TS)) (some (.pure N1)) (some (.pure (.int ii)))):=by
  simp [z41,eVar,S.d,e1]
 have ec:z1t [6] (iSq (eVar 2)) (gNm [] 6) dYes (eOpF pEq 6 (bVar 1)) (u7 ru (some (.pure TS)) (some (.own N1)) (some (.pure (.int ii)))) = .ok (.own (.lst BL)) (u7 ru (some (.pure TS)) (some (.pure N1)) (some (.pure (.int ii)))):=by
  rw [z5d,iq]
  simp only [z0Q]
  rw [if_neg (by simp [z0C])]
  have:clrD [6] (u7 ru (some (.pure TS)) (some (.pure N1)) (some (.pure (.int ii))))=u7 ru (some (.pure TS)) (some (.pure N1)) (some (.pure (.int ii))):=rfl
  rw [this,c2]
  rfl
 generalize z1t [6] (iSq (eVar 2)) (gNm [] 6) dYes (eOpF pEq 6 (bVar 1))=EC at *
 cases bb <;> simp [dTr,ec,pa,eVar]
theorem z7k {h w:Nat} {bs:List (Nat×List Tx)} (R:Rul h w bs):∀ (m i:Nat) (s:S) (o3:Option S),(s = .own (nowD bs i)∨s = .pure (nowD bs i))→(∀ j,1≤j→j≤i→¬ All bs j) →
  ∃ r δ',forL (gNm [] 3) uB (z0k ((i + 1:Nat):Int) m) (u7 (ruD h w bs) (some (.pure (tD (bs.map (·.1))))) (some s) o3) = .ok r δ'∧((r = .next∧∀ j,1≤j→j≤i + m→¬ All bs j)∨∃ k:Nat,r = .ret (.pure (.int (k:Int)))∧Res bs (some k))
 | 0,i,s,o3,_,hn=>⟨_,_,rfl,.inl ⟨rfl,hn⟩⟩
 | m + 1,i,s,o3,hs,hn=>by
  obtain ⟨b,hb,e⟩:=za9 R i ((i + 1:Nat):Int) s hs
  rw [z7r]
  cases b with
  | true =>
   refine ⟨.ret (.pure (.int ((i + 1:Nat):Int))),u7 (ruD h w bs) (some (.pure (tD (bs.map (·.1))))) (some (.pure (nowD bs (i + 1)))) (some (.pure (.int ((i + 1:Nat):Int)))),?_,.inr ⟨i + 1,rfl,by omega,hb.mp rfl,fun j h1 h2=>hn j h1 (by omega)⟩⟩
   show (uB _).bind _=_
   rw [show ((u7 (ruD h w bs) (some (.pure (tD (bs.map (·.1))))) (some s) o3).set 3 (some (.pure (.int ((i + 1:Nat):Int)))))=u7 (ruD h w bs) (some (.pure (tD (bs.map (·.1))))) (some s) (some (.pure (.int ((i + 1:Nat):Int)))) from rfl,e]
   rfl
  | false =>
   have nA:¬ All bs (i + 1):=fun q=>by have:=hb.mpr q; cases this
   obtain ⟨r,δ',e2,hr⟩:=z7k R m (i + 1) _ (some (.pure (.int ((i + 1:Nat):Int)))) (.inr rfl) fun j h1 h2=>by
    by_cases q:j=i + 1
    ·rw [q]; exact nA
    ·exact hn j h1 (by omega)
   refine ⟨r,δ',?_,?_⟩
   ·rw [z2Z (δ1:=u7 (ruD h w bs) (some (.pure (tD (bs.map (·.1))))) (some s) (some (.pure (.int ((i + 1:Nat):Int))))) rfl e]
    exact e2
   ·rw [show i + (m + 1)=i + 1 + m by omega]
    exact hr
def oD:Option Nat→D
 | some m=>.int (m:Int)
 | none=>.non
theorem r_due {h w:Nat} {bs:List (Nat×List Tx)} (R:Rul h w bs):∃ o,Res bs o∧z12 [.pure (ruD h w bs)]=some (.pure (oD o),[.pure (ruD h w bs)]):=by
 have n1:=R.n1
 have n0:=R.n0
 have x2:=(z9E h w bs).2.2
 have c1:=z0Z (cs:=[4]) (g:=gNm [] 4) (t:=dYes) (el:=eOpF pIx 4 (bOf (eD (.int 0)))) blD (fun b=>D.str [b.1]) [some (.pure (ruD h w bs)),none,none,none,none,none,none] bs [] (by rw [z0E]; simp; omega) (fun b hb=>by
  have q:pIx (blD b) (.int 0)=some (.pure (.str [b.1])):=by simp [pIx,atI,ixN]
  refine ⟨[some (.pure (ruD h w bs)),none,none,none,some (.pure (blD b)),none,none],_,.pure (.str [b.1]),[some (.pure (ruD h w bs)),none,none,none,some (.pure (blD b)),none,none],rfl,rfl,?_,rfl,rfl⟩
  generalize blD b=B at *
  simp [eOpF,eOpN,bVar,q])
 have c2:=z0Z (cs:=[5]) (g:=gNm [] 5) (t:=dYes) (el:=eLst (z0F (eVar 5) aNil)) (fun t:Nat=>D.str [t]) (fun t=>tD (sq bs t 0)) (u7 (ruD h w bs) (some (.pure (tD (bs.map (·.1))))) none none) (bs.map (·.1)) [] (by rw [z0E]; simp; omega) (fun t ht=>by
  refine ⟨[some (.pure (ruD h w bs)),some (.pure (tD (bs.map (·.1)))),none,none,none,some (.pure (.str [t])),none],_,.own (tD (sq bs t 0)),[some (.pure (ruD h w bs)),some (.pure (tD (bs.map (·.1)))),none,none,none,some (.pure (.str [t])),none],rfl,rfl,?_,rfl,rfl⟩
  generalize tD (bs.map (·.1))=TS at *
  simp [eVar,tD,sq])
 obtain ⟨r,δ',el,hr⟩:=z7k R (bs.length * bs.length + 1) 0 (.own (nowD bs 0)) none (.inl rfl) (fun j h1 h2=>by omega)
 have hlen:pLen (tD (bs.map (·.1)))=some (.pure (.int ((bs.length:Nat):Int))):=by simp [tD,pLen]
 have mu:=mul_int ((bs.length:Nat):Int) ((bs.length:Nat):Int) (by omega) (by omega)
 have eN:nowD bs 0 = .lst ((bs.map (·.1)).map fun t=>tD (sq bs t 0)):=rfl
 have eT:tD (bs.map (·.1)) = .lst (bs.map fun b=>D.str [b.1]):=by unfold tD; rw [Wy]; rfl
 have eT2:tD (bs.map (·.1)) = .lst ((bs.map (·.1)).map fun t=>D.str [t]):=rfl
 have hto:((((bs.length:Nat):Int) * ((bs.length:Nat):Int) + 2) - 1).toNat=bs.length * bs.length + 1:=by
  rw [← Int.natCast_mul]
  omega
 rw [Qe] at c1 c2
 have el':forL (gNm [] 3) uB (z0k 1 (bs.length * bs.length + 1)) (u7 (ruD h w bs) (some (.pure (tD (bs.map (·.1))))) (some (.own (nowD bs 0))) none) = .ok r δ':=el
 have nores:(∀ j,1≤j→j≤0 + (bs.length * bs.length + 1)→¬ All bs j)→Res bs none:=fun hn j hj=>by
  refine hn (bs.length * bs.length + 1) (by omega) (by omega) fun t ht=>?_
  exact z58 R ht (zbG R ht (hj t ht)) (by omega)
 generalize ((bs.map (·.1)).map fun t=>tD (sq bs t 0))=NL at *
 generalize nowD bs 0=NW at *
 generalize (bs.map fun b=>D.str [b.1])=TL at *
 generalize ((bs.map (·.1)).map fun t=>D.str [t])=TL2 at *
 generalize tD (bs.map (·.1))=TS at *
 generalize hB:bs.map blD=B at *
 have run:∀ o,(dSeq (dFor (z2j (eD (.int 1)) (eOp pAdd (eOp z2n (eC1 pLen (bVar 1)) (bOf (eC1 pLen (bVar 1)))) (bOf (eD (.int 2))))) (gNm [] 3) uB) (dRet (eD .non))) (u7 (ruD h w bs) (some (.pure TS)) (some (.own NW)) none) = .ok (.ret (.pure (oD o))) δ'→z12 [.pure (ruD h w bs)]=some (.pure (oD o),[.pure (ruD h w bs)]):=fun o e=>by
  rw [z12,z3f]
  generalize ruD h w bs=ru at *
  refine z7f (δ1:=δ') ?_
  have i1:iSq (eOpF pIx 0 (bOf (eD (.int 2)))) [some (.pure ru),none,none,none,none,none,none] = .ok B [some (.pure ru),none,none,none,none,none,none]:=by
   simp [z41,eOpF,eOpN,bVar,x2]
  rw [z0e (δ1:=u7 ru (some (.own TS)) none none) (by
   simp only [z0f]
   simp [dAsg,i1,z0C,clrD]
   rw [c1,eT]
   rfl)]
  have i2:iSq (eVar 1) (u7 ru (some (.own TS)) none none) = .ok TL2 (u7 ru (some (.pure TS)) none none):=by
   simp [z41,eVar,S.d,eT2]
  rw [z0e (δ1:=u7 ru (some (.pure TS)) (some (.own NW)) none) (by
   unfold dAsg
   rw [z5d,i2]
   simp only [z0Q]
   rw [if_neg (by simp [z0C])]
   have:clrD [5] (u7 ru (some (.pure TS)) none none)=u7 ru (some (.pure TS)) none none:=rfl
   rw [this,c2,eN]
   rfl)]
  exact e
 have iq:z2j (eD (.int 1)) (eOp pAdd (eOp z2n (eC1 pLen (bVar 1)) (bOf (eC1 pLen (bVar 1)))) (bOf (eD (.int 2)))) (u7 (ruD h w bs) (some (.pure TS)) (some (.own NW)) none) = .ok (z0k 1 (bs.length * bs.length + 1)) (u7 (ruD h w bs) (some (.pure TS)) (some (.own NW)) none):=by
  rw [← hto]
  generalize ruD h w bs=ru at *
  generalize ((bs.length:Nat):Int)=nn at *
  simp [z7D,bVar,hlen,mu,add_int]
 rcases hr with ⟨rfl,hn⟩ | ⟨k,rfl,hk⟩
 ·refine ⟨none,nores hn,run none ?_⟩
  rw [z0e ((z2Y iq).trans el')]
  rfl
 ·exact ⟨some k,hk,run (some k) (z6q ((z2Y iq).trans el'))⟩
theorem lt_int (i j:Int):pLt (.int i) (.int j)=some (.pure (.bl (decide (i < j)))):=rfl
theorem z9W (i j:Int):pMax (.int i) (.int j)=some (.pure (.int (if j > i then j else i))):=rfl
abbrev v6 (ru ti:D) (L:Nat) (o3 o4 o5:Option S):Dl:=[some (.pure ru),some (.pure ti),some (.pure (.int (L:Int))),o3,o4,o5]
abbrev vB:DS:=(dSeq (dAsg (z07 z0P [.val (eVar 0),.val (eVar 3)]) (gTp 2 (z0u (gNm [] 4) (z0u (gNm [] 5) z1W)))) (dSeq (dIf (dTr (eOp pLt (eC1 pLen (bOf (eOpF pIx 4 (bVar 5)))) (bOf (eC1 pLen (bVar 1))))) (dRet (eD .non)) z1C) (dAsg (eMax (eVar 2) (eVar 5)) (gNm [] 2))))
theorem z9V {h w t:Nat} {bs:List (Nat×List Tx)} (G:GoodB h w bs) (ht:t ∈ bs.map (·.1)) (L:Nat) (o4 o5:Option S) :
  (∃ δ',vB (v6 (ruD h w bs) (tD (bs.map (·.1))) L (some (.pure (.str [t]))) o4 o5) = .ok (.ret (.pure .non)) δ'∧∀ m,sq bs t m≠bs.map (·.1)) ∨
  (∃ (s:Nat) (q4 q5:Option S),vB (v6 (ruD h w bs) (tD (bs.map (·.1))) L (some (.pure (.str [t]))) o4 o5) = .ok .next (v6 (ruD h w bs) (tD (bs.map (·.1))) (max L s) (some (.pure (.str [t]))) q4 q5)∧sq bs t s=bs.map (·.1)∧∀ j,j < s→sq bs t j≠bs.map (·.1)):=by
 have R:=G.R
 have n1:=R.n1
 obtain ⟨M,s,hs,e,hM,nd,g⟩:=zcp G ht
 have hx:pIx (z4b bs t M) (.int (s:Int))=some (.pure (.str (sq bs t s))):=by
  show (atI ((Wr M).map fun k=>D.str (sq bs t k)) (s:Int)).map S.pure=_
  rw [z1c,Wz,J4 hs]
  rfl
 have hl:=zar R ht s
 have l1:=z9Y (sq bs t s) (by omega)
 have hlen:pLen (tD (bs.map (·.1)))=some (.pure (.int ((bs.length:Nat):Int))):=by simp [tD,pLen]
 have fl:=z7g R ht s
 have k1:dAsg (z07 z0P [.val (eVar 0),.val (eVar 3)]) (gTp 2 (z0u (gNm [] 4) (z0u (gNm [] 5) z1W))) (v6 (ruD h w bs) (tD (bs.map (·.1))) L (some (.pure (.str [t]))) o4 o5) = .ok .next (v6 (ruD h w bs) (tD (bs.map (·.1))) L (some (.pure (.str [t]))) (some (.pure (z4b bs t M))) (some (.pure (.int (s:Nat))))):=by
  generalize z4b bs t M=LL at *
  generalize tD (bs.map (·.1))=TS at *
  generalize ruD h w bs=ru at *
  simp [dAsg,z07,ios,ndup,evX,eVar,mkA,g,putA,gTp,z0u,z1W]
 by_cases q:sq bs t s=bs.map (·.1)
 ·refine .inr ⟨s,some (.pure (z4b bs t M)),some (.pure (.int (s:Nat))),?_,q,(z4m R ht hs e nd q).2⟩
  have hge:=fl.mp q
  have hn:¬ ((Qu (sq bs t s):Nat):Int) < ((bs.length:Nat):Int):=by omega
  rw [vB,z0e k1]
  have em:(if (s:Int) > (L:Int) then (s:Int) else (L:Int))=((max L s:Nat):Int):=by
   split <;> omega
  have mx:=z9W (L:Int) (s:Int)
  rw [em] at mx
  generalize max L s=LM at *
  generalize sq bs t s=SQ at *
  generalize z4b bs t M=LL at *
  generalize tD (bs.map (·.1))=TS at *
  generalize ruD h w bs=ru at *
  simp [dTr,eOpF,eOpN,bVar,hx,l1,hlen,lt_int,hn,dAsg,eMax,eVar,S.d,mx]
 ·refine .inl ⟨v6 (ruD h w bs) (tD (bs.map (·.1))) L (some (.pure (.str [t]))) (some (.pure (z4b bs t M))) (some (.pure (.int (s:Nat)))),?_,fun m hm=>q (z4m R ht hs e nd hm).1⟩
  have hn:((Qu (sq bs t s):Nat):Int) < ((bs.length:Nat):Int):=by
   by_cases z:bs.length≤(sq bs t s).length
   ·exact absurd (fl.mpr z) q
   ·omega
  rw [vB,z0e k1]
  refine z6q ?_
  clear q
  generalize sq bs t s=SQ at *
  generalize z4b bs t M=LL at *
  generalize tD (bs.map (·.1))=TS at *
  generalize ruD h w bs=ru at *
  simp [dTr,eOpF,eOpN,bVar,hx,l1,hlen,lt_int,hn]
theorem z77 {h w:Nat} {bs:List (Nat×List Tx)} (G:GoodB h w bs):∀ (l:List Nat) (L:Nat) (o3 o4 o5:Option S),(∀ t ∈ l,t ∈ bs.map (·.1)) →
  (∃ δ',forL (gNm [] 3) vB (l.map fun n=>D.str [n]) (v6 (ruD h w bs) (tD (bs.map (·.1))) L o3 o4 o5) = .ok (.ret (.pure .non)) δ'∧∃ t ∈ bs.map (·.1),∀ m,sq bs t m≠bs.map (·.1)) ∨
  (∃ (L':Nat) (q3 q4 q5:Option S),forL (gNm [] 3) vB (l.map fun n=>D.str [n]) (v6 (ruD h w bs) (tD (bs.map (·.1))) L o3 o4 o5) = .ok .next (v6 (ruD h w bs) (tD (bs.map (·.1))) L' q3 q4 q5)∧L≤L'∧(∀ t ∈ l,sq bs t L'=bs.map (·.1))∧(L'=L∨∃ t ∈ bs.map (·.1),∀ j,j < L'→sq bs t j≠bs.map (·.1)))
 | [],L,o3,o4,o5,_=>.inr ⟨L,o3,o4,o5,rfl,Wb _,(fun t h=>by cases h),.inl rfl⟩
 | a :: l,L,o3,o4,o5,hl=>by
  have ha:=hl a Wg
  rcases z9V G ha L o4 o5 with ⟨δ',e,hn⟩ | ⟨s,q4,q5,e,hf,hm⟩
  ·refine .inl ⟨δ',?_,a,ha,hn⟩
   rw [Wj]
   show (vB _).bind _=_
   rw [show ((v6 (ruD h w bs) (tD (bs.map (·.1))) L o3 o4 o5).set 3 (some (.pure (.str [a]))))=v6 (ruD h w bs) (tD (bs.map (·.1))) L (some (.pure (.str [a]))) o4 o5 from rfl,e]
   rfl
  ·have st:forL (gNm [] 3) vB ((a :: l).map fun n=>D.str [n]) (v6 (ruD h w bs) (tD (bs.map (·.1))) L o3 o4 o5)=forL (gNm [] 3) vB (l.map fun n=>D.str [n]) (v6 (ruD h w bs) (tD (bs.map (·.1))) (max L s) (some (.pure (.str [a]))) q4 q5):=by
    rw [Wj,z2Z (δ1:=v6 (ruD h w bs) (tD (bs.map (·.1))) L (some (.pure (.str [a]))) o4 o5) rfl e]
   rcases z77 G l (max L s) (some (.pure (.str [a]))) q4 q5 (fun t ht=>hl t (Wd _ ht)) with ⟨δ',e2,hn⟩ | ⟨L',p3,p4,p5,e2,hL,hall,hmin⟩
   ·exact .inl ⟨δ',by rw [st]; exact e2,hn⟩
   ·refine .inr ⟨L',p3,p4,p5,by rw [st]; exact e2,by omega,fun t ht=>?_,?_⟩
    ·rcases Wf.mp ht with rfl | ht
     ·exact z58 G.R ha hf (by omega)
     ·exact hall t ht
    ·rcases hmin with z | z
     ·by_cases q:s≤L
      ·exact .inl (by omega)
      ·exact .inr ⟨a,ha,fun j hj=>hm j (by omega)⟩
     ·exact .inr z
theorem r_mix {h w:Nat} {bs:List (Nat×List Tx)} (G:GoodB h w bs):∃ o,Res bs o∧z0w [.pure (ruD h w bs)]=some (.pure (oD o),[.pure (ruD h w bs)]):=by
 have gt:=z9G G.R
 have eT:tD (bs.map (·.1)) = .lst ((bs.map (·.1)).map fun t=>D.str [t]):=rfl
 have iq:iSq (eVar 1) [some (.pure (ruD h w bs)),some (.own (tD (bs.map (·.1)))),some (.pure (.int 1)),none,none,none] = .ok ((bs.map (·.1)).map fun t=>D.str [t]) (v6 (ruD h w bs) (tD (bs.map (·.1))) 1 none none none):=by
  simp [z41,eVar,S.d,tD]
 have z1y:∀ o δ2,(dSeq (dFor (iSq (eVar 1)) (gNm [] 3) vB) (dRet (eVar 2))) [some (.pure (ruD h w bs)),some (.own (tD (bs.map (·.1)))),some (.pure (.int 1)),none,none,none] = .ok (.ret (.pure (oD o))) δ2→z0w [.pure (ruD h w bs)]=some (.pure (oD o),[.pure (ruD h w bs)]):=fun o δ2 e2=>by
  rw [z0w,z1Z]
  clear iq
  generalize tD (bs.map (·.1))=TS at *
  generalize ruD h w bs=ru at *
  refine z7f (δ1:=δ2) ?_
  rw [z0e (δ1:=[some (.pure ru),some (.own TS),none,none,none,none]) (by simp [z0f,dAsg,z07,ios,ndup,evX,eVar,mkA,gt,putA])]
  rw [z0e (δ1:=[some (.pure ru),some (.own TS),some (.pure (.int 1)),none,none,none]) (by simp [dAsg])]
  exact e2
 rcases z77 G (bs.map (·.1)) 1 none none none (fun t h=>h) with ⟨δ',e,t,ht,hn⟩ | ⟨L',q3,q4,q5,e,hL,hall,hmin⟩
 ·exact ⟨none,fun j hj=>hn j (hj t ht),z1y none δ' (z6q ((z2Y iq).trans e))⟩
 ·refine ⟨some L',⟨hL,hall,fun j h1 h2 hj=>?_⟩,z1y (some L') (v6 (ruD h w bs) (tD (bs.map (·.1))) L' q3 q4 q5) (by
   rw [z0e ((z2Y iq).trans e)]
   clear iq e z1y
   generalize tD (bs.map (·.1))=TS at *
   generalize ruD h w bs=ru at *
   simp [eVar,oD])⟩
  rcases hmin with z | ⟨t,ht,hm⟩
  ·omega
  ·exact hm j h2 (hj t ht)
def rT (n:Nat):Tx:=(Wr n).map (97 + ·)
theorem zau (n:Nat):(rT n).length=n:=by unfold rT; simp
theorem rT_at {n k:Nat} (h:k < n):(rT n).getD k 0=97 + k:=by
 unfold rT
 rw [List.getD_eq_getElem?_getD,Wz,J4 h]
 rfl
theorem zbD {n k:Nat} (h:k < n) (hn:n≤6):pIx (.str (rT n)) (.int (k:Int))=some (.pure (.str [97 + k])):=by
 rw [z62 (rT n) k (by rw [zau]; exact h) (by rw [zau]; omega),rT_at h]
theorem sl_rT (n:Nat) (h:n≤6):pSl none (some (n:Int)) (.str [97,98,99,100,101,102])=some (.pure (.str (rT n))):=by
 have:n=0∨n=1∨n=2∨n=3∨n=4∨n=5∨n=6:=by omega
 have hz:([97,98,99,100,101,102]:Tx).length≤W7:=by rw [z0E]; decide
 simp only [pSl]
 rw [if_pos hz]
 rcases this with rfl | rfl | rfl | rfl | rfl | rfl | rfl <;> rfl
structure RB (n k:Nat) (bs:List (Nat×List Tx)):Prop where
 fs:bs.map (·.1)=(Wr k).map (97 + ·)
 bl:∀ b ∈ bs,∃ x y,b.2=[[x,y]]∧97≤x∧x < 97 + n∧97≤y∧y < 97 + n
theorem RB.rul {n:Nat} {bs:List (Nat×List Tx)} (B:RB n n bs) (h2:2≤n) (h6:n≤6):Rul 1 2 bs∧bs.length=n:=by
 have hl:bs.length=n:=by
  have:=congrArg Qu B.fs
  simpa using this
 have mem:∀ x,97≤x→x < 97 + n→x ∈ bs.map (·.1):=fun x h1 h2=>by
  rw [B.fs]
  exact WU.mpr ⟨x - 97,List.mem_range.mpr (by omega),by omega⟩
 have back:∀ x ∈ bs.map (·.1),97≤x∧x < 97 + n:=fun x hx=>by
  rw [B.fs] at hx
  obtain ⟨k,hk,rfl⟩:=WU.mp hx
  have:=List.mem_range.mp hk
  omega
 refine ⟨⟨by decide,by decide,by decide,by decide,by decide,by omega,by omega,?_,fun b hb=>?_,fun b hb=>?_⟩,hl⟩
 ·rw [B.fs,QE]
  exact List.pairwise_lt_range.imp fun h=>by omega
 ·have:=back b.1 (WK hb)
  omega
 ·obtain ⟨x,y,e,h1,h2,h3,h4⟩:=B.bl b hb
  rw [e]
  refine ⟨rfl,fun r hr=>?_⟩
  have:r=[x,y]:=by simpa using hr
  subst this
  refine ⟨rfl,fun n hn=>?_⟩
  rcases Wf.mp hn with rfl | hn
  ·exact mem _ h1 h2
  ·have:n=y:=by simpa using hn
   rw [this]; exact mem _ h3 h4
abbrev r6 (d:D) (n:Nat) (bs:List (Nat×List Tx)) (o4 o5:Option S):Dl:=[some (.own d),some (.pure (.int (n:Int))),some (.pure (.str (rT n))),some (.own (.lst (bs.map blD))),o4,o5]
abbrev x1:DS:=(dAsg (eOpF pIx 2 (bOf (eOp pMod (eOpF pAdd 4 (bOf (eD (.int 1)))) (bVar 1)))) (gNm [0] 5))
abbrev x2:DS:=(dIf (dAnd (dTr (eOpF pEq 4 (bOf (eD (.int 0))))) (dTr (eOp pEq (z07 z03 [.io 0,.val (eD (.int 2))]) (bOf (eD (.int 0)))))) (dAsg (eOpF pAdd 5 (bOf (eOpF pIx 2 (bOf (z07 z03 [.io 0,.val (eVar 1)]))))) (gNm [0] 5)) z1C)
abbrev x3:DS:=(z0W 3 (eTup (z0F (eOpF pIx 2 (bVar 4)) (z0F (eTup (z0F (eSl (eOpF pAdd 5 (bVar 5)) z5N (z3b (eD (.int 2)))) aNil)) aNil))))
theorem z9U (i j:Int) (h:0 < j):pMod (.int i) (.int j)=some (.pure (.int (i % j))):=by
 simp only [pMod,pII]; rw [if_pos (by simpa using h)]
theorem z5n (a b:Tx) (h:a.length + b.length≤100):pAdd (.str a) (.str b)=some (.pure (.str (a ++ b))):=by
 simp only [pAdd]
 rw [if_pos (by rw [z0E]; omega)]
theorem zce (a b:Nat):pSl none (some 2) (.str ([a] ++ [b]))=some (.pure (.str [a,b])):=by
 simp only [pSl]
 rw [if_pos (by rw [z0E]; simp)]
 rfl
theorem zb1 (a b c d:Nat):pSl none (some 2) (.str ([a,b] ++ [c,d]))=some (.pure (.str [a,b])):=by
 simp only [pSl]
 rw [if_pos (by rw [z0E]; simp)]
 rfl
theorem z8j {n k:Nat} (h2:2≤n) (h6:n≤6) (hk:k < n) {d:D} (hd:Pen d) {bs:List (Nat×List Tx)} (B:RB n k bs) (o5:Option S):∃ d' bs' q5,Pen d'∧RB n (k + 1) bs' ∧
  (dSeq x1 (dSeq x2 x3)) (r6 d n bs (some (.pure (.int (k:Int)))) o5) = .ok .next (r6 d' n bs' (some (.pure (.int (k:Int)))) q5):=by
 have hm:=Nat.mod_lt (k + 1) (show 0 < n by omega)
 have md:=z9U ((k:Int) + 1) (n:Int) (by omega)
 have em:((k:Int) + 1) % (n:Int)=(((k + 1) % n:Nat):Int):=by push_cast; rfl
 rw [em] at md
 have i1:=zbD hm h6
 generalize (k + 1) % n=m at *
 have k1:x1 (r6 d n bs (some (.pure (.int (k:Int)))) o5) = .ok .next (r6 d n bs (some (.pure (.int (k:Int)))) (some (.pure (.str [97 + m])))):=by
  unfold r6
  generalize rT n=T at *
  generalize bs.map blD=BB at *
  simp [x1,dAsg,eOpF,eOpN,bVar,add_int,md,i1]
 have k2:∃ d' z,Pen d'∧(z=[97 + m]∨∃ y,97≤y∧y < 97 + n∧z=[97 + m,y])∧x2 (r6 d n bs (some (.pure (.int (k:Int)))) (some (.pure (.str [97 + m])))) = .ok .next (r6 d' n bs (some (.pure (.int (k:Int)))) (some (.pure (.str z)))):=by
  by_cases hk0:k=0
  ·obtain ⟨r1,d1,e1,l1,p1⟩:=z1h hd 2 2 rfl (by decide) (by decide)
   have q0:pEq (.int (k:Int)) (.int 0)=some (.pure (.bl true)):=by rw [z4D,hk0]; rfl
   by_cases hr:r1=0
   ·obtain ⟨r2,d2,e2,l2,p2⟩:=z1h p1 n (n:Int) rfl (by omega) (by omega)
    have i2:=zbD l2 h6
    have q1:pEq (.int (r1:Int)) (.int 0)=some (.pure (.bl true)):=by rw [z4D,hr]; rfl
    have ad:=z5n [97 + m] [97 + r2] (by simp)
    refine ⟨d2,[97 + m,97 + r2],p2,.inr ⟨97 + r2,by omega,by omega,rfl⟩,?_⟩
    have ad:pAdd (.str [97 + m]) (.str [97 + r2])=some (.pure (.str [97 + m,97 + r2])):=ad
    unfold r6
    generalize rT n=T at *
    generalize bs.map blD=BB at *
    simp [x2,dTr,dAsg,eOpF,eOpN,bVar,q0,z07,ios,ndup,z0C,evX,eVar,mkA,e1,e2,putA,q1,i2,ad]
   ·have q1:pEq (.int (r1:Int)) (.int 0)=some (.pure (.bl false)):=by
     rw [z4D]
     have:((r1:Int) == 0)=false:=by simpa using hr
     rw [this]
    refine ⟨d1,[97 + m],p1,.inl rfl,?_⟩
    unfold r6
    generalize rT n=T at *
    generalize bs.map blD=BB at *
    simp [x2,dTr,eOpF,eOpN,bVar,q0,z07,ios,ndup,z0C,evX,eVar,mkA,e1,putA,q1]
  ·have q0:pEq (.int (k:Int)) (.int 0)=some (.pure (.bl false)):=by
    rw [z4D]
    have:((k:Int) == 0)=false:=by simpa using hk0
    rw [this]
   refine ⟨d,[97 + m],hd,.inl rfl,?_⟩
   unfold r6
   generalize rT n=T at *
   generalize bs.map blD=BB at *
   simp [x2,dTr,eOpF,eOpN,bVar,q0]
 obtain ⟨d',z,p',hz,k2⟩:=k2
 have hz2:∃ x y,97≤x∧x < 97 + n∧97≤y∧y < 97 + n∧pAdd (.str z) (.str z)=some (.pure (.str (z ++ z)))∧pSl none (some 2) (.str (z ++ z))=some (.pure (.str [x,y])):=by
  rcases hz with rfl | ⟨y,h1,h2,rfl⟩
  ·exact ⟨97 + m,97 + m,by omega,by omega,by omega,by omega,z5n _ _ (by simp),zce _ _⟩
  ·exact ⟨97 + m,y,by omega,by omega,h1,h2,z5n _ _ (by simp),zb1 _ _ _ _⟩
 obtain ⟨x,y,a1,a2,a3,a4,ad,sl⟩:=hz2
 have i4:=zbD hk h6
 have hl:bs.length=k:=by
  have:=congrArg Qu B.fs
  simpa using this
 refine ⟨d',bs ++ [(97 + k,[[x,y]])],some (.pure (.str z)),p',⟨?_,fun b hb=>?_⟩,?_⟩
 ·rw [WZ,B.fs,Jq,WZ]
  rfl
 ·rcases QQ.mp hb with hb | hb
  ·exact B.bl b hb
  ·have:b=(97 + k,[[x,y]]):=by simpa using hb
   rw [this]
   exact ⟨x,y,rfl,a1,a2,a3,a4⟩
 ·rw [z0e k1,z0e k2]
  have eb:(bs ++ [(97 + k,[[x,y]])]).map blD=bs.map blD ++ [.tup [.str [97 + k],.tup [.str [x,y]]]]:=by rw [WZ]; rfl
  unfold r6
  rw [eb]
  have hz:(bs.map blD).length < W7:=by rw [z0E,Wx]; omega
  generalize rT n=T at *
  generalize bs.map blD=BB at *
  generalize z ++ z=zz at *
  simp [x3,z0W,z2q,putL,eOpF,eOpN,bVar,i4,eSl,z5N,z3b,ad,sl,S.d,hz]
theorem zcq {d:D} (hd:Pen d):∃ (bs:List (Nat×List Tx)) (d':D),Rul 1 2 bs∧bs.length≤6∧Pen d'∧z0X [.own d]=some (.pure (ruD 1 2 bs),[.own d']):=by
 obtain ⟨r,d1,e1,l1,p1⟩:=z1h hd 5 5 rfl (by decide) (by decide)
 have hn:(2:Int) + (r:Int)=((2 + r:Nat):Int):=by omega
 have sl:=sl_rT (2 + r) (by omega)
 have h2:2≤2 + r:=by omega
 have h6:2 + r≤6:=by omega
 generalize 2 + r=n at *
 obtain ⟨δ',e,d',bs,o4,o5,p',B,rfl⟩:=z2k (g:=gNm [0] 4) (b:=(dSeq x1 (dSeq x2 x3)))
  (fun i δ=>∃ d' bs o4 o5,Pen d'∧RB n i bs∧δ=r6 d' n bs o4 o5) (z0k 0 n) 0 (r6 d1 n [] none none) ⟨d1,[],none,none,p1,⟨by simp,by simp⟩,rfl⟩ (fun i x δ hx ⟨d',bs,o4,o5,p',B,e⟩=>by
   subst e
   obtain ⟨hi,rfl⟩:=z4u hx
   rw [Int.zero_add]
   rw [J0] at B ⊢
   obtain ⟨d2,bs2,q5,p2,B2,e2⟩:=z8j h2 h6 hi p' B o5
   exact ⟨_,_,rfl,e2,d2,bs2,_,q5,p2,B2,rfl⟩)
 have hlen:0 + (z0k 0 n).length=n:=by simp [z0k]
 rw [hlen] at B
 obtain ⟨R,hl⟩:=B.rul h2 h6
 refine ⟨bs,d',R,by omega,p',?_⟩
 have eru:ruD 1 2 bs = .tup [.int 1,.int 2,.tup (bs.map blD)]:=rfl
 have pt:z1u (.lst (bs.map blD))=some (.pure (.tup (bs.map blD))):=rfl
 rw [z0X,z6F,z2G,eru]
 have e':forL (gNm [0] 4) (dSeq x1 (dSeq x2 x3)) (z0k 0 n) [some (.own d1),some (.pure (.int (n:Int))),some (.pure (.str (rT n))),some (.own (.lst [])),none,none] = .ok .next [some (.own d'),some (.pure (.int (n:Int))),some (.pure (.str (rT n))),some (.own (.lst (bs.map blD))),o4,o5]:=e
 generalize bs.map blD=BB at *
 generalize rT n=T at *
 have ad:=add_int 2 (r:Int)
 rw [hn] at ad
 have rn:=z5x n (by omega)
 have fin:(dSeq (dAsg (eOp pAdd (eD (.int 2)) (bOf (z07 z03 [.io 0,.val (eD (.int 5))]))) (gNm [0] 1)) (dSeq (dAsg (eSl (eD (.str [97,98,99,100,101,102])) z5N (z3b (eVar 1))) (gNm [0] 2)) (dSeq (dAsg (eLst aNil) (gNm [0] 3)) (dSeq (dFor (z0N (eVar 1)) (gNm [0] 4) (dSeq x1 (dSeq x2 x3))) (dRet (eTup (z0F (eD (.int 1)) (z0F (eD (.int 2)) (z0F (eC1 z1u (bVar 3)) aNil))))))))) [some (.own d),none,none,none,none,none] = .ok (.ret (.pure (.tup [.int 1,.int 2,.tup BB]))) [some (.own d'),some (.pure (.int (n:Int))),some (.pure (.str T)),some (.own (.lst BB)),o4,o5]:=by
  rw [z0e (δ1:=[some (.own d1),some (.pure (.int (n:Int))),none,none,none,none]) (by simp [dAsg,z07,ios,ndup,z0C,evX,eVar,mkA,e1,putA,ad])]
  rw [z0e (δ1:=[some (.own d1),some (.pure (.int (n:Int))),some (.pure (.str T)),none,none,none]) (by simp [dAsg,eSl,z5N,z3b,eVar,S.d,sl])]
  rw [z0e (δ1:=[some (.own d1),some (.pure (.int (n:Int))),some (.pure (.str T)),some (.own (.lst [])),none,none]) (by simp [dAsg])]
  have iq:z0N (eVar 1) [some (.own d1),some (.pure (.int (n:Int))),some (.pure (.str T)),some (.own (.lst [])),none,none] = .ok (z0k 0 n) [some (.own d1),some (.pure (.int (n:Int))),some (.pure (.str T)),some (.own (.lst [])),none,none]:=by
   simp [eVar,rn]
  rw [z0e ((z2Y iq).trans e')]
  simp [bVar,pt]
 rw [show z0f 6 [.own d]=[some (.own d),none,none,none,none,none] from rfl,fin]
 simp [ioOk,z0V,z0h]
abbrev s7 (scr:D) (a1 a2 a3 a4 a5 a6:Option S):Dl:=[some (.pure scr),a1,a2,a3,a4,a5,a6]
abbrev z0:DS:=(dAsg (z07 z0G [.val (eVar 1)]) (gNm [] 2))
abbrev z1:DS:=(dAsg (z07 z0s [.io 2,.val (eD (.int 6))]) (gNm [] 3))
abbrev z2:DS:=(dIf (dTr (eOp pEq (z07 z03 [.io 2,.val (eD (.int 3))]) (bOf (eD (.int 0))))) (dAsg (z07 z0X [.io 2]) (gNm [] 3)) z1C)
abbrev z3:DS:=(dAsg (z07 z12 [.val (eVar 3)]) (gNm [] 4))
abbrev zB:DS:=(dSeq (dAsg (z07 z0w [.val (eVar 3)]) (gNm [] 6)) (dSeq (dIf (dAnd (dTr (eOp (pIsN false) (eVar 4) (bOf (eD .non)))) (dTr (eOp (pIsN true) (eVar 6) (bOf (eD .non))))) (dRet (eD (.bl false))) z1C) (dIf (dAnd (dTr (eOp (pIsN true) (eVar 4) (bOf (eD .non)))) (dOr (dNot (dTr (z07 z11 [.val (eVar 6)]))) (dTr (eOpF pNe 6 (bVar 4))))) (dRet (eD (.bl false))) z1C)))
abbrev z4:DS:=(dFor (z0N (eD (.int 2))) (gNm [] 5) zB)
theorem zc3 {h w:Nat} {bs:List (Nat×List Tx)} (G:GoodB h w bs) {o:Option Nat} (ho:Res bs o) (scr:D) (a1 a2 a5 a6:Option S):∃ q6,zB (s7 scr a1 a2 (some (.pure (ruD h w bs))) (some (.pure (oD o))) a5 a6) = .ok .next (s7 scr a1 a2 (some (.pure (ruD h w bs))) (some (.pure (oD o))) a5 q6):=by
 obtain ⟨o',ho',g⟩:=r_mix G
 rw [zb8 ho' ho] at g
 refine ⟨some (.pure (oD o)),?_⟩
 generalize ruD h w bs=ru at *
 rw [zB,z0e (δ1:=s7 scr a1 a2 (some (.pure ru)) (some (.pure (oD o))) a5 (some (.pure (oD o)))) (by
  generalize oD o=OD at *
  simp [dAsg,z07,ios,ndup,evX,eVar,mkA,g,putA])]
 cases o with
 | none =>
  have e:oD none = .non:=rfl
  rw [e]
  simp [dTr,eVar,bVar,pIsN,z54]
 | some m =>
  have e:oD (some m) = .int (m:Int):=rfl
  have gw:=zba (m:Int)
  have nq:pNe (.int (m:Int)) (.int (m:Int))=some (.pure (.bl false)):=by rw [zdd]; simp
  rw [e]
  generalize (m:Int)=mi at *
  simp [dTr,eVar,bVar,pIsN,z54,z07,ios,ndup,evX,mkA,gw,putA,eOpF,eOpN,nq]
theorem zc2 {h w:Nat} {bs:List (Nat×List Tx)} (R:Rul h w bs) (h6:bs.length≤6) {d:D} (hp:Pen d) (scr:D) (a1 a4 a5 a6:Option S):∃ (h' w':Nat) (bs':List (Nat×List Tx)) (d':D),GoodB h' w' bs' ∧
  z2 (s7 scr a1 (some (.own d)) (some (.pure (ruD h w bs))) a4 a5 a6) = .ok .next (s7 scr a1 (some (.own d')) (some (.pure (ruD h' w' bs'))) a4 a5 a6):=by
 obtain ⟨r,d1,e1,l1,p1⟩:=z1h hp 3 3 rfl (by decide) (by decide)
 by_cases hr:r=0
 ·obtain ⟨bs',d2,R',l',p2,e2⟩:=zcq p1
  refine ⟨1,2,bs',d2,zdt R' l',?_⟩
  have hq:pEq (.int (r:Int)) (.int 0)=some (.pure (.bl true)):=by rw [z4D,hr]; rfl
  generalize ruD 1 2 bs'=rv at *
  generalize ruD h w bs=ru at *
  simp [z2,dTr,dAsg,z07,ios,ndup,z0C,evX,eVar,mkA,e1,e2,putA,hq]
 ·refine ⟨h,w,bs,d1,zdt R h6,?_⟩
  have hq:pEq (.int (r:Int)) (.int 0)=some (.pure (.bl false)):=by
   rw [z4D]
   have:((r:Int) == 0)=false:=by simpa using hr
   rw [this]
  generalize ruD h w bs=ru at *
  simp [z2,dTr,z07,ios,ndup,z0C,evX,eVar,mkA,e1,putA,hq]
theorem zc4 (scr:D) (c:Int) (o2 o3 o4 o5 o6:Option S):∃ (q2 q3 q4 q5 q6:Option S),(dSeq z0 (dSeq z1 (dSeq z2 (dSeq z3 z4)))) (s7 scr (some (.pure (.int c))) o2 o3 o4 o5 o6) = .ok .next (s7 scr (some (.pure (.int c))) q2 q3 q4 q5 q6):=by
 obtain ⟨d0,e0,p0⟩:=r_pen c
 obtain ⟨h1,w1,bs1,d1,e1,R1,n6,p1⟩:=z8p p0 6 (by decide) (by decide)
 have e1:z0s [.own d0,.pure (.int 6)]=some (.pure (ruD h1 w1 bs1),[.own d1,.pure (.int 6)]):=e1
 obtain ⟨h,w,bs,d2,G,e2⟩:=zc2 R1 n6 p1 scr (some (.pure (.int c))) o4 o5 o6
 obtain ⟨o,ho,e3⟩:=r_due G.R
 have tb:=fun a5 a6=>zc3 G ho scr (some (.pure (.int c))) (some (.own d2)) a5 a6
 generalize ruD h w bs=RU at *
 generalize ruD h1 w1 bs1=RV at *
 generalize oD o=OD at *
 obtain ⟨δ',e,o5',o6',rfl⟩:=z2k (g:=gNm [] 5) (b:=zB) (fun _ δ=>∃ o5 o6,δ=s7 scr (some (.pure (.int c))) (some (.own d2)) (some (.pure RU)) (some (.pure OD)) o5 o6) (z0k 0 2) 0 (s7 scr (some (.pure (.int c))) (some (.own d2)) (some (.pure RU)) (some (.pure OD)) o5 o6) ⟨_,_,rfl⟩ (fun i d δ hd ⟨o5,o6,e⟩=>by
  subst e
  obtain ⟨q6,e⟩:=tb (some (.pure d)) o6
  exact ⟨_,_,rfl,e,_,_,rfl⟩)
 refine ⟨some (.own d2),some (.pure RU),some (.pure OD),o5',o6',?_⟩
 rw [z0e (δ1:=s7 scr (some (.pure (.int c))) (some (.own d0)) o3 o4 o5 o6) (by simp [z0,dAsg,z07,ios,ndup,z0C,evX,eVar,mkA,putA,e0])]
 rw [z0e (δ1:=s7 scr (some (.pure (.int c))) (some (.own d1)) (some (.pure RV)) o4 o5 o6) (by simp [z1,dAsg,z07,ios,ndup,z0C,evX,eVar,mkA,putA,e1])]
 rw [z0e e2]
 rw [z0e (δ1:=s7 scr (some (.pure (.int c))) (some (.own d2)) (some (.pure RU)) (some (.pure OD)) o5 o6) (by simp [z3,dAsg,z07,ios,ndup,z0C,evX,eVar,mkA,putA,e3])]
 have iq:z0N (eD (.int 2)) (s7 scr (some (.pure (.int c))) (some (.own d2)) (some (.pure RU)) (some (.pure OD)) o5 o6) = .ok (z0k 0 2) (s7 scr (some (.pure (.int c))) (some (.own d2)) (some (.pure RU)) (some (.pure OD)) o5 o6):=by
  have:=z5x 2 (by decide)
  simp at this
  simp [this]
 exact (z2Y iq).trans e
theorem zbd (ns:List Int) (hn:ns.length≤63):G_law [.pure (.lst (ns.map .int))]=some (.pure (.bl true),[.pure (.lst (ns.map .int))]):=by
 obtain ⟨c0,e0⟩:=z6r ns
 have cut_ints:∀ (ns:List Int) (lo hi:Option Int),cutL (ns.map D.int) lo hi=(cutL ns lo hi).map D.int:=fun ns lo hi=>by
  unfold cutL
  simp [List.map_take,List.map_drop]
 have ha:pAdd (.lst [.int c0]) (.lst (cutL (ns.map .int) (some 1) (some 6)))=some (.own (.lst ((c0 :: cutL ns (some 1) (some 6)).map .int))):=by
  rw [cut_ints]
  have hl:(cutL ns (some 1) (some 6)).length≤63:=by
   unfold cutL
   simp
   omega
  simp only [pAdd]
  rw [if_pos (by rw [z0E]; simp; omega)]
  simp
 have hs:pSl (some 1) (some 6) (.lst (ns.map .int))=some (.own (.lst (cutL (ns.map .int) (some 1) (some 6)))):=rfl
 generalize D.lst (ns.map .int)=scr at *
 obtain ⟨δ',e,o1,o2,o3,o4,o5,o6,rfl⟩:=z2k (g:=gNm [] 1) (b:=(dSeq z0 (dSeq z1 (dSeq z2 (dSeq z3 z4)))))
  (fun _ δ=>∃ (o1 o2 o3 o4 o5 o6:Option S),δ=s7 scr o1 o2 o3 o4 o5 o6) ((c0 :: cutL ns (some 1) (some 6)).map .int) 0 (s7 scr none none none none none none) ⟨none,none,none,none,none,none,rfl⟩ (fun i d δ hd ⟨o1,o2,o3,o4,o5,o6,e⟩=>by
   subst e
   simp only [Wz,Option.map_eq_some_iff] at hd
   obtain ⟨k,_,rfl⟩:=hd
   obtain ⟨q2,q3,q4,q5,q6,e⟩:=zc4 scr k o2 o3 o4 o5 o6
   exact ⟨_,_,rfl,e,_,_,_,_,_,_,rfl⟩)
 generalize ((c0 :: cutL ns (some 1) (some 6)).map D.int)=cs at *
 generalize D.lst (cutL (ns.map .int) (some 1) (some 6))=cl at *
 rw [G_law]
 refine z7f (δ1:=s7 scr o1 o2 o3 o4 o5 o6) ?_
 rw [zbR]
 have qi:iSq (eOp pAdd (eLst (z0F (z07 z0A [.val (eVar 0),.val (eD (.int 0))]) aNil)) (bOf (eSlN 0 (z3b (eD (.int 1))) (z3b (eD (.int 6)))))) (s7 scr none none none none none none) = .ok cs (s7 scr none none none none none none):=by
  simp [z41,z07,ios,ndup,evX,eVar,mkA,e0,putA,eSlN,z3b,bVar,hs,ha]
 refine (z0e ((z2Y qi).trans e)).trans ?_
 rfl
theorem r_law (ns:List Int) (h:ns.length≤63):∃ outs,G_law [.pure (.lst (ns.map .int))]=some (.pure (.bl true),outs):=⟨_,zbd ns h⟩
end K51
open PySem PySem.W PyProof.Rows
def PySem.W.Fast.tw7211342038205097648:Nat:=0
def PySem.W.Fast.tw3383504530313754352:Nat:=0
def PySem.W.Fast.tw15187849977468178773:Nat:=0
def PySem.W.Fast.tw15321967562286692486:Nat:=0
def PySem.W.Fast.tw7926951476955807614:Nat:=0
def PySem.W.Fast.tw10947981343669101977:Nat:=0
def PySem.W.Fast.tw11588422020549310554:Nat:=0
set_option maxRecDepth 100000 in
set_option maxHeartbeats 0 in
theorem PySem.Challenge.cw_tilegrow_k51_mixing_holds : PySem.Challenge.rw_tilegrow_k51_mixing.Holds := by
 w_on; o_law; k_head; (case hw=>w_witness2)
 k_fill
 refine DV.walkDT (l:=PySem.Challenge.rw_tilegrow_k51_mixing) (k:=6) (G:=K51.G_law) (tpos:=K51.lamPos) (tq:=K51.lamQ) rfl rfl ⟨rfl,by decide,by decide⟩ (fun w h Y=>⟨PySem.W.km_in_of Y,PySem.W.km_tabs_of Y _ Wg⟩) ?L ?KT K51.r_law ?F
 case L=>intro p; exact Eq.refl true
 case KT=>intro p; exact Eq.refl none
 case F =>
  intro w mg fa h KX G hmg
  refine' K51.all_mk KX G hmg ?d0 ?d1 ?d2 ?d3 ?d4 ?d5 ?d6 ?d7 ?d8 ?d9 ?d10 ?d11 ?d12 ?a13 ?l13 ?c13 ?k13 ?dT ?gT ?d14 ?d15 ?a16 ?l16 ?c16 ?k16 ?z_all ?z_bool ?z_dict ?z_int ?z_isinstance ?z_len ?z_list ?z_max ?z_range ?z_set ?z_sorted ?z_tuple
  (case d0=>exact ⟨_,_,_,_,_,_,_,_,_,_,by k_is,by k_is,by k_is,by k_is⟩); (case d1=>exact ⟨_,_,_,_,_,_,_,_,_,_,by k_is,by k_is,by k_is,by k_is⟩); (case d2=>exact ⟨_,_,_,_,_,_,_,_,_,_,by k_is,by k_is,by k_is,by k_is⟩); (case d3=>exact ⟨_,_,_,_,_,_,_,_,_,_,by k_is,by k_is,by k_is,by k_is⟩); (case d4=>exact ⟨_,_,_,_,_,_,_,_,_,_,by k_is,by k_is,by k_is,by k_is⟩); (case d5=>exact ⟨_,_,_,_,_,_,_,_,_,_,by k_is,by k_is,by k_is,by k_is⟩); (case d6=>exact ⟨_,_,_,_,_,_,_,_,_,_,by k_is,by k_is,by k_is,by k_is⟩); (case d7=>exact ⟨_,_,_,_,_,_,_,_,_,_,by k_is,by k_is,by k_is,by k_is⟩)
  (case d8=>exact ⟨_,_,_,_,_,_,_,_,_,_,by k_is,by k_is,by k_is,by k_is⟩); (case d9=>exact ⟨_,_,_,_,_,_,_,_,_,_,by k_is,by k_is,by k_is,by k_is⟩); (case d10=>exact ⟨_,_,_,_,_,_,_,_,_,_,by k_is,by k_is,by k_is,by k_is⟩); (case d11=>exact ⟨_,_,_,_,_,_,_,_,_,_,by k_is,by k_is,by k_is,by k_is⟩); (case d12=>exact ⟨_,_,_,_,_,_,_,_,_,_,by k_is,by k_is,by k_is,by k_is⟩); (case a13=>k_is); (case l13=>k_is); (case c13=>k_is)
  (case k13=>k_is); (case dT=>kernel_rfl); (case gT=>kernel_rfl); (case d14=>exact ⟨_,_,_,_,_,_,_,_,_,_,by k_is,by k_is,by k_is,by k_is⟩); (case d15=>exact ⟨_,_,_,_,_,_,_,_,_,_,by k_is,by k_is,by k_is,by k_is⟩); (case a16=>k_is); (case l16=>k_is); (case c16=>k_is)
  (case k16=>k_is); (case z_all=>k_is); (case z_bool=>k_is); (case z_dict=>k_is); (case z_int=>k_is); (case z_isinstance=>k_is); (case z_len=>k_is); (case z_list=>k_is)
  (case z_max=>k_is); (case z_range=>k_is); (case z_set=>k_is); (case z_sorted=>k_is); (case z_tuple=>k_is)
