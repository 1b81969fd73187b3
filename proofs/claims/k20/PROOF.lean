import PyProof.Rows.All
import Wide.All
import OpenK.AllK
import Wide.FinOn
import Lean
import PyProof.EqAt
import PyProof.EqKinds
import PyProof.TupleCall
import PyProof.NeKinds
import PyProof.StrWalks
import PyProof.ListStr
import PyProof.StrOps2
import PyProof.StrLawsIn
import KE.KDictOf
import PyProof.AttrMissHeap
import PyProof.Draws
import PyProof.EnumMake
import PyProof.Rows.EnumRows
import PyProof.LongRange
import PyProof.NoPylong
import PyProof.SeqI3
import PyProof.Rows.SeqCalls
import PyProof.StrLawsChain
import PyProof.StrCalls2
import KE.KIntText
import PyProof.Rows.CallKwBuiltin
import OpenK.KOwn
import OpenK.KRaise
import PyProof.ExcBaseAll.ValueError
import PyProof.Rows.CatchOwn
import KE.KIsAll
import PyProof.ExcArgsOwn
import PyProof.ExcAttrAll.ValueError
import PyProof.Rows.SeqMore2
import PyProof.ListMulAny
import PyProof.ListMulRoad
import PyProof.ZipIter
import PyProof.Rows.FactsT2
import PyProof.ExcInit
import PyProof.InstStoreFacts
import PyProof.StrCalls
import PyProof.FactsAll.dict_1
import PyProof.FactsAll.subtypes_3
import PyProof.FactsAll.subtypes_4
import PyProof.Dict
import PyProof.MinMaxWalk
import PyProof.WalkInts
import PyProof.WalksMore
import PyProof.FactsAll.tuple_2
import KE.KSortTup
import PyProof.Rows.SortWalk
import PyProof.Rows.SetFrom
import PyProof.DictKinds
import PyProof.DictStraight
import PyProof.SetRoads
import PyProof.CollectWalk
import PyProof.CollectStr
import PyProof.DictIter
import PyProof.Rows.SortShell
import KE.KItemsList
import PyProof.Rows.SortStr
import PyProof.DictItemsLoops
import PyProof.ListNew
import PyProof.Rows.SumAny
import KE.IntBitsLaws
import PySem.Challenge.RW_tilegrow_k20_tables_and_powers
open PySem renaming wpAny_bind→W0,Shared→W2,wpAny_pure→W5,starEach→W6,sizeLine→W9,wpAny→Wa,Spec→Wc,Program→Wh,World→Wo,Around→Wp,mem_of_lookup→Wt,mainGlobals→Ww,wpAny_field→WG,wpAny_callSpecial?_slot→WH,wpAny_seqItems→WQ,FuncData→WR,assignEach→WS,backTo→WW,binaryOp→WY,wpAny_call_entry→WZ,wpAny_newObj_type→Q4,compareOp→Q7,behindInMarks→Qa,wpAny_holding→Qb,pyNext→Qe,cellsFrom→Qg,wpAny_setField_rec→Qh,bootBuiltins→Qj,wpAny_mono→Qk,wpAny_truthy_bool→Qp,foldedSetIterable→Qq,rawInt→Qs,wpAny_passesOwn→Qu,wpAny_loadPart'→Qv,codeAny→QH,attributeBase→QI,sysModules→QJ,typeIs_int→QK,cLine→QO,wpAny_rule→QW,wpAny_pyIter_zip→QX,wpAny_attempt→QY,sizeLine_eq→QZ,sliceBounds→J0,keywordEach→J1,wpAny_updateSeq→Ja,swapsWith→Jc,pushCells→Jd,wpAny_setField→Jg
open PySem.W renaming Frag→W1,mg_none_of→WI,kia_one→WU,kitOne→Qf,fnOf→Ql,keepIn→QC,findIn→QR
open List renaming getElem?_eq_some_iff→W3,replicate→W4,getElem?_set_ne→W8,mem_cons_of_mem→Wb,mem_cons_self→Wg,size_toArray→Wi,mem_cons→Wj,getElem?_eq_getElem→Wk,getElem?_set_self→Wm,map_cons→Wr,getElem?_map→Wu,range→Wx,getElem?_eq_none→WB,replicate_succ→WC,mem_of_getElem?→WE,nil_append→WF,mem_append_right→WJ,length_map→WM,length_cons→WN,getElem?_set→WP,nodup_cons→WV,lookup_cons→Q0,map_map→Q2,map_congr_left→Q5,length_set→Q6,length_append→Q8,find?_cons→Qm,getElem?_of_mem→Qo,flatten_cons→Qr,forIn_cons→Qw,getElem?_append_left→Qy,drop_eq_getElem_cons→QA,all_eq_true→QG,foldl_cons→QL,ext_getElem?→QP,forIn_nil→QS,getElem?_toArray→QU,mem_range→QV,mem_map_of_mem→J3,mem_append→J8,append_nil→J9,mem_singleton→Je,pairwise_cons→Jf,take_add_one→Ji,zipWith_self→Jj,any_cons→Jk,getElem_inj→Jl,length_take→Jm,cons_append→Jn,getElem_mem→Jo,range'_succ→Jp,zipWith_map→Jq,map_nil→Jr
open Option.some renaming injEq→W7,inj→Wv
open PySem.Heap renaming get?_push_of_some→Wd,lt_size→We,get?_push_size→Wn,get?_update_other→WL,get?_update_self→WO,size_push→QD,SameBut→Jb
open Nat renaming le_refl→Wf,ne_of_lt→Wl,lt_of_lt_of_le→Wq,le_trans→WD,ne_of_gt→WK,lt_irrefl→Q1,zero_add→Q3,le_add_right→Qc,zero_le→QB,lt_of_le_of_lt→QM,le_of_lt→QQ,mul_comm→QT
open Bool renaming and_eq_true→Ws,false_ne_true→Qd,false_eq_true→QN
open PySem.Builtin.SmallTypes renaming ownedTupleIsFree→Wy,nextOf→Wz
open Option renaming map_some→WA,map_eq_some_iff→Qt,bind_some→QF
open Int renaming toNat_natCast→WT
open PyProof.Rows renaming callWith_type1→WX,slot_tuple_getitem→Qi
open PySem.Builtin.Str renaming strSliceIndices→Q9
open PySem.F renaming slot_zip_next→Qn,slot_tuple_iterator_next→Qx,plain_extend_loop→J5,args_zip_next_1→Jh
open PySem.Builtin.Slice renaming slicePlaces→Qz
open PySem.Builtin.Tuple renaming tupleExact→QE
open Array renaming length_toList→J2
open PySem.Heap.SameBut renaming update→J4
open PySem.Builtin.Int renaming intBits→J7
set_option Elab.async false
set_option linter.all false
set_option maxRecDepth 100000
namespace L2
open PySem PySem.Spec PyProof.Rows
abbrev Key:=Sum Int Str
def z6H:Key→Value→Bool
 | .inl k,v=>Value.isInt k v
 | .inr x,v=>Value.isStrOf x v
def keyH (w:Wo):Key→Int
 | .inl k=>hashInt k
 | .inr x=>hashStr w x
theorem z0T:∀ {k:Key} {v:Value},z6H k v=true→(∃ i t,k=Sum.inl i∧v=Value.int i t)∨(∃ x t,k=Sum.inr x∧v=Value.str x t)
 | .inl i,v,h=>by
  obtain ⟨t,e⟩:=Value.isInt_shape (k:=i) (v:=v) h
  exact .inl ⟨i,t,rfl,e⟩
 | .inr x,v,h=>by
  obtain ⟨t,e⟩:=Value.isStrOf_shape (x:=x) (v:=v) h
  exact .inr ⟨x,t,rfl,e⟩
theorem z7Q (i:Int) (t:Tok):z6H (.inl i) (.int i t)=true:=by simp [z6H,Value.isInt]
theorem z7P (x:Str) (t:Tok):z6H (.inr x) (.str x t)=true:=by simp [z6H,Value.isStrOf]
theorem zc1 (a b:Int):decide ((Sum.inl a:Key)=Sum.inl b)=(a == b):=by
 by_cases e:a=b
 ·subst e; simp
 ·have h:¬ (Sum.inl a:Key)=Sum.inl b:=fun q=>e (Sum.inl.inj q)
  rw [decide_eq_false h]
  exact (beq_eq_false_iff_ne.mpr e).symm
theorem zbY (a b:Str):decide ((Sum.inr a:Key)=Sum.inr b)=decide (a=b):=by
 by_cases e:a=b
 ·subst e; simp
 ·have h:¬ (Sum.inr a:Key)=Sum.inr b:=fun q=>e (Sum.inr.inj q)
  rw [decide_eq_false h,decide_eq_false e]
theorem zc0 (a:Int) (b:Str):decide ((Sum.inl a:Key)=Sum.inr b)=false:=decide_eq_false (fun q=>nomatch q)
theorem zbZ (a:Str) (b:Int):decide ((Sum.inr a:Key)=Sum.inl b)=false:=decide_eq_false (fun q=>nomatch q)
def z1k (prog:Wh) (w:Wo):PySem.KeyKind prog w Key where
 is:=z6H
 hash:=keyH w
 inj:=fun v a b ha hb=>by
  rcases z0T ha with ⟨i,t,rfl,rfl⟩ | ⟨x,t,rfl,rfl⟩
  ·rcases z0T hb with ⟨j,u,rfl,e⟩ | ⟨y,u,rfl,e⟩
   ·injection e with e1 _; rw [e1]
   ·exact nomatch e
  ·rcases z0T hb with ⟨j,u,rfl,e⟩ | ⟨y,u,rfl,e⟩
   ·exact nomatch e
   ·injection e with e1 _; rw [e1]
 byValue:=fun k v h=>by
  rcases z0T h with ⟨i,t,rfl,rfl⟩ | ⟨x,t,rfl,rfl⟩ <;> rfl
 pyHash:=fun hv h=>by
  rcases z0T hv with ⟨i,t,rfl,rfl⟩ | ⟨x,t,rfl,rfl⟩
  ·exact wpAny_pyHash_int h
  ·exact wpAny_pyHash_str h
 eqBool:=fun hu hv h=>by
  rcases z0T hu with ⟨i,t,rfl,rfl⟩ | ⟨x,t,rfl,rfl⟩
  ·rcases z0T hv with ⟨j,u,rfl,rfl⟩ | ⟨y,u,rfl,rfl⟩
   ·rw [zc1] at h; exact wpAny_eqBool_int h
   ·rw [zc0] at h; exact SeqAt.EqAt.int_str i t y u _ _ _ _ h
  ·rcases z0T hv with ⟨j,u,rfl,rfl⟩ | ⟨y,u,rfl,rfl⟩
   ·rw [zbZ] at h; exact SeqAt.EqAt.str_int x t j u _ _ _ _ h
   ·rw [zbY] at h; exact wpAny_eqBool_str h
 «strs»:=fun k x t v h=>by
  rcases z0T h with ⟨i,u,rfl,e⟩ | ⟨y,u,rfl,e⟩
  ·exact nomatch e
  ·injection e with e1 _
   subst e1
   cases v <;> rfl
theorem z5O (prog:Wh) (w:Wo) (i:Int) (t:Tok):(z1k prog w).is (.inl i) (.int i t)=true:=z7Q i t
theorem z5N (prog:Wh) (w:Wo) (x:Str) (t:Tok):(z1k prog w).is (.inr x) (.str x t)=true:=z7P x t
inductive V where
 | non | bl (b:Bool) | int (i:Int) | str (x:Str) | byt (b:Array UInt8) | flt (b:UInt64) | ref (a:Addr) | ty (n:String)
 deriving DecidableEq
def RelV:V→Value→Prop
 | .non,u=>u=Value.none
 | .bl b,u=>u=Value.bool b
 | .int i,u=>∃ t,u=Value.int i t
 | .str x,u=>∃ t,u=Value.str x t
 | .byt b,u=>∃ t,u=Value.bytes b t
 | .flt b,u=>∃ t,u=Value.float b t
 | .ref a,u=>u=Value.ref a
 | .ty n,u=>u=Value.type n
abbrev Vals:List V→List Value→Prop:=Paired RelV
theorem Vals.length (r:Vals xs us):xs.length=us.length:=Paired.length r
theorem Vals.get:∀ {xs:List V} {us:List Value} {i:Nat} {x:V},Vals xs us→xs[i]? = some x→∃ u,us[i]? = some u∧RelV x u
 | _,_,_,_,.nil,e=>by simp at e
 | _,_,0,_,.cons r _,e=>by simp at e; subst e; exact ⟨_,rfl,r⟩
 | _,_,i + 1,x,.cons _ t,e=>by
  obtain ⟨u,h1,h2⟩:=Vals.get (i:=i) (x:=x) t (by simpa using e)
  exact ⟨u,by simpa using h1,h2⟩
theorem Vals.set (r:RelV x u):∀ {xs:List V} {us:List Value} (i:Nat),Vals xs us→Vals (xs.set i x) (us.set i u)
 | _,_,_,.nil=>.nil
 | _,_,0,.cons _ t=>.cons r t
 | _,_,i + 1,.cons q t=>.cons q (Vals.set r i t)
theorem Vals.append:∀ {xs ys:List V} {us ws:List Value},Vals xs us→Vals ys ws→Vals (xs ++ ys) (us ++ ws)
 | _,_,_,_,.nil,s=>s
 | _,_,_,_,.cons r t,s=>.cons r (Vals.append t s)
theorem Vals.take:∀ {xs:List V} {us:List Value} (n:Nat),Vals xs us→Vals (xs.take n) (us.take n)
 | _,_,0,_=>.nil
 | _,_,_ + 1,.nil=>.nil
 | _,_,n + 1,.cons r t=>.cons r (Vals.take n t)
theorem Vals.drop:∀ {xs:List V} {us:List Value} (n:Nat),Vals xs us→Vals (xs.drop n) (us.drop n)
 | _,_,0,r=>r
 | _,_,_ + 1,.nil=>.nil
 | _,_,n + 1,.cons _ t=>Vals.drop n t
def RelO:Option V→Option Value→Prop
 | some v,some u=>RelV v u
 | none,none=>True
 | _,_=>False
def KV {κ:Type}:List (κ×V)→List (κ×Value)→Prop:=Paired fun (p:κ×V) (q:κ×Value)=>p.1=q.1∧RelV p.2 q.2
def kV:Key→V
 | .inl i=>.int i
 | .inr x=>.str x
inductive HO where
  | lst (xs:List V)
  | tup (xs:List V)
  | dK (kvs:List (Key×V)) | dT (kvs:List (List Key×V))
  | set (S:Int→Bool) (n:Nat)
  | ins (C dx:Addr) (fs:List (Str×V))
  | own (x:Addr)
  | xd (fs:List (Str×V))
  | met (f x:Addr)
  | rng (lo hi:Int)
  | frz (o:Obj) (u:HO)
  | tbl (ps:Array Value)
  | ext (φ:Heap→Prop)
abbrev Hp:=Addr→Option HO
def upd (H:Hp) (a:Addr) (o:HO):Hp:=fun b=>if b=a then some o else H b
theorem z0G:upd H a o a=some o:=by unfold upd; rw [if_pos rfl]
theorem z09 (h:b≠a):upd H a o b=H b:=by unfold upd; rw [if_neg h]
theorem ne_of {H:Hp} {a b:Addr} {o u:HO} (h:H a=some o) (h':H b=some u) (d:o≠u):a≠b:=by
 intro e; subst e; rw [h] at h'; exact d (Wv h')
theorem z0D {H:Hp} {a b:Addr} {o:HO} (h:H a=some o) (h':H b=none):a≠b:=by
 intro e; subst e; rw [h] at h'; cases h'
def IsTupN (h:Heap) (a:Addr) (its:Array Value):Prop:=∃ n,h.get? a=some { cls:=.type "tuple",dict:=none,data:=.seq its n,slots:=#[] }
theorem IsTupN.tup (x:IsTupN h a its):IsTup h a its:=let ⟨n,e⟩:=x; ⟨_,e,rfl,n,rfl⟩
theorem IsTupN.new (h:Heap) (its:Array Value):IsTupN (h.push { cls:=.type "tuple",data:=.seq its }) h.objs.size its:=⟨_,Wn _ rfl⟩
theorem IsTupN.lt (x:IsTupN h a its):a < h.objs.size:=let ⟨_,e⟩:=x; We e
section
variable (P:Wh) (w:Wo)
def ObjOk (H:Hp) (h:Heap) (a:Addr):HO→Prop
 | .lst xs=>xs.length≤W9∧∃ (its:List Value) (n:Nat),Vals xs its∧h.get? a=some { cls:=.type "list",data:=.seq its.toArray n }
 | .tup xs=>xs.length≤W9∧∃ its:List Value,Vals xs its∧IsTupN h a its.toArray
 | .dK kvs=>kvs.length≤W9∧(a == QJ)=false∧∃ vs,KV kvs vs∧h.DictOf (z1k P w) a vs
 | .dT kvs=>kvs.length≤W9∧(a == QJ)=false∧∃ xs:List (List Key×Addr×Value),
   Paired (fun (p:List Key×V) (q:List Key×Addr×Value)=>p.1=q.1∧H q.2.1=some (.tup (p.1.map kV))∧RelV p.2 q.2.2) kvs xs ∧
   ∃ o es ep,h.get? a=some o∧o.ExactDict∧o.data = .dict es ep∧es.toList=xs.map (entryOfKey (tupleKind (z1k P w)))∧(xs.map (·.1)).Nodup
 | .set S n=>h.SetOf (intKind P w) a S n
 | .ins C dx fs=>H dx=some (.own a)∧fs.length≤1000∧dx≠a∧h.get? a=some (PySem.W.instObj C dx) ∧
   ∃ mA,h.Ns1 dx mA∧(∀ f,RelO (fs.lookup f) (mA f))∧PySem.Within mA (fs.map (·.1))
 | .own _=>∃ o,h.get? a=some o
 | .xd fs=>∃ mA,h.Ns1 a mA∧∀ f,RelO (fs.lookup f) (mA f)
 | .rng lo hi=>∃ t u v,h.get? a=some { cls:=.type "range",data:=.fields #[.int lo t,.int hi u,.int 1 v] }
 | .frz o u=>h.get? a=some o∧ObjOk H h a u
 | .tbl ps=>h.get? a=some { cls:=.none,data:=.fields ps }
 | .met f x=>h.get? a=some (PySem.W.methodObj (.ref f) (.ref x))
 | .ext φ=>φ h∧(∃ o,h.get? a=some o)∧∀ h1 h2:Heap,φ h1→(∀ o,h1.get? a=some o→h2.get? a=some o)→φ h2
def HOk (H:Hp) (h:Heap):Prop:=∀ a o,H a=some o→ObjOk P w H h a o
end
section
variable {P:Wh} {w:Wo} {H H':Hp} {h h':Heap} {a:Addr} {o:HO}
theorem ObjOk.lt (x:ObjOk P w H h a o):a < h.objs.size:=by
 cases o with
 | lst xs=>obtain ⟨_,_,_,_,e⟩:=x; exact We e
 | tup xs=>obtain ⟨_,_,_,p⟩:=x; exact p.lt
 | dK kvs=>obtain ⟨_,_,_,_,o,_,_,e,_⟩:=x; exact We e
 | dT kvs=>obtain ⟨_,_,_,_,o,_,_,e,_⟩:=x; exact We e
 | set S n=>obtain ⟨o,_,_,_,e,_⟩:=x; exact We e
 | ins C dx fs=>obtain ⟨_,_,_,e,_⟩:=x; exact We e
 | own y=>obtain ⟨_,e⟩:=x; exact We e
 | xd fs=>obtain ⟨_,⟨_,_,_,e,_⟩,_⟩:=x; exact We e
 | rng lo hi=>obtain ⟨_,_,_,e⟩:=x; exact We e
 | frz ob u=>obtain ⟨e,_⟩:=x; exact We e
 | tbl ps=>exact We (show h.get? a=some _ from x)
 | met f y=>exact We (show h.get? a=some _ from x)
 | ext φ=>obtain ⟨_,⟨_,e⟩,_⟩:=x; exact We e
theorem Paired.mapP:∀ {l₁:List α} {l₂:List β},Paired F l₁ l₂→(∀ a b,F a b→G a b)→Paired G l₁ l₂
 | _,_,.nil,_=>.nil
 | _,_,.cons r t,f=>.cons (f _ _ r) (Paired.mapP t f)
theorem ObjOk.stay (x:ObjOk P w H h a o) (k:∀ b u,(b=a∨H b=some (.own a))→h.get? b=some u→h'.get? b=some u)
  (ho:∀ b,H b=some (.own a)→H' b=some (.own a)) (ht:∀ b xs,H b=some (.tup xs)→H' b=some (.tup xs)):ObjOk P w H' h' a o:=by
 induction o with
 | lst xs=>obtain ⟨z,its,n,r,e⟩:=x; exact ⟨z,its,n,r,k _ _ (.inl rfl) e⟩
 | tup xs=>obtain ⟨z,its,r,n,e⟩:=x; exact ⟨z,its,r,n,k _ _ (.inl rfl) e⟩
 | dK kvs=>obtain ⟨z,y,vs,r,ob,es,ep,e,c⟩:=x; exact ⟨z,y,vs,r,ob,es,ep,k _ _ (.inl rfl) e,c⟩
 | dT kvs =>
  obtain ⟨z,y,xs,r,ob,es,ep,e,c⟩:=x
  exact ⟨z,y,xs,Paired.mapP r fun p q z=>⟨z.1,ht _ _ z.2.1,z.2.2⟩,ob,es,ep,k _ _ (.inl rfl) e,c⟩
 | set S n=>obtain ⟨ob,es,ep,t,e,c⟩:=x; exact ⟨ob,es,ep,t,k _ _ (.inl rfl) e,c⟩
 | ins C dx fs =>
  obtain ⟨d,z,ne,e,mA,⟨od,es,ep,e2,c⟩,r⟩:=x
  exact ⟨ho _ d,z,ne,k _ _ (.inl rfl) e,mA,⟨od,es,ep,k _ _ (.inr d) e2,c⟩,r⟩
 | own y=>obtain ⟨ob,e⟩:=x; exact ⟨ob,k _ _ (.inl rfl) e⟩
 | xd fs=>obtain ⟨mA,⟨od,es,ep,e,c⟩,r⟩:=x; exact ⟨mA,⟨od,es,ep,k _ _ (.inl rfl) e,c⟩,r⟩
 | rng lo hi=>obtain ⟨t,u,v,e⟩:=x; exact ⟨t,u,v,k _ _ (.inl rfl) e⟩
 | frz ob u ih=>obtain ⟨e,q⟩:=x; exact ⟨k _ _ (.inl rfl) e,ih q⟩
 | tbl ps =>
  have e:h.get? a=some { cls:=.none,data:=.fields ps }:=x
  show h'.get? a=some { cls:=.none,data:=.fields ps }
  exact k a _ (.inl rfl) e
 | met f y =>
  have e:h.get? a=some (PySem.W.methodObj (.ref f) (.ref y)):=x
  show h'.get? a=some (PySem.W.methodObj (.ref f) (.ref y))
  exact k a _ (.inl rfl) e
 | ext φ=>obtain ⟨p,⟨o,e⟩,st⟩:=x; exact ⟨st _ _ p fun o q=>k _ _ (.inl rfl) q,⟨o,k _ _ (.inl rfl) e⟩,st⟩
theorem HOk.lt (x:HOk P w H h) (e:H a=some o):a < h.objs.size:=(x a o e).lt
theorem HOk.fresh (x:HOk P w H h) (e:h.objs.size≤a):H a=none:=by
 cases q:H a with
 | none=>rfl
 | some u=>exact absurd (Wq (x.lt q) e) (Q1 _)
theorem HOk.kept (x:HOk P w H h) (k:∀ b u,h.get? b=some u→h'.get? b=some u):HOk P w H h':=fun a o e =>
 (x a o e).stay (fun b u _ q=>k b u q) (fun _ q=>q) fun _ _ q=>q
theorem HOk.laid (x:HOk P w H h) (k:∀ b u,h.get? b=some u→h'.get? b=some u) (hp:h.objs.size≤a) (new:ObjOk P w (upd H a o) h' a o):HOk P w (upd H a o) h':=fun b u e=>by
 have hn:=x.fresh hp
 by_cases hb:b=a
 ·subst hb; rw [z0G] at e; cases e; exact new
 ·rw [z09 hb] at e
  exact (x b u e).stay (fun c v _ q=>k c v q) (fun c q=>by rw [z09 (z0D q hn)]; exact q) fun c xs q=>by rw [z09 (z0D q hn)]; exact q
end
def Rd (H:Hp) (a:Addr) (u:HO):Prop:=H a=some u∨∃ o,H a=some (.frz o u)
theorem Rd.ok (r:Rd H a u) (x:HOk P w H h):ObjOk P w H h a u:=by
 rcases r with r | ⟨o,r⟩
 ·exact x a u r
 ·obtain ⟨_,q⟩:=x a _ r
  exact q
def Mut:Option HO→Prop
 | some (.lst _)=>True
 | some (.dK _)=>True
 | some (.dT _)=>True
 | some (.set _ _)=>True
 | some (.ins _ _ _)=>True
 | some (.ext _)=>True
 | _=>False
section
variable {P:Wh} {w:Wo} {H:Hp} {h h':Heap} {x e:Addr} {o':HO}
theorem HOk.write (ok:HOk P w H h) (mu:Mut (H x)) (he:e=x∨H e=some (.own x)) (k:∀ b u,b≠e→h.get? b=some u→h'.get? b=some u) (heo:∃ u,h'.get? e=some u)
  (new:ObjOk P w (upd H x o') h' x o'):HOk P w (upd H x o') h':=fun b u q=>by
 have nown:∀ c y,H c=some (.own y)→c≠x:=fun c y r z=>by subst z; rw [r] at mu; exact mu
 have ntup:∀ c xs,H c=some (.tup xs)→c≠x:=fun c xs r z=>by subst z; rw [r] at mu; exact mu
 by_cases hb:b=x
 ·subst hb; rw [z0G] at q; cases q; exact new
 ·rw [z09 hb] at q
  by_cases hbe:b=e
  ·have q':H b=some (.own x):=by
    rcases he with z | z
    ·exact absurd (hbe.trans z) hb
    ·rw [hbe]; exact z
   rw [q] at q'; cases q'
   obtain ⟨v,hv⟩:=heo
   exact ⟨v,by rw [hbe]; exact hv⟩
  ·refine (ok b u q).stay (fun c v hc r=>k c v ?_ r) (fun c r=>by rw [z09 (nown c b r)]; exact r) fun c xs r=>by rw [z09 (ntup c xs r)]; exact r
   rcases hc with rfl | hc
   ·exact hbe
   ·rintro rfl
    rcases he with z | z
    ·exact nown c b hc z
    ·rw [hc] at z; cases z; exact hb rfl
end
structure Un (fs ex:List Addr) (H H':Hp) (h h':Heap):Prop where
 keep:∀ b o,h.get? b=some o→H b=none→b ∉ fs→b ∉ ex→h'.get? b=some o
 slot:∀ b o,h.get? b=some o→H b=none→b ∈ fs→b ∉ ex→∃ sl,h'.get? b=some { o with slots:=sl }
 free:∀ b o,h.get? b=some o→H b=none→b ∉ ex→H' b=none
 there:∀ b o,h.get? b=some o→b ∉ ex→∃ o',h'.get? b=some o'
 tups:∀ b xs,H b=some (.tup xs)→H' b=some (.tup xs)
 frzs:∀ b o u,H b=some (.frz o u)→H' b=some (.frz o u)
 tbls:∀ b ps,H b=some (.tbl ps)→∃ more,H' b=some (.tbl (ps ++ more))
section
variable {fs fs' ex ex':List Addr} {H H1 H2:Hp} {h h1 h2 h':Heap} {a x e:Addr} {o:HO}
theorem Un.any (u:Un fs ex H H1 h h1) (q:h.get? b=some ob) (n:H b=none) (hx:b ∉ ex):∃ sl,h1.get? b=some { ob with slots:=sl }:=by
 by_cases hb:b ∈ fs
 ·exact u.slot b ob q n hb hx
 ·exact ⟨ob.slots,u.keep b ob q n hb hx⟩
theorem Un.kept (k:∀ b u,h.get? b=some u→h'.get? b=some u):Un fs ex H H h h' :=
 ⟨fun b ob q _ _ _=>k b ob q,fun b ob q _ _ _=>⟨ob.slots,k b ob q⟩,fun _ _ _ n _=>n,fun b ob q _=>⟨ob,k b ob q⟩,fun _ _ q=>q,fun _ _ _ q=>q,fun _ ps q=>⟨#[],by rw [q]; simp⟩⟩
theorem Un.refl:Un fs ex H H h h:=Un.kept fun _ _ q=>q
theorem Un.laid (k:∀ b u,h.get? b=some u→h'.get? b=some u) (hp:h.objs.size≤a) (hn:H a=none):Un fs ex H (upd H a o) h h' where
 keep:=fun b u q _ _ _=>k b u q
 slot:=fun b u q _ _ _=>⟨u.slots,k b u q⟩
 free:=fun b u q n _=>by rw [z09 (Wl (Wq (We q) hp))]; exact n
 there:=fun b u q _=>⟨u,k b u q⟩
 tups:=fun b xs q=>by rw [z09 (z0D q hn)]; exact q
 frzs:=fun b u xs q=>by rw [z09 (z0D q hn)]; exact q
 tbls:=fun b ps q=>⟨#[],by rw [z09 (z0D q hn),q]; simp⟩
theorem Un.write (mu:Mut (H x)) (he:e=x∨H e=some (.own x)) (k:∀ b u,b≠e→h.get? b=some u→h'.get? b=some u) (heo:∃ u,h'.get? e=some u):Un fs ex H (upd H x o) h h':=by
 have hx:∀ b,H b=none→b≠x:=fun b n z=>by subst z; rw [n] at mu; exact mu
 have hb:∀ b,H b=none→b≠e:=fun b n z=>by
  subst z
  rcases he with r | r
  ·exact hx b n r
  ·rw [n] at r; cases r
 have hm:∀ b u,H b=some u→¬ Mut (some u)→b≠x:=fun b u q nm z=>by subst z; rw [q] at mu; exact nm mu
 refine ⟨fun b u q n _ _=>k b u (hb b n) q,fun b u q n _ _=>⟨u.slots,k b u (hb b n) q⟩,fun b u q n _=>by rw [z09 (hx b n)]; exact n,fun b u q _=>?_,
  fun b xs q=>by rw [z09 (hm b _ q fun z=>z)]; exact q,fun b u xs q=>by rw [z09 (hm b _ q fun z=>z)]; exact q,fun b ps q=>⟨#[],by rw [z09 (hm b _ q fun z=>z),q]; simp⟩⟩
 by_cases hbe:b=e
 ·subst hbe; exact heo
 ·exact ⟨u,k b u hbe q⟩
end
def trk (h:Heap) (H:Hp):List Addr:=(Wx h.objs.size).filter fun a=>(H a).isSome
def hidT (h:Heap) (H:Hp):Heap:=PySem.W.hideAll h (trk h H)
theorem z7Z (h:Heap) (H:Hp):(hidT h H).objs.size=h.objs.size:=PySem.W.hideAll_size _ _
theorem z96 (e:h.get? b=some o) (n:H b=none):(hidT h H).get? b=some o :=
 PySem.W.hideAll_get _ e fun hm=>by
  have q:(H b).isSome=true:=(List.mem_filter.mp hm).2
  rw [n] at q; simp at q
theorem zat (e:(hidT h H).get? b=some o):h.get? b=some o∧H b=none:=by
 have e':h.get? b=some o:=PySem.W.of_hideAll (trk h H) e
 refine ⟨e',?_⟩
 cases q:H b with
 | none=>rfl
 | some x =>
  have hm:b ∈ trk h H:=List.mem_filter.mpr ⟨List.mem_range.mpr (We e'),by simp [q]⟩
  have z:(hidT h H).get? b=none:=PySem.W.hideAll_none (trk h H) hm
  rw [z] at e; cases e
def zaO (g h:Heap) (L:Addr):List (Addr×Obj):=(Wx h.objs.size).filterMap fun a=>if a=L∨(g.get? a).isSome=true then none else (h.get? a).map fun o=>(a,o)
def rest (g h:Heap) (L d:Addr):List (Addr×Obj):=(zaO g h L).filter fun p=>decide (p.1≠d)
structure Mod (K:W1) (mg:Str→Option Value) (base:Heap):Prop where
 kin:K.In base
 glob:base.Ns Ww mg
 blt:∃ mb,base.Ns builtinsNs mb∧∀ x:Str,x≠"__name__"→mb x=Qj x
 nolimit:base.NoLimit
structure Cx where
 prog:Wh
 w:Wo
 K:W1
 mg:Str→Option Value
 base:Heap
 A:Wp
 N:List Str
 s₀:W2
 H₀:Hp
 env:Env
 outer:List Env
 stack:List Env
 ex:List Addr
 fn:Str→Bool
 calm:Bool
 pn:List (Addr×Obj)
 xe:Value→W2→Prop
def frs (l:List Env):List Addr:=l.filterMap (·.frame)
abbrev Cx.fs (X:Cx):List Addr:=frs X.outer
def Vis (sc:Scope) (x:Str):Prop:=sc.names.lookup x=some .local∨sc.names.lookup x=some .cell∨sc.names.lookup x=some .free
def Loc (sc:Scope) (x:Str):Prop:=sc.names.lookup x=some .local∨sc.names.lookup x=some .cell
def Look (env:Env) (h:Heap) (m:Str→Option Value) (x:Str) (u:Value):Prop :=
 (env.kindOf x=some .local∧m x=some u)∨((env.kindOf x=some .cell∨env.kindOf x=some .free)∧∃ c,env.cells.lookup x=some c∧h.IsCell c (some u))
structure Cx.Ok (X:Cx):Prop where
 mod:Mod X.K X.mg X.base
 kind:X.env.scope.kind = .function
 glob:X.env.globals=Ww
 blt:X.env.builtins=builtinsNs
 above:X.s₀.heap.objs.size≤X.env.locals
 inj:∀ x y c,X.env.cells.lookup x=some c→X.env.cells.lookup y=some c→x=y
 has:∀ x,(X.env.kindOf x=some .cell∨X.env.kindOf x=some .free)→∃ c,X.env.cells.lookup x=some c
 cab:∀ x c,X.fn x=true→X.env.cells.lookup x=some c→X.s₀.heap.objs.size≤c
 hd:X.calm=true→X.A.handled=none
 frames:X.A.frames=some X.stack
 stk:X.stack=X.outer∨(X.stack=X.env :: X.outer∧X.env.frame=some X.env.locals)
 exf:∀ b ∈ X.ex,b≠X.env.locals∧∀ x c,X.env.cells.lookup x=some c→c≠b
 bs:∀ b o,X.base.get? b=some o→X.s₀.heap.get? b=some o∧X.H₀ b=none
 bsz:X.base.objs.size≤X.s₀.heap.objs.size
 noex:∀ b o,X.base.get? b=some o→b ∉ X.ex
 exfs:∀ b ∈ X.ex,b ∉ X.fs
 funs:X.s₀.heap.FunFrames X.base X.outer
 frf:∀ b ∈ X.fs,X.H₀ b=none
structure Inv (X:Cx) (pins:List (Addr×Obj)) (σ:List (Option V)) (H:Hp) (s:W2):Prop where
 ok:X.Ok
 os:s.os=X.s₀.os
 bare:AllBare s.gens
 base:Un X.fs X.ex X.H₀ H X.s₀.heap s.heap
 loc:∃ m,s.heap.Ns X.env.locals m∧∀ (i:Nat) (x:Str) (v:V),X.N[i]? = some x→σ[i]? = some (some v)→Vis X.env.scope x→∃ u,RelV v u∧Look X.env s.heap m x u
 cell:∀ x c,X.env.cells.lookup x=some c→∃ v,s.heap.IsCell c v
 free:H X.env.locals=none
 freeC:∀ x c,X.env.cells.lookup x=some c→H c=none
 pin:∀ p ∈ X.pn ++ pins,s.heap.get? p.1=some p.2∧H p.1=none∧p.1≠X.env.locals∧p.1 ∉ X.fs∧∀ v,p.2.data≠.cell v
 hok:HOk X.prog X.w H s.heap
 len:σ.length=X.N.length
section
variable {X:Cx} {pins:List (Addr×Obj)} {σ:List (Option V)} {H H':Hp} {s:W2} {h':Heap}
theorem Cx.Ok.nofr (ok:X.Ok) (e:X.base.get? b=some o):b ∉ X.fs:=fun hb=>by
 have:=(ok.funs.mem hb).1
 rw [e] at this; cases this
theorem Inv.bs (I:Inv X pins σ H s):∀ b o,X.base.get? b=some o→s.heap.get? b=some o∧H b=none:=fun b o e =>
 ⟨I.base.keep b o (I.ok.bs b o e).1 (I.ok.bs b o e).2 (I.ok.nofr e) (I.ok.noex b o e),I.base.free b o (I.ok.bs b o e).1 (I.ok.bs b o e).2 (I.ok.noex b o e)⟩
theorem Inv.bk (I:Inv X pins σ H s):∀ b o,X.base.get? b=some o→s.heap.get? b=some o:=fun b o e=>(I.bs b o e).1
theorem Inv.mod (I:Inv X pins σ H s):Mod X.K X.mg X.base:=I.ok.mod
theorem Inv.kIn (I:Inv X pins σ H s):X.K.In s.heap:=I.ok.mod.kin.keeps I.bk
theorem Inv.fr (I:Inv X pins σ H s):∃ m,Fr X.base X.env.locals s.heap m :=
 let ⟨m,hn,_⟩:=I.loc
 ⟨m,hn,I.bk,WD I.ok.bsz I.ok.above⟩
theorem Inv.lt (I:Inv X pins σ H s):X.env.locals < s.heap.objs.size:=let ⟨_,hn,_⟩:=I.loc; hn.lt
theorem Inv.sz (I:Inv X pins σ H s):X.s₀.heap.objs.size≤s.heap.objs.size:=WD I.ok.above (QQ I.lt)
theorem Inv.nofs (I:Inv X pins σ H s) (h:s.heap.objs.size≤a):a ∉ X.fs:=fun hb=>by
 obtain ⟨_,o,ho,_⟩:=I.ok.funs.mem hb
 exact absurd (Wq (We ho) (WD I.sz h)) (Q1 _)
theorem Inv.cne (I:Inv X pins σ H s):∀ x c,X.env.cells.lookup x=some c→c≠X.env.locals:=fun x c e z=>by
 obtain ⟨v,o,ho,hd⟩:=I.cell x c e
 obtain ⟨m,⟨o',es,ep,ho',hd',_⟩,_⟩:=I.loc
 rw [z,ho'] at ho; cases ho; rw [hd'] at hd; cases hd
theorem Inv.funs (I:Inv X pins σ H s):s.heap.FunFrames X.base X.outer:=by
 have all:∀ (l:List Env),(∀ b ∈ frs l,b ∈ X.fs)→X.s₀.heap.FunFrames X.base l→s.heap.FunFrames X.base l:=by
  intro l
  induction l with
  | nil=>intro _ _; trivial
  | cons env r ih =>
   intro hs hl
   obtain ⟨hk,⟨L,o,hf,hn,ho,hd⟩,hr⟩:=hl
   have hL:L ∈ X.fs:=hs L (by unfold frs; rw [List.filterMap_cons,hf]; exact Wg)
   obtain ⟨sl,e⟩:=I.base.slot L o ho (I.ok.frf L hL) hL fun z=>I.ok.exfs L z hL
   exact ⟨hk,⟨L,_,hf,hn,e,hd⟩,ih (fun b hb=>hs b (by unfold frs; rw [List.filterMap_cons,hf]; exact Wb _ hb)) hr⟩
 exact all X.outer (fun _ hb=>hb) I.ok.funs
theorem Inv.stack (I:Inv X pins σ H s):s.heap.FunFrames X.base X.stack:=by
 rcases I.ok.stk with e | ⟨e,hf⟩
 ·rw [e]; exact I.funs
 ·rw [e]
  obtain ⟨m,hn,_⟩:=I.loc
  refine .cons (by rw [I.ok.kind]; decide) hf hn ?_ I.funs
  exact Heap.get?_none_of_le (WD I.ok.bsz I.ok.above)
theorem Inv.stkSub (I:Inv X pins σ H s):∀ b ∈ frs X.stack,b ∈ X.env.locals :: X.fs:=fun b hb=>by
 rcases I.ok.stk with e | ⟨e,hf⟩
 ·rw [e] at hb; exact Wb _ hb
 ·rw [e] at hb
  unfold frs at hb
  rw [List.filterMap_cons,hf] at hb
  exact hb
theorem Inv.stkFree (I:Inv X pins σ H s):∀ b ∈ frs X.stack,H b=none:=fun b hb=>by
 rcases Wj.mp (I.stkSub b hb) with e | hb
 ·rw [e]; exact I.free
 ·obtain ⟨_,o,ho,_⟩:=I.ok.funs.mem hb
  exact I.base.free b o ho (I.ok.frf b hb) fun z=>I.ok.exfs b z hb
theorem Inv.step {g':Array GenState} {t':Nat} {d':Drawn} {ch:List Addr} (I:Inv X pins σ H s)
  (hch:∀ b ∈ ch,(b ∈ X.ex∨X.s₀.heap.objs.size≤b)∧b≠X.env.locals∧(∀ x c,X.env.cells.lookup x=some c→c≠b)∧∀ p ∈ X.pn ++ pins,p.1≠b)
  (keep:∀ b o,b≠X.env.locals→b ∉ X.fs→b ∉ ch→s.heap.get? b=some o→H b=none→h'.get? b=some o)
  (slot:∀ b o,b≠X.env.locals→b ∈ X.fs→b ∉ ch→s.heap.get? b=some o→H b=none→∃ sl,h'.get? b=some { o with slots:=sl }) (free:∀ b o,b ∉ ch→s.heap.get? b=some o→H b=none→H' b=none)
  (there:∀ b o,b ∉ ch→s.heap.get? b=some o→∃ o',h'.get? b=some o')
  (tups:∀ b xs,H b=some (.tup xs)→H' b=some (.tup xs)) (frzs:∀ b o u,H b=some (.frz o u)→H' b=some (.frz o u)) (tbls:∀ b ps,H b=some (.tbl ps)→∃ more,H' b=some (.tbl (ps ++ more)))
  (ns:∀ m,s.heap.Ns X.env.locals m→h'.Ns X.env.locals m) (hok:HOk X.prog X.w H' h') (hg:AllBare g') :
  Inv X pins σ H' { s with heap:=h',gens:=g',drawn:=d',toks:=t' }:=by
 have neL:∀ b o,X.s₀.heap.get? b=some o→b≠X.env.locals:=fun b o e=>Wl (Wq (We e) I.ok.above)
 have neC:∀ b o,X.s₀.heap.get? b=some o→b ∉ X.ex→b ∉ ch:=fun b o e hx hb=>by
  rcases (hch b hb).1 with z | z
  ·exact hx z
  ·exact absurd (Wq (We e) z) (Q1 _)
 have cellK:∀ x c,X.env.cells.lookup x=some c→∀ v,s.heap.IsCell c v→h'.IsCell c v:=fun x c e v ⟨o,ho,hd⟩=>by
  have nch:c ∉ ch:=fun z=>(hch c z).2.2.1 x c e rfl
  by_cases hc:c ∈ X.fs
  ·obtain ⟨sl,q⟩:=slot c o (I.cne x c e) hc nch ho (I.freeC x c e)
   exact ⟨_,q,hd⟩
  ·exact ⟨o,keep c o (I.cne x c e) hc nch ho (I.freeC x c e),hd⟩
 refine ⟨I.ok,I.os,hg,⟨fun b o e n hb hx=>?_,fun b o e n hb hx=>?_,fun b o e n hx=>?_,fun b o e hx=>?_,fun b xs e=>tups b xs (I.base.tups b xs e),fun b o xs e=>frzs b o xs (I.base.frzs b o xs e),fun b ps e=>?_⟩,?_,fun x c e=>?_,?_,fun x c e=>?_,fun p hp=>?_,hok,I.len⟩
 ·exact keep b o (neL b o e) hb (neC b o e hx) (I.base.keep b o e n hb hx) (I.base.free b o e n hx)
 ·obtain ⟨sl,e1⟩:=I.base.slot b o e n hb hx
  obtain ⟨sl',e2⟩:=slot b _ (neL b o e) hb (neC b o e hx) e1 (I.base.free b o e n hx)
  exact ⟨sl',e2⟩
 ·obtain ⟨o',e1⟩:=I.base.there b o e hx
  exact free b o' (neC b o e hx) e1 (I.base.free b o e n hx)
 ·obtain ⟨o',e1⟩:=I.base.there b o e hx
  exact there b o' (neC b o e hx) e1
 ·obtain ⟨m1,e1⟩:=I.base.tbls b ps e
  obtain ⟨m2,e2⟩:=tbls b _ e1
  exact ⟨m1 ++ m2,by rw [e2,Array.append_assoc]⟩
 ·obtain ⟨m,hn,hl⟩:=I.loc
  refine ⟨m,ns m hn,fun i x v e1 e2 e3=>?_⟩
  obtain ⟨u,r,l⟩:=hl i x v e1 e2 e3
  refine ⟨u,r,?_⟩
  rcases l with l | ⟨k,c,e,z⟩
  ·exact .inl l
  ·exact .inr ⟨k,c,e,cellK x c e _ z⟩
 ·obtain ⟨v,z⟩:=I.cell x c e
  exact ⟨v,cellK x c e v z⟩
 ·obtain ⟨m,⟨o,_,_,ho,_⟩,_⟩:=I.loc
  exact free _ o (fun z=>(hch _ z).2.1 rfl) ho I.free
 ·obtain ⟨v,o,ho,hd⟩:=I.cell x c e
  exact free c o (fun z=>(hch c z).2.2.1 x c e rfl) ho (I.freeC x c e)
 ·obtain ⟨e,n,ne,nf,d⟩:=I.pin p hp
  have nch:p.1 ∉ ch:=fun z=>(hch p.1 z).2.2.2 p hp rfl
  exact ⟨keep p.1 p.2 ne nf nch e n,free p.1 p.2 nch e n,ne,nf,d⟩
theorem Inv.un {t':Nat} (I:Inv X pins σ H s) (u:Un X.fs [] H H' s.heap h') (hok:HOk X.prog X.w H' h'):Inv X pins σ H' { s with heap:=h',toks:=t' }:=by
 obtain ⟨m,⟨o,es,ep,ho,r⟩,_⟩:=id I.loc
 obtain ⟨sl,hL⟩:=u.any ho I.free (by simp)
 exact I.step (g':=s.gens) (d':=s.drawn) (ch:=[]) (fun _ z=>nomatch z) (fun b o _ hb _ e n=>u.keep b o e n hb (by simp)) (fun b o _ hb _ e n=>u.slot b o e n hb (by simp)) (fun b o _ e n=>u.free b o e n (by simp)) (fun b o _ e=>u.there b o e (by simp)) u.tups u.frzs u.tbls (fun m' hm=>by
  obtain ⟨o',es',ep',ho',r'⟩:=hm
  rw [ho] at ho'; cases ho'
  exact ⟨_,es',ep',hL,r'⟩) hok I.bare
theorem Inv.call {g':Array GenState} {t':Nat} {d':Drawn} {ch:List Addr} (I:Inv X pins σ H s) (u:Un (frs X.stack) ch H H' s.heap h') (hok:HOk X.prog X.w H' h') (hg:AllBare g')
  (hch:∀ b ∈ ch,(b ∈ X.ex∨X.s₀.heap.objs.size≤b)∧b≠X.env.locals∧(∀ x c,X.env.cells.lookup x=some c→c≠b)∧∀ p ∈ X.pn ++ pins,p.1≠b) :
  Inv X pins σ H' { s with heap:=h',gens:=g',drawn:=d',toks:=t' }:=by
 obtain ⟨m,⟨o,es,ep,ho,r⟩,_⟩:=id I.loc
 obtain ⟨sl,hL⟩:=u.any ho I.free fun z=>(hch _ z).2.1 rfl
 exact I.step (ch:=ch) hch (fun b o hL hb hc e n=>u.keep b o e n (fun z=>(Wj.mp (I.stkSub b z)).elim hL hb) hc) (fun b o _ _ hc e n=>u.any e n hc) (fun b o hc e n=>u.free b o e n hc) (fun b o hc e=>u.there b o e hc) u.tups u.frzs u.tbls (fun m' hm=>by
  obtain ⟨o',es',ep',ho',r'⟩:=hm
  rw [ho] at ho'; cases ho'
  exact ⟨_,es',ep',hL,r'⟩) hok hg
theorem Inv.turned {t':Nat} {it:Addr} (I:Inv X pins σ H s) (k:∀ b o,b≠it→s.heap.get? b=some o→h'.get? b=some o) (hn:H it=none) (hL:it≠X.env.locals)
  (h1:it ∈ X.ex∨X.s₀.heap.objs.size≤it) (h2:∀ x c,X.env.cells.lookup x=some c→c≠it) (h3:∀ p ∈ X.pn ++ pins,p.1≠it):Inv X pins σ H { s with heap:=h',toks:=t' }:=by
 have nit:∀ b u,H b=some u→b≠it:=fun b u e z=>by rw [z,hn] at e; cases e
 refine I.step (g':=s.gens) (d':=s.drawn) (ch:=[it]) (fun b hb=>?_) (fun b o _ _ hc e _=>k b o (fun z=>hc (by simp [z])) e) (fun b o _ _ hc e _=>⟨o.slots,k b o (fun z=>hc (by simp [z])) e⟩) (fun _ _ _ _ n=>n)
  (fun b o hc e=>⟨o,k b o (fun z=>hc (by simp [z])) e⟩) (fun _ _ e=>e) (fun _ _ _ e=>e) (fun b ps e=>⟨#[],by rw [e]; simp⟩) (fun m hm=>?_) (fun b u e=>?_) I.bare
 ·have e:b=it:=by simpa using hb
  subst e
  exact ⟨h1,hL,h2,h3⟩
 ·obtain ⟨o,es,ep,ho,r⟩:=hm
  exact ⟨o,es,ep,k _ o (Ne.symm hL) ho,r⟩
 ·refine (I.hok b u e).stay (fun c v hc q=>k c v ?_ q) (fun _ q=>q) fun _ _ q=>q
  rcases hc with z | z
  ·rw [z]; exact nit b u e
  ·exact nit c _ z
theorem Inv.tok (I:Inv X pins σ H s) (t:Nat):Inv X pins σ H { s with toks:=t }:=I.un (h':=s.heap) (t':=t) Un.refl I.hok
theorem Inv.kept (I:Inv X pins σ H s) (k:∀ b u,s.heap.get? b=some u→h'.get? b=some u):Inv X pins σ H { s with heap:=h',toks:=t' }:=I.un (Un.kept k) (I.hok.kept k)
theorem Inv.laid (I:Inv X pins σ H s) (k:∀ b u,s.heap.get? b=some u→h'.get? b=some u) (hp:s.heap.objs.size≤a) (new:ObjOk X.prog X.w (upd H a o) h' a o) :
  Inv X pins σ (upd H a o) { s with heap:=h',toks:=t' }:=I.un (Un.laid k hp (I.hok.fresh hp)) (I.hok.laid k hp new)
theorem Inv.write (I:Inv X pins σ H s) (mu:Mut (H x)) (he:e=x∨H e=some (.own x)) (k:∀ b u,b≠e→s.heap.get? b=some u→h'.get? b=some u) (heo:∃ u,h'.get? e=some u)
  (new:ObjOk X.prog X.w (upd H x o) h' x o):Inv X pins σ (upd H x o) { s with heap:=h',toks:=t' }:=I.un (Un.write mu he k heo) (I.hok.write mu he k heo new)
theorem Inv.weak (I:Inv X pins σ H s) (hl:σ'.length=σ.length) (w:∀ (i:Nat) v,σ'[i]? = some (some v)→σ[i]? = some (some v)):Inv X pins σ' H s :=
 ⟨I.ok,I.os,I.bare,I.base,let ⟨m,hn,hl'⟩:=I.loc; ⟨m,hn,fun i x v e1 e2 e3=>hl' i x v e1 (w i v e2) e3⟩,I.cell,I.free,I.freeC,I.pin,I.hok,hl.trans I.len⟩
theorem Inv.pins_of (I:Inv X pins σ H s) (h:∀ p ∈ pins',s.heap.get? p.1=some p.2∧H p.1=none∧p.1≠X.env.locals∧p.1 ∉ X.fs∧∀ v,p.2.data≠.cell v):Inv X pins' σ H s :=
 ⟨I.ok,I.os,I.bare,I.base,I.loc,I.cell,I.free,I.freeC,fun p hp=>(J8.mp hp).elim (fun z=>I.pin p (List.mem_append_left _ z)) (h p),I.hok,I.len⟩
theorem z6c {N:List Str} (hN:N.Nodup) {i j:Nat} {x:Str} (a:N[i]? = some x) (b:N[j]? = some x):i=j:=by
 obtain ⟨h1,e1⟩:=W3.mp a
 obtain ⟨h2,e2⟩:=W3.mp b
 exact (Jl hN).mp (e1.trans e2.symm)
theorem z4S {M:Model} {A:Wp} {E:Value→W2→Prop} {i:Nat} {x:Str} {v:V} {u:Value} {Q:Unit→W2→Prop} (I:Inv X pins σ H s) (hN:X.N.Nodup) (hi:X.N[i]? = some x) (hx:Loc X.env.scope x) (r:RelV v u)
  (h:∀ s',Inv X pins (σ.set i (some v)) H s'→(∃ a,Jb a s.heap s'.heap∧(a=X.env.locals∨X.env.cells.lookup x=some a))→Q () s') (hf:X.fn x=true∨X.env.scope.names.lookup x=some .local:=by first | exact .inl rfl | exact .inr rfl | assumption):Wa M A (storeName X.env x u) Q E s:=by
 obtain ⟨m,hn,hl⟩:=id I.loc
 have hcls:(X.env.scope.kind == .class || (X.env.scope.kind == .module && X.env.locals != X.env.globals))=false:=by rw [I.ok.kind]; rfl
 have hiσ:i < σ.length:=by rw [I.len]; exact (W3.mp hi).1
 have cne:=I.cne
 have tracked:∀ {a:Addr} {h':Heap},(∃ o,s.heap.get? a=some o∧H a=none)→Jb a s.heap h'→HOk X.prog X.w H h':=fun {a h'} ha hs b ob e=>by
  obtain ⟨_,_,hfree⟩:=ha
  refine (I.hok b ob e).stay (fun c w' hc q=>(hs.2 c ?_).trans q) (fun _ q=>q) fun _ _ q=>q
  rintro rfl
  rcases hc with rfl | hc
  ·rw [hfree] at e; cases e
  ·rw [hfree] at hc; cases hc
 rcases hx with hk | hk
 ·refine wpAny_storeName_local hk hn (fun h' hn' hs=>?_) hcls
  obtain ⟨oL,_,_,hoL,_⟩:=id hn
  refine h _ ⟨I.ok,I.os,I.bare,⟨fun b o e n hb hx=>?_,fun b o e n hb hx=>?_,I.base.free,fun b o e hx=>?_,I.base.tups,I.base.frzs,I.base.tbls⟩,⟨_,hn',fun j y v' e1 e2 e3=>?_⟩,fun y c e=>?_,I.free,I.freeC,fun p hp=>?_,tracked ⟨oL,hoL,I.free⟩ hs,by simpa using I.len⟩ ⟨_,hs,.inl rfl⟩
  ·exact (hs.2 b (Wl (Wq (We e) I.ok.above))).trans (I.base.keep b o e n hb hx)
  ·obtain ⟨sl,e1⟩:=I.base.slot b o e n hb hx
   exact ⟨sl,(hs.2 b (Wl (Wq (We e) I.ok.above))).trans e1⟩
  ·obtain ⟨o',e1⟩:=I.base.there b o e hx
   exact ⟨o',(hs.2 b (Wl (Wq (We e) I.ok.above))).trans e1⟩
  ·by_cases hj:j=i
   ·subst hj
    rw [hi] at e1; cases e1
    rw [Wm hiσ] at e2
    cases e2
    exact ⟨u,r,.inl ⟨hk,by simp⟩⟩
   ·rw [W8 (Ne.symm hj)] at e2
    obtain ⟨u',r',q⟩:=hl j y v' e1 e2 e3
    refine ⟨u',r',?_⟩
    rcases q with ⟨k,e⟩ | ⟨k,c,e,z⟩
    ·refine .inl ⟨k,?_⟩
     have:y≠x:=fun e=>hj (z6c hN e1 (e ▸ hi))
     simp [this,e]
    ·exact .inr ⟨k,c,e,z.sameBut hs (cne y c e)⟩
  ·obtain ⟨w',z⟩:=I.cell y c e
   exact ⟨w',z.sameBut hs (cne y c e)⟩
  ·obtain ⟨e,n,ne,nf,d⟩:=I.pin p hp
   exact ⟨(hs.2 p.1 ne).trans e,n,ne,nf,d⟩
 ·have hfn:X.fn x=true:=by
   rcases hf with z | z
   ·exact z
   ·rw [z] at hk; cases hk
  obtain ⟨c,hc⟩:=I.ok.has x (.inl hk)
  obtain ⟨w',z⟩:=I.cell x c hc
  refine wpAny_storeName_cell I.ok.kind hk hc z (fun h' hc' hs=>?_)
  obtain ⟨oc,hoc,hocd⟩:=id z
  refine h { s with heap:=h' } ⟨I.ok,I.os,I.bare,⟨fun b o e n hb hx=>?_,fun b o e n hb hx=>?_,I.base.free,fun b o e hx=>?_,I.base.tups,I.base.frzs,I.base.tbls⟩,⟨m,hn.sameBut hs (Ne.symm (cne x c hc)),fun j y v' e1 e2 e3=>?_⟩,fun y c' e=>?_,I.free,I.freeC,fun p hp=>?_,tracked ⟨oc,hoc,I.freeC x c hc⟩ hs,by simpa using I.len⟩ ⟨c,hs,.inr hc⟩
  ·exact (hs.2 b (Wl (Wq (We e) (I.ok.cab x c hfn hc)))).trans (I.base.keep b o e n hb hx)
  ·obtain ⟨sl,e1⟩:=I.base.slot b o e n hb hx
   exact ⟨sl,(hs.2 b (Wl (Wq (We e) (I.ok.cab x c hfn hc)))).trans e1⟩
  ·obtain ⟨o',e1⟩:=I.base.there b o e hx
   exact ⟨o',(hs.2 b (Wl (Wq (We e) (I.ok.cab x c hfn hc)))).trans e1⟩
  ·by_cases hj:j=i
   ·subst hj
    rw [hi] at e1; cases e1
    rw [Wm hiσ] at e2
    cases e2
    exact ⟨u,r,.inr ⟨.inl hk,c,hc,hc'⟩⟩
   ·rw [W8 (Ne.symm hj)] at e2
    obtain ⟨u',r',q⟩:=hl j y v' e1 e2 e3
    refine ⟨u',r',?_⟩
    rcases q with q | ⟨k,c',e,z'⟩
    ·exact .inl q
    ·refine .inr ⟨k,c',e,z'.sameBut hs ?_⟩
     rintro rfl
     exact hj (z6c hN e1 (I.ok.inj _ _ _ e hc ▸ hi))
  ·by_cases hcc:c'=c
   ·subst hcc; exact ⟨_,hc'⟩
   ·obtain ⟨w2,z2⟩:=I.cell y c' e
    exact ⟨w2,z2.sameBut hs hcc⟩
  ·obtain ⟨e,n,ne,nf,d⟩:=I.pin p hp
   refine ⟨(hs.2 p.1 ?_).trans e,n,ne,nf,d⟩
   intro q
   rw [q,hoc] at e
   have q':oc=p.2:=Wv e
   exact d w' (by rw [← q']; exact hocd)
theorem z5Z (I:Inv X pins σ H s) (hN:X.N.Nodup) (hi:X.N[i]? = some x) (hx:Loc X.env.scope x) (r:RelV v u)
  (h:∀ s',Inv X pins (σ.set i (some v)) H s'→Q () s') (hf:X.fn x=true∨X.env.scope.names.lookup x=some .local:=by first | exact .inl rfl | exact .inr rfl | assumption):Wa M A (storeName X.env x u) Q E s :=
 z4S I hN hi hx r (fun s' I' _=>h s' I') hf
theorem Inv.call' (I:Inv X pins σ H s) (ho:s'.os=s.os) (u:Un (frs X.stack) ch H H' s.heap s'.heap) (hok:HOk X.prog X.w H' s'.heap) (hg:AllBare s'.gens)
  (hch:∀ b ∈ ch,(b ∈ X.ex∨X.s₀.heap.objs.size≤b)∧b≠X.env.locals∧(∀ x c,X.env.cells.lookup x=some c→c≠b)∧∀ p ∈ X.pn ++ pins,p.1≠b):Inv X pins σ H' s':=by
 obtain ⟨h',g',d',t',o'⟩:=s'
 have e:o'=s.os:=ho
 subst e
 exact I.call (g':=g') (t':=t') (d':=d') u hok hg hch
end
abbrev XK:=Value→Option Addr→Hp→Prop
abbrev St:=List (Option V)
abbrev VK:=V→Hp→Prop
abbrev TE:=St→Hp→VK→Prop
abbrev TT:=St→Hp→(Bool→Hp→Prop)→Prop
abbrev TA:=St→Hp→(List V→Hp→Prop)→Prop
structure Ends where
 nx:St→Hp→Prop
 rt:VK
 bk:St→Hp→Prop:=fun _ _=>False
 ct:St→Hp→Prop:=fun _ _=>False
abbrev TS:=Ends→St→Hp→Prop
def EP (X:Cx) (pins:List (Addr×Obj)) (σ:St) (Q:VK) (u:Value) (s':W2):Prop:=∃ v H',Inv X pins σ H' s'∧RelV v u∧Q v H'
def TP (X:Cx) (pins:List (Addr×Obj)) (σ:St) (Q:Bool→Hp→Prop) (b:Bool) (s':W2):Prop:=∃ H',Inv X pins σ H' s'∧Q b H'
def AP (X:Cx) (pins:List (Addr×Obj)) (σ:St) (Q:List V→Hp→Prop) (us:List Value) (s':W2):Prop:=∃ vs H',Inv X pins σ H' s'∧Vals vs us∧Q vs H'
def SP (X:Cx) (pins:List (Addr×Obj)) (D:Ends) (f:Flow) (s':W2):Prop :=
 match f with
 | .next=>∃ σ' H',Inv X pins σ' H' s'∧D.nx σ' H'
 | .brk=>∃ σ' H',Inv X pins σ' H' s'∧D.bk σ' H'
 | .cont=>∃ σ' H',Inv X pins σ' H' s'∧D.ct σ' H'
 | .ret u=>∃ v σ' H',Inv X pins σ' H' s'∧RelV v u∧D.rt v H'
def PE (X:Cx) (e:Expr) (t:TE):Prop :=
 ∀ (pins:List (Addr×Obj)) (s:W2) (σ:St) (H:Hp) (Q:VK),Inv X pins σ H s→t σ H Q→Wa (model X.prog X.w) X.A (eval e X.env) (EP X pins σ Q) X.xe s
def PT (X:Cx) (e:Expr) (t:TT):Prop :=
 ∀ (pins:List (Addr×Obj)) (s:W2) (σ:St) (H:Hp) (Q:Bool→Hp→Prop),Inv X pins σ H s→t σ H Q→Wa (model X.prog X.w) X.A (isTrue e X.env (eval e X.env)) (TP X pins σ Q) X.xe s
def PW (X:Cx) (e:Expr) (t:TT):Prop :=
 ∀ (whole:Sem Value) (pins:List (Addr×Obj)) (s:W2) (σ:St) (H:Hp) (Q:Bool→Hp→Prop),Inv X pins σ H s→t σ H Q→Wa (model X.prog X.w) X.A (isTrue e X.env whole) (TP X pins σ Q) X.xe s
theorem PW.pt (h:PW X e t):PT X e t:=h _
def PA (X:Cx) (es:List Expr) (t:TA):Prop :=
 ∀ (pos:Pos) (pins:List (Addr×Obj)) (s:W2) (σ:St) (H:Hp) (Q:List V→Hp→Prop),Inv X pins σ H s→t σ H Q→Wa (model X.prog X.w) X.A (spliced (WW pos (W6 es X.env))) (AP X pins σ Q) X.xe s
def PS (X:Cx) (st:Stmt) (t:TS):Prop :=
 ∀ (pins:List (Addr×Obj)) (s:W2) (σ:St) (H:Hp) (D:Ends),Inv X pins σ H s→t D σ H→Wa (model X.prog X.w) X.A (exec st X.env) (SP X pins D) X.xe s
def PSs (X:Cx) (st:List Stmt) (t:TS):Prop :=
 ∀ (pins:List (Addr×Obj)) (s:W2) (σ:St) (H:Hp) (D:Ends),Inv X pins σ H s→t D σ H→Wa (model X.prog X.w) X.A (execs st X.env) (SP X pins D) X.xe s
theorem thn (h:Wa M A t Q E s) (hQ:∀ a s,Q a s→Q' a s):Wa M A t Q' E s:=Qk h hQ fun _ _ x=>x
section
variable {X:Cx}
theorem bin {a b:Expr} {ta tb:TE} (ha:PE X a ta) (hb:PE X b tb) {pins:List (Addr×Obj)} {s:W2} {σ:St} {H:Hp} {R:V→V→Hp→Prop} (I:Inv X pins σ H s) (h:ta σ H fun x H1=>tb σ H1 fun y H2=>R x y H2)
  {α:Type} {Q:α→W2→Prop} {f:Value→Value→Sem α}
  (hf:∀ v u s2 x y H2,Inv X pins σ H2 s2→RelV x v→RelV y u→R x y H2→Wa (model X.prog X.w) X.A (f v u) Q X.xe s2) :
  Wa (model X.prog X.w) X.A (eval a X.env) (fun v s₁=>Wa (model X.prog X.w) X.A (eval b X.env) (fun u s₂=>Wa (model X.prog X.w) X.A (f v u) Q X.xe s₂) X.xe s₁) X.xe s:=by
 refine thn (ha pins s σ H _ I h) fun v s1 ⟨x,H1,I1,r1,q1⟩=>?_
 refine thn (hb pins s1 σ H1 _ I1 q1) fun u s2 ⟨y,H2,I2,r2,q2⟩=>?_
 exact hf v u s2 x y H2 I2 r1 r2 q2
def tVar (i:Nat):TE:=fun σ H Q=>∃ v,σ[i]? = some (some v)∧Q v H
def tC (v:V):TE:=fun _ H Q=>Q v H
theorem zbz (hN:X.N[i]? = some x) (hv:Vis X.env.scope x) (hd:(x == ("__debug__" : Str))=false:=by decide) (hcd:(x == ("__classdict__" : Str))=false:=by decide):PE X (.Name x pos) (tVar i):=by
 intro pins s σ H Q I h
 obtain ⟨v,e,h⟩:=h
 obtain ⟨m,hn,hl⟩:=I.loc
 obtain ⟨u,r,l⟩:=hl i x v hN e hv
 have fin:EP X pins σ Q u s:=⟨v,H,I,r,h⟩
 rcases l with ⟨hk,hm⟩ | ⟨hk,c,hc,hcell⟩
 ·exact wpAny_Name (wpAny_loadName_local I.ok.kind hk hn hm fin) hd
 ·rcases hk with hk | hk
  ·exact wpAny_Name (wpAny_loadName_cell I.ok.kind hk hc hcell fin) hd
  ·exact wpAny_Name (wpAny_loadName_free I.ok.kind hk hc hcell fin hcd) hd
theorem z9E {i j pos}:PE X (.Constant (.int i) j pos) (tC (.int i)):=fun _ _ _ H _ I h=>wpAny_Constant_int ⟨.int i,H,I.tok _,⟨_,rfl⟩,h⟩
theorem pe_bl {b j pos}:PE X (.Constant (.bool b) j pos) (tC (.bl b)):=fun _ _ _ H _ I h=>Constant_bool ⟨.bl b,H,I,rfl,h⟩
theorem zbD {j pos}:PE X (.Constant .none j pos) (tC .non):=fun _ _ _ H _ I h=>Constant_none ⟨.non,H,I,rfl,h⟩
theorem z9D {x j pos}:PE X (.Constant (.str x) j pos) (tC (.str x)):=fun _ _ _ H _ I h=>Calls.Constant_str ⟨.str x,H,I.tok _,⟨_,rfl⟩,h⟩
def Gl (X:Cx) (x:Str):Prop:=X.env.kindOf x=some .globalImplicit
theorem zaz (I:Inv X pins σ H s) (hg:Gl X x) (hm:X.mg x=some u) (h:Q u s)
  (hd:(x == ("__debug__" : Str))=false:=by decide):Wa (model X.prog X.w) X.A (eval (.Name x pos) X.env) Q E s :=
 Calls.Name_function_global I.ok.kind hg (Calls.loadGlobal_global (by rw [I.ok.glob]; exact I.mod.glob.keeps I.bk) hm h) hd
theorem z3h (I:Inv X pins σ H s) (hg:Gl X x) (hm:X.mg x=none) (hv:Qj x=some u) (h:Q u s)
  (hn:x≠"__name__":=by decide) (hd:(x == ("__debug__" : Str))=false:=by decide):Wa (model X.prog X.w) X.A (eval (.Name x pos) X.env) Q E s:=by
 obtain ⟨mb,h1,h2⟩:=I.mod.blt
 exact Calls.Name_function_global I.ok.kind hg (Calls.loadGlobal_builtin (by rw [I.ok.glob]; exact I.mod.glob.keeps I.bk) hm (by rw [I.ok.blt]; exact h1.keeps I.bk) ((h2 x hn).trans hv) h) hd
theorem zap (hg:Gl X x) (hm:X.mg x=none) (hv:Qj x=some u) (r:RelV v u) (hn:x≠"__name__":=by decide) (hd:(x == ("__debug__" : Str))=false:=by decide):PE X (.Name x pos) (tC v) :=
 fun _ _ _ H _ I h=>z3h I hg hm hv ⟨v,H,I,r,h⟩ hn hd
variable {a b:Expr} {ta tb:TE} {pos:Pos}
def PC (X:Cx) (op:CmpOp) (a b:Expr) (t:TE):Prop :=
 ∀ (pins:List (Addr×Obj)) (s:W2) (σ:St) (H:Hp) (Q:VK),Inv X pins σ H s→t σ H Q →
  Wa (model X.prog X.w) X.A (eval a X.env) (fun v s₁=>Wa (model X.prog X.w) X.A (eval b X.env) (fun u s₂=>Wa (model X.prog X.w) X.A (Q7 op v u) (EP X pins σ Q) X.xe s₂) X.xe s₁) X.xe s
theorem z8W (b:Expr) (h:op≠.In) (h2:op≠.NotIn):Qa op b=false:=by
 have e1:(op == CmpOp.In)=false:=by cases op <;> first | rfl | exact absurd rfl h
 have e2:(op == CmpOp.NotIn)=false:=by cases op <;> first | rfl | exact absurd rfl h2
 cases b <;> simp [Qa,e1,e2]
def tB (t:TE):TT:=fun σ H Q=>t σ H fun x H1=>∃ c,x = .bl c∧Q c H1
theorem pt_cmp (h:PC X op a b t) (h1:Qa op b=false:=by first | exact z8W _ (by decide) (by decide) | rfl):PT X (.Compare a [op] [b] pos) (tB t):=by
 intro pins s σ H Q I hw
 refine wpAny_isTrue_Compare1 (thn (h pins s σ H _ I hw) fun v s1 h1=>thn h1 fun u s2 h2=>thn h2 fun c s3 ⟨x,H1,I1,r1,q1⟩=>?_) h1
 obtain ⟨d,rfl,q⟩:=q1
 cases r1
 exact Qp ⟨H1,I1,q⟩
theorem zbv (h:PE X e t) (he:∀ whole,isTrue e X.env whole=(do let v ← whole; standAt e.pos; holding [v] (truthy v)):=by intro _; rfl):PT X e (tB t):=by
 intro pins s σ H Q I hw
 refine isTrue_plain (thn (h pins s σ H _ I hw) fun v s1 ⟨x,H1,I1,r1,q1⟩=>?_) (he _)
 obtain ⟨d,rfl,q⟩:=q1
 cases r1
 exact Qp ⟨H1,I1,q⟩
variable {tA tB':TT} {rest:List Expr}
def tAnd (t u:TT):TT:=fun σ H Q=>t σ H fun c H1=>if c=true then u σ H1 Q else Q false H1
def tOr (t u:TT):TT:=fun σ H Q=>t σ H fun c H1=>if c=true then Q true H1 else u σ H1 Q
def tNot (t:TT):TT:=fun σ H Q=>t σ H fun c H1=>Q (!c) H1
theorem zad (ha:PT X a tA):PW X (.BoolOp .And [a] pos) tA:=by
 intro wh pins s σ H Q I h
 refine isTrue_and (thn (ha pins s σ H Q I h) fun c s1 e=>?_)
 cases c with
 | true=>exact isTrue_and_nil e
 | false=>exact e
theorem zbt (ha:PT X a tA):PW X (.BoolOp .Or [a] pos) tA:=by
 intro wh pins s σ H Q I h
 refine isTrue_or (thn (ha pins s σ H Q I h) fun c s1 e=>?_)
 cases c with
 | false=>exact isTrue_or_nil e
 | true=>exact e
theorem zbu (ha:PT X a tA) (hb:PW X (.BoolOp .And (b :: rest) pos) tB'):PW X (.BoolOp .And (a :: b :: rest) pos) (tAnd tA tB'):=by
 intro wh pins s σ H Q I h
 refine isTrue_and (thn (ha pins s σ H _ I h) fun c s1 ⟨H1,I1,q1⟩=>?_)
 cases c with
 | true=>exact hb wh pins s1 σ H1 Q I1 q1
 | false=>exact ⟨H1,I1,q1⟩
theorem pw_or (ha:PT X a tA) (hb:PW X (.BoolOp .Or (b :: rest) pos) tB'):PW X (.BoolOp .Or (a :: b :: rest) pos) (tOr tA tB'):=by
 intro wh pins s σ H Q I h
 refine isTrue_or (thn (ha pins s σ H _ I h) fun c s1 ⟨H1,I1,q1⟩=>?_)
 cases c with
 | true=>exact ⟨H1,I1,q1⟩
 | false=>exact hb wh pins s1 σ H1 Q I1 q1
theorem zbw (ha:PT X a tA):PT X (.UnaryOp .Not a pos) (tNot tA):=by
 intro pins s σ H Q I h
 exact isTrue_not (ha pins s σ H (fun c H1=>Q (!c) H1) I h)
def tAndV (ta tb:TE):TE:=fun σ H Q=>ta σ H fun x H1=>∃ c,x = .bl c∧if c=true then tb σ H1 Q else Q (.bl false) H1
def tNotV (ta:TE):TE:=fun σ H Q=>ta σ H fun x H1=>∃ c,x = .bl c∧Q (.bl (!c)) H1
theorem zbB {op} (h:PE X a t):PE X (.BoolOp op [a] pos) t:=fun pins s σ H Q I hw=>BoolOp_one (h pins s σ H Q I hw)
theorem zbF (ha:PE X a ta) (hb:PE X (.BoolOp .And (b :: rest) pos) tb):PE X (.BoolOp .And (a :: b :: rest) pos) (tAndV ta tb):=by
 intro pins s σ H Q I h
 refine BoolOp_and (thn (ha pins s σ H _ I h) fun v s1 ⟨x,H1,I1,r1,q1⟩=>?_)
 obtain ⟨c,rfl,q1⟩:=q1
 cases r1
 refine Qp ?_
 cases c with
 | true=>exact hb pins s1 σ H1 Q I1 q1
 | false=>exact ⟨.bl false,H1,I1,rfl,q1⟩
theorem zbC (ha:PE X a ta):PE X (.UnaryOp .Not a pos) (tNotV ta):=by
 intro pins s σ H Q I h
 refine UnaryOp_ (thn (ha pins s σ H _ I h) fun v s1 ⟨x,H1,I1,r1,q1⟩=>?_)
 obtain ⟨c,rfl,q1⟩:=q1
 cases r1
 exact not_of (Qp ⟨.bl (!c),H1,I1,rfl,q1⟩)
def tIf (t:TT) (ta tb:TE):TE:=fun σ H Q=>t σ H fun c H1=>if c=true then ta σ H1 Q else tb σ H1 Q
theorem z8Q (hc:PT X c tA) (ha:PE X a ta) (hb:PE X b tb):PE X (.IfExp c a b pos) (tIf tA ta tb):=by
 intro pins s σ H Q I h
 refine wpAny_IfExp (thn (hc pins s σ H _ I h) fun d s1 ⟨H1,I1,q1⟩=>?_)
 cases d with
 | true=>exact ha pins s1 σ H1 Q I1 q1
 | false=>exact hb pins s1 σ H1 Q I1 q1
end
def SqL (K:W1) (H:Hp) (a:Addr) (xs:List V):Prop :=
 Rd H a (.lst xs) ∨
  ∃ (o:Obj) (its:Array Value) (n:Nat),K.lookup a=some o∧o.cls = .type "list"∧o.dict=none∧o.data = .seq its n∧its.size≤W9∧Vals xs its.toList
def SqT (K:W1) (H:Hp) (a:Addr) (xs:List V):Prop :=
 Rd H a (.tup xs) ∨
  ∃ (o:Obj) (its:Array Value) (n:Nat),K.lookup a=some o∧o.cls = .type "tuple"∧o.data = .seq its n∧its.size≤W9∧Vals xs its.toList
def absV:Value→Option V
 | .none=>some .non
 | .bool b=>some (.bl b)
 | .int i _=>some (.int i)
 | .str x _=>some (.str x)
 | .bytes b _=>some (.byt b)
 | .float b _=>some (.flt b)
 | .ref a=>some (.ref a)
 | .type n=>some (.ty n)
 | _=>none
theorem RelV.abs (r:RelV x u):absV u=some x:=by
 cases x with
 | non=>cases r; rfl
 | bl _=>cases r; rfl
 | int _=>obtain ⟨t,rfl⟩:=r; rfl
 | str _=>obtain ⟨t,rfl⟩:=r; rfl
 | byt _=>obtain ⟨t,rfl⟩:=r; rfl
 | flt _=>obtain ⟨t,rfl⟩:=r; rfl
 | ref _=>cases r; rfl
 | ty _=>cases r; rfl
theorem RelV.inj (r:RelV x u) (q:RelV y u):x=y:=Wv (r.abs.symm.trans q.abs)
theorem Vals.inj:∀ {xs ys:List V} {us:List Value},Vals xs us→Vals ys us→xs=ys
 | _,_,_,.nil,.nil=>rfl
 | _,_,_,.cons r t,.cons r' t'=>by rw [r.inj r',Vals.inj t t']
section
variable {X:Cx} {pins:List (Addr×Obj)} {σ:St} {H:Hp} {s:W2} {a:Addr} {xs ys:List V}
theorem SqL.of {K:W1} (h:H a=some (.lst xs)):SqL K H a xs:=.inl (.inl h)
theorem SqT.of {K:W1} (h:H a=some (.tup xs)):SqT K H a xs:=.inl (.inl h)
theorem Inv.list (I:Inv X pins σ H s) (h:SqL X.K H a xs):∃ its:List Value,Vals xs its∧PlainL s.heap a its.toArray∧xs.length≤W9:=by
 rcases h with h | ⟨o,its,n,hk,hc,hd,hs,hz,r⟩
 ·obtain ⟨z,its,n,r,e⟩:=h.ok I.hok
  exact ⟨its,r,⟨_,n,e,rfl,rfl,rfl⟩,z⟩
 ·refine ⟨its.toList,r,⟨o,n,I.kIn a o hk,hc,hd,by simpa using hs⟩,?_⟩
  have e:=r.length
  simp only [J2] at e
  omega
theorem Inv.tuple (I:Inv X pins σ H s) (h:SqT X.K H a xs):∃ its:List Value,Vals xs its∧IsTup s.heap a its.toArray∧xs.length≤W9:=by
 rcases h with h | ⟨o,its,n,hk,hc,hs,hz,r⟩
 ·obtain ⟨z,its,r,p⟩:=h.ok I.hok
  exact ⟨its,r,p.tup,z⟩
 ·refine ⟨its.toList,r,⟨o,I.kIn a o hk,hc,n,by simpa using hs⟩,?_⟩
  have e:=r.length
  simp only [J2] at e
  omega
theorem Inv.list_inj (I:Inv X pins σ H s) (h:SqL X.K H a xs) (h':SqL X.K H a ys):xs=ys:=by
 obtain ⟨its,r,⟨o,n,e,_,_,d⟩,_⟩:=I.list h
 obtain ⟨its',r',⟨o',n',e',_,_,d'⟩,_⟩:=I.list h'
 rw [e] at e'; cases e'
 rw [d] at d'
 injection d' with d1 _
 have:its=its':=by simpa using congrArg Array.toList d1
 subst this
 exact r.inj r'
theorem Inv.tuple_inj (I:Inv X pins σ H s) (h:SqT X.K H a xs) (h':SqT X.K H a ys):xs=ys:=by
 obtain ⟨its,r,⟨o,e,_,n,d⟩,_⟩:=I.tuple h
 obtain ⟨its',r',⟨o',e',_,n',d'⟩,_⟩:=I.tuple h'
 rw [e] at e'; cases e'
 rw [d] at d'
 injection d' with d1 _
 have:its=its':=by simpa using congrArg Array.toList d1
 subst this
 exact r.inj r'
end
abbrev Cx.wish (X:Cx) (E:Value→W2→Prop):Cx:={ X with xe:=E }
abbrev Cx.nox (X:Cx):Cx:=X.wish fun _ _=>False
theorem Cx.Ok.wish {X:Cx} (ok:X.Ok) (E:Value→W2→Prop):(X.wish E).Ok :=
 ⟨ok.mod,ok.kind,ok.glob,ok.blt,ok.above,ok.inj,ok.has,ok.cab,ok.hd,ok.frames,ok.stk,ok.exf,ok.bs,ok.bsz,ok.noex,ok.exfs,ok.funs,ok.frf⟩
theorem Cx.Ok.unwish {X:Cx} {E:Value→W2→Prop} (ok:(X.wish E).Ok):X.Ok :=
 ⟨ok.mod,ok.kind,ok.glob,ok.blt,ok.above,ok.inj,ok.has,ok.cab,ok.hd,ok.frames,ok.stk,ok.exf,ok.bs,ok.bsz,ok.noex,ok.exfs,ok.funs,ok.frf⟩
section
variable {X:Cx} {pins:List (Addr×Obj)} {σ:St} {H:Hp} {s:W2} {E:Value→W2→Prop}
theorem Inv.wish (I:Inv X pins σ H s) (E:Value→W2→Prop):Inv (X.wish E) pins σ H s:=⟨I.ok.wish E,I.os,I.bare,I.base,I.loc,I.cell,I.free,I.freeC,I.pin,I.hok,I.len⟩
theorem Inv.unwish (I:Inv (X.wish E) pins σ H s):Inv X pins σ H s:=⟨I.ok.unwish,I.os,I.bare,I.base,I.loc,I.cell,I.free,I.freeC,I.pin,I.hok,I.len⟩
theorem SP.unwish (h:SP (X.wish E) pins D f s'):SP X pins D f s':=by
 cases f with
 | next=>obtain ⟨σ',H',I,q⟩:=h; exact ⟨σ',H',I.unwish,q⟩
 | brk=>obtain ⟨σ',H',I,q⟩:=h; exact ⟨σ',H',I.unwish,q⟩
 | cont=>obtain ⟨σ',H',I,q⟩:=h; exact ⟨σ',H',I.unwish,q⟩
 | ret u=>obtain ⟨v,σ',H',I,r,q⟩:=h; exact ⟨v,σ',H',I.unwish,r,q⟩
theorem PSs.nox {st:List Stmt} {t:TS} (h:PSs X.nox st t):PSs X st t:=fun pins s σ H D I hw =>
 Qk (h pins s σ H D (I.wish _) hw) (fun _ _ q=>q.unwish) fun _ _ z=>False.elim z
end
section
variable {X:Cx} {st:Stmt} {rest:List Stmt} {t u:TS} {e:Expr} {te:TE} {pos:Pos}
def tNext:TS:=fun D σ H=>D.nx σ H
def tSeq (t u:TS):TS:=fun D σ H=>t { D with nx:=u D } σ H
theorem zag:PSs X [] tNext:=fun _ _ σ H _ I h=>wpAny_execs_nil ⟨σ,H,I,h⟩
theorem z3u (h1:PS X st t) (h2:PSs X rest u):PSs X (st :: rest) (tSeq t u):=by
 intro pins s σ H D I h
 refine wpAny_execs_cons (thn (h1 pins s σ H { D with nx:=u D } I h) fun f s1 q=>?_)
 cases f with
 | next =>
  obtain ⟨σ',H',I',q⟩:=q
  exact h2 pins s1 σ' H' D I' q
 | ret v=>exact q
 | brk=>exact q
 | cont=>exact q
theorem z7p (h1:PS X st t):PSs X [st] t:=by
 intro pins s σ H D I h
 refine wpAny_execs_cons (thn (h1 pins s σ H D I h) fun f s1 q=>?_)
 cases f with
 | next=>exact wpAny_execs_nil q
 | ret v=>exact q
 | brk=>exact q
 | cont=>exact q
theorem Inv.quiet (I:Inv X pins σ H s):interactive X.env=false:=by simp [interactive,I.ok.kind]
def zaX (te:TE):TS:=fun D σ H=>te σ H fun _ H1=>D.nx σ H1
theorem zah (he:PE X e te) (hs:Jc e none pos.line X.env=pure false:=by rfl):PS X (.Expr e pos) (zaX te):=by
 intro pins s σ H D I h
 exact wpAny_Expr_any (thn (he pins s σ H _ I h) fun v s1 ⟨x,H1,I1,r1,q1⟩=>⟨σ,H1,I1,q1⟩) I.quiet hs
def tRet (te:TE):TS:=fun D σ H=>te σ H D.rt
theorem z9z (he:PE X e te):PS X (.Return (some e) pos) (tRet te):=by
 intro pins s σ H D I h
 exact wpAny_Return_some (thn (he pins s σ H _ I h) fun v s1 ⟨x,H1,I1,r1,q1⟩=>⟨x,σ,H1,I1,r1,q1⟩)
def tIfS (c:TT) (t u:TS):TS:=fun D σ H=>c σ H fun b H1=>if b=true then t D σ H1 else u D σ H1
theorem ps_if (hc:PT X c tc) (ha:PSs X a t) (hb:PSs X b u):PS X (.If c a b pos) (tIfS tc t u):=by
 intro pins s σ H D I h
 refine wpAny_If (thn (hc pins s σ H _ I h) fun d s1 ⟨H1,I1,q1⟩=>?_)
 cases d with
 | true=>exact ha pins s1 σ H1 D I1 q1
 | false=>exact hb pins s1 σ H1 D I1 q1
end
abbrev TG:=V→St→Hp→(St→Hp→Prop)→Prop
abbrev TGs:=List V→St→Hp→(St→Hp→Prop)→Prop
def PG (X:Cx) (target:Expr) (t:TG):Prop :=
 ∀ (pins:List (Addr×Obj)) (s:W2) (σ:St) (H:Hp) (v:V) (u:Value) (Q:St→Hp→Prop),Inv X pins σ H s→RelV v u→t v σ H Q →
  Wa (model X.prog X.w) X.A (assign target X.env u) (fun _ s'=>∃ σ' H',Inv X pins σ' H' s'∧Q σ' H') X.xe s
def PGs (X:Cx) (ts:List Expr) (t:TGs):Prop :=
 ∀ (pins:List (Addr×Obj)) (s:W2) (σ:St) (H:Hp) (vs:List V) (us:List Value) (Q:St→Hp→Prop),Inv X pins σ H s→Vals vs us→t vs σ H Q →
  Wa (model X.prog X.w) X.A (assignInOrder ((WS ts X.env).map (·.2)) us) (fun _ s'=>∃ σ' H',Inv X pins σ' H' s'∧Q σ' H') X.xe s
abbrev TSet:=V→V→V→Hp→(Hp→Prop)→Prop
def PSet (X:Cx) (t:TSet):Prop :=
 ∀ (pins:List (Addr×Obj)) (s:W2) (σ:St) (H:Hp) (o i v:V) (ov iv u:Value) (Q:Hp→Prop),Inv X pins σ H s→RelV o ov→RelV i iv→RelV v u→t o i v H Q →
  Wa (model X.prog X.w) X.A (setItem ov iv u) (fun _ s'=>∃ H',Inv X pins σ H' s'∧Q H') X.xe s
section
variable {X:Cx} {pos:Pos}
def z98 (i:Nat):TG:=fun v σ H Q=>Q (σ.set i (some v)) H
theorem z7v (hN:X.N.Nodup) (hi:X.N[i]? = some x) (hx:Loc X.env.scope x) (hf:X.fn x=true∨X.env.scope.names.lookup x=some .local:=by first | exact .inl rfl | exact .inr rfl | assumption):PG X (.Name x pos) (z98 i):=by
 intro pins s σ H v u Q I r h
 exact wpAny_assign_Name (z5Z I hN hi hx r (fun s' I'=>⟨_,H,I',h⟩) hf)
def gNil:TGs:=fun vs σ H Q=>vs=[]∧Q σ H
def gCons (t:TG) (u:TGs):TGs:=fun vs σ H Q=>∃ v r,vs=v :: r∧t v σ H fun σ' H'=>u r σ' H' Q
theorem z7u:PGs X [] gNil:=by
 intro pins s σ H vs us Q I r h
 obtain ⟨e,h⟩:=h
 subst e
 cases r
 exact assignInOrder_nil ⟨σ,H,I,h⟩
theorem z6b (h1:PG X e t) (h2:PGs X es u)
  (hs:(WS (e :: es) X.env).map (·.2)=assign e X.env :: (WS es X.env).map (·.2):=by rfl):PGs X (e :: es) (gCons t u):=by
 intro pins s σ H vs us Q I r h
 obtain ⟨v,vr,e1,h⟩:=h
 subst e1
 cases r with
 | cons r rr =>
  rw [hs]
  refine assignInOrder_cons (thn (h1 pins s σ H _ _ _ I r h) fun _ s1 ⟨σ1,H1,I1,q1⟩=>?_)
  exact h2 pins s1 σ1 H1 _ _ Q I1 rr q1
def gTup (K:W1) (n:Nat) (t:TGs):TG:=fun v σ H Q=>∃ a xs,v = .ref a∧SqT K H a xs∧xs.length=n∧t xs σ H Q
theorem z9B (hc:X.calm=true) (h:PGs X es t)
  (hn:(WS es X.env).length=n:=by rfl) (hst:(WS es X.env).findIdx? (·.1)=none:=by rfl):PG X (.Tuple es k pos) (gTup X.K n t):=by
 intro pins s σ H v u Q I r hw
 obtain ⟨a,xs,e1,hq,hl,hw⟩:=hw
 subst e1
 cases r
 obtain ⟨its,rv,ht,hz⟩:=I.tuple hq
 refine assign_Tuple_tuple (I.ok.hd hc) ht (by simp [hn,← hl,rv.length]) hst fun h' hx=>?_
 have I1:Inv X pins σ H { s with heap:=h' }:=I.kept (t':=s.toks) fun b o e=>hx b o (Wl (We e)) e
 exact h pins _ σ H xs _ Q I1 (by simpa using rv) hw
def gSub (to ti:TE) (t:TSet):TG:=fun v σ H Q=>to σ H fun o H1=>ti σ H1 fun i H2=>t o i v H2 fun H3=>Q σ H3
theorem z9C (ho:PE X o to) (hi:PE X i ti) (hs:PSet X t)
  (ha:∀ v,assign (.Subscript o i pos) X.env v=(do
   let ov ← holding [v] (eval o X.env)
   let iv ← holding [v,ov] (eval i X.env)
   standAt pos
   holding [v,ov,iv] (setItem ov iv v)
   release [v,ov,iv] []):=by intro _; rfl):PG X (.Subscript o i pos) (gSub to ti t):=by
 intro pins s σ H v u Q I r h
 rw [ha]
 refine W0 (Qb (thn (ho pins s σ H _ I h) fun ov s1 ⟨x,H1,I1,r1,q1⟩=>?_))
 refine W0 (Qb (thn (hi pins s1 σ H1 _ I1 q1) fun iv s2 ⟨y,H2,I2,r2,q2⟩=>?_))
 refine W0 (wpAny_standAt (W0 (Qb (thn (hs pins s2 σ H2 x y v ov iv u _ I2 r1 r2 r q2) fun _ s3 ⟨H3,I3,q3⟩=>?_))))
 exact wpAny_release ⟨σ,H3,I3,q3⟩
def tAsg (te:TE) (g:TG):TS:=fun D σ H=>te σ H fun x H1=>g x σ H1 D.nx
theorem z7q (he:PE X e te) (hg:PG X tg g) (hs:swapsWithSole [tg] e pos.line X.env=pure false:=by rfl) (hw:swappedStores [tg] e X.env=pure none:=by rfl)
  (h1:(WS [tg] X.env).map (·.2)=[assign tg X.env]:=by rfl):PS X (.Assign [tg] e pos) (tAsg te g):=by
 intro pins s σ H D I h
 refine wpAny_Assign_stores (thn (he pins s σ H _ I h) fun v s1 ⟨x,H1,I1,r1,q1⟩=>?_) hs hw
 rw [h1]
 exact thn (hg pins s1 σ H1 x v _ I1 r1 q1) fun _ s2 q=>q
theorem zbx (hN:X.N.Nodup) (hi:X.N[i]? = some x) (hx:Loc X.env.scope x) (he:PE X e te) (hs:Jc e (some (.Name x pos')) pos.line X.env=pure false:=by rfl) (hf:X.fn x=true∨X.env.scope.names.lookup x=some .local:=by first | exact .inl rfl | exact .inr rfl | assumption) :
  PS X (.Assign [.Name x pos'] e pos) (tAsg te (z98 i)):=by
 intro pins s σ H D I h
 refine wpAny_Assign_Name (thn (he pins s σ H _ I h) fun v s1 ⟨y,H1,I1,r1,q1⟩=>?_) hs
 exact z5Z I1 hN hi hx r1 (fun s2 I2=>⟨_,H1,I2,q1⟩) hf
end
section
variable {X:Cx} {pos:Pos}
def z9s (c:TT) (tb:TS):TS:=fun D σ H=>∃ W:Nat→St→Hp→Prop,(∃ m,W m σ H)∧∀ m σ H,W m σ H →
 c σ H fun b H1=>if b=true then ∃ N:St→Hp→Prop,(∀ σ' H',N σ' H'→∃ m',m' < m∧W m' σ' H')∧tb { D with nx:=N,ct:=N,bk:=D.nx } σ H1 else D.nx σ H1
theorem z8L (hp:PassesOwn (model X.prog X.w) X.A X.env X.xe) (hc:PT X c tc) (hb:PSs X body tb):PS X (.While c body [] pos) (z9s tc tb):=by
 intro pins s σ H D I h
 obtain ⟨W,⟨m0,w0⟩,turn⟩:=h
 refine wpAny_While (codeAny_whileLoop (fun n s'=>∃ σ' H',Inv X pins σ' H' s'∧W n σ' H') ?_ m0 ⟨σ,H,I,w0⟩)
 rintro n s1 ⟨σ1,H1,I1,w1⟩
 refine Qu hp (thn (hc pins s1 σ1 H1 _ I1 (turn n σ1 H1 w1)) fun b s2 ⟨H2,I2,q2⟩=>?_)
 cases b with
 | true =>
  obtain ⟨N,hN,q2⟩:=q2
  rw [if_pos rfl]
  refine Qu hp (thn (hb pins s2 σ1 H2 _ I2 q2) fun f s3 q3=>?_)
  cases f with
  | next =>
   obtain ⟨σ3,H3,I3,n3⟩:=q3
   obtain ⟨m',hm,w3⟩:=hN σ3 H3 n3
   exact ⟨m',hm,σ3,H3,I3,w3⟩
  | cont =>
   obtain ⟨σ3,H3,I3,n3⟩:=q3
   obtain ⟨m',hm,w3⟩:=hN σ3 H3 n3
   exact ⟨m',hm,σ3,H3,I3,w3⟩
  | brk=>exact q3
  | ret v=>exact q3
 | false =>
  rw [if_neg Qd]
  exact wpAny_execs_nil ⟨σ1,H2,I2,q2⟩
end
structure It where
 go:Nat→Hp→Prop
 yld:Nat→Hp→V→Hp→Prop
 stop:Nat→Hp→Prop
def FpOk (X:Cx) (pins:List (Addr×Obj)) (H:Hp) (b:Addr):Prop :=
 H b=none∧b≠X.env.locals∧b ∉ X.fs∧(b ∈ X.ex∨X.s₀.heap.objs.size≤b)∧(∀ x c,X.env.cells.lookup x=some c→c≠b)∧∀ p ∈ X.pn ++ pins,p.1≠b
theorem Inv.fpOk (I:Inv X pins σ H s) (hb:s.heap.objs.size≤b) (hn:H' b=none):FpOk X pins H' b:=by
 refine ⟨hn,WK (Wq I.lt hb),I.nofs hb,.inr (WD I.sz hb),fun x c e z=>?_,fun p hp z=>?_⟩
 ·obtain ⟨v,q⟩:=I.cell x c e
  exact absurd (Wq q.lt (by rw [z]; exact hb)) (Q1 _)
 ·exact absurd (Wq (We (I.pin p hp).1) (by rw [z]; exact hb)) (Q1 _)
structure Turn (P:Wh) (w:Wo) (K:W1) (tg:Expr) (J:It) (fp:List Addr) (it:Addr) (tn:Nat→Heap→Prop):Prop where
 mem:it ∈ fp
 obj:∀ i h,tn i h→∀ b ∈ fp,∃ o,h.get? b=some o∧∀ v,o.data≠.cell v
 keep:∀ i h h',tn i h→(∀ b ∈ fp,∀ o,h.get? b=some o→h'.get? b=some o)→tn i h'
 item:∀ (X:Cx),X.prog=P→X.w=w→X.K=K→X.calm=true→∀ (i:Nat) (pins:List (Addr×Obj)) (s:W2) (σ:St) (H:Hp) (E:Value→W2→Prop),Inv X pins σ H s→(∀ b ∈ fp,FpOk X pins H b)→tn i s.heap→J.go i H →
  Wa (model P w) X.A (Qe (.ref it)) (fun r s1=>∃ u,r=some u ∧
   Wa (model P w) X.A (letOwnedTupleGo tg (.ref it) u) (fun _ s2=>∃ x H',Inv X pins σ H' s2∧RelV x u∧J.yld i H x H'∧tn (i + 1) s2.heap∧∀ b ∈ fp,H' b=none) E s1) E s
 done:∀ (X:Cx),X.prog=P→X.w=w→X.K=K→X.calm=true→∀ (i:Nat) (pins:List (Addr×Obj)) (s:W2) (σ:St) (H:Hp) (E:Value→W2→Prop),Inv X pins σ H s→(∀ b ∈ fp,FpOk X pins H b)→tn i s.heap→J.stop i H →
  Wa (model P w) X.A (Qe (.ref it)) (fun r s1=>r=none∧Inv X pins σ H s1) E s
 self:∀ (A:Wp) (i:Nat) (s:W2) (Q:Value→W2→Prop) (E:Value→W2→Prop),tn i s.heap→Q (.ref it) s→Wa (model P w) A (pyIter (.ref it)) Q E s
abbrev TI:=St→Hp→(It→Hp→Prop)→Prop
def PIE (X:Cx) (pins:List (Addr×Obj)) (σ:St) (tg:Expr) (R:It→Hp→Prop) (itv:Value) (s2:W2):Prop :=
 ∃ (it:Addr) (fp:List Addr) (tn:Nat→Heap→Prop) (J:It) (H':Hp),itv = .ref it∧Inv X pins σ H' s2∧Turn X.prog X.w X.K tg J fp it tn∧tn 0 s2.heap∧(∀ b ∈ fp,FpOk X pins H' b)∧R J H'
def PI (X:Cx) (tg iter:Expr) (wi:TI):Prop :=
 ∀ (pins:List (Addr×Obj)) (s:W2) (σ:St) (H:Hp) (R:It→Hp→Prop),Inv X pins σ H s→wi σ H R →
  Wa (model X.prog X.w) X.A (eval iter X.env) (fun v s1=>Wa (model X.prog X.w) X.A (pyIter v) (PIE X pins σ tg R) X.xe s1) X.xe s
theorem z97 (ho:s.heap.get? it=some o) (hc:o.cls = .type n) (hd:o.data = .fields vs)
  (hn:["enumerate","zip","dict_itemiterator","dict_reverseitemiterator","odict_iterator","itertools.zip_longest","itertools.pairwise"].contains n=false) (hQ:Q () s):Wa M A (letOwnedTupleGo tg (.ref it) u) Q E s:=by
 unfold letOwnedTupleGo
 cases tg <;> first
  | exact W5 hQ
  | (cases u <;> first
    | exact W5 hQ
    | (refine W0 (wpAny_load ho ?_); rw [hc,hd]; show Wa M A (if (["enumerate","zip","dict_itemiterator","dict_reverseitemiterator","odict_iterator","itertools.zip_longest","itertools.pairwise"].contains n && vs[0]? == some (Qs _))=true then _ else _) Q E s; rw [if_neg (by intro h; rw [hn,Bool.false_and] at h; cases h)]; exact W5 hQ))
def Itl (K:W1) (a:Addr):It :=
 ⟨fun i H=>∃ xs x,SqL K H a xs∧xs[i]? = some x,fun i H x H'=>H'=H∧∀ xs,SqL K H a xs→xs[i]? = some x,fun i H=>∃ xs,SqL K H a xs∧xs.length≤i⟩
def Itt (K:W1) (a:Addr):It :=
 ⟨fun i H=>∃ xs x,SqT K H a xs∧xs[i]? = some x,fun i H x H'=>H'=H∧∀ xs,SqT K H a xs→xs[i]? = some x,fun i H=>∃ xs,SqT K H a xs∧xs.length≤i⟩
def Itr (lo:Int) (n:Nat):It:=⟨fun i _=>i < n,fun i H x H'=>H'=H∧x = .int (lo + i),fun i _=>n≤i⟩
theorem z6V {P:Wh} {w:Wo} {K:W1} {tg:Expr} (a it:Addr):Turn P w K tg (Itl K a) [it] it (fun i h=>h.IsListIter it a i) where
 mem:=by simp
 obj:=fun i h st b hb=>by
  have e:b=it:=by simpa using hb
  subst e
  obtain ⟨o,e,c,d⟩:=st
  exact ⟨o,e,fun v z=>by rw [d] at z; cases z⟩
 keep:=fun i h h' st k=>st.at fun o e=>k it (by simp) o e
 item:=by
  intro X hP hw hK hc i pins s σ H E I hf st hg
  subst hP hw hK
  obtain ⟨xs,x,hq,hx⟩:=hg
  obtain ⟨its,rv,p,hz⟩:=I.list hq
  obtain ⟨u,hu,ru⟩:=rv.get hx
  obtain ⟨f0,f1,f2,f3,f4,f5⟩:=hf it (by simp)
  refine wpAny_pyNext_list_item st p.isList (x:=u) (by simpa using hu) fun h' st' sb=>?_
  have I1:Inv X pins σ H { s with heap:=h' }:=I.turned (t':=s.toks) (fun b o hb e=>(sb.2 b hb).trans e) f0 f1 f3 f4 f5
  obtain ⟨o,e,c,d⟩:=id st'
  exact ⟨u,rfl,z97 (s:={ s with heap:=h' }) e c d (by decide) ⟨x,H,I1,ru,⟨rfl,fun ys hy=>by rw [I.list_inj hy hq]; exact hx⟩,st',fun b hb=>(hf b hb).1⟩⟩
 done:=by
  intro X hP hw hK hc i pins s σ H E I hf st hg
  subst hP hw hK
  obtain ⟨xs,hq,hx⟩:=hg
  obtain ⟨its,rv,p,hz⟩:=I.list hq
  obtain ⟨f0,f1,f2,f3,f4,f5⟩:=hf it (by simp)
  have hl:=rv.length
  exact wpAny_pyNext_list_end (I.ok.hd hc) st p.isList (by simp; omega) fun h' eb=>⟨rfl,I.turned (t':=s.toks) (fun b o hb e=>eb b o hb e) f0 f1 f3 f4 f5⟩
 self:=fun _ _ _ _ _ st h=>wpAny_pyIter_listiter st h
theorem z6u {P:Wh} {w:Wo} {K:W1} {tg:Expr} (a it:Addr):Turn P w K tg (Itt K a) [it] it (fun i h=>h.IsTupleIter it a i) where
 mem:=by simp
 obj:=fun i h st b hb=>by
  have e:b=it:=by simpa using hb
  subst e
  obtain ⟨o,e,c,d⟩:=st
  exact ⟨o,e,fun v z=>by rw [d] at z; cases z⟩
 keep:=fun i h h' st k=>st.at fun o e=>k it (by simp) o e
 item:=by
  intro X hP hw hK hc i pins s σ H E I hf st hg
  subst hP hw hK
  obtain ⟨xs,x,hq,hx⟩:=hg
  obtain ⟨its,rv,p,hz⟩:=I.tuple hq
  obtain ⟨u,hu,ru⟩:=rv.get hx
  obtain ⟨f0,f1,f2,f3,f4,f5⟩:=hf it (by simp)
  refine wpAny_pyNext_tuple_item st (show s.heap.IsTuple a its.toArray from p) (x:=u) (by simpa using hu) fun h' st' sb=>?_
  have I1:Inv X pins σ H { s with heap:=h' }:=I.turned (t':=s.toks) (fun b o hb e=>(sb.2 b hb).trans e) f0 f1 f3 f4 f5
  obtain ⟨o,e,c,d⟩:=id st'
  exact ⟨u,rfl,z97 (s:={ s with heap:=h' }) e c d (by decide) ⟨x,H,I1,ru,⟨rfl,fun ys hy=>by rw [I.tuple_inj hy hq]; exact hx⟩,st',fun b hb=>(hf b hb).1⟩⟩
 done:=by
  intro X hP hw hK hc i pins s σ H E I hf st hg
  subst hP hw hK
  obtain ⟨xs,hq,hx⟩:=hg
  obtain ⟨its,rv,p,hz⟩:=I.tuple hq
  obtain ⟨f0,f1,f2,f3,f4,f5⟩:=hf it (by simp)
  have hl:=rv.length
  exact wpAny_pyNext_tuple_end (I.ok.hd hc) st (show s.heap.IsTuple a its.toArray from p) (by simp; omega) fun h' eb=>⟨rfl,I.turned (t':=s.toks) (fun b o hb e=>eb b o hb e) f0 f1 f3 f4 f5⟩
 self:=fun _ _ _ _ _ st h=>wpAny_pyIter_tupleiter st h
theorem z6v {P:Wh} {w:Wo} {K:W1} {tg:Expr} (it:Addr) (lo:Int) (n:Nat):Turn P w K tg (Itr lo n) [it] it (fun i h=>IsRangeIter h it (lo + (i:Nat) * 1) ((n:Int) - (i:Nat)) 1) where
 mem:=by simp
 obj:=fun i h st b hb=>by
  have e:b=it:=by simpa using hb
  subst e
  exact ⟨_,st,fun v z=>by
   have z':Data.fields _=Data.cell v:=z
   cases z'⟩
 keep:=fun i h h' st k=>k it (by simp) _ st
 item:=by
  intro X hP hw hK hc i pins s σ H E I hf st hg
  subst hP hw hK
  obtain ⟨f0,f1,f2,f3,f4,f5⟩:=hf it (by simp)
  have W:=Walks.range (prog:=X.prog) (w:=X.w) (I.ok.hd hc) it lo 1 n
  refine W.item i s _ _ hg st fun v h' tk hv st' kk=>?_
  obtain ⟨t,rfl⟩:=hv
  have I1:Inv X pins σ H { s with heap:=h',toks:=tk }:=I.turned (fun b o hb e=>kk b o (by simpa using hb) e) f0 f1 f3 f4 f5
  refine ⟨_,rfl,z97 (s:={ s with heap:=h',toks:=tk }) (n:="range_iterator") st' rfl rfl (by decide) ⟨.int (lo + i),H,I1,⟨t,?_⟩,⟨rfl,rfl⟩,st',fun b hb=>(hf b hb).1⟩⟩
  rw [Int.mul_one]
 done:=by
  intro X hP hw hK hc i pins s σ H E I hf st hg
  subst hP hw hK
  obtain ⟨f0,f1,f2,f3,f4,f5⟩:=hf it (by simp)
  exact wpAny_pyNext_range_end (I.ok.hd hc) st (by have:n≤i:=hg; omega) fun h' eb=>⟨rfl,I.turned (t':=s.toks) (fun b o hb e=>eb b o hb e) f0 f1 f3 f4 f5⟩
 self:=fun _ _ _ _ _ st h=>wpAny_pyIter_rangeiter st h
section
variable {X:Cx} {tg:Expr}
theorem z8H {pins:List (Addr×Obj)} {σ:St} {H:Hp} {s:W2} {R:It→Hp→Prop} {E:Value→W2→Prop} {lo hi:Int} {t u v:Tok} {tk:Nat} (I:Inv X pins σ H s) (h1 : -(2 ^ 62)≤lo) (h2:lo < 2 ^ 62) (h3 : -(2 ^ 62)≤hi) (h4:hi < 2 ^ 62)
  (q:R (Itr lo (hi - lo).toNat) H):Wa (model X.prog X.w) X.A (pyIter (.ref s.heap.objs.size)) (PIE X pins σ tg R) E { s with heap:=s.heap.push { cls:=.type "range",data:=.fields #[.int lo t,.int hi u,.int 1 v] },toks:=tk }:=by
 refine wpAny_pyIter_range (IsRange.new ..) (small_one h1 h2 h3 h4) ?_
 have I1:Inv X pins σ H { s with heap:=s.heap.push { cls:=.type "range",data:=.fields #[.int lo t,.int hi u,.int 1 v] },toks:=tk }:=I.kept fun b o e=>Wd _ e
 refine ⟨(s.heap.push { cls:=.type "range",data:=.fields #[.int lo t,.int hi u,.int 1 v] }).objs.size,[(s.heap.push { cls:=.type "range",data:=.fields #[.int lo t,.int hi u,.int 1 v] }).objs.size],_,_,H,rfl,
  I1.kept (t':=tk) fun b o e=>Wd _ e,z6v _ lo (hi - lo).toNat,?_,fun b hb=>?_,q⟩
 ·have e1:lo + ((0:Nat):Int) * 1=lo:=by simp
  have e2:(((hi - lo).toNat:Nat):Int) - ((0:Nat):Int)=Builtin.Range.rangeSize lo hi 1:=by rw [rangeSize_one]; split <;> omega
  show IsRangeIter _ _ (lo + ((0:Nat):Int) * 1) ((((hi - lo).toNat:Nat):Int) - ((0:Nat):Int)) 1
  rw [e1,e2]
  exact Wn _ rfl
 ·have e:b=(s.heap.push { cls:=.type "range",data:=.fields #[.int lo t,.int hi u,.int 1 v] }).objs.size:=by simpa using hb
  subst e
  exact I1.fpOk (Wf _) (I1.hok.fresh (Wf _))
def iRng1 (ta:TA):TI:=fun σ H R=>ta σ H fun vs H1=>∃ j:Int,vs=[.int j]∧-(2 ^ 62)≤j∧j < 2 ^ 62∧R (Itr 0 j.toNat) H1
theorem z7t {a:Expr} {ta:TA} {p pos:Pos} (hg:Gl X "range") (hm:X.mg "range" = none) (ha:PA X [a] ta) (hs:W6 [a] X.env=[(false,eval a X.env)]:=by rfl):PI X tg (.Call (.Name "range" p) [a] [] pos) (iRng1 ta):=by
 intro pins s σ H R I h
 refine Call_ (z3h I hg hm boot_range (WX (thn (ha pos pins s σ H _ I h) fun us s1 ⟨vs,H1,I1,r1,q1⟩=>?_) hs rfl))
 obtain ⟨j,e,q1,q2,q⟩:=q1
 subst e
 cases r1 with
 | cons r rr =>
  cases rr
  obtain ⟨t,rfl⟩:=r
  exact call_range_1 (z8H I1 (by omega) (by omega) q1 q2 (by simpa using q))
def tFor (wi:TI) (g:TG) (tb:TS):TS:=fun D σ H=>wi σ H fun J H1=>∃ W:Nat→Nat→St→Hp→Prop,(∃ m,W 0 m σ H1)∧∀ i m σ H,W i m σ H →
 (J.stop i H∧D.nx σ H)∨(J.go i H∧∃ N:St→Hp→Prop,(∀ σ' H',N σ' H'→∃ m',m' < m∧W (i + 1) m' σ' H')∧∀ x H',J.yld i H x H'→g x σ H' fun σ2 H2=>tb { D with nx:=N,ct:=N,bk:=D.nx } σ2 H2)
def z54 (fp:List Addr) (h:Heap):List (Addr×Obj):=fp.filterMap fun b=>(h.get? b).map fun o=>(b,o)
theorem z2o (hb:b ∈ fp) (e:h.get? b=some o):(b,o) ∈ z54 fp h:=List.mem_filterMap.mpr ⟨b,hb,by rw [e]; rfl⟩
theorem z7E (hp:p ∈ z54 fp h):p.1 ∈ fp∧h.get? p.1=some p.2:=by
 obtain ⟨b,hb,e⟩:=List.mem_filterMap.mp hp
 cases q:h.get? b with
 | none=>rw [q] at e; cases e
 | some o =>
  rw [q] at e
  have e':(b,o)=p:=Wv e
  subst e'
  exact ⟨hb,q⟩
theorem Inv.pinned (I:Inv X pins σ H s) (hf:∀ b ∈ fp,FpOk X pins H b) (ho:∀ b ∈ fp,∃ o,s.heap.get? b=some o∧∀ v,o.data≠.cell v):Inv X (pins ++ z54 fp s.heap) σ H s :=
 I.pins_of fun p hp=>(J8.mp hp).elim (fun z=>I.pin p (WJ _ z)) fun z=>by
  obtain ⟨hb,e⟩:=z7E z
  obtain ⟨f0,f1,f2,_⟩:=hf p.1 hb
  obtain ⟨o,e',d⟩:=ho p.1 hb
  rw [e] at e'; cases e'
  exact ⟨e,f0,f1,f2,d⟩
theorem Inv.unpinned (I:Inv X (pins ++ pl) σ H s):Inv X pins σ H s:=I.pins_of fun p hp=>I.pin p (WJ _ (List.mem_append_left _ hp))
theorem z9A (hp:PassesOwn (model X.prog X.w) X.A X.env X.xe) (hc:X.calm=true) (hi:PI X tg iter wi) (hg:PG X tg g) (hb:PSs X body tb)
  (hs:∀ x,Qq iter X.env x=pure x:=by intro _; rfl):PS X (.For tg iter body [] pos) (tFor wi g tb):=by
 intro pins s σ H D I h
 refine wpAny_For (thn (hi pins s σ H _ I h) fun v s1 h1=>thn h1 fun itv s2 h2=>?_) hs
 obtain ⟨it,fp,tn,J,H2,e,I2,T,st2,f2,W,⟨m0,w0⟩,turn⟩:=h2
 subst e
 -- what stays true of the iterator's objects through the loop
 have stat:∀ {H':Hp},(∀ b ∈ fp,H' b=none)→∀ b ∈ fp,FpOk X pins H' b:=fun hn b hb=>⟨hn b hb,(f2 b hb).2⟩
 refine codeAny_forLoop_any (fun n s'=>∃ i σ' H',Inv X pins σ' H' s'∧tn i s'.heap∧(∀ b ∈ fp,H' b=none)∧W i n σ' H') ?_ m0 ⟨0,σ,H2,I2,st2,fun b hb=>(f2 b hb).1,w0⟩
 rintro n s3 ⟨i,σ3,H3,I3,st3,fr3,w3⟩
 rcases turn i n σ3 H3 w3 with ⟨stop,qn⟩ | ⟨go,N,hN,step⟩
 ·refine Qu hp (thn (T.done X rfl rfl rfl hc i pins s3 σ3 H3 X.xe I3 (stat fr3) st3 stop) fun r s4 ⟨hr,I4⟩=>?_)
  subst hr
  exact wpAny_execs_nil ⟨σ3,H3,I4,qn⟩
 ·refine Qu hp (thn (T.item X rfl rfl rfl hc i pins s3 σ3 H3 X.xe I3 (stat fr3) st3 go) fun r s4 ⟨u,hr,h4⟩=>?_)
  subst hr
  refine Qu hp (thn h4 fun _ s5 ⟨x,H5,I5,r5,y5,st5,fr5⟩=>?_)
  have I5':=I5.pinned (stat fr5) (T.obj _ _ st5)
  refine Qu hp (thn (hg _ s5 σ3 H5 x u _ I5' r5 (step x H5 y5)) fun _ s6 ⟨σ6,H6,I6,q6⟩=>?_)
  refine Qu hp (thn (hb _ s6 σ6 H6 _ I6 q6) fun f s7 q7=>?_)
  have again:∀ {σ7:St} {H7:Hp},Inv X (pins ++ z54 fp s5.heap) σ7 H7 s7→N σ7 H7→∃ m,m < n∧∃ i σ' H',Inv X pins σ' H' s7∧tn i s7.heap∧(∀ b ∈ fp,H' b=none)∧W i m σ' H':=fun {σ7 H7} I7 n7=>by
   obtain ⟨m',hm,w7⟩:=hN σ7 H7 n7
   refine ⟨m',hm,i + 1,σ7,H7,I7.unpinned,T.keep _ _ _ st5 fun b hb o e=>(I7.pin (b,o) (WJ _ (WJ _ (z2o hb e)))).1,fun b hb=>?_,w7⟩
   obtain ⟨o,e,d⟩:=T.obj _ _ st5 b hb
   exact (I7.pin (b,o) (WJ _ (WJ _ (z2o hb e)))).2.1
  cases f with
  | next=>obtain ⟨σ7,H7,I7,n7⟩:=q7; exact again I7 n7
  | cont=>obtain ⟨σ7,H7,I7,n7⟩:=q7; exact again I7 n7
  | brk=>obtain ⟨σ7,H7,I7,q7⟩:=q7; exact ⟨σ7,H7,I7.unpinned,q7⟩
  | ret v=>obtain ⟨x7,σ7,H7,I7,r7,q7⟩:=q7; exact ⟨x7,σ7,H7,I7.unpinned,r7,q7⟩
end
abbrev R2:=V→V→Hp→VK→Prop
def OpR (X:Cx) (f:Value→Value→Sem Value) (r:R2):Prop :=
 ∀ (pins:List (Addr×Obj)) (s:W2) (σ:St) (H:Hp) (x y:V) (v u:Value) (Q:VK),Inv X pins σ H s→RelV x v→RelV y u→r x y H Q →
  Wa (model X.prog X.w) X.A (f v u) (EP X pins σ Q) X.xe s
def CallR (X:Cx) (f:Value) (r:List V→Hp→VK→Prop):Prop :=
 ∀ (pins:List (Addr×Obj)) (s:W2) (σ:St) (H:Hp) (xs:List V) (us:List Value) (Q:VK),Inv X pins σ H s→Vals xs us→r xs H Q →
  Wa (model X.prog X.w) X.A (call f us) (EP X pins σ Q) X.xe s
def tOp (r:R2) (ta tb:TE):TE:=fun σ H Q=>ta σ H fun x H1=>tb σ H1 fun y H2=>r x y H2 Q
def tUn (r:V→Hp→VK→Prop) (ta:TE):TE:=fun σ H Q=>ta σ H fun x H1=>r x H1 Q
def rI (C:Int→Int→Prop) (g:Int→Int→V):R2:=fun x y H Q=>∃ i j,x = .int i∧y = .int j∧C i j∧Q (g i j) H
def rI0 (g:Int→Int→V):R2:=fun x y H Q=>∃ i j,x = .int i∧y = .int j∧Q (g i j) H
section
variable {X:Cx} {a b c:Expr} {ta tb tc:TE} {pos:Pos}
theorem binT (ha:PE X a ta) (hb:PE X b tb) {pins:List (Addr×Obj)} {s:W2} {σ:St} {H:Hp} {R:V→V→Hp→Prop} (I:Inv X pins σ H s)
  (h:ta σ H fun x H1=>tb σ H1 fun y H2=>R x y H2) {Q:Value→W2→Prop} {f:Value→Value→Sem Value}
  (hf:∀ v u s2 x y H2,Inv X pins σ H2 s2→RelV x v→RelV y u→R x y H2→Wa (model X.prog X.w) X.A (f v u) Q X.xe s2) :
  Wa (model X.prog X.w) X.A (eval a X.env) (fun v s₁=>Wa (model X.prog X.w) X.A (eval b X.env) (fun u s₂=>Wa (model X.prog X.w) X.A (f v u) Q X.xe s₂) X.xe s₁) X.xe s:=by
 refine thn (ha pins s σ H _ I h) fun v s1 ⟨x,H1,I1,r1,q1⟩=>?_
 refine thn (hb pins s1 σ H1 _ I1 q1) fun u s2 ⟨y,H2,I2,r2,q2⟩=>?_
 exact hf v u s2 x y H2 I2 r1 r2 q2
theorem zal {op:Operator} {r:R2} (ho:OpR X (WY op) r) (ha:PE X a ta) (hb:PE X b tb):PE X (.BinOp a op b pos) (tOp r ta tb):=by
 intro pins s σ H Q I h
 exact wpAny_BinOp (binT ha hb I h fun v u s2 x y H2 I2 rx ry q=>ho pins s2 σ H2 x y v u Q I2 rx ry q)
theorem opI {f:Value→Value→Sem Value} {C:Int→Int→Prop} {g:Int→Int→Int}
  (rule:∀ (i j:Int) (t u:Tok) (s:W2) (Q:Value→W2→Prop) (E:Value→W2→Prop),C i j→Q (.int (g i j) s.toks) { s with toks:=s.toks + 1 }→Wa (model X.prog X.w) X.A (f (.int i t) (.int j u)) Q E s) :
  OpR X f (rI C fun i j=>.int (g i j)):=by
 intro pins s σ H x y v u Q I rx ry h
 obtain ⟨i,j,rfl,rfl,hc,q⟩:=h
 obtain ⟨t,rfl⟩:=rx
 obtain ⟨t',rfl⟩:=ry
 exact rule i j t t' s _ _ hc ⟨.int (g i j),H,I.tok _,⟨_,rfl⟩,q⟩
theorem opI0 {f:Value→Value→Sem Value} {g:Int→Int→Int}
  (rule:∀ (i j:Int) (t u:Tok) (s:W2) (Q:Value→W2→Prop) (E:Value→W2→Prop),Q (.int (g i j) s.toks) { s with toks:=s.toks + 1 }→Wa (model X.prog X.w) X.A (f (.int i t) (.int j u)) Q E s) :
  OpR X f (rI0 fun i j=>.int (g i j)):=by
 intro pins s σ H x y v u Q I rx ry h
 obtain ⟨i,j,rfl,rfl,q⟩:=h
 obtain ⟨t,rfl⟩:=rx
 obtain ⟨t',rfl⟩:=ry
 exact rule i j t t' s _ _ ⟨.int (g i j),H,I.tok _,⟨_,rfl⟩,q⟩
theorem opB0 {f:Value→Value→Sem Value} {g:Int→Int→Bool}
  (rule:∀ (i j:Int) (t u:Tok) (s:W2) (Q:Value→W2→Prop) (E:Value→W2→Prop),Q (.bool (g i j)) s→Wa (model X.prog X.w) X.A (f (.int i t) (.int j u)) Q E s) :
  OpR X f (rI0 fun i j=>.bl (g i j)):=by
 intro pins s σ H x y v u Q I rx ry h
 obtain ⟨i,j,rfl,rfl,q⟩:=h
 obtain ⟨t,rfl⟩:=rx
 obtain ⟨t',rfl⟩:=ry
 exact rule i j t t' s _ _ ⟨.bl (g i j),H,I,rfl,q⟩
def CDiv (i j:Int):Prop:=0 < j∧j < 1073741824
def CPow (i j:Int):Prop:=0≤j∧j≤1000000∧i.natAbs < 2 ^ 64
def CMul (i j:Int):Prop:=(-(2 ^ 64) < i∧i < 2 ^ 64)∨(-(2 ^ 64) < j∧j < 2 ^ 64)
theorem CMul.ok (h:CMul i j):IntMulOk i j:=by
 rcases h with ⟨h1,h2⟩ | ⟨h1,h2⟩
 ·exact .of_left (intBits_le_64 h1 h2)
 ·exact .of_right (intBits_le_64 h1 h2)
theorem op_add:OpR X (WY .Add) (rI0 fun i j=>.int (i + j)):=opI0 fun _ _ _ _ _ _ _ q=>add_int q
theorem z9F:OpR X (WY .Sub) (rI0 fun i j=>.int (i - j)):=opI0 fun _ _ _ _ _ _ _ q=>sub_int q
theorem op_mul:OpR X (WY .Mult) (rI CMul fun i j=>.int (i * j)):=opI fun _ _ _ _ _ _ _ hc q=>mul_int q hc.ok
theorem z5J:OpR X (WY .FloorDiv) (rI CDiv fun i j=>.int (i / j)):=opI fun i j _ _ _ _ _ hc q=>by
 have h1:(0:Int) < j:=hc.1
 have h2:j < 1073741824:=hc.2
 exact floordiv_int (by omega) (by rw [Int.fdiv_eq_ediv_of_nonneg i (by omega)]; exact q) (.inl (PyProof.noPylong_small (by omega)))
theorem z2Q:OpR X (WY .Mod) (rI (fun _ j=>0 < j) fun i j=>.int (i % j)):=opI fun i j _ _ _ _ _ hc q=>by
 have h1:(0:Int) < j:=hc
 exact mod_int' (by omega) (by rw [Int.fmod_eq_emod_of_nonneg i (by omega)]; exact q)
theorem zbJ:OpR X (WY .Pow) (rI CPow fun i j=>.int (i ^ j.toNat)):=opI fun _ _ _ _ _ _ _ hc q=>pow_int_small hc.1 hc.2.1 hc.2.2 q
end
section
variable {X:Cx} {a b c:Expr} {ta tb tc:TE} {pos:Pos}
theorem zcb (I:Inv X pins σ H s) (q:Q (.bl k) H) (e:k=k'):EP X pins σ Q (.bool k') s:=by
 subst e
 exact ⟨.bl k,H,I,rfl,q⟩
theorem op_lt:OpR X (Q7 .Lt) (rI0 fun i j=>.bl (decide (i < j))):=opB0 fun _ _ _ _ _ _ _ q=>lt_int q
theorem op_gt:OpR X (Q7 .Gt) (rI0 fun i j=>.bl (decide (j < i))):=opB0 fun _ _ _ _ _ _ _ q=>gt_int q
theorem op_ge:OpR X (Q7 .GtE) (rI0 fun i j=>.bl (decide (j≤i))):=opB0 fun _ _ _ _ _ _ _ q=>ge_int q
theorem z7C:OpR X (Q7 .Lt) (fun x y H Q=>∃ i j,x = .str i∧y = .str j∧Q (.bl (decide (i.cps.toList < j.cps.toList))) H):=by
 intro pins s σ H x y v u Q I rx ry h
 obtain ⟨i,j,rfl,rfl,q⟩:=h
 obtain ⟨t,rfl⟩:=rx
 obtain ⟨t',rfl⟩:=ry
 exact lt_str (zcb I q rfl)
theorem OpR.or (h:OpR X f r) (h':OpR X f r'):OpR X f (fun x y H Q=>r x y H Q∨r' x y H Q):=by
 intro pins s σ H x y v u Q I rx ry q
 rcases q with q | q
 ·exact h pins s σ H x y v u Q I rx ry q
 ·exact h' pins s σ H x y v u Q I rx ry q
theorem z1i (b:Expr) (h:op≠.In:=by decide) (h2:op≠.NotIn:=by decide):Qa op b=false:=by
 have e1:(op == CmpOp.In)=false:=by cases op <;> first | rfl | exact absurd rfl h
 have e2:(op == CmpOp.NotIn)=false:=by cases op <;> first | rfl | exact absurd rfl h2
 cases b <;> simp [Qa,e1,e2]
theorem zan {op:CmpOp} {r:R2} (ho:OpR X (Q7 op) r) (ha:PE X a ta) (hb:PE X b tb) (hm:Qa op b=false):PE X (.Compare a [op] [b] pos) (tOp r ta tb):=by
 intro pins s σ H Q I h
 exact wpAny_Compare1 (binT ha hb I h fun v u s2 x y H2 I2 rx ry q=>ho pins s2 σ H2 x y v u Q I2 rx ry q) hm
def tTest (t:TE):TT:=fun σ H Q=>t σ H fun x H'=>∃ k,x = .bl k∧Q k H'
theorem z7o (ho:OpR X (Q7 op) r) (ha:PE X a ta) (hb:PE X b tb) (hm:Qa op b=false):PT X (.Compare a [op] [b] pos) (tTest (tOp r ta tb)):=by
 intro pins s σ H Q I h
 refine wpAny_isTrue_Compare1 (thn (ha pins s σ H _ I h) fun v s1 ⟨x,H1,I1,r1,q1⟩=>thn (hb pins s1 σ H1 _ I1 q1) fun u s2 ⟨y,H2,I2,r2,q2⟩ =>
  thn (ho pins s2 σ H2 x y v u _ I2 r1 r2 q2) fun c s3 ⟨z,H3,I3,r3,k,e,q3⟩=>?_) hm
 subst e
 cases r3
 exact Qp ⟨H3,I3,q3⟩
theorem z4j:(W9:Nat) < 2 ^ 63:=by rw [QZ]; decide
theorem op_add_str:OpR X (WY .Add) (fun x y H Q=>∃ i j,x = .str i∧y = .str j∧i.length + j.length≤W9∧Q (.str (i ++ j)) H):=by
 intro pins s σ H x y v u Q I rx ry h
 obtain ⟨i,j,rfl,rfl,hz,q⟩:=h
 obtain ⟨t,rfl⟩:=rx
 obtain ⟨t',rfl⟩:=ry
 exact add_str (fun t' tk=>⟨.str (i ++ j),H,I.tok _,⟨_,rfl⟩,q⟩) hz
theorem z41 (r:Vals [x] us):∃ u,us=[u]∧RelV x u:=by
 cases r with
 | cons r1 r2=>cases r2; exact ⟨_,rfl,r1⟩
theorem zaS (r:Vals [x,y] us):∃ u w',us=[u,w']∧RelV x u∧RelV y w':=by
 cases r with
 | cons r1 r2 =>
  cases r2 with
  | cons r3 r4=>cases r4; exact ⟨_,_,rfl,r1,r3⟩
theorem z8k (hc:X.calm=true):CallR X (.builtin "max") (fun xs H Q=>∃ i j,xs=[.int i,.int j]∧Q (.int (if j > i then j else i)) H):=by
 intro pins s σ H xs us Q I r h
 obtain ⟨i,j,rfl,q⟩:=h
 obtain ⟨u,w',rfl,⟨t,rfl⟩,⟨t',rfl⟩⟩:=zaS r
 refine max_two_ints (I.ok.hd hc) fun h' tk k=>⟨_,H,I.kept k,?_,q⟩
 by_cases hj:j > i
 ·rw [if_pos hj,if_pos hj]; exact ⟨_,rfl⟩
 ·rw [if_neg hj,if_neg hj]; exact ⟨_,rfl⟩
theorem z8m:CallR X (.type "int") (fun xs H Q=>(∃ i,xs=[.int i]∧Q (.int i) H)∨∃ k,xs=[.bl k]∧Q (.int (if k then 1 else 0)) H):=by
 intro pins s σ H xs us Q I r h
 rcases h with ⟨i,rfl,q⟩ | ⟨k,rfl,q⟩
 ·obtain ⟨u,rfl,t,rfl⟩:=z41 r
  exact call_int_int ⟨.int i,H,I,⟨_,rfl⟩,q⟩
 ·obtain ⟨u,rfl,r1⟩:=z41 r
  cases r1
  exact call_int_bool ⟨.int (if k then 1 else 0),H,I.tok _,⟨_,rfl⟩,q⟩
end
structure ObjM (h:Heap) (x dx C:Addr) (mA:Str→Option Value):Prop where
 obj:h.get? x=some (PySem.W.instObj C dx)
 ns:h.Ns1 dx mA
 ne:dx≠x
theorem z7M {h:Heap} {dx:Addr} {mA:Str→Option Value} (n:h.Ns1 dx mA):∃ od,h.get? dx=some od∧∀ name,PySem.W.lookIn name od=some (mA name):=by
 obtain ⟨o,es,ep,ho,hd,hk,_,hm⟩:=n
 refine ⟨o,ho,fun name=>?_⟩
 have e:=hm name
 unfold nsFind findBy at e
 rw [← Array.find?_toList] at e
 unfold PySem.W.lookIn
 rw [hd]
 dsimp only
 split
 ·rename_i y q
  rw [q] at e
  exact congrArg some e
 ·rename_i q
  rw [q] at e
  have a:es.toList.any (·.refKey)=false:=by
   rw [List.any_eq_false]
   intro y hy
   obtain ⟨z,t,hkey⟩:=hk y (Array.mem_toList_iff.mp hy)
   simp [DictEntry.refKey,hkey]
  have a':¬ es.toList.any (·.refKey)=true:=by rw [a]; exact Qd
  rw [if_neg a']
  exact congrArg some e
theorem ObjM.look (I:ObjM h x dx C mA):∃ od,PySem.W.InstAt h x (PySem.W.instObj C dx) C (some od)∧∀ name,PySem.W.lookIn name od=some (mA name) :=
 let ⟨od,ho,hl⟩:=z7M I.ns
 ⟨od,⟨I.obj,rfl,rfl,ho⟩,hl⟩
section
variable {prog:Wh} {w:Wo} {A:Wp} {E:Value→W2→Prop} {s:W2} {K:W1} {x dx C f:Addr} {mA:Str→Option Value} {name:Str} {v:Value}
end
theorem RelO.some_of (r:RelO (some v) o):∃ u,o=some u∧RelV v u:=by
 cases o with
 | none=>exact (show False from r).elim
 | some u=>exact ⟨u,rfl,r⟩
section
variable {P:Wh} {w:Wo} {H H':Hp} {h h':Heap} {a C dx:Addr} {fs fs':List (Str×V)}
theorem zaF (hok:HOk P w H h) (e:H a=some (.ins C dx fs)):∃ mA,ObjM h a dx C mA∧(∀ f,RelO (fs.lookup f) (mA f))∧PySem.Within mA (fs.map (·.1))∧fs.length≤1000∧H dx=some (.own a):=by
 obtain ⟨d,z,ne,ob,mA,n,r,q⟩:=(show ObjOk P w H h a (.ins C dx fs) from hok a _ e)
 exact ⟨mA,⟨ob,n,ne⟩,r,q,z,d⟩
end
structure Cls (K:W1) (C:Addr):Prop where
 pg:PySem.W.plainGet K C Str.empty=true
 hd:PySem.W.hasDictIn K C=true
 po:PySem.W.plainOver K C=true
 sa:QR K (.ref C) "__setattr__" = some (some (.builtin "object.__setattr__"))
theorem Cls.get {K:W1} {C:Addr} (c:Cls K C) (f:Str):PySem.W.plainGet K C f=true:=c.pg
structure Con (K:W1) (C:Addr) (f:Str) (v:V) (u:Value):Prop where
 at_:QR K (.ref C) f=some (some u)
 rel:RelV v u
 get:PySem.W.specialIn K u "__get__" = some none
 cp:PySem.W.copiedNames.contains f=false
structure Meth (K:W1) (C:Addr) (m:Str) (f:Addr):Prop where
 at_:QR K (.ref C) m=some (some (.ref f))
 fn:PySem.W.isFn K (.ref f)=true
 kp:QC K (.ref f)=true
section
variable {X:Cx} {pins:List (Addr×Obj)} {σ:St} {H:Hp} {s:W2} {a C dx:Addr} {fs:List (Str×V)} {f:Str} {v:V} {A:Wp} {E:Value→W2→Prop}
end
section
variable {X:Cx} {o e value:Expr} {f:Str} {pos pos' tpos:Pos} {ta tv:TE}
end
section
variable {X:Cx} {pins:List (Addr×Obj)} {σ:St} {H:Hp} {s:W2} {A:Wp} {E:Value→W2→Prop} {Q:Value→W2→Prop} {c:Value} {b:Bool}
inductive TyOf (K:W1) (H:Hp):V→Value→Prop where
 | non:TyOf K H .non (.type "NoneType")
 | bl (x:Bool):TyOf K H (.bl x) (.type "bool")
 | int (i:Int):TyOf K H (.int i) (.type "int")
 | str (x:Str):TyOf K H (.str x) (.type "str")
 | flt (x:UInt64):TyOf K H (.flt x) (.type "float")
 | lst {a:Addr} {xs:List V} (e:H a=some (.lst xs)):TyOf K H (.ref a) (.type "list")
 | frz {a:Addr} {o:Obj} {xs:List V} (e:H a=some (.frz o (.lst xs))):TyOf K H (.ref a) (.type "list")
 | tup {a:Addr} {xs:List V} (e:H a=some (.tup xs)):TyOf K H (.ref a) (.type "tuple")
 | dK {a:Addr} {kvs:List (Key×V)} (e:H a=some (.dK kvs)):TyOf K H (.ref a) (.type "dict")
 | dT {a:Addr} {kvs:List (List Key×V)} (e:H a=some (.dT kvs)):TyOf K H (.ref a) (.type "dict")
 | ins {a C dx:Addr} {fs:List (Str×V)} (e:H a=some (.ins C dx fs)) (cl:Cls K C) (ha:QR K (.ref C) "__class__" = some (some (.builtin "object.__class__")))
   (hn:PySem.W.specialIn K (.builtin "object.__class__") "__get__" = some (some (.builtin "getset_descriptor.__get__"))) (htk:PySem.W.takesIn K (.builtin "object.__class__")=some true)
   (hm:PySem.W.mroIn K C (.type "object")=some true):TyOf K H (.ref a) (.ref C)
theorem z1n (I:Inv X pins σ H s) (rx:RelV x u) (ty:TyOf X.K H x t) (e:Qf X.K t c=some b) (h:∀ tk,Q (.bool b) { s with toks:=tk }) :
  Wa (model X.prog X.w) A (call (.builtin "isinstance") [u,c]) Q E s:=by
 cases ty with
 | non=>cases (show u=Value.none from rx); exact WU PySem.W.kitx_none I.kIn True.intro e (fun z=>nomatch z) h
 | bl y=>cases (show u=Value.bool y from rx); exact WU PySem.W.kitx_bool I.kIn True.intro e (fun z=>nomatch z) h
 | int i=>obtain ⟨t,q⟩:=(show ∃ t,u=Value.int i t from rx); cases q; exact WU PySem.W.kitx_int I.kIn True.intro e (fun z=>nomatch z) h
 | str y=>obtain ⟨t,q⟩:=(show ∃ t,u=Value.str y t from rx); cases q; exact WU PySem.W.kitx_str I.kIn True.intro e (fun z=>nomatch z) h
 | flt y=>obtain ⟨t,q⟩:=(show ∃ t,u=Value.float y t from rx); cases q; exact WU PySem.W.kitx_float I.kIn True.intro e (fun z=>nomatch z) h
 | @lst a xs ea =>
  cases (show u=Value.ref a from rx)
  obtain ⟨_,_,n,_,h1⟩:=(show ObjOk X.prog X.w H s.heap a (.lst xs) from I.hok a _ ea)
  exact WU PySem.W.kitx_list I.kIn ⟨_,h1,rfl⟩ e (fun z=>nomatch z) h
 | @frz a ob xs ea =>
  cases (show u=Value.ref a from rx)
  obtain ⟨_,_,_,n,_,h1⟩:=(show ObjOk X.prog X.w H s.heap a (.frz ob (.lst xs)) from I.hok a _ ea)
  exact WU PySem.W.kitx_list I.kIn ⟨_,h1,rfl⟩ e (fun z=>nomatch z) h
 | @tup a xs ea =>
  cases (show u=Value.ref a from rx)
  obtain ⟨_,_,_,p⟩:=(show ObjOk X.prog X.w H s.heap a (.tup xs) from I.hok a _ ea)
  obtain ⟨o,h1,h2,_⟩:=p.tup
  exact WU PySem.W.kitx_tuple I.kIn ⟨o,h1,h2⟩ e (fun z=>nomatch z) h
 | @dK a kvs ea =>
  cases (show u=Value.ref a from rx)
  obtain ⟨_,_,vs,_,p⟩:=(show ObjOk X.prog X.w H s.heap a (.dK kvs) from I.hok a _ ea)
  obtain ⟨o,es,ep,h1,h2,_⟩:=p
  exact WU PySem.W.kitx_dict I.kIn ⟨o,h1,h2.1⟩ e (fun z=>nomatch z) h
 | @dT a kvs ea =>
  cases (show u=Value.ref a from rx)
  obtain ⟨_,_,xs,_,o,es,ep,h1,h2,_⟩:=(show ObjOk X.prog X.w H s.heap a (.dT kvs) from I.hok a _ ea)
  exact WU PySem.W.kitx_dict I.kIn ⟨o,h1,h2.1⟩ e (fun z=>nomatch z) h
 | @ins a C dx fs ea cl ha hn htk hm =>
  cases (show u=Value.ref a from rx)
  obtain ⟨mA,O,_⟩:=zaF I.hok ea
  obtain ⟨od,J,_⟩:=O.look
  exact WU (PySem.W.kitx_own (cl.get _) cl.hd ha hn htk hm) I.kIn J e (fun z=>nomatch z) h
end
structure Room (k:Nat) (A:Wp):Prop where
 hd:A.handled=none
 dp:A.depth + 3 * k + 5 < recursionLimit
 un:A.units + 16 * k + 200 < QO
theorem Room.mono (r:Room k A) (h:j≤k):Room j A:=⟨r.hd,by have:=r.dp; omega,by have:=r.un; omega⟩
theorem Room.deeper (r:Room (k + 1) A) (env:Env):Room k (A.deeper env) :=
 ⟨r.hd,by have:=r.dp; show A.depth + 1 + 3 * k + 5 < _; omega,by have:=r.un; show A.units + 3 + 16 * k + 200 < _; omega⟩
theorem Room.depth (r:Room k A):A.depth < recursionLimit:=by have:=r.dp; omega
def tNil:TA:=fun _ H Q=>Q [] H
def zaZ (ta:TE) (tr:TA):TA:=fun σ H Q=>ta σ H fun x H1=>tr σ H1 fun xs H2=>Q (x :: xs) H2
section
variable {X:Cx} {e:Expr} {es:List Expr} {te:TE} {t:TA} {pos:Pos}
theorem z1H:PA X [] tNil:=fun _ _ _ _ H Q I h=>Calls.spliced_nil ⟨[],H,I,.nil,h⟩
theorem z0Q (ha:PE X e te) (hr:PA X es t) (hs:W6 (e :: es) X.env=(false,eval e X.env) :: W6 es X.env:=by rfl):PA X (e :: es) (zaZ te t):=by
 intro pos pins s σ H Q I h
 rw [hs]
 show Wa _ _ (spliced ((false,eval e X.env) :: WW pos (W6 es X.env))) _ _ s
 refine Calls.spliced_cons (thn (ha pins s σ H _ I h) fun u s1 ⟨x,H1,I1,r1,q1⟩=>?_)
 exact thn (hr pos pins s1 σ H1 _ I1 q1) fun us s2 ⟨xs,H2,I2,r2,q2⟩=>⟨x :: xs,H2,I2,.cons r1 r2,q2⟩
def tTup (t:TA):TE:=fun σ H Q=>t σ H fun xs H1=>xs.length≤W9∧∀ p,H1 p=none→Q (.ref p) (upd H1 p (.tup xs))
def tLst (t:TA):TE:=fun σ H Q=>t σ H fun xs H1=>xs.length≤W9∧∀ p,H1 p=none→Q (.ref p) (upd H1 p (.lst xs))
theorem zbA {x1} (h:PA X es t):PE X (.Tuple es x1 pos) (tTup t):=by
 intro pins s σ H Q I hq
 refine wpAny_Tuple_spliced (thn (h pos pins s σ H _ I hq) fun us s1 ⟨xs,H1,I1,r,z,q⟩=>⟨by rw [← r.length]; exact z,?_⟩)
 have hf:H1 s1.heap.objs.size=none:=I1.hok.fresh (Wf _)
 refine ⟨.ref s1.heap.objs.size,upd H1 s1.heap.objs.size (.tup xs),I1.laid (t':=s1.toks) (fun b u e=>Wd _ e) (Wf _) ?_,rfl,q _ hf⟩
 exact ⟨z,us,r,⟨_,Wn _ rfl⟩⟩
theorem zbE (h:PA X es t):PE X (.List es pos) (tLst t):=by
 intro pins s σ H Q I hq
 refine wpAny_List_spliced (thn (h pos pins s σ H _ I hq) fun us s1 ⟨xs,H1,I1,r,z,q⟩=>⟨by rw [← r.length]; exact z,?_⟩)
 have hf:H1 s1.heap.objs.size=none:=I1.hok.fresh (Wf _)
 refine ⟨.ref s1.heap.objs.size,upd H1 s1.heap.objs.size (.lst xs),I1.laid (t':=s1.toks) (fun b u e=>Wd _ e) (Wf _) ?_,rfl,q _ hf⟩
 exact ⟨z,us,0,r,Wn _ rfl⟩
end
abbrev Sp:=List V→Hp→VK→XK→Prop
abbrev CXT:=List Env→Hp→W2→XK→Value→W2→Prop
structure Env0 (P:Wh) (w:Wo) (K:W1) (mg:Str→Option Value) (base:Heap) (A:Wp) (outer:List Env) (s:W2) (H:Hp):Prop where
 frames:A.frames=some outer
 mod:Mod K mg base
 bs:∀ b o,base.get? b=some o→s.heap.get? b=some o∧H b=none
 bsz:base.objs.size≤s.heap.objs.size
 funs:s.heap.FunFrames base outer
 frf:∀ b ∈ frs outer,H b=none
 hok:HOk P w H s.heap
 bare:AllBare s.gens
def CE (outer:List Env) (P:Wh) (w:Wo) (H:Hp) (s:W2) (Q:VK) (u:Value) (s':W2):Prop :=
 ∃ v H',s'.os=s.os∧AllBare s'.gens∧Un (frs outer) [] H H' s.heap s'.heap∧HOk P w H' s'.heap∧RelV v u∧Q v H'
def CR (CX:CXT) (outer:List Env) (P:Wh) (w:Wo) (H:Hp) (s:W2) (Q:VK) (E:XK) (r:Result) (s':W2):Prop :=
 match r with
 | .ok (.ret u)=>CE outer P w H s Q u s'
 | .ok _=>False
 | .error e=>CX outer H s E e s'
structure FnOk (P:Wh) (w:Wo) (K:W1) (mg:Str→Option Value) (base:Heap) (CX:CXT) (k:Nat) (f:Addr) (fd:WR) (ps:List Str) (sp:Sp):Prop where
 len:∀ vs H Q E,sp vs H Q E→vs.length=ps.length
 run:∀ (A:Wp) (outer:List Env) (s:W2) (H:Hp) (args:Args) (us:List Value) (vs:List V) (Q:VK) (E:XK),Room k A→Env0 P w K mg base A outer s H→BindsTo s fd args (ps.zip us)→Vals vs us→sp vs H Q E →
  QH (model P w) A (.call (.ref f) args) (CR CX outer P w H s Q E) s
section
variable {X:Cx} {pins:List (Addr×Obj)} {σ:St} {H:Hp} {s s':W2}
theorem Inv.env0 (I:Inv X pins σ H s):Env0 X.prog X.w X.K X.mg X.base X.A X.stack s H :=
 ⟨I.ok.frames,I.ok.mod,I.bs,WD I.ok.bsz I.sz,I.stack,I.stkFree,I.hok,I.bare⟩
theorem Inv.after (I:Inv X pins σ H s) (h:CE X.stack X.prog X.w H s Q u s'):EP X pins σ Q u s':=by
 obtain ⟨v,H',os,bare,un,hok,r,q⟩:=h
 obtain ⟨hh,g,d,t,os'⟩:=s'
 obtain rfl:os'=s.os:=os
 exact ⟨v,H',I.call (h':=hh) (g':=g) (d':=d) (t':=t) (ch:=[]) un hok bare (fun b z=>absurd z (by simp)),r,q⟩
end
def zb0 (sp:Sp) (dvs:List V) (E:XK) (t:TA):TE:=fun σ H Q=>t σ H fun vs H1=>sp (vs ++ dvs) H1 Q E
def Binds (K:W1) (fd:WR) (ps:List Str) (ds:List Value):Prop :=
 ∀ (s:W2) (us:List Value),K.In s.heap→(us ++ ds).length=ps.length→BindsTo s fd ⟨us,[]⟩ (ps.zip (us ++ ds))
theorem Binds.all {K:W1} {fd:WR} {ps:List Str} (h:∀ us:List Value,us.length=ps.length→bindArgs fd ⟨us,[]⟩=pure (ps.zip us)):Binds K fd ps []:=fun s us _ hl=>by
 rw [J9] at hl ⊢
 exact .of_eq (h us hl)
def z8r (CX:CXT) (X:Cx) (E:XK):Prop:=∀ (pins:List (Addr×Obj)) (σ:St) (H:Hp) (s:W2) (e:Value) (s':W2),Inv X pins σ H s→CX X.stack H s E e s'→X.xe e s'
section
variable {X:Cx} {CX:CXT} {k:Nat} {f C:Addr} {fd:WR} {ps:List Str} {sp:Sp} {dvs:List V} {ds:List Value} {E:XK} {x m:Str} {p pos apos:Pos} {e o:Expr} {es:List Expr} {ta:TE} {t:TA}
theorem zbc (F:FnOk X.prog X.w X.K X.mg X.base CX k f fd ps sp) (hr:Room k X.A) (hb:Binds X.K fd ps ds) (hd:Vals dvs ds) (hx:z8r CX X E)
  (I:Inv X pins σ H s) (r:Vals vs us) (h:sp (vs ++ dvs) H Q E):Wa (model X.prog X.w) X.A (call (.ref f) us) (EP X pins σ Q) X.xe s:=by
 have r2:Vals (vs ++ dvs) (us ++ ds):=r.append hd
 have hl:(us ++ ds).length=ps.length:=by rw [← r2.length]; exact F.len _ _ _ _ h
 refine wpAny_call (codeAny_mono (F.run X.A X.stack s H ⟨us,[]⟩ (us ++ ds) (vs ++ dvs) Q E hr I.env0 (hb s us I.kIn hl) r2 h) fun r s' hq=>?_)
 cases r with
 | error e=>exact hx pins σ H s e s' I hq
 | ok fl =>
  cases fl with
  | ret u=>exact I.after hq
  | next=>exact False.elim hq
  | brk=>exact False.elim hq
  | cont=>exact False.elim hq
theorem zao (F:FnOk X.prog X.w X.K X.mg X.base CX k f fd ps sp) (hr:Room k X.A) (hg:Gl X x) (hm:X.mg x=some (.ref f)) (hk:QC X.K (.ref f)=true) (hb:Binds X.K fd ps ds) (hd:Vals dvs ds) (hx:z8r CX X E)
  (ha:PA X (e :: es) t) (hdb:(x == ("__debug__" : Str))=false:=by decide) (he:W6 (e :: es) X.env=(false,eval e X.env) :: W6 es X.env:=by rfl) (hpl:(WW pos (W6 es X.env)).any (·.1)=false:=by rfl) :
  PE X (.Call (.Name x p) (e :: es) [] pos) (zb0 sp dvs E t):=by
 intro pins s σ H Q I h
 refine wpAny_Call_Name_kw (zaz I hg hm ?_ hdb)
 refine PySem.W.callWith_K (h₀:=X.base) I.ok.mod.kin hk (thn (ha pos pins s σ H _ I h) fun us s1 ⟨vs,H1,I1,r,q⟩=>⟨I1.kIn,?_⟩) he hpl
 exact zbc F hr hb hd hx I1 r q
structure Mk (K:W1) (C f:Addr):Prop where
 makes:PySem.W.makesIn K C=true
 init:QR K (.ref C) "__init__" = some (some (.ref f))
 fn:PySem.W.isFn K (.ref f)=true
 kp:QC K (.ref C)=true
end
section
variable {X:Cx} {CX:CXT} {k:Nat} {f C:Addr} {fd:WR} {ps ks:List Str} {sp:Sp} {E:XK} {x m:Str} {p pos apos kpos:Pos} {e o:Expr} {es:List Expr} {kws:List Keyword} {te ta:TE} {t tk:TA} {nm:Option Str}
structure KBinds (K:W1) (fd:WR) (ps ks:List Str) (g:List Value→List Value→List Value) (gV:List V→List V→List V):Prop where
 to:∀ (s:W2) (us ws:List Value),K.In s.heap→(g us ws).length=ps.length→BindsTo s fd ⟨us,ks.zip ws⟩ (ps.zip (g us ws))
 rel:∀ {vs:List V} {us:List Value} {zs:List V} {ws:List Value},Vals vs us→Vals zs ws→Vals (gV vs zs) (g us ws)
variable {g:List Value→List Value→List Value} {gV:List V→List V→List V}
end
structure FnScope (N P:List Str) (sc:Scope):Prop where
 kind:sc.kind = .function
 co:sc.isCoroutine=false
 gen:sc.isGenerator=false
 nd:N.Nodup
 pre:N.take P.length=P
 par:∀ x ∈ P,sc.names.lookup x=some .local∨sc.names.lookup x=some .cell
 nofree:∀ y ∈ sc.names,y.2≠.free
theorem z5o {kindOf:Str→Option NameKind} {x:Str}:∀ {binds:List (Str×Value)} {m:Str→Option Value},(∀ v,(x,v) ∉ binds)→bindL kindOf binds m x=m x
 | [],_,_=>rfl
 | (n,v) :: r,m,h=>by
  unfold bindL
  rw [z5o fun w hw=>h w (Wb _ hw)]
  split
  ·have:x≠n:=by rintro rfl; exact h v Wg
   simp [this]
  ·rfl
theorem z5q {kindOf:Str→Option NameKind} {x:Str}:∀ {binds:List (Str×Value)} {m:Str→Option Value},(∀ v,(x,v) ∉ binds)→bindC kindOf binds m x=m x
 | [],_,_=>rfl
 | (n,v) :: r,m,h=>by
  unfold bindC
  rw [z5q fun w hw=>h w (Wb _ hw)]
  split
  ·rfl
  ·have:x≠n:=by rintro rfl; exact h v Wg
   simp [this]
theorem z5p {kindOf:Str→Option NameKind} {x:Str} {v:Value}:∀ {P:List Str} {vs:List Value} {i:Nat} {m:Str→Option Value},P.Nodup→P[i]? = some x→vs[i]? = some v→kindOf x=some .local →
  bindL kindOf (P.zip vs) m x=some v
 | [],_,_,_,_,h,_,_=>by simp at h
 | _ :: _,[],_,_,_,_,h,_=>by simp at h
 | p :: P,w :: vs,0,m,nd,h1,h2,hk=>by
  simp at h1 h2; subst h1; subst h2
  show bindL kindOf ((p,w) :: P.zip vs) m p=_
  unfold bindL
  rw [z5o fun v hv=>(WV.mp nd).1 (List.of_mem_zip hv).1,if_pos hk]
  simp
 | p :: P,w :: vs,i + 1,m,nd,h1,h2,hk=>by
  show bindL kindOf ((p,w) :: P.zip vs) m x=_
  unfold bindL
  exact z5p (i:=i) (WV.mp nd).2 (by simpa using h1) (by simpa using h2) hk
theorem z5r {kindOf:Str→Option NameKind} {x:Str} {v:Value}:∀ {P:List Str} {vs:List Value} {i:Nat} {m:Str→Option Value},P.Nodup→P[i]? = some x→vs[i]? = some v→kindOf x≠some .local →
  bindC kindOf (P.zip vs) m x=some v
 | [],_,_,_,_,h,_,_=>by simp at h
 | _ :: _,[],_,_,_,_,h,_=>by simp at h
 | p :: P,w :: vs,0,m,nd,h1,h2,hk=>by
  simp at h1 h2; subst h1; subst h2
  show bindC kindOf ((p,w) :: P.zip vs) m p=_
  unfold bindC
  rw [z5q fun v hv=>(WV.mp nd).1 (List.of_mem_zip hv).1,if_neg hk]
  simp
 | p :: P,w :: vs,i + 1,m,nd,h1,h2,hk=>by
  show bindC kindOf ((p,w) :: P.zip vs) m x=_
  unfold bindC
  exact z5r (i:=i) (WV.mp nd).2 (by simpa using h1) (by simpa using h2) hk
def z43 (N:List Str) (vs:List V):St:=vs.map some ++ W4 (N.length - vs.length) none
def cxOf (CX:CXT) (P:Wh) (w:Wo) (K:W1) (mg:Str→Option Value) (base:Heap) (N:List Str) (qual:Str) (scope:Scope) (f:Addr) (cd:Value) (A:Wp) (outer:List Env) (s:W2) (H:Hp) (E:XK):Cx where
 prog:=P
 w:=w
 K:=K
 mg:=mg
 base:=base
 A:=A.deeper (envOfC qual scope s.heap.objs.size f cd)
 N:=N
 s₀:=s
 H₀:=H
 env:=envOfC qual scope s.heap.objs.size f cd
 outer:=outer
 stack:=envOfC qual scope s.heap.objs.size f cd :: outer
 ex:=[]
 calm:=true
 fn:=fun _=>true
 pn:=[]
 xe:=fun e s'=>Wa (model P w) (A.deeper (envOfC qual scope s.heap.objs.size f cd)) (leaving (envOfC qual scope s.heap.objs.size f cd) e) (fun _ s''=>CX outer H s E e s'') (fun e' s''=>CX outer H s E e' s'') s'
theorem z6n {sc:Scope} {n:Nat} {x:Str} (h:sc.names.lookup x=some .cell):∃ c,(Qg n sc.names []).lookup x=some c:=by
 have q:=PySem.W.cellsFrom_some sc.names n [] (.inl h)
 exact Option.isSome_iff_exists.mp q
theorem z7W {CX:CXT} {P:Wh} {w:Wo} {K:W1} {mg:Str→Option Value} {base:Heap} {N ps:List Str} {qual:Str} {scope:Scope} {f:Addr} {cd:Value} {A:Wp} {outer:List Env} {s s1:W2} {H:Hp} {E:XK} {us:List Value} {vs:List V}
  (S:FnScope N ps scope) (hd:A.handled=none) (e0:Env0 P w K mg base A outer s H) (hl:vs.length=ps.length) (r:Vals vs us)
  (x:InCallC s s.heap.objs.size (bindL (envOfC qual scope s.heap.objs.size f cd).kindOf (ps.zip us) fun _=>none) (Qg (s.heap.objs.size + 1) scope.names []) (bindC (envOfC qual scope s.heap.objs.size f cd).kindOf (ps.zip us) fun _=>none) s1) :
  Inv (cxOf CX P w K mg base N qual scope f cd A outer s H E) [] (z43 N vs) H s1:=by
 have hpl:ps.length≤N.length:=by have:=congrArg List.length S.pre; rw [Jm] at this; omega
 obtain ⟨h1,tk,rfl,hk⟩:=x.done
 have noA:∀ b:Addr,b ∉ (cxOf CX P w K mg base N qual scope f cd A outer s H E).ex:=fun b z=>absurd (show b ∈ ([]:List Addr) from z) (by simp)
 refine ⟨⟨e0.mod,S.kind,rfl,rfl,Wf _,fun y z c h1 h2=>?_,fun y hy=>?_,fun y c _ h=>?_,fun _=>hd,Around.frames_deeper e0.frames,.inr ⟨rfl,rfl⟩,fun b z=>absurd z (noA b),e0.bs,e0.bsz,fun b _ _=>noA b,fun b z=>absurd z (noA b),e0.funs,e0.frf⟩,
  rfl,e0.bare,Un.kept hk,⟨_,x.toInCall.ns,fun i y v h1 h2 h3=>?_⟩,fun y c h=>⟨_,x.cell y c h⟩,e0.hok.fresh (Wf _),fun y c h=>?_,fun p hp=>absurd (show p ∈ ([]:List (Addr×Obj)) from hp) (by simp),e0.hok.kept hk,?_⟩
 ·exact name_of_addr x.apart (Wt h1) (Wt h2)
 ·have hy:scope.names.lookup y=some .cell∨scope.names.lookup y=some .free:=hy
  rcases hy with hy | hy
  ·exact z6n hy
  ·exact absurd rfl (S.nofree _ (Wt hy))
 ·exact QQ (x.above y c (Wt h))
 ·have hi:i < vs.length:=by
   unfold z43 at h2
   by_cases hi:i < vs.length
   ·exact hi
   ·rw [List.getElem?_append_right (by simpa using hi)] at h2
    rw [List.getElem?_replicate] at h2
    split at h2 <;> cases h2
  have ha:vs[i]? = some v:=by
   unfold z43 at h2
   rw [Qy (by simpa using hi),Wu] at h2
   cases e:vs[i]? with
   | none=>rw [e] at h2; cases h2
   | some a=>rw [e] at h2; cases h2; rfl
  obtain ⟨u,hu,rv⟩:=r.get ha
  have hp:ps[i]? = some y:=by
   rw [← S.pre,List.getElem?_take_of_lt (by omega)]; exact h1
  have ndP:ps.Nodup:=by rw [← S.pre]; exact S.nd.sublist (List.take_sublist _ _)
  refine ⟨u,rv,?_⟩
  rcases S.par y (WE hp) with k | k
  ·exact .inl ⟨k,z5p ndP hp hu k⟩
  ·obtain ⟨c,e⟩:=z6n (n:=s.heap.objs.size + 1) k
   refine .inr ⟨.inl k,c,e,?_⟩
   have q:=x.cell y c e
   rw [z5r ndP hp hu (by show scope.names.lookup y≠_; rw [k]; decide)] at q
   exact q
 ·exact e0.hok.fresh (QQ (x.above y c (Wt h)))
 ·unfold z43
  show _=N.length
  rw [Q8,WM,List.length_replicate]
  omega
theorem fn_of {CX:CXT} {P:Wh} {w:Wo} {K:W1} {mg:Str→Option Value} {base:Heap} {k:Nat} {f:Addr} {name qual:Str} {params:Arguments} {body:List Stmt} {scope:Scope} {dV kV doc pm cdv ct oc:Value} {an od:Option Addr}
  {osl:Array (Option Value)} {N ps:List Str} {sp:Sp} (lk:K.lookup f=some ⟨oc,od,.func (Ql name qual params body scope dV kV doc pm an cdv ct),osl⟩) (hcd:PySem.W.codeIn K cdv qual=true) (S:FnScope N ps scope)
  (len:∀ vs H Q E,sp vs H Q E→vs.length=ps.length)
  (hbody:∀ (A:Wp) (outer:List Env) (s:W2) (H:Hp) (vs:List V) (Q:VK) (E:XK),Room k (A.deeper (envOfC qual scope s.heap.objs.size f cdv))→sp vs H Q E →
   ∃ t,PSs (cxOf CX P w K mg base N qual scope f cdv A outer s H E) body t∧t { nx:=fun _ H'=>Q .non H',rt:=Q } (z43 N vs) H) :
  FnOk P w K mg base CX (k + 1) f (Ql name qual params body scope dV kV doc pm an cdv ct) ps sp:=by
 refine ⟨len,fun A outer s H args us vs Q E hr e0 hb r hsp=>?_⟩
 have hl:=len _ _ _ _ hsp
 have KX:K.In s.heap:=e0.mod.kin.keeps fun b o e=>(e0.bs b o e).1
 have lim:s.heap.NoLimit:=e0.mod.nolimit.keeps fun b o e=>(e0.bs b o e).1
 have hkind:∀ y ∈ ps.zip us,scope.names.lookup y.1=some .local∨(scope.names.lookup y.1=some .cell∧((Qg (s.heap.objs.size + 1) scope.names []).lookup y.1).isSome=true):=fun ⟨n,v⟩ hy=>by
  rcases S.par n (List.of_mem_zip hy).1 with q | q
  ·exact .inl q
  ·exact .inr ⟨q,PySem.W.cellsFrom_some _ _ _ (.inl q)⟩
 refine codeAny_call_function hr.depth (KX _ _ lk) rfl S.co S.gen rfl (PySem.W.codeRec_of KX hcd) (hb _ _ _ _ ?_)
 refine wpAny_newFunctionEnv_cells S.kind hkind fun env he s1 x=>?_
 subst he
 refine ⟨lim.keeps x.toInCall.keep,codeAny_func ?_⟩
 obtain ⟨t,ht,hq⟩:=hbody A outer s H vs Q E (hr.deeper _) hsp
 have I:Inv (cxOf CX P w K mg base N qual scope f cdv A outer s H E) [] (z43 N vs) H s1:=z7W S hr.hd e0 hl r x
 refine Qk (ht [] s1 (z43 N vs) H _ I hq) (fun fl s' hs=>?_) fun e s' hs=>hs
 have fin:∀ {σ':St} {H':Hp} {v:V} {u:Value},Inv (cxOf CX P w K mg base N qual scope f cdv A outer s H E) [] σ' H' s'→RelV v u→Q v H'→CE outer P w H s Q u s' :=
  fun {σ' H' v u} J rv q=>⟨v,H',J.os,J.bare,J.base,J.hok,rv,q⟩
 cases fl with
 | ret u =>
  obtain ⟨v,σ',H',J,rv,q⟩:=hs
  exact fin J rv q
 | next =>
  obtain ⟨σ',H',J,q⟩:=hs
  exact fin (v:=V.non) (u:=Value.none) J rfl q
 | brk =>
  obtain ⟨_,_,_,q⟩:=hs
  exact False.elim q
 | cont =>
  obtain ⟨_,_,_,q⟩:=hs
  exact False.elim q
section
variable {X:Cx} {x:Str} {p pos:Pos} {e:Expr} {es:List Expr} {t:TA} {id T:String} {r:List V→Hp→VK→Prop}
def tCB (r:List V→Hp→VK→Prop) (t:TA):TE:=fun σ H Q=>t σ H fun vs H1=>r vs H1 Q
theorem z4B (hc:CallR X (.builtin id) r) (hg:Gl X x) (hm:X.mg x=none) (hv:Qj x=some (.builtin id)) (ha:PA X (e :: es) t) (hn:x≠"__name__":=by decide) (hdb:(x == ("__debug__" : Str))=false:=by decide)
  (he:W6 (e :: es) X.env=(false,eval e X.env) :: W6 es X.env:=by rfl) (hpl:(WW pos (W6 es X.env)).any (·.1)=false:=by rfl):PE X (.Call (.Name x p) (e :: es) [] pos) (tCB r t):=by
 intro pins s σ H Q I h
 refine wpAny_Call_Name_kw (z3h I hg hm hv ?_ hn hdb)
 exact PyProof.Rows.callWith_builtin1 (thn (ha pos pins s σ H _ I h) fun us s1 ⟨vs,H1,I1,r1,q1⟩=>hc pins s1 σ H1 vs us Q I1 r1 q1) he hpl
theorem z7x (hc:CallR X (.type T) r) (hg:Gl X x) (hm:X.mg x=none) (hv:Qj x=some (.type T)) (ha:PA X (e :: es) t) (hn:x≠"__name__":=by decide) (hdb:(x == ("__debug__" : Str))=false:=by decide)
  (he:W6 (e :: es) X.env=(false,eval e X.env) :: W6 es X.env:=by rfl) (hpl:(WW pos (W6 es X.env)).any (·.1)=false:=by rfl):PE X (.Call (.Name x p) (e :: es) [] pos) (tCB r t):=by
 intro pins s σ H Q I h
 refine wpAny_Call_Name_kw (z3h I hg hm hv ?_ hn hdb)
 exact WX (thn (ha pos pins s σ H _ I h) fun us s1 ⟨vs,H1,I1,r1,q1⟩=>hc pins s1 σ H1 vs us Q I1 r1 q1) he hpl
end
end L2
namespace HT
open PySem PyProof.Rows
section
open PySem.SeqAt
open PySem.AutoSeq1 (wpAny_loadPart')
open PySem.MeetsSeq PySem.MeetsSeq2 PySem.MeetsSeq3
end
section
variable {prog:Wh} {w:Wo} {A:Wp} {E:Value→W2→Prop} {s:W2}
theorem cat_tup (ht:IsTup s.heap t vs.toArray) (hb:IsTup s.heap b ws.toArray) (hv:vs≠[])
  (h1:ws=[]→Q (.ref t) s) (h2:ws≠[]→Q (.ref s.heap.objs.size) { s with heap:=s.heap.push { cls:=.type "tuple",data:=.seq (vs ++ ws).toArray } })
  (hsz:vs.length + ws.length≤W9):Wa (model prog w) A (WY .Add (.ref t) (.ref b)) Q E s:=by
 obtain ⟨⟨cls,dd,data,sl⟩,ho,hc,n,hd⟩:=id ht
 obtain ⟨⟨cls2,dd2,data2,sl2⟩,ho2,hc2,n2,hd2⟩:=id hb
 simp only at hc hd hc2 hd2
 subst hc hd hc2 hd2
 have e:vs.toArray ++ ws.toArray=(vs ++ ws).toArray:=by simp
 by_cases hw:ws=[]
 ·exact concat_meets ⟨_,ho,rfl⟩ ⟨_,ho2,rfl⟩ noFill_tuple_add seq_tuple_add PySem.F.slot_tuple_add PySem.F.entry_tuple_add (PySem.F.args_tuple_add_2 _ _)
   (tuple_addW1 t b vs.toArray ws.toArray n n2 dd dd2 sl sl2 (by simpa using hv) (by simp [hw])) ⟨ho,ho2,h1 hw⟩
 ·refine concat_meets ⟨_,ho,rfl⟩ ⟨_,ho2,rfl⟩ noFill_tuple_add seq_tuple_add PySem.F.slot_tuple_add PySem.F.entry_tuple_add (PySem.F.args_tuple_add_2 _ _)
   (tuple_addW2 t b vs.toArray ws.toArray n n2 dd dd2 sl sl2 (by simpa using hv) (by simpa using hw) (by rw [Wi,Wi]; exact hsz)) ⟨ho,ho2,?_⟩
  rw [e]
  exact h2 hw
def sIx (n d:Nat):Option Int→Nat
 | none=>d
 | some v=>if v < 0 then (v + (n:Int)).toNat else min v.toNat n
theorem sIx_le (n d:Nat) (hd:d≤n) (o:Option Int):sIx n d o≤n:=by
 cases o with
 | none=>exact hd
 | some v =>
  show (if v < 0 then (v + (n:Int)).toNat else min v.toNat n)≤n
  by_cases hv:v < 0
  ·rw [if_pos hv]; omega
  ·rw [if_neg hv]; exact Nat.min_le_right _ _
theorem z8e (v:Int) (n d:Nat):(if v < 0 then max (v + (n:Int)) 0 else min v (n:Int))=((sIx n d (some v):Nat):Int):=by
 show (if v < 0 then max (v + (n:Int)) 0 else min v (n:Int))=(((if v < 0 then (v + (n:Int)).toNat else min v.toNat n):Nat):Int)
 by_cases hv:v < 0
 ·simp only [if_pos hv]; omega
 ·simp only [if_neg hv]; omega
theorem z6O (lo hi:Option Int) (n:Nat):Builtin.Slice.sliceAdjust lo hi 1 (n:Int)=(((sIx n 0 lo:Nat):Int),((sIx n n hi:Nat):Int)):=by
 have h1:¬ ((1:Int) < 0):=by omega
 unfold Builtin.Slice.sliceAdjust
 simp only [h1,if_false]
 refine Prod.ext ?_ ?_
 ·cases lo with
  | none=>rfl
  | some v=>exact z8e v n 0
 ·cases hi with
  | none=>rfl
  | some v=>exact z8e v n n
theorem z6B (i j:Nat):Qz (i:Int) (j:Int) 1=j - i:=by
 unfold Qz
 have h1:(1:Int) > 0:=by omega
 simp only [h1,if_true,Int.ediv_one]
 split <;> omega
theorem z4f (p:IsPart v o) (h:Q o s):Wa (model prog w) A (Builtin.Slice.slicePartIndex v) Q E s:=by
 cases p with
 | none=>exact slicePart_none h
 | int i t=>exact slicePart_int h
theorem sliceApplied_gen {sl:Addr} {vl vu:Value} {lo hi:Option Int} {n:Nat} {Q:Int×Int×Nat→W2→Prop} (hs:s.heap.IsSliceOf sl vl vu .none) (pl:IsPart vl lo) (pu:IsPart vu hi)
  (h:Q (((sIx n 0 lo:Nat):Int),1,sIx n n hi - sIx n 0 lo) s):Wa (model prog w) A (Builtin.Slice.sliceApplied (.ref sl) (pure (n:Int))) Q E s:=by
 obtain ⟨os,hos,hcs,hds⟩:=id hs
 unfold Builtin.Slice.sliceApplied Builtin.Slice.sliceFields
 refine W0 (W0 (WG hos hds (x:=vl) rfl (W0 (WG hos hds (x:=vu) rfl (W0 (WG hos hds (x:=.none) rfl (W5 ?_)))))))
 refine W0 (slicePart_none ?_)
 show Wa _ _ (if ((1:Int) == 0)=true then _ else _) _ _ s
 rw [if_neg (by decide)]
 refine W0 (z4f pl (W0 (z4f pu (W0 (W5 ?_)))))
 show Wa _ _ (match Builtin.Slice.sliceAdjust lo hi 1 (n:Int) with | (lo,hi)=>pure (lo,(1:Int),Qz lo hi 1)) _ _ s
 rw [z6O lo hi n]
 show Wa _ _ (pure (((sIx n 0 lo:Nat):Int),(1:Int),Qz ((sIx n 0 lo:Nat):Int) ((sIx n n hi:Nat):Int) 1)) _ _ s
 rw [z6B]
 exact W5 h
theorem z8N (xs:Array Value) (i k:Nat):((Wx k).filterMap fun (m:Nat)=>xs[((i:Int) + (m:Int) * 1).toNat]?).toArray=((xs.toList.drop i).take k).toArray:=by
 have e:(fun (m:Nat)=>xs[((i:Int) + (m:Int) * 1).toNat]?)=fun m=>xs[i + m]?:=by
  funext m
  have:((i:Int) + (m:Int) * 1).toNat=i + m:=by omega
  rw [this]
 rw [e]
 have:=pick_run xs i k
 rw [List.filterMap_map] at this
 have e2:((fun x=>xs[x]?) ∘ fun x=>i + x)=fun m=>xs[i + m]?:=rfl
 rw [e2] at this
 rw [this]
theorem getItem_tuple_cut {t sl:Addr} {items:Array Value} {vl vu:Value} {lo hi:Option Int} {Q:Value→W2→Prop} (ht:IsTup s.heap t items) (hs:s.heap.IsSliceOf sl vl vu .none) (pl:IsPart vl lo) (pu:IsPart vu hi)
  (hw:¬ (sIx items.size 0 lo=0∧sIx items.size items.size hi=items.size))
  (h:Q (.ref s.heap.objs.size) { s with heap:=s.heap.push { cls:=.type "tuple",data:=.seq ((items.toList.drop (sIx items.size 0 lo)).take (sIx items.size items.size hi - sIx items.size 0 lo)).toArray } })
  (hsz:items.size≤W9):Wa (model prog w) A (getItem (.ref t) (.ref sl)) Q E s:=by
 have htake:sizeOk (.seq ((items.toList.drop (sIx items.size 0 lo)).take (sIx items.size items.size hi - sIx items.size 0 lo)).toArray):=by
  show ((items.toList.drop (sIx items.size 0 lo)).take (sIx items.size items.size hi - sIx items.size 0 lo)).toArray.size≤W9
  rw [Wi,Jm,List.length_drop,J2]
  omega
 have hj:sIx items.size items.size hi≤items.size:=sIx_le _ _ (Wf _) hi
 obtain ⟨os,hos,hcs,hds⟩:=id hs
 have hTs:s.TypeIs (.ref sl) "slice":=⟨os,hos,hcs⟩
 unfold getItem
 try with_reducible refine Qb ?_
 first | refine W0 (W5 ?_) | skip
 refine W0 (wpAny_sequenceKey ht.typeIs (by decide) ?_)
 refine W0 (WH (name:=Str.ofString "__getitem__") ht.typeIs Qi
  (WZ Qi ht.typeIs entry_tuple_getitem ?_ (args_tuple_getitem _ _)))
 show Wa _ _ (Builtin.Tuple.tupleItemsOf (.ref t) >>= _) _ _ s
 refine W0 (tupleItemsOf_ ht ?_)
 refine W0 (wpAny_typeOf hTs ?_)
 rw [if_pos (by decide)]
 refine W0 (sliceApplied_gen hs pl pu ?_)
 have hno:¬ ((((sIx items.size 0 lo:Nat):Int) == 0 && (1:Int) == 1 && (sIx items.size items.size hi - sIx items.size 0 lo) == items.size)=true):=by
  intro q
  rw [Ws,Ws] at q
  have q1:((sIx items.size 0 lo:Nat):Int)=0:=eq_of_beq q.1.1
  have q2:sIx items.size items.size hi - sIx items.size 0 lo=items.size:=eq_of_beq q.2
  exact hw ⟨by omega,by omega⟩
 show Wa _ _ (if (((sIx items.size 0 lo:Nat):Int) == 0 && (1:Int) == 1 && (sIx items.size items.size hi - sIx items.size 0 lo) == items.size)=true then _ else _) _ _ s
 rw [if_neg hno,z8N]
 first
  | exact W0 (m:=QE _) (Q4 (W5 ⟨_,rfl,W5 h⟩) htake)
  | exact W0 (m:=QE _) (Q4 (W0 (W5 (W5 ⟨_,rfl,W5 h⟩))) htake)
  | exact W0 (W0 (m:=QE _) (Q4 (W5 (W5 ⟨_,rfl,W5 h⟩)) htake))
  | exact W0 (W0 (m:=QE _) (Q4 (W5 ⟨_,rfl,W5 h⟩) htake))
end
end HT
namespace L2
open PySem PySem.Spec PyProof.Rows
abbrev TO:=St→Hp→(Option Int→Hp→Prop)→Prop
def PO (X:Cx) (e:Option Expr) (t:TO):Prop :=
 ∀ (pins:List (Addr×Obj)) (s:W2) (σ:St) (H:Hp) (Q:Option Int→Hp→Prop),Inv X pins σ H s→t σ H Q →
  Wa (model X.prog X.w) X.A (evalPart e X.env) (fun u s'=>∃ o H',Inv X pins σ H' s'∧IsPart u o∧Q o H') X.xe s
def tPart (t:TE):TO:=fun σ H Q=>t σ H fun x H1=>∃ i,x = .int i∧Q (some i) H1
section
variable {X:Cx} {e:Expr} {te:TE} {lo hi:Option Expr} {tl th:TO} {pos p2:Pos}
theorem zaj (h:PE X e te):PO X (some e) (tPart te):=by
 intro pins s σ H Q I hw
 rw [evalPart_some]
 refine thn (h pins s σ H _ I hw) fun u s1 ⟨x,H1,I1,r1,q1⟩=>?_
 obtain ⟨i,rfl,q⟩:=q1
 obtain ⟨t,rfl⟩:=r1
 exact ⟨some i,H1,I1,.int i t,q⟩
def SlR (X:Cx) (r:V→Option Int→Option Int→Hp→VK→Prop):Prop :=
 ∀ (pins:List (Addr×Obj)) (s:W2) (σ:St) (H:Hp) (x:V) (v vl vu:Value) (lo hi:Option Int) (sl:Addr) (Q:VK),Inv X pins σ H s→RelV x v→s.heap.IsSliceOf sl vl vu .none→IsPart vl lo→IsPart vu hi→r x lo hi H Q →
  ∃ T id,typeLookup (.type T) "__getitem__" = pure (some (.builtin id))∧s.TypeIs v T∧Wa (model X.prog X.w) X.A (getItem v (.ref sl)) (EP X pins σ Q) X.xe s
theorem SlR.or (h:SlR X r) (h':SlR X r'):SlR X (fun x lo hi H Q=>r x lo hi H Q∨r' x lo hi H Q):=by
 intro pins s σ H x v vl vu lo hi sl Q I rx hs pl pu q
 rcases q with q | q
 ·exact h pins s σ H x v vl vu lo hi sl Q I rx hs pl pu q
 ·exact h' pins s σ H x v vl vu lo hi sl Q I rx hs pl pu q
def tSl (r:V→Option Int→Option Int→Hp→VK→Prop) (te:TE) (tl th:TO):TE:=fun σ H Q=>te σ H fun x H1=>tl σ H1 fun l H2=>th σ H2 fun u H3=>r x l u H3 Q
theorem z8O (hr:SlR X r) (he:PE X e te) (hl:PO X lo tl) (hu:PO X hi th):PE X (.Subscript e (.Slice lo hi none p2) pos) (tSl r te tl th):=by
 intro pins s σ H Q I h
 refine Subscript_ (thn (he pins s σ H _ I h) fun v s1 ⟨x,H1,I1,r1,q1⟩=>?_)
 refine wpAny_Slice (thn (hl pins s1 σ H1 _ I1 q1) fun vl s2 ⟨l,H2,I2,pl,q2⟩=>thn (hu pins s2 σ H2 _ I2 q2) fun vu s3 ⟨u,H3,I3,pu,q3⟩=>?_)
 rw [evalPart_none]
 refine W5 ?_
 have I4:Inv X pins σ H3 { s3 with heap:=s3.heap.push { cls:=.type "slice",data:=.fields #[vl,vu,.none] } }:=I3.kept (t':=s3.toks) fun b ob q=>Wd _ q
 obtain ⟨T,id,hT,ht,hg⟩:=hr pins { s3 with heap:=s3.heap.push { cls:=.type "slice",data:=.fields #[vl,vu,.none] } } σ H3 x v vl vu l u s3.heap.objs.size Q I4 r1 (Heap.IsSliceOf.new ..) pl pu q3
 show Wa (model X.prog X.w) X.A (subscriptTail e (.Slice lo hi none p2) v (.ref s3.heap.objs.size)) (EP X pins σ Q) X.xe { s3 with heap:=s3.heap.push { cls:=.type "slice",data:=.fields #[vl,vu,.none] } }
 exact tail_any (ops:=[.ref s3.heap.objs.size,v]) ht hT hg (by with_unfolding_all rfl)
def cutV (xs:List V) (lo hi:Option Int):List V:=(xs.drop (HT.sIx xs.length 0 lo)).take (HT.sIx xs.length xs.length hi - HT.sIx xs.length 0 lo)
theorem z3X (xs:List V) (lo hi:Option Int):(cutV xs lo hi).length≤xs.length:=by
 unfold cutV
 rw [Jm,List.length_drop]
 omega
def rSlT (K:W1):V→Option Int→Option Int→Hp→VK→Prop:=fun x lo hi H Q=>∃ a xs,x = .ref a∧SqT K H a xs ∧
 ¬ (HT.sIx xs.length 0 lo=0∧HT.sIx xs.length xs.length hi=xs.length)∧∀ p,H p=none→Q (.ref p) (upd H p (.tup (cutV xs lo hi)))
theorem zb5:SlR X (rSlT X.K):=by
 intro pins s σ H x v vl vu lo hi sl Q I rx hs pl pu h
 obtain ⟨a,xs,rfl,hx,hw,q⟩:=h
 cases rx
 obtain ⟨its,r,ht,hz⟩:=I.tuple hx
 have hlen:its.toArray.size=xs.length:=by rw [Wi]; exact r.length.symm
 refine ⟨"tuple",_,PyProof.Rows.slot_tuple_getitem.lookup,ht.typeIs,?_⟩
 refine HT.getItem_tuple_cut ht hs pl pu (by rw [hlen]; exact hw) ?_ (by rw [hlen]; exact hz)
 rw [hlen]
 refine ⟨.ref s.heap.objs.size,_,I.laid (t':=s.toks) (o:=.tup (cutV xs lo hi)) (fun b ob q=>Wd _ q) (Wf _) ?_,rfl,q _ (I.hok.fresh (Wf _))⟩
 exact ⟨WD (z3X xs lo hi) hz,_,(r.drop (HT.sIx xs.length 0 lo)).take (HT.sIx xs.length xs.length hi - HT.sIx xs.length 0 lo),IsTupN.new _ _⟩
def zbp (K:W1):R2:=fun x y H Q=>∃ a b xs ys,x = .ref a∧y = .ref b∧SqT K H a xs∧SqT K H b ys∧xs≠[]∧xs.length + ys.length≤W9 ∧
 (ys=[]→Q (.ref a) H)∧(ys≠[]→∀ p,H p=none→Q (.ref p) (upd H p (.tup (xs ++ ys))))
theorem Vals.nil_iff (r:Vals xs us):us=[] ↔ xs=[]:=by
 cases r with
 | nil=>simp
 | cons _ _=>simp
theorem op_catT:OpR X (WY .Add) (zbp X.K):=by
 intro pins s σ H x y v u Q I rx ry h
 obtain ⟨a,b,xs,ys,rfl,rfl,ha,hb,hx,hz,q1,q2⟩:=h
 cases rx
 cases ry
 obtain ⟨its,r1,p1,_⟩:=I.tuple ha
 obtain ⟨its2,r2,p2,_⟩:=I.tuple hb
 refine HT.cat_tup p1 p2 (fun z=>hx (r1.nil_iff.mp z)) (fun z=>⟨.ref a,H,I,rfl,q1 (r2.nil_iff.mp z)⟩) (fun z=>?_) (by rw [← r1.length,← r2.length]; exact hz)
 refine ⟨.ref s.heap.objs.size,_,I.laid (t':=s.toks) (o:=.tup (xs ++ ys)) (fun b ob q=>Wd _ q) (Wf _) ?_,rfl,q2 (fun w=>z (r2.nil_iff.mpr w)) _ (I.hok.fresh (Wf _))⟩
 exact ⟨by rw [Q8]; exact hz,_,r1.append r2,IsTupN.new _ _⟩
end
def ixN (n:Nat) (i:Int):Option Nat:=if 0≤i then (if i < n then some i.toNat else none) else if -(n:Int)≤i then some (i + n).toNat else none
def atI {α:Type} (xs:List α) (i:Int):Option α:=(ixN xs.length i).bind fun j=>xs[j]?
theorem z7R (h:ixN n i=some j):seqIndex? i n=some j∧j < n∧-(n:Int)≤i∧i < n:=by
 unfold ixN at h
 by_cases h0:0≤i
 ·rw [if_pos h0] at h
  by_cases h1:i < n
  ·rw [if_pos h1] at h
   have e:i.toNat=j:=Wv h
   exact ⟨by rw [seqIndex_of h0 h1,e],by omega,by omega,h1⟩
  ·rw [if_neg h1] at h; cases h
 ·rw [if_neg h0] at h
  by_cases h1 : -(n:Int)≤i
  ·rw [if_pos h1] at h
   have e:(i + n).toNat=j:=Wv h
   exact ⟨by rw [seqIndex_neg (by omega) h1,e],by omega,h1,by omega⟩
  ·rw [if_neg h1] at h; cases h
theorem z5T (h:atI xs i=some v):∃ j,seqIndex? i xs.length=some j∧xs[j]? = some v∧j < xs.length∧-(xs.length:Int)≤i∧i < xs.length:=by
 unfold atI at h
 cases e:ixN xs.length i with
 | none=>rw [e] at h; cases h
 | some j =>
  rw [e] at h
  obtain ⟨h1,h2,h3,h4⟩:=z7R e
  exact ⟨j,h1,h,h2,h3,h4⟩
def z3c (b:Expr):Prop:=∀ o i,subscripted b false o i=operate [o,i] (getItem o i)
def IxR (X:Cx) (r:R2):Prop :=
 ∀ (value slice:Expr) (pins:List (Addr×Obj)) (s:W2) (σ:St) (H:Hp) (x y:V) (v u:Value) (Q:VK),Inv X pins σ H s→RelV x v→RelV y u→r x y H Q →
  subscripted slice false v u=operate [v,u] (getItem v u)→Wa (model X.prog X.w) X.A (subscriptTail value slice v u) (EP X pins σ Q) X.xe s
def MtR (X:Cx) (id:String) (r:V→List V→Hp→VK→Prop):Prop :=
 ∀ (pins:List (Addr×Obj)) (s:W2) (σ:St) (H:Hp) (x:V) (xs:List V) (v:Value) (us:List Value) (Q:VK),Inv X pins σ H s→RelV x v→Vals xs us→r x xs H Q →
  Wa (model X.prog X.w) X.A (call (.builtin id) (v :: us)) (EP X pins σ Q) X.xe s
section
variable {X:Cx} {a b:Expr} {ta tb:TE} {pos:Pos}
theorem IxR.or (h:IxR X r) (h':IxR X r'):IxR X (fun x y H Q=>r x y H Q∨r' x y H Q):=by
 intro value slice pins s σ H x y v u Q I rx ry q hs
 rcases q with q | q
 ·exact h value slice pins s σ H x y v u Q I rx ry q hs
 ·exact h' value slice pins s σ H x y v u Q I rx ry q hs
theorem z7w (hr:IxR X r) (ha:PE X a ta) (hb:PE X b tb) (hs:z3c b):PE X (.Subscript a b pos) (tOp r ta tb):=by
 intro pins s σ H Q I h
 exact Subscript_ (binT ha hb I h fun v u s2 x y H2 I2 rx ry q=>hr a b pins s2 σ H2 x y v u Q I2 rx ry q (hs _ _))
def rIxL (K:W1):R2:=fun x y H Q=>∃ p xs i v,x = .ref p∧y = .int i∧SqL K H p xs∧atI xs i=some v∧Q v H
def rIxT (K:W1):R2:=fun x y H Q=>∃ p xs i v,x = .ref p∧y = .int i∧SqT K H p xs∧atI xs i=some v∧Q v H
def rIxS:R2:=fun x y H Q=>∃ z i c,x = .str z∧y = .int i∧z.length≤W9∧atI z.cps.toList i=some c∧Q (.str ⟨#[c]⟩) H
theorem ix_list:IxR X (rIxL X.K):=by
 intro value slice pins s σ H x y v u Q I rx ry h hs
 obtain ⟨p,xs,i,z,rfl,rfl,hq,he,q⟩:=h
 cases rx
 obtain ⟨t,rfl⟩:=ry
 obtain ⟨its,r,pl,hz⟩:=I.list hq
 obtain ⟨j,h1,h2,h3,h4,h5⟩:=z5T he
 obtain ⟨w,ew,rw'⟩:=r.get h2
 have hl:=r.length
 have hn:=z4j
 have fin:EP X pins σ Q w s:=⟨z,H,I,rw',q⟩
 by_cases h0:0≤i
 ·have hj:i.toNat=j:=by
   rw [seqIndex_of h0 h5] at h1
   exact Wv h1
  exact item_listR pl.isList h0 (by omega) (by rw [hj]; simpa using ew) fin hs
 ·have hj:(i + (its.toArray.size:Int)).toNat=j:=by
   rw [seqIndex_neg (by omega) h4] at h1
   rw [Wi,← hl]
   exact Wv h1
  exact subscriptTail_builtinR (x:=w) pl.isList.typeIs slot_list_getitem.lookup
   (wpAny_getItem_list_neg (Q:=fun r s'=>r=w∧EP X pins σ Q r s') pl.isList (by omega) (by rw [Wi] <;> omega) (by omega) (by rw [hj]; simpa using ew) ⟨rfl,fin⟩) hs
theorem ix_tup:IxR X (rIxT X.K):=by
 intro value slice pins s σ H x y v u Q I rx ry h hs
 obtain ⟨p,xs,i,z,rfl,rfl,hq,he,q⟩:=h
 cases rx
 obtain ⟨t,rfl⟩:=ry
 obtain ⟨its,r,pl,hz⟩:=I.tuple hq
 obtain ⟨j,h1,h2,h3,h4,h5⟩:=z5T he
 obtain ⟨w,ew,rw'⟩:=r.get h2
 have hl:=r.length
 have hn:=z4j
 have fin:EP X pins σ Q w s:=⟨z,H,I,rw',q⟩
 exact subscriptTail_builtinR (x:=w) pl.typeIs slot_tuple_getitem.lookup
  (getItem_tuple (j:=j) (Q:=fun r s'=>r=w∧EP X pins σ Q r s') pl (by omega) (by omega) (by rw [Wi,← hl]; exact h1) (by simpa using ew) ⟨rfl,fin⟩) hs
theorem zc3:IxR X rIxS:=by
 intro value slice pins s σ H x y v u Q I rx ry h hs
 obtain ⟨z,i,c,rfl,rfl,hz,he,q⟩:=h
 obtain ⟨t,rfl⟩:=rx
 obtain ⟨t',rfl⟩:=ry
 obtain ⟨j,h1,h2,h3,h4,h5⟩:=z5T he
 have hl:z.cps.toList.length=z.length:=by simp [Str.length]
 rw [hl] at h1 h4 h5
 have hn:=z4j
 exact tail_any (typeIs_str s z t) slot_str_getitem.lookup (getItem_str (c:=c) (by
  have e1:decide (i < -(2 ^ 63:Int))=false:=decide_eq_false (by omega)
  have e2:decide (i ≥ 2 ^ 63)=false:=decide_eq_false (by omega)
  rw [e1,e2,Bool.or_false]) (by rw [h1]; simpa using h2) ⟨.str ⟨#[c]⟩,H,I.tok _,⟨_,rfl⟩,q⟩) hs
def rIx (K:W1):R2:=fun x y H Q=>rIxL K x y H Q∨rIxT K x y H Q∨rIxS x y H Q
theorem z0K:IxR X (rIx X.K):=ix_list.or (ix_tup.or zc3)
theorem z6G (its:List Value) (n j:Nat) (u:Value):Obj.mapSeq (·.setIfInBounds j u) { cls:=.type "list",data:=.seq its.toArray n } = { cls:=.type "list",data:=.seq (its.set j u).toArray n }:=by
 simp [Obj.mapSeq]
theorem Inv.lst (I:Inv X pins σ H s) (h:H p=some (.lst xs)) :
  ∃ (its:List Value) (n:Nat),Vals xs its∧s.heap.get? p=some { cls:=.type "list",data:=.seq its.toArray n }∧xs.length≤W9:=by
 obtain ⟨z,its,n,r,e⟩:=I.hok p _ h
 exact ⟨its,n,r,e,z⟩
theorem Inv.lstUpd {pins:List (Addr×Obj)} {σ:St} {H:Hp} {s:W2} {p:Addr} {xs ys:List V} {its its':List Value} {n n':Nat} {f:Obj→Obj} (I:Inv X pins σ H s) (h:H p=some (.lst xs))
  (ho:s.heap.get? p=some { cls:=.type "list",data:=.seq its.toArray n }) (hf:f { cls:=.type "list",data:=.seq its.toArray n } = { cls:=.type "list",data:=.seq its'.toArray n' }) (r:Vals ys its') (hz:ys.length≤W9) (t:Nat) :
  Inv X pins σ (upd H p (.lst ys)) { s with heap:=s.heap.update p f,toks:=t }:=by
 have e:(s.heap.update p f).get? p=some { cls:=.type "list",data:=.seq its'.toArray n' }:=by
  rw [WO f ho (by rw [hf] <;> rfl),hf]
 refine I.write (x:=p) (e:=p) (by rw [h]; trivial) (.inl rfl) (fun b u hb q=>(WL _ _ (Ne.symm hb)).trans q) ⟨_,e⟩ ?_
 exact ⟨hz,its',n',r,e⟩
def zbj:V→V→V→Hp→(Hp→Prop)→Prop:=fun o i v H Q=>∃ p xs k j,o = .ref p∧i = .int k∧H p=some (.lst xs)∧ixN xs.length k=some j∧Q (upd H p (.lst (xs.set j v)))
theorem z66:PSet X zbj:=by
 intro pins s σ H o i v ov iv u Q I ro ri rv h
 obtain ⟨p,xs,k,j,rfl,rfl,hp,hj,q⟩:=h
 cases ro
 obtain ⟨t,rfl⟩:=ri
 obtain ⟨its,n,r,ho,hz⟩:=I.lst hp
 obtain ⟨h1,h2,h3,h4⟩:=z7R hj
 have hl:=r.length
 have hn:=z4j
 have I':Inv X pins σ (upd H p (.lst (xs.set j v))) { s with heap:=s.heap.update p (Obj.mapSeq (·.setIfInBounds j u)) } :=
  I.lstUpd hp ho (z6G its n j u) (r.set rv j) (by rw [Q6]; exact hz) s.toks
 by_cases h0:0≤k
 ·have hk:k.toNat=j:=by
   rw [seqIndex_of h0 h4] at h1
   exact Wv h1
  exact PySem.W.ki_setAt ho h0 (by omega) (by rw [Wi,← hl]; exact h4) (by rw [hk]; exact ⟨_,I',q⟩)
 ·have hk:(k + (its.toArray.size:Int)).toNat=j:=by
   rw [seqIndex_neg (by omega) h3] at h1
   rw [Wi,← hl]
   exact Wv h1
  exact PySem.W.ki_setBack ho (by omega) (by rw [Wi,← hl]; exact h3) (by omega) (by rw [hk]; exact ⟨_,I',q⟩)
theorem z4U (lo hi:Option Int) (n:Nat):(J0 lo hi none n).1=((HT.sIx n 0 lo:Nat):Int)∧(J0 lo hi none n).2.1=((HT.sIx n n hi:Nat):Int)∧(J0 lo hi none n).2.2=1:=by
 refine ⟨?_,?_,rfl⟩
 ·cases lo with
  | none=>simp [J0,HT.sIx]
  | some i =>
   simp only [J0,HT.sIx,Option.getD_none,show (1:Int) > 0 by decide,if_true]
   by_cases h:i < 0
   ·simp only [h,if_true] <;> omega
   ·simp only [h,if_false] <;> omega
 ·cases hi with
  | none=>simp [J0,HT.sIx]
  | some i =>
   simp only [J0,HT.sIx,Option.getD_none,show (1:Int) > 0 by decide,if_true]
   by_cases h:i < 0
   ·simp only [h,if_true] <;> omega
   ·simp only [h,if_false] <;> omega
theorem z4u (its:List Value) (lo hi:Option Int):slicePick its.toArray lo hi none=((its.drop (HT.sIx its.length 0 lo)).take (HT.sIx its.length its.length hi - HT.sIx its.length 0 lo)).toArray:=by
 obtain ⟨h1,h2,h3⟩:=z4U lo hi its.toArray.size
 unfold slicePick
 rw [h1,h2,h3]
 simp only [sliceRange_one,pick_run,Wi] <;> rfl
def rSlL (K:W1):V→Option Int→Option Int→Hp→VK→Prop:=fun x lo hi H Q=>∃ a xs,x = .ref a∧SqL K H a xs∧∀ p,H p=none→Q (.ref p) (upd H p (.lst (cutV xs lo hi)))
theorem za3:SlR X (rSlL X.K):=by
 intro pins s σ H x v vl vu lo hi sl Q I rx hs pl pu h
 obtain ⟨a,xs,rfl,hx,q⟩:=h
 cases rx
 obtain ⟨its,r,ht,hz⟩:=I.list hx
 have hlen:=r.length
 refine ⟨"list",_,slot_list_getitem.lookup,ht.isList.typeIs,?_⟩
 refine wpAny_getItem_list_slice ht.isList hs pl pu .none (by simp) ?_ (by rw [Wi] <;> omega)
 rw [z4u,← hlen]
 refine ⟨.ref s.heap.objs.size,_,I.laid (t':=s.toks) (o:=.lst (cutV xs lo hi)) (fun b ob q=>Wd _ q) (Wf _) ?_,rfl,q _ (I.hok.fresh (Wf _))⟩
 exact ⟨WD (z3X xs lo hi) hz,_,0,(r.drop (HT.sIx xs.length 0 lo)).take (HT.sIx xs.length xs.length hi - HT.sIx xs.length 0 lo),Wn _ rfl⟩
theorem call_len_seq:CallR X (.builtin "len") (fun xs H Q=>∃ p ys,xs=[.ref p]∧(SqL X.K H p ys∨SqT X.K H p ys)∧Q (.int ys.length) H):=by
 intro pins s σ H xs us Q I r h
 obtain ⟨p,ys,rfl,hq,q⟩:=h
 obtain ⟨u,rfl,rx⟩:=z41 r
 cases rx
 have hn:=z4j
 rcases hq with hq | hq
 ·obtain ⟨its,r',pl,hz⟩:=I.list hq
  have hlen:=r'.length
  exact Calls.call_len_list pl.isList (by simp only [Wi] <;> omega) ⟨.int ys.length,H,I.tok _,⟨s.toks + 1,by rw [Wi,hlen]⟩,q⟩
 ·obtain ⟨its,r',pl,hz⟩:=I.tuple hq
  have hlen:=r'.length
  exact len_tuple pl (by simp only [Wi] <;> omega) ⟨.int ys.length,H,I.tok _,⟨s.toks + 1,by rw [Wi,hlen]⟩,q⟩
theorem z5l:CallR X (.builtin "len") (fun xs H Q=>∃ z,xs=[.str z]∧z.length≤W9∧Q (.int z.length) H):=by
 intro pins s σ H xs us Q I r h
 obtain ⟨z,rfl,hz,q⟩:=h
 obtain ⟨u,rfl,t,rfl⟩:=z41 r
 have hn:=z4j
 exact len_str (by omega) ⟨.int z.length,H,I.tok _,⟨_,rfl⟩,q⟩
theorem CallR.or (h:CallR X f r) (h':CallR X f r'):CallR X f (fun xs H Q=>r xs H Q∨r' xs H Q):=by
 intro pins s σ H xs us Q I rs q
 rcases q with q | q
 ·exact h pins s σ H xs us Q I rs q
 ·exact h' pins s σ H xs us Q I rs q
theorem z4N:CallR X (.type "tuple") (fun xs H Q=>∃ p ys,xs=[.ref p]∧((SqL X.K H p ys∧∀ l,H l=none→Q (.ref l) (upd H l (.tup ys)))∨(SqT X.K H p ys∧Q (.ref p) H))):=by
 intro pins s σ H xs us Q I r h
 obtain ⟨p,ys,rfl,h⟩:=h
 obtain ⟨u,rfl,rx⟩:=z41 r
 cases rx
 rcases h with ⟨hq,q⟩ | ⟨hq,q⟩
 ·obtain ⟨its,r',pl,hz⟩:=I.list hq
  have hlen:=r'.length
  refine call_tuple_list pl.isList (fun h' kp=>?_) (by simp only [Wi] <;> omega)
  have I1:Inv X pins σ H { s with heap:=h' }:=I.kept (t':=s.toks) kp
  have I2:Inv X pins σ (upd H h'.objs.size (.tup ys)) { s with heap:=h'.push { cls:=.type "tuple",data:=.seq its.toArray } } :=
   I1.laid (t':=s.toks) (fun b o e=>Wd _ e) (Wf _) (show ObjOk X.prog X.w _ _ _ (.tup ys) from ⟨hz,its,r',IsTupN.new _ _⟩)
  exact ⟨.ref h'.objs.size,_,I2,rfl,q _ (I1.hok.fresh (Wf _))⟩
 ·obtain ⟨its,r',pl,hz⟩:=I.tuple hq
  exact call_tuple_same pl ⟨.ref p,H,I,rfl,q⟩
def tyV (K:W1) (T:String) (x:V) (H:Hp):Prop:=match x with
 | .str _=>T = "str"
 | .int _=>T = "int"
 | .ref p=>(T = "list"∧∃ xs,SqL K H p xs)∨(T = "tuple"∧∃ o,K.lookup p=some o∧o.cls = .type "tuple"∧o.dict=none) ∨
   (T = "dict"∧((∃ kvs,H p=some (.dK kvs))∨∃ kvs,H p=some (.dT kvs)))∨(T = "set"∧∃ S n,H p=some (.set S n))
 | _=>False
theorem zaT (I:Inv X pins σ H s) (r:RelV x v) (ty:tyV X.K T x H) :
  s.TypeIs v T∧∀ a,v = .ref a→∃ ob,s.heap.get? a=some ob∧ob.dict=none:=by
 cases x with
 | str z =>
  obtain ⟨t,rfl⟩:=r
  cases (show T = "str" from ty)
  exact ⟨typeIs_str s z t,fun _ e=>nomatch e⟩
 | int i =>
  obtain ⟨t,rfl⟩:=r
  cases (show T = "int" from ty)
  exact ⟨QK s i t,fun _ e=>nomatch e⟩
 | ref p =>
  cases r
  rcases ty with ⟨rfl,xs,hq⟩ | ⟨rfl,o,hk,hc,hd⟩ | ⟨rfl,hk⟩ | ⟨rfl,S,n,hk⟩
  ·obtain ⟨its,_,pl,_⟩:=I.list hq
   refine ⟨pl.isList.typeIs,fun a e=>?_⟩
   cases e
   obtain ⟨o,n,e,c,hd,_⟩:=pl
   exact ⟨o,e,hd⟩
  ·refine ⟨⟨o,I.kIn p o hk,hc⟩,fun a e=>?_⟩
   cases e
   exact ⟨o,I.kIn _ o hk,hd⟩
  ·have z:∃ o,s.heap.get? p=some o∧o.ExactDict:=by
    rcases hk with ⟨kvs,hk⟩ | ⟨kvs,hk⟩
    ·obtain ⟨_,_,_,_,o,_,_,e,ex,_⟩:=I.hok p _ hk
     exact ⟨o,e,ex⟩
    ·obtain ⟨_,_,_,_,o,_,_,e,ex,_⟩:=I.hok p _ hk
     exact ⟨o,e,ex⟩
   obtain ⟨o,e,ex⟩:=z
   refine ⟨⟨o,e,ex.1⟩,fun a e2=>?_⟩
   cases e2
   exact ⟨o,e,ex.2.1⟩
  ·obtain ⟨o,_,_,_,e,ex,_⟩:=I.hok p _ hk
   refine ⟨⟨o,e,ex.1⟩,fun a e2=>?_⟩
   cases e2
   exact ⟨o,e,ex.2.1⟩
 | _=>exact False.elim ty
def tBM (K:W1) (T:String) (r:V→List V→Hp→VK→Prop) (to:TE) (t:TA):TE:=fun σ H Q=>to σ H fun x H1=>tyV K T x H1∧t σ H1 fun xs H2=>r x xs H2 Q
variable {o e:Expr} {es:List Expr} {to:TE} {t:TA} {name:Str} {apos cpos:Pos} {T id:String} {r:V→List V→Hp→VK→Prop}
theorem z8S (pa:PlainAttrs T) (slot:Slot T name id) (hty:typeOf (.builtin id)=pure (.type "method_descriptor")) (hm:MtR X id r) (ho:PE X o to) (ha:PA X (e :: es) t)
  (hbase:QI o name X.env (eval o X.env)=eval o X.env:=by rfl)
  (hfew:((WW cpos (W6 (e :: es) X.env)).all (fun x=>!x.1) && (backToKw cpos (J1 [] X.env)).all (fun x=>x.1.isSome)
   && decide ((e :: es).length + ([]:List Keyword).length + (if ([]:List Keyword).isEmpty then 0 else 1) < 30))=true:=by rfl)
  (hline:(apos.endLine == cpos.line)=true:=by rfl) (hs:W6 (e :: es) X.env=(false,eval e X.env) :: W6 es X.env:=by rfl) (hplain:(WW cpos (W6 es X.env)).any (·.1)=false:=by rfl) :
  PE X (.Call (.Attribute o name apos) (e :: es) [] cpos) (tBM X.K T r to t):=by
 intro pins s σ H Q I h
 refine wpAny_Call_method_late hbase hfew hline rfl (thn (ho pins s σ H _ I h) fun v s1 ⟨x,H1,I1,r1,ty,q1⟩=>?_)
 obtain ⟨h1,h2⟩:=zaT I1 r1 ty
 refine ⟨T,id,pa,slot,hty,h1,h2,?_⟩
 have hA:=ha cpos pins s1 σ H1 _ I1 q1
 rw [hs] at hA ⊢
 refine Calls.callWith_builtin (by show (false || (WW cpos (W6 es X.env)).any (·.1))=false; rw [hplain] <;> rfl) (Calls.evalArgs_plain ?_)
 exact thn hA fun us s2 ⟨vs,H2,I2,r2,q2⟩=>hm pins s2 σ H2 x vs v us Q I2 r1 r2 q2
end
def MtM (X:Cx) (id:String) (r:V→List V→Hp→VK→Prop):Prop :=
 ∀ (pins:List (Addr×Obj)) (s:W2) (σ:St) (H:Hp) (x:V) (xs:List V) (v:Value) (us:List Value) (Q:VK),Inv X pins σ H s→RelV x v→Vals xs us→r x xs H Q →
  Wa (model X.prog X.w) X.A (call (.builtin id) (v :: us)) (EP X pins σ Q) X.xe s
theorem Vals.one:∀ {x:V} {us:List Value},Vals [x] us→∃ u,us=[u]∧RelV x u
 | _,_,.cons r .nil=>⟨_,rfl,r⟩
theorem Vals.rep (h:Vals xs us):∀ k:Nat,Vals (W4 k xs).flatten (W4 k us).flatten
 | 0=>.nil
 | k + 1=>by
  rw [WC,WC,Qr,Qr]
  exact Vals.append h (Vals.rep h k)
theorem z3U (its:List Value):∀ (k:Nat) (acc:List Value),
  List.foldl (fun x1 x2=>x1 ++ x2) acc.toArray (W4 k its.toArray)=(acc ++ (W4 k its).flatten).toArray
 | 0,acc=>by simp
 | k + 1,acc=>by
  have e:acc.toArray ++ its.toArray=(acc ++ its).toArray:=by simp
  have e2:(acc ++ its) ++ (W4 k its).flatten=acc ++ (W4 (k + 1) its).flatten:=by
   rw [WC,Qr,List.append_assoc]
  rw [← e2,← z3U its k (acc ++ its),← e,WC,QL]
section
variable {X:Cx} {pins:List (Addr×Obj)} {σ:St} {H:Hp} {s:W2} {l b:Addr} {xs ys zs:List V}
theorem Inv.lset {its its':List Value} {n:Nat} {f:Array Value→Array Value} {t':Nat} (I:Inv X pins σ H s) (hH:H l=some (.lst xs))
  (e:s.heap.get? l=some { cls:=.type "list",data:=.seq its.toArray n }) (hf:f its.toArray=its'.toArray) (hv:Vals ys its') (hz:ys.length≤W9) :
  Inv X pins σ (upd H l (.lst ys)) { s with heap:=s.heap.update l (Obj.mapSeq f),toks:=t' }:=by
 have q:=PySem.IsL.update e f
 rw [hf] at q
 refine I.write (x:=l) (e:=l) (by rw [hH]; exact trivial) (.inl rfl) (fun b' u hb hu=>(WL s.heap (Obj.mapSeq f) (Ne.symm hb)).trans hu) ⟨_,q⟩ ?_
 exact ⟨hz,its',_,hv,q⟩
theorem Inv.lnew (I:Inv X pins σ H s) (hv:Vals ys its) (hz:ys.length≤W9) :
  Inv X pins σ (upd H s.heap.objs.size (.lst ys)) { s with heap:=s.heap.push { cls:=.type "list",data:=.seq its.toArray },toks:=t' } :=
 I.laid (fun _ _ q=>Wd _ q) (Wf _) ⟨hz,its,0,hv,Wn _ rfl⟩
theorem Inv.fresh (I:Inv X pins σ H s):H s.heap.objs.size=none:=I.hok.fresh (Wf _)
theorem Inv.lstM (I:Inv X pins σ H s) (hH:H l=some (.lst xs)):xs.length≤W9∧∃ (its:List Value) (n:Nat),Vals xs its∧xs.length=its.length∧s.heap.get? l=some { cls:=.type "list",data:=.seq its.toArray n }:=by
 obtain ⟨z,its,n,r,e⟩:=I.hok l _ hH
 exact ⟨z,its,n,r,r.length,e⟩
end
section
variable {X:Cx}
def z7n:V→List V→Hp→VK→Prop:=fun x vs H Q=>∃ l xs y,x = .ref l∧vs=[y]∧H l=some (.lst xs)∧xs.length < W9∧Q .non (upd H l (.lst (xs ++ [y])))
theorem z59:MtM X "list.append" z7n:=by
 intro pins s σ H x vs v us Q I rx rv h
 obtain ⟨l,xs,y,rfl,rfl,hH,hz,q⟩:=h
 cases rx
 obtain ⟨u,rfl,ru⟩:=rv.one
 obtain ⟨z,its,n,r,hl,e⟩:=I.lstM hH
 refine call_meets F.slot_list_append ⟨_,e,rfl⟩ F.entry_list_append (F.args_list_append_2 _ _) (PySem.list_append l its.toArray n u (by rw [Wi]; omega)) ⟨e,?_⟩
 refine ⟨.non,_,I.lset (its':=its ++ [u]) hH e (by simp) (r.append (.cons ru .nil)) ?_,rfl,q⟩
 rw [Q8,List.length_singleton]
 omega
theorem z4G (xs:List α) (k:Nat):(W4 k xs).flatten.length=k * xs.length:=by
 induction k with
 | zero=>simp
 | succ k ih=>rw [WC,Qr,Q8,ih,Nat.succ_mul,Nat.add_comm]
end
section
variable {prog:Wh} {w:Wo} {A:Wp} {E:Value→W2→Prop} {s:W2}
set_option maxRecDepth 100000 in
end
section
variable {X:Cx}
end
section
variable {κ:Type} [DecidableEq κ]
def valV (kvs:List (κ×V)) (k:κ):Option V:=(kvs.find? fun kv=>decide (kv.1=k)).map (·.2)
def putK (kvs:List (κ×V)) (k:κ) (v:V):List (κ×V) :=
 if (kvs.any fun kv=>decide (kv.1=k))=true then kvs.map (fun kv=>if kv.1=k then (kv.1,v) else kv) else kvs ++ [(k,v)]
theorem z16 {p:κ×V} {r:List (κ×V)} {k:κ} (e:p.1=k):valV (p :: r) k=some p.2:=by simp [valV,Qm,e]
theorem z17 {p:κ×V} {r:List (κ×V)} {k:κ} (e:¬ p.1=k):valV (p :: r) k=valV r k:=by simp [valV,Qm,e]
theorem z3s (k:κ):∀ kvs:List (κ×V),(kvs.any fun kv=>decide (kv.1=k))=(valV kvs k).isSome
 | []=>rfl
 | p :: r=>by
  rw [Jk]
  by_cases e:p.1=k
  ·simp only [z16 e,decide_eq_true e,Bool.true_or,Option.isSome_some]
  ·rw [z17 e,decide_eq_false e,Bool.false_or]; exact z3s k r
theorem z5V (k j:κ) (y:V):∀ kvs:List (κ×V),valV (kvs.map fun kv=>if kv.1=k then (kv.1,y) else kv) j=(valV kvs j).map fun x=>if j=k then y else x
 | []=>rfl
 | p :: r=>by
  have ih:=z5V k j y r
  rw [Wr]
  by_cases h:p.1=k
  ·rw [if_pos h]
   by_cases e:p.1=j
   ·rw [z16 (p:=(p.1,y)) e,z16 e,WA,if_pos (e.symm.trans h)]
   ·rw [z17 (p:=(p.1,y)) e,z17 e,ih]
  ·rw [if_neg h]
   by_cases e:p.1=j
   ·rw [z16 (p:=p) e,z16 e,WA,if_neg (fun z=>h (e.trans z))]
   ·rw [z17 (p:=p) e,z17 e,ih]
theorem z4R (k j:κ) (y:V):∀ kvs:List (κ×V),valV kvs k=none→valV (kvs ++ [(k,y)]) j=if j=k then some y else valV kvs j
 | [],_=>by
  by_cases e:k=j
  ·rw [if_pos e.symm]; exact z16 (p:=(k,y)) e
  ·rw [if_neg (fun z=>e z.symm)]; exact z17 (p:=(k,y)) e
 | p :: r,hn=>by
  rw [Jn]
  have hk:¬ p.1=k:=fun z=>by rw [z16 z] at hn; cases hn
  rw [z17 hk] at hn
  have ih:=z4R k j y r hn
  by_cases e:p.1=j
  ·rw [z16 e,z16 e,if_neg (fun z=>hk (e.trans z))]
  ·rw [z17 e,z17 e,ih]
theorem z8v (kvs:List (κ×V)) (k j:κ) (y:V):valV (putK kvs k y) j=if j=k then some y else valV kvs j:=by
 unfold putK
 by_cases a:(kvs.any fun kv=>decide (kv.1=k))=true
 ·rw [if_pos a,z5V]
  rw [z3s] at a
  by_cases e:j=k
  ·obtain ⟨x,hx⟩:=Option.isSome_iff_exists.mp a
   rw [if_pos e,e,hx,WA,if_pos rfl]
  ·rw [if_neg e]
   cases valV kvs j with
   | none=>rfl
   | some x=>rw [WA,if_neg e]
 ·rw [if_neg a]
  refine z4R k j y kvs ?_
  rw [z3s] at a
  cases q:valV kvs k with
  | none=>rfl
  | some x=>rw [q] at a; exact (a rfl).elim
theorem z3O (kvs:List (κ×V)) (k:κ) (v:V):(putK kvs k v).length≤kvs.length + 1:=by
 unfold putK
 split
 ·rw [WM]; omega
 ·rw [Q8,WN,List.length_nil]; omega
theorem RelO.isSome_eq (r:RelO o u):o.isSome=u.isSome:=by
 cases o with
 | none=>cases u with
  | none=>rfl
  | some _=>exact (show False from r).elim
 | some _=>cases u with
  | none=>exact (show False from r).elim
  | some _=>rfl
theorem KV.val {kvs:List (κ×V)} {vs:List (κ×Value)} (r:KV kvs vs) (k:κ):RelO (valV kvs k) (valueAt vs k):=by
 unfold KV at r
 induction r with
 | nil=>exact True.intro
 | @cons p q ps qs h t ih =>
  obtain ⟨h1,h2⟩:=h
  by_cases e:p.1=k
  ·have e':q.1=k:=h1.symm.trans e
   have b:valueAt (q :: qs) k=some q.2:=by simp [valueAt,Qm,e']
   rw [z16 e,b]; exact h2
  ·have e':¬ q.1=k:=fun z=>e (h1.trans z)
   have b:valueAt (q :: qs) k=valueAt qs k:=by simp [valueAt,Qm,e']
   rw [z17 e,b]; exact ih
theorem KV.any (r:KV kvs vs) (k:κ):(kvs.any fun kv=>decide (kv.1=k))=vs.any fun kv=>decide (kv.1=k):=by
 unfold KV at r
 induction r with
 | nil=>rfl
 | cons h t ih=>rw [Jk,Jk,ih,h.1]
theorem KV.repl (r:KV kvs vs) (k:κ) (ry:RelV y u) :
  KV (kvs.map fun kv=>if kv.1=k then (kv.1,y) else kv) (vs.map fun kv=>if kv.1=k then (kv.1,u) else kv):=by
 unfold KV at r ⊢
 induction r with
 | nil=>exact .nil
 | @cons p q ps qs h t ih =>
  rw [Wr,Wr]
  refine .cons ?_ ih
  obtain ⟨h1,h2⟩:=h
  by_cases e:p.1=k
  ·rw [if_pos e,if_pos (h1.symm.trans e)]; exact ⟨h1,ry⟩
  ·rw [if_neg e,if_neg (fun z=>e (h1.trans z))]; exact ⟨h1,h2⟩
theorem KV.put (r:KV kvs vs) (k:κ) (ry:RelV y u):KV (putK kvs k y) (stored vs k u):=by
 unfold putK stored
 rw [r.any k]
 by_cases e:(vs.any fun kv=>decide (kv.1=k))=true
 ·rw [if_pos e,if_pos e]; exact r.repl k ry
 ·rw [if_neg e,if_neg e]; exact Paired.snoc r ⟨rfl,ry⟩
theorem KV.length (r:KV kvs vs):kvs.length=vs.length:=Paired.length r
end
theorem zaA (r:RelV (kV k) u):(z1k P w).is k u=true:=by
 cases k with
 | inl i=>obtain ⟨t,e⟩:=(show ∃ t,u=Value.int i t from r); subst e; exact z5O P w i t
 | inr x=>obtain ⟨t,e⟩:=(show ∃ t,u=Value.str x t from r); subst e; exact z5N P w x t
theorem z5b:∀ {ks:List Key} {us:List Value},Vals (ks.map kV) us→ItemsAre (z1k P w) ks us
 | [],_,r=>by rw [Jr] at r; cases r; exact .nil
 | k :: ks,_,r=>by
  rw [Wr] at r
  cases r with
  | cons h t=>exact .cons (zaA h) (z5b t)
abbrev KT (H:Hp):List (List Key×V)→List (List Key×Addr×Value)→Prop:=Paired fun p q=>p.1=q.1∧H q.2.1=some (.tup (p.1.map kV))∧RelV p.2 q.2.2
theorem KT.val {H:Hp} {kvs:List (List Key×V)} {xs:List (List Key×Addr×Value)} (r:KT H kvs xs) (k:List Key):RelO (valV kvs k) ((atKey xs k).map (·.2)):=by
 induction r with
 | nil=>exact True.intro
 | @cons p q ps qs h t ih =>
  obtain ⟨h1,_,h2⟩:=h
  by_cases e:p.1=k
  ·have e':q.1=k:=h1.symm.trans e
   have b:atKey (q :: qs) k=some q.2:=by simp [atKey,Qm,e']
   rw [z16 e,b]; exact h2
  ·have e':¬ q.1=k:=fun z=>e (h1.trans z)
   have b:atKey (q :: qs) k=atKey qs k:=by simp [atKey,Qm,e']
   rw [z17 e,b]; exact ih
theorem KT.repl (r:KT H kvs xs) (k:List Key) (ry:RelV y u) :
  KT H (kvs.map fun kv=>if kv.1=k then (kv.1,y) else kv) (xs.map (putAt k u)):=by
 induction r with
 | nil=>exact .nil
 | @cons p q ps qs h t ih =>
  rw [Wr,Wr]
  refine .cons ?_ ih
  obtain ⟨h1,h2,h3⟩:=h
  unfold putAt
  by_cases e:p.1=k
  ·rw [if_pos e,if_pos (h1.symm.trans e)]; exact ⟨h1,h2,ry⟩
  ·rw [if_neg e,if_neg (fun z=>e (h1.trans z))]; exact ⟨h1,h2,h3⟩
theorem KT.put (r:KT H kvs xs) (k:List Key) (hb:H b=some (.tup (k.map kV))) (ry:RelV y u) :
  KT H (putK kvs k y) (storedH xs k b u):=by
 have e:(kvs.any fun kv=>decide (kv.1=k))=(atKey xs k).isSome:=by
  rw [z3s,(r.val k).isSome_eq,Option.isSome_map]
 unfold putK storedH
 rw [e]
 by_cases q:(atKey xs k).isSome=true
 ·rw [if_pos q,if_pos q]; exact r.repl k ry
 ·rw [if_neg q,if_neg q]; exact Paired.snoc r ⟨rfl,hb,ry⟩
theorem KT.keeps (r:KT H kvs xs) (ht:∀ b ys,H b=some (.tup ys)→H' b=some (.tup ys)):KT H' kvs xs :=
 Paired.mapP r fun _ _ z=>⟨z.1,ht _ _ z.2.1,z.2.2⟩
section
variable {P:Wh} {w:Wo} {H:Hp} {h:Heap} {a:Addr}
theorem zbe (ok:HOk P w H h) (e:Rd H a u):ObjOk P w H h a u:=e.ok ok
theorem zaH (ok:HOk P w H h) (e:Rd H a (.dK kvs)):kvs.length≤W9∧(a == QJ)=false∧∃ vs,KV kvs vs∧h.DictOf (z1k P w) a vs :=
 show ObjOk P w H h a (.dK kvs) from zbe ok e
theorem zcg (ok:HOk P w H h) (e:H a=some (.dK kvs)):kvs.length≤W9∧(a == QJ)=false∧∃ vs,KV kvs vs∧h.DictOf (z1k P w) a vs:=zaH ok (.inl e)
theorem z7O (ok:HOk P w H h) (e:H a=some (.tup (ks.map kV))):(tupleKind (z1k P w)).is h ks a:=by
 obtain ⟨_,its,r,p⟩:=(show ObjOk P w H h a (.tup (ks.map kV)) from ok a _ e)
 obtain ⟨o,h1,h2,n,h3⟩:=p.tup
 exact ⟨o,its.toArray,n,h1,h2,h3,by simpa using z5b r⟩
theorem zcf (ok:HOk P w H h) (e:Rd H a (.dT kvs)):kvs.length≤W9∧(a == QJ)=false ∧
  ∃ xs,KT H kvs xs∧h.DictOfH (tupleKind (z1k P w)) a xs:=by
 obtain ⟨z,y,xs,r,o,es,ep,h1,h2,h3,h4,h5⟩:=(show ObjOk P w H h a (.dT kvs) from zbe ok e)
 refine ⟨z,y,xs,r,o,es,ep,h1,h2,h3,h4,fun x hx=>?_,h5⟩
 have all:∀ {l:List (List Key×V)} {m:List (List Key×Addr×Value)},KT H l m→∀ x ∈ m,(tupleKind (z1k P w)).is h x.1 x.2.1:=by
  intro l m q
  induction q with
  | nil=>intro x hx; exact nomatch hx
  | @cons p q ps qs hq t ih =>
   intro x hx
   rcases Wj.mp hx with e | hx
   ·subst e
    exact z7O ok (by rw [← hq.1]; exact hq.2.1)
   ·exact ih x hx
 exact all r x hx
theorem dt_of (ok:HOk P w H h) (e:H a=some (.dT kvs)):kvs.length≤W9∧(a == QJ)=false ∧
  ∃ xs,KT H kvs xs∧h.DictOfH (tupleKind (z1k P w)) a xs:=zcf ok (.inl e)
end
def DGet (H:Hp) (a:Addr) (y:V) (r:Option V):Prop :=
 (∃ kvs k,Rd H a (.dK kvs)∧y=kV k∧r=valV kvs k)∨∃ kvs k b,Rd H a (.dT kvs)∧y = .ref b∧H b=some (.tup (k.map kV))∧r=valV kvs k
def DPut (H:Hp) (a:Addr) (y v:V) (H':Hp):Prop :=
 (∃ kvs k,H a=some (.dK kvs)∧y=kV k∧kvs.length < W9∧H'=upd H a (.dK (putK kvs k v))) ∨
 ∃ kvs k b,H a=some (.dT kvs)∧y = .ref b∧H b=some (.tup (k.map kV))∧kvs.length < W9∧H'=upd H a (.dT (putK kvs k v))
theorem DGet.k {H:Hp} {a:Addr} {kvs:List (Key×V)} {k:Key} (e:H a=some (.dK kvs)):DGet H a (kV k) (valV kvs k):=.inl ⟨kvs,k,.inl e,rfl,rfl⟩
theorem DPut.k {H:Hp} {a:Addr} {kvs:List (Key×V)} {k:Key} {v:V} (e:H a=some (.dK kvs)) (hl:kvs.length < W9):DPut H a (kV k) v (upd H a (.dK (putK kvs k v))):=.inl ⟨kvs,k,e,rfl,hl,rfl⟩
section
variable {X:Cx} {pins:List (Addr×Obj)} {σ:St} {H:Hp} {s:W2} {a:Addr} {y v:V} {u r:Value} {o:Option V} {A:Wp} {E:Value→W2→Prop}
theorem Inv.big (I:Inv X pins σ H s):QJ < s.heap.objs.size:=by
 have h:Ww < s.heap.objs.size:=(I.mod.glob.keeps I.bk).lt
 exact Nat.lt_trans (by decide) h
theorem z86 (hu:A.units + 1 < QO) (I:Inv X pins σ H s) (g:DGet H a y (some v)) (ry:RelV y u) (h:∀ w' s',Inv X pins σ H s'→RelV v w'→Q w' s') :
  Wa (model X.prog X.w) A (getItem (.ref a) u) Q E s:=by
 rcases g with ⟨kvs,k,e,ey,l⟩ | ⟨kvs,k,b,e,ey,eb,l⟩
 ·subst ey
  obtain ⟨z,hd,vs,rel,dd⟩:=zaH I.hok e
  obtain ⟨w',hw,rw'⟩:=RelO.some_of (v:=v) (o:=valueAt vs k) (by rw [l]; exact rel.val k)
  exact wpAny_getItem_of (zaA ry) dd.mapOf hw (h w' _ (I.tok _) rw')
 ·subst ey
  cases (show u=Value.ref b from ry)
  obtain ⟨z,hd,xs,rel,dd⟩:=zcf I.hok e
  obtain ⟨w',hw,rw'⟩:=RelO.some_of (v:=v) (o:=(atKey xs k).map (·.2)) (by rw [l]; exact rel.val k)
  obtain ⟨p,hp,hp2⟩:=Option.map_eq_some_iff.mp hw
  refine wpAny_getItem_heap (tupleKind_room_in1 hu) (z7O I.hok eb) dd hp ?_
  rw [hp2]
  exact h w' _ (I.tok _) rw'
theorem z84 (I:Inv X pins σ H s) (mu:Mut (H a)) (hs:Jb a s.heap h') (he:∃ q,h'.get? a=some q) (new:ObjOk X.prog X.w (upd H a ob) h' a ob) :
  Inv X pins σ (upd H a ob) { s with heap:=h',toks:=t' } :=
 I.write (x:=a) (e:=a) mu (.inl rfl) (fun b q hb z=>(hs.2 b hb).trans z) he new
theorem zch (z:kvs.length≤W9) (hd:(a == QJ)=false) (rel:KV kvs vs) (dd:h'.DictOf (z1k P w) a vs) :
  ObjOk P w H' h' a (.dK kvs):=⟨z,hd,vs,rel,dd⟩
theorem z85 (hu:A.units + 1 < QO) (I:Inv X pins σ H s) (g:DPut H a y v H') (ry:RelV y u) (rv:RelV v r) (h:∀ s',Inv X pins σ H' s'→Q () s') :
  Wa (model X.prog X.w) A (setItem (.ref a) u r) Q E s:=by
 rcases g with ⟨kvs,k,e,ey,l,eH⟩ | ⟨kvs,k,b,e,ey,eb,l,eH⟩
 ·subst ey eH
  obtain ⟨z,hd,vs,rel,dd⟩:=zcg I.hok e
  have hz:vs.length≤W9:=by rw [← rel.length]; exact z
  have hl:(putK kvs k v).length≤W9:=by have:=z3O kvs k v; omega
  refine wpAny_setItem_pairs (hsz:=hz) (zaA ry) dd fun h' dd' hs=>h _ ?_
  have he:∃ q,h'.get? a=some q:=let ⟨q,_,_,hq,_⟩:=dd'; ⟨q,hq⟩
  exact z84 I (by rw [e]; exact True.intro) hs he (zch hl hd (rel.put k rv) dd')
 ·subst ey eH
  cases (show u=Value.ref b from ry)
  obtain ⟨z,hd,xs,rel,dd⟩:=dt_of I.hok e
  have hz:xs.length≤W9:=by rw [← Paired.length rel]; exact z
  have hl:(putK kvs k v).length≤W9:=by have:=z3O kvs k v; omega
  refine wpAny_setItem_heap (hsz:=hz) (tupleKind_room_in1 hu) (z7O I.hok eb) dd fun h' dd' hs=>h _ ?_
  obtain ⟨q,es,ep,hq,h2,h3,h4,_,h5⟩:=dd'
  refine z84 I (by rw [e]; exact True.intro) hs ⟨q,hq⟩ ⟨hl,hd,_,(rel.put k eb rv).keeps fun c ys ec=>?_,q,es,ep,hq,h2,h3,h4,h5⟩
  rw [z09 (ne_of ec e (fun z=>nomatch z))]
  exact ec
end
section
variable {X:Cx} {pins:List (Addr×Obj)} {σ:St} {H:Hp} {s:W2} {a:Addr} {kvs:List (Key×V)} {k:Key} {u:Value} {A:Wp} {E:Value→W2→Prop}
theorem d_len (I:Inv X pins σ H s) (e:Rd H a (.dK kvs)) (h:∀ t s',Inv X pins σ H s'→Q (.int kvs.length t) s'):Wa (model X.prog X.w) A (call (.builtin "len") [.ref a]) Q E s:=by
 obtain ⟨z,hd,vs,rel,dd⟩:=zaH I.hok e
 refine call_len_dict hd dd (by rw [← rel.length]; rw [QZ] at z; omega) ?_
 rw [← rel.length]
 exact h _ _ (I.tok _)
end
def sDPut (td ty tv:TE):TS:=fun D σ H=>tv σ H fun v H1=>td σ H1 fun x H2=>ty σ H2 fun y H3=>∃ a H4,x = .ref a∧DPut H3 a y v H4∧D.nx σ H4
section
variable {X:Cx} {o i e value:Expr} {pos pos' tpos:Pos} {td ty tv:TE}
theorem zai (hu:X.A.units + 1 < QO) (ho:PE X o td) (hi:PE X i ty) (hv:PE X value tv) (hs:Jc value (some (.Subscript o i pos')) pos.line X.env=pure false) :
  PS X (.Assign [.Subscript o i pos'] value pos) (sDPut td ty tv):=by
 intro pins s σ H D I h
 refine wpAny_Assign_Subscript (thn (hv pins s σ H _ I h) fun r s1 ⟨v,H1,I1,rv,q1⟩=>thn (ho pins s1 σ H1 _ I1 q1) fun u s2 ⟨x,H2,I2,rx,q2⟩=>thn (hi pins s2 σ H2 _ I2 q2) fun iv s3 ⟨y,H3,I3,ry,a,H4,ex,g,q3⟩=>?_) hs
 subst ex
 obtain rfl:u=Value.ref a:=rx
 exact z85 hu I3 g ry rv fun s4 I4=>⟨σ,H4,I4,q3⟩
end
theorem z9c (h:Heap) (hb:QJ < h.objs.size):ObjOk P w H (h.push { cls:=.type "dict",data:=.dict #[] }) h.objs.size (.dK []) :=
 ⟨QB _,beq_eq_false_iff_ne.mpr (Ne.symm (Wl hb)),[],.nil,Heap.DictOf.new h⟩
def zaY:TE:=fun _ H Q=>∀ p,H p=none→Q (.ref p) (upd H p (.dK []))
section
variable {X:Cx} {pos:Pos}
theorem z8R:PE X (.Dict [] [] pos) zaY:=fun pins s σ H Q I h =>
 wpAny_Dict_empty ⟨.ref s.heap.objs.size,_,I.laid (a:=s.heap.objs.size) (o:=.dK []) (t':=s.toks) (fun _ _ q=>Wd _ q) (Wf _) (z9c s.heap I.big),rfl,h _ (I.hok.fresh (Wf _))⟩
end
abbrev VV:List (V×V)→List (Value×Value)→Prop:=Paired fun p q=>RelV p.1 q.1∧RelV p.2 q.2
structure M1 (X:Cx) (o:Expr) (m:Str) (apos:Pos) (e:Expr) (cpos:Pos):Prop where
 base:QI o m X.env (eval o X.env)=eval o X.env
 few:((WW cpos (W6 [e] X.env)).all (fun x=>!x.1) && (backToKw cpos (J1 [] X.env)).all (fun x=>x.1.isSome)
  && decide (([e]:List Expr).length + ([]:List Keyword).length + (if ([]:List Keyword).isEmpty then 0 else 1) < 30))=true
 line:(apos.endLine == cpos.line)=true
 trees:WW cpos (W6 [e] X.env)=[(false,eval e X.env)]
structure M2 (X:Cx) (o:Expr) (m:Str) (apos:Pos) (e f:Expr) (cpos:Pos):Prop where
 base:QI o m X.env (eval o X.env)=eval o X.env
 few:((WW cpos (W6 [e,f] X.env)).all (fun x=>!x.1) && (backToKw cpos (J1 [] X.env)).all (fun x=>x.1.isSome)
  && decide (([e,f]:List Expr).length + ([]:List Keyword).length + (if ([]:List Keyword).isEmpty then 0 else 1) < 30))=true
 line:(apos.endLine == cpos.line)=true
 trees:WW cpos (W6 [e,f] X.env)=[(false,eval e X.env),(false,eval f X.env)]
section
variable {X:Cx} {pins:List (Addr×Obj)} {σ:St} {H:Hp} {s:W2} {a:Addr} {y d:V} {u r:Value} {o:Option V} {A:Wp} {E:Value→W2→Prop}
end
section
variable {X:Cx} {o e f:Expr} {apos cpos:Pos} {td ty tx:TE}
end
section
variable {X:Cx} {pins:List (Addr×Obj)} {σ:St} {H:Hp} {s:W2} {a:Addr} {kvs:List (Key×V)} {A:Wp} {E:Value→W2→Prop}
end
section
variable {X:Cx} {pins:List (Addr×Obj)} {σ:St} {H:Hp} {s:W2} {a:Addr} {y:V} {u:Value} {A:Wp} {E:Value→W2→Prop}
end
end L2
namespace Att
open PySem PySem.W PySem.Calls PyProof.Rows
theorem z3R:∀ (ns:List Int) (vs:List Value),WellAll P h vs (ns.map WData.int)→IntsAre vs ns:=by
 intro ns
 induction ns with
 | nil =>
  intro vs w
  rw [Jr] at w
  cases w
  exact .nil
 | cons n ns ih =>
  intro vs w
  rw [Wr] at w
  cases w with
  | cons a b =>
   cases a
   exact .cons _ _ (ih _ b)
theorem z7f {l:OpenLaw} {n:Nat} (hn:l.most=some n) {P:Params} {h:Heap} {args:List WData} {vals:List Value}
  (hpre:l.row.toRowW.claim.pre args=true) (hwl:WellAll P h vals args) :
  ∃ a vs ns,vals=[Value.ref a]∧args=[WData.list (ns.map WData.int)]∧h.get? a=some { cls:=.type "list",data:=.seq vs.toArray }∧IntsAre vs ns∧ns.length≤n:=by
 have hsh:WShape.hasAll [] args [.list .int]=true:=(pre_splitW hpre).1
 have hc:l.pre.holds [] { args:=args } = true:=(pre_splitW hpre).2
 obtain ⟨d,r,rfl,h1,h2⟩:=hasAllW_cons hsh
 obtain rfl:=hasAllW_nil h2
 obtain ⟨xs,rfl,h3⟩:=hasW_list h1
 obtain ⟨ns,rfl⟩:=items_int h3
 have hlen:ns.length≤n:=by
  unfold OpenLaw.pre at hc
  have h4:(WTm.not (.lt (.lit (.int (n:Int))) (.len (.arg 0)))).holds [] { args:=[.list (ns.map .int)] } = true:=by
   have h4:=(holds_andW hc).1
   rw [hn] at h4
   exact h4
  have h5:=condW_of h4 (w_not (w_lt w_lit (w_len_list (w_arg rfl))))
  rw [WM] at h5
  refine Nat.le_of_not_lt fun q=>?_
  have q':(n:Int) < ((ns.length:Nat):Int):=by omega
  first
   | (rw [decide_eq_true q'] at h5; exact absurd h5 (by decide))
   | (simp at h5; omega)
 cases hwl with
 | cons w1 w2 =>
  cases w2
  cases w1 with
  | list ho hall=>exact ⟨_,_,ns,rfl,rfl,ho,z3R ns _ hall,hlen⟩
theorem z7r (l:OpenLaw) (args:List WData):l.row.toRowW.claim.post args (.bool true) args=true :=
 postW_of (r:=l.row.toRowW) (X:=(true == true))
  (show WShape.has [] (.bool true) .bool=true by first | rfl | decide | simp [WShape.has,WShape.arms,WShape.armsAll])
  (show (WTm.eq .res (.lit (.bool true))).value [] { args:=args,res:=some (.bool true),after:=args } = some (.bool (true == true)) from w_eq_bool (w_res rfl) w_lit) rfl
theorem attach_call {l:OpenLaw} {n:Nat} {q:Wh} {loose:List Str} {XP:(Str→Option Value)→Heap→Prop} {YP:Wo→Heap→Prop} {d:DefRec}
  (hn:l.most=some n) (hdf:d.params.defaults=[])
  (call:∀ (w:Wo) (s₀ s₁:W2) (mg mb:Str→Option Value) (fa:Addr) (o:Obj) (pm cd doc:Value) (a:Addr) (vs:List Value) (ns:List Int),
   Ground q loose [] XP w s₀ mg mb s₁.heap→YP w s₁.heap →
   s₁.heap.get? fa=some o→o.data = .func (docDef d.name d.params d.body d.scope pm cd doc)→s₁.heap.CodeRec cd d.name→mg d.name=some (.ref fa) →
   s₁.heap.get? a=some { cls:=.type "list",data:=.seq vs.toArray }→IntsAre vs ns→ns.length≤n→s₁.gens = #[] →
   QH (model l.prog w) callerA (.call (.ref fa) ⟨[.ref a],[]⟩) (fun r s'=>r = .ok (.ret (.bool true))∧OldK s₁.heap s'.heap∧s'.os=s₁.os∧AllBare s'.gens) s₁) :
  WalkO q loose XP YP l.row.toRowW d [] (fun f vs=>PySem.call f vs):=by
 intro w s₀ s₁ mg mb G Y fa o pm cd doc dV kV ho hd hcd hD hmg hg args vals as hpre hlay hrd hwl hlo
 obtain rfl:dV = .none:=Dflts.none hD hdf
 obtain rfl:kV = .none:=Dflts.noKw hD
 obtain ⟨a,vs,ns,rfl,rfl,hobj,hints,hlen⟩:=z7f hn hpre hwl
 refine enter_call (codeAny_mono (call w s₀ s₁ mg mb fa o pm cd doc a vs ns G Y ho (fd_plain hd) hcd hmg hobj hints hlen hg) fun r s' hq=>?_)
 obtain ⟨rfl,h2,h3,h4⟩:=hq
 exact ⟨.inl ⟨.bool true,.bool true,[],rfl,fun _=>rfl,.bool true,z7r l _,fun _=>⟨List.Pairwise.nil,fun _ hm=>(nomatch hm)⟩⟩,h2,h3,h4⟩
section
variable {prog:Wh} {w:Wo} {A:Wp} {E:Value→W2→Prop} {s:W2} {K:Frag}
end
end Att
namespace L2
open PySem PySem.Spec PyProof.Rows
theorem vals_ints:∀ {vs:List Value} {ns:List Int},IntsAre vs ns→Vals (ns.map V.int) vs
 | _,_,.nil=>.nil
 | _,_,.cons n t h=>.cons ⟨t,rfl⟩ (vals_ints h)
def Only (H:Hp):Prop:=∀ b,H b=none∨∃ o xs,H b=some (.frz o (.lst xs))
theorem z92 {P:Wh} {w:Wo} {K:W1} {mg mb:Str→Option Value} {CX:CXT} {k:Nat} {fa a:Addr} {fd:WR} {x:Str} {sp:Sp} {s₁:W2} {vs:List Value} {ns:List Int}
  (KX:K.In s₁.heap) (hns:s₁.heap.Ns Ww mg) (hb:s₁.heap.Ns builtinsNs mb) (hbb:∀ x:Str,x≠"__name__"→mb x=Qj x) (hlim:s₁.heap.NoLimit) (hg:s₁.gens = #[])
  (ha:s₁.heap.get? a=some { cls:=.type "list",data:=.seq vs.toArray }) (hi:IntsAre vs ns) (hl:ns.length≤W9) (hr:Room k callerA)
  (F:∀ base:Heap,K.In base→base.Ns Ww mg→FnOk P w K mg base CX k fa fd [x] sp) (hbind:∀ (s:W2) (u:Value),BindsTo s fd ⟨[u],[]⟩ [(x,u)])
  (hsp:∀ H:Hp,Only H→SqL K H a (ns.map V.int)→sp [.ref a] H (fun v _=>v = .bl true) fun _ _ _=>False)
  (hCX:∀ H e s',CX [] H s₁ (fun _ _ _=>False) e s'→False) :
  QH (model P w) callerA (.call (.ref fa) ⟨[.ref a],[]⟩) (fun r s'=>r = .ok (.ret (.bool true))∧OldK s₁.heap s'.heap∧s'.os=s₁.os∧AllBare s'.gens) s₁:=by
 have rv:=vals_ints hi
 have lenV:=hi.length
 -- from an abstract heap in which nothing but the script may be tracked
 have core:∀ H:Hp,Only H→SqL K H a (ns.map V.int)→HOk P w H s₁.heap→(∀ b,H b≠none→b=a)→(H a≠none→K.lookup a=none) →
   QH (model P w) callerA (.call (.ref fa) ⟨[.ref a],[]⟩) (fun r s'=>r = .ok (.ret (.bool true))∧OldK s₁.heap s'.heap∧s'.os=s₁.os∧AllBare s'.gens) s₁:=by
  intro H hO hS hok hA hK
  have base_of:∀ {b:Addr} {o:Obj},s₁.heap.get? b=some o→H b=none→(hidT s₁.heap H).get? b=some o:=fun e n=>z96 e n
  have noA:∀ {b:Addr} {o:Obj} {es:Array DictEntry} {ep:Nat},s₁.heap.get? b=some o→o.data = .dict es ep→H b=none:=fun {b o es ep} e d=>by
   cases q:H b with
   | none=>rfl
   | some u =>
    have e':b=a:=hA b (by rw [q]; simp)
    subst e'
    rw [ha] at e; cases e
    have d':Data.seq vs.toArray _=Data.dict es ep:=d
    cases d'
  have nsK:∀ {b:Addr} {m:Str→Option Value},s₁.heap.Ns b m→(hidT s₁.heap H).Ns b m:=fun {b m} ⟨o,es,ep,e,d,r⟩=>⟨o,es,ep,base_of e (noA e d),d,r⟩
  have hKb:K.In (hidT s₁.heap H):=fun b o e=>base_of (KX b o e) (by
   cases q:H b with
   | none=>rfl
   | some u =>
    have e':b=a:=hA b (by rw [q]; simp)
    subst e'
    rw [hK (by rw [q]; simp)] at e; cases e)
  have hM:Mod K mg (hidT s₁.heap H):=⟨hKb,nsK hns,⟨mb,nsK hb,hbb⟩,let ⟨mc,h1,h2⟩:=hlim; ⟨mc,nsK h1,h2⟩⟩
  have e0:Env0 P w K mg (hidT s₁.heap H) callerA [] s₁ H:=⟨rfl,hM,fun b o e=>zat e,Nat.le_of_eq (z7Z _ _),trivial,fun b hb=>absurd (show b ∈ ([]:List Addr) from hb) (by simp),hok,.of_eq hg⟩
  refine codeAny_mono ((F _ hKb (nsK hns)).run callerA [] s₁ H ⟨[.ref a],[]⟩ [.ref a] [.ref a] _ _ hr e0 (hbind s₁ (.ref a)) (.cons rfl .nil) (hsp H hO hS)) fun r s' h=>?_
  cases r with
  | error e=>exact (hCX H e s' h).elim
  | ok fl =>
   cases fl with
   | next=>exact False.elim h
   | brk=>exact False.elim h
   | cont=>exact False.elim h
   | ret u =>
    obtain ⟨v,H',os,bare,un,hok',r',q⟩:=h
    have q':v = .bl true:=q
    subst q'
    obtain rfl:u=Value.bool true:=r'
    refine ⟨rfl,OldK.of_keep fun b o e=>?_,os,bare⟩
    cases q:H b with
    | none=>exact un.keep b o e q (by intro z; exact absurd (show b ∈ ([]:List Addr) from z) (by simp)) (by simp)
    | some u =>
     rcases hO b with z | ⟨ob,xs,z⟩
     ·rw [q] at z; cases z
     ·have z2:=un.frzs b ob _ z
      obtain ⟨e1,_⟩:=hok b _ z
      obtain ⟨e2,_⟩:=hok' b _ z2
      rw [e] at e1; cases e1
      exact e2
 cases hk:K.lookup a with
 | some o =>
  -- the script is one of the module's own objects
  have e:=KX a o hk
  rw [ha] at e
  cases e
  refine core (fun _=>none) (fun _=>.inl rfl) (.inr ⟨_,vs.toArray,_,hk,rfl,rfl,rfl,by rw [Wi,lenV]; exact hl,by simpa using rv⟩) (fun b u z=>by have z':(none:Option HO)=some u:=z; cases z') (fun b z=>absurd rfl z) fun z=>absurd rfl z
 | none =>
  refine core (fun b=>if b=a then some (.frz { cls:=.type "list",data:=.seq vs.toArray } (.lst (ns.map V.int))) else none) (fun b=>?_) (.inl (.inr ⟨{ cls:=.type "list",data:=.seq vs.toArray },if_pos rfl⟩)) (fun b u z=>?_) (fun b z=>?_) fun _=>hk
  ·by_cases hb:b=a
   ·exact .inr ⟨_,_,if_pos hb⟩
   ·exact .inl (if_neg hb)
  ·by_cases hb:b=a
   ·have z':=(if_pos hb).symm.trans z
    cases z'
    subst hb
    exact ⟨ha,by rw [WM]; exact hl,vs,_,rv,ha⟩
   ·have z':=(if_neg hb).symm.trans z
    cases z'
  ·by_cases hb:b=a
   ·exact hb
   ·exact absurd (if_neg hb) z
abbrev KOf {K:W1} {h:Heap} (_:K.In h):W1:=K
theorem walk_of {l:PySem.W.OpenLaw} {n k:Nat} {q:Wh} {loose:List Str} {XP:(Str→Option Value)→Heap→Prop} {YP:Wo→Heap→Prop} {d:DefRec} {K:Params→W1} {CX:Wo→CXT} {sp:Wo→Sp} {x:Str}
  (hn:l.most=some n) (hn2:n≤W9) (hdf:d.params.defaults=[]) (hr:Room k callerA)
  (hY:∀ (w:Wo) (h:Heap),YP w h→(K w.params).In h)
  (F:∀ (w:Wo) (mg:Str→Option Value) (fa:Addr) (h:Heap),(K w.params).In h→h.Ns Ww mg→mg d.name=some (.ref fa) →
   ∃ fd:WR,(∀ (s:W2) (u:Value),BindsTo s fd ⟨[u],[]⟩ [(x,u)]) ∧
    ∀ base:Heap,(K w.params).In base→base.Ns Ww mg→FnOk l.prog w (K w.params) mg base (CX w) k fa fd [x] (sp w))
  (hsp:∀ (w:Wo) (H:Hp) (a:Addr) (ns:List Int),ns.length≤n→Only H→SqL (K w.params) H a (ns.map V.int)→sp w [.ref a] H (fun v _=>v = .bl true) fun _ _ _=>False)
  (hCX:∀ (w:Wo) (H:Hp) (s:W2) (e:Value) (s':W2),CX w [] H s (fun _ _ _=>False) e s'→False) :
  PySem.W.WalkO q loose XP YP l.row.toRowW d [] (fun f vs=>PySem.call f vs):=by
 refine Att.attach_call hn hdf fun w s₀ s₁ mg mb fa o pm cd doc a vs ns G Y ho hd hcd hmg hobj hints hlen hg=>?_
 have KX:=hY w _ Y
 obtain ⟨fd,hb,hF⟩:=F w mg fa _ KX G.T.g hmg
 exact z92 KX G.T.g G.T.b G.T.builtins G.T.nolimit hg hobj hints (WD hlen hn2) hr hF hb (fun H hO hS=>hsp w H a ns hlen hO hS) fun H e s'=>hCX w H s₁ e s'
def z2h (s:Stmt):Arguments:=match s with
 | .FunctionDef _ a _ _ _ _ _ _ _ _=>a
 | _=>{ posonlyargs:=[],args:=[],vararg:=none,kwonlyargs:=[],kw_defaults:=[],kwarg:=none,defaults:=[] }
def z1C (s:Stmt):List Stmt:=match s with
 | .FunctionDef _ _ b _ _ _ _ _ _ _=>b
 | _=>[]
def z0b (s:Stmt):Scope:=match s with
 | .FunctionDef _ _ _ _ _ _ sc _ _ _=>sc
 | _=>{ kind:=.function,names:=[],isGenerator:=false,isCoroutine:=false }
abbrev CX0:CXT:=fun _ _ _ _ _ _=>False
abbrev E0:XK:=fun _ _ _=>False
theorem pass0:z8r CX0 X E0:=fun _ _ _ _ _ _ _ h=>h.elim
structure Fun (K:W1) (x qual:Str) (st:Stmt) (f:Addr) (fd:WR):Prop where
 ex:∃ (oc:Value) (od:Option Addr) (kV doc pm:Value) (an:Option Addr) (cdv ct:Value) (osl:Array (Option Value)),
  fd=Ql x qual (z2h st) (z1C st) (z0b st) .none kV doc pm an cdv ct∧K.lookup f=some ⟨oc,od,.func fd,osl⟩∧PySem.W.codeIn K cdv qual=true
 kp:QC K (.ref f)=true
section
variable {P:Wh} {w:Wo} {K:W1} {mg:Str→Option Value} {base:Heap}
theorem Fun.ok {x qual:Str} {st:Stmt} {f:Addr} {fd:WR} {N ps:List Str} {k:Nat} {sp:Sp} (F:Fun K x qual st f fd) (S:FnScope N ps (z0b st)) (len:∀ vs H Q E,sp vs H Q E→vs.length=ps.length)
  (hbody:∀ (cdv:Value) (A:Wp) (outer:List Env) (s:W2) (H:Hp) (vs:List V) (Q:VK) (E:XK),Room k (A.deeper (envOfC qual (z0b st) s.heap.objs.size f cdv))→sp vs H Q E →
   ∃ t,PSs (cxOf CX0 P w K mg base N qual (z0b st) f cdv A outer s H E).nox (z1C st) t∧t { nx:=fun _ H'=>Q .non H',rt:=Q } (z43 N vs) H):FnOk P w K mg base CX0 (k + 1) f fd ps sp:=by
 obtain ⟨oc,od,kV,doc,pm,an,cdv,ct,osl,rfl,lk,hcd⟩:=F.ex
 refine fn_of lk hcd S len fun A outer s H vs Q E hr hsp=>?_
 obtain ⟨t,h,q⟩:=hbody cdv A outer s H vs Q E hr hsp
 exact ⟨t,h.nox,q⟩
theorem Fun.binds {x qual:Str} {st:Stmt} {f:Addr} {fd:WR} {ps:List Str} (F:Fun K x qual st f fd)
  (h:∀ (kV doc pm:Value) (an:Option Addr) (cdv ct:Value) (us:List Value),us.length=ps.length→bindArgs (Ql x qual (z2h st) (z1C st) (z0b st) .none kV doc pm an cdv ct) ⟨us,[]⟩=pure (ps.zip us)):Binds K fd ps []:=by
 obtain ⟨oc,od,kV,doc,pm,an,cdv,ct,osl,rfl,lk,hcd⟩:=F.ex
 exact .all (h kV doc pm an cdv ct)
theorem z9O {x qual:Str} {st:Stmt} {f:Addr} {oc:Value} {od an:Option Addr} {osl:Array (Option Value)} {kV doc pm cdv ct:Value} (l:K.lookup f=some ⟨oc,od,.func (Ql x qual (z2h st) (z1C st) (z0b st) .none kV doc pm an cdv ct),osl⟩)
  (c:PySem.W.codeIn K cdv qual=true) (k:QC K (.ref f)=true):Fun K x qual st f (Ql x qual (z2h st) (z1C st) (z0b st) .none kV doc pm an cdv ct):=⟨⟨oc,od,kV,doc,pm,an,cdv,ct,osl,rfl,l,c⟩,k⟩
end
theorem z73 (h:n≤1000):n < W9:=QM h (by decide)
section
variable {X:Cx}
theorem pv (i:Nat) (hN:X.N[i]? = some x:=by rfl) (hv:Vis X.env.scope x:=by first | exact Or.inl rfl | exact Or.inr (Or.inl rfl) | exact Or.inr (Or.inr rfl)) (hd:(x == ("__debug__" : Str))=false:=by decide)
  (hcd:(x == ("__classdict__" : Str))=false:=by decide):PE X (.Name x pos) (tVar i):=zbz hN hv hd hcd
theorem z8l:CallR X (.builtin "len") (fun xs H Q=>∃ a kvs,xs=[V.ref a]∧H a=some (.dK kvs)∧Q (.int kvs.length) H):=by
 intro pins s σ H xs us Q I r h
 obtain ⟨a,kvs,rfl,ha,q⟩:=h
 obtain ⟨u,rfl,ru⟩:=z41 r
 cases ru
 exact d_len I (.inl ha) fun t s' I'=>⟨.int kvs.length,H,I',⟨t,rfl⟩,q⟩
end
section
variable {κ:Type} [DecidableEq κ]
end
def z1o (cells:List (Str×Addr)):List (Str×NameKind)→List (Str×Addr)→List (Str×Addr)
 | [],acc=>acc
 | (n,k) :: r,acc=>z1o cells r (if k == .free then (match cells.lookup n with | some a=>(n,a) :: acc | none=>acc) else acc)
theorem z2D (f:Str×NameKind→List (Str×Addr)→Sem (ForInStep (List (Str×Addr))))
  (hf:∀ name kind cs,f (name,kind) cs=if kind == .free then (do let a ← cellOf env name; pure (.yield ((name,a) :: cs))) else pure (.yield cs)) :
  ∀ (names:List (Str×NameKind)) (acc:List (Str×Addr)),(∀ x ∈ names,x.2=NameKind.free→∃ c,env.cells.lookup x.1=some c)→(forIn names acc f:Sem (List (Str×Addr)))=pure (z1o env.cells names acc)
 | [],acc,_=>by rw [QS]; rfl
 | (n,k) :: r,acc,h=>by
  rw [Qw,hf]
  unfold z1o
  by_cases hk:(k == NameKind.free)=true
  ·obtain ⟨c,hc⟩:=h (n,k) Wg (by simpa using hk)
   have hc':env.cells.lookup n=some c:=hc
   have e:cellOf env n=pure c:=by unfold cellOf; rw [hc']
   rw [if_pos hk,if_pos hk,e,hc']
   exact z2D f hf r _ fun x hx=>h x (Wb _ hx)
  ·rw [if_neg hk,if_neg hk]
   exact z2D f hf r _ fun x hx=>h x (Wb _ hx)
theorem z4p (h:∀ x ∈ scope.names,x.2=NameKind.free→∃ c,env.cells.lookup x.1=some c):closureFor scope env=pure (z1o env.cells scope.names []):=by
 unfold closureFor
 dsimp only
 rw [z2D (env:=env) _ (fun name kind cs=>by cases hkc:kind == NameKind.free <;> simp [hkc]) scope.names [] h]
 rfl
theorem z4o:∀ (names:List (Str×NameKind)) (acc:List (Str×Addr)),(n,c) ∈ z1o cells names acc→(n,c) ∈ acc∨((n,NameKind.free) ∈ names∧cells.lookup n=some c)
 | [],acc,h=>.inl h
 | (y,k) :: r,acc,h=>by
  unfold z1o at h
  rcases z4o r _ h with q | ⟨q,e⟩
  ·by_cases hk:(k == NameKind.free)=true
   ·rw [if_pos hk] at q
    have hk':k=NameKind.free:=by simpa using hk
    cases e:cells.lookup y with
    | none=>rw [e] at q; exact .inl q
    | some a =>
     rw [e] at q
     rcases Wj.mp q with z | z
     ·cases z
      exact .inr ⟨by rw [hk']; exact Wg,e⟩
     ·exact .inl z
   ·rw [if_neg hk] at q; exact .inl q
  ·exact .inr ⟨Wb _ q,e⟩
theorem z3Z:∀ (names:List (Str×NameKind)) (acc:List (Str×Addr)),(acc.lookup n).isSome=true∨((n,NameKind.free) ∈ names∧(cells.lookup n).isSome=true)→((z1o cells names acc).lookup n).isSome=true
 | [],acc,h=>h.elim id fun z=>absurd z.1 (by simp)
 | (y,k) :: r,acc,h=>by
  unfold z1o
  apply z3Z r
  by_cases hk:(k == NameKind.free)=true
  ·rw [if_pos hk]
   cases e:cells.lookup y with
   | none =>
    rcases h with h | ⟨h1,h2⟩
    ·exact .inl h
    ·rcases Wj.mp h1 with z | z
     ·cases z
      rw [e] at h2; cases h2
     ·exact .inr ⟨z,h2⟩
   | some a =>
    by_cases hn:(n == y)=true
    ·refine .inl ?_
     show (List.lookup n ((y,a) :: acc)).isSome=true
     rw [Q0,hn]
     rfl
    ·rcases h with h | ⟨h1,h2⟩
     ·refine .inl ?_
      show (List.lookup n ((y,a) :: acc)).isSome=true
      have hn':(n == y)=false:=by simpa using hn
      rw [Q0,hn']
      exact h
     ·rcases Wj.mp h1 with z | z
      ·cases z
       exact absurd (by simp) hn
      ·exact .inr ⟨z,h2⟩
  ·rw [if_neg hk]
   rcases h with h | ⟨h1,h2⟩
   ·exact .inl h
   ·rcases Wj.mp h1 with z | z
    ·cases z
     exact absurd rfl hk
    ·exact .inr ⟨z,h2⟩
theorem z8f:∀ (names:List (Str×NameKind)) (h:Heap) (acc:List (Str×Addr)),(n,c) ∈ Qg h.objs.size names acc →
  (n,c) ∈ acc∨((n,NameKind.cell) ∈ names∧h.objs.size≤c∧(Jd h names).IsCell c none)
 | [],_,_,h=>.inl h
 | (y,k) :: r,h,acc,hm=>by
  unfold Qg at hm
  unfold Jd
  by_cases hk:(k == NameKind.cell)=true
  ·rw [if_pos hk] at hm
   rw [if_pos hk]
   have hk':k=NameKind.cell:=by simpa using hk
   have sz:(h.push { cls:=.type "cell",data:=.cell none }).objs.size=h.objs.size + 1:=QD ..
   rw [← sz] at hm
   rcases z8f r _ _ hm with q | ⟨q1,q2,q3⟩
   ·rcases Wj.mp q with z | z
    ·cases z
     refine .inr ⟨by rw [hk']; exact Wg,Wf _,?_⟩
     exact Heap.IsCell.keeps ⟨_,Wn _ rfl,rfl⟩ (pushCells_keeps r _)
    ·exact .inl z
   ·exact .inr ⟨Wb _ q1,by rw [sz] at q2; omega,q3⟩
  ·rw [if_neg hk] at hm
   rw [if_neg hk]
   rcases z8f r _ _ hm with q | ⟨q1,q2,q3⟩
   ·exact .inl q
   ·exact .inr ⟨Wb _ q1,q2,q3⟩
theorem z8g:∀ (names:List (Str×NameKind)) (k:Nat) (acc:List (Str×Addr)),(∀ n n' c,(n,c) ∈ acc→(n',c) ∈ acc→n=n')→(∀ n c,(n,c) ∈ acc→c < k) →
  ∀ n n' c,(n,c) ∈ Qg k names acc→(n',c) ∈ Qg k names acc→n=n'
 | [],_,_,h,_=>h
 | (y,kd) :: r,k,acc,h,hb=>by
  unfold Qg
  by_cases hk:(kd == NameKind.cell)=true
  ·rw [if_pos hk]
   refine z8g r (k + 1) _ (fun n n' c h1 h2=>?_) fun n c hm=>?_
   ·rcases Wj.mp h1 with e | h1 <;> rcases Wj.mp h2 with e' | h2
    ·cases e; cases e'; rfl
    ·cases e; exact absurd (hb _ _ h2) (Q1 _)
    ·cases e'; exact absurd (hb _ _ h1) (Q1 _)
    ·exact h n n' c h1 h2
   ·rcases Wj.mp hm with e | hm
    ·cases e; exact Nat.lt_succ_self _
    ·exact Nat.lt_succ_of_lt (hb _ _ hm)
  ·rw [if_neg hk]
   exact z8g r k acc h hb
theorem z0O {env:Env} {x:Str}:∀ {names:List (Str×NameKind)} {k:NameKind},
  (names.map fun (y:Str×NameKind)=>if (y.2 == NameKind.free && env.scope.kind == .function && env.kindOf y.1 == some .cell) then (y.1,NameKind.cell) else (y.1,y.2)).lookup x=some k →
  names.lookup x=some k∨(k=NameKind.cell∧names.lookup x=some .free)
 | [],_,h=>by simp at h
 | (n,kd) :: r,k,h=>by
  rw [Wr] at h
  have ih:=@z0O env x r k
  cases hx:x == n with
  | true =>
   by_cases hc:(kd == NameKind.free && env.scope.kind == .function && env.kindOf n == some .cell)=true
   ·rw [if_pos hc,Q0,hx] at h
    cases h
    simp only [Ws] at hc
    have:kd=NameKind.free:=by simpa using hc.1.1
    exact .inr ⟨rfl,by rw [Q0,hx,this]⟩
   ·rw [if_neg hc,Q0,hx] at h
    cases h
    exact .inl (by rw [Q0,hx])
  | false =>
   have h':(r.map fun (y:Str×NameKind)=>if (y.2 == NameKind.free && env.scope.kind == .function && env.kindOf y.1 == some .cell) then (y.1,NameKind.cell) else (y.1,y.2)).lookup x=some k:=by
    by_cases hc:(kd == NameKind.free && env.scope.kind == .function && env.kindOf n == some .cell)=true
    ·rw [if_pos hc,Q0,hx] at h; exact h
    ·rw [if_neg hc,Q0,hx] at h; exact h
   rw [Q0,hx]
   exact ih h'
def z1g (X:Cx) (scope:Scope) (s₀:W2) (H₀:Hp) (ex:List Addr):Cx :=
 { X with
  env:={ scope:=relabel scope X.env,locals:=s₀.heap.objs.size,globals:=X.env.globals,cells:=Qg (s₀.heap.objs.size + 1) scope.names (z1o X.env.cells scope.names []),qual:=X.env.qual,func:=none,code:=X.env.code,frame:=X.env.frame,builtins:=X.env.builtins }
  s₀:=s₀
  H₀:=H₀
  outer:=X.stack
  ex:=ex
  fn:=fun x=>scope.names.lookup x == some .cell
  pn:=[]
  xe:=fun _ _=>False }
structure CScope (X:Cx) (scope:Scope) (cs:List Nat):Prop where
 kind:scope.kind = .function
 names:∀ x ∈ scope.names,x.2 = .local→scope.names.lookup x.1=some .local
 free:∀ x ∈ scope.names,x.2 = .free→X.env.kindOf x.1=some .cell∨X.env.kindOf x.1=some .free
 nd:(scope.names.map (·.1)).Nodup
 own:∀ (i:Nat) x,X.N[i]? = some x→scope.names.lookup x=some .local∨scope.names.lookup x=some .cell→i ∈ cs
def clr (cs:List Nat) (σ:St):St:=cs.foldl (fun σ i=>σ.set i none) σ
theorem z4M (cs:List Nat):∀ σ:St,(clr cs σ).length=σ.length:=by
 induction cs with
 | nil=>intro σ; rfl
 | cons i r ih =>
  intro σ
  show (clr r (σ.set i none)).length=_
  rw [ih]; simp
theorem z2i:∀ (cs:List Nat) (σ:St) (i:Nat) (v:V),(clr cs σ)[i]? = some (some v)→σ[i]? = some (some v)∧i ∉ cs:=by
 intro cs
 induction cs with
 | nil=>intro σ i v h; exact ⟨h,by simp⟩
 | cons j r ih =>
  intro σ i v h
  have h':(clr r (σ.set j none))[i]? = some (some v):=h
  obtain ⟨h1,h2⟩:=ih _ i v h'
  by_cases e:j=i
  ·subst e
   rw [WP] at h1
   simp at h1
  ·rw [W8 e] at h1
   exact ⟨h1,by simp only [Wj,not_or]; exact ⟨Ne.symm e,h2⟩⟩
theorem z3N:∀ {l:List (Str×α)},(l.map (·.1)).Nodup→(x,k) ∈ l→(x,k') ∈ l→k=k'
 | (y,j) :: r,nd,h1,h2=>by
  rw [Wr,List.nodup_cons] at nd
  rcases Wj.mp h1 with e | g1 <;> rcases Wj.mp h2 with e' | g2
  ·cases e; cases e'; rfl
  ·cases e; exact absurd (J3 (f:=(·.1)) g2) nd.1
  ·cases e'; exact absurd (J3 (f:=(·.1)) g1) nd.1
  ·exact z3N nd.2 g1 g2
section
variable {X:Cx} {pins:List (Addr×Obj)} {σ:St} {H:Hp} {s:W2} {scope:Scope} {cs:List Nat} {fp:List Addr}
theorem z6N (I:Inv X pins σ H s) (S:CScope X scope cs) (hf:∀ b ∈ fp,FpOk X pins H b) (hlt:∀ b ∈ fp,b < s.heap.objs.size) :
  Inv (z1g X scope s H fp) [] (clr cs σ) H { s with heap:=Jd (s.heap.push { cls:=.type "dict",data:=.dict #[] }) scope.names }:=by
 have sz:(s.heap.push { cls:=.type "dict",data:=.dict #[] }).objs.size=s.heap.objs.size + 1:=QD ..
 have kp:∀ b o,s.heap.get? b=some o→(Jd (s.heap.push { cls:=.type "dict",data:=.dict #[] }) scope.names).get? b=some o:=fun b o e=>pushCells_keeps _ _ b o (Wd _ e)
 have clo:∀ n c,(n,c) ∈ z1o X.env.cells scope.names []→(n,NameKind.free) ∈ scope.names∧X.env.cells.lookup n=some c:=fun n c h=>(z4o _ _ h).elim (fun z=>absurd z (by simp)) id
 have cltm:∀ n c,(n,c) ∈ z1o X.env.cells scope.names []→c < s.heap.objs.size:=fun n c h=>by
  obtain ⟨v,q⟩:=I.cell n c (clo n c h).2
  exact q.lt
 have cel:∀ n c,(n,c) ∈ Qg (s.heap.objs.size + 1) scope.names (z1o X.env.cells scope.names []) →
   ((n,NameKind.free) ∈ scope.names∧X.env.cells.lookup n=some c)∨((n,NameKind.cell) ∈ scope.names∧s.heap.objs.size + 1≤c∧(Jd (s.heap.push { cls:=.type "dict",data:=.dict #[] }) scope.names).IsCell c none):=fun n c h=>by
  rw [← sz] at h
  rcases z8f _ _ _ h with q | q
  ·exact .inl (clo n c q)
  ·rw [sz] at q; exact .inr q
 have cinj:=z8g scope.names (s.heap.objs.size + 1) (z1o X.env.cells scope.names []) (fun n n' c h1 h2=>I.ok.inj n n' c (clo n c h1).2 (clo n' c h2).2) (fun n c h=>Nat.lt_succ_of_lt (cltm n c h))
 have hasC:∀ x ∈ scope.names,x.2 = .free→∃ c,X.env.cells.lookup x.1=some c:=fun x hx hk=>I.ok.has x.1 (S.free x hx hk)
 have fpn:∀ b ∈ fp,b ∉ frs X.stack:=fun b hb z=>by
  obtain ⟨_,f1,f2,_⟩:=hf b hb
  rcases Wj.mp (I.stkSub b z) with e | e
  ·exact f1 e
  ·exact f2 e
 have kindC:∀ x,(z1g X scope s H fp).env.kindOf x=some .cell∨(z1g X scope s H fp).env.kindOf x=some .free→scope.names.lookup x=some .cell∨scope.names.lookup x=some .free:=fun x h=>by
  rcases h with h | h
  ·have h':(relabel scope X.env).names.lookup x=some .cell:=h
   rcases z0O (env:=X.env) (names:=scope.names) h' with q | ⟨_,q⟩
   ·exact .inl q
   ·exact .inr q
  ·have h':(relabel scope X.env).names.lookup x=some .free:=h
   rcases z0O (env:=X.env) (names:=scope.names) h' with q | ⟨q,_⟩
   ·exact .inr q
   ·cases q
 have hasIt:∀ x,scope.names.lookup x=some .cell∨scope.names.lookup x=some .free→∃ c,(Qg (s.heap.objs.size + 1) scope.names (z1o X.env.cells scope.names [])).lookup x=some c:=fun x h=>by
  refine Option.isSome_iff_exists.mp (PySem.W.cellsFrom_some scope.names _ _ ?_)
  rcases h with h | h
  ·exact .inl h
  ·refine .inr (z3Z _ _ (.inr ⟨Wt h,?_⟩))
   obtain ⟨c,hc⟩:=hasC _ (Wt h) rfl
   exact Option.isSome_iff_exists.mpr ⟨c,hc⟩
 have ns0:(Jd (s.heap.push { cls:=.type "dict",data:=.dict #[] }) scope.names).Ns s.heap.objs.size fun _=>none:=(Heap.Ns.new s.heap (.type "dict")).keeps (pushCells_keeps _ _)
 refine ⟨⟨I.ok.mod,S.kind,I.ok.glob,I.ok.blt,Wf _,fun y z c h1 h2=>cinj y z c (Wt h1) (Wt h2),fun x hx=>hasIt x (kindC x hx),fun x c hfn h=>?_,I.ok.hd,I.ok.frames,.inl rfl,
  fun b hb=>⟨Wl (hlt b hb),fun x c h e=>?_⟩,I.bs,WD I.ok.bsz I.sz,fun b o e hb=>?_,fpn,I.stack,I.stkFree⟩,
  rfl,I.bare,Un.kept kp,⟨fun _=>none,ns0,fun i x v h1 h2 h3=>?_⟩,fun x c h=>?_,I.hok.fresh (Wf _),fun x c h=>?_,fun p hp=>absurd (show p ∈ ([]:List (Addr×Obj)) from hp) (by simp),I.hok.kept kp,(z4M cs σ).trans I.len⟩
 ·rcases cel x c (Wt h) with q | q
  ·have hfn':scope.names.lookup x=some .cell:=by
    have:(scope.names.lookup x == some .cell)=true:=hfn
    exact eq_of_beq this
   have:=z3N S.nd q.1 (Wt hfn')
   cases this
  ·exact Nat.le_of_succ_le q.2.1
 ·subst e
  rcases cel x c (Wt h) with q | q
  ·exact (hf c hb).2.2.2.2.1 x c q.2 rfl
  ·exact absurd (Wq (hlt c hb) (Nat.le_of_succ_le q.2.1)) (Q1 _)
 ·obtain ⟨_,_,_,f3,_⟩:=hf b hb
  rcases f3 with z | z
  ·exact I.ok.noex b o e z
  ·exact absurd (Wq (We (I.ok.bs b o e).1) z) (Q1 _)
 ·obtain ⟨h2',hni⟩:=z2i cs σ i v h2
  have hni':¬ (scope.names.lookup x=some .local∨scope.names.lookup x=some .cell):=fun z=>hni (S.own i x h1 z)
  have hfree:scope.names.lookup x=some .free:=by
   rcases h3 with h3 | h3 | h3
   ·rcases z0O (env:=X.env) (names:=scope.names) h3 with q | ⟨q,_⟩
    ·exact absurd (.inl q) hni'
    ·cases q
   ·rcases z0O (env:=X.env) (names:=scope.names) h3 with q | ⟨_,q⟩
    ·exact absurd (.inr q) hni'
    ·exact q
   ·rcases z0O (env:=X.env) (names:=scope.names) h3 with q | ⟨q,_⟩
    ·exact q
    ·cases q
  have hk:=S.free _ (Wt hfree) rfl
  obtain ⟨m,hn,hl⟩:=I.loc
  have hvis:Vis X.env.scope x:=by
   rcases hk with hk | hk
   ·exact .inr (.inl hk)
   ·exact .inr (.inr hk)
  obtain ⟨u,r,l⟩:=hl i x v h1 h2' hvis
  refine ⟨u,r,?_⟩
  rcases l with ⟨k,_⟩ | ⟨_,c,hc,hcell⟩
  ·have k':X.env.kindOf x=some .local:=k
   rcases hk with hk | hk
   ·rw [show X.env.kindOf x=some .cell from hk] at k'; cases k'
   ·rw [show X.env.kindOf x=some .free from hk] at k'; cases k'
  ·obtain ⟨c',hc'⟩:=hasIt x (.inr hfree)
   have e:c'=c:=by
    rcases cel x c' (Wt hc') with q | q
    ·have q2:=q.2
     rw [hc] at q2; exact (Wv q2).symm
    ·have:=z3N S.nd q.1 (Wt hfree)
     cases this
   subst e
   refine .inr ⟨?_,c',hc',hcell.keeps kp⟩
   rcases h3 with h3 | h3 | h3
   ·rcases z0O (env:=X.env) (names:=scope.names) h3 with q | ⟨q,_⟩
    ·rw [hfree] at q; cases q
    ·cases q
   ·exact .inl h3
   ·exact .inr h3
 ·rcases cel x c (Wt h) with q | q
  ·obtain ⟨v,z⟩:=I.cell x c q.2
   exact ⟨v,z.keeps kp⟩
  ·exact ⟨none,q.2.2⟩
 ·rcases cel x c (Wt h) with q | q
  ·exact I.freeC x c q.2
  ·exact I.hok.fresh (Nat.le_of_succ_le q.2.1)
end
abbrev NoX:Value→W2→Prop:=fun _ _=>False
def z9R (ifs:List Expr) (env:Env):Sem Bool:=forIn ifs true fun c r=>if r=true then do let ok ← isTrue c env (eval c env); pure (ForInStep.yield ok) else pure (ForInStep.yield r)
theorem z5j (I:Nat→W2→Prop)
  (turn:∀ n s,I n s→Wa (model prog w) A (Qe it) (fun r s₁=>match r with
   | none=>R (.ok .next) s₁
   | some v=>Wa (model prog w) A (letOwnedTupleGo target it v) (fun _ s₁'=>Wa (model prog w) A (assign target env v) (fun _ s₂ =>
     Wa (model prog w) A (z9R ifs env) (fun ok s₃ =>
      if ok=true then Wa (model prog w) A (eval elt env) (fun x s₄ =>
       Wa (model prog w) A (call (.builtin "list.append") [acc,x]) (fun _ s₅=>∃ m,m < n∧I m s₅) NoX s₄) NoX s₃
      else ∃ m,m < n∧I m s₃) NoX s₂) NoX s₁') NoX s₁) NoX s)
  (n:Nat) (h:I n s) :
  QH (model prog w) A (.compLoop (.ListComp elt [⟨target,iter,ifs,0⟩] scope pos) 0 it acc env) R s:=by
 refine codeAny_loop rfl I (fun n s hI=>?_) n h
 show Wa _ A ((compTurn (.ListComp elt [⟨target,iter,ifs,0⟩] scope pos) 0 it acc env).onRaise (fun x=>do noteFrame x env; theTreesLotGoes x)) _ _ s
 refine wpAny_noted ?_
 rw [compTurn_list]
 refine W0 (wpAny_standAt (W0 (Qk (turn n s hI) (fun r s₁ h₁=>?_) fun _ _ h'=>h'.elim)))
 cases r with
 | none=>exact W5 h₁
 | some v =>
  refine W0 (Qk h₁ (fun _ s₁' h₁'=>?_) fun _ _ h'=>h'.elim)
  refine W0 (Qk h₁' (fun _ s₂ h₂=>W0 (Qk h₂ (fun ok s₃ h₃=>?_) fun _ _ h'=>h'.elim)) fun _ _ h'=>h'.elim)
  cases ok with
  | false=>exact W5 ⟨rfl,h₃⟩
  | true =>
   exact W0 (W0 (Qk h₃ (fun x s₄ h₄=>W0 (Qk h₄ (fun _ s₅ h₅=>W5 (W5 ⟨rfl,h₅⟩)) fun _ _ h'=>h'.elim)) fun _ _ h'=>h'.elim))
theorem z6E
  (h:Q { scope,locals:=s.heap.objs.size,globals,cells:=Qg (s.heap.objs.size + 1) scope.names cl,qual,func:=none,code:=env.code,frame:=env.frame,builtins:=env.builtins }
   { s with heap:=Jd (s.heap.push { cls:=.type "dict",data:=.dict #[] }) scope.names }):Wa M A (newFunctionEnv scope globals cl [] qual none .none (some env)) Q E s:=by
 simp only [newFunctionEnv,Option.isSome_some,if_true]
 refine W0 (wpAny_alloc ?_)
 refine W0 (wpAny_layCells _ (fun name kind cells=>by cases hkc:kind == NameKind.cell <;> simp [hkc]) _ _ _ _ ?_)
 rw [show ({ s with heap:=s.heap.push { cls:=.type "dict",data:=.dict #[] } }:W2).heap.objs.size=s.heap.objs.size + 1 from QD ..]
 exact W0 (W5 (W5 h))
def PTs (X:Cx) (ifs:List Expr) (t:TT):Prop :=
 ∀ (pins:List (Addr×Obj)) (s:W2) (σ:St) (H:Hp) (Q:Bool→Hp→Prop),Inv X pins σ H s→t σ H Q→Wa (model X.prog X.w) X.A (z9R ifs X.env) (TP X pins σ Q) X.xe s
def tYes:TT:=fun _ H Q=>Q true H
theorem zaf:PTs X [] tYes:=fun pins s σ H Q I h=>wpAny_tests_nil ⟨H,I,h⟩
def Le (σ σ':St):Prop:=σ'.length=σ.length∧∀ (i:Nat) (v:V),σ[i]? = some (some v)→σ'[i]? = some (some v)
def z9S (cs:List Nat) (g:TG) (tt:TT) (te:TE) (σ:St) (Q:VK) (J:It) (H1:Hp):Prop :=
 ∀ l,H1 l=none→∃ W:Nat→Nat→Hp→Prop,(∃ m,W 0 m (upd H1 l (.lst [])))∧∀ i m H2,W i m H2 →
  (J.stop i H2∧Q (.ref l) H2) ∨
  (J.go i H2∧∀ x H3,J.yld i H2 x H3→g x (clr cs σ) H3 fun σ4 H4=>Le (clr cs σ) σ4∧tt σ4 H4 fun b H5 =>
   if b=true then te σ4 H5 fun v H6=>∃ ys m',H6 l=some (.lst ys)∧ys.length < W9∧m' < m∧W (i + 1) m' (upd H6 l (.lst (ys ++ [v]))) else ∃ m',m' < m∧W (i + 1) m' H5)
def z9X (cs:List Nat) (wi:TI) (g:TG) (tt:TT) (te:TE):TE:=fun σ H Q=>wi σ H fun J H1=>z9S cs g tt te σ Q J H1
section
variable {X:Cx} {pins:List (Addr×Obj)} {σ:St} {H:Hp} {s:W2} {scope:Scope} {cs:List Nat} {elt tg iter:Expr} {ifs:List Expr} {pos:Pos} {g:TG} {tt:TT} {te:TE}
theorem z4m {it:Addr} {fp:List Addr} {tn:Nat→Heap→Prop} {J:It} {Q:VK} {E:Value→W2→Prop} {RR:Value→Addr→Result→W2→Prop} (hc:X.calm=true) (I:Inv X pins σ H s) (S:CScope X scope cs)
  (T:Turn X.prog X.w X.K tg J fp it tn) (st:tn 0 s.heap) (hf:∀ b ∈ fp,FpOk X pins H b)
  (hg:∀ s₀ H₀ ex,PG (z1g X scope s₀ H₀ ex) tg g) (ht:∀ s₀ H₀ ex,PTs (z1g X scope s₀ H₀ ex) ifs tt) (he:∀ s₀ H₀ ex,PE (z1g X scope s₀ H₀ ex) elt te) (q:z9S cs g tt te σ Q J H)
  (hRR:∀ l C s' H',Inv X pins σ H' s'→FpOk X pins H' C→(∃ m,s'.heap.Ns C m)→Q (.ref l) H'→RR (.ref l) C (.ok .next) s') :
  Wa (model X.prog X.w) X.A (newList []) (fun acc s₃=>Wa (model X.prog X.w) X.A (newFunctionEnv scope X.env.globals (z1o X.env.cells scope.names []) [] X.env.qual none .none (some X.env)) (fun cenv s₄ =>
   QH (model X.prog X.w) X.A (.compStart (.ListComp elt [⟨tg,iter,ifs,0⟩] scope pos) 0 (.ref it) acc { cenv with scope:=relabel scope X.env }) (RR acc cenv.locals) s₄) E s₃) E s:=by
 refine Q4 ?_
 have hfr:H s.heap.objs.size=none:=I.hok.fresh (Wf _)
 obtain ⟨W,⟨m0,w0⟩,turn⟩:=q s.heap.objs.size hfr
 generalize hl:s.heap.objs.size=l at *
 have I3:Inv X pins σ (upd H l (.lst [])) { s with heap:=s.heap.push { cls:=.type "list",dict:=none,data:=.seq ([]:List Value).toArray } } :=
  I.laid (t':=s.toks) (fun b u e=>Wd _ e) (Nat.le_of_eq hl) ⟨QB _,[],0,.nil,by rw [← hl]; exact Wn _ rfl⟩
 have kp3:∀ b o,s.heap.get? b=some o→(s.heap.push { cls:=.type "list",dict:=none,data:=.seq ([]:List Value).toArray }).get? b=some o:=fun b o e=>Wd _ e
 have hfl:∀ b ∈ fp,b≠l:=fun b hb e=>by
  obtain ⟨o,ho,_⟩:=T.obj 0 _ st b hb
  exact absurd (We ho) (by rw [e,hl]; exact Q1 _)
 have hf3:∀ b ∈ fp,FpOk X pins (upd H l (.lst [])) b:=fun b hb=>⟨by rw [z09 (hfl b hb)]; exact (hf b hb).1,(hf b hb).2⟩
 have st3:tn 0 (s.heap.push { cls:=.type "list",dict:=none,data:=.seq ([]:List Value).toArray }):=T.keep 0 _ _ st fun b _ o e=>kp3 b o e
 generalize hs3:({ s with heap:=s.heap.push { cls:=.type "list",dict:=none,data:=.seq ([]:List Value).toArray } }:W2)=s3 at I3
 have st3':tn 0 s3.heap:=by rw [← hs3]; exact st3
 have hlt3:∀ b ∈ fp,b < s3.heap.objs.size:=fun b hb=>by
  obtain ⟨o,ho,_⟩:=T.obj 0 _ st3' b hb
  exact We ho
 refine z6E ?_
 have I4:=z6N I3 S hf3 hlt3
 generalize hX:z1g X scope s3 (upd H l (.lst [])) fp=X' at I4
 generalize hs4:({ s3 with heap:=Jd (s3.heap.push { cls:=.type "dict",data:=.dict #[] }) scope.names }:W2)=s4 at I4 ⊢
 have hg':=hg s3 (upd H l (.lst [])) fp
 have ht':=ht s3 (upd H l (.lst [])) fp
 have he':=he s3 (upd H l (.lst [])) fp
 rw [hX] at hg' ht' he'
 have st4:tn 0 s4.heap:=T.keep 0 _ _ st3' fun b _ o e=>by rw [← hs4]; exact pushCells_keeps _ _ b o (Wd _ e)
 have hP:X'.prog=X.prog:=by rw [← hX]; rfl
 have hw:X'.w=X.w:=by rw [← hX]; rfl
 have hA:X'.A=X.A:=by rw [← hX]; rfl
 have hK:X'.K=X.K:=by rw [← hX]; rfl
 have hc':X'.calm=true:=by rw [← hX]; exact hc
 have hxe:X'.xe=NoX:=by rw [← hX]; rfl
 have hloc:X'.env.locals=s3.heap.objs.size:=by rw [← hX]; rfl
 have henv:({ scope:=relabel scope X.env,locals:=s3.heap.objs.size,globals:=X.env.globals,cells:=Qg (s3.heap.objs.size + 1) scope.names (z1o X.env.cells scope.names []),qual:=X.env.qual,func:=none,code:=X.env.code,frame:=X.env.frame,builtins:=X.env.builtins }:Env)=X'.env:=by rw [← hX]; rfl
 have fpx:∀ {H':Hp},(∀ b ∈ fp,H' b=none)→∀ b ∈ fp,FpOk X' [] H' b:=fun {H'} hn b hb=>by
  have ex:X'.ex=fp:=by rw [← hX]; rfl
  have pn:X'.pn=[]:=by rw [← hX]; rfl
  refine ⟨hn b hb,(I4.ok.exf b (by rw [ex]; exact hb)).1,I4.ok.exfs b (by rw [ex]; exact hb),.inl (by rw [ex]; exact hb),(I4.ok.exf b (by rw [ex]; exact hb)).2,fun p hp=>?_⟩
  rw [pn] at hp
  simp at hp
 show QH (model X.prog X.w) X.A (.compStart (.ListComp elt [⟨tg,iter,ifs,0⟩] scope pos) 0 (.ref it) (.ref l) ({ scope:=relabel scope X.env,locals:=s3.heap.objs.size,globals:=X.env.globals,cells:=Qg (s3.heap.objs.size + 1) scope.names (z1o X.env.cells scope.names []),qual:=X.env.qual,func:=none,code:=X.env.code,frame:=X.env.frame,builtins:=X.env.builtins }:Env)) (RR (.ref l) s3.heap.objs.size) s4
 rw [henv]
 have loop:QH (model X.prog X.w) X.A (.compLoop (.ListComp elt [⟨tg,iter,ifs,0⟩] scope pos) 0 (.ref it) (.ref l) X'.env) (RR (.ref l) s3.heap.objs.size) s4:=by
  refine z5j (fun n s'=>∃ i H',Inv X' [] (clr cs σ) H' s'∧tn i s'.heap∧(∀ b ∈ fp,H' b=none)∧W i n H') ?_ m0 ⟨0,_,I4,st4,fun b hb=>(hf3 b hb).1,w0⟩
  rintro n s5 ⟨i,H5,I5,st5,fr5,w5⟩
  rcases turn i n H5 w5 with ⟨stop,qn⟩ | ⟨go,step⟩
  ·have:=T.done X' hP hw hK hc' i [] s5 (clr cs σ) H5 NoX I5 (fpx fr5) st5 stop
   rw [hA] at this
   refine thn this fun r s6 ⟨hr,I6⟩=>?_
   subst hr
   have b6:=I6.base
   have e1:X'.fs=frs X.stack:=by rw [← hX]; rfl
   have e2:X'.ex=fp:=by rw [← hX]; rfl
   have e3:X'.H₀=upd H l (.lst []):=by rw [← hX]; rfl
   have e4:X'.s₀=s3:=by rw [← hX]; rfl
   rw [e1,e2,e3,e4] at b6
   have o6:s6.os=s3.os:=by rw [← e4]; exact I6.os
   have hok6:HOk X.prog X.w H5 s6.heap:=by rw [← hP,← hw]; exact I6.hok
   have J6:Inv X pins σ H5 s6:=I3.call' o6 b6 hok6 I6.bare fun b hb=>by
    obtain ⟨_,f1,_,f3,f4,f5⟩:=hf3 b hb
    exact ⟨f3,f1,f4,f5⟩
   obtain ⟨m6,n6,_⟩:=I6.loc
   rw [hloc] at n6
   refine hRR l s3.heap.objs.size s6 H5 J6 (I3.fpOk (Wf _) ?_) ⟨m6,n6⟩ qn
   rw [← hloc]
   exact I6.free
  ·have:=T.item X' hP hw hK hc' i [] s5 (clr cs σ) H5 NoX I5 (fpx fr5) st5 go
   rw [hA] at this
   refine thn this fun r s6 ⟨u,hr,h6⟩=>?_
   subst hr
   refine thn h6 fun _ s7 ⟨x,H7,I7,r7,y7,st7,fr7⟩=>?_
   have I7':=I7.pinned (fpx fr7) (T.obj _ _ st7)
   have a8:=hg' _ s7 (clr cs σ) H7 x u _ I7' r7 (step x H7 y7)
   rw [hP,hw,hA,hxe] at a8
   refine thn a8 fun _ s8 ⟨σ8,H8,I8,le8,q8⟩=>?_
   have a9:=ht' _ s8 σ8 H8 _ I8 q8
   rw [hP,hw,hA,hxe] at a9
   refine thn a9 fun ok s9 ⟨H9,I9,q9⟩=>?_
   have back:∀ {H':Hp} {s':W2},Inv X' ([] ++ z54 fp s7.heap) σ8 H' s'→Inv X' [] (clr cs σ) H' s'∧tn (i + 1) s'.heap∧∀ b ∈ fp,H' b=none:=fun {H' s'} J=>by
    refine ⟨J.unpinned.weak (le8.1.symm) le8.2,T.keep _ _ _ st7 fun b hb o e=>(J.pin (b,o) (WJ _ (WJ _ (z2o hb e)))).1,fun b hb=>?_⟩
    obtain ⟨o,e,d⟩:=T.obj _ _ st7 b hb
    exact (J.pin (b,o) (WJ _ (WJ _ (z2o hb e)))).2.1
   cases ok with
   | false =>
    rw [if_neg Qd] at q9 ⊢
    obtain ⟨m',hm,w9⟩:=q9
    obtain ⟨b1,b2,b3⟩:=back I9
    exact ⟨m',hm,i + 1,H9,b1,b2,b3,w9⟩
   | true =>
    rw [if_pos rfl] at q9 ⊢
    have a10:=he' _ s9 σ8 H9 _ I9 q9
    rw [hP,hw,hA,hxe] at a10
    refine thn a10 fun x10 s10 ⟨v,H10,I10,r10,ys,m',hy,hz,hm,w10⟩=>?_
    have a11:=z59 (X:=X') _ s10 σ8 H10 (.ref l) [v] (.ref l) [x10] (fun _ H'=>W (i + 1) m' H') I10 rfl (.cons r10 .nil) ⟨l,ys,v,rfl,rfl,hy,hz,w10⟩
    rw [hP,hw,hA,hxe] at a11
    refine thn a11 fun _ s11 ⟨_,H11,I11,_,w11⟩=>?_
    obtain ⟨b1,b2,b3⟩:=back I11
    exact ⟨m',hm,i + 1,H11,b1,b2,b3,w11⟩
 exact codeAny_compStart_list loop (T.self X.A 0 s4 _ _ st4 loop)
theorem zam (hc:X.calm=true) (S:CScope X scope cs) (hi:PI X tg iter wi) (hg:∀ s₀ H₀ ex,PG (z1g X scope s₀ H₀ ex) tg g) (ht:∀ s₀ H₀ ex,PTs (z1g X scope s₀ H₀ ex) ifs tt) (he:∀ s₀ H₀ ex,PE (z1g X scope s₀ H₀ ex) elt te)
  (hs:∀ x,Qq iter X.env x=pure x:=by intro _; rfl):PE X (.ListComp elt [⟨tg,iter,ifs,0⟩] scope pos) (z9X cs wi g tt te):=by
 intro pins s σ H Q I h
 have hasC:∀ x ∈ scope.names,x.2 = .free→∃ c,X.env.cells.lookup x.1=some c:=fun x hx hk=>I.ok.has x.1 (S.free x hx hk)
 rw [eval_ListComp]
 refine wpAny_comprehension_free (use:=none) rfl hs (z4p hasC) S.kind S.names (thn (hi pins s σ H _ I h) fun xv s1 h1=>thn h1 fun itv s2 h2=>?_)
 obtain ⟨it,fp,tn,J,H2,e,I2,T,st2,f2,q2⟩:=h2
 subst e
 refine z4m (RR:=fun acc C=>compPost (model X.prog X.w) X.A X.xe none (EP X pins σ Q) acc C) hc I2 S T st2 f2 hg ht he q2 ?_
 intro l C s' H' I' fC ⟨m,n⟩ q
 exact ⟨m,n,fun h' hs'=>⟨.ref l,H',I'.turned (t':=s'.toks) (fun b o hb e=>(hs'.2 b hb).trans e) fC.1 fC.2.1 fC.2.2.2.1 fC.2.2.2.2.1 fC.2.2.2.2.2,rfl,q⟩⟩
theorem z6A (hc:X.calm=true) (S:CScope X scope cs) (hN:X.N.Nodup) (hi':X.N[i]? = some y) (hy:X.env.scope.names.lookup y=some .local)
  (hi:PI X tg iter wi) (hg:∀ s₀ H₀ ex,PG (z1g X scope s₀ H₀ ex) tg g) (ht:∀ s₀ H₀ ex,PTs (z1g X scope s₀ H₀ ex) ifs tt) (he:∀ s₀ H₀ ex,PE (z1g X scope s₀ H₀ ex) elt te)
  (hsw:Jc (.ListComp elt [⟨tg,iter,ifs,0⟩] scope pos) (some (.Name y py)) spos.line X.env=pure true:=by rfl)
  (hs:∀ x,Qq iter X.env x=pure x:=by intro _; rfl):PS X (.Assign [.Name y py] (.ListComp elt [⟨tg,iter,ifs,0⟩] scope pos) spos) (tAsg (z9X cs wi g tt te) (z98 i)):=by
 intro pins s σ H D I h
 have hasC:∀ x ∈ scope.names,x.2 = .free→∃ c,X.env.cells.lookup x.1=some c:=fun x hx hk=>I.ok.has x.1 (S.free x hx hk)
 rw [exec_Assign_Name_used _ _ _ _ hsw]
 refine W0 (wpAny_standAt (W0 ?_))
 show Wa _ X.A (do let _ ← comprehension (.ListComp elt [⟨tg,iter,ifs,0⟩] scope pos) scope X.env _ (newList []) false (eval iter X.env) (some (assign (.Name y py) X.env))) _ _ s
 refine W0 (Qk (wpAny_comprehension_free (use:=some (assign (.Name y py) X.env)) (Q:=fun _ s'=>SP X pins D .next s') rfl hs (z4p hasC) S.kind S.names
  (thn (hi pins s σ H _ I h) fun xv s1 h1=>thn h1 fun itv s2 h2=>?_)) (fun _ s' hq=>W5 (W5 hq)) fun _ _ e=>e)
 obtain ⟨it,fp,tn,J,H2,e,I2,T,st2,f2,q2⟩:=h2
 subst e
 refine z4m (RR:=fun acc C=>compPost (model X.prog X.w) X.A X.xe (some (assign (.Name y py) X.env)) (fun _ s'=>SP X pins D .next s') acc C) hc I2 S T st2 f2 hg ht he q2 ?_
 intro l C s' H' I' fC ⟨m,n⟩ q
 show Wa _ X.A (assign (.Name y py) X.env (.ref l)) _ _ _
 refine wpAny_assign_Name (z4S I' hN hi' (.inl hy) (v:=.ref l) rfl (fun s'' I'' ⟨a,hsb,ha⟩=>?_) (.inr hy))
 have hne:C≠a:=by
  rcases ha with rfl | ha
  ·exact fC.2.1
  ·exact fun e=>fC.2.2.2.2.1 y a ha e.symm
 refine ⟨m,n.sameBut hsb hne,fun h' hs'=>⟨_,H',I''.turned (t':=s''.toks) (fun b o hb e=>(hs'.2 b hb).trans e) fC.1 fC.2.1 fC.2.2.2.1 fC.2.2.2.2.1 fC.2.2.2.2.2,q⟩⟩
end
end L2
set_option maxHeartbeats 4000000
namespace DV
open PySem PySem.Spec PyProof.Rows L2
abbrev Tx:=List Nat
def toS (x:Tx):Str:=⟨x.toArray⟩
theorem z4r (x:Tx):(toS x).cps.toList=x:=by simp [toS]
theorem z1v (x:Tx):(toS x).length=x.length:=by simp [toS,Str.length]
theorem z5x (h:toS x=toS y):x=y:=by
 have:=congrArg (fun z:Str=>z.cps.toList) h
 simpa [toS] using this
theorem z9r (z:Str):z=toS z.cps.toList:=by simp [toS]
abbrev DKey:=Sum Int Tx
def kOf:DKey→Key
 | .inl i=>.inl i
 | .inr x=>.inr (toS x)
inductive D where
 | non | bl (b:Bool) | int (i:Int) | str (x:Tx) | tup (xs:List D) | lst (xs:List D) | dct (kvs:List (DKey×D)) | exc (n:Nat) (fl:D) | xd (fs:List (Tx×D))
def excAt (C:Addr) (v:V) (a:Addr):Heap→Prop:=fun h=>∃ o,h.get? a=some o∧o.cls = .ref C∧(∀ x,v = .ref x→o.dict=some x)∧∃ vs,o.data = .fields vs
def xdAt (fs:List (Str×V)) (x:Addr):Heap→Prop:=fun h=>∃ mA,h.Ns1 x mA∧∀ f,RelO (fs.lookup f) (mA f)
inductive S where
 | pure (d:D)
 | own (d:D)
def S.d:S→D
 | .pure d=>d
 | .own d=>d
abbrev Dl:=List (Option S)
abbrev St:=L2.St
inductive Rep (H:Hp) (O:Addr→Prop):V→D→Prop
 | non:Rep H O .non .non
 | bl (b:Bool):Rep H O (.bl b) (.bl b)
 | int (i:Int):Rep H O (.int i) (.int i)
 | str (x:Tx):Rep H O (.str (toS x)) (.str x)
 | tup {a:Addr} {vs:List V} {ds:List D}:¬ O a→H a=some (.tup vs)→vs.length=ds.length→(∀ (i:Nat) v d,vs[i]? = some v→ds[i]? = some d→Rep H O v d)→Rep H O (.ref a) (.tup ds)
 | lst {a:Addr} {vs:List V} {ds:List D}:¬ O a→Rd H a (.lst vs)→vs.length=ds.length→(∀ (i:Nat) v d,vs[i]? = some v→ds[i]? = some d→Rep H O v d)→Rep H O (.ref a) (.lst ds)
 | dct {a:Addr} {ws:List (Key×V)} {ds:List (DKey×D)}:¬ O a→H a=some (.dK ws)→ws.map (·.1)=ds.map (fun p=>kOf p.1)→(∀ (i:Nat) p q,ws[i]? = some p→ds[i]? = some q→Rep H O p.2 q.2)→Rep H O (.ref a) (.dct ds)
 | exc {a:Addr} {n:Nat} {v:V} {fl:D}:¬ O a→H a=some (.ext (excAt n v a))→Rep H O v fl→Rep H O (.ref a) (.exc n fl)
 | xd {x:Addr} {fs:List (Str×V)} {ds:List (Tx×D)}:¬ O x→H x=some (.ext (xdAt fs x))→fs.map (·.1)=ds.map (fun p=>toS p.1)→(∀ (i:Nat) p q,fs[i]? = some p→ds[i]? = some q→Rep H O p.2 q.2)→Rep H O (.ref x) (.xd ds)
abbrev Reps (H:Hp) (O:Addr→Prop) (vs:List V) (ds:List D):Prop:=vs.length=ds.length∧∀ (i:Nat) v d,vs[i]? = some v→ds[i]? = some d→Rep H O v d
def OwnAt (H:Hp) (O:Addr→Prop) (a:Addr):D→Prop
 | .lst ds=>∃ vs,H a=some (.lst vs)∧Reps H O vs ds
 | .dct ds=>∃ ws:List (Key×V),H a=some (.dK ws)∧ws.map (·.1)=ds.map (fun p=>kOf p.1)∧∀ (i:Nat) p q,ws[i]? = some p→ds[i]? = some q→Rep H O p.2 q.2
 | _=>False
section
variable {H H':Hp} {O O':Addr→Prop} {v:V} {d:D} {vs:List V} {ds:List D} {a:Addr}
theorem Rd.keep (h:Rd H a u) (k:∀ o,H a=some o→H' a=some o):Rd H' a u:=by
 rcases h with h | ⟨o,h⟩
 ·exact .inl (k _ h)
 ·exact .inr ⟨o,k _ h⟩
theorem Rd.some (h:Rd H a u):∃ o,H a=some o:=by
 rcases h with h | ⟨o,h⟩
 ·exact ⟨_,h⟩
 ·exact ⟨_,h⟩
theorem Rep.keep (h:Rep H O v d) (k:∀ a o,H a=some o→¬ O a→H' a=some o):Rep H' O v d:=by
 induction h with
 | non=>exact .non
 | bl b=>exact .bl b
 | int i=>exact .int i
 | str x=>exact .str x
 | tup h1 h2 h3 _ ih=>exact .tup h1 (k _ _ h2 h1) h3 ih
 | lst h1 h2 h3 _ ih=>exact .lst h1 (Rd.keep h2 fun o e=>k _ o e h1) h3 ih
 | dct h1 h2 h3 _ ih=>exact .dct h1 (k _ _ h2 h1) h3 ih
 | exc h1 h2 _ ih=>exact .exc h1 (k _ _ h2 h1) ih
 | xd h1 h2 h3 _ ih=>exact .xd h1 (k _ _ h2 h1) h3 ih
theorem Rep.anti (h:Rep H O v d) (k:∀ a,O' a→O a∨H a=none):Rep H O' v d:=by
 have no:∀ {a:Addr} {u:HO},¬ O a→Rd H a u→¬ O' a:=fun {a u} h1 h2 z=>by
  rcases k a z with q | q
  ·exact h1 q
  ·obtain ⟨o,e⟩:=Rd.some h2
   rw [q] at e; cases e
 induction h with
 | non=>exact .non
 | bl b=>exact .bl b
 | int i=>exact .int i
 | str x=>exact .str x
 | tup h1 h2 h3 _ ih=>exact .tup (no h1 (.inl h2)) h2 h3 ih
 | lst h1 h2 h3 _ ih=>exact .lst (no h1 h2) h2 h3 ih
 | dct h1 h2 h3 _ ih=>exact .dct (no h1 (.inl h2)) h2 h3 ih
 | exc h1 h2 _ ih=>exact .exc (no h1 (.inl h2)) h2 ih
 | xd h1 h2 h3 _ ih=>exact .xd (no h1 (.inl h2)) h2 h3 ih
theorem Reps.keep (h:Reps H O vs ds) (k:∀ a o,H a=some o→¬ O a→H' a=some o):Reps H' O vs ds:=⟨h.1,fun i v d e1 e2=>(h.2 i v d e1 e2).keep k⟩
theorem Reps.anti (h:Reps H O vs ds) (k:∀ a,O' a→O a∨H a=none):Reps H O' vs ds:=⟨h.1,fun i v d e1 e2=>(h.2 i v d e1 e2).anti k⟩
theorem Reps.nil:Reps H O [] []:=⟨rfl,fun i v d e _=>by simp at e⟩
theorem Reps.cons (h:Rep H O v d) (r:Reps H O vs ds):Reps H O (v :: vs) (d :: ds):=by
 refine ⟨by simp [r.1],fun i v' d' e1 e2=>?_⟩
 cases i with
 | zero=>simp at e1 e2; subst e1; subst e2; exact h
 | succ i=>exact r.2 i v' d' (by simpa using e1) (by simpa using e2)
theorem Reps.head (r:Reps H O (v :: vs) (d :: ds)):Rep H O v d:=r.2 0 v d rfl rfl
theorem Reps.tail (r:Reps H O (v :: vs) (d :: ds)):Reps H O vs ds:=⟨by simpa using r.1,fun i v' d' e1 e2=>r.2 (i + 1) v' d' (by simpa using e1) (by simpa using e2)⟩
theorem Reps.append (h:Reps H O vs ds) (h':Reps H O vs' ds'):Reps H O (vs ++ vs') (ds ++ ds'):=by
 induction vs generalizing ds with
 | nil =>
  cases ds with
  | nil=>exact h'
  | cons d r=>have:=h.1; simp at this
 | cons v r ih =>
  cases ds with
  | nil=>have:=h.1; simp at this
  | cons d q=>exact .cons h.head (ih h.tail)
theorem Reps.get {i:Nat} (h:Reps H O vs ds) (e:ds[i]? = some d):∃ v,vs[i]? = some v∧Rep H O v d:=by
 have hi:i < ds.length:=(W3.mp e).1
 have hv:i < vs.length:=by rw [h.1]; exact hi
 exact ⟨vs[i],by simp [hv],h.2 i _ d (by simp [hv]) e⟩
theorem Reps.take (n:Nat) (h:Reps H O vs ds):Reps H O (vs.take n) (ds.take n):=by
 refine ⟨by simp [h.1],fun i v d e1 e2=>?_⟩
 by_cases hi:i < n
 ·rw [List.getElem?_take_of_lt hi] at e1 e2
  exact h.2 i v d e1 e2
 ·rw [List.getElem?_take_eq_none (by omega)] at e1; cases e1
theorem Reps.drop (n:Nat) (h:Reps H O vs ds):Reps H O (vs.drop n) (ds.drop n):=by
 refine ⟨by simp [h.1],fun i v d e1 e2=>?_⟩
 rw [List.getElem?_drop] at e1 e2
 exact h.2 (n + i) v d e1 e2
theorem Reps.set (h:Reps H O vs ds) (r:Rep H O v d) (j:Nat):Reps H O (vs.set j v) (ds.set j d):=by
 refine ⟨by simp [h.1],fun i v' d' e1 e2=>?_⟩
 by_cases hi:j=i
 ·subst hi
  rw [WP] at e1 e2
  simp at e1 e2
  obtain ⟨_,rfl⟩:=e1
  obtain ⟨_,rfl⟩:=e2
  exact r
 ·rw [W8 hi] at e1 e2
  exact h.2 i v' d' e1 e2
theorem OwnAt.keep (h:OwnAt H O a d) (hk:∀ b o,H b=some o→¬ O b→H' b=some o) (ha:∀ o,H a=some o→H' a=some o):OwnAt H' O a d:=by
 cases d <;> first
  | exact h.elim
  | (obtain ⟨vs,e,r⟩:=h; exact ⟨vs,ha _ e,Reps.keep r hk⟩)
  | (obtain ⟨ws,e,r,q⟩:=h; exact ⟨ws,ha _ e,r,fun i p p' e1 e2=>(q i p p' e1 e2).keep hk⟩)
theorem OwnAt.anti (h:OwnAt H O a d) (k:∀ a,O' a→O a∨H a=none):OwnAt H O' a d:=by
 cases d <;> first
  | exact h.elim
  | (obtain ⟨vs,e,r⟩:=h; exact ⟨vs,e,Reps.anti r k⟩)
  | (obtain ⟨ws,e,r,q⟩:=h; exact ⟨ws,e,r,fun i p p' e1 e2=>(q i p p' e1 e2).anti k⟩)
theorem OwnAt.some (h:OwnAt H O a d):∃ o,H a=some o:=by
 cases d <;> first
  | exact h.elim
  | (obtain ⟨vs,e,r⟩:=h; exact ⟨_,e⟩)
theorem OwnAt.rep (h:OwnAt H O a d) (ho:¬ O a):Rep H O (.ref a) d:=by
 cases d with
 | lst ds=>obtain ⟨vs,e,r⟩:=h; exact .lst ho (.inl e) r.1 r.2
 | dct ds=>obtain ⟨ws,e,r,q⟩:=h; exact .dct ho e r q
 | _=>exact h.elim
end
structure Xc where
 cls:Tx
 flds:D
structure Fc where
 H₀:Hp
 B:Addr→Prop
 pin:List (Nat×Addr)
 xc:Xc→Dl→Prop:=fun _ _=>False
def Fc.plus (c:Fc) (p:Addr):Fc:={ c with B:=fun a=>c.B a∨a=p }
def Fc.I (c:Fc) (a:Addr):Prop:=∃ i,(i,a) ∈ c.pin
def Own (σ:St) (δ:Dl) (a:Addr):Prop:=∃ (i:Nat) (d:D),δ[i]? = some (some (.own d))∧σ[i]? = some (some (.ref a))
def Av (c:Fc) (σ:St) (δ:Dl) (a:Addr):Prop:=c.B a∨Own σ δ a
structure Ok (c:Fc) (σ:St) (δ:Dl) (H:Hp):Prop where
 keep:∀ a o,c.H₀ a=some o→¬ c.I a→H a=some o
 bd:∀ a,c.B a→∃ o,H a=some o
 ith:∀ a,c.I a→∃ o,H a=some o
 len:δ.length=σ.length
 slot:∀ (i:Nat) d,δ[i]? = some (some (.pure d))→∃ v,σ[i]? = some (some v)∧Rep H (Av c σ δ) v d
 own:∀ (i:Nat) d,δ[i]? = some (some (.own d))→∃ a,σ[i]? = some (some (.ref a))∧OwnAt H (Av c σ δ) a d∧(c.I a∨c.H₀ a=none)∧¬ c.B a
 inj:∀ (i j:Nat) a d d',δ[i]? = some (some (.own d))→δ[j]? = some (some (.own d'))→σ[i]? = some (some (.ref a))→σ[j]? = some (some (.ref a))→i=j
 pinned:∀ p ∈ c.pin,σ[p.1]? = some (some (.ref p.2))
structure Aft (c:Fc) (σ:St) (δ:Dl) (H:Hp) (σ':St) (δ':Dl) (H':Hp):Prop where
 ok:Ok c σ' δ' H'
 keep:∀ a o,H a=some o→¬ Own σ δ a→H' a=some o
 own:∀ a,Own σ' δ' a→Own σ δ a∨H a=none
 there:∀ a o,H a=some o→∃ o',H' a=some o'
section
variable {c:Fc} {σ σ' σ'':St} {δ δ' δ'':Dl} {H H' H'':Hp} {v:V} {d:D} {a p:Addr}
theorem Ok.bthere (k:Ok c σ δ H) (h:c.B a):∃ o,H a=some o:=k.bd a h
theorem Ok.othere (k:Ok c σ δ H) (h:Own σ δ a):∃ o,H a=some o:=by
 obtain ⟨i,d,e1,e2⟩:=h
 obtain ⟨b,e3,q,_⟩:=k.own i d e1
 rw [e2] at e3; cases e3
 exact q.some
theorem Ok.avthere (k:Ok c σ δ H) (h:Av c σ δ a):∃ o,H a=some o:=h.elim k.bthere k.othere
theorem Ok.nav (k:Ok c σ δ H) (h:H a=none):¬ Av c σ δ a:=fun z=>by
 obtain ⟨o,e⟩:=k.avthere z
 rw [h] at e; cases e
theorem Aft.refl (k:Ok c σ δ H):Aft c σ δ H σ δ H:=⟨k,fun _ _ e _=>e,fun _ h=>.inl h,fun _ o e=>⟨o,e⟩⟩
theorem Aft.trans (x:Aft c σ δ H σ' δ' H') (y:Aft c σ' δ' H' σ'' δ'' H''):Aft c σ δ H σ'' δ'' H'':=by
 refine ⟨y.ok,fun a o e n=>?_,fun a h=>?_,fun a o e=>?_⟩
 ·refine y.keep a o (x.keep a o e n) fun z=>?_
  rcases x.own a z with q | q
  ·exact n q
  ·rw [q] at e; cases e
 ·rcases y.own a h with q | q
  ·exact x.own a q
  ·right
   cases e:H a with
   | none=>rfl
   | some o =>
    obtain ⟨o',e'⟩:=x.there a o e
    rw [q] at e'; cases e'
 ·obtain ⟨o',e'⟩:=x.there a o e
  exact y.there a o' e'
theorem Aft.av (x:Aft c σ δ H σ' δ' H'):∀ a,Av c σ' δ' a→Av c σ δ a∨H a=none:=fun a h=>by
 rcases h with h | h
 ·exact .inl (.inl h)
 ·rcases x.own a h with q | q
  ·exact .inl (.inr q)
  ·exact .inr q
theorem Rep.aft (h:Rep H (Av c σ δ) v d) (x:Aft c σ δ H σ' δ' H'):Rep H' (Av c σ' δ') v d:=by
 have h1:Rep H (fun a=>Av c σ δ a∨Av c σ' δ' a) v d:=Rep.anti h fun a z=>z.elim .inl (x.av a)
 exact (h1.keep fun a o e n=>x.keep a o e fun z=>n (.inl (.inr z))).anti fun a z=>.inl (.inr z)
theorem Reps.aft (h:Reps H (Av c σ δ) vs ds) (x:Aft c σ δ H σ' δ' H'):Reps H' (Av c σ' δ') vs ds:=⟨h.1,fun i v d e1 e2=>Rep.aft (h.2 i v d e1 e2) x⟩
def RepS (c:Fc) (σ:St) (δ:Dl) (Hs H:Hp) (v:V):S→Prop
 | .pure d=>Rep H (Av c σ δ) v d
 | .own d=>∃ a,v = .ref a∧OwnAt H (Av (c.plus a) σ δ) a d∧¬ c.B a∧c.H₀ a=none∧Ok (c.plus a) σ δ H∧Hs a=none
theorem z2O (k:Ok (c.plus a) σ δ H):¬ Own σ δ a:=fun ⟨i,d,e1,e2⟩=>by
 obtain ⟨b,e3,_,_,n⟩:=k.own i d e1
 rw [e2] at e3; cases e3
 exact n (.inr rfl)
theorem RepS.rep (h:RepS c σ δ Hs H v r):Rep H (Av c σ δ) v r.d:=by
 cases r with
 | pure d=>exact h
 | own d =>
  obtain ⟨a,rfl,o,n,f,k,_⟩:=h
  refine (o.anti fun b z=>.inl ?_).rep fun z=>z.elim n (z2O k)
  exact z.elim (fun z=>.inl (.inl z)) .inr
theorem RepS.back (h:RepS c σ δ Hs H v r) (x:Aft c σ₀ δ₀ H' σ' δ' Hs):RepS c σ δ H' H v r:=by
 cases r with
 | pure d=>exact h
 | own d =>
  obtain ⟨a,e,o,n,f,k,hs⟩:=h
  refine ⟨a,e,o,n,f,k,?_⟩
  cases q:H' a with
  | none=>rfl
  | some o =>
   obtain ⟨o',e'⟩:=x.there a o q
   rw [hs] at e'; cases e'
theorem RepS.home (h:RepS c σ δ Hs H v r):RepS c σ δ c.H₀ H v r:=by
 cases r with
 | pure d=>exact h
 | own d =>
  obtain ⟨a,e,o,n,f,k,hs⟩:=h
  exact ⟨a,e,o,n,f,k,f⟩
theorem Ok.alloc (k:Ok c σ δ H) (hp:H p=none) (o:HO):Ok c σ δ (upd H p o):=by
 have up:∀ a w,H a=some w→upd H p o a=some w:=fun a w e=>by
  rw [z09 (z0D e hp)]; exact e
 refine ⟨fun a w e n=>up a w (k.keep a w e n),fun a z=>(k.bd a z).elim fun w e=>⟨w,up a w e⟩,fun a z=>(k.ith a z).elim fun w e=>⟨w,up a w e⟩,k.len,fun i d e=>?_,fun i d e=>?_,k.inj,k.pinned⟩
 ·obtain ⟨v,e1,r⟩:=k.slot i d e
  exact ⟨v,e1,r.keep fun a w q _=>up a w q⟩
 ·obtain ⟨a,e1,r,q⟩:=k.own i d e
  exact ⟨a,e1,r.keep (fun b w q _=>up b w q) fun w q=>up a w q,q⟩
theorem Aft.alloc (k:Ok c σ δ H) (hp:H p=none) (o:HO):Aft c σ δ H σ δ (upd H p o):=by
 have up:∀ a w,H a=some w→upd H p o a=some w:=fun a w e=>by
  rw [z09 (z0D e hp)]; exact e
 exact ⟨k.alloc hp o,fun a w e _=>up a w e,fun a h=>.inl h,fun a w e=>⟨w,up a w e⟩⟩
theorem Ok.fresh₀ (k:Ok c σ δ H) (hp:H p=none):c.H₀ p=none:=by
 cases e:c.H₀ p with
 | none=>rfl
 | some o =>
  by_cases q:c.I p
  ·obtain ⟨w,e'⟩:=k.ith p q
   rw [hp] at e'; cases e'
  ·have:=k.keep p o e q
   rw [hp] at this; cases this
theorem Ok.plus (k:Ok c σ δ H) (hp:H p=none) (o:HO):Ok (c.plus p) σ δ (upd H p o):=by
 have k':=k.alloc hp o
 have sub:∀ b,Av (c.plus p) σ δ b→Av c σ δ b∨b=p:=fun b z=>by
  rcases z with (z | z) | z
  ·exact .inl (.inl z)
  ·exact .inr z
  ·exact .inl (.inr z)
 have sub2:∀ b,Av (c.plus p) σ δ b→Av c σ δ b∨H b=none:=fun b z=>(sub b z).elim .inl fun e=>.inr (by rw [e]; exact hp)
 have up:∀ a w,H a=some w→upd H p o a=some w:=fun a w e=>by
  rw [z09 (z0D e hp)]; exact e
 refine ⟨k'.keep,fun a z=>?_,k'.ith,k.len,fun i d e=>?_,fun i d e=>?_,k.inj,k.pinned⟩
 ·rcases z with z | z
  ·exact k'.bd a z
  ·exact ⟨o,by rw [z]; exact z0G⟩
 ·obtain ⟨v,e1,r⟩:=k.slot i d e
  exact ⟨v,e1,(r.anti sub2).keep fun a w q _=>up a w q⟩
 ·obtain ⟨a,e1,r,q,nb⟩:=k.own i d e
  refine ⟨a,e1,(r.anti sub2).keep (fun b w q _=>up b w q) (fun w q=>up a w q),q,fun z=>?_⟩
  rcases z with z | z
  ·exact nb z
  ·obtain ⟨w,ew⟩:=r.some
   rw [z,hp] at ew; cases ew
theorem RepS.newL (k:Ok c σ δ H) (r:Reps H (Av c σ δ) vs ds) (hp:H p=none):RepS c σ δ H (upd H p (.lst vs)) (.ref p) (.own (.lst ds)):=by
 have up:∀ a w,H a=some w→upd H p (.lst vs) a=some w:=fun a w e=>by
  rw [z09 (z0D e hp)]; exact e
 refine ⟨p,rfl,⟨vs,z0G,?_⟩,fun z=>k.nav hp (.inl z),k.fresh₀ hp,k.plus hp _,hp⟩
 have r1:Reps H (Av (c.plus p) σ δ) vs ds:=Reps.anti r fun b z=>by
  rcases z with (z | z) | z
  ·exact .inl (.inl z)
  ·exact .inr (by rw [z]; exact hp)
  ·exact .inl (.inr z)
 exact Reps.keep r1 fun b w e _=>up b w e
theorem RepS.newT (k:Ok c σ δ H) (r:Reps H (Av c σ δ) vs ds) (hp:H p=none):RepS c σ δ H (upd H p (.tup vs)) (.ref p) (.pure (.tup ds)):=by
 have up:∀ a w,H a=some w→upd H p (.tup vs) a=some w:=fun a w e=>by
  rw [z09 (z0D e hp)]; exact e
 have r1:=Reps.keep r (H':=upd H p (.tup vs)) fun b w e _=>up b w e
 exact .tup (k.nav hp) z0G r1.1 r1.2
end
inductive Rs (α:Type) where
 | ok (a:α) (δ:Dl)
 | exc (x:Xc) (δ:Dl)
 | stuck
def Rs.bind {α β:Type} (r:Rs α) (f:α→Dl→Rs β):Rs β:=match r with
 | .ok a δ=>f a δ
 | .exc x δ=>.exc x δ
 | .stuck=>.stuck
abbrev DE:=Dl→Rs S
def XC (c:Fc) (x:Xc) (δ:Dl):Prop:=c.xc x δ
def post {α:Type} (c:Fc) (r:Rs α) (k:α→Dl→Prop):Prop:=match r with
 | .ok a δ=>k a δ
 | .exc x δ=>XC c x δ
 | .stuck=>False
theorem z01:post c (r.bind f) k ↔ post c r fun a δ=>post c (f a δ) k:=by
 cases r <;> exact Iff.rfl
theorem z00 (h:post c r k) (m:∀ a δ,k a δ→k' a δ):post c r k':=by
 cases r with
 | ok a δ=>exact m a δ h
 | exc x δ=>exact h
 | stuck=>exact h
def tD (c:Fc) (f:DE):TE:=fun σ H Q=>∃ δ,Ok c σ δ H∧post c (f δ) fun r δ'=>∀ v H',Aft c σ δ H σ δ' H'→RepS c σ δ' H H' v r→Q v H'
abbrev SE (X:Cx) (c:Fc) (e:Expr) (f:DE):Prop:=PE X e (tD c f)
def RepB (c:Fc) (σ:St) (δ:Dl) (H:Hp) (v:V) (d:D):Prop:=Rep H (Av c σ δ) v d∨∃ a,v = .ref a∧OwnAt H (Av c σ δ) a d
abbrev BE:=Dl→Rs D
def tB (c:Fc) (f:BE):TE:=fun σ H Q=>∃ δ,Ok c σ δ H∧post c (f δ) fun d δ'=>∀ v H',Aft c σ δ H σ δ' H'→RepB c σ δ' H' v d→Q v H'
abbrev SB (X:Cx) (c:Fc) (e:Expr) (f:BE):Prop:=PE X e (tB c f)
theorem PE.weak (h:PE X e t) (w:∀ σ H Q,t' σ H Q→t σ H Q):PE X e t':=fun pins s σ H Q I q=>h pins s σ H Q I (w σ H Q q)
def bOf (f:DE):BE:=fun δ=>(f δ).bind fun r δ'=>.ok r.d δ'
theorem RepS.b (h:RepS c σ δ Hs H v r):RepB c σ δ H v r.d:=.inl h.rep
theorem z0c {X:Cx} {c:Fc} {e:Expr} {f:DE} (h:SE X c e f):SB X c e (bOf f):=PE.weak h fun σ H Q ⟨δ,k,p⟩=>⟨δ,k,by
 unfold bOf at p
 rw [z01] at p
 exact z00 p fun r δ' q v H' a s=>q v H' a s.b⟩
def bVar (i:Nat):BE:=fun δ=>match δ[i]? with
 | some (some r)=>.ok r.d δ
 | _=>.stuck
def eVar (i:Nat):DE:=fun δ=>match δ[i]? with
 | some (some (.pure d))=>.ok (.pure d) δ
 | some (some (.own d))=>.ok (.pure d) (δ.set i (some (.pure d)))
 | _=>.stuck
def eD (d:D):DE:=fun δ=>.ok (.pure d) δ
section
variable {X:Cx} {c:Fc}
theorem z0m {i:Nat} {e:Expr} (h:PE X e (tVar i)):SB X c e (bVar i):=PE.weak h fun σ H Q ⟨δ,k,p⟩=>by
 unfold bVar at p
 cases e:δ[i]? with
 | none=>rw [e] at p; exact p.elim
 | some o =>
  cases o with
  | none=>rw [e] at p; exact p.elim
  | some r =>
   rw [e] at p
   cases r with
   | pure d =>
    obtain ⟨v,e1,r⟩:=k.slot i d e
    exact ⟨v,e1,p v H (.refl k) (.inl r)⟩
   | own d =>
    obtain ⟨a,e1,r,_⟩:=k.own i d e
    exact ⟨.ref a,e1,p _ H (.refl k) (.inr ⟨a,rfl,r⟩)⟩
theorem Own.sub (h:Own σ (δ.set i (some (.pure d))) a):Own σ δ a:=by
 obtain ⟨j,d',e1,e2⟩:=h
 by_cases hj:i=j
 ·subst hj
  rw [WP] at e1
  simp at e1
 ·rw [W8 hj] at e1
  exact ⟨j,d',e1,e2⟩
theorem Ok.give (k:Ok c σ δ H) (e:δ[i]? = some (some (.own d))) :
  ∃ a,σ[i]? = some (some (.ref a))∧Aft c σ δ H σ (δ.set i (some (.pure d))) H∧Rep H (Av c σ (δ.set i (some (.pure d)))) (.ref a) d:=by
 obtain ⟨a,e1,r,q,nb⟩:=k.own i d e
 have hi:i < δ.length:=(W3.mp e).1
 have sub:∀ b,Av c σ (δ.set i (some (.pure d))) b→Av c σ δ b:=fun b z=>z.elim .inl fun z=>.inr z.sub
 have na:¬ Av c σ (δ.set i (some (.pure d))) a:=by
  rintro (z | ⟨j,d',f1,f2⟩)
  ·exact nb z
  ·by_cases hj:i=j
   ·subst hj
    rw [WP] at f1
    simp at f1
   ·rw [W8 hj] at f1
    exact hj (k.inj i j a d d' e f1 e1 f2)
 have rep:Rep H (Av c σ (δ.set i (some (.pure d)))) (.ref a) d:=(r.anti fun b z=>.inl (sub b z)).rep na
 refine ⟨a,e1,⟨⟨k.keep,k.bd,k.ith,by rw [Q6]; exact k.len,fun j d' f=>?_,fun j d' f=>?_,fun j l b d1 d2 f1 f2=>?_,k.pinned⟩,fun _ _ w _=>w,fun b z=>.inl z.sub,fun _ o w=>⟨o,w⟩⟩,rep⟩
 ·by_cases hj:i=j
  ·subst hj
   rw [Wm hi] at f
   cases f
   exact ⟨.ref a,e1,rep⟩
  ·rw [W8 hj] at f
   obtain ⟨v,g1,g2⟩:=k.slot j d' f
   exact ⟨v,g1,g2.anti fun b z=>.inl (sub b z)⟩
 ·by_cases hj:i=j
  ·subst hj
   rw [Wm hi] at f
   cases f
  ·rw [W8 hj] at f
   obtain ⟨b,g1,g2,g3⟩:=k.own j d' f
   exact ⟨b,g1,g2.anti fun b z=>.inl (sub b z),g3⟩
 ·have h1:δ[j]? = some (some (.own d1)):=by
   by_cases hj:i=j
   ·subst hj; rw [Wm hi] at f1; cases f1
   ·rw [W8 hj] at f1; exact f1
  have h2:δ[l]? = some (some (.own d2)):=by
   by_cases hj:i=l
   ·subst hj; rw [Wm hi] at f2; cases f2
   ·rw [W8 hj] at f2; exact f2
  exact k.inj j l b d1 d2 h1 h2
theorem z07 {i:Nat} {e:Expr} (h:PE X e (tVar i)):SE X c e (eVar i):=PE.weak h fun σ H Q ⟨δ,k,p⟩=>by
 unfold eVar at p
 cases e:δ[i]? with
 | none=>rw [e] at p; exact p.elim
 | some o =>
  cases o with
  | none=>rw [e] at p; exact p.elim
  | some r =>
   rw [e] at p
   cases r with
   | pure d =>
    obtain ⟨v,e1,r⟩:=k.slot i d e
    exact ⟨v,e1,p v H (.refl k) r⟩
   | own d =>
    obtain ⟨a,e1,x,r⟩:=k.give e
    exact ⟨.ref a,e1,p _ H x r⟩
theorem z02 {i j pos}:SE X c (.Constant (.int i) j pos) (eD (.int i)):=PE.weak z9E fun σ H Q ⟨δ,k,p⟩=>p _ H (.refl k) (.int i)
theorem z7d {b j pos}:SE X c (.Constant (.bool b) j pos) (eD (.bl b)):=PE.weak pe_bl fun σ H Q ⟨δ,k,p⟩=>p _ H (.refl k) (.bl b)
theorem zba {j pos}:SE X c (.Constant .none j pos) (eD .non):=PE.weak zbD fun σ H Q ⟨δ,k,p⟩=>p _ H (.refl k) .non
theorem z79 {x j pos} (y:Tx) (h:x=toS y:=by decide +kernel):SE X c (.Constant (.str x) j pos) (eD (.str y)):=by
 subst h
 exact PE.weak z9D fun σ H Q ⟨δ,k,p⟩=>p _ H (.refl k) (.str y)
end
open PySem PySem.Spec PyProof.Rows L2 PySem.SeqAt
mutual
def eqD:D→D→Bool
 | .non,.non=>true
 | .bl a,.bl b=>a == b
 | .int a,.int b=>a == b
 | .bl a,.int b=>(if a then 1 else 0) == b
 | .int a,.bl b=>a == (if b then 1 else 0)
 | .str a,.str b=>a == b
 | .tup xs,.tup ys=>eqDs xs ys
 | .lst xs,.lst ys=>eqDs xs ys
 | _,_=>false
def eqDs:List D→List D→Bool
 | [],[]=>true
 | x :: xs,y :: ys=>eqD x y && eqDs xs ys
 | _,_=>false
end
mutual
def flat:Nat→D→Bool
 | _,.non=>true
 | _,.bl _=>true
 | _,.int _=>true
 | _,.str _=>true
 | 0,.tup _=>false
 | n + 1,.tup xs=>z2r n xs
 | 0,.lst _=>false
 | n + 1,.lst xs=>z2r n xs
 | _,.dct _=>false
 | _,.exc _ _=>false
 | _,.xd _=>false
def z2r:Nat→List D→Bool
 | _,[]=>true
 | n,x :: xs=>flat n x && z2r n xs
end
example:eqD (.tup [.int 1,.str [2]]) (.tup [.int 1,.str [2]])=true:=by decide +kernel
theorem z1B:∀ {xs:List D} {x:D},z2r n xs=true→x ∈ xs→flat n x=true
 | [],_,_,h=>by simp at h
 | y :: ys,x,h,hm=>by
  simp only [z2r,Ws] at h
  rcases Wj.mp hm with e | hm
  ·rw [e]; exact h.1
  ·exact z1B h.2 hm
theorem z4L:∀ {xs ys:List D} {f:Nat→Bool},xs.length=ys.length→(∀ (j:Nat) x y,xs[j]? = some x→ys[j]? = some y→f j=eqD x y)→(Wx xs.length).all f=eqDs xs ys
 | [],[],f,_,_=>rfl
 | [],y :: ys,f,h,_=>by simp at h
 | x :: xs,[],f,h,_=>by simp at h
 | x :: xs,y :: ys,f,h,hf=>by
  simp only [eqDs]
  rw [WN,List.range_succ_eq_map,List.all_cons,hf 0 x y rfl rfl,List.all_map]
  rw [← z4L (f:=fun j=>f (j + 1)) (by simpa using h) (fun j a b e1 e2=>hf (j + 1) a b (by simpa using e1) (by simpa using e2))]
  rfl
theorem z4K:∀ {xs ys:List D},xs.length≠ys.length→eqDs xs ys=false
 | [],[],h=>absurd rfl h
 | [],y :: ys,_=>rfl
 | x :: xs,[],_=>rfl
 | x :: xs,y :: ys,h=>by
  simp only [eqDs]
  rw [z4K (xs:=xs) (ys:=ys) (by intro e; exact h (by simp [e]))]
  simp
mutual
theorem z3x:∀ {n:Nat} {d:D},flat n d=true→eqD d d=true
 | _,.non,_=>rfl
 | _,.bl b,_=>by simp [eqD]
 | _,.int i,_=>by simp [eqD]
 | _,.str x,_=>by simp [eqD]
 | 0,.tup xs,h=>by simp [flat] at h
 | n + 1,.tup xs,h=>by simp only [eqD]; exact z3W (n:=n) (by simpa [flat] using h)
 | 0,.lst xs,h=>by simp [flat] at h
 | n + 1,.lst xs,h=>by simp only [eqD]; exact z3W (n:=n) (by simpa [flat] using h)
 | _,.dct xs,h=>by simp [flat] at h
 | _,.exc n _,h=>by simp [flat] at h
 | _,.xd n,h=>by simp [flat] at h
theorem z3W:∀ {n:Nat} {ds:List D},z2r n ds=true→eqDs ds ds=true
 | _,[],_=>rfl
 | n,x :: xs,h=>by
  simp only [z2r,Ws] at h
  simp only [eqDs]
  rw [z3x h.1,z3W h.2]
  rfl
end
abbrev NoO:Addr→Prop:=fun _=>False
theorem Rep.un (h:Rep H O v d):Rep H NoO v d:=Rep.anti h fun _ z=>z.elim
theorem RepB.un (h:RepB c σ δ H v d):Rep H NoO v d:=by
 rcases h with h | ⟨a,rfl,o⟩
 ·exact Rep.un h
 ·exact (o.anti (O':=NoO) fun _ z=>z.elim).rep fun z=>z
section
variable {X:Cx} {pins:List (Addr×Obj)} {σ:St} {H:Hp} {s:W2}
theorem Inv.rdL (I:Inv X pins σ H s) (h:Rd H a (.lst vs)):∃ its:List Value,Vals vs its∧s.heap.IsList a its.toArray:=by
 obtain ⟨its,r,p,_⟩:=I.list (.inl h)
 exact ⟨its,r,p.isList⟩
theorem Inv.rdT (I:Inv X pins σ H s) (h:H a=some (.tup vs)):∃ its:List Value,Vals vs its∧s.heap.IsTuple a its.toArray:=by
 obtain ⟨its,r,p,_⟩:=I.tuple (.of h)
 exact ⟨its,r,p⟩
theorem z6X (x y:Tx):((toS x:Str) == toS y)=(x == y):=by
 rw [Bool.eq_iff_iff]
 simp only [beq_iff_eq]
 exact ⟨z5x,fun e=>by rw [e]⟩
theorem z7Y (A:Wp):A.in1.units=A.units + 1:=rfl
theorem Rd.inj (h:Rd H a u) (k:Rd H a w) (hu:∀ o z,u≠.frz o z) (hw:∀ o z,w≠.frz o z):u=w:=by
 rcases h with h | ⟨o,h⟩ <;> rcases k with k | ⟨o',k⟩
 ·rw [h] at k; exact Wv k
 ·rw [h] at k; exact absurd (Wv k) (hu _ _)
 ·rw [h] at k; exact absurd (Wv k).symm (hw _ _)
 ·rw [h] at k
  have:=Wv k
  injection this
theorem Reps.inj {vs:List V}:∀ {ds es:List D},vs.length=ds.length→vs.length=es.length→(∀ (i:Nat) v d e,vs[i]? = some v→ds[i]? = some d→es[i]? = some e→d=e)→ds=es:=by
 intro ds es h1 h2 h
 apply QP
 intro i
 by_cases hi:i < vs.length
 ·have a1:i < ds.length:=by omega
  have a2:i < es.length:=by omega
  rw [Wk a1,Wk a2]
  rw [h i vs[i] ds[i] es[i] (by simp [hi]) (by simp [a1]) (by simp [a2])]
 ·rw [WB (by omega),WB (by omega)]
theorem Rep.inj {O:Addr→Prop} {v:V} {d:D} (h:Rep H O v d):∀ {n:Nat} {e:D},flat n d=true→flat n e=true→Rep H O v e→d=e:=by
 induction h with
 | non=>intro n e _ _ k; cases k; rfl
 | bl b=>intro n e _ _ k; cases k; rfl
 | int i=>intro n e _ _ k; cases k; rfl
 | str x =>
  intro n e _ _ k
  generalize hz:V.str (toS x)=z at k
  cases k with
  | str y=>injection hz with hz; rw [z5x hz]
  | _=>cases hz
 | @tup a vs ds h1 h2 h3 h4 ih =>
  intro n e fd fe k
  cases n with
  | zero=>simp [flat] at fd
  | succ n =>
   simp only [flat] at fd
   cases k with
   | @tup _ ws es k1 k2 k3 k4 =>
    simp only [flat] at fe
    have e1:=Rd.inj (.inl h2) (.inl k2) (fun _ _ z=>by cases z) (fun _ _ z=>by cases z)
    injection e1 with e1
    subst e1
    rw [Reps.inj h3 k3 fun i v d e q1 q2 q3=>ih i v d q1 q2 (z1B fd (WE q2)) (z1B fe (WE q3)) (k4 i v e q1 q3)]
   | lst k1 k2=>exact absurd (Rd.inj (.inl h2) k2 (fun _ _ z=>by cases z) (fun _ _ z=>by cases z)) (fun z=>by cases z)
   | dct k1 k2=>exact absurd (Rd.inj (.inl h2) (.inl k2) (fun _ _ z=>by cases z) (fun _ _ z=>by cases z)) (fun z=>by cases z)
   | exc k1 k2=>simp [flat] at fe
   | xd k1 k2=>simp [flat] at fe
 | @lst a vs ds h1 h2 h3 h4 ih =>
  intro n e fd fe k
  cases n with
  | zero=>simp [flat] at fd
  | succ n =>
   simp only [flat] at fd
   cases k with
   | @lst _ ws es k1 k2 k3 k4 =>
    simp only [flat] at fe
    have e1:=Rd.inj h2 k2 (fun _ _ z=>by cases z) (fun _ _ z=>by cases z)
    injection e1 with e1
    subst e1
    rw [Reps.inj h3 k3 fun i v d e q1 q2 q3=>ih i v d q1 q2 (z1B fd (WE q2)) (z1B fe (WE q3)) (k4 i v e q1 q3)]
   | tup k1 k2=>exact absurd (Rd.inj h2 (.inl k2) (fun _ _ z=>by cases z) (fun _ _ z=>by cases z)) (fun z=>by cases z)
   | dct k1 k2=>exact absurd (Rd.inj h2 (.inl k2) (fun _ _ z=>by cases z) (fun _ _ z=>by cases z)) (fun z=>by cases z)
   | exc k1 k2=>simp [flat] at fe
   | xd k1 k2=>simp [flat] at fe
 | dct h1 h2 h3 h4 ih =>
  intro n e fd _ _
  cases n <;> simp [flat] at fd
 | exc h1 h2 =>
  intro n e fd _ _
  cases n <;> simp [flat] at fd
 | xd h1 h2 =>
  intro n e fd _ _
  cases n <;> simp [flat] at fd
def EqIt (H:Hp) (s:W2) (n:Nat):Prop:=∀ (A:Wp) (x y:V) (u w:Value) (d e:D),A.units + n + 1 < QO→flat n d=true→flat n e=true→Rep H NoO x d→Rep H NoO y e→RelV x u→RelV y w→EqAt A s u w (eqD d e)
def z9p (H:Hp) (s:W2) (A:Wp) (n:Nat):Prop:=match n with
 | 0=>True
 | m + 1=>A.units + m + 2 < QO∧EqIt H s m
def itE (ds es:List D) (j:Nat):Bool:=match ds[j]?,es[j]? with
 | some p,some q=>eqD p q
 | _,_=>false
theorem z7S (j:Nat) (p q:D) (e1:ds[j]? = some p) (e2:es[j]? = some q):itE ds es j=eqD p q:=by unfold itE; rw [e1,e2]
theorem z6h {n:Nat} {A:Wp} {vs ws:List V} {ds es:List D} {its jts:List Value} (hu:A.units + n + 2 < QO) (ih:EqIt H s n) (r1:Vals vs its) (r2:Vals ws jts) (l1:vs.length=ds.length) (l2:ws.length=es.length)
  (g1:∀ (i:Nat) v d,vs[i]? = some v→ds[i]? = some d→Rep H NoO v d) (g2:∀ (i:Nat) v d,ws[i]? = some v→es[i]? = some d→Rep H NoO v d) (f1:z2r n ds=true) (f2:z2r n es=true) :
  ∀ j (h1:j < its.toArray.size) (h2:j < jts.toArray.size),EqAt A.in1 s its.toArray[j] jts.toArray[j] (itE ds es j):=by
 intro j h1 h2
 have e1:=r1.length
 have e2:=r2.length
 simp at h1 h2
 have hd:j < ds.length:=by omega
 have he:j < es.length:=by omega
 have hv:j < vs.length:=by omega
 have hw:j < ws.length:=by omega
 obtain ⟨u',hu',ru'⟩:=r1.get (i:=j) (x:=vs[j]) (by simp [hv])
 obtain ⟨w',hw',rw''⟩:=r2.get (i:=j) (x:=ws[j]) (by simp [hw])
 have eu:its.toArray[j]=u':=by simpa [h1] using hu'
 have ew:jts.toArray[j]=w':=by simpa [h2] using hw'
 rw [eu,ew,z7S j ds[j] es[j] (by simp [hd]) (by simp [he])]
 exact ih A.in1 vs[j] ws[j] u' w' ds[j] es[j] (by rw [z7Y]; omega) (z1B f1 (Jo hd)) (z1B f2 (Jo he)) (g1 j _ _ (by simp [hv]) (by simp [hd])) (g2 j _ _ (by simp [hw]) (by simp [he])) ru' rw''
theorem zaN (h1:n=ds.length) (h2:m=es.length):((Wx (min n m)).all (itE ds es) && n == m)=eqDs ds es:=by
 subst h1 h2
 by_cases hl:ds.length=es.length
 ·rw [← hl,Nat.min_self,z4L hl z7S]
  simp
 ·rw [z4K hl]
  simp [hl]
theorem rcT (I:Inv X pins σ H s) (n:Nat) (A:Wp) (hu0:A.units < QO) (t1:s.heap.IsTuple a its.toArray) (t2:s.heap.IsTuple b jts.toArray) (r1:Vals vs its) (r2:Vals ws jts) (l1:vs.length=ds.length) (l2:ws.length=es.length)
  (g1:∀ (i:Nat) v d,vs[i]? = some v→ds[i]? = some d→Rep H NoO v d) (g2:∀ (i:Nat) v d,ws[i]? = some v→es[i]? = some d→Rep H NoO v d) (f1:flat n (.tup ds)=true) (f2:flat n (.tup es)=true) (ih:z9p H s A n) :
  RcAt A s (.ref a) (.ref b) (eqDs ds es):=by
 cases n with
 | zero=>simp [flat] at f1
 | succ n =>
  simp only [flat] at f1 f2
  obtain ⟨hu,ih⟩:=ih
  have q:=RcAt.tuples (A:=A) (s:=s) t1 t2 hu0 (z6h hu ih r1 r2 l1 l2 g1 g2 f1 f2)
  rw [zaN (by have:=r1.length; simp; omega) (by have:=r2.length; simp; omega)] at q
  exact q
theorem rcL (I:Inv X pins σ H s) (n:Nat) (A:Wp) (hu0:A.units < QO) (t1:s.heap.IsList a its.toArray) (t2:s.heap.IsList b jts.toArray) (r1:Vals vs its) (r2:Vals ws jts) (l1:vs.length=ds.length) (l2:ws.length=es.length)
  (g1:∀ (i:Nat) v d,vs[i]? = some v→ds[i]? = some d→Rep H NoO v d) (g2:∀ (i:Nat) v d,ws[i]? = some v→es[i]? = some d→Rep H NoO v d) (f1:flat n (.lst ds)=true) (f2:flat n (.lst es)=true) (ih:z9p H s A n) :
  RcAt A s (.ref a) (.ref b) (eqDs ds es):=by
 cases n with
 | zero=>simp [flat] at f1
 | succ n =>
  simp only [flat] at f1 f2
  obtain ⟨hu,ih⟩:=ih
  have z1:its.toArray.size=ds.length:=by have:=r1.length; simp; omega
  have z2:jts.toArray.size=es.length:=by have:=r2.length; simp; omega
  by_cases hl:ds.length=es.length
  ·have q:=RcAt.lists (A:=A) (s:=s) t1 t2 (by rw [z1,z2]; exact hl) hu0 (z6h hu ih r1 r2 l1 l2 g1 g2 f1 f2)
   rw [z1,z4L hl z7S] at q
   exact q
  ·rw [z4K hl]
   exact RcAt.lists_lengths (A:=A) (s:=s) t1 t2 (by rw [z1,z2]; simpa using hl) hu0
theorem rcD (I:Inv X pins σ H s) (n:Nat) (A:Wp) (x y:V) (u w:Value) (d e:D) (hu0:A.units < QO) (fd:flat n d=true) (fe:flat n e=true) (ih:z9p H s A n) (rx:Rep H NoO x d) (ry:Rep H NoO y e) (ru:RelV x u) (rw':RelV y w):RcAt A s u w (eqD d e):=by
 cases rx with
 | non =>
  cases ru
  cases ry with
  | non =>
   cases rw'
   simp only [eqD]; exact RcAt.none_none
  | bl q =>
   cases rw'
   simp only [eqD]; exact RcAt.none_bool _
  | int q =>
   obtain ⟨t2,rfl⟩:=rw'
   simp only [eqD]; exact RcAt.none_int _ _
  | str q =>
   obtain ⟨t2,rfl⟩:=rw'
   simp only [eqD]; exact RcAt.none_str _ _
  | tup k1 k2 k3 k4 =>
   cases rw'; obtain ⟨its2,r2,t2⟩:=Inv.rdT I k2
   simp only [eqD]; exact RcAt.none_tuple t2 hu0
  | lst k1 k2 k3 k4 =>
   cases rw'; obtain ⟨its2,r2,t2⟩:=Inv.rdL I k2
   simp only [eqD]; exact RcAt.none_list t2 hu0
  | dct k1 k2 k3 k4=>(cases n <;> simp [flat] at fe)
  | exc k1 k2=>(cases n <;> simp [flat] at fe)
  | xd k1 k2=>(cases n <;> simp [flat] at fe)
 | bl p =>
  cases ru
  cases ry with
  | non =>
   cases rw'
   simp only [eqD]; exact RcAt.bool_none _
  | bl q =>
   cases rw'
   simp only [eqD]; exact RcAt.bool_bool _ _
  | int q =>
   obtain ⟨t2,rfl⟩:=rw'
   simp only [eqD]; exact RcAt.bool_int _ _ _
  | str q =>
   obtain ⟨t2,rfl⟩:=rw'
   simp only [eqD]; exact RcAt.bool_str _ _ _
  | tup k1 k2 k3 k4 =>
   cases rw'; obtain ⟨its2,r2,t2⟩:=Inv.rdT I k2
   simp only [eqD]; exact RcAt.bool_tuple _ t2 hu0
  | lst k1 k2 k3 k4 =>
   cases rw'; obtain ⟨its2,r2,t2⟩:=Inv.rdL I k2
   simp only [eqD]; exact RcAt.bool_list _ t2 hu0
  | dct k1 k2 k3 k4=>(cases n <;> simp [flat] at fe)
  | exc k1 k2=>(cases n <;> simp [flat] at fe)
  | xd k1 k2=>(cases n <;> simp [flat] at fe)
 | int p =>
  obtain ⟨t1,rfl⟩:=ru
  cases ry with
  | non =>
   cases rw'
   simp only [eqD]; exact RcAt.int_none _ _
  | bl q =>
   cases rw'
   simp only [eqD]; exact RcAt.int_bool _ _ _
  | int q =>
   obtain ⟨t2,rfl⟩:=rw'
   simp only [eqD]; exact RcAt.int_int _ _ _ _
  | str q =>
   obtain ⟨t2,rfl⟩:=rw'
   simp only [eqD]; exact RcAt.int_str _ _ _ _
  | tup k1 k2 k3 k4 =>
   cases rw'; obtain ⟨its2,r2,t2⟩:=Inv.rdT I k2
   simp only [eqD]; exact RcAt.int_tuple _ _ t2 hu0
  | lst k1 k2 k3 k4 =>
   cases rw'; obtain ⟨its2,r2,t2⟩:=Inv.rdL I k2
   simp only [eqD]; exact RcAt.int_list _ _ t2 hu0
  | dct k1 k2 k3 k4=>(cases n <;> simp [flat] at fe)
  | exc k1 k2=>(cases n <;> simp [flat] at fe)
  | xd k1 k2=>(cases n <;> simp [flat] at fe)
 | str p =>
  obtain ⟨t1,rfl⟩:=ru
  cases ry with
  | non =>
   cases rw'
   simp only [eqD]; exact RcAt.str_none _ _
  | bl q =>
   cases rw'
   simp only [eqD]; exact RcAt.str_bool _ _ _
  | int q =>
   obtain ⟨t2,rfl⟩:=rw'
   simp only [eqD]; exact RcAt.str_int _ _ _ _
  | str q =>
   obtain ⟨t2,rfl⟩:=rw'
   simp only [eqD]; rw [← z6X]; exact RcAt.str_str _ _ _ _
  | tup k1 k2 k3 k4 =>
   cases rw'; obtain ⟨its2,r2,t2⟩:=Inv.rdT I k2
   simp only [eqD]; exact RcAt.str_tuple _ _ t2 hu0
  | lst k1 k2 k3 k4 =>
   cases rw'; obtain ⟨its2,r2,t2⟩:=Inv.rdL I k2
   simp only [eqD]; exact RcAt.str_list _ _ t2 hu0
  | dct k1 k2 k3 k4=>(cases n <;> simp [flat] at fe)
  | exc k1 k2=>(cases n <;> simp [flat] at fe)
  | xd k1 k2=>(cases n <;> simp [flat] at fe)
 | tup h1 h2 h3 h4 =>
  cases ru; obtain ⟨its1,r1,t1⟩:=Inv.rdT I h2
  cases ry with
  | non =>
   cases rw'
   simp only [eqD]; exact RcAt.tuple_none t1 hu0
  | bl q =>
   cases rw'
   simp only [eqD]; exact RcAt.tuple_bool _ t1 hu0
  | int q =>
   obtain ⟨t2,rfl⟩:=rw'
   simp only [eqD]; exact RcAt.tuple_int _ _ t1 hu0
  | str q =>
   obtain ⟨t2,rfl⟩:=rw'
   simp only [eqD]; exact RcAt.tuple_str _ _ t1 hu0
  | tup k1 k2 k3 k4 =>
   cases rw'; obtain ⟨its2,r2,t2⟩:=Inv.rdT I k2
   simp only [eqD]; exact rcT I n A hu0 t1 t2 r1 r2 h3 k3 h4 k4 fd fe ih
  | lst k1 k2 k3 k4 =>
   cases rw'; obtain ⟨its2,r2,t2⟩:=Inv.rdL I k2
   simp only [eqD]; exact RcAt.tuple_list t1 t2 hu0
  | dct k1 k2 k3 k4=>(cases n <;> simp [flat] at fe)
  | exc k1 k2=>(cases n <;> simp [flat] at fe)
  | xd k1 k2=>(cases n <;> simp [flat] at fe)
 | lst h1 h2 h3 h4 =>
  cases ru; obtain ⟨its1,r1,t1⟩:=Inv.rdL I h2
  cases ry with
  | non =>
   cases rw'
   simp only [eqD]; exact RcAt.list_none t1 hu0
  | bl q =>
   cases rw'
   simp only [eqD]; exact RcAt.list_bool _ t1 hu0
  | int q =>
   obtain ⟨t2,rfl⟩:=rw'
   simp only [eqD]; exact RcAt.list_int _ _ t1 hu0
  | str q =>
   obtain ⟨t2,rfl⟩:=rw'
   simp only [eqD]; exact RcAt.list_str _ _ t1 hu0
  | tup k1 k2 k3 k4 =>
   cases rw'; obtain ⟨its2,r2,t2⟩:=Inv.rdT I k2
   simp only [eqD]; exact RcAt.list_tuple t1 t2 hu0
  | lst k1 k2 k3 k4 =>
   cases rw'; obtain ⟨its2,r2,t2⟩:=Inv.rdL I k2
   simp only [eqD]; exact rcL I n A hu0 t1 t2 r1 r2 h3 k3 h4 k4 fd fe ih
  | dct k1 k2 k3 k4=>(cases n <;> simp [flat] at fe)
  | exc k1 k2=>(cases n <;> simp [flat] at fe)
  | xd k1 k2=>(cases n <;> simp [flat] at fe)
 | dct h1 h2 h3 h4=>(cases n <;> simp [flat] at fd)
 | exc h1 h2=>(cases n <;> simp [flat] at fd)
 | xd h1 h2=>(cases n <;> simp [flat] at fd)
theorem z81 (h:RcAt A s u w k) (hs:u=w→k=true) (hf:∀ b t,u≠Value.float b t):EqAt A s u w k:=fun prog w' E Q hq=>by
 unfold eqBool
 refine Qb ?_
 refine wpAny_ite_split (fun hab=>?_) (fun _=>?_)
 ·have e:=eq_of_beq hab
  rw [hs e] at hq
  exact W0 (QW (W5 hq))
 ·cases u with
  | float b t=>exact absurd rfl (hf b t)
  | _=>exact W0 (h prog w' E _ (Qp hq))
theorem z7J (r:Rep H NoO x d) (ru:RelV x u) (b:UInt64) (t:Tok):u≠Value.float b t:=by
 intro e
 subst e
 cases r <;> first | (cases ru; done) | (obtain ⟨t',e⟩:=ru; cases e)
theorem eqAtD (I:Inv X pins σ H s) (n:Nat):EqIt H s n:=by
 induction n with
 | zero =>
  intro A x y u w d e hu fd fe rx ry ru rw'
  refine z81 (rcD I 0 A x y u w d e (by omega) fd fe trivial rx ry ru rw') (fun h=>?_) (z7J rx ru)
  subst h
  have:=ru.inj rw'
  subst this
  rw [Rep.inj rx fd fe ry]
  exact z3x fe
 | succ n ih =>
  intro A x y u w d e hu fd fe rx ry ru rw'
  refine z81 (rcD I (n + 1) A x y u w d e (by omega) fd fe ⟨by omega,ih⟩ rx ry ru rw') (fun h=>?_) (z7J rx ru)
  subst h
  have:=ru.inj rw'
  subst this
  rw [Rep.inj rx fd fe ry]
  exact z3x fe
theorem eqPre (I:Inv X pins σ H s):∀ n:Nat,A.units + n + 1 < QO→z9p H s A n
 | 0,_=>trivial
 | n + 1,h=>⟨by omega,eqAtD I n⟩
def rEqD:R2:=fun x y H Q=>∃ d e,Rep H NoO x d∧Rep H NoO y e∧flat 50 d=true∧flat 50 e=true∧Q (.bl (eqD d e)) H
theorem z26 (hu:X.A.units + 64 < QO):OpR X (Q7 .Eq) rEqD:=by
 intro pins s σ H x y v u Q I rx ry h
 obtain ⟨d,e,r1,r2,f1,f2,q⟩:=h
 exact rcD I 50 X.A x y v u d e (by omega) f1 f2 (eqPre I 50 (by omega)) r1 r2 rx ry X.prog X.w X.xe _ ⟨.bl _,H,I,rfl,q⟩
end
def cutL {α:Type} (xs:List α) (lo hi:Option Int):List α:=(xs.drop (HT.sIx xs.length 0 lo)).take (HT.sIx xs.length xs.length hi - HT.sIx xs.length 0 lo)
theorem z9P (xs:List V) (lo hi:Option Int):cutL xs lo hi=cutV xs lo hi:=rfl
theorem z9e (xs:List α) (lo hi:Option Int):(cutL xs lo hi).length≤xs.length:=by
 unfold cutL
 rw [Jm,List.length_drop]
 omega
theorem Reps.cut (lo hi:Option Int) (h:Reps H O vs ds):Reps H O (cutL vs lo hi) (cutL ds lo hi):=by
 unfold cutL
 rw [h.1]
 exact Reps.take _ (Reps.drop _ h)
theorem z87 {α:Type} {xs:List α} {lo hi:Option Int} (h:HT.sIx xs.length 0 lo=0∧HT.sIx xs.length xs.length hi=xs.length):cutL xs lo hi=xs:=by
 unfold cutL
 rw [h.1,h.2]
 simp
section
variable {prog:Wh} {w:Wo} {A:Wp} {E:Value→W2→Prop} {s:W2}
theorem z2A {t sl:Addr} {items:Array Value} {vl vu:Value} {lo hi:Option Int} {Q:Value→W2→Prop} (ht:IsTup s.heap t items) (hs:s.heap.IsSliceOf sl vl vu .none) (pl:IsPart vl lo) (pu:IsPart vu hi)
  (hw:HT.sIx items.size 0 lo=0∧HT.sIx items.size items.size hi=items.size) (h:Q (.ref t) s):Wa (model prog w) A (getItem (.ref t) (.ref sl)) Q E s:=by
 obtain ⟨os,hos,hcs,hds⟩:=id hs
 have hTs:s.TypeIs (.ref sl) "slice":=⟨os,hos,hcs⟩
 unfold getItem
 try with_reducible refine Qb ?_
 first | refine W0 (W5 ?_) | skip
 refine W0 (wpAny_sequenceKey ht.typeIs (by decide) ?_)
 refine W0 (WH (name:=Str.ofString "__getitem__") ht.typeIs Qi
  (WZ Qi ht.typeIs entry_tuple_getitem ?_ (args_tuple_getitem _ _)))
 show Wa _ _ (Builtin.Tuple.tupleItemsOf (.ref t) >>= _) _ _ s
 refine W0 (tupleItemsOf_ ht ?_)
 refine W0 (wpAny_typeOf hTs ?_)
 rw [if_pos (by decide)]
 refine W0 (HT.sliceApplied_gen hs pl pu ?_)
 show Wa _ _ (if (((HT.sIx items.size 0 lo:Nat):Int) == 0 && (1:Int) == 1 && (HT.sIx items.size items.size hi - HT.sIx items.size 0 lo) == items.size)=true then _ else _) _ _ s
 rw [hw.1,hw.2]
 rw [if_pos (by simp)]
 refine W0 (m:=Builtin.Tuple.tupleIsExact (.ref t)) ?_
 unfold Builtin.Tuple.tupleIsExact
 refine W0 (wpAny_typeOf ht.typeIs (W5 ?_))
 rw [if_pos (by decide)]
 exact W0 (QW (W0 (W5 (W5 ⟨_,rfl,W5 h⟩))))
end
section
variable {X:Cx}
def zbi (K:W1):V→Option Int→Option Int→Hp→VK→Prop:=fun x lo hi H Q=>∃ a xs,x = .ref a∧SqT K H a xs ∧
 ((HT.sIx xs.length 0 lo=0∧HT.sIx xs.length xs.length hi=xs.length)→Q (.ref a) H)∧(¬ (HT.sIx xs.length 0 lo=0∧HT.sIx xs.length xs.length hi=xs.length)→∀ p,H p=none→Q (.ref p) (upd H p (.tup (cutV xs lo hi))))
theorem sl_tup2:SlR X (zbi X.K):=by
 intro pins s σ H x v vl vu lo hi sl Q I rx hs pl pu h
 obtain ⟨a,xs,rfl,hx,q1,q2⟩:=h
 by_cases hw:HT.sIx xs.length 0 lo=0∧HT.sIx xs.length xs.length hi=xs.length
 ·cases rx
  obtain ⟨its,r,ht,hz⟩:=I.tuple hx
  have hlen:its.toArray.size=xs.length:=by rw [Wi]; exact r.length.symm
  refine ⟨"tuple",_,PyProof.Rows.slot_tuple_getitem.lookup,ht.typeIs,?_⟩
  exact z2A ht hs pl pu (by rw [hlen]; exact hw) ⟨.ref a,H,I,rfl,q1 hw⟩
 ·exact zb5 pins s σ H (.ref a) v vl vu lo hi sl Q I rx hs pl pu ⟨a,xs,rfl,hx,hw,q2 hw⟩
theorem z7j (a b:Nat):sliceRange (a:Int) (b:Int) 1=(Wx (b - a)).map (fun k=>a + k):=by
 have h0:((1:Int) > 0)=True:=by simp
 unfold sliceRange
 simp only [h0,if_true]
 by_cases hlt:(a:Int) < (b:Int)
 ·rw [if_pos hlt]
  have e3:(((b:Int) - (a:Int) + 1 - 1) / 1).toNat=b - a:=by
   rw [Int.ediv_one]; omega
  rw [e3]
  refine Q5 fun k _=>?_
  omega
 ·rw [if_neg hlt]
  have:b - a=0:=by omega
  rw [this]
  rfl
theorem z4c (lo hi:Option Int) (n:Nat):Q9 lo hi 1 n=(Wx (HT.sIx n n hi - HT.sIx n 0 lo)).map (fun k=>HT.sIx n 0 lo + k):=by
 have c:∀ (i:Int) (d:Nat),max 0 (min (if i < 0 then i + (n:Int) else i) (n:Int))=((HT.sIx n d (some i):Nat):Int):=by
  intro i d
  show max 0 (min (if i < 0 then i + (n:Int) else i) (n:Int))=(((if i < 0 then (i + (n:Int)).toNat else min i.toNat n):Nat):Int)
  by_cases hi:i < 0
  ·simp only [if_pos hi]; omega
  ·simp only [if_neg hi]; omega
 have h0:((1:Int) > 0)=True:=by simp
 rw [← z7j]
 unfold Q9
 simp only [h0,if_true]
 cases lo with
 | none =>
  cases hi with
  | none=>rfl
  | some j=>show sliceRange 0 (max 0 (min (if j < 0 then j + (n:Int) else j) (n:Int))) 1=_; rw [c j n]; rfl
 | some i =>
  cases hi with
  | none=>show sliceRange (max 0 (min (if i < 0 then i + (n:Int) else i) (n:Int))) (n:Int) 1=_; rw [c i 0]; rfl
  | some j=>show sliceRange (max 0 (min (if i < 0 then i + (n:Int) else i) (n:Int))) (max 0 (min (if j < 0 then j + (n:Int) else j) (n:Int))) 1=_; rw [c i 0,c j n]
theorem z9Z (x:Tx) (lo hi:Option Int):(⟨((Q9 lo hi 1 (toS x).length).filterMap ((toS x).cps[·]?)).toArray⟩:Str)=toS (cutL x lo hi):=by
 unfold toS
 congr 1
 rw [z4c]
 have:=pick_run (x.toArray) (HT.sIx x.length 0 lo) (HT.sIx x.length x.length hi - HT.sIx x.length 0 lo)
 have hl:({ cps:=x.toArray }:Str).length=x.length:=by simp [Str.length]
 rw [hl]
 rw [this]
 rfl
def rSlS:V→Option Int→Option Int→Hp→VK→Prop:=fun x lo hi H Q=>∃ z:Tx,x = .str (toS z)∧z.length≤W9∧Q (.str (toS (cutL z lo hi))) H
theorem z7y (p:IsPart v o):∃ q:Option (Int×Tok),v=partValue q∧q.map (·.1)=o:=by
 cases p with
 | none=>exact ⟨none,rfl,rfl⟩
 | int i t=>exact ⟨some (i,t),rfl,rfl⟩
theorem sl_str:SlR X rSlS:=by
 intro pins s σ H x v vl vu lo hi sl Q I rx hs pl pu h
 obtain ⟨z,rfl,hz,q⟩:=h
 obtain ⟨t,rfl⟩:=rx
 obtain ⟨l,rfl,el⟩:=z7y pl
 obtain ⟨u,rfl,eu⟩:=z7y pu
 obtain ⟨o,ho,hc,hd⟩:=hs
 refine ⟨"str",_,F.slot_str_getitem.lookup,typeIs_str s _ t,?_⟩
 refine wpAny_getItem_str_slice (l:=l) (u:=u) (st:=none) ⟨o,ho,hc,hd⟩ rfl ?_
 unfold sliceMade
 have e:(slicePicked (toS z) l u none)=Q9 lo hi 1 (toS z).length:=by
  unfold slicePicked
  rw [el,eu]
  rfl
 rw [e]
 by_cases hw:(((none:Option (Int×Tok)).map (·.1)).getD 1 == 1 && (Q9 lo hi 1 (toS z).length).length == (toS z).length)=true
 ·rw [if_pos hw]
  refine ⟨.str (toS (cutL z lo hi)),H,I,⟨t,?_⟩,q⟩
  congr 1
  rw [Ws] at hw
  have hw2:=eq_of_beq hw.2
  rw [z4c,WM,List.length_range,z1v] at hw2
  have h1:=HT.sIx_le z.length 0 (QB _) lo
  have h2:=HT.sIx_le z.length z.length (Wf _) hi
  unfold cutL
  congr 1
  by_cases h0:z.length=0
  ·have:z=[]:=List.eq_nil_of_length_eq_zero h0
   subst this
   simp
  ·have a1:HT.sIx z.length 0 lo=0:=by omega
   rw [a1] at hw2 ⊢
   rw [hw2]
   simp
 ·rw [if_neg hw]
  show Made.post (.str _) _ _
  rw [z9Z]
  exact ⟨by rw [z1v]; exact WD (z9e z lo hi) hz,.str (toS (cutL z lo hi)),H,I.tok _,⟨_,rfl⟩,q⟩
theorem op_catT0:OpR X (WY .Add) (fun x y H Q=>∃ a b ys,x = .ref a∧y = .ref b∧SqT X.K H a []∧SqT X.K H b ys∧Q (.ref b) H):=by
 intro pins s σ H x y v u Q I rx ry h
 obtain ⟨a,b,ys,rfl,rfl,ha,hb,q⟩:=h
 cases rx
 cases ry
 obtain ⟨its,r1,p1,_⟩:=I.tuple ha
 obtain ⟨its2,r2,p2,_⟩:=I.tuple hb
 cases r1
 obtain ⟨⟨cls,dd,data,sl⟩,ho,hc,n,hd⟩:=id p1
 obtain ⟨⟨cls2,dd2,data2,sl2⟩,ho2,hc2,n2,hd2⟩:=id p2
 simp only at hc hd hc2 hd2
 subst hc hd hc2 hd2
 exact concat_meets ⟨_,ho,rfl⟩ ⟨_,ho2,rfl⟩ noFill_tuple_add seq_tuple_add PySem.F.slot_tuple_add PySem.F.entry_tuple_add (PySem.F.args_tuple_add_2 _ _)
   (tuple_addW0 a b #[] its2.toArray n n2 dd dd2 sl sl2 rfl) ⟨ho,ho2,.ref b,H,I,rfl,q⟩
def zbq (K:W1):R2:=fun x y H Q=>∃ l b xs zs,x = .ref l∧y = .ref b∧SqL K H l xs∧SqL K H b zs∧xs.length + zs.length≤W9∧∀ p,H p=none→Q (.ref p) (upd H p (.lst (xs ++ zs)))
theorem zas:OpR X (WY .Add) (zbq X.K):=by
 intro pins s σ H x y v u Q I rx ry h
 obtain ⟨l,b,xs,zs,rfl,rfl,hH,hB,hz,q⟩:=h
 cases rx
 cases ry
 obtain ⟨its,r,⟨⟨cls,dd,data,sl⟩,n,e,hc,hdd,hd⟩,z⟩:=I.list hH
 obtain ⟨its2,r2,⟨⟨cls2,dd2,data2,sl2⟩,n2,e2,hc2,hdd2,hd2⟩,z2⟩:=I.list hB
 simp only at hc hd hdd hc2 hd2 hdd2
 subst hc hd hdd hc2 hd2 hdd2
 have hl:=r.length
 have hl2:=r2.length
 refine concat_meets ⟨_,e,rfl⟩ ⟨_,e2,rfl⟩ noFill_list_add seq_list_add PySem.F.slot_list_add PySem.F.entry_list_add (PySem.F.args_list_add_2 _ _)
   (list_addW l b its.toArray its2.toArray n n2 none none sl sl2 (by rw [Wi,Wi]; omega)) ⟨e,e2,?_⟩
 have ea:its.toArray ++ its2.toArray=(its ++ its2).toArray:=by simp
 rw [ea]
 exact ⟨.ref _,_,I.lnew (t':=s.toks) (r.append r2) (by rw [Q8]; omega),rfl,q _ I.fresh⟩
theorem z2l:∀ {ys:List Str} {us:List Value},Vals (ys.map V.str) us→StrsAre us ys
 | [],us,r=>by cases r; exact .nil
 | y :: ys,us,r=>by
  cases r with
  | cons r1 r2 =>
   obtain ⟨t,rfl⟩:=r1
   exact .cons y t (z2l r2)
theorem vals_strs:∀ {ys:List Str} {us:List Value},StrsAre us ys→Vals (ys.map V.str) us
 | _,_,.nil=>.nil
 | _,_,.cons y t h=>.cons ⟨t,rfl⟩ (vals_strs h)
def z8J (K:W1):V→List V→Hp→VK→Prop:=fun x vs H Q=>∃ (z:Str) (a:Addr) (ys:List Str),x = .str z∧vs=[.ref a]∧(SqL K H a (ys.map V.str)∨SqT K H a (ys.map V.str)) ∧
 (ys.map (·.length)).sum + ys.length * z.length≤16777216∧Q (.str (Txt.join z ys)) H
theorem zax:MtR X "str.join" (z8J X.K):=by
 intro pins s σ H x vs v us Q I rx rv h
 obtain ⟨z,a,ys,rfl,rfl,hq,hz,q⟩:=h
 obtain ⟨t,rfl⟩:=rx
 obtain ⟨u,rfl,ru⟩:=rv.one
 cases ru
 rcases hq with hq | hq
 ·obtain ⟨its,r,p,_⟩:=I.list hq
  exact join_list p.isList (by simpa using z2l r) hz fun t' k=>⟨.str _,H,I.tok _,⟨t',rfl⟩,q⟩
 ·obtain ⟨its,r,p,_⟩:=I.tuple hq
  exact join_tuple p (by simpa using z2l r) hz fun t' k=>⟨.str _,H,I.tok _,⟨t',rfl⟩,q⟩
theorem z5n:∀ {bs:List Bool} {us:List Value},Vals (bs.map V.bl) us→∀ (i:Nat) v,us[i]? = some v→∃ b,bs[i]? = some b∧v = .bool b
 | [],us,r,i,v,e=>by cases r; simp at e
 | b :: bs,us,r,i,v,e=>by
  cases r with
  | cons r1 r2 =>
   cases i with
   | zero =>
    simp at e
    subst e
    exact ⟨b,rfl,r1⟩
   | succ i=>exact z5n r2 i v (by simpa using e)
theorem z4h:∀ bs:List Bool,((Wx bs.length).all fun i=>(bs[i]?).getD true)=bs.all id
 | []=>rfl
 | b :: bs=>by
  rw [WN,List.range_succ_eq_map,List.all_cons,List.all_map]
  have:=z4h bs
  simp only [List.getElem?_cons_zero,Option.getD_some,List.all_cons,id]
  rw [← this]
  rfl
theorem z9m (hc:X.calm=true):CallR X (.builtin "all") (fun xs H Q=>∃ (a:Addr) (bs:List Bool),xs=[.ref a]∧SqL X.K H a (bs.map V.bl)∧Q (.bl (bs.all (fun b=>b))) H):=by
 intro pins s σ H xs us Q I r h
 obtain ⟨a,bs,rfl,hq,q⟩:=h
 obtain ⟨u,rfl,ru⟩:=z41 r
 cases ru
 obtain ⟨its,r',p,_⟩:=I.list hq
 have hl:=p.isList
 have hlt:a < s.heap.objs.size:=by obtain ⟨_,e,_⟩:=hl; exact We e
 have hlen:=r'.length
 rw [WM] at hlen
 refine call_all_walk (wpAny_pyIter_list hl ?_)
 refine ⟨s.heap.objs.size,[s.heap.objs.size,a],[s.heap.objs.size],its.toArray.size,_,_,fun i=>(bs[i]?).getD true,rfl,Walks.list (A:=X.A.in1) (I.ok.hd hc) _ a (Wl hlt) its.toArray,
  ⟨⟨_,Wn _ rfl,rfl,rfl⟩,hl.push _⟩,fun i v s' Q' E' hP hQ=>?_,fun h' tk hk=>?_⟩
 ·obtain ⟨b,e,rfl⟩:=z5n r' i v (by simpa using hP)
  simp only [e,Option.getD_some] at hQ
  exact Qp hQ
 ·have e:((Wx its.toArray.size).all fun i=>(bs[i]?).getD true)=bs.all id:=by
   rw [Wi,← hlen]; exact z4h bs
  rw [e]
  exact ⟨.bl _,H,I.kept fun b o e=>hk b o (fun hm=>by rw [Je.mp hm] at e; exact Q1 _ (We e)) (Wd _ e),rfl,q⟩
def insT (x:Tx):List Tx→List Tx
 | []=>[x]
 | y :: r=>if y < x then y :: insT x r else x :: y :: r
def z2X:List Tx→List Tx
 | []=>[]
 | x :: r=>insT x (z2X r)
theorem z3T (x:Tx):∀ l:List Tx,(insT x l).Perm (x :: l)
 | []=>.refl _
 | y :: r=>by
  unfold insT
  split
  ·exact ((z3T x r).cons y).trans (.swap x y r)
  ·exact .refl _
theorem z2W:∀ l:List Tx,(z2X l).Perm l
 | []=>.refl _
 | x :: r=>(z3T x _).trans ((z2W r).cons x)
abbrev leT (a b:Tx):Prop:=¬ b < a
theorem z5a (h1:leT a b) (h2:leT b c):leT a c:=List.not_lt.mpr (List.le_trans (List.not_lt.mp h1) (List.not_lt.mp h2))
theorem z91 (h1:leT a b) (h2:leT b a):a=b:=List.le_antisymm (List.not_lt.mp h1) (List.not_lt.mp h2)
theorem z3S (x:Tx):∀ l:List Tx,l.Pairwise leT→(insT x l).Pairwise leT
 | [],_=>by simp [insT]
 | y :: r,h=>by
  unfold insT
  obtain ⟨h1,h2⟩:=List.pairwise_cons.mp h
  split
  ·rename_i hlt
   refine Jf.mpr ⟨fun z hz=>?_,z3S x r h2⟩
   rcases Wj.mp ((z3T x r).mem_iff.mp hz) with e | hz
   ·subst e
    intro q
    exact absurd (List.lt_trans hlt q) (List.lt_irrefl _)
   ·exact h1 z hz
  ·rename_i hge
   refine Jf.mpr ⟨fun z hz=>?_,h⟩
   rcases Wj.mp hz with e | hz
   ·subst e; exact hge
   ·exact z5a hge (h1 z hz)
theorem z3e:∀ l:List Tx,(z2X l).Pairwise leT
 | []=>.nil
 | x :: r=>z3S x _ (z3e r)
theorem z8B (hp:l'.Perm l) (hs:l'.Pairwise leT):l'=z2X l :=
 List.Perm.eq_of_pairwise (fun _ _ _ _ h1 h2=>z91 h1 h2) hs (z3e l) (hp.trans (z2W l).symm)
theorem z4X:∀ (x:Str) (r:List Str),risingS x r=true→((x :: r).map fun z:Str=>z.cps.toList).Pairwise leT
 | x,[],_=>by simp
 | x,y :: r,h=>by
  have h':(!ltCps y.cps.toList x.cps.toList && risingS y r)=true:=h
  rw [Ws] at h'
  have ih:=z4X y r h'.2
  have hxy:leT x.cps.toList y.cps.toList:=by
   have:=h'.1
   rw [ltCps_eq] at this
   simpa using this
  rw [Wr]
  refine Jf.mpr ⟨fun z hz=>?_,ih⟩
  rw [Wr] at hz ih
  rcases Wj.mp hz with e | hz
  ·subst e; exact hxy
  ·exact z5a hxy ((List.pairwise_cons.mp ih).1 z hz)
theorem z5k:CallR X (.builtin "sorted") (fun xs H Q=>∃ (a:Addr) (ts:List Tx),xs=[.ref a]∧SqL X.K H a (ts.map fun z=>V.str (toS z))∧ts.length < 64∧∀ p,H p=none→Q (.ref p) (upd H p (.lst ((z2X ts).map fun z=>V.str (toS z))))):=by
 intro pins s σ H xs us Q I r h
 obtain ⟨a,ts,rfl,hq,hz,q⟩:=h
 obtain ⟨u,rfl,ru⟩:=z41 r
 cases ru
 obtain ⟨its,r',p,_⟩:=I.list hq
 have r2:Vals ((ts.map toS).map V.str) its:=by rw [Q2]; exact r'
 have hlen:=r'.length
 rw [WM] at hlen
 refine sorted_strs p.isList (z2l r2) (by omega) fun out ss hS hp hs=>?_
 have e:ss=(z2X ts).map toS:=by
  have hpw:(ss.map fun z:Str=>z.cps.toList).Pairwise leT:=by
   cases ss with
   | nil=>simp
   | cons x r=>exact z4X x r hs
  have hpp:(ss.map fun z:Str=>z.cps.toList).Perm ts:=by
   have:=hp.map fun z:Str=>z.cps.toList
   rw [Q2] at this
   have e2:ts.map ((fun z:Str=>z.cps.toList) ∘ toS)=ts:=by
    rw [show ((fun z:Str=>z.cps.toList) ∘ toS)=id from funext fun z=>z4r z,List.map_id]
   rw [e2] at this
   exact this
  rw [← z8B hpp hpw,Q2]
  have:(toS ∘ fun z:Str=>z.cps.toList)=id:=funext fun z=>(z9r z).symm
  rw [this,List.map_id]
 obtain ⟨ep,he⟩:=sortedAll_at s.heap its out
 have hv:Vals ((z2X ts).map fun z=>V.str (toS z)) out.toList:=by
  have:=vals_strs hS
  rw [e,Q2] at this
  exact this
 have hl2:((z2X ts).map fun z=>V.str (toS z)).length≤W9:=by
  rw [WM,(z2W ts).length_eq]
  exact WD (QQ hz) (by rw [QZ]; decide)
 refine ⟨.ref (s.heap.objs.size + 1),_,I.laid (a:=s.heap.objs.size + 1) (o:=.lst ((z2X ts).map fun z=>V.str (toS z))) (t':=s.toks) (fun b u e=>sortedAll_old e) (Nat.le_succ _) ?_,rfl,q _ (I.hok.fresh (Nat.le_succ _))⟩
 exact ⟨hl2,out.toList,ep,hv,by simpa [seqObj] using he⟩
end
def p2 (p:D→D→Option S) (x y:D) (δ:Dl):Rs S:=match p x y with
 | some s=>.ok s δ
 | none=>.stuck
def eOp (p:D→D→Option S) (fa:DE) (fb:BE):DE:=fun δ=>(fa δ).bind fun x δ1=>(fb δ1).bind fun y δ2=>p2 p x.d y δ2
def eOpN (p:D→D→Option S) (i:Nat) (fb:BE):DE:=fun δ=>(fb δ).bind fun y δ1=>(bVar i δ1).bind fun x δ2=>p2 p x y δ2
def Op2 (r:R2) (p:D→D→Option S):Prop:=∀ (c:Fc) (σ:St) (δ:Dl) (H:Hp) (x y:V) (d e:D) (s:S) (Q:VK),Ok c σ δ H→RepB c σ δ H x d→RepB c σ δ H y e→p d e=some s →
 (∀ v H',Aft c σ δ H σ δ H'→RepS c σ δ H H' v s→Q v H')→r x y H Q
section
variable {X:Cx} {c:Fc} {a b:Expr} {fa:DE} {fb:BE} {r:R2} {p:D→D→Option S} {pos:Pos}
theorem z5H (hp:Op2 r p) (k:Ok c σ δ H) (rx:RepB c σ δ H x d) (ry:RepB c σ δ H y e)
  (h:post c (p2 p d e δ) fun s δ'=>∀ v H',Aft c σ δ H σ δ' H'→RepS c σ δ' H H' v s→Q v H'):r x y H Q:=by
 unfold p2 at h
 cases e1:p d e with
 | none=>rw [e1] at h; exact h.elim
 | some s=>rw [e1] at h; exact hp c σ δ H x y d e s Q k rx ry e1 h
theorem z5I (hp:Op2 r p) (h:tD c (eOp p fa fb) σ H Q):tOp r (tD c fa) (tB c fb) σ H Q:=by
 obtain ⟨δ,k,q⟩:=h
 refine ⟨δ,k,?_⟩
 unfold eOp at q
 rw [z01] at q
 refine z00 q fun x δ1 q1 v H1 a1 r1=>⟨δ1,a1.ok,?_⟩
 rw [z01] at q1
 refine z00 q1 fun y δ2 q2 u H2 a2 r2=>?_
 exact z5H hp a2.ok (.inl (Rep.aft r1.rep a2)) r2 (z00 q2 fun s δ3 q3 v' H3 a3 r3=>q3 v' H3 (a1.trans (a2.trans a3)) (RepS.back r3 (a1.trans a2)))
theorem z8T (hp:Op2 r p) (h:tD c (eOpN p i fb) σ H Q) (hv:∀ δ,Ok c σ δ H→post c (fb δ) (fun _ _=>True)→∃ v,σ[i]? = some (some v)):tOp r (tVar i) (tB c fb) σ H Q:=by
 obtain ⟨δ,k,q⟩:=h
 unfold eOpN at q
 rw [z01] at q
 obtain ⟨v,ev⟩:=hv δ k (z00 q fun _ _ _=>trivial)
 refine ⟨v,ev,δ,k,z00 q fun y δ1 q1 u H1 a1 r1=>?_⟩
 rw [z01] at q1
 unfold bVar at q1
 cases e:δ1[i]? with
 | none=>rw [e] at q1; exact q1.elim
 | some o =>
  cases o with
  | none=>rw [e] at q1; exact q1.elim
  | some w =>
   rw [e] at q1
   have q1':post c (p2 p w.d y δ1) fun s δ'=>∀ v H',Aft c σ δ H σ δ' H'→RepS c σ δ' H H' v s→Q v H':=q1
   have rb:RepB c σ δ1 H1 v w.d:=by
    cases w with
    | pure d =>
     obtain ⟨v',e1,r⟩:=a1.ok.slot i d e
     rw [ev] at e1; cases e1
     exact .inl r
    | own d =>
     obtain ⟨a,e1,r,_⟩:=a1.ok.own i d e
     rw [ev] at e1; cases e1
     exact .inr ⟨a,rfl,r⟩
   exact z5H hp a1.ok rb r1 (z00 q1' fun s δ3 q3 v' H3 a3 r3=>q3 v' H3 (a1.trans a3) (RepS.back r3 a1))
theorem z2m {i:Nat} {σ:St} {δ:Dl} {H:Hp} (k:Ok c σ δ H) {w:S} (e:δ[i]? = some (some w)):∃ v,σ[i]? = some (some v):=by
 cases w with
 | pure d=>obtain ⟨v,e1,_⟩:=k.slot i d e; exact ⟨v,e1⟩
 | own d=>obtain ⟨a,e1,_⟩:=k.own i d e; exact ⟨_,e1⟩
end
def eOpF (p:D→D→Option S) (i:Nat) (fb:BE):DE:=fun δ=>match δ[i]? with
 | some (some _)=>eOpN p i fb δ
 | _=>.stuck
section
variable {X:Cx} {c:Fc} {a b:Expr} {fa:DE} {fb:BE} {r:R2} {p:D→D→Option S} {pos:Pos}
theorem z3v (hp:Op2 r p) {i:Nat} {σ:St} {H:Hp} {Q:VK} (h:tD c (eOpF p i fb) σ H Q):tOp r (tVar i) (tB c fb) σ H Q:=by
 obtain ⟨δ,k,q⟩:=h
 unfold eOpF at q
 cases e:δ[i]? with
 | none=>rw [e] at q; exact q.elim
 | some o =>
  cases o with
  | none=>rw [e] at q; exact q.elim
  | some w =>
   rw [e] at q
   obtain ⟨v,ev⟩:=z2m k e
   exact z8T hp (i:=i) ⟨δ,k,q⟩ fun _ _ _=>⟨v,ev⟩
theorem z1j {op:Operator} (ho:OpR X (WY op) r) (hp:Op2 r p) (ha:SE X c a fa) (hb:SB X c b fb):SE X c (.BinOp a op b pos) (eOp p fa fb):=PE.weak (zal ho ha hb) fun _ _ _ h=>z5I hp h
theorem z25 {op:Operator} {i:Nat} (ho:OpR X (WY op) r) (hp:Op2 r p) (ha:PE X a (tVar i)) (hb:SB X c b fb):SE X c (.BinOp a op b pos) (eOpF p i fb):=PE.weak (zal ho ha hb) fun _ _ _ h=>z3v hp h
theorem z5B {op:CmpOp} {i:Nat} (ho:OpR X (Q7 op) r) (hp:Op2 r p) (ha:PE X a (tVar i)) (hb:SB X c b fb) (hm:Qa op b=false):SE X c (.Compare a [op] [b] pos) (eOpF p i fb):=PE.weak (zan ho ha hb hm) fun _ _ _ h=>z3v hp h
theorem se_ix (hr:IxR X r) (hp:Op2 r p) (ha:SE X c a fa) (hb:SB X c b fb) (hs:z3c b):SE X c (.Subscript a b pos) (eOp p fa fb):=PE.weak (z7w hr ha hb hs) fun _ _ _ h=>z5I hp h
theorem z0P {i:Nat} (hr:IxR X r) (hp:Op2 r p) (ha:PE X a (tVar i)) (hb:SB X c b fb) (hs:z3c b):SE X c (.Subscript a b pos) (eOpF p i fb):=PE.weak (z7w hr ha hb hs) fun _ _ _ h=>z3v hp h
end
abbrev DT:=Dl→Rs Bool
def tT (c:Fc) (f:DT):TT:=fun σ H Q=>∃ δ,Ok c σ δ H∧post c (f δ) fun b δ'=>∀ H',Aft c σ δ H σ δ' H'→Q b H'
abbrev ST (X:Cx) (c:Fc) (e:Expr) (f:DT):Prop:=PT X e (tT c f)
theorem PT.weak (h:PT X e t) (w:∀ σ H Q,t' σ H Q→t σ H Q):PT X e t':=fun pins s σ H Q I q=>h pins s σ H Q I (w σ H Q q)
def dTr (f:DE):DT:=fun δ=>(f δ).bind fun r δ'=>match r with
 | .pure (.bl b)=>.ok b δ'
 | _=>.stuck
section
variable {X:Cx} {c:Fc} {a b:Expr} {fa f:DE} {fb:BE} {r:R2} {p:D→D→Option S} {pos:Pos}
theorem z5w (h:tT c (dTr f) σ H Q):tD c f σ H fun x H'=>∃ k,x = .bl k∧Q k H':=by
 obtain ⟨δ,k,q⟩:=h
 refine ⟨δ,k,?_⟩
 unfold dTr at q
 rw [z01] at q
 refine z00 q fun r δ1 q1 v H1 a1 r1=>?_
 cases r with
 | own d=>exact q1.elim
 | pure d =>
  cases d <;> first | exact q1.elim | skip
  rename_i b
  cases r1
  exact ⟨b,rfl,q1 H1 a1⟩
theorem z3d {op:CmpOp} (ho:OpR X (Q7 op) r) (hp:Op2 r p) (ha:SE X c a fa) (hb:SB X c b fb) (hm:Qa op b=false):ST X c (.Compare a [op] [b] pos) (dTr (eOp p fa fb)) :=
 PT.weak (z7o ho ha hb hm) fun σ H Q h=>z5I hp (z5w h)
theorem z2u {op:CmpOp} {i:Nat} (ho:OpR X (Q7 op) r) (hp:Op2 r p) (ha:PE X a (tVar i)) (hb:SB X c b fb) (hm:Qa op b=false):ST X c (.Compare a [op] [b] pos) (dTr (eOpF p i fb)) :=
 PT.weak (z7o ho ha hb hm) fun σ H Q h=>z3v hp (z5w h)
theorem z60 {e:Expr} (h:SE X c e f) (he:∀ whole,isTrue e X.env whole=(do let v ← whole; standAt e.pos; holding [v] (truthy v)):=by intro _; rfl):ST X c e (dTr f) :=
 PT.weak (zbv h he) fun σ H Q h=>z5w h
def dAnd (t u:DT):DT:=fun δ=>(t δ).bind fun b δ1=>if b then u δ1 else .ok false δ1
def dOr (t u:DT):DT:=fun δ=>(t δ).bind fun b δ1=>if b then .ok true δ1 else u δ1
def dNot (t:DT):DT:=fun δ=>(t δ).bind fun b δ1=>.ok (!b) δ1
abbrev SW (X:Cx) (c:Fc) (e:Expr) (f:DT):Prop:=PW X e (tT c f)
theorem PW.weak (h:PW X e t) (w:∀ σ H Q,t' σ H Q→t σ H Q):PW X e t':=fun wh pins s σ H Q I q=>h wh pins s σ H Q I (w σ H Q q)
variable {t u:DT} {rest:List Expr}
theorem z6Y (ha:ST X c a t):SW X c (.BoolOp .And [a] pos) t:=zad ha
theorem zb2 (ha:ST X c a t):SW X c (.BoolOp .Or [a] pos) t:=zbt ha
theorem z9t (ha:ST X c a t) (hb:SW X c (.BoolOp .And (b :: rest) pos) u):SW X c (.BoolOp .And (a :: b :: rest) pos) (dAnd t u):=PW.weak (zbu ha hb) fun σ H Q ⟨δ,k,q⟩=>by
 unfold dAnd at q
 rw [z01] at q
 refine ⟨δ,k,z00 q fun x δ1 q1 H1 a1=>?_⟩
 cases x with
 | true=>exact ⟨δ1,a1.ok,z00 q1 fun y δ2 q2 H2 a2=>q2 H2 (a1.trans a2)⟩
 | false=>exact q1 H1 a1
theorem sw_or (ha:ST X c a t) (hb:SW X c (.BoolOp .Or (b :: rest) pos) u):SW X c (.BoolOp .Or (a :: b :: rest) pos) (dOr t u):=PW.weak (pw_or ha hb) fun σ H Q ⟨δ,k,q⟩=>by
 unfold dOr at q
 rw [z01] at q
 refine ⟨δ,k,z00 q fun x δ1 q1 H1 a1=>?_⟩
 cases x with
 | false=>exact ⟨δ1,a1.ok,z00 q1 fun y δ2 q2 H2 a2=>q2 H2 (a1.trans a2)⟩
 | true=>exact q1 H1 a1
theorem za1 (h:SW X c a t):ST X c a t:=PW.pt h
theorem z61 (ha:ST X c a t):ST X c (.UnaryOp .Not a pos) (dNot t):=PT.weak (zbw ha) fun σ H Q ⟨δ,k,q⟩=>by
 unfold dNot at q
 rw [z01] at q
 exact ⟨δ,k,q⟩
def eAnd (f g:DE):DE:=fun δ=>(f δ).bind fun r δ1=>match r with
 | .pure (.bl true)=>g δ1
 | .pure (.bl false)=>.ok (.pure (.bl false)) δ1
 | _=>.stuck
def eNot (f:DE):DE:=fun δ=>(f δ).bind fun r δ1=>match r with
 | .pure (.bl b)=>.ok (.pure (.bl (!b))) δ1
 | _=>.stuck
def eIf (t:DT) (f g:DE):DE:=fun δ=>(t δ).bind fun b δ1=>if b then f δ1 else g δ1
variable {g:DE}
theorem z9x {op} (h:SE X c a f):SE X c (.BoolOp op [a] pos) f:=zbB h
theorem z9y (ha:SE X c a f) (hb:SE X c (.BoolOp .And (b :: rest) pos) g):SE X c (.BoolOp .And (a :: b :: rest) pos) (eAnd f g):=PE.weak (zbF ha hb) fun σ H Q ⟨δ,k,q⟩=>by
 unfold eAnd at q
 rw [z01] at q
 refine ⟨δ,k,z00 q fun r δ1 q1 v H1 a1 r1=>?_⟩
 cases r with
 | own d=>exact q1.elim
 | pure d =>
  cases d <;> first | exact q1.elim | skip
  rename_i b
  cases r1
  refine ⟨b,rfl,?_⟩
  cases b with
  | true=>exact ⟨δ1,a1.ok,z00 q1 fun y δ2 q2 v H2 a2 r2=>q2 v H2 (a1.trans a2) (RepS.back r2 a1)⟩
  | false=>exact q1 _ H1 a1 (.bl false)
theorem zb9 (ha:SE X c a f):SE X c (.UnaryOp .Not a pos) (eNot f):=PE.weak (zbC ha) fun σ H Q ⟨δ,k,q⟩=>by
 unfold eNot at q
 rw [z01] at q
 refine ⟨δ,k,z00 q fun r δ1 q1 v H1 a1 r1=>?_⟩
 cases r with
 | own d=>exact q1.elim
 | pure d =>
  cases d <;> first | exact q1.elim | skip
  rename_i b
  cases r1
  exact ⟨b,rfl,q1 _ H1 a1 (.bl _)⟩
theorem se_if {e:Expr} (ht:ST X c e t) (ha:SE X c a f) (hb:SE X c b g):SE X c (.IfExp e a b pos) (eIf t f g):=PE.weak (z8Q ht ha hb) fun σ H Q ⟨δ,k,q⟩=>by
 unfold eIf at q
 rw [z01] at q
 refine ⟨δ,k,z00 q fun x δ1 q1 H1 a1=>?_⟩
 cases x with
 | true=>exact ⟨δ1,a1.ok,z00 q1 fun y δ2 q2 v H2 a2 r2=>q2 v H2 (a1.trans a2) (RepS.back r2 a1)⟩
 | false=>exact ⟨δ1,a1.ok,z00 q1 fun y δ2 q2 v H2 a2 r2=>q2 v H2 (a1.trans a2) (RepS.back r2 a1)⟩
end
section
variable {c:Fc} {σ:St} {δ:Dl} {H:Hp} {x:V}
theorem RepB.int (h:RepB c σ δ H x (.int i)):x = .int i:=by
 rcases h with h | ⟨_,_,h⟩
 ·cases h; rfl
 ·exact h.elim
theorem RepB.bl (h:RepB c σ δ H x (.bl b)):x = .bl b:=by
 rcases h with h | ⟨_,_,h⟩
 ·cases h; rfl
 ·exact h.elim
theorem RepB.str (h:RepB c σ δ H x (.str z)):x = .str (toS z):=by
 rcases h with h | ⟨_,_,h⟩
 ·cases h; rfl
 ·exact h.elim
theorem RepB.tup (h:RepB c σ δ H x (.tup ds)):∃ a vs,x = .ref a∧H a=some (.tup vs)∧Reps H (Av c σ δ) vs ds:=by
 rcases h with h | ⟨_,_,h⟩
 ·cases h with
  | tup h1 h2 h3 h4=>exact ⟨_,_,rfl,h2,h3,h4⟩
 ·exact h.elim
theorem RepB.lst (h:RepB c σ δ H x (.lst ds)):∃ a vs,x = .ref a∧Rd H a (.lst vs)∧Reps H (Av c σ δ) vs ds:=by
 rcases h with h | ⟨a,e,h⟩
 ·cases h with
  | lst h1 h2 h3 h4=>exact ⟨_,_,rfl,h2,h3,h4⟩
 ·obtain ⟨vs,h1,h2⟩:=h
  exact ⟨a,vs,e,.inl h1,h2⟩
theorem RepB.dct (h:RepB c σ δ H x (.dct ds)):∃ a ws,x = .ref a∧H a=some (.dK ws)∧ws.map (·.1)=ds.map (fun p=>kOf p.1)∧∀ (i:Nat) p q,ws[i]? = some p→ds[i]? = some q→Rep H (Av c σ δ) p.2 q.2:=by
 rcases h with h | ⟨a,e,h⟩
 ·cases h with
  | dct h1 h2 h3 h4=>exact ⟨_,_,rfl,h2,h3,h4⟩
 ·obtain ⟨ws,h1,h2,h3⟩:=h
  exact ⟨a,ws,e,h1,h2,h3⟩
end
theorem z4b (h:z.length≤W9):(toS z).length≤W9:=by rw [z1v]; exact h
theorem z9W (x y:Tx):toS x ++ toS y=toS (x ++ y):=by
 show Str.append (toS x) (toS y)=_
 simp [toS,Str.append]
def pAdd:D→D→Option S
 | .int i,.int j=>some (.pure (.int (i + j)))
 | .str x,.str y=>if x.length + y.length≤W9 then some (.pure (.str (x ++ y))) else none
 | .tup xs,.tup ys=>if xs.length + ys.length≤W9 then some (.pure (.tup (xs ++ ys))) else none
 | .lst xs,.lst ys=>if xs.length + ys.length≤W9 then some (.own (.lst (xs ++ ys))) else none
 | _,_=>none
def zbr (K:W1):R2:=fun x y H Q=>rI0 (fun i j=>V.int (i + j)) x y H Q∨(∃ i j,x = .str i∧y = .str j∧i.length + j.length≤W9∧Q (.str (i ++ j)) H) ∨
 (∃ a b ys,x = .ref a∧y = .ref b∧SqT K H a []∧SqT K H b ys∧Q (.ref b) H)∨zbp K x y H Q∨zbq K x y H Q
theorem z14:OpR X (WY .Add) (zbr X.K):=op_add.or (op_add_str.or (op_catT0.or (op_catT.or zas)))
theorem z1s {K:W1}:Op2 (zbr K) pAdd:=by
 intro c σ δ H x y d e s Q k rx ry hp q
 cases d <;> cases e <;> first
  | (simp [pAdd] at hp; done)
  | skip
 ·rename_i i j
  simp only [pAdd,W7] at hp
  subst hp
  exact .inl ⟨i,j,rx.int,ry.int,q _ H (.refl k) (.int _)⟩
 ·rename_i u w
  simp only [pAdd] at hp
  split at hp
  ·rename_i hz
   simp only [W7] at hp
   subst hp
   refine .inr (.inl ⟨toS u,toS w,rx.str,ry.str,by rw [z1v,z1v]; exact hz,?_⟩)
   rw [z9W]
   exact q _ H (.refl k) (.str _)
  ·cases hp
 ·rename_i us ws
  simp only [pAdd] at hp
  split at hp
  ·rename_i hz
   simp only [W7] at hp
   subst hp
   obtain ⟨a,vs,ea,ha,ra⟩:=rx.tup
   obtain ⟨b,zs,eb,hb,rb⟩:=ry.tup
   cases vs with
   | nil =>
    have:us=[]:=by have:=ra.1; simpa using this.symm
    subst this
    refine .inr (.inr (.inl ⟨a,b,zs,ea,eb,.of ha,.of hb,?_⟩))
    rw [eb] at ry
    rcases ry with ry | ⟨_,_,ry⟩
    ·exact q _ H (.refl k) ry
    ·exact ry.elim
   | cons v0 vr =>
    refine .inr (.inr (.inr (.inl ⟨a,b,_,zs,ea,eb,.of ha,.of hb,by simp,by rw [ra.1,rb.1]; exact hz,fun e0=>?_,fun _ p hp=>?_⟩)))
    ·subst e0
     have:ws=[]:=by have:=rb.1; simpa using this.symm
     subst this
     rw [ea] at rx
     rcases rx with rx | ⟨_,_,rx⟩
     ·rw [J9] at q
      exact q _ H (.refl k) rx
     ·exact rx.elim
    ·exact q _ _ (.alloc k hp _) (RepS.newT k (ra.append rb) hp)
  ·cases hp
 ·rename_i us ws
  simp only [pAdd] at hp
  split at hp
  ·rename_i hz
   simp only [W7] at hp
   subst hp
   obtain ⟨a,vs,ea,ha,ra⟩:=rx.lst
   obtain ⟨b,zs,eb,hb,rb⟩:=ry.lst
   exact .inr (.inr (.inr (.inr ⟨a,b,vs,zs,ea,eb,.inl ha,.inl hb,by rw [ra.1,rb.1]; exact hz,fun p hp=>q _ _ (.alloc k hp _) (RepS.newL k (ra.append rb) hp)⟩)))
  ·cases hp
def pII (C:Int→Int→Bool) (g:Int→Int→D):D→D→Option S
 | .int i,.int j=>if C i j then some (.pure (g i j)) else none
 | _,_=>none
theorem z7G (hC:∀ i j,C' i j=true→C i j) (hg:∀ i j H O,Rep H O (g i j) (g' i j)):Op2 (rI C g) (pII C' g'):=by
 intro c σ δ H x y d e s Q k rx ry hp q
 cases d <;> cases e <;> first
  | (simp [pII] at hp; done)
  | skip
 rename_i i j
 simp only [pII] at hp
 split at hp
 ·rename_i hc
  simp only [W7] at hp
  subst hp
  exact ⟨i,j,rx.int,ry.int,hC i j hc,q _ H (.refl k) (hg i j H _)⟩
 ·cases hp
theorem zbP (hg:∀ i j H O,Rep H O (g i j) (g' i j)):Op2 (rI0 g) (pII (fun _ _=>true) g'):=by
 intro c σ δ H x y d e s Q k rx ry hp q
 cases d <;> cases e <;> first
  | (simp [pII] at hp; done)
  | skip
 rename_i i j
 simp only [pII,if_true,W7] at hp
 subst hp
 exact ⟨i,j,rx.int,ry.int,q _ H (.refl k) (hg i j H _)⟩
def pSub:=pII (fun _ _=>true) fun i j=>.int (i - j)
theorem z9H:Op2 (rI0 fun i j=>V.int (i - j)) pSub:=zbP fun _ _ _ _=>.int _
def cMul (i j:Int):Bool:=(decide (-(2 ^ 64) < i) && decide (i < 2 ^ 64)) || (decide (-(2 ^ 64) < j) && decide (j < 2 ^ 64))
def pMul:=pII cMul fun i j=>.int (i * j)
theorem zbN:Op2 (rI CMul fun i j=>V.int (i * j)) pMul:=z7G (fun i j h=>by
 unfold cMul at h
 simp only [Bool.or_eq_true,Ws,decide_eq_true_eq] at h
 exact h) fun _ _ _ _=>.int _
def cDiv (_ j:Int):Bool:=decide (0 < j) && decide (j < 1073741824)
def pDiv:=pII cDiv fun i j=>.int (i / j)
theorem z7H:Op2 (rI CDiv fun i j=>V.int (i / j)) pDiv:=z7G (fun i j h=>by
 unfold cDiv at h
 simp only [Ws,decide_eq_true_eq] at h
 exact h) fun _ _ _ _=>.int _
def pMod:=pII (fun _ j=>decide (0 < j)) fun i j=>.int (i % j)
theorem z2S:Op2 (rI (fun _ j=>0 < j) fun i j=>V.int (i % j)) pMod:=z7G (fun i j h=>by simpa using h) fun _ _ _ _=>.int _
def cPow (i j:Int):Bool:=decide (0≤j) && decide (j≤1000000) && decide (i.natAbs < 2 ^ 64)
def pPow:=pII cPow fun i j=>.int (i ^ j.toNat)
theorem zbM:Op2 (rI CPow fun i j=>V.int (i ^ j.toNat)) pPow:=z7G (fun i j h=>by
 unfold cPow at h
 simp only [Ws,decide_eq_true_eq] at h
 exact ⟨h.1.1,h.1.2,h.2⟩) fun _ _ _ _=>.int _
def pEq (d e:D):Option S:=if flat 50 d && flat 50 e then some (.pure (.bl (eqD d e))) else none
theorem z3n:Op2 rEqD pEq:=by
 intro c σ δ H x y d e s Q k rx ry hp q
 unfold pEq at hp
 split at hp
 ·rename_i hf
  rw [Ws] at hf
  simp only [W7] at hp
  subst hp
  exact ⟨d,e,rx.un,ry.un,hf.1,hf.2,q _ H (.refl k) (.bl _)⟩
 ·cases hp
def pCmp (f:Int→Int→Bool) (g:Tx→Tx→Bool):D→D→Option S
 | .int i,.int j=>some (.pure (.bl (f i j)))
 | .str x,.str y=>some (.pure (.bl (g x y)))
 | _,_=>none
def rCmp (f:Int→Int→Bool) (g:List Nat→List Nat→Bool):R2:=fun x y H Q=>rI0 (fun i j=>V.bl (f i j)) x y H Q∨∃ i j,x = .str i∧y = .str j∧Q (.bl (g i.cps.toList j.cps.toList)) H
theorem z58:Op2 (rCmp f g) (pCmp f g):=by
 intro c σ δ H x y d e s Q k rx ry hp q
 cases d <;> cases e <;> first
  | (simp [pCmp] at hp; done)
  | skip
 ·rename_i i j
  simp only [pCmp,W7] at hp
  subst hp
  exact .inl ⟨i,j,rx.int,ry.int,q _ H (.refl k) (.bl _)⟩
 ·rename_i i j
  simp only [pCmp,W7] at hp
  subst hp
  refine .inr ⟨toS i,toS j,rx.str,ry.str,?_⟩
  rw [z4r,z4r]
  exact q _ H (.refl k) (.bl _)
theorem z7A {X:Cx} {op:CmpOp} {g:List Nat→List Nat→Bool} (rule:∀ (i j:Str) (t u:Tok) (Q:Value→W2→Prop) (s:W2),Q (.bool (g i.cps.toList j.cps.toList)) s→Wa (model X.prog X.w) X.A (Q7 op (.str i t) (.str j u)) Q X.xe s) :
  OpR X (Q7 op) (fun x y H Q=>∃ i j,x = .str i∧y = .str j∧Q (.bl (g i.cps.toList j.cps.toList)) H):=by
 intro pins s σ H x y v u Q I rx ry h
 obtain ⟨i,j,rfl,rfl,q⟩:=h
 obtain ⟨t,rfl⟩:=rx
 obtain ⟨t',rfl⟩:=ry
 exact rule i j t t' _ s ⟨.bl _,H,I,rfl,q⟩
def pLt:=pCmp (fun i j=>decide (i < j)) fun x y=>decide (x < y)
theorem z9G:OpR X (Q7 .Lt) (rCmp (fun i j=>decide (i < j)) fun x y=>decide (x < y)):=op_lt.or z7C
theorem zbO:Op2 (rCmp (fun i j=>decide (i < j)) fun x y=>decide (x < y)) pLt:=z58
def pIx:D→D→Option S
 | .lst ds,.int i=>(atI ds i).map .pure
 | .tup ds,.int i=>(atI ds i).map .pure
 | .str x,.int i=>if x.length≤W9 then (atI x i).map fun n=>.pure (.str [n]) else none
 | _,_=>none
theorem z68 (r:Reps H O vs ds) (h:atI ds i=some d):∃ v,atI vs i=some v∧Rep H O v d:=by
 unfold atI at h ⊢
 rw [r.1]
 cases e:ixN ds.length i with
 | none=>rw [e] at h; cases h
 | some j =>
  rw [e] at h
  exact r.get h
theorem z1h {K:W1}:Op2 (rIx K) pIx:=by
 intro c σ δ H x y d e s Q k rx ry hp q
 cases d <;> cases e <;> first
  | (simp [pIx] at hp; done)
  | skip
 ·rename_i z i
  simp only [pIx] at hp
  split at hp
  ·rename_i hz
   cases e1:atI z i with
   | none=>rw [e1] at hp; cases hp
   | some n =>
    rw [e1] at hp
    simp only [WA,W7] at hp
    subst hp
    refine .inr (.inr ⟨toS z,i,n,rx.str,ry.int,z4b hz,by rw [z4r]; exact e1,?_⟩)
    exact q (.str (toS [n])) H (.refl k) (.str [n])
  ·cases hp
 ·rename_i ds i
  simp only [pIx] at hp
  cases e1:atI ds i with
  | none=>rw [e1] at hp; cases hp
  | some n =>
   rw [e1] at hp
   simp only [WA,W7] at hp
   subst hp
   obtain ⟨a,vs,ea,ha,ra⟩:=rx.tup
   obtain ⟨v,e2,r2⟩:=z68 ra e1
   exact .inr (.inl ⟨a,vs,i,v,ea,ry.int,.of ha,e2,q v H (.refl k) r2⟩)
 ·rename_i ds i
  simp only [pIx] at hp
  cases e1:atI ds i with
  | none=>rw [e1] at hp; cases hp
  | some n =>
   rw [e1] at hp
   simp only [WA,W7] at hp
   subst hp
   obtain ⟨a,vs,ea,ha,ra⟩:=rx.lst
   obtain ⟨v,e2,r2⟩:=z68 ra e1
   exact .inl ⟨a,vs,i,v,ea,ry.int,.inl ha,e2,q v H (.refl k) r2⟩
def pGt:=pCmp (fun i j=>decide (j < i)) fun x y=>decide (y < x)
def pGe:=pCmp (fun i j=>decide (j≤i)) fun x y=>!decide (x < y)
theorem z7D:OpR X (Q7 .Gt) (rCmp (fun i j=>decide (j < i)) fun x y=>decide (y < x)):=op_gt.or (z7A (g:=fun x y=>decide (y < x)) fun _ _ _ _ _ _ h=>PySem.P.gt_str h)
theorem zbK:OpR X (Q7 .GtE) (rCmp (fun i j=>decide (j≤i)) fun x y=>!decide (x < y)):=op_ge.or (z7A (g:=fun x y=>!decide (x < y)) fun _ _ _ _ _ _ h=>PySem.P.ge_str h)
abbrev DA:=Dl→Rs (List D)
def tAD (c:Fc) (f:DA):TA:=fun σ H Q=>∃ δ,Ok c σ δ H∧post c (f δ) fun ds δ'=>∀ vs H',Aft c σ δ H σ δ' H'→Reps H' (Av c σ δ') vs ds→Q vs H'
structure SA (X:Cx) (c:Fc) (es:List Expr) (f:DA):Prop where
 pa:PA X es (tAD c f)
 len:∀ δ ds δ',f δ = .ok ds δ'→ds.length=es.length
theorem PA.weak (h:PA X es t) (w:∀ σ H Q,t' σ H Q→t σ H Q):PA X es t':=fun pos pins s σ H Q I q=>h pos pins s σ H Q I (w σ H Q q)
def aNil:DA:=fun δ=>.ok [] δ
def z0U (f:DE) (g:DA):DA:=fun δ=>(f δ).bind fun x δ1=>(g δ1).bind fun xs δ2=>.ok (x.d :: xs) δ2
section
variable {X:Cx} {c:Fc} {e:Expr} {es:List Expr} {f:DE} {g:DA} {pos:Pos}
theorem z1G:SA X c [] aNil:=⟨PA.weak z1H fun σ H Q ⟨δ,k,q⟩=>q [] H (.refl k) .nil,fun δ ds δ' h=>by cases h; rfl⟩
theorem z7g (ha:SE X c e f) (hr:SA X c es g) (hs:W6 (e :: es) X.env=(false,eval e X.env) :: W6 es X.env:=by rfl):SA X c (e :: es) (z0U f g):=by
 refine ⟨PA.weak (z0Q ha hr.pa hs) fun σ H Q ⟨δ,k,q⟩=>?_,fun δ ds δ' h=>?_⟩
 ·unfold z0U at q
  rw [z01] at q
  refine ⟨δ,k,z00 q fun x δ1 q1 v H1 a1 r1=>⟨δ1,a1.ok,?_⟩⟩
  rw [z01] at q1
  exact z00 q1 fun xs δ2 q2 vs H2 a2 r2=>q2 (v :: vs) H2 (a1.trans a2) (.cons (Rep.aft r1.rep a2) r2)
 ·unfold z0U at h
  cases h1:f δ with
  | ok x δ1 =>
   rw [h1] at h
   cases h2:g δ1 with
   | ok xs δ2 =>
    simp only [Rs.bind,h2] at h
    cases h
    simp [hr.len _ _ _ h2]
   | exc x δx=>simp only [Rs.bind,h2] at h; cases h
   | stuck=>simp only [Rs.bind,h2] at h; cases h
  | exc x δx=>rw [h1] at h; cases h
  | stuck=>rw [h1] at h; cases h
def eTup (f:DA):DE:=fun δ=>(f δ).bind fun ds δ'=>.ok (.pure (.tup ds)) δ'
def eLst (f:DA):DE:=fun δ=>(f δ).bind fun ds δ'=>.ok (.own (.lst ds)) δ'
theorem z4d (h:n≤1000):n≤W9:=QQ (z73 h)
theorem z53 (h:post c r k):post c r fun a δ=>r = .ok a δ∧k a δ:=by
 cases r with
 | ok a δ=>exact ⟨rfl,h⟩
 | exc x δx=>exact h
 | stuck=>exact h
theorem z3D {x1} (h:SA X c es g) (hz:es.length≤1000:=by decide):SE X c (.Tuple es x1 pos) (eTup g):=PE.weak (zbA h.pa) fun σ H Q ⟨δ,k,q⟩=>by
 unfold eTup at q
 rw [z01] at q
 refine ⟨δ,k,z00 (z53 q) fun ds δ1 ⟨e1,q1⟩ vs H1 a1 r1=>?_⟩
 have hl:=h.len _ _ _ e1
 exact ⟨by rw [r1.1,hl]; exact z4d hz,fun p hp=>q1 _ _ (a1.trans (.alloc a1.ok hp _)) (RepS.back (RepS.newT a1.ok r1 hp) a1)⟩
theorem z3f (h:SA X c es g) (hz:es.length≤1000:=by decide):SE X c (.List es pos) (eLst g):=PE.weak (zbE h.pa) fun σ H Q ⟨δ,k,q⟩=>by
 unfold eLst at q
 rw [z01] at q
 refine ⟨δ,k,z00 (z53 q) fun ds δ1 ⟨e1,q1⟩ vs H1 a1 r1=>?_⟩
 have hl:=h.len _ _ _ e1
 exact ⟨by rw [r1.1,hl]; exact z4d hz,fun p hp=>q1 _ _ (a1.trans (.alloc a1.ok hp _)) (RepS.back (RepS.newL a1.ok r1 hp) a1)⟩
end
def p1 (p:D→Option S) (x:D) (δ:Dl):Rs S:=match p x with
 | some s=>.ok s δ
 | none=>.stuck
def eC1 (p:D→Option S) (fb:BE):DE:=fun δ=>(fb δ).bind fun x δ1=>p1 p x δ1
def Op1 (r:V→Hp→VK→Prop) (p:D→Option S):Prop:=∀ (c:Fc) (σ:St) (δ:Dl) (H:Hp) (x:V) (d:D) (s:S) (Q:VK),Ok c σ δ H→RepB c σ δ H x d→p d=some s →
 (∀ v H',Aft c σ δ H σ δ H'→RepS c σ δ H H' v s→Q v H')→r x H Q
section
variable {X:Cx} {c:Fc} {e:Expr} {fb:BE} {r:V→Hp→VK→Prop} {p:D→Option S} {x:Str} {id T:String} {pp pos:Pos}
theorem z7z (hp:Op1 r p) (k:Ok c σ δ H) (rx:RepB c σ δ H v d)
  (h:post c (p1 p d δ) fun s δ'=>∀ v H',Aft c σ δ H σ δ' H'→RepS c σ δ' H H' v s→Q v H'):r v H Q:=by
 unfold p1 at h
 cases e1:p d with
 | none=>rw [e1] at h; exact h.elim
 | some s=>rw [e1] at h; exact hp c σ δ H v d s Q k rx e1 h
theorem z5v (hp:Op1 r p) (h:tD c (eC1 p fb) σ H Q):tUn r (tB c fb) σ H Q:=by
 obtain ⟨δ,k,q⟩:=h
 unfold eC1 at q
 rw [z01] at q
 exact ⟨δ,k,z00 q fun y δ1 q1 v H1 a1 r1=>z7z hp a1.ok r1 (z00 q1 fun s δ2 q2 w H2 a2 r2=>q2 w H2 (a1.trans a2) (RepS.back r2 a1))⟩
theorem z3t (hc:CallR X (.builtin id) rl) (hl:∀ v H Q,r v H Q→rl [v] H Q) (hp:Op1 r p) (hg:Gl X x) (hm:X.mg x=none) (hv:Qj x=some (.builtin id)) (he:SB X c e fb)
  (hn:x≠"__name__":=by decide) (hdb:(x == ("__debug__" : Str))=false:=by decide) (hs:W6 [e] X.env=(false,eval e X.env) :: W6 [] X.env:=by rfl) (hpl:(WW pos (W6 [] X.env)).any (·.1)=false:=by rfl) :
  SE X c (.Call (.Name x pp) [e] [] pos) (eC1 p fb):=PE.weak (z4B hc hg hm hv (z0Q he z1H hs) hn hdb hs hpl) fun σ H Q h=>by
 obtain ⟨δ,k,q⟩:=z5v hp h
 exact ⟨δ,k,z00 q fun y δ1 q1 v H1 a1 r1=>hl _ _ _ (q1 v H1 a1 r1)⟩
theorem z4V (hc:CallR X (.type T) rl) (hl:∀ v H Q,r v H Q→rl [v] H Q) (hp:Op1 r p) (hg:Gl X x) (hm:X.mg x=none) (hv:Qj x=some (.type T)) (he:SB X c e fb)
  (hn:x≠"__name__":=by decide) (hdb:(x == ("__debug__" : Str))=false:=by decide) (hs:W6 [e] X.env=(false,eval e X.env) :: W6 [] X.env:=by rfl) (hpl:(WW pos (W6 [] X.env)).any (·.1)=false:=by rfl) :
  SE X c (.Call (.Name x pp) [e] [] pos) (eC1 p fb):=PE.weak (z7x hc hg hm hv (z0Q he z1H hs) hn hdb hs hpl) fun σ H Q h=>by
 obtain ⟨δ,k,q⟩:=z5v hp h
 exact ⟨δ,k,z00 q fun y δ1 q1 v H1 a1 r1=>hl _ _ _ (q1 v H1 a1 r1)⟩
def pLen:D→Option S
 | .lst ds=>some (.pure (.int ds.length))
 | .tup ds=>some (.pure (.int ds.length))
 | .str z=>if z.length≤W9 then some (.pure (.int z.length)) else none
 | .dct ds=>some (.pure (.int ds.length))
 | _=>none
def rLen (K:W1):V→Hp→VK→Prop:=fun v H Q=>((∃ p ys,v = .ref p∧(SqL K H p ys∨SqT K H p ys)∧Q (.int ys.length) H)∨∃ z,v = .str z∧z.length≤W9∧Q (.int z.length) H)∨∃ a kvs,v=V.ref a∧H a=some (.dK kvs)∧Q (.int kvs.length) H
theorem zbQ {K:W1}:Op1 (rLen K) pLen:=by
 intro c σ δ H x d s Q k rx hp q
 cases d with
 | lst ds =>
  simp only [pLen,W7] at hp
  subst hp
  obtain ⟨a,vs,ea,ha,ra⟩:=rx.lst
  exact .inl (.inl ⟨a,vs,ea,.inl (.inl ha),by rw [ra.1]; exact q _ H (.refl k) (.int _)⟩)
 | tup ds =>
  simp only [pLen,W7] at hp
  subst hp
  obtain ⟨a,vs,ea,ha,ra⟩:=rx.tup
  exact .inl (.inl ⟨a,vs,ea,.inr (.of ha),by rw [ra.1]; exact q _ H (.refl k) (.int _)⟩)
 | str z =>
  simp only [pLen] at hp
  split at hp
  ·rename_i hz
   simp only [W7] at hp
   subst hp
   exact .inl (.inr ⟨toS z,rx.str,z4b hz,by rw [z1v]; exact q _ H (.refl k) (.int _)⟩)
  ·cases hp
 | dct ds =>
  simp only [pLen,W7] at hp
  subst hp
  obtain ⟨a,ws,ea,ha,h1,h2⟩:=rx.dct
  have hl:ws.length=ds.length:=by have:=congrArg List.length h1; simpa using this
  exact .inr ⟨a,ws,ea,ha,by rw [hl]; exact q _ H (.refl k) (.int _)⟩
 | _=>simp [pLen] at hp
theorem z3g (hg:Gl X "len") (hm:X.mg "len" = none) (he:SB X c e fb) (hs:W6 [e] X.env=(false,eval e X.env) :: W6 [] X.env:=by rfl):SE X c (.Call (.Name "len" pp) [e] [] pos) (eC1 pLen fb) :=
 z3t ((call_len_seq.or z5l).or z8l) (fun v H Q h=>by
  rcases h with (⟨p,ys,e,h⟩ | ⟨z,e,h⟩) | ⟨a,kvs,e,h⟩
  ·exact .inl (.inl ⟨p,ys,by rw [e],h⟩)
  ·exact .inl (.inr ⟨z,by rw [e],h⟩)
  ·exact .inr ⟨a,kvs,by rw [e],h⟩) (zbQ (K:=X.K)) hg hm PySem.boot_len he (by decide) (by decide) hs
def z0d:D→Option S
 | .lst ds=>some (.pure (.tup ds))
 | .tup ds=>some (.pure (.tup ds))
 | _=>none
def zbh (K:W1):V→Hp→VK→Prop:=fun v H Q=>∃ p ys,v = .ref p∧((SqL K H p ys∧∀ l,H l=none→Q (.ref l) (upd H l (.tup ys)))∨(SqT K H p ys∧Q (.ref p) H))
theorem z8V {K:W1}:Op1 (zbh K) z0d:=by
 intro c σ δ H x d s Q k rx hp q
 cases d with
 | lst ds =>
  simp only [z0d,W7] at hp
  subst hp
  obtain ⟨a,vs,ea,ha,ra⟩:=rx.lst
  exact ⟨a,vs,ea,.inl ⟨.inl ha,fun l hl=>q _ _ (.alloc k hl _) (RepS.newT k ra hl)⟩⟩
 | tup ds =>
  simp only [z0d,W7] at hp
  subst hp
  obtain ⟨a,vs,ea,ha,ra⟩:=rx.tup
  refine ⟨a,vs,ea,.inr ⟨.of ha,?_⟩⟩
  rw [ea] at rx
  rcases rx with rx | ⟨_,_,rx⟩
  ·exact q _ H (.refl k) rx
  ·exact rx.elim
 | _=>simp [z0d] at hp
theorem z10 (hg:Gl X "tuple") (hm:X.mg "tuple" = none) (he:SB X c e fb) (hs:W6 [e] X.env=(false,eval e X.env) :: W6 [] X.env:=by rfl):SE X c (.Call (.Name "tuple" pp) [e] [] pos) (eC1 z0d fb) :=
 z4V z4N (fun v H Q ⟨p,ys,e,h⟩=>⟨p,ys,by rw [e],h⟩) (z8V (K:=X.K)) hg hm PyProof.Rows.boot_tuple he (by decide) (by decide) hs
def pInt:D→Option S
 | .int i=>some (.pure (.int i))
 | .bl b=>some (.pure (.int (if b then 1 else 0)))
 | _=>none
theorem z7b (hg:Gl X "int") (hm:X.mg "int" = none) (he:SB X c e fb) (hs:W6 [e] X.env=(false,eval e X.env) :: W6 [] X.env:=by rfl):SE X c (.Call (.Name "int" pp) [e] [] pos) (eC1 pInt fb) :=
 z4V (r:=fun v H Q=>(∃ i,v = .int i∧Q (.int i) H)∨∃ k,v = .bl k∧Q (.int (if k then 1 else 0)) H) z8m (fun v H Q h=>by
  rcases h with ⟨i,e,q⟩ | ⟨k,e,q⟩
  ·exact .inl ⟨i,by rw [e],q⟩
  ·exact .inr ⟨k,by rw [e],q⟩) (fun c σ δ H x d s Q k rx hp q=>by
  cases d with
  | int i =>
   simp only [pInt,W7] at hp
   subst hp
   exact .inl ⟨i,rx.int,q _ H (.refl k) (.int _)⟩
  | bl b =>
   simp only [pInt,W7] at hp
   subst hp
   exact .inr ⟨b,rx.bl,q _ H (.refl k) (.int _)⟩
  | _=>simp [pInt] at hp) hg hm PyProof.Rows.boot_int he (by decide) (by decide) hs
def z40:List D→Option (List Bool)
 | []=>some []
 | .bl b :: r=>(z40 r).map (b :: ·)
 | _ :: _=>none
def z2p:List D→Option (List Tx)
 | []=>some []
 | .str x :: r=>(z2p r).map (x :: ·)
 | _ :: _=>none
theorem z4g:∀ {ds:List D} {vs:List V} {bs:List Bool},z40 ds=some bs→Reps H O vs ds→vs=bs.map V.bl
 | [],vs,bs,h,r=>by
  simp only [z40,W7] at h
  subst h
  have:=r.1
  simpa using this
 | d :: ds,[],bs,h,r=>by have:=r.1; simp at this
 | d :: ds,v :: vs,bs,h,r=>by
  cases d with
  | bl b =>
   simp only [z40] at h
   cases e:z40 ds with
   | none=>rw [e] at h; cases h
   | some bs' =>
    rw [e] at h
    simp only [WA,W7] at h
    subst h
    have:=r.head
    cases this
    rw [z4g e r.tail]
    rfl
  | _=>simp [z40] at h
theorem z2n:∀ {ds:List D} {vs:List V} {bs:List Tx},z2p ds=some bs→Reps H O vs ds→vs=bs.map fun z=>V.str (toS z)
 | [],vs,bs,h,r=>by
  simp only [z2p,W7] at h
  subst h
  have:=r.1
  simpa using this
 | d :: ds,[],bs,h,r=>by have:=r.1; simp at this
 | d :: ds,v :: vs,bs,h,r=>by
  cases d with
  | str b =>
   simp only [z2p] at h
   cases e:z2p ds with
   | none=>rw [e] at h; cases h
   | some bs' =>
    rw [e] at h
    simp only [WA,W7] at h
    subst h
    have:=r.head
    cases this
    rw [z2n e r.tail]
    rfl
  | _=>simp [z2p] at h
theorem z2M:∀ ts:List Tx,Reps H O (ts.map fun z=>V.str (toS z)) (ts.map D.str)
 | []=>.nil
 | t :: ts=>.cons (.str t) (z2M ts)
def pAll:D→Option S
 | .lst ds=>(z40 ds).map fun bs=>.pure (.bl (bs.all (fun b=>b)))
 | _=>none
def z31:D→Option S
 | .lst ds=>match z2p ds with
  | some ts=>if ts.length < 64 then some (.own (.lst ((z2X ts).map D.str))) else none
  | none=>none
 | _=>none
theorem z9n:Qj "all" = some (.builtin "all"):=by decide +kernel
theorem z7e (hc:X.calm=true) (hg:Gl X "all") (hm:X.mg "all" = none) (he:SB X c e fb) (hs:W6 [e] X.env=(false,eval e X.env) :: W6 [] X.env:=by rfl):SE X c (.Call (.Name "all" pp) [e] [] pos) (eC1 pAll fb) :=
 z3t (r:=fun v H Q=>∃ (a:Addr) (bs:List Bool),v = .ref a∧SqL X.K H a (bs.map V.bl)∧Q (.bl (bs.all (fun b=>b))) H) (z9m hc) (fun v H Q ⟨a,bs,e,h⟩=>⟨a,bs,by rw [e],h⟩) (fun c σ δ H x d s Q k rx hp q=>by
  cases d with
  | lst ds =>
   simp only [pAll] at hp
   cases e:z40 ds with
   | none=>rw [e] at hp; cases hp
   | some bs =>
    rw [e] at hp
    simp only [WA,W7] at hp
    subst hp
    obtain ⟨a,vs,ea,ha,ra⟩:=rx.lst
    have:=z4g e ra
    subst this
    exact ⟨a,bs,ea,.inl ha,q _ H (.refl k) (.bl _)⟩
  | _=>simp [pAll] at hp) hg hm z9n he (by decide) (by decide) hs
theorem z7a (hg:Gl X "sorted") (hm:X.mg "sorted" = none) (he:SB X c e fb) (hs:W6 [e] X.env=(false,eval e X.env) :: W6 [] X.env:=by rfl):SE X c (.Call (.Name "sorted" pp) [e] [] pos) (eC1 z31 fb) :=
 z3t (r:=fun v H Q=>∃ (a:Addr) (ts:List Tx),v = .ref a∧SqL X.K H a (ts.map fun z=>V.str (toS z))∧ts.length < 64∧∀ p,H p=none→Q (.ref p) (upd H p (.lst ((z2X ts).map fun z=>V.str (toS z))))) z5k (fun v H Q ⟨a,bs,e,h⟩=>⟨a,bs,by rw [e],h⟩) (fun c σ δ H x d s Q k rx hp q=>by
  cases d with
  | lst ds =>
   simp only [z31] at hp
   cases e:z2p ds with
   | none=>rw [e] at hp; cases hp
   | some ts =>
    rw [e] at hp
    simp only at hp
    split at hp
    ·rename_i hz
     simp only [W7] at hp
     subst hp
     obtain ⟨a,vs,ea,ha,ra⟩:=rx.lst
     have:=z2n e ra
     subst this
     exact ⟨a,ts,ea,.inl ha,hz,fun p hp=>q _ _ (.alloc k hp _) (RepS.newL k (z2M _) hp)⟩
    ·cases hp
  | _=>simp [z31] at hp) hg hm PyProof.Rows.boot_sorted he (by decide) (by decide) hs
def pMax:D→D→Option S
 | .int i,.int j=>some (.pure (.int (if j > i then j else i)))
 | _,_=>none
def eMax (f g:DE):DE:=fun δ=>(f δ).bind fun x δ1=>(g δ1).bind fun y δ2=>p2 pMax x.d y.d δ2
theorem zbb {a b:Expr} {f g:DE} (hc:X.calm=true) (hg:Gl X "max") (hm:X.mg "max" = none) (ha:SE X c a f) (hb:SE X c b g) (hs:W6 [a,b] X.env=(false,eval a X.env) :: W6 [b] X.env:=by rfl)
  (hs2:W6 [b] X.env=(false,eval b X.env) :: W6 [] X.env:=by rfl) (hpl:(WW pos (W6 [b] X.env)).any (·.1)=false:=by rfl):SE X c (.Call (.Name "max" pp) [a,b] [] pos) (eMax f g) :=
 PE.weak (z4B (z8k hc) hg hm PyProof.Rows.boot_max (z0Q ha (z0Q hb z1H hs2) hs) (by decide) (by decide) hs hpl) fun σ H Q ⟨δ,k,q⟩=>by
  unfold eMax at q
  rw [z01] at q
  refine ⟨δ,k,z00 q fun x δ1 q1 v H1 a1 r1=>⟨δ1,a1.ok,?_⟩⟩
  rw [z01] at q1
  refine z00 q1 fun y δ2 q2 u H2 a2 r2=>?_
  unfold p2 at q2
  have hx:RepB c σ δ2 H2 v x.d:=.inl (Rep.aft r1.rep a2)
  have hy:=r2.b
  generalize x.d=dx at q2 hx
  generalize y.d=dy at q2 hy
  cases dx <;> cases dy <;> first
   | exact q2.elim
   | skip
  rename_i i j
  exact ⟨i,j,by rw [hx.int,hy.int],q2 _ H2 (a1.trans a2) (.int _)⟩
def isTy (T:String):D→Option Bool
 | .non=>some (T == "NoneType")
 | .bl _=>some (T == "bool" || T == "int")
 | .int _=>some (T == "int")
 | .str _=>some (T == "str")
 | .tup _=>some (T == "tuple")
 | .lst _=>some (T == "list")
 | .dct _=>some (T == "dict")
 | .exc _ _=>none
 | .xd _=>none
structure TyK (K:W1) (T:String):Prop where
 non:Qf K (.type "NoneType") (.type T)=some (T == "NoneType")
 bl:Qf K (.type "bool") (.type T)=some (T == "bool" || T == "int")
 int:Qf K (.type "int") (.type T)=some (T == "int")
 str:Qf K (.type "str") (.type T)=some (T == "str")
 tup:Qf K (.type "tuple") (.type T)=some (T == "tuple")
 lst:Qf K (.type "list") (.type T)=some (T == "list")
 dct:Qf K (.type "dict") (.type T)=some (T == "dict")
def eIsi (T:String) (fb:BE):DE:=fun δ=>(fb δ).bind fun d δ'=>match isTy T d with
 | some b=>.ok (.pure (.bl b)) δ'
 | none=>.stuck
theorem z95 (ty:TyK X.K T) (I:Inv X pins σ H s) (ru:RelV v u) (r:Rep H NoO v d) (e:isTy T d=some b) (q:Q (.bl b) H) :
  Wa (model X.prog X.w) X.A (call (.builtin "isinstance") [u,.type T]) (EP X pins σ Q) X.xe s:=by
 have fin:∀ tk,EP X pins σ Q (.bool b) { s with toks:=tk }:=fun tk=>⟨.bl b,H,I.tok tk,rfl,q⟩
 cases r with
 | non=>exact z1n I ru .non (ty.non.trans e) fin
 | bl x=>exact z1n I ru (.bl x) (ty.bl.trans e) fin
 | int x=>exact z1n I ru (.int x) (ty.int.trans e) fin
 | str x=>exact z1n I ru (.str _) (ty.str.trans e) fin
 | tup _ h2 _ _=>exact z1n I ru (.tup h2) (ty.tup.trans e) fin
 | lst _ h2 _ _ =>
  rcases h2 with h2 | ⟨o,h2⟩
  ·exact z1n I ru (.lst h2) (ty.lst.trans e) fin
  ·exact z1n I ru (.frz h2) (ty.lst.trans e) fin
 | dct _ h2 _ _=>exact z1n I ru (.dK h2) (ty.dct.trans e) fin
 | exc _ _=>cases e
 | xd _ _=>cases e
theorem z9l (ty:TyK X.K T):CallR X (.builtin "isinstance") (fun xs H Q=>∃ v d b,xs=[v,.ty T]∧Rep H NoO v d∧isTy T d=some b∧Q (.bl b) H):=by
 intro pins s σ H xs us Q I r h
 obtain ⟨v,d,b,rfl,rp,e,q⟩:=h
 obtain ⟨u,w',rfl,r1,r2⟩:=zaS r
 cases r2
 exact z95 ty I r1 rp e q
theorem z67 {y:Str} {py:Pos} (ty:TyK X.K T) (hg:Gl X "isinstance") (hm:X.mg "isinstance" = none) (hgy:Gl X y) (hmy:X.mg y=none) (hvy:Qj y=some (.type T)) (he:SB X c e fb)
  (hny:y≠"__name__":=by decide) (hdy:(y == ("__debug__" : Str))=false:=by decide)
  (hs:W6 [e,.Name y py] X.env=(false,eval e X.env) :: W6 [.Name y py] X.env:=by rfl) (hpl:(WW pos (W6 [.Name y py] X.env)).any (·.1)=false:=by rfl) :
  SE X c (.Call (.Name "isinstance" pp) [e,.Name y py] [] pos) (eIsi T fb) :=
 PE.weak (z4B (z9l ty) hg hm PyProof.Rows.boot_isinstance (z0Q he (z0Q (zap (v:=.ty T) hgy hmy hvy rfl hny hdy) z1H) hs) (by decide) (by decide) hs hpl) fun σ H Q ⟨δ,k,q⟩=>by
  unfold eIsi at q
  rw [z01] at q
  refine ⟨δ,k,z00 q fun d δ1 q1 v H1 a1 r1=>?_⟩
  cases e1:isTy T d with
  | none=>rw [e1] at q1; exact q1.elim
  | some b =>
   rw [e1] at q1
   exact ⟨v,d,b,rfl,r1.un,e1,q1 _ H1 a1 (.bl _)⟩
end
abbrev DOp:=Dl→Rs (Option Int)
def tOD (c:Fc) (f:DOp):TO:=fun σ H Q=>∃ δ,Ok c σ δ H∧post c (f δ) fun o δ'=>∀ H',Aft c σ δ H σ δ' H'→Q o H'
abbrev SO (X:Cx) (c:Fc) (e:Option Expr) (f:DOp):Prop:=PO X e (tOD c f)
theorem PO.weak (h:PO X e t) (w:∀ σ H Q,t' σ H Q→t σ H Q):PO X e t':=fun pins s σ H Q I q=>h pins s σ H Q I (w σ H Q q)
def oNone:DOp:=fun δ=>.ok none δ
def z5M (f:DE):DOp:=fun δ=>(f δ).bind fun r δ'=>match r with
 | .pure (.int i)=>.ok (some i) δ'
 | _=>.stuck
section
variable {X:Cx} {c:Fc} {e:Expr} {f:DE} {fb:BE} {fl fh:DOp} {lo hi:Option Expr} {pos p2:Pos}
theorem z71 (h:SE X c e f):SO X c (some e) (z5M f):=PO.weak (zaj h) fun σ H Q ⟨δ,k,q⟩=>by
 unfold z5M at q
 rw [z01] at q
 refine ⟨δ,k,z00 q fun r δ1 q1 v H1 a1 r1=>?_⟩
 cases r with
 | own d=>exact q1.elim
 | pure d =>
  cases d <;> first | exact q1.elim | skip
  rename_i i
  cases r1
  exact ⟨i,rfl,q1 H1 a1⟩
def pSl (lo hi:Option Int):D→Option S
 | .str x=>if x.length≤W9 then some (.pure (.str (cutL x lo hi))) else none
 | .tup ds=>some (.pure (.tup (cutL ds lo hi)))
 | .lst ds=>some (.own (.lst (cutL ds lo hi)))
 | _=>none
def rSlD (K:W1):V→Option Int→Option Int→Hp→VK→Prop:=fun x lo hi H Q=>rSlS x lo hi H Q∨zbi K x lo hi H Q∨rSlL K x lo hi H Q
theorem sl_D:SlR X (rSlD X.K):=sl_str.or (sl_tup2.or za3)
theorem o1_sl {K:W1} (lo hi:Option Int):Op1 (fun x H Q=>rSlD K x lo hi H Q) (pSl lo hi):=by
 intro c σ δ H x d s Q k rx hp q
 cases d with
 | str z =>
  simp only [pSl] at hp
  split at hp
  ·rename_i hz
   simp only [W7] at hp
   subst hp
   exact .inl ⟨z,rx.str,hz,q _ H (.refl k) (.str _)⟩
  ·cases hp
 | tup ds =>
  simp only [pSl,W7] at hp
  subst hp
  obtain ⟨a,vs,ea,ha,ra⟩:=rx.tup
  refine .inr (.inl ⟨a,vs,ea,.of ha,fun hw=>?_,fun _ p hp=>?_⟩)
  ·rw [ra.1] at hw
   rw [z87 hw] at q
   rw [ea] at rx
   rcases rx with rx | ⟨_,_,rx⟩
   ·exact q _ H (.refl k) rx
   ·exact rx.elim
  ·rw [← z9P]
   exact q _ _ (.alloc k hp _) (RepS.newT k (ra.cut lo hi) hp)
 | lst ds =>
  simp only [pSl,W7] at hp
  subst hp
  obtain ⟨a,vs,ea,ha,ra⟩:=rx.lst
  refine .inr (.inr ⟨a,vs,ea,.inl ha,fun p hp=>?_⟩)
  rw [← z9P]
  exact q _ _ (.alloc k hp _) (RepS.newL k (ra.cut lo hi) hp)
 | _=>simp [pSl] at hp
def eSl (f:DE) (fl fh:DOp):DE:=fun δ=>(f δ).bind fun x δ1=>(fl δ1).bind fun l δ2=>(fh δ2).bind fun h δ3=>p1 (pSl l h) x.d δ3
def eSlN (i:Nat) (fl fh:DOp):DE:=fun δ=>match δ[i]? with
 | some (some _)=>(fl δ).bind fun l δ2=>(fh δ2).bind fun h δ3=>(bVar i δ3).bind fun x δ4=>p1 (pSl l h) x δ4
 | _=>.stuck
theorem z5z {i:Nat} {σ:St} {δ:Dl} {H:Hp} {v:V} {w:S} (k:Ok c σ δ H) (e:δ[i]? = some (some w)) (ev:σ[i]? = some (some v)):RepB c σ δ H v w.d:=by
 cases w with
 | pure d =>
  obtain ⟨v',e1,r⟩:=k.slot i d e
  rw [ev] at e1; cases e1
  exact .inl r
 | own d =>
  obtain ⟨a,e1,r,_⟩:=k.own i d e
  rw [ev] at e1; cases e1
  exact .inr ⟨a,rfl,r⟩
theorem z8n (h:post c ((bVar i δ).bind g) kk):∃ w,δ[i]? = some (some w)∧post c (g w.d δ) kk:=by
 unfold bVar at h
 cases e:δ[i]? with
 | none=>rw [e] at h; exact h.elim
 | some o =>
  cases o with
  | none=>rw [e] at h; exact h.elim
  | some w=>rw [e] at h; exact ⟨w,rfl,h⟩
theorem zb8 {i:Nat} (he:PE X e (tVar i)) (hl:SO X c lo fl) (hh:SO X c hi fh):SE X c (.Subscript e (.Slice lo hi none p2) pos) (eSlN i fl fh):=PE.weak (z8O sl_D he hl hh) fun σ H Q ⟨δ,k,q⟩=>by
 unfold eSlN at q
 cases e:δ[i]? with
 | none=>rw [e] at q; exact q.elim
 | some o =>
  cases o with
  | none=>rw [e] at q; exact q.elim
  | some w =>
   rw [e] at q
   obtain ⟨v,ev⟩:=z2m k e
   have q':post c ((fl δ).bind fun l δ2=>(fh δ2).bind fun h δ3=>(bVar i δ3).bind fun x δ4=>p1 (pSl l h) x δ4) fun r δ'=>∀ v H',Aft c σ δ H σ δ' H'→RepS c σ δ' H H' v r→Q v H':=q
   rw [z01] at q'
   refine ⟨v,ev,δ,k,z00 q' fun l δ2 q2 H2 a2=>⟨δ2,a2.ok,?_⟩⟩
   rw [z01] at q2
   refine z00 q2 fun h δ3 q3 H3 a3=>?_
   obtain ⟨w3,e3,q4⟩:=z8n q3
   exact z7z (o1_sl l h) a3.ok (z5z a3.ok e3 ev) (z00 q4 fun s δ4 q4 w H4 a4 r4=>q4 w H4 (a2.trans (a3.trans a4)) (RepS.back r4 (a2.trans a3)))
def z3Q (z:Tx):List Tx→Tx
 | []=>[]
 | [x]=>x
 | x :: y :: r=>x ++ z ++ z3Q z (y :: r)
theorem z6k (z:Tx):∀ (r:List Tx) (acc:Tx),((r.map toS).foldl (fun (acc:Array Nat) p=>acc ++ (toS z).cps ++ p.cps) acc.toArray)=(match r with | []=>acc | x :: r'=>acc ++ z ++ z3Q z (x :: r')).toArray
 | [],acc=>rfl
 | x :: r,acc=>by
  rw [Wr,QL]
  have e:acc.toArray ++ (toS z).cps ++ (toS x).cps=(acc ++ z ++ x).toArray:=by simp [toS]
  rw [e,z6k z r (acc ++ z ++ x)]
  cases r with
  | nil=>simp [z3Q]
  | cons y r'=>simp [z3Q]
theorem zaC (z:Tx) (ts:List Tx):Txt.join (toS z) (ts.map toS)=toS (z3Q z ts):=by
 show Builtin.Str.glued _ _=_
 unfold Builtin.Str.glued
 cases ts with
 | nil=>rfl
 | cons x r =>
  rw [Wr]
  show (⟨(List.foldl _ (toS x).cps (r.map toS))⟩:Str)=_
  have:=z6k z r x
  have e:(toS x).cps=x.toArray:=rfl
  rw [e,this]
  cases r with
  | nil=>rfl
  | cons y r'=>rfl
def z27 (ts:List Tx):Nat:=(ts.map (·.length)).sum
def z1L (z:Tx):D→Option S
 | .lst ds=>match z2p ds with
  | some ts=>if z27 ts + ts.length * z.length≤16777216 then some (.pure (.str (z3Q z ts))) else none
  | none=>none
 | .tup ds=>match z2p ds with
  | some ts=>if z27 ts + ts.length * z.length≤16777216 then some (.pure (.str (z3Q z ts))) else none
  | none=>none
 | _=>none
theorem zaw {K:W1} (z:Tx):Op1 (fun x H Q=>z8J K (.str (toS z)) [x] H Q) (z1L z):=by
 intro c σ δ H x d s Q k rx hp q
 have key:∀ (a:Addr) (vs:List V) (ds:List D),x = .ref a→(SqL K H a vs∨SqT K H a vs)→Reps H (Av c σ δ) vs ds→(match z2p ds with | some ts=>if z27 ts + ts.length * z.length≤16777216 then some (S.pure (.str (z3Q z ts))) else none | none=>none)=some s→z8J K (.str (toS z)) [x] H Q:=by
  intro a vs ds ea ha ra hp
  cases e:z2p ds with
  | none=>rw [e] at hp; cases hp
  | some ts =>
   rw [e] at hp
   simp only at hp
   split at hp
   ·rename_i hz
    simp only [W7] at hp
    subst hp
    have:=z2n e ra
    subst this
    refine ⟨toS z,a,ts.map toS,rfl,by rw [ea],?_,?_,?_⟩
    ·rw [Q2]; exact ha
    ·rw [Q2,WM,z1v]
     have:((fun x:Str=>x.length) ∘ toS)=fun x:Tx=>x.length:=funext fun x=>z1v x
     rw [this]
     exact hz
    ·rw [zaC]
     exact q _ H (.refl k) (.str _)
   ·cases hp
 cases d with
 | lst ds =>
  obtain ⟨a,vs,ea,ha,ra⟩:=rx.lst
  exact key a vs ds ea (.inl (.inl ha)) ra hp
 | tup ds =>
  obtain ⟨a,vs,ea,ha,ra⟩:=rx.tup
  exact key a vs ds ea (.inr (.of ha)) ra hp
 | _=>simp [z1L] at hp
theorem z5A {x:Str} {j} {p0 apos cpos:Pos} (z:Tx) (he:SB X c e fb) (hx:x=toS z:=by decide +kernel)
  (hbase:QI (.Constant (.str x) j p0) "join" X.env (eval (.Constant (.str x) j p0) X.env)=eval (.Constant (.str x) j p0) X.env:=by rfl)
  (hfew:((WW cpos (W6 [e] X.env)).all (fun x=>!x.1) && (backToKw cpos (J1 [] X.env)).all (fun x=>x.1.isSome)
   && decide ([e].length + ([]:List Keyword).length + (if ([]:List Keyword).isEmpty then 0 else 1) < 30))=true:=by rfl)
  (hline:(apos.endLine == cpos.line)=true:=by rfl) (hs:W6 [e] X.env=(false,eval e X.env) :: W6 [] X.env:=by rfl) :
  SE X c (.Call (.Attribute (.Constant (.str x) j p0) "join" apos) [e] [] cpos) (eC1 (z1L z) fb):=by
 subst hx
 refine PE.weak (z8S PySem.F.plainAttrs_str PySem.F.slot_str_join PySem.F.type_str_join zax z9D (z0Q he z1H hs) hbase hfew hline hs rfl) fun σ H Q h=>?_
 obtain ⟨δ,k,q⟩:=z5v (r:=fun x H Q=>z8J X.K (.str (toS z)) [x] H Q) (zaw z) h
 refine ⟨?_,δ,k,q⟩
 show ("str" : String) = "str"
 rfl
end
inductive Fl where
 | next | ret (r:S) | brk | cont
abbrev DS:=Dl→Rs Fl
def fin (c:Fc) (D:Ends) (σ:St) (δ:Dl) (H:Hp):Fl→Prop
 | .next=>D.nx σ H
 | .ret r=>∀ v,RepS c σ δ c.H₀ H v r→D.rt v H
 | .brk=>D.bk σ H
 | .cont=>D.ct σ H
def z2c (c:Fc) (D:Ends) (σ:St) (δ:Dl) (H:Hp) (r:Rs Fl):Prop:=post c r fun fl δ'=>∀ σ' H',Aft c σ δ H σ' δ' H'→fin c D σ' δ' H' fl
def tDS (c:Fc) (f:DS):TS:=fun D σ H=>∃ δ,Ok c σ δ H∧z2c c D σ δ H (f δ)
abbrev SS (X:Cx) (c:Fc) (st:Stmt) (f:DS):Prop:=PS X st (tDS c f)
abbrev SSs (X:Cx) (c:Fc) (st:List Stmt) (f:DS):Prop:=PSs X st (tDS c f)
theorem PS.weak {X:Cx} {st:Stmt} {t t':TS} (h:PS X st t) (w:∀ D σ H,t' D σ H→t D σ H):PS X st t':=fun pins s σ H D I q=>h pins s σ H D I (w D σ H q)
theorem PSs.weak {X:Cx} {st:List Stmt} {t t':TS} (h:PSs X st t) (w:∀ D σ H,t' D σ H→t D σ H):PSs X st t':=fun pins s σ H D I q=>h pins s σ H D I (w D σ H q)
def z1a:DS:=fun δ=>.ok .next δ
def dSeq (f g:DS):DS:=fun δ=>(f δ).bind fun fl δ1=>match fl with
 | .next=>g δ1
 | .ret r=>.ok (.ret r) δ1
 | .brk=>.ok .brk δ1
 | .cont=>.ok .cont δ1
def dDrop (f:DE):DS:=fun δ=>(f δ).bind fun _ δ1=>.ok .next δ1
def dRet (f:DE):DS:=fun δ=>(f δ).bind fun r δ1=>.ok (.ret r) δ1
def dIf (t:DT) (f g:DS):DS:=fun δ=>(t δ).bind fun b δ1=>if b then f δ1 else g δ1
def eRetN (np:List Nat) (i:Nat):DE:=fun δ=>match δ[i]? with
 | some (some (.own d))=>if np.contains i then .ok (.pure d) (δ.set i (some (.pure d))) else .ok (.own d) (δ.set i none)
 | some (some (.pure d))=>.ok (.pure d) δ
 | _=>.stuck
section
variable {X:Cx} {c:Fc} {st:Stmt} {sts:List Stmt} {e a:Expr} {f g:DS} {fe:DE} {t:DT} {pos pos':Pos}
theorem z1w:SSs X c [] z1a:=PSs.weak zag fun D σ H ⟨δ,k,q⟩=>q σ H (.refl k)
theorem z03 (h1:SS X c st f) (h2:SSs X c sts g):SSs X c (st :: sts) (dSeq f g):=PSs.weak (z3u h1 h2) fun D σ H ⟨δ,k,q⟩=>by
 unfold dSeq z2c at q
 rw [z01] at q
 refine ⟨δ,k,z00 q fun fl δ1 q1 σ1 H1 a1=>?_⟩
 cases fl with
 | next=>exact ⟨δ1,a1.ok,z00 q1 fun fl2 δ2 q2 σ2 H2 a2=>q2 σ2 H2 (a1.trans a2)⟩
 | ret r=>exact q1 σ1 H1 a1
 | brk=>exact q1 σ1 H1 a1
 | cont=>exact q1 σ1 H1 a1
theorem z0l (h1:SS X c st f):SSs X c [st] f:=PSs.weak (z7p h1) fun D σ H h=>h
theorem z0W (he:SE X c e fe):SS X c (.Return (some e) pos) (dRet fe):=PS.weak (z9z he) fun D σ H ⟨δ,k,q⟩=>by
 unfold dRet z2c at q
 rw [z01] at q
 exact ⟨δ,k,z00 q fun r δ1 q1 v H1 a1 r1=>q1 σ H1 a1 v r1.home⟩
theorem z2H {b1 b2:List Stmt} (ht:ST X c e t) (h1:SSs X c b1 f) (h2:SSs X c b2 g):SS X c (.If e b1 b2 pos) (dIf t f g):=PS.weak (ps_if ht h1 h2) fun D σ H ⟨δ,k,q⟩=>by
 unfold dIf z2c at q
 rw [z01] at q
 refine ⟨δ,k,z00 q fun b δ1 q1 H1 a1=>?_⟩
 cases b with
 | true=>exact ⟨δ1,a1.ok,z00 q1 fun fl δ2 q2 σ2 H2 a2=>q2 σ2 H2 (a1.trans a2)⟩
 | false=>exact ⟨δ1,a1.ok,z00 q1 fun fl δ2 q2 σ2 H2 a2=>q2 σ2 H2 (a1.trans a2)⟩
theorem Own.of_set (h:Own (σ.set i (some v)) (δ.set i (some r)) b):Own σ δ b∨(v = .ref b∧∃ d,r = .own d):=by
 obtain ⟨j,d,e1,e2⟩:=h
 by_cases hj:i=j
 ·subst hj
  right
  rw [WP] at e1 e2
  simp at e1 e2
  obtain ⟨_,h1⟩:=e1
  obtain ⟨_,h2⟩:=e2
  exact ⟨h2,d,h1⟩
 ·rw [W8 hj] at e1 e2
  exact .inl ⟨j,d,e1,e2⟩
theorem Ok.set (x:Aft c σ₀ δ₀ H₁ σ δ H) (hr:RepS c σ δ H₁ H v r) (hp:∀ p ∈ c.pin,p.1≠i):Aft c σ₀ δ₀ H₁ (σ.set i (some v)) (δ.set i (some r)) H:=by
 have k:=x.ok
 -- all slots avoid the new address,too
 have all:∃ c':Fc,c'.H₀=c.H₀∧c'.pin=c.pin∧Ok c' σ δ H∧(∀ b,Av c (σ.set i (some v)) (δ.set i (some r)) b→Av c' σ δ b):=by
  cases r with
  | pure d =>
   refine ⟨c,rfl,rfl,k,fun b z=>?_⟩
   rcases z with z | z
   ·exact .inl z
   ·rcases z.of_set with z | ⟨_,d',e⟩
    ·exact .inr z
    ·cases e
  | own d =>
   obtain ⟨a,ea,o,n,f,k2,_⟩:=hr
   refine ⟨c.plus a,rfl,rfl,k2,fun b z=>?_⟩
   rcases z with z | z
   ·exact .inl (.inl z)
   ·rcases z.of_set with z | ⟨e,_⟩
    ·exact .inr z
    ·rw [ea] at e; cases e
     exact .inl (.inr rfl)
 obtain ⟨c',eH,eP,k2,sub⟩:=all
 have eI:∀ a,c'.I a ↔ c.I a:=fun a=>by unfold Fc.I; rw [eP]
 have hrep:Rep H (Av c (σ.set i (some v)) (δ.set i (some r))) v r.d∨∃ d,r = .own d:=by
  cases r with
  | pure d =>
   left
   refine Rep.anti hr fun b z=>?_
   rcases z with z | z
   ·exact .inl (.inl z)
   ·rcases z.of_set with z | ⟨_,d',e⟩
    ·exact .inl (.inr z)
    ·cases e
  | own d=>exact .inr ⟨d,rfl⟩
 refine ⟨⟨k.keep,k.bd,k.ith,by rw [Q6,Q6]; exact k.len,fun j d e=>?_,fun j d e=>?_,fun j l a d d' e1 e2 e3 e4=>?_,fun p hm=>?_⟩,x.keep,fun b z=>?_,x.there⟩
 ·by_cases hj:i=j
  ·subst hj
   rw [WP] at e
   simp at e
   obtain ⟨hi,rfl⟩:=e
   have hi':i < σ.length:=by rw [← k.len]; exact hi
   rcases hrep with h | ⟨_,h⟩
   ·exact ⟨v,by rw [Wm hi'],h⟩
   ·cases h
  ·rw [W8 hj] at e
   obtain ⟨w,e1,q⟩:=k2.slot j d e
   exact ⟨w,by rw [W8 hj]; exact e1,q.anti fun b z=>.inl (sub b z)⟩
 ·by_cases hj:i=j
  ·subst hj
   rw [WP] at e
   simp at e
   obtain ⟨hi,rfl⟩:=e
   have hi':i < σ.length:=by rw [← k.len]; exact hi
   obtain ⟨a,ea,o,n,f,k3,_⟩:=hr
   refine ⟨a,by rw [Wm hi',ea],o.anti fun b z=>.inl ?_,.inr f,n⟩
   rcases z with z | z
   ·exact .inl (.inl z)
   ·rcases z.of_set with z | ⟨e,_⟩
    ·exact .inr z
    ·rw [ea] at e; cases e
     exact .inl (.inr rfl)
  ·rw [W8 hj] at e
   obtain ⟨a,e1,q,q2,q3⟩:=k.own j d e
   obtain ⟨a',e1',q',_,_⟩:=k2.own j d e
   rw [e1] at e1'; cases e1'
   exact ⟨a,by rw [W8 hj]; exact e1,q'.anti fun b z=>.inl (sub b z),q2,q3⟩
 ·by_cases hj:i=j
  ·subst hj
   by_cases hl:i=l
   ·exact hl
   ·rw [W8 hl] at e2 e4
    rw [WP] at e1 e3
    simp at e1 e3
    obtain ⟨_,rfl⟩:=e1
    obtain ⟨_,rfl⟩:=e3
    obtain ⟨a',ea,o,n,f,k3,_⟩:=hr
    cases ea
    exact absurd ⟨l,d',e2,e4⟩ (z2O k3)
  ·rw [W8 hj] at e1 e3
   by_cases hl:i=l
   ·subst hl
    rw [WP] at e2 e4
    simp at e2 e4
    obtain ⟨_,rfl⟩:=e2
    obtain ⟨_,rfl⟩:=e4
    obtain ⟨a',ea,o,n,f,k3,_⟩:=hr
    cases ea
    exact absurd ⟨j,d,e1,e3⟩ (z2O k3)
   ·rw [W8 hl] at e2 e4
    exact k.inj j l a d d' e1 e2 e3 e4
 ·rw [W8 (Ne.symm (hp p hm))]
  exact k.pinned p hm
 ·rcases z.of_set with z | ⟨e,d,ed⟩
  ·exact x.own b z
  ·subst ed
   obtain ⟨a,ea,_,_,_,_,hs⟩:=hr
   rw [ea] at e; cases e
   exact .inr hs
abbrev DG:=S→Dl→Option Dl
def tGD (c:Fc) (g:DG):TG:=fun v σ H Q=>∃ σ₀ δ₀ H₁ δ r δ',Aft c σ₀ δ₀ H₁ σ δ H∧RepS c σ δ H₁ H v r∧g r δ=some δ'∧∀ σ',Aft c σ₀ δ₀ H₁ σ' δ' H→Q σ' H
abbrev SG (X:Cx) (c:Fc) (tg:Expr) (g:DG):Prop:=PG X tg (tGD c g)
def gNm (np:List Nat) (i:Nat):DG:=fun r δ=>if np.contains i then none else some (δ.set i (some r))
def Np (c:Fc) (np:List Nat):Prop:=∀ p ∈ c.pin,np.contains p.1=true
theorem z4I (hp:Np c np) (h:tGD c (gNm np i) v σ H Q):z98 i v σ H Q:=by
 obtain ⟨σ₀,δ₀,H₁,δ,r,δ',x,rr,e,q⟩:=h
 unfold gNm at e
 split at e
 ·cases e
 ·rename_i hn
  cases e
  exact q _ (Ok.set x rr fun p hm e=>hn (by rw [← e]; exact hp p hm))
theorem PG.weak {tg:Expr} {t t':TG} (h:PG X tg t) (w:∀ v σ H Q,t' v σ H Q→t v σ H Q):PG X tg t':=fun pins s σ H v u Q I r q=>h pins s σ H v u Q I r (w v σ H Q q)
theorem PGs.weak {tg:List Expr} {t t':TGs} (h:PGs X tg t) (w:∀ v σ H Q,t' v σ H Q→t v σ H Q):PGs X tg t':=fun pins s σ H v u Q I r q=>h pins s σ H v u Q I r (w v σ H Q q)
theorem z12 {np:List Nat} {i:Nat} {x:Str} (hp:Np c np) (hN:X.N.Nodup) (hi:X.N[i]? = some x) (hx:Loc X.env.scope x) (hf:X.fn x=true∨X.env.scope.names.lookup x=some .local):SG X c (.Name x pos) (gNm np i) :=
 PG.weak (z7v hN hi hx hf) fun v σ H Q h=>z4I hp h
abbrev DGs:=List D→Dl→Option Dl
def tGDs (c:Fc) (g:DGs):TGs:=fun vs σ H Q=>∃ δ ds δ',Ok c σ δ H∧Reps H (Av c σ δ) vs ds∧g ds δ=some δ'∧∀ σ',Aft c σ δ H σ' δ' H→Q σ' H
abbrev SGs (X:Cx) (c:Fc) (tg:List Expr) (g:DGs):Prop:=PGs X tg (tGDs c g)
def z0R:DGs:=fun ds δ=>match ds with
 | []=>some δ
 | _=>none
def z05 (g:DG) (gs:DGs):DGs:=fun ds δ=>match ds with
 | []=>none
 | d :: r=>(g (.pure d) δ).bind fun δ1=>gs r δ1
theorem z4v:SGs X c [] z0R:=PGs.weak z7u fun vs σ H Q ⟨δ,ds,δ',k,r,e,q⟩=>by
 cases ds with
 | nil =>
  cases e
  have:vs=[]:=by have:=r.1; simpa using this
  exact ⟨this,q σ (.refl k)⟩
 | cons d r=>cases e
theorem z1F {es:List Expr} {g:DG} {gs:DGs} (h1:SG X c e g) (h2:SGs X c es gs) (hs:(WS (e :: es) X.env).map (·.2)=assign e X.env :: (WS es X.env).map (·.2):=by rfl):SGs X c (e :: es) (z05 g gs) :=
 PGs.weak (z6b h1 h2 hs) fun vs σ H Q ⟨δ,ds,δ',k,r,e,q⟩=>by
  cases ds with
  | nil=>cases e
  | cons d ds =>
   cases vs with
   | nil=>have:=r.1; simp at this
   | cons v vs =>
    simp only [z05] at e
    cases e1:g (.pure d) δ with
    | none=>rw [e1] at e; cases e
    | some δ1 =>
     rw [e1] at e
     refine ⟨v,vs,rfl,σ,δ,H,δ,.pure d,δ1,.refl k,r.head,e1,fun σ1 a1=>?_⟩
     exact ⟨δ1,ds,δ',a1.ok,Reps.aft r.tail a1,e,fun σ2 a2=>q σ2 (a1.trans a2)⟩
def gTp (n:Nat) (gs:DGs):DG:=fun r δ=>match r.d with
 | .tup ds=>if ds.length=n then gs ds δ else none
 | _=>none
theorem z65 {es:List Expr} {k:Nat} {gs:DGs} {n:Nat} (hc:X.calm=true) (h:SGs X c es gs) (hn:(WS es X.env).length=n:=by rfl) (hst:(WS es X.env).findIdx? (·.1)=none:=by rfl) :
  SG X c (.Tuple es k pos) (gTp n gs):=PG.weak (z9B hc h hn hst) fun v σ H Q hw=>by
 obtain ⟨σ₀,δ₀,H₁,δ,r,δ',x,rr,e,q⟩:=hw
 have hb:=rr.b
 unfold gTp at e
 generalize r.d=d at e hb
 cases d <;> first | (cases e; done) | skip
 rename_i ds
 simp only at e
 split at e
 ·rename_i hl
  obtain ⟨a,vs,ea,ha,ra⟩:=hb.tup
  exact ⟨a,vs,ea,.of ha,by rw [ra.1]; exact hl,δ,ds,δ',x.ok,ra,e,fun σ' a1=>q σ' (x.trans a1)⟩
 ·cases e
def dAsg (f:DE) (g:DG):DS:=fun δ=>(f δ).bind fun r δ1=>match g r δ1 with
 | some δ2=>.ok .next δ2
 | none=>.stuck
theorem z4Q {g:DG} {D:Ends} {σ:St} {H:Hp} {te:TE} {tg:TG} (he:∀ σ H Q,tD c fe σ H Q→te σ H Q) (hg:∀ v σ H Q,tGD c g v σ H Q→tg v σ H Q) (h:tDS c (dAsg fe g) D σ H):tAsg te tg D σ H:=by
 obtain ⟨δ,k,q⟩:=h
 unfold dAsg z2c at q
 rw [z01] at q
 refine he _ _ _ ⟨δ,k,z00 q fun r δ1 q1 v H1 a1 r1=>hg _ _ _ _ ?_⟩
 cases e:g r δ1 with
 | none=>rw [e] at q1; exact q1.elim
 | some δ2 =>
  rw [e] at q1
  exact ⟨σ,δ,H,δ1,r,δ2,a1,r1,e,fun σ' a2=>q1 σ' H1 a2⟩
theorem z9u {tg:Expr} {g:DG} (he:SE X c e fe) (hg:SG X c tg g) (hs:swapsWithSole [tg] e pos.line X.env=pure false:=by rfl) (hw:swappedStores [tg] e X.env=pure none:=by rfl)
  (h1:(WS [tg] X.env).map (·.2)=[assign tg X.env]:=by rfl):SS X c (.Assign [tg] e pos) (dAsg fe g):=PS.weak (z7q he hg hs hw h1) fun D σ H h=>z4Q (fun _ _ _ h=>h) (fun _ _ _ _ h=>h) h
theorem z0t {np:List Nat} {i:Nat} {x:Str} (hp:Np c np) (hN:X.N.Nodup) (hi:X.N[i]? = some x) (hx:Loc X.env.scope x) (he:SE X c e fe) (hs:Jc e (some (.Name x pos')) pos.line X.env=pure false) (hf:X.fn x=true∨X.env.scope.names.lookup x=some .local) :
  SS X c (.Assign [.Name x pos'] e pos) (dAsg fe (gNm np i)):=PS.weak (zbx hN hi hx he hs hf) fun D σ H h=>z4Q (fun _ _ _ h=>h) (fun _ _ _ _ h=>z4I hp h) h
theorem Ok.mutL {σ:St} {δ:Dl} {H:Hp} {i:Nat} {ds ds':List D} {a:Addr} {vs':List V} (k:Ok c σ δ H) (e:δ[i]? = some (some (.own (.lst ds)))) (ea:σ[i]? = some (some (.ref a))) (r:Reps H (Av c σ δ) vs' ds') :
  Aft c σ δ H σ (δ.set i (some (.own (.lst ds')))) (upd H a (.lst vs')):=by
 have hi:i < δ.length:=(W3.mp e).1
 obtain ⟨a',ea',oa,ia,nb⟩:=k.own i _ e
 rw [ea] at ea'; cases ea'
 obtain ⟨vs,ha,_⟩:=oa
 have ownA:Own σ δ a:=⟨i,_,e,ea⟩
 have avA:Av c σ δ a:=.inr ownA
 have own_iff:∀ b,Own σ (δ.set i (some (.own (.lst ds')))) b ↔ Own σ δ b:=fun b=>by
  constructor
  ·rintro ⟨j,d,e1,e2⟩
   by_cases hj:i=j
   ·subst hj
    exact ⟨i,_,e,e2⟩
   ·rw [W8 hj] at e1
    exact ⟨j,d,e1,e2⟩
  ·rintro ⟨j,d,e1,e2⟩
   by_cases hj:i=j
   ·subst hj
    exact ⟨i,_,by rw [Wm hi],e2⟩
   ·exact ⟨j,d,by rw [W8 hj]; exact e1,e2⟩
 have av_iff:∀ b,Av c σ (δ.set i (some (.own (.lst ds')))) b→Av c σ δ b:=fun b z=>z.elim .inl fun z=>.inr ((own_iff b).mp z)
 have ne:∀ b,¬ Av c σ δ b→b≠a:=fun b n z=>n (by rw [z]; exact avA)
 have kp:∀ b o,H b=some o→¬ Av c σ δ b→upd H a (.lst vs') b=some o:=fun b o h n=>by rw [z09 (ne b n)]; exact h
 have hup:∀ b o,H b=some o→∃ o',upd H a (.lst vs') b=some o':=fun b o h=>by
  by_cases hb:b=a
  ·exact ⟨_,by rw [hb]; exact z0G⟩
  ·exact ⟨o,by rw [z09 hb]; exact h⟩
 refine ⟨⟨fun b o h n=>?_,fun b z=>?_,fun b z=>?_,by rw [Q6]; exact k.len,fun j d h=>?_,fun j d h=>?_,fun j l b d d' h1 h2 h3 h4=>?_,k.pinned⟩,fun b o h n=>?_,fun b z=>.inl ((own_iff b).mp z),hup⟩
 ·have hb:b≠a:=fun z=>by
   subst z
   rcases ia with z | z
   ·exact n z
   ·rw [z] at h; cases h
  rw [z09 hb]
  exact k.keep b o h n
 ·obtain ⟨o,h⟩:=k.bd b z
  exact hup b o h
 ·obtain ⟨o,h⟩:=k.ith b z
  exact hup b o h
 ·have hj:i≠j:=fun z=>by subst z; rw [Wm hi] at h; cases h
  rw [W8 hj] at h
  obtain ⟨v,h1,h2⟩:=k.slot j d h
  exact ⟨v,h1,(h2.keep kp).anti fun b z=>.inl (av_iff b z)⟩
 ·by_cases hj:i=j
  ·subst hj
   rw [Wm hi] at h
   cases h
   exact ⟨a,ea,⟨vs',z0G,Reps.anti (Reps.keep r kp) fun b z=>.inl (av_iff b z)⟩,ia,nb⟩
  ·rw [W8 hj] at h
   obtain ⟨b,h1,h2,h3,h4⟩:=k.own j d h
   have hb:b≠a:=fun z=>by subst z; exact hj (k.inj i j b _ d e h ea h1)
   exact ⟨b,h1,(h2.keep kp fun o q=>by rw [z09 hb]; exact q).anti fun b z=>.inl (av_iff b z),h3,h4⟩
 ·have f1:∃ d,δ[j]? = some (some (.own d)):=by
   by_cases hj:i=j
   ·subst hj; exact ⟨_,e⟩
   ·rw [W8 hj] at h1; exact ⟨d,h1⟩
  have f2:∃ d,δ[l]? = some (some (.own d)):=by
   by_cases hj:i=l
   ·subst hj; exact ⟨_,e⟩
   ·rw [W8 hj] at h2; exact ⟨d',h2⟩
  obtain ⟨_,f1⟩:=f1
  obtain ⟨_,f2⟩:=f2
  exact k.inj j l b _ _ f1 f2 h3 h4
 ·have hb:b≠a:=fun z=>n (by rw [z]; exact ownA)
  rw [z09 hb]; exact h
def z1R (δ:Dl) (i:Nat):Bool:=match δ[i]? with
 | some (some (.own (.lst _)))=>true
 | _=>false
def putL (δ:Dl) (i:Nat) (f:List D→Option (List D)):Rs Fl:=match δ[i]? with
 | some (some (.own (.lst ds)))=>match f ds with
  | some ds'=>.ok .next (δ.set i (some (.own (.lst ds'))))
  | none=>.stuck
 | _=>.stuck
theorem z5c (h:z1R δ i=true):∃ ds,δ[i]? = some (some (.own (.lst ds))):=by
 unfold z1R at h
 split at h
 ·rename_i ds e; exact ⟨ds,e⟩
 ·cases h
theorem z52 {δ:Dl} {i:Nat} {g:List D→Option (List D)} {kk:Fl→Dl→Prop} (h:post c (putL δ i g) kk):∃ ds ds',δ[i]? = some (some (.own (.lst ds)))∧g ds=some ds'∧kk .next (δ.set i (some (.own (.lst ds')))):=by
 unfold putL at h
 split at h
 ·rename_i ds e
  split at h
  ·rename_i ds' e2
   exact ⟨ds,ds',e,e2,h⟩
  ·exact h.elim
 ·exact h.elim
def z0I (i:Nat) (f:DE):DS:=fun δ=>if z1R δ i then (f δ).bind fun r δ1=>putL δ1 i fun ds=>if ds.length < W9 then some (ds ++ [r.d]) else none else .stuck
theorem z70 {i:Nat} {o:Expr} {p0 apos cpos:Pos} (ho:PE X o (tVar i)) (he:SE X c e fe)
  (h:PS X (.Expr (.Call (.Attribute o "append" apos) [e] [] cpos) pos) (zaX (tBM X.K "list" z7n (tVar i) (zaZ (tD c fe) tNil)))):SS X c (.Expr (.Call (.Attribute o "append" apos) [e] [] cpos) pos) (z0I i fe) :=
 PS.weak h fun D σ H ⟨δ,k,q⟩=>by
  unfold z0I z2c at q
  split at q
  ·rename_i hown
   obtain ⟨ds0,e0⟩:=z5c hown
   rw [z01] at q
   obtain ⟨a,ea,oa,_⟩:=k.own i _ e0
   refine ⟨.ref a,ea,?_,δ,k,z00 q fun r δ1 q1 v H1 a1 r1=>?_⟩
   ·obtain ⟨vs,ha,_⟩:=oa
    exact .inl ⟨rfl,vs,.of ha⟩
   ·obtain ⟨ds,ds',e1,e2,q2⟩:=z52 q1
    split at e2
    ·rename_i hz
     cases e2
     obtain ⟨a',ea',oa1,_⟩:=a1.ok.own i _ e1
     rw [ea] at ea'; cases ea'
     obtain ⟨vs,ha,ra⟩:=id oa1
     refine ⟨a,vs,v,rfl,rfl,ha,by rw [ra.1]; exact hz,?_⟩
     exact q2 σ _ (a1.trans (Ok.mutL a1.ok e1 ea (ra.append (.cons r1.rep .nil))))
    ·cases e2
  ·exact q.elim
def z6K (i:Nat) (fi:DE) (fe:DE):DS:=fun δ=>if z1R δ i then (fe δ).bind fun r δ1=>(fi δ1).bind fun k δ2=>match k with
 | .pure (.int j)=>putL δ2 i fun ds=>(ixN ds.length j).map fun n=>ds.set n r.d
 | _=>.stuck else .stuck
theorem z6Z {i:Nat} {o ix:Expr} {fi:DE} {sp:Pos} (ho:PE X o (tVar i)) (hi:SE X c ix fi) (he:SE X c e fe)
  (ha:∀ v,assign (.Subscript o ix sp) X.env v=(do
   let ov ← holding [v] (eval o X.env)
   let iv ← holding [v,ov] (eval ix X.env)
   standAt sp
   holding [v,ov,iv] (setItem ov iv v)
   release [v,ov,iv] []):=by intro _; rfl)
  (hs:swapsWithSole [.Subscript o ix sp] e pos.line X.env=pure false:=by rfl) (hw:swappedStores [.Subscript o ix sp] e X.env=pure none:=by rfl)
  (h1:(WS [.Subscript o ix sp] X.env).map (·.2)=[assign (.Subscript o ix sp) X.env]:=by rfl):SS X c (.Assign [.Subscript o ix sp] e pos) (z6K i fi fe) :=
 PS.weak (z7q he (z9C ho hi z66 ha) hs hw h1) fun D σ H ⟨δ,k,q⟩=>by
  unfold z6K z2c at q
  split at q
  ·rename_i hown
   obtain ⟨ds0,e0⟩:=z5c hown
   rw [z01] at q
   obtain ⟨a,ea,_,_⟩:=k.own i _ e0
   refine ⟨δ,k,z00 q fun r δ1 q1 v H1 a1 r1=>⟨.ref a,ea,δ1,a1.ok,?_⟩⟩
   rw [z01] at q1
   refine z00 q1 fun kx δ2 q2 u H2 a2 r2=>?_
   cases kx with
   | own d=>exact q2.elim
   | pure d =>
    cases d <;> first | exact q2.elim | skip
    rename_i j
    cases r2
    obtain ⟨ds,ds',e1,e2,q3⟩:=z52 q2
    cases e3:ixN ds.length j with
    | none=>rw [e3] at e2; cases e2
    | some n =>
     rw [e3] at e2
     cases e2
     obtain ⟨a',ea',oa1,_⟩:=a2.ok.own i _ e1
     rw [ea] at ea'; cases ea'
     obtain ⟨vs,ha,ra⟩:=id oa1
     refine ⟨a,vs,j,n,rfl,rfl,ha,by rw [ra.1]; exact e3,?_⟩
     exact q3 σ _ (a1.trans (a2.trans (Ok.mutL a2.ok e1 ea (ra.set (Rep.aft r1.rep a2) n))))
  ·exact q.elim
end
abbrev DI:=Dl→Rs (List D)
def ItOk (c:Fc) (σ:St) (δ:Dl) (H:Hp) (J:It) (ds:List D):Prop:=∀ H2,(∀ a o,H a=some o→¬ Own σ δ a→H2 a=some o)→J.stop ds.length H2 ∧
 ∀ (i:Nat) d,ds[i]? = some d→J.go i H2∧∀ x H3,J.yld i H2 x H3→(H3=H2∧Rep H (Av c σ δ) x d) ∨
  ∃ p vs es,H2 p=none∧H3=upd H2 p (.tup vs)∧x = .ref p∧d = .tup es∧Reps H (Av c σ δ) vs es
def tI (c:Fc) (f:DI):TI:=fun σ H R=>∃ δ,Ok c σ δ H∧post c (f δ) fun ds δ'=>∀ J H',Aft c σ δ H σ δ' H'→ItOk c σ δ' H' J ds→R J H'
abbrev SI (X:Cx) (c:Fc) (tg iter:Expr) (f:DI):Prop:=PI X tg iter (tI c f)
theorem PI.weak (h:PI X tg iter t) (w:∀ σ H R,t' σ H R→t σ H R):PI X tg iter t':=fun pins s σ H R I q=>h pins s σ H R I (w σ H R q)
section
variable {X:Cx} {c:Fc} {tg e:Expr} {fe:DE} {pos pp:Pos}
theorem zc4 (K:W1) (h:H a=some (.tup vs)) (n:¬ Own σ δ a) (r:Reps H (Av c σ δ) vs ds):ItOk c σ δ H (Itt K a) ds:=by
 intro H2 kp
 have h2:=kp a _ h n
 refine ⟨⟨vs,.of h2,by rw [r.1]; exact Wf _⟩,fun i d e=>?_⟩
 obtain ⟨v,ev,rv⟩:=r.get e
 refine ⟨⟨vs,v,.of h2,ev⟩,fun x H3 ⟨e3,y⟩=>.inl ⟨e3,?_⟩⟩
 have:=y vs (.of h2)
 rw [ev] at this
 cases this
 exact rv
def z0n (lo:Int) (n:Nat):List D:=(Wx n).map fun k:Nat=>D.int (lo + k)
theorem z6y {lo:Int} {n i:Nat} {d:D} (h:(z0n lo n)[i]? = some d):i < n∧d = .int (lo + i):=by
 unfold z0n at h
 rw [Wu] at h
 by_cases hi:i < n
 ·rw [List.getElem?_range hi] at h
  simp at h
  exact ⟨hi,h.symm⟩
 ·rw [WB (by simpa using hi)] at h
  cases h
theorem z94 (lo:Int) (n:Nat):ItOk c σ δ H (Itr lo n) (z0n lo n):=by
 intro H2 kp
 refine ⟨by show n≤(z0n lo n).length; simp [z0n],fun i d e=>?_⟩
 obtain ⟨hi,rfl⟩:=z6y e
 exact ⟨hi,fun x H3 ⟨e3,ex⟩=>.inl ⟨e3,by rw [ex]; exact .int _⟩⟩
def z4e (j:Int):Bool:=decide (-(2 ^ 62)≤j) && decide (j < 2 ^ 62)
def z0E (f:DE):DI:=fun δ=>(f δ).bind fun r δ1=>match r with
 | .pure (.int j)=>if z4e j then .ok (z0n 0 j.toNat) δ1 else .stuck
 | _=>.stuck
theorem z1e (hg:Gl X "range") (hm:X.mg "range" = none) (he:SE X c e fe) (hs:W6 [e] X.env=[(false,eval e X.env)]:=by rfl):SI X c tg (.Call (.Name "range" pp) [e] [] pos) (z0E fe) :=
 PI.weak (z7t hg hm (z0Q he z1H hs) hs) fun σ H R ⟨δ,k,q⟩=>by
  unfold z0E at q
  rw [z01] at q
  refine ⟨δ,k,z00 q fun r δ1 q1 v H1 a1 r1=>?_⟩
  cases r with
  | own d=>exact q1.elim
  | pure d =>
   cases d <;> first | exact q1.elim | skip
   rename_i j
   cases r1
   simp only at q1
   split at q1
   ·rename_i hj
    unfold z4e at hj
    simp only [Ws,decide_eq_true_eq] at hj
    exact ⟨j,rfl,hj.1,hj.2,q1 _ H1 a1 (z94 0 j.toNat)⟩
   ·exact q1.elim
def forL (g:DG) (b:DS):List D→DS
 | [],δ=>.ok .next δ
 | d :: r,δ=>match g (.pure d) δ with
  | none=>.stuck
  | some δ1=>(b δ1).bind fun fl δ2=>match fl with
   | .next=>forL g b r δ2
   | .cont=>forL g b r δ2
   | .brk=>.ok .next δ2
   | .ret v=>.ok (.ret v) δ2
def dFor (it:DI) (g:DG) (b:DS):DS:=fun δ=>(it δ).bind fun ds δ1=>forL g b ds δ1
theorem z5X (io:ItOk c σ δ H J ds) (a:Aft c σ δ H σ2 δ2 H2) (e:ds[i]? = some d) (y:J.yld i H2 x H3):Aft c σ2 δ2 H2 σ2 δ2 H3∧Rep H3 (Av c σ2 δ2) x d:=by
 obtain ⟨_,t⟩:=io H2 a.keep
 rcases (t i d e).2 x H3 y with ⟨e3,r⟩ | ⟨p,vs,es,hp,e3,ex,ed,r⟩
 ·subst e3
  exact ⟨.refl a.ok,Rep.aft r a⟩
 ·subst e3 ex ed
  have:=RepS.newT a.ok (Reps.aft r a) hp
  exact ⟨.alloc a.ok hp _,this⟩
theorem z2I {iter:Expr} {body:List Stmt} {it:DI} {g:DG} {b:DS} (hp:PassesOwn (model X.prog X.w) X.A X.env X.xe) (hc:X.calm=true) (hi:SI X c tg iter it) (hg:SG X c tg g) (hb:SSs X c body b)
  (hs:∀ x,Qq iter X.env x=pure x:=by intro _; rfl):SS X c (.For tg iter body [] pos) (dFor it g b):=PS.weak (z9A hp hc hi hg hb hs) fun D σ H ⟨δ,k,q⟩=>by
 unfold dFor z2c at q
 rw [z01] at q
 refine ⟨δ,k,z00 q fun ds δ1 q1 J H1 a1 io=>?_⟩
 refine ⟨fun i m σ2 H2=>∃ δ2,m=ds.length - i∧i≤ds.length∧Aft c σ δ1 H1 σ2 δ2 H2∧z2c c D σ2 δ2 H2 (forL g b (ds.drop i) δ2),⟨ds.length,δ1,by simp,QB _,.refl a1.ok,?_⟩,?_⟩
 ·rw [List.drop_zero]
  exact z00 q1 fun fl δ2 q2 σ2 H2 a2=>q2 σ2 H2 (a1.trans a2)
 ·rintro i m σ2 H2 ⟨δ2,rfl,hil,a2,p2⟩
  by_cases hlt:i < ds.length
  ·right
   have e:ds[i]? = some ds[i]:=by simp [hlt]
   rw [QA hlt] at p2
   refine ⟨((io H2 a2.keep).2 i _ e).1,fun σ4 H4=>∃ δ4,Aft c σ δ1 H1 σ4 δ4 H4∧z2c c D σ4 δ4 H4 (forL g b (ds.drop (i + 1)) δ4),fun σ4 H4 ⟨δ4,a4,p4⟩=>⟨ds.length - (i + 1),by omega,δ4,rfl,hlt,a4,p4⟩,fun x H3 y=>?_⟩
   obtain ⟨a3,r3⟩:=z5X io a2 e y
   simp only [forL,z2c] at p2
   cases eg:g (.pure ds[i]) δ2 with
   | none=>rw [eg] at p2; exact p2.elim
   | some δ3 =>
    rw [eg] at p2
    refine ⟨σ2,δ2,H3,δ2,.pure ds[i],δ3,.refl a3.ok,r3,eg,fun σ3 a3'=>?_⟩
    have p3:post c ((b δ3).bind fun fl δ2=>match fl with
     | .next=>forL g b (ds.drop (i + 1)) δ2
     | .cont=>forL g b (ds.drop (i + 1)) δ2
     | .brk=>.ok .next δ2
     | .ret v=>.ok (.ret v) δ2) fun fl δ'=>∀ σ' H',Aft c σ2 δ2 H2 σ' δ' H'→fin c D σ' δ' H' fl:=p2
    rw [z01] at p3
    have a23:Aft c σ2 δ2 H2 σ3 δ3 H3:=a3.trans a3'
    refine ⟨δ3,a3'.ok,z00 p3 fun fl δ4 p4 σ4 H4 a4=>?_⟩
    have a24:=a23.trans a4
    cases fl with
    | next=>exact ⟨δ4,a2.trans a24,z00 p4 fun fl δ5 p5 σ5 H5 a5=>p5 σ5 H5 (a24.trans a5)⟩
    | cont=>exact ⟨δ4,a2.trans a24,z00 p4 fun fl δ5 p5 σ5 H5 a5=>p5 σ5 H5 (a24.trans a5)⟩
    | brk=>exact p4 σ4 H4 a24
    | ret r=>exact p4 σ4 H4 a24
  ·left
   have hi2:i=ds.length:=by omega
   subst hi2
   rw [List.drop_length] at p2
   exact ⟨(io H2 a2.keep).1,p2 σ2 H2 (.refl a2.ok)⟩
def z1r (t:DT) (b:DS):Nat→DS
 | 0,_=>.stuck
 | n + 1,δ=>(t δ).bind fun x δ1=>if x then (b δ1).bind fun fl δ2=>match fl with
   | .next=>z1r t b n δ2
   | .cont=>z1r t b n δ2
   | .brk=>.ok .next δ2
   | .ret v=>.ok (.ret v) δ2
  else .ok .next δ1
theorem z8A {e:Expr} {body:List Stmt} {t:DT} {b:DS} (n:Nat) (hw:∀ {tt:TT} {tb:TS},PT X e tt→PSs X body tb→PS X (.While e body [] pos) (z9s tt tb)) (ht:ST X c e t) (hb:SSs X c body b):SS X c (.While e body [] pos) (z1r t b n) :=
 PS.weak (hw ht hb) fun D σ H ⟨δ,k,q⟩=>by
  refine ⟨fun m σ2 H2=>∃ δ2,Ok c σ2 δ2 H2∧z2c c D σ2 δ2 H2 (z1r t b m δ2),⟨n,δ,k,q⟩,?_⟩
  rintro m σ2 H2 ⟨δ2,k2,q2⟩
  cases m with
  | zero=>exact q2.elim
  | succ m =>
   simp only [z1r,z2c] at q2
   rw [z01] at q2
   refine ⟨δ2,k2,z00 q2 fun x δ3 q3 H3 a3=>?_⟩
   cases x with
   | false=>exact q3 σ2 H3 a3
   | true =>
    have p3:post c ((b δ3).bind fun fl δ2=>match fl with
     | .next=>z1r t b m δ2
     | .cont=>z1r t b m δ2
     | .brk=>.ok .next δ2
     | .ret v=>.ok (.ret v) δ2) fun fl δ'=>∀ σ' H',Aft c σ2 δ2 H2 σ' δ' H'→fin c D σ' δ' H' fl:=q3
    rw [z01] at p3
    refine ⟨fun σ4 H4=>∃ δ4,Ok c σ4 δ4 H4∧z2c c D σ4 δ4 H4 (z1r t b m δ4),fun σ4 H4 w=>⟨m,Nat.lt_succ_self _,w⟩,δ3,a3.ok,z00 p3 fun fl δ4 p4 σ4 H4 a4=>?_⟩
    have a24:=a3.trans a4
    cases fl with
    | next=>exact ⟨δ4,a4.ok,z00 p4 fun fl δ5 p5 σ5 H5 a5=>p5 σ5 H5 (a24.trans a5)⟩
    | cont=>exact ⟨δ4,a4.ok,z00 p4 fun fl δ5 p5 σ5 H5 a5=>p5 σ5 H5 (a24.trans a5)⟩
    | brk=>exact p4 σ4 H4 a24
    | ret r=>exact p4 σ4 H4 a24
end
def clrD (cs:List Nat) (δ:Dl):Dl:=cs.foldl (fun δ i=>δ.set i none) δ
def z0S (cs:List Nat) (δ₁ δ:Dl):Dl:=cs.foldl (fun δ i=>match δ₁[i]? with | some o=>δ.set i o | none=>δ) δ
def z0q (δ:Dl) (i:Nat):Bool:=match δ[i]? with
 | some (some (.own _))=>true
 | _=>false
theorem z6m (cs:List Nat):∀ δ:Dl,(clrD cs δ).length=δ.length:=by
 induction cs with
 | nil=>intro δ; rfl
 | cons i r ih =>
  intro δ
  show (clrD r (δ.set i none)).length=_
  rw [ih]; simp
theorem z18:∀ (cs:List Nat) (δ:Dl) (i:Nat) (v:S),(clrD cs δ)[i]? = some (some v)→δ[i]? = some (some v)∧i ∉ cs:=by
 intro cs
 induction cs with
 | nil=>intro δ i v h; exact ⟨h,by simp⟩
 | cons j r ih =>
  intro δ i v h
  have h':(clrD r (δ.set j none))[i]? = some (some v):=h
  obtain ⟨h1,h2⟩:=ih _ i v h'
  by_cases e:j=i
  ·subst e
   rw [WP] at h1
   simp at h1
  ·rw [W8 e] at h1
   exact ⟨h1,by simp only [Wj,not_or]; exact ⟨Ne.symm e,h2⟩⟩
theorem z20:∀ (cs:List Nat) (σ:St) (i:Nat),i ∉ cs→(clr cs σ)[i]? = σ[i]?:=by
 intro cs
 induction cs with
 | nil=>intro σ i _; rfl
 | cons j r ih =>
  intro σ i h
  simp only [Wj,not_or] at h
  show (clr r (σ.set j none))[i]? = _
  rw [ih _ _ h.2,W8 (Ne.symm h.1)]
theorem z9j:∀ (cs:List Nat) (δ:Dl) (i:Nat),i ∉ cs→(clrD cs δ)[i]? = δ[i]?:=by
 intro cs
 induction cs with
 | nil=>intro σ i _; rfl
 | cons j r ih =>
  intro σ i h
  simp only [Wj,not_or] at h
  show (clrD r (σ.set j none))[i]? = _
  rw [ih _ _ h.2,W8 (Ne.symm h.1)]
theorem z8p (cs:List Nat) (δ₁:Dl):∀ δ:Dl,(z0S cs δ₁ δ).length=δ.length:=by
 induction cs with
 | nil=>intro δ; rfl
 | cons i r ih =>
  intro δ
  unfold z0S
  rw [QL]
  have:=ih (match δ₁[i]? with | some o=>δ.set i o | none=>δ)
  unfold z0S at this
  rw [this]
  cases δ₁[i]? <;> simp
theorem z2V:∀ (cs:List Nat) (δ₁ δ:Dl) (i:Nat),i ∉ cs→(z0S cs δ₁ δ)[i]? = δ[i]?:=by
 intro cs δ₁
 induction cs with
 | nil=>intro δ i _; rfl
 | cons j r ih =>
  intro δ i h
  simp only [Wj,not_or] at h
  unfold z0S
  rw [QL]
  have:=ih (match δ₁[j]? with | some o=>δ.set j o | none=>δ) i h.2
  unfold z0S at this
  rw [this]
  cases δ₁[j]? with
  | none=>rfl
  | some o=>simp only; rw [W8 (Ne.symm h.1)]
theorem z4P:∀ (cs:List Nat) (δ₁ δ:Dl) (i:Nat),δ₁.length=δ.length→i ∈ cs→(z0S cs δ₁ δ)[i]? = δ₁[i]?:=by
 intro cs δ₁
 induction cs with
 | nil=>intro δ i _ h; simp at h
 | cons j r ih =>
  intro δ i hl h
  unfold z0S
  rw [QL]
  have hl2:δ₁.length=(match δ₁[j]? with | some o=>δ.set j o | none=>δ).length:=by cases δ₁[j]? <;> simp [hl]
  by_cases hr:i ∈ r
  ·have:=ih (match δ₁[j]? with | some o=>δ.set j o | none=>δ) i hl2 hr
   unfold z0S at this
   exact this
  ·have e:i=j:=by
    rcases Wj.mp h with e | e
    ·exact e
    ·exact absurd e hr
   subst e
   have:=z2V r δ₁ (match δ₁[i]? with | some o=>δ.set i o | none=>δ) i hr
   unfold z0S at this
   rw [this]
   cases e:δ₁[i]? with
   | none =>
    simp only
    have:=List.getElem?_eq_none_iff.mp e
    exact WB (by omega)
   | some o =>
    simp only
    have:=(W3.mp e).1
    rw [Wm (by omega)]
section
variable {c:Fc} {σ:St} {δ δ':Dl} {H H':Hp} {l:Addr} {cs:List Nat}
theorem Ok.less (k:Ok (c.plus l) σ δ H):Ok c σ δ H:=by
 have sub:∀ b,Av c σ δ b→Av (c.plus l) σ δ b:=fun b z=>z.elim (fun z=>.inl (.inl z)) .inr
 refine ⟨k.keep,fun a z=>k.bd a (.inl z),k.ith,k.len,fun i d e=>?_,fun i d e=>?_,k.inj,k.pinned⟩
 ·obtain ⟨v,h1,h2⟩:=k.slot i d e
  exact ⟨v,h1,h2.anti fun b z=>.inl (sub b z)⟩
 ·obtain ⟨a,h1,h2,h3,h4⟩:=k.own i d e
  exact ⟨a,h1,h2.anti fun b z=>.inl (sub b z),h3,fun z=>h4 (.inl z)⟩
theorem Ok.updB (k:Ok c σ δ H) (hb:c.B l) (h0:c.H₀ l=none) (o:HO):Ok c σ δ (upd H l o):=by
 have kp:∀ b w,H b=some w→¬ Av c σ δ b→upd H l o b=some w:=fun b w e n=>by
  rw [z09 (fun z=>n (by rw [z]; exact .inl hb))]; exact e
 have hup:∀ b w,H b=some w→∃ w',upd H l o b=some w':=fun b w h=>by
  by_cases hb:b=l
  ·exact ⟨_,by rw [hb]; exact z0G⟩
  ·exact ⟨w,by rw [z09 hb]; exact h⟩
 refine ⟨fun a w e n=>?_,fun a z=>?_,fun a z=>?_,k.len,fun i d e=>?_,fun i d e=>?_,k.inj,k.pinned⟩
 ·have:a≠l:=fun z=>by rw [z,h0] at e; cases e
  rw [z09 this]; exact k.keep a w e n
 ·obtain ⟨w,e⟩:=k.bd a z; exact hup a w e
 ·obtain ⟨w,e⟩:=k.ith a z; exact hup a w e
 ·obtain ⟨v,h1,h2⟩:=k.slot i d e
  exact ⟨v,h1,h2.keep kp⟩
 ·obtain ⟨a,h1,h2,h3,h4⟩:=k.own i d e
  have:a≠l:=fun z=>h4 (by rw [z]; exact hb)
  exact ⟨a,h1,h2.keep kp fun w q=>by rw [z09 this]; exact q,h3,h4⟩
theorem Own.clr (h:Own (clr cs σ) (clrD cs δ) l):Own σ δ l:=by
 obtain ⟨i,d,e1,e2⟩:=h
 exact ⟨i,d,(z18 cs δ i _ e1).1,(z2i cs σ i _ e2).1⟩
theorem Ok.clr (k:Ok c σ δ H) (hp:∀ p ∈ c.pin,p.1 ∉ cs):Ok c (L2.clr cs σ) (clrD cs δ) H:=by
 have sub:∀ b,Av c (L2.clr cs σ) (clrD cs δ) b→Av c σ δ b:=fun b z=>z.elim .inl fun z=>.inr z.clr
 refine ⟨k.keep,k.bd,k.ith,by rw [z6m,z4M]; exact k.len,fun i d e=>?_,fun i d e=>?_,fun i j a d d' e1 e2 e3 e4=>?_,fun p hm=>?_⟩
 ·obtain ⟨e',hi⟩:=z18 cs δ i _ e
  obtain ⟨v,h1,h2⟩:=k.slot i d e'
  exact ⟨v,by rw [z20 cs σ i hi]; exact h1,h2.anti fun b z=>.inl (sub b z)⟩
 ·obtain ⟨e',hi⟩:=z18 cs δ i _ e
  obtain ⟨a,h1,h2,h3⟩:=k.own i d e'
  exact ⟨a,by rw [z20 cs σ i hi]; exact h1,h2.anti fun b z=>.inl (sub b z),h3⟩
 ·exact k.inj i j a d d' (z18 cs δ i _ e1).1 (z18 cs δ j _ e2).1 (z2i cs σ i _ e3).1 (z2i cs σ j _ e4).1
 ·rw [z20 cs σ _ (hp p hm)]; exact k.pinned p hm
theorem Aft.back (k:Ok c₀ σ δ H) (hpin:c.pin=c₀.pin) (hB:∀ b,c.B b→c₀.B b∨H b=none) (hno:cs.any (z0q δ)=false) (x:Aft c (L2.clr cs σ) (clrD cs δ) H (L2.clr cs σ) δ' H'):Aft c σ δ H σ (z0S cs δ δ') H':=by
 have len:δ.length=δ'.length:=by
  have:=x.ok.len
  rw [z4M] at this
  rw [this]; exact k.len
 have nown:∀ i d,i ∈ cs→δ[i]?≠some (some (.own d)):=fun i d hi e=>by
  have:=List.any_eq_false.mp hno i hi
  unfold z0q at this
  rw [e] at this
  simp at this
 have ownOut:∀ i d,(z0S cs δ δ')[i]? = some (some (.own d))→i ∉ cs∧δ'[i]? = some (some (.own d)):=fun i d e=>by
  by_cases hi:i ∈ cs
  ·rw [z4P cs δ δ' i len hi] at e
   exact absurd e (nown i d hi)
  ·rw [z2V cs δ δ' i hi] at e
   exact ⟨hi,e⟩
 have sub:∀ b,Own σ (z0S cs δ δ') b→Own (L2.clr cs σ) δ' b:=fun b ⟨i,d,e1,e2⟩=>by
  obtain ⟨hi,e⟩:=ownOut i d e1
  exact ⟨i,d,e,by rw [z20 cs σ i hi]; exact e2⟩
 have subA:∀ b,Av c σ (z0S cs δ δ') b→Av c (L2.clr cs σ) δ' b:=fun b z=>z.elim .inl fun z=>.inr (sub b z)
 have ownEq:∀ b,Own σ δ b→Own (L2.clr cs σ) (clrD cs δ) b:=fun b ⟨i,d,e1,e2⟩=>by
  have hi:i ∉ cs:=fun z=>nown i d z e1
  exact ⟨i,d,by rw [z9j cs δ i hi]; exact e1,by rw [z20 cs σ i hi]; exact e2⟩
 refine ⟨⟨x.ok.keep,x.ok.bd,x.ok.ith,by rw [z8p,← len]; exact k.len,fun i d e=>?_,fun i d e=>?_,fun i j a d d' e1 e2 e3 e4=>?_,by rw [hpin]; exact k.pinned⟩,fun a o e n=>?_,fun a z=>?_,x.there⟩
 ·by_cases hi:i ∈ cs
  ·rw [z4P cs δ δ' i len hi] at e
   obtain ⟨v,h1,h2⟩:=k.slot i d e
   have h3:Rep H (Av c (L2.clr cs σ) (clrD cs δ)) v d:=h2.anti fun b z=>by
    rcases z with z | z
    ·exact (hB b z).elim (fun z=>.inl (.inl z)) .inr
    ·exact .inl (.inr z.clr)
   exact ⟨v,h1,(Rep.aft h3 x).anti fun b z=>.inl (subA b z)⟩
  ·rw [z2V cs δ δ' i hi] at e
   obtain ⟨v,h1,h2⟩:=x.ok.slot i d e
   exact ⟨v,(z2i cs σ i v h1).1,h2.anti fun b z=>.inl (subA b z)⟩
 ·obtain ⟨hi,e'⟩:=ownOut i d e
  obtain ⟨a,h1,h2,h3⟩:=x.ok.own i d e'
  exact ⟨a,(z2i cs σ i _ h1).1,h2.anti fun b z=>.inl (subA b z),h3⟩
 ·obtain ⟨hi,f1⟩:=ownOut i d e1
  obtain ⟨hj,f2⟩:=ownOut j d' e2
  exact x.ok.inj i j a d d' f1 f2 (by rw [z20 cs σ i hi]; exact e3) (by rw [z20 cs σ j hj]; exact e4)
 ·exact x.keep a o e fun z=>n z.clr
 ·rcases x.own a (sub a z) with q | q
  ·exact .inl q.clr
  ·exact .inr q
end
def z0L (cs:List Nat) (g:DG) (t:DT) (el:DE):List D→Dl→List D→Rs (List D)
 | [],δ,acc=>.ok acc δ
 | d :: r,δ,acc=>match g (.pure d) δ with
  | none=>.stuck
  | some δ1=>(t δ1).bind fun b δ2=>if b then (el δ2).bind fun x δ3=>if acc.length < W9 then z0L cs g t el r (clrD cs δ3) (acc ++ [x.d]) else .stuck
   else z0L cs g t el r (clrD cs δ2) acc
def z0r (cs:List Nat) (it:DI) (g:DG) (t:DT) (el:DE):DE:=fun δ=>(it δ).bind fun ds δ1=>if cs.any (z0q δ1) then .stuck else
 (z0L cs g t el ds (clrD cs δ1) []).bind fun acc δ2=>.ok (.own (.lst acc)) (z0S cs δ1 δ2)
def dYes:DT:=fun δ=>.ok true δ
abbrev STs (X:Cx) (c:Fc) (ifs:List Expr) (t:DT):Prop:=PTs X ifs (tT c t)
theorem z0H {X:Cx} {c:Fc}:STs X c [] dYes:=fun pins s σ H Q I ⟨δ,k,q⟩=>zaf pins s σ H Q I (q H (.refl k))
section
variable {X:Cx} {c:Fc} {cs:List Nat} {tg iter elt:Expr} {ifs:List Expr} {scope:Scope} {pos:Pos} {it:DI} {g:DG} {t:DT} {el:DE}
theorem Aft.clear (x:Aft c (L2.clr cs σ) δ H σ4 δ4 H4) (le:Le (L2.clr cs σ) σ4) (hp:∀ p ∈ c.pin,p.1 ∉ cs) (hs:∀ (i:Nat) v,σ4[i]? = some (some v)→i ∉ cs→σ[i]? = some (some v)):Aft c (L2.clr cs σ) δ H (L2.clr cs σ) (clrD cs δ4) H4:=by
 have eq:∀ i,i ∉ cs→∀ v,σ4[i]? = some (some v)→(L2.clr cs σ)[i]? = some (some v):=fun i hi v e=>by rw [z20 cs σ i hi]; exact hs i v e hi
 have own:∀ b,Own (L2.clr cs σ) (clrD cs δ4) b→Own σ4 δ4 b:=fun b ⟨i,d,e1,e2⟩=>by
  exact ⟨i,d,(z18 cs δ4 i _ e1).1,le.2 i _ e2⟩
 have sub:∀ b,Av c (L2.clr cs σ) (clrD cs δ4) b→Av c σ4 δ4 b:=fun b z=>z.elim .inl fun z=>.inr (own b z)
 have k:=x.ok
 refine ⟨⟨k.keep,k.bd,k.ith,by rw [z6m,k.len]; exact le.1,fun i d e=>?_,fun i d e=>?_,fun i j a d d' e1 e2 e3 e4=>?_,fun p hm=>?_⟩,x.keep,fun a z=>x.own a (own a z),x.there⟩
 ·obtain ⟨e',hi⟩:=z18 cs δ4 i _ e
  obtain ⟨v,h1,h2⟩:=k.slot i d e'
  exact ⟨v,eq i hi v h1,h2.anti fun b z=>.inl (sub b z)⟩
 ·obtain ⟨e',hi⟩:=z18 cs δ4 i _ e
  obtain ⟨a,h1,h2,h3⟩:=k.own i d e'
  exact ⟨a,eq i hi _ h1,h2.anti fun b z=>.inl (sub b z),h3⟩
 ·exact k.inj i j a d d' (z18 cs δ4 i _ e1).1 (z18 cs δ4 j _ e2).1 (le.2 i _ e3) (le.2 j _ e4)
 ·exact eq p.1 (hp p hm) _ (k.pinned p hm)
def Out (cs:List Nat) (σ σ':St):Prop:=σ'.length=σ.length∧∀ i,i ∉ cs→σ'[i]? = σ[i]?
theorem Out.trans (a:Out cs σ σ') (b:Out cs σ' σ''):Out cs σ σ'':=⟨b.1.trans a.1,fun i h=>(b.2 i h).trans (a.2 i h)⟩
def tGC (cs:List Nat) (c:Fc) (g:DG):TG:=fun v σ H Q=>∃ σ₀ δ₀ H₁ δ r δ',Aft c σ₀ δ₀ H₁ σ δ H∧RepS c σ δ H₁ H v r∧g r δ=some δ'∧∀ σ',Aft c σ₀ δ₀ H₁ σ' δ' H→Out cs σ σ'→Q σ' H
abbrev SGC (X:Cx) (c:Fc) (cs:List Nat) (tg:Expr) (g:DG):Prop:=PG X tg (tGC cs c g)
theorem z0f {np:List Nat} {i:Nat} {x:Str} (hp:Np c np) (hN:X.N.Nodup) (hi:X.N[i]? = some x) (hx:Loc X.env.scope x) (hf:X.fn x=true∨X.env.scope.names.lookup x=some .local) (hc:i ∈ cs):SGC X c cs (.Name x pos) (gNm np i) :=
 PG.weak (z7v hN hi hx hf) fun v σ H Q ⟨σ₀,δ₀,H₁,δ,r,δ',x,rr,e,q⟩=>by
  unfold gNm at e
  split at e
  ·cases e
  ·rename_i hn
   cases e
   refine q _ (Ok.set x rr fun p hm e=>hn (by rw [← e]; exact hp p hm)) ⟨by simp,fun j hj=>?_⟩
   rw [W8 (fun z=>hj (by rw [← z]; exact hc))]
def tGCs (cs:List Nat) (c:Fc) (g:DGs):TGs:=fun vs σ H Q=>∃ δ ds δ',Ok c σ δ H∧Reps H (Av c σ δ) vs ds∧g ds δ=some δ'∧∀ σ',Aft c σ δ H σ' δ' H→Out cs σ σ'→Q σ' H
abbrev SGCs (X:Cx) (c:Fc) (cs:List Nat) (tg:List Expr) (g:DGs):Prop:=PGs X tg (tGCs cs c g)
theorem z2K:SGCs X c cs [] z0R:=PGs.weak z7u fun vs σ H Q ⟨δ,ds,δ',k,r,e,q⟩=>by
 cases ds with
 | nil =>
  cases e
  have:vs=[]:=by have:=r.1; simpa using this
  exact ⟨this,q σ (.refl k) ⟨rfl,fun _ _=>rfl⟩⟩
 | cons d r=>cases e
theorem z15 {e:Expr} {es:List Expr} {g:DG} {gs:DGs} (h1:SGC X c cs e g) (h2:SGCs X c cs es gs) (hs:(WS (e :: es) X.env).map (·.2)=assign e X.env :: (WS es X.env).map (·.2):=by rfl):SGCs X c cs (e :: es) (z05 g gs) :=
 PGs.weak (z6b h1 h2 hs) fun vs σ H Q ⟨δ,ds,δ',k,r,e,q⟩=>by
  cases ds with
  | nil=>cases e
  | cons d ds =>
   cases vs with
   | nil=>have:=r.1; simp at this
   | cons v vs =>
    simp only [z05] at e
    cases e1:g (.pure d) δ with
    | none=>rw [e1] at e; cases e
    | some δ1 =>
     rw [e1] at e
     refine ⟨v,vs,rfl,σ,δ,H,δ,.pure d,δ1,.refl k,r.head,e1,fun σ1 a1 o1=>?_⟩
     exact ⟨δ1,ds,δ',a1.ok,Reps.aft r.tail a1,e,fun σ2 a2 o2=>q σ2 (a1.trans a2) (o1.trans o2)⟩
theorem z3C {es:List Expr} {k:Nat} {gs:DGs} {n:Nat} (hc:X.calm=true) (h:SGCs X c cs es gs) (hn:(WS es X.env).length=n:=by rfl) (hst:(WS es X.env).findIdx? (·.1)=none:=by rfl) :
  SGC X c cs (.Tuple es k pos) (gTp n gs):=PG.weak (z9B hc h hn hst) fun v σ H Q hw=>by
 obtain ⟨σ₀,δ₀,H₁,δ,r,δ',x,rr,e,q⟩:=hw
 have hb:=rr.b
 unfold gTp at e
 generalize r.d=d at e hb
 cases d <;> first | (cases e; done) | skip
 rename_i ds
 simp only at e
 split at e
 ·rename_i hl
  obtain ⟨a,vs,ea,ha,ra⟩:=hb.tup
  exact ⟨a,vs,ea,.of ha,by rw [ra.1]; exact hl,δ,ds,δ',x.ok,ra,e,fun σ' a1 o1=>q σ' (x.trans a1) o1⟩
 ·cases e
theorem Aft.less (x:Aft (c.plus l) σ δ H σ' δ' H'):Aft c σ δ H σ' δ' H':=⟨x.ok.less,x.keep,x.own,x.there⟩
theorem z5i (hwi:∀ σ H R,tI c it σ H R→wi σ H R) (hg:∀ l v σ H Q,tGC cs (c.plus l) g v σ H Q→gt v σ H Q) (ht:∀ l σ H Q,tT (c.plus l) t σ H Q→tt σ H Q) (he:∀ l σ H Q,tD (c.plus l) el σ H Q→te σ H Q)
  (hp:∀ p ∈ c.pin,p.1 ∉ cs) (h:tD c (z0r cs it g t el) σ H Q):z9X cs wi gt tt te σ H Q:=by
 obtain ⟨δ,k,q⟩:=h
 unfold z0r at q
 rw [z01] at q
 refine hwi _ _ _ ⟨δ,k,z00 q fun ds δ1 q1 J H1 a1 io=>?_⟩
 intro l hl
 split at q1
 ·exact q1.elim
 ·rename_i hno
  have hno':cs.any (z0q δ1)=false:=by simpa using hno
  rw [z01] at q1
  have k1:=a1.ok
  have kp:=k1.plus hl (.lst [])
  have k0:Ok (c.plus l) (L2.clr cs σ) (clrD cs δ1) (upd H1 l (.lst [])):=kp.clr hp
  have up:∀ a w,H1 a=some w→upd H1 l (.lst []) a=some w:=fun a w e=>by
   rw [z09 (z0D e hl)]; exact e
  have h0:c.H₀ l=none:=k1.fresh₀ hl
  -- the walked things,as the block sees them
  have io':ItOk (c.plus l) (L2.clr cs σ) (clrD cs δ1) H1 J ds:=by
   intro H2 kp2
   obtain ⟨s1,s2⟩:=io H2 fun a o e n=>kp2 a o e fun z=>n z.clr
   have cv:∀ {x:V} {d:D},Rep H1 (Av c σ δ1) x d→Rep H1 (Av (c.plus l) (L2.clr cs σ) (clrD cs δ1)) x d:=fun {x d} r =>
    r.anti fun b z=>by
     rcases z with (z | z) | z
     ·exact .inl (.inl z)
     ·exact .inr (by rw [z]; exact hl)
     ·exact .inl (.inr z.clr)
   refine ⟨s1,fun i d e=>⟨(s2 i d e).1,fun x H3 y=>?_⟩⟩
   rcases (s2 i d e).2 x H3 y with ⟨e3,r⟩ | ⟨p,vs,es,hp,e3,ex,ed,r⟩
   ·exact .inl ⟨e3,cv r⟩
   ·exact .inr ⟨p,vs,es,hp,e3,ex,ed,r.1,fun i v d e1 e2=>cv (r.2 i v d e1 e2)⟩
  let Fin:List D→Dl→Prop:=fun acc δ'=>∀ H' vs,Aft (c.plus l) (L2.clr cs σ) (clrD cs δ1) H1 (L2.clr cs σ) δ' H'→H' l=some (.lst vs)→Reps H' (Av (c.plus l) (L2.clr cs σ) δ') vs acc→Q (.ref l) H'
  have q2:post c (z0L cs g t el ds (clrD cs δ1) []) Fin:=z00 q1 fun acc δ2 q2 H' vs x hv r=>by
   have b1:Aft (c.plus l) σ δ1 H1 σ (z0S cs δ1 δ2) H':=Aft.back k1 rfl (fun b z=>z.elim .inl fun z=>.inr (by rw [z]; exact hl)) hno' x
   have b2:Aft c σ δ1 H1 σ (z0S cs δ1 δ2) H':=b1.less
   have len:δ1.length=δ2.length:=by
    have:=x.ok.len
    rw [z4M] at this
    rw [this]; exact k1.len
   have hlH:H l=none:=by
    cases e:H l with
    | none=>rfl
    | some o =>
     obtain ⟨o',e'⟩:=a1.there l o e
     rw [hl] at e'; cases e'
   refine q2 _ H' (a1.trans b2) ⟨l,rfl,⟨vs,hv,Reps.anti r fun b z=>.inl ?_⟩,fun z=>k1.nav hl (.inl z),h0,b1.ok,hlH⟩
   rcases z with z | ⟨i,d,e1,e2⟩
   ·exact .inl z
   ·have hi:i ∉ cs:=fun hi=>by
     rw [z4P cs δ1 δ2 i len hi] at e1
     have:=List.any_eq_false.mp hno' i hi
     unfold z0q at this
     rw [e1] at this
     simp at this
    rw [z2V cs δ1 δ2 i hi] at e1
    exact .inr ⟨i,d,e1,by rw [z20 cs σ i hi]; exact e2⟩
  refine ⟨fun i m H2=>∃ δ2 acc vs,m=ds.length - i∧i≤ds.length∧Aft (c.plus l) (L2.clr cs σ) (clrD cs δ1) H1 (L2.clr cs σ) δ2 H2∧H2 l=some (.lst vs)∧Reps H2 (Av (c.plus l) (L2.clr cs σ) δ2) vs acc ∧
   post c (z0L cs g t el (ds.drop i) δ2 acc) Fin,⟨ds.length,clrD cs δ1,[],[],by simp,QB _,⟨k0,fun a w e _=>up a w e,fun a z=>.inl z,fun a w e=>⟨w,up a w e⟩⟩,z0G,.nil,by rw [List.drop_zero]; exact q2⟩,?_⟩
  rintro i m H2 ⟨δ2,acc,vs,rfl,hil,a2,hv,rv,p2⟩
  by_cases hlt:i < ds.length
  ·right
   have e:ds[i]? = some ds[i]:=by simp [hlt]
   rw [QA hlt] at p2
   refine ⟨((io' H2 a2.keep).2 i _ e).1,fun x H3 y=>hg l _ _ _ _ ?_⟩
   obtain ⟨a3,r3⟩:=z5X io' a2 e y
   simp only [z0L] at p2
   cases eg:g (.pure ds[i]) δ2 with
   | none=>rw [eg] at p2; exact p2.elim
   | some δ3 =>
    rw [eg] at p2
    have p3:post c ((t δ3).bind fun b δ2=>if b then (el δ2).bind fun x δ3=>if acc.length < W9 then z0L cs g t el (ds.drop (i + 1)) (clrD cs δ3) (acc ++ [x.d]) else .stuck
     else z0L cs g t el (ds.drop (i + 1)) (clrD cs δ2) acc) Fin:=p2
    refine ⟨L2.clr cs σ,δ2,H3,δ2,.pure ds[i],δ3,.refl a3.ok,r3,eg,fun σ4 a4 o4=>?_⟩
    have le:Le (L2.clr cs σ) σ4:=⟨o4.1,fun j v ej=>by
     rw [o4.2 j (z2i cs σ j v ej).2]; exact ej⟩
    have hs:∀ (j:Nat) v,σ4[j]? = some (some v)→j ∉ cs→σ[j]? = some (some v):=fun j v ej hj=>by
     rw [o4.2 j hj] at ej
     exact (z2i cs σ j v ej).1
    refine ⟨le,ht l _ _ _ ⟨δ3,a4.ok,?_⟩⟩
    rw [z01] at p3
    have pinp:∀ p ∈ (c.plus l).pin,p.1 ∉ cs:=hp
    have a24:=a2.trans (a3.trans a4)
    have ln:∀ {σ':St} {δ':Dl} {H':Hp},Ok (c.plus l) σ' δ' H'→¬ Own σ' δ' l:=fun {σ' δ' H'} k=>z2O k
    have p3':post (c.plus l) (t δ3) fun b δ5=>post c (if b then (el δ5).bind fun x δ3=>if acc.length < W9 then z0L cs g t el (ds.drop (i + 1)) (clrD cs δ3) (acc ++ [x.d]) else .stuck
     else z0L cs g t el (ds.drop (i + 1)) (clrD cs δ5) acc) Fin:=p3
    refine z00 p3' fun b δ5 p5 H5 a5=>?_
    have a25:=a24.trans a5
    have hv3:H3 l=some (.lst vs):=a3.keep l _ hv (ln a2.ok)
    have hv5:H5 l=some (.lst vs):=a5.keep l _ hv3 (ln a4.ok)
    have rv3:=Reps.aft (Reps.aft (Reps.aft rv a3) a4) a5
    cases b with
    | false =>
     have c5:=a25.clear le pinp hs
     refine ⟨ds.length - (i + 1),by omega,clrD cs δ5,acc,vs,rfl,hlt,c5,hv5,Reps.anti rv3 fun b z=>.inl ?_,p5⟩
     exact z.elim .inl fun ⟨j,d,e1,e2⟩=>.inr ⟨j,d,(z18 cs δ5 j _ e1).1,le.2 j _ e2⟩
    | true =>
     have p5':post c ((el δ5).bind fun x δ3=>if acc.length < W9 then z0L cs g t el (ds.drop (i + 1)) (clrD cs δ3) (acc ++ [x.d]) else .stuck) Fin:=p5
     rw [z01] at p5'
     refine he l _ _ _ ⟨δ5,a5.ok,?_⟩
     have p6:post (c.plus l) (el δ5) fun x δ6=>post c (if acc.length < W9 then z0L cs g t el (ds.drop (i + 1)) (clrD cs δ6) (acc ++ [x.d]) else .stuck) Fin:=p5'
     refine z00 p6 fun x δ6 p7 v H6 a6 r6=>?_
     split at p7
     ·rename_i hz
      have a26:=a25.trans a6
      have hv6:H6 l=some (.lst vs):=a6.keep l _ hv5 (ln a5.ok)
      have rv6:=Reps.aft rv3 a6
      have rr:Reps H6 (Av (c.plus l) σ4 δ6) (vs ++ [v]) (acc ++ [x.d]):=rv6.append (.cons r6.rep .nil)
      have c6:=a26.clear le pinp hs
      have kpl:∀ b o,H6 b=some o→¬ Av (c.plus l) σ4 δ6 b→upd H6 l (.lst (vs ++ [v])) b=some o:=fun b o e n=>by
       rw [z09 (fun z=>n (by rw [z]; exact .inl (.inr rfl)))]; exact e
      have sub6:∀ b,Av (c.plus l) (L2.clr cs σ) (clrD cs δ6) b→Av (c.plus l) σ4 δ6 b:=fun b z=>z.elim .inl fun ⟨j,d,e1,e2⟩=>.inr ⟨j,d,(z18 cs δ6 j _ e1).1,le.2 j _ e2⟩
      refine ⟨vs,ds.length - (i + 1),hv6,by rw [rv6.1]; exact hz,by omega,clrD cs δ6,acc ++ [x.d],vs ++ [v],rfl,hlt,?_,z0G,Reps.anti (Reps.keep rr kpl) fun b z=>.inl (sub6 b z),p7⟩
      -- the list that is built has grown
      refine ⟨c6.ok.updB (.inr rfl) h0 _,fun a o ea n=>?_,fun a z=>c6.own a z,fun a o ea=>?_⟩
      ·have hal:a≠l:=fun z=>by rw [z,hl] at ea; cases ea
       rw [z09 hal]; exact c6.keep a o ea n
      ·by_cases hal:a=l
       ·exact ⟨_,by rw [hal]; exact z0G⟩
       ·obtain ⟨o',e'⟩:=c6.there a o ea
        exact ⟨o',by rw [z09 hal]; exact e'⟩
     ·exact p7.elim
  ·left
   have hi2:i=ds.length:=by omega
   subst hi2
   rw [List.drop_length] at p2
   exact ⟨(io' H2 a2.keep).1,p2 H2 vs a2 hv rv⟩
theorem z13 (hc:X.calm=true) (S:CScope X scope cs) (hi:SI X c tg iter it) (hg:∀ l s₀ H₀ ex,SGC (z1g X scope s₀ H₀ ex) (c.plus l) cs tg g) (ht:∀ l s₀ H₀ ex,STs (z1g X scope s₀ H₀ ex) (c.plus l) ifs t)
  (he:∀ l s₀ H₀ ex,SE (z1g X scope s₀ H₀ ex) (c.plus l) elt el) (hp:∀ p ∈ c.pin,p.1 ∉ cs) (hs:∀ x,Qq iter X.env x=pure x:=by intro _; rfl) :
  SE X c (.ListComp elt [⟨tg,iter,ifs,0⟩] scope pos) (z0r cs it g t el) :=
 PE.weak (zam (g:=fun v σ H Q=>∃ l,tGC cs (c.plus l) g v σ H Q) (tt:=fun σ H Q=>∃ l,tT (c.plus l) t σ H Q) (te:=fun σ H Q=>∃ l,tD (c.plus l) el σ H Q) hc S hi
  (fun s₀ H₀ ex pins s σ H v u Q I r ⟨l,q⟩=>hg l s₀ H₀ ex pins s σ H v u Q I r q) (fun s₀ H₀ ex pins s σ H Q I ⟨l,q⟩=>ht l s₀ H₀ ex pins s σ H Q I q) (fun s₀ H₀ ex pins s σ H Q I ⟨l,q⟩=>he l s₀ H₀ ex pins s σ H Q I q) hs)
  fun σ H Q h=>z5i (fun _ _ _ h=>h) (fun l _ _ _ _ h=>⟨l,h⟩) (fun l _ _ _ h=>⟨l,h⟩) (fun l _ _ _ h=>⟨l,h⟩) hp h
theorem z1u {np:List Nat} {i:Nat} {y:Str} {py spos:Pos} (hnp:Np c np) (hc:X.calm=true) (S:CScope X scope cs) (hN:X.N.Nodup) (hi':X.N[i]? = some y) (hy:X.env.scope.names.lookup y=some .local)
  (hi:SI X c tg iter it) (hg:∀ l s₀ H₀ ex,SGC (z1g X scope s₀ H₀ ex) (c.plus l) cs tg g) (ht:∀ l s₀ H₀ ex,STs (z1g X scope s₀ H₀ ex) (c.plus l) ifs t)
  (he:∀ l s₀ H₀ ex,SE (z1g X scope s₀ H₀ ex) (c.plus l) elt el) (hp:∀ p ∈ c.pin,p.1 ∉ cs)
  (hsw:Jc (.ListComp elt [⟨tg,iter,ifs,0⟩] scope pos) (some (.Name y py)) spos.line X.env=pure true:=by rfl) (hs:∀ x,Qq iter X.env x=pure x:=by intro _; rfl) :
  SS X c (.Assign [.Name y py] (.ListComp elt [⟨tg,iter,ifs,0⟩] scope pos) spos) (dAsg (z0r cs it g t el) (gNm np i)) :=
 PS.weak (z6A (g:=fun v σ H Q=>∃ l,tGC cs (c.plus l) g v σ H Q) (tt:=fun σ H Q=>∃ l,tT (c.plus l) t σ H Q) (te:=fun σ H Q=>∃ l,tD (c.plus l) el σ H Q) hc S hN hi' hy hi
  (fun s₀ H₀ ex pins s σ H v u Q I r ⟨l,q⟩=>hg l s₀ H₀ ex pins s σ H v u Q I r q) (fun s₀ H₀ ex pins s σ H Q I ⟨l,q⟩=>ht l s₀ H₀ ex pins s σ H Q I q) (fun s₀ H₀ ex pins s σ H Q I ⟨l,q⟩=>he l s₀ H₀ ex pins s σ H Q I q) hsw hs)
  fun D σ H h=>z4Q (fun σ H Q h=>z5i (fun _ _ _ h=>h) (fun l _ _ _ _ h=>⟨l,h⟩) (fun l _ _ _ h=>⟨l,h⟩) (fun l _ _ _ h=>⟨l,h⟩) hp h) (fun _ _ _ _ h=>z4I hnp h) h
end
abbrev DF:=List S→Option (S×List S)
def z0V:Nat→List S→List V→List (Nat×Addr)
 | n,.own _ :: ss,.ref a :: vs=>(n,a) :: z0V (n + 1) ss vs
 | n,_ :: ss,_ :: vs=>z0V (n + 1) ss vs
 | _,_,_=>[]
theorem z1P:∀ {n:Nat} {ss:List S} {vs:List V} {i:Nat} {a:Addr},(i,a) ∈ z0V n ss vs→∃ j d,i=n + j∧ss[j]? = some (.own d)∧vs[j]? = some (.ref a)
 | n,[],vs,i,a,h=>by simp [z0V] at h
 | n,s :: ss,[],i,a,h=>by cases s <;> simp [z0V] at h
 | n,s :: ss,v :: vs,i,a,h=>by
  have rec':(i,a) ∈ z0V (n + 1) ss vs→∃ j d,i=n + j∧(s :: ss)[j]? = some (.own d)∧(v :: vs)[j]? = some (.ref a):=fun h=>by
   obtain ⟨j,d,e,h1,h2⟩:=z1P h
   exact ⟨j + 1,d,by omega,by simpa using h1,by simpa using h2⟩
  cases s with
  | pure d=>exact rec' h
  | own d =>
   cases v with
   | ref b =>
    rcases Wj.mp h with e | h
    ·cases e
     exact ⟨0,d,rfl,rfl,rfl⟩
    ·exact rec' h
   | _=>exact rec' h
theorem z2R:∀ {n:Nat} {ss:List S} {vs:List V} {j:Nat} {d:D} {a:Addr},ss[j]? = some (.own d)→vs[j]? = some (.ref a)→(n + j,a) ∈ z0V n ss vs
 | n,[],vs,j,d,a,h,_=>by simp at h
 | n,s :: ss,[],j,d,a,_,h=>by simp at h
 | n,s :: ss,v :: vs,0,d,a,h1,h2=>by
  simp at h1 h2
  subst h1 h2
  exact Wg
 | n,s :: ss,v :: vs,j + 1,d,a,h1,h2=>by
  have ih:=z2R (n:=n + 1) (ss:=ss) (vs:=vs) (j:=j) (d:=d) (a:=a) (by simpa using h1) (by simpa using h2)
  have e:n + 1 + j=n + (j + 1):=by omega
  rw [e] at ih
  cases s with
  | pure d=>exact ih
  | own d =>
   cases v with
   | ref b=>exact Wb _ ih
   | _=>exact ih
abbrev z1d (vs:List V):St:=vs.map some
abbrev z1c (ss:List S):Dl:=ss.map some
theorem someS_get {ss:List S} {i:Nat} {r:S}:(z1c ss)[i]? = some (some r) ↔ ss[i]? = some r:=by
 rw [Wu]
 cases ss[i]? <;> simp
theorem some'_get {vs:List V} {i:Nat} {v:V}:(z1d vs)[i]? = some (some v) ↔ vs[i]? = some v:=by
 rw [Wu]
 cases vs[i]? <;> simp
def spD (n:Nat) (G:DF):Sp:=fun vs H Q _=>∃ ss B,vs.length=n∧Ok ⟨H,B,z0V 0 ss vs,fun _ _=>False⟩ (z1d vs) (z1c ss) H∧∃ r outs,G ss=some (r,outs) ∧
 ∀ v H',Aft ⟨H,B,z0V 0 ss vs,fun _ _=>False⟩ (z1d vs) (z1c ss) H (z1d vs) (z1c outs) H'→RepS ⟨H,B,z0V 0 ss vs,fun _ _=>False⟩ (z1d vs) (z1c outs) H H' v r→Q v H'
def KFn (P:Wh) (w:Wo) (K:W1) (mg:Str→Option Value) (base:Heap) (k:Nat) (x:Str) (n:Nat) (G:DF):Prop :=
 ∃ (f:Addr) (fd:WR) (ps:List Str),mg x=some (.ref f)∧QC K (.ref f)=true∧Binds K fd ps []∧FnOk P w K mg base CX0 k f fd ps (spD n G)
def z0w (n:Nat) (ss:List S):Dl:=z1c ss ++ W4 (n - ss.length) none
def z0p:Nat→List S→Dl→Option (List S)
 | _,[],_=>some []
 | n,.pure d :: ss,δ=>(z0p (n + 1) ss δ).map (.pure d :: ·)
 | n,.own _ :: ss,δ=>match δ[n]? with
  | some (some (.own d'))=>(z0p (n + 1) ss δ).map (.own d' :: ·)
  | _=>none
def z1f:Fl→Option S
 | .next=>some (.pure .non)
 | .ret r=>some r
 | _=>none
def runD (f:DS) (n:Nat) (ss:List S):Option (S×List S):=match f (z0w n ss) with
 | .ok fl δ=>(z1f fl).bind fun r=>(z0p 0 ss δ).map fun outs=>(r,outs)
 | _=>none
def ioOk (np:List Nat):Nat→List S→Bool
 | _,[]=>true
 | n,.own _ :: ss=>np.contains n && ioOk np (n + 1) ss
 | n,.pure _ :: ss=>ioOk np (n + 1) ss
theorem z7V:∀ {n:Nat} {ss:List S} {j:Nat} {d:D},ioOk np n ss=true→ss[j]? = some (.own d)→np.contains (n + j)=true
 | n,[],j,d,_,h=>by simp at h
 | n,s :: ss,0,d,h,e=>by
  simp at e
  subst e
  simp only [ioOk,Ws] at h
  exact h.1
 | n,s :: ss,j + 1,d,h,e=>by
  have h':ioOk np (n + 1) ss=true:=by
   cases s with
   | pure d=>exact h
   | own d=>simp only [ioOk,Ws] at h; exact h.2
  have:=z7V (n:=n + 1) (j:=j) h' (by simpa using e)
  rw [show n + (j + 1)=n + 1 + j by omega]
  exact this
theorem z4C:∀ {n:Nat} {ss outs:List S} {δ:Dl},z0p n ss δ=some outs→outs.length=ss.length∧∀ (i:Nat) s,ss[i]? = some s→(∃ d,s = .pure d∧outs[i]? = some (.pure d))∨∃ d d',s = .own d∧δ[n + i]? = some (some (.own d'))∧outs[i]? = some (.own d')
 | n,[],outs,δ,h=>by
  simp only [z0p,W7] at h
  subst h
  exact ⟨rfl,fun i s e=>by simp at e⟩
 | n,.pure d :: ss,outs,δ,h=>by
  simp only [z0p] at h
  cases e:z0p (n + 1) ss δ with
  | none=>rw [e] at h; cases h
  | some os =>
   rw [e] at h
   simp only [WA,W7] at h
   subst h
   obtain ⟨h1,h2⟩:=z4C e
   refine ⟨by simp [h1],fun i s es=>?_⟩
   cases i with
   | zero=>simp at es; subst es; exact .inl ⟨d,rfl,rfl⟩
   | succ i =>
    rcases h2 i s (by simpa using es) with ⟨d,z1,z2⟩ | ⟨d,d',z1,z2,z3⟩
    ·exact .inl ⟨d,z1,by simpa using z2⟩
    ·exact .inr ⟨d,d',z1,by rw [show n + (i + 1)=n + 1 + i by omega]; exact z2,by simpa using z3⟩
 | n,.own d :: ss,outs,δ,h=>by
  simp only [z0p] at h
  split at h
  ·rename_i d' ed
   cases e:z0p (n + 1) ss δ with
   | none=>rw [e] at h; cases h
   | some os =>
    rw [e] at h
    simp only [WA,W7] at h
    subst h
    obtain ⟨h1,h2⟩:=z4C e
    refine ⟨by simp [h1],fun i s es=>?_⟩
    cases i with
    | zero=>simp at es; subst es; exact .inr ⟨d,d',rfl,ed,rfl⟩
    | succ i =>
     rcases h2 i s (by simpa using es) with ⟨d,z1,z2⟩ | ⟨d,d',z1,z2,z3⟩
     ·exact .inl ⟨d,z1,by simpa using z2⟩
     ·exact .inr ⟨d,d',z1,by rw [show n + (i + 1)=n + 1 + i by omega]; exact z2,by simpa using z3⟩
  ·cases h
section
variable {c:Fc} {H H':Hp} {vs:List V} {ss outs:List S} {σ':St} {δ':Dl}
theorem z2d {α:Type} {l:List (Option α)} {k i:Nat} {v:α} (h:(l ++ W4 k none)[i]? = some (some v)):l[i]? = some (some v):=by
 by_cases hi:i < l.length
 ·rw [Qy hi] at h; exact h
 ·rw [List.getElem?_append_right (by omega),List.getElem?_replicate] at h
  split at h <;> cases h
theorem z1Y {α:Type} {l:List (Option α)} {k i:Nat} {v:α} (h:l[i]? = some (some v)):(l ++ W4 k none)[i]? = some (some v):=by
 have hi:i < l.length:=(W3.mp h).1
 rw [Qy hi]; exact h
theorem Own.ext {σ:St} {δ:Dl} {k:Nat} {a:Addr}:Own (σ ++ W4 k none) (δ ++ W4 k none) a ↔ Own σ δ a :=
 ⟨fun ⟨i,d,e1,e2⟩=>⟨i,d,z2d e1,z2d e2⟩,fun ⟨i,d,e1,e2⟩=>⟨i,d,z1Y e1,z1Y e2⟩⟩
theorem Ok.ext {σ:St} {δ:Dl} (k:Ok c σ δ H) (n:Nat):Ok c (σ ++ W4 n none) (δ ++ W4 n none) H:=by
 have sub:∀ b,Av c (σ ++ W4 n none) (δ ++ W4 n none) b→Av c σ δ b:=fun b z=>z.elim .inl fun z=>.inr (Own.ext.mp z)
 refine ⟨k.keep,k.bd,k.ith,by simp [k.len],fun i d e=>?_,fun i d e=>?_,fun i j a d d' e1 e2 e3 e4=>k.inj i j a d d' (z2d e1) (z2d e2) (z2d e3) (z2d e4),fun p hm=>z1Y (k.pinned p hm)⟩
 ·obtain ⟨v,h1,h2⟩:=k.slot i d (z2d e)
  exact ⟨v,z1Y h1,h2.anti fun b z=>.inl (sub b z)⟩
 ·obtain ⟨a,h1,h2,h3⟩:=k.own i d (z2d e)
  exact ⟨a,z1Y h1,h2.anti fun b z=>.inl (sub b z),h3⟩
theorem zbW {B:Addr→Prop} {n:Nat} (hc:c = ⟨H,B,z0V 0 ss vs,fun _ _=>False⟩) (k:Ok c (z1d vs) (z1c ss) H) (x:Aft c (z1d vs ++ W4 n none) (z1c ss ++ W4 n none) H σ' δ' H') (ho:z0p 0 ss δ'=some outs) :
  Aft c (z1d vs) (z1c ss) H (z1d vs) (z1c outs) H'∧∀ v r,RepS c σ' δ' H H' v r→RepS c (z1d vs) (z1c outs) H H' v r:=by
 obtain ⟨hlen,hat⟩:=z4C ho
 have hvs:ss.length=vs.length:=by have:=k.len; simpa using this
 have pin:∀ (i:Nat) (a:Addr) (d:D),ss[i]? = some (.own d)→vs[i]? = some (.ref a)→σ'[i]? = some (some (.ref a)):=fun i a d h1 h2=>by
  have:=z2R (n:=0) h1 h2
  rw [Q3] at this
  exact x.ok.pinned (i,a) (by rw [hc]; exact this)
 have ownS:∀ (i:Nat) (d:D),outs[i]? = some (.own d)→(∃ d₀,ss[i]? = some (.own d₀))∧δ'[i]? = some (some (.own d)):=fun i d e=>by
  have hi:i < ss.length:=by rw [← hlen]; exact (W3.mp e).1
  rcases hat i ss[i] (by simp [hi]) with ⟨d₁,z1,z2⟩ | ⟨d₁,d',z1,z2,z3⟩
  ·rw [e] at z2; cases z2
  ·rw [e] at z3; cases z3
   rw [Q3] at z2
   exact ⟨⟨d₁,by rw [Wk hi,z1]⟩,z2⟩
 have sub:∀ b,Own (z1d vs) (z1c outs) b→Own σ' δ' b:=fun b ⟨i,d,e1,e2⟩=>by
  obtain ⟨⟨d₀,h0⟩,h1⟩:=ownS i d (someS_get.mp e1)
  exact ⟨i,d,h1,pin i b d₀ h0 (some'_get.mp e2)⟩
 have subA:∀ b,Av c (z1d vs) (z1c outs) b→Av c σ' δ' b:=fun b z=>z.elim .inl fun z=>.inr (sub b z)
 have okO:∀ {c':Fc},c'.pin=c.pin→Ok c' σ' δ' H'→(∀ b,c.B b→c'.B b)→(∀ (i:Nat) d v,ss[i]? = some (.pure d)→vs[i]? = some v→Rep H' (Av c' σ' δ') v d)→Ok c' (z1d vs) (z1c outs) H':=fun {c'} ep k' hB hsl=>by
  have subA':∀ b,Av c' (z1d vs) (z1c outs) b→Av c' σ' δ' b:=fun b z=>z.elim .inl fun z=>.inr (sub b z)
  refine ⟨k'.keep,k'.bd,k'.ith,by simp [hlen,hvs],fun i d e=>?_,fun i d e=>?_,fun i j a d d' e1 e2 e3 e4=>?_,fun p hm=>?_⟩
  ·have e':=someS_get.mp e
   have hi:i < ss.length:=by rw [← hlen]; exact (W3.mp e').1
   have hv:i < vs.length:=by omega
   rcases hat i ss[i] (by simp [hi]) with ⟨d₁,z1,z2⟩ | ⟨d₁,d',z1,z2,z3⟩
   ·rw [e'] at z2; cases z2
    exact ⟨vs[i],by simp [hv],(hsl i d vs[i] (by rw [Wk hi,z1]) (by simp [hv])).anti fun b z=>.inl (subA' b z)⟩
   ·rw [e'] at z3; cases z3
  ·have e':=someS_get.mp e
   obtain ⟨⟨d₀,h0⟩,h1⟩:=ownS i d e'
   obtain ⟨a₀,h2,_⟩:=k.own i d₀ (someS_get.mpr h0)
   obtain ⟨a,h3,h4,h5⟩:=k'.own i d h1
   rw [pin i a₀ d₀ h0 (some'_get.mp h2)] at h3
   cases h3
   exact ⟨a₀,h2,h4.anti fun b z=>.inl (subA' b z),h5⟩
  ·obtain ⟨⟨d₀,h0⟩,h1⟩:=ownS i d (someS_get.mp e1)
   obtain ⟨⟨d₁,h2⟩,h3⟩:=ownS j d' (someS_get.mp e2)
   exact k'.inj i j a d d' h1 h3 (pin i a d₀ h0 (some'_get.mp e3)) (pin j a d₁ h2 (some'_get.mp e4))
  ·exact k.pinned p (by rw [← ep]; exact hm)
 have slots:∀ (i:Nat) d v,ss[i]? = some (.pure d)→vs[i]? = some v→Rep H' (Av c σ' δ') v d:=fun i d v h1 h2=>by
  obtain ⟨w,e1,r⟩:=(k.ext n).slot i d (z1Y (someS_get.mpr h1))
  rw [z1Y (some'_get.mpr h2)] at e1
  cases e1
  exact Rep.aft r x
 refine ⟨⟨okO rfl x.ok (fun _ z=>z) slots,fun a o e m=>x.keep a o e fun z=>m (Own.ext.mp z),fun a z=>(x.own a (sub a z)).elim (fun z=>.inl (Own.ext.mp z)) .inr,x.there⟩,fun v r hr=>?_⟩
 cases r with
 | pure d=>exact Rep.anti hr fun b z=>.inl (subA b z)
 | own d =>
  obtain ⟨a,ea,o,nb,h0,kp,hs⟩:=hr
  refine ⟨a,ea,o.anti fun b z=>.inl (z.elim .inl fun z=>.inr (sub b z)),nb,h0,okO rfl kp (fun _ z=>.inl z) fun i d v h1 h2=>?_,hs⟩
  obtain ⟨w,e1,r⟩:=(k.ext n).slot i d (z1Y (someS_get.mpr h1))
  rw [z1Y (some'_get.mpr h2)] at e1
  cases e1
  have hHa:H a=none:=hs
  have r1:Rep H (Av c (z1d vs ++ W4 n none) (z1c ss ++ W4 n none)) v d:=r
  have r2:Rep H (fun b=>Av c (z1d vs ++ W4 n none) (z1c ss ++ W4 n none) b∨Av (c.plus a) σ' δ' b) v d:=r1.anti fun b z=>by
   rcases z with z | (z | z) | z
   ·exact .inl z
   ·exact .inl (.inl z)
   ·exact .inr (by rw [z]; exact hHa)
   ·rcases x.own b z with q | q
    ·exact .inl (.inr q)
    ·exact .inr q
  exact (r2.keep fun b o e m=>x.keep b o e fun z=>m (.inl (.inr z))).anti fun b z=>.inl (.inr z)
end
section
variable {P:Wh} {w:Wo} {K:W1} {mg:Str→Option Value} {base:Heap}
theorem zca {x qual:Str} {st:Stmt} {f:Addr} {fd:WR} {N ps:List Str} {k:Nat} {np:List Nat} {fb:DS} {G:DF} (F:Fun K x qual st f fd) (S:FnScope N ps (z0b st))
  (hbody:∀ (c:Fc) (cdv:Value) (A:Wp) (outer:List Env) (s:W2) (H:Hp) (E:XK),Room k (A.deeper (envOfC qual (z0b st) s.heap.objs.size f cdv))→Np c np→SSs (cxOf CX0 P w K mg base N qual (z0b st) f cdv A outer s H E).nox c (z1C st) fb)
  (hG:∀ ss y,G ss=some y→ioOk np 0 ss=true∧runD fb N.length ss=some y):FnOk P w K mg base CX0 (k + 1) f fd ps (spD ps.length G):=by
 refine F.ok S (fun vs H Q E h=>?_) fun cdv A outer s H vs Q E hr h=>?_
 ·obtain ⟨ss,B,hl,_⟩:=h
  exact hl
 ·obtain ⟨ss,B,hl,ok,r,outs,hg,q⟩:=h
  obtain ⟨hio,hrun⟩:=hG ss _ hg
  have hvs:ss.length=vs.length:=by have:=ok.len; simpa using this
  have np':Np ⟨H,B,z0V 0 ss vs,fun _ _=>False⟩ np:=fun p hp=>by
   obtain ⟨j,d,e,h1,_⟩:=z1P (i:=p.1) (a:=p.2) hp
   rw [e]
   exact z7V hio h1
  refine ⟨tDS ⟨H,B,z0V 0 ss vs,fun _ _=>False⟩ fb,hbody ⟨H,B,z0V 0 ss vs,fun _ _=>False⟩ cdv A outer s H E hr np',?_⟩
  have hst:z43 N vs=z1d vs ++ W4 (N.length - ss.length) none:=by rw [hvs]; rfl
  refine ⟨z0w N.length ss,by rw [hst]; exact ok.ext _,?_⟩
  unfold runD at hrun
  unfold z2c
  cases e:fb (z0w N.length ss) with
  | exc x δx=>rw [e] at hrun; cases hrun
  | stuck=>rw [e] at hrun; cases hrun
  | ok fl δ' =>
   rw [e] at hrun
   show ∀ σ' H',Aft _ (z43 N vs) (z0w N.length ss) H σ' δ' H'→fin _ _ σ' δ' H' fl
   intro σ' H' a
   rw [hst] at a
   simp only at hrun
   cases fl with
   | brk=>cases hrun
   | cont=>cases hrun
   | next =>
    simp only [z1f,QF] at hrun
    cases eo:z0p 0 ss δ' with
    | none=>rw [eo] at hrun; cases hrun
    | some os =>
     rw [eo] at hrun
     cases hrun
     obtain ⟨l1,l2⟩:=zbW rfl ok a eo
     exact q .non H' l1 .non
   | ret r' =>
    simp only [z1f,QF] at hrun
    cases eo:z0p 0 ss δ' with
    | none=>rw [eo] at hrun; cases hrun
    | some os =>
     rw [eo] at hrun
     cases hrun
     obtain ⟨l1,l2⟩:=zbW rfl ok a eo
     exact fun v rv=>q v H' l1 (l2 v _ rv)
theorem z1A {x qual:Str} {st:Stmt} {f:Addr} {fd:WR} {N ps:List Str} {k:Nat} {np:List Nat} {fb:DS} {G:DF} (F:Fun K x qual st f fd) (hm:mg x=some (.ref f)) (hb:Binds K fd ps []) (S:FnScope N ps (z0b st))
  (hbody:∀ (c:Fc) (cdv:Value) (A:Wp) (outer:List Env) (s:W2) (H:Hp) (E:XK),Room k (A.deeper (envOfC qual (z0b st) s.heap.objs.size f cdv))→Np c np→SSs (cxOf CX0 P w K mg base N qual (z0b st) f cdv A outer s H E).nox c (z1C st) fb)
  (hG:∀ ss y,G ss=some y→ioOk np 0 ss=true∧runD fb N.length ss=some y):KFn P w K mg base (k + 1) x ps.length G:=⟨f,fd,ps,hm,F.kp,hb,zca F S hbody hG⟩
end
inductive Ak where
 | val (f:DE)
 | io (i:Nat)
def evX:List Ak→Dl→Rs (List (Option D))
 | [],δ=>.ok [] δ
 | .val f :: r,δ=>(f δ).bind fun x δ1=>(evX r δ1).bind fun xs δ2=>.ok (some x.d :: xs) δ2
 | .io _ :: r,δ=>(evX r δ).bind fun xs δ2=>.ok (none :: xs) δ2
inductive ArgR (c:Fc) (σ:St) (δ:Dl) (H:Hp):List V→List Ak→List (Option D)→Prop
 | nil:ArgR c σ δ H [] [] []
 | val {v:V} {d:D} {f:DE} {vs:List V} {as:List Ak} {ds:List (Option D)}:Rep H (Av c σ δ) v d→ArgR c σ δ H vs as ds→ArgR c σ δ H (v :: vs) (.val f :: as) (some d :: ds)
 | io {v:V} {i:Nat} {vs:List V} {as:List Ak} {ds:List (Option D)}:σ[i]? = some (some v)→ArgR c σ δ H vs as ds→ArgR c σ δ H (v :: vs) (.io i :: as) (none :: ds)
def tX (c:Fc) (as:List Ak):TA:=fun σ H Q=>∃ δ,Ok c σ δ H∧(∀ i,Ak.io i ∈ as→∃ v,σ[i]? = some (some v))∧post c (evX as δ) fun ds δ'=>∀ vs H',Aft c σ δ H σ δ' H'→ArgR c σ δ' H' vs as ds→Q vs H'
abbrev SX (X:Cx) (c:Fc) (es:List Expr) (as:List Ak):Prop:=PA X es (tX c as)
section
variable {X:Cx} {c:Fc} {e:Expr} {es:List Expr} {fe:DE} {as:List Ak} {pos pp:Pos}
theorem z0y:SX X c [] []:=PA.weak z1H fun σ H Q ⟨δ,k,_,q⟩=>q [] H (.refl k) .nil
theorem zb1 (ha:SE X c e fe) (hr:SX X c es as) (hs:W6 (e :: es) X.env=(false,eval e X.env) :: W6 es X.env:=by rfl):SX X c (e :: es) (.val fe :: as):=PA.weak (z0Q ha hr hs) fun σ H Q ⟨δ,k,hio,q⟩=>by
 unfold evX at q
 rw [z01] at q
 refine ⟨δ,k,z00 q fun x δ1 q1 v H1 a1 r1=>⟨δ1,a1.ok,fun i hi=>hio i (Wb _ hi),?_⟩⟩
 rw [z01] at q1
 exact z00 q1 fun xs δ2 q2 vs H2 a2 r2=>q2 (v :: vs) H2 (a1.trans a2) (.val (Rep.aft r1.rep a2) r2)
theorem sx_io (ha:PE X e (tVar i)) (hr:SX X c es as) (hs:W6 (e :: es) X.env=(false,eval e X.env) :: W6 es X.env:=by rfl):SX X c (e :: es) (.io i :: as):=PA.weak (z0Q ha hr hs) fun σ H Q ⟨δ,k,hio,q⟩=>by
 obtain ⟨v,ev⟩:=hio i Wg
 unfold evX at q
 rw [z01] at q
 exact ⟨v,ev,δ,k,fun i hi=>hio i (Wb _ hi),z00 q fun xs δ2 q2 vs H2 a2 r2=>q2 (v :: vs) H2 a2 (.io ev r2)⟩
end
def mkA:List Ak→List (Option D)→Dl→Option (List S)
 | [],[],_=>some []
 | .val _ :: as,some d :: ds,δ=>(mkA as ds δ).map (.pure d :: ·)
 | .io i :: as,none :: ds,δ=>match δ[i]? with
  | some (some (.own d))=>(mkA as ds δ).map (.own d :: ·)
  | _=>none
 | _,_,_=>none
def ios:List Ak→List Nat
 | []=>[]
 | .val _ :: as=>ios as
 | .io i :: as=>i :: ios as
def putA:List Ak→List S→Dl→Dl
 | .io i :: as,r :: rs,δ=>putA as rs (δ.set i (some r))
 | .val _ :: as,_ :: rs,δ=>putA as rs δ
 | _,_,δ=>δ
def ndup:List Nat→Bool
 | []=>true
 | i :: r=>!r.contains i && ndup r
def z06 (G:DF) (as:List Ak):DE:=fun δ=>if (ios as).all (z0q δ) && ndup (ios as) then (evX as δ).bind fun ds δ1=>match mkA as ds δ1 with
  | none=>.stuck
  | some ss=>match G ss with
   | none=>.stuck
   | some (r,outs)=>.ok r (putA as outs δ1)
 else .stuck
theorem z4i:∀ {l:List Nat},ndup l=true→l.Nodup
 | [],_=>.nil
 | i :: r,h=>by
  simp only [ndup,Ws,Bool.not_eq_true'] at h
  exact List.nodup_cons.mpr ⟨fun hm=>by have:=h.1; simp at this; exact this hm,z4i h.2⟩
theorem ios_mem:∀ {as:List Ak} {i:Nat},i ∈ ios as ↔ Ak.io i ∈ as
 | [],i=>by simp [ios]
 | .val f :: as,i=>by simp [ios,ios_mem (as:=as)]
 | .io j :: as,i=>by simp [ios,ios_mem (as:=as)]
theorem z7U:∀ {as:List Ak} {i j k:Nat},(ios as).Nodup→as[j]? = some (.io i)→as[k]? = some (.io i)→j=k
 | [],i,j,k,_,h,_=>by simp at h
 | .val f :: as,i,j,k,nd,h1,h2=>by
  cases j with
  | zero=>simp at h1
  | succ j =>
   cases k with
   | zero=>simp at h2
   | succ k=>exact congrArg (· + 1) (z7U (as:=as) nd (by simpa using h1) (by simpa using h2))
 | .io n :: as,i,j,k,nd,h1,h2=>by
  have nd':=WV.mp nd
  cases j with
  | zero =>
   simp at h1
   subst h1
   cases k with
   | zero=>rfl
   | succ k=>exact absurd (ios_mem.mpr (WE (by simpa using h2))) nd'.1
  | succ j =>
   cases k with
   | zero =>
    simp at h2
    subst h2
    exact absurd (ios_mem.mpr (WE (by simpa using h1))) nd'.1
   | succ k=>exact congrArg (· + 1) (z7U (as:=as) nd'.2 (by simpa using h1) (by simpa using h2))
section
variable {c:Fc} {σ:St} {δ:Dl} {H:Hp} {vs:List V} {as:List Ak} {ds:List (Option D)} {ss:List S}
theorem z7L (h:ArgR c σ δ H vs as ds):∀ {ss:List S},mkA as ds δ=some ss→ss.length=vs.length∧as.length=vs.length∧∀ (j:Nat) s v,ss[j]? = some s→vs[j]? = some v →
  (∃ d f,s = .pure d∧as[j]? = some (.val f)∧Rep H (Av c σ δ) v d)∨∃ d i,s = .own d∧as[j]? = some (.io i)∧σ[i]? = some (some v)∧δ[i]? = some (some (.own d)):=by
 induction h with
 | nil =>
  intro ss h
  simp only [mkA,W7] at h
  subst h
  exact ⟨rfl,rfl,fun j s v e _=>by simp at e⟩
 | @val v d f vs as ds r _ ih =>
  intro ss h
  simp only [mkA] at h
  cases e:mkA as ds δ with
  | none=>rw [e] at h; cases h
  | some rs =>
   rw [e] at h
   simp only [WA,W7] at h
   subst h
   obtain ⟨h1,h2,h3⟩:=ih e
   refine ⟨by simp [h1],by simp [h2],fun j s v' e1 e2=>?_⟩
   cases j with
   | zero=>simp at e1 e2; subst e1 e2; exact .inl ⟨d,f,rfl,rfl,r⟩
   | succ j=>simpa using h3 j s v' (by simpa using e1) (by simpa using e2)
 | @io v i vs as ds ev _ ih =>
  intro ss h
  simp only [mkA] at h
  split at h
  ·rename_i d ed
   cases e:mkA as ds δ with
   | none=>rw [e] at h; cases h
   | some rs =>
    rw [e] at h
    simp only [WA,W7] at h
    subst h
    obtain ⟨h1,h2,h3⟩:=ih e
    refine ⟨by simp [h1],by simp [h2],fun j s v' e1 e2=>?_⟩
    cases j with
    | zero=>simp at e1 e2; subst e1 e2; exact .inr ⟨d,i,rfl,rfl,ev,ed⟩
    | succ j=>simpa using h3 j s v' (by simpa using e1) (by simpa using e2)
  ·cases h
theorem z4y:∀ (as:List Ak) (rs:List S) (δ:Dl),(putA as rs δ).length=δ.length
 | [],rs,δ=>by simp [putA]
 | .val f :: as,[],δ=>by simp [putA]
 | .io i :: as,[],δ=>by simp [putA]
 | .val f :: as,r :: rs,δ=>by simp [putA,z4y as rs δ]
 | .io i :: as,r :: rs,δ=>by simp [putA,z4y as rs]
theorem z2N:∀ (as:List Ak) (rs:List S) (δ:Dl) (i:Nat),i ∉ ios as→(putA as rs δ)[i]? = δ[i]?
 | [],rs,δ,i,_=>by simp [putA]
 | .val f :: as,[],δ,i,_=>by simp [putA]
 | .io j :: as,[],δ,i,_=>by simp [putA]
 | .val f :: as,r :: rs,δ,i,h=>by rw [putA]; exact z2N as rs δ i h
 | .io j :: as,r :: rs,δ,i,h=>by
  simp only [ios,Wj,not_or] at h
  rw [putA,z2N as rs _ i h.2,W8 (Ne.symm h.1)]
theorem z4z:∀ (as:List Ak) (rs:List S) (δ:Dl) (i j:Nat) (r:S),(ios as).Nodup→as[j]? = some (.io i)→rs[j]? = some r→i < δ.length→(putA as rs δ)[i]? = some (some r)
 | [],rs,δ,i,j,r,_,h,_,_=>by simp at h
 | a :: as,[],δ,i,j,r,_,_,h,_=>by simp at h
 | .val f :: as,r0 :: rs,δ,i,j,r,nd,h1,h2,hi=>by
  cases j with
  | zero=>simp at h1
  | succ j=>rw [putA]; exact z4z as rs δ i j r nd (by simpa using h1) (by simpa using h2) hi
 | .io k :: as,r0 :: rs,δ,i,j,r,nd,h1,h2,hi=>by
  have nd':=WV.mp nd
  cases j with
  | zero =>
   simp at h1 h2
   subst h1 h2
   rw [putA,z2N as rs _ k nd'.1,Wm hi]
  | succ j=>rw [putA]; exact z4z as rs _ i j r nd'.2 (by simpa using h1) (by simpa using h2) (by simpa using hi)
theorem zaK (k:Ok c σ δ H) (hr:ArgR c σ δ H vs as ds) (hm:mkA as ds δ=some ss) (nd:(ios as).Nodup) :
  Ok ⟨H,fun a=>Av c σ δ a∧¬ ∃ (j:Nat) (d:D),ss[j]? = some (S.own d)∧vs[j]? = some (V.ref a),z0V 0 ss vs,fun _ _=>False⟩ (z1d vs) (z1c ss) H:=by
 obtain ⟨h1,h2,h3⟩:=z7L hr hm
 have at':∀ (j:Nat) s,ss[j]? = some s→∃ v,vs[j]? = some v:=fun j s e=>by
  have:j < vs.length:=by rw [← h1]; exact (W3.mp e).1
  exact ⟨vs[j],by simp [this]⟩
 have ownE:∀ a,Own (z1d vs) (z1c ss) a ↔ ∃ (j:Nat) (d:D),ss[j]? = some (S.own d)∧vs[j]? = some (V.ref a):=fun a =>
  ⟨fun ⟨j,d,e1,e2⟩=>⟨j,d,someS_get.mp e1,some'_get.mp e2⟩,fun ⟨j,d,e1,e2⟩=>⟨j,d,someS_get.mpr e1,some'_get.mpr e2⟩⟩
 have own2:∀ a,Own (z1d vs) (z1c ss) a→Own σ δ a:=fun a z=>by
  obtain ⟨j,d,e1,e2⟩:=(ownE a).mp z
  rcases h3 j _ _ e1 e2 with ⟨d',f,e,_⟩ | ⟨d',i,e,_,es,ed⟩
  ·cases e
  ·exact ⟨i,d',ed,es⟩
 have sub:∀ a,Av ⟨H,fun a=>Av c σ δ a∧¬ ∃ (j:Nat) (d:D),ss[j]? = some (S.own d)∧vs[j]? = some (V.ref a),z0V 0 ss vs,fun _ _=>False⟩ (z1d vs) (z1c ss) a→Av c σ δ a:=fun a z=>z.elim (fun z=>z.1) fun z=>.inr (own2 a z)
 refine ⟨fun a o e _=>e,fun a z=>k.avthere z.1,fun a ⟨i,hi⟩=>?_,by simp [h1],fun j d e=>?_,fun j d e=>?_,fun i j a d d' e1 e2 e3 e4=>?_,fun p hp=>?_⟩
 ·obtain ⟨j,d,_,e1,e2⟩:=z1P hi
  exact k.othere (own2 a ((ownE a).mpr ⟨j,d,e1,e2⟩))
 ·have e':=someS_get.mp e
  obtain ⟨v,ev⟩:=at' j _ e'
  rcases h3 j _ v e' ev with ⟨d',f,e,_,r⟩ | ⟨d',i,e,_⟩
  ·cases e
   exact ⟨v,some'_get.mpr ev,r.anti fun b z=>.inl (sub b z)⟩
  ·cases e
 ·have e':=someS_get.mp e
  obtain ⟨v,ev⟩:=at' j _ e'
  rcases h3 j _ v e' ev with ⟨d',f,e,_,r⟩ | ⟨d',i,e,_,es,ed⟩
  ·cases e
  ·cases e
   obtain ⟨a,g1,g2,g3⟩:=k.own i d ed
   rw [es] at g1
   cases g1
   refine ⟨a,some'_get.mpr ev,g2.anti fun b z=>.inl (sub b z),.inl ⟨0 + j,z2R e' ev⟩,fun z=>z.2 ⟨j,d,e',ev⟩⟩
 ·have f1:=someS_get.mp e1
  have f2:=someS_get.mp e2
  rcases h3 i _ _ f1 (some'_get.mp e3) with ⟨_,_,e,_⟩ | ⟨d1,i1,e,a1,s1,x1⟩
  ·cases e
  ·rcases h3 j _ _ f2 (some'_get.mp e4) with ⟨_,_,e',_⟩ | ⟨d2,i2,e',a2,s2,x2⟩
   ·cases e'
   ·have:=k.inj i1 i2 a d1 d2 x1 x2 s1 s2
    subst this
    exact z7U nd a1 a2
 ·obtain ⟨j,d,e,e1,e2⟩:=z1P (i:=p.1) (a:=p.2) hp
  rw [Q3] at e
  rw [e]
  exact some'_get.mpr e2
theorem z9k (k:Ok c σ δ H) (hr:ArgR c σ δ H vs as ds) (hm:mkA as ds δ=some ss) (nd:(ios as).Nodup) (hB:B=fun a=>Av c σ δ a∧¬ ∃ (j:Nat) (d:D),ss[j]? = some (S.own d)∧vs[j]? = some (V.ref a))
  (x:Aft ⟨H,B,z0V 0 ss vs,fun _ _=>False⟩ (z1d vs) (z1c ss) H (z1d vs) (z1c outs) H') (hio:∀ (j:Nat) d,ss[j]? = some (.own d)→∃ d',outs[j]? = some (.own d')) (hpo:∀ (j:Nat) d,ss[j]? = some (.pure d)→∃ d',outs[j]? = some (.pure d')) :
  Aft c σ δ H σ (putA as outs δ) H'∧∀ v r,RepS ⟨H,B,z0V 0 ss vs,fun _ _=>False⟩ (z1d vs) (z1c outs) H H' v r→RepS c σ (putA as outs δ) H H' v r:=by
 obtain ⟨h1,h2,h3⟩:=z7L hr hm
 have inIdx:∀ i,i ∈ ios as→∃ (j:Nat) (d:D) (a:Addr),as[j]? = some (.io i)∧ss[j]? = some (.own d)∧vs[j]? = some (.ref a)∧σ[i]? = some (some (.ref a))∧δ[i]? = some (some (.own d)):=fun i hi=>by
  obtain ⟨j,hj,ej⟩:=List.mem_iff_getElem.mp (ios_mem.mp hi)
  have hv:j < vs.length:=by omega
  have hs:j < ss.length:=by omega
  have ej':as[j]? = some (.io i):=by rw [Wk hj,ej]
  rcases h3 j ss[j] vs[j] (by simp [hs]) (by simp [hv]) with ⟨d,f,e,a1,_⟩ | ⟨d,i',e,a1,s1,x1⟩
  ·rw [ej'] at a1; cases a1
  ·rw [ej'] at a1; cases a1
   obtain ⟨a,g1,_⟩:=k.own i d x1
   rw [s1] at g1
   have g2:vs[j] = .ref a:=by
    have:=Wv g1
    exact Wv this
   exact ⟨j,d,a,ej',by rw [Wk hs,e],by rw [Wk hv,g2],by rw [s1,g2],x1⟩
 have passed:∀ a,(∃ (j:Nat) (d:D),ss[j]? = some (S.own d)∧vs[j]? = some (V.ref a))→Own σ δ a:=fun a ⟨j,d,e1,e2⟩=>by
  rcases h3 j _ _ e1 e2 with ⟨d',f,e,_⟩ | ⟨d',i,e,_,es,ed⟩
  ·cases e
  ·exact ⟨i,d',ed,es⟩
 have Iiff:∀ a,(⟨H,B,z0V 0 ss vs,fun _ _=>False⟩:Fc).I a ↔ ∃ (j:Nat) (d:D),ss[j]? = some (S.own d)∧vs[j]? = some (V.ref a):=fun a =>
  ⟨fun ⟨i,hi⟩=>by obtain ⟨j,d,_,e1,e2⟩:=z1P hi; exact ⟨j,d,e1,e2⟩,fun ⟨j,d,e1,e2⟩=>⟨0 + j,z2R e1 e2⟩⟩
 have ownIn:∀ a,Own (z1d vs) (z1c ss) a→∃ (j:Nat) (d:D),ss[j]? = some (S.own d)∧vs[j]? = some (V.ref a):=fun a ⟨j,d,e1,e2⟩=>⟨j,d,someS_get.mp e1,some'_get.mp e2⟩
 -- the owned addresses are the same
 have slotP:∀ (i:Nat) (d:D),(putA as outs δ)[i]? = some (some (.own d))→(i ∉ ios as∧δ[i]? = some (some (.own d)))∨(i ∈ ios as∧∃ (j:Nat) (d0:D) (a:Addr),as[j]? = some (.io i)∧ss[j]? = some (.own d0)∧vs[j]? = some (.ref a)∧σ[i]? = some (some (.ref a))∧outs[j]? = some (.own d)):=fun i d e=>by
  by_cases hi:i ∈ ios as
  ·right
   obtain ⟨j,d0,a,a1,a2,a3,a4,a5⟩:=inIdx i hi
   obtain ⟨d',ed'⟩:=hio j d0 a2
   have hlt:i < δ.length:=(W3.mp a5).1
   have:=z4z as outs δ i j (.own d') nd a1 ed' hlt
   rw [e] at this
   cases this
   exact ⟨hi,j,d0,a,a1,a2,a3,a4,ed'⟩
  ·rw [z2N as outs δ i hi] at e
   exact .inl ⟨hi,e⟩
 have own_sub:∀ b,Own σ (putA as outs δ) b→Own σ δ b:=fun b ⟨i,d,e1,e2⟩=>by
  rcases slotP i d e1 with ⟨_,e⟩ | ⟨hi,j,d0,a,_,a2,a3,a4,_⟩
  ·exact ⟨i,d,e,e2⟩
  ·rw [e2] at a4
   have:b=a:=by injection (Wv (Wv a4))
   subst this
   exact passed b ⟨j,d0,a2,a3⟩
 have pureP:∀ (i:Nat) (d:D),(putA as outs δ)[i]? = some (some (.pure d))→i ∉ ios as∧δ[i]? = some (some (.pure d)):=fun i d e=>by
  by_cases hi:i ∈ ios as
  ·obtain ⟨j,d0,a,a1,a2,a3,a4,a5⟩:=inIdx i hi
   obtain ⟨d',ed'⟩:=hio j d0 a2
   have hlt:i < δ.length:=(W3.mp a5).1
   have:=z4z as outs δ i j (.own d') nd a1 ed' hlt
   rw [e] at this
   cases this
  ·rw [z2N as outs δ i hi] at e
   exact ⟨hi,e⟩
 have kpAv:∀ a o,H a=some o→¬ Av c σ δ a→H' a=some o:=fun a o e n=>x.keep a o e fun z=>n (.inr (passed a (ownIn a z)))
 have subA:∀ b,Av c σ (putA as outs δ) b→Av c σ δ b:=fun b z=>z.elim .inl fun z=>.inr (own_sub b z)
 -- the callee's set holds ours
 have big:∀ {c':Fc},c'.B=B→∀ b,Av c σ δ b→Av c' (z1d vs) (z1c outs) b:=fun {c'} hB' b z=>by
  by_cases hp:∃ (j:Nat) (d:D),ss[j]? = some (S.own d)∧vs[j]? = some (V.ref b)
  ·obtain ⟨j,d,e1,e2⟩:=hp
   obtain ⟨d',ed'⟩:=hio j d e1
   exact .inr ⟨j,d',someS_get.mpr ed',some'_get.mpr e2⟩
  ·exact .inl (by rw [hB',hB]; exact ⟨z,hp⟩)
 have okc:∀ (c1 c2:Fc),c1.H₀=c.H₀→c1.pin=c.pin→(∀ b,c1.B b→c.B b∨(c2.B b∧H b=none))→c2.pin=z0V 0 ss vs→(∀ b,B b→c2.B b)→Ok c2 (z1d vs) (z1c outs) H'→(∀ b,c1.B b→∃ o,H' b=some o)→Ok c1 σ (putA as outs δ) H':=fun c1 c2 e0 e1 e2 e3 e4 k2 hex=>by
  have sub1:∀ b,Av c1 σ (putA as outs δ) b→Av c σ δ b∨H b=none:=fun b z=>by
   rcases z with z | z
   ·rcases e2 b z with z | ⟨_,z⟩
    ·exact .inl (.inl z)
    ·exact .inr z
   ·exact .inl (.inr (own_sub b z))
  have sub2:∀ b,Av c1 σ (putA as outs δ) b→Av c2 (z1d vs) (z1c outs) b:=fun b z=>by
   have bg:∀ b,Av c σ δ b→Av c2 (z1d vs) (z1c outs) b:=fun b z=>by
    by_cases hp:∃ (j:Nat) (d:D),ss[j]? = some (S.own d)∧vs[j]? = some (V.ref b)
    ·obtain ⟨j,d,e1,e2⟩:=hp
     obtain ⟨d',ed'⟩:=hio j d e1
     exact .inr ⟨j,d',someS_get.mpr ed',some'_get.mpr e2⟩
    ·exact .inl (e4 b (by rw [hB]; exact ⟨z,hp⟩))
   rcases z with z | z
   ·rcases e2 b z with z | ⟨z,_⟩
    ·exact bg b (.inl z)
    ·exact .inl z
   ·exact bg b (.inr (own_sub b z))
  have kp':∀ {v:V} {d:D},Rep H (Av c σ δ) v d→Rep H' (Av c1 σ (putA as outs δ)) v d:=fun {v d} r=>by
   have r1:Rep H (fun b=>Av c σ δ b∨Av c1 σ (putA as outs δ) b) v d:=r.anti fun b z=>z.elim .inl (sub1 b)
   exact (r1.keep fun b o e n=>kpAv b o e fun z=>n (.inl z)).anti fun b z=>.inl (.inr z)
  refine ⟨fun a o e n=>?_,hex,fun a z=>?_,by rw [z4y]; exact k.len,fun i d e=>?_,fun i d e=>?_,fun i j a d d' f1 f2 f3 f4=>?_,by rw [e1]; exact k.pinned⟩
  ·rw [e0] at e
   have n':¬ c.I a:=fun z=>n (by unfold Fc.I at z ⊢; rw [e1]; exact z)
   refine x.keep a o (k.keep a o e n') fun z=>?_
   obtain ⟨i,d,g1,g2⟩:=passed a (ownIn a z)
   obtain ⟨a',g3,_,g4,_⟩:=k.own i d g1
   rw [g2] at g3; cases g3
   rcases g4 with g4 | g4
   ·exact n' g4
   ·rw [g4] at e; cases e
  ·have z':c.I a:=by unfold Fc.I at z ⊢; rw [← e1]; exact z
   obtain ⟨o,e⟩:=k.ith a z'
   exact x.there a o e
  ·obtain ⟨hi,e'⟩:=pureP i d e
   obtain ⟨v,g1,g2⟩:=k.slot i d e'
   exact ⟨v,g1,kp' g2⟩
  ·rcases slotP i d e with ⟨hi,e'⟩ | ⟨hi,j,d0,a,b1,b2,b3,b4,b5⟩
   ·obtain ⟨a,g1,g2,g3,g4⟩:=k.own i d e'
    have na:¬ Own (z1d vs) (z1c ss) a:=fun z=>by
     obtain ⟨j,d1,q1,q2⟩:=ownIn a z
     rcases h3 j _ _ q1 q2 with ⟨d',f,ee,_⟩ | ⟨d',i',ee,ai,es,ed⟩
     ·cases ee
     ·have:=k.inj i i' a d d' e' ed g1 es
      subst this
      exact hi (ios_mem.mpr (WE ai))
    have g2':OwnAt H' (Av c1 σ (putA as outs δ)) a d:=by
     have o1:OwnAt H (fun b=>Av c σ δ b∨Av c1 σ (putA as outs δ) b) a d:=g2.anti fun b z=>z.elim .inl (sub1 b)
     exact (o1.keep (fun b o e n=>kpAv b o e fun z=>n (.inl z)) fun o e=>x.keep a o e na).anti fun b z=>.inl (.inr z)
    refine ⟨a,g1,g2',by unfold Fc.I at g3 ⊢; rw [e0,e1]; exact g3,fun z=>?_⟩
    rcases e2 a z with z | ⟨_,z⟩
    ·exact g4 z
    ·obtain ⟨o,eo⟩:=g2.some
     rw [z] at eo; cases eo
   ·obtain ⟨a',g1,g2,g3,g4⟩:=k2.own j d (someS_get.mpr b5)
    rw [some'_get.mpr b3] at g1
    cases g1
    obtain ⟨i0,d1,q1,q2⟩:=passed a ⟨j,d0,b2,b3⟩
    obtain ⟨a'',q3,q4,q5,q6⟩:=k.own i0 d1 q1
    rw [q2] at q3; cases q3
    refine ⟨a,b4,g2.anti fun b z=>.inl (sub2 b z),by unfold Fc.I at q5 ⊢; rw [e0,e1]; exact q5,fun z=>?_⟩
    rcases e2 a z with z | ⟨_,z⟩
    ·exact q6 z
    ·obtain ⟨o,eo⟩:=q4.some
     rw [z] at eo; cases eo
  ·obtain ⟨d1,g1⟩:∃ d1,δ[i]? = some (some (.own d1)):=by
    rcases slotP i d f1 with ⟨_,e'⟩ | ⟨hi,_⟩
    ·exact ⟨d,e'⟩
    ·obtain ⟨_,d1,_,_,_,_,_,a5⟩:=inIdx i hi
     exact ⟨d1,a5⟩
   obtain ⟨d2,g2⟩:∃ d2,δ[j]? = some (some (.own d2)):=by
    rcases slotP j d' f2 with ⟨_,e'⟩ | ⟨hi,_⟩
    ·exact ⟨d',e'⟩
    ·obtain ⟨_,d1,_,_,_,_,_,a5⟩:=inIdx j hi
     exact ⟨d1,a5⟩
   exact k.inj i j a d1 d2 g1 g2 f3 f4
 have ok1:Ok c σ (putA as outs δ) H':=okc c ⟨H,B,z0V 0 ss vs,fun _ _=>False⟩ rfl rfl (fun b z=>.inl z) rfl (fun b z=>z) x.ok fun b z=>by
  obtain ⟨o,e⟩:=k.bd b z
  exact x.there b o e
 refine ⟨⟨ok1,fun a o e n=>x.keep a o e fun z=>n (passed a (ownIn a z)),fun a z=>.inl (own_sub a z),x.there⟩,fun v r hr=>?_⟩
 cases r with
 | pure d=>exact Rep.anti hr fun b z=>.inl (big rfl b (subA b z))
 | own d =>
  obtain ⟨a,ea,o,nb,h0,kp,hs⟩:=hr
  have hHa:H a=none:=hs
  have nav:¬ Av c σ δ a:=k.nav hHa
  refine ⟨a,ea,o.anti fun b z=>.inl ?_,fun z=>nav (.inl z),k.fresh₀ hHa,?_,hHa⟩
  ·rcases z with (z | z) | z
   ·exact (big rfl b (.inl z)).elim (fun z=>.inl (.inl z)) .inr
   ·exact .inl (.inr z)
   ·exact (big rfl b (.inr (own_sub b z))).elim (fun z=>.inl (.inl z)) .inr
  ·refine okc (c.plus a) (Fc.plus ⟨H,B,z0V 0 ss vs,fun _ _=>False⟩ a) rfl rfl (fun b z=>?_) rfl (fun b z=>.inl z) kp fun b z=>?_
   ·rcases z with z | z
    ·exact .inl z
    ·exact .inr ⟨.inr z,by rw [z]; exact hHa⟩
   ·rcases z with z | z
    ·obtain ⟨o,e⟩:=k.bd b z
     exact x.there b o e
    ·rw [z]; exact o.some
end
def z1S (G:DF):Prop:=∀ ss r outs,G ss=some (r,outs)→outs.length=ss.length∧∀ (j:Nat),(∀ d,ss[j]? = some (.own d)→∃ d',outs[j]? = some (.own d'))∧∀ d,ss[j]? = some (.pure d)→∃ d',outs[j]? = some (.pure d')
theorem z6w (hG:∀ ss y,G ss=some y→runD fb n ss=some y):z1S G:=fun ss r outs h=>by
 have:=hG ss _ h
 unfold runD at this
 cases e:fb (z0w n ss) with
 | exc x δx=>rw [e] at this; cases this
 | stuck=>rw [e] at this; cases this
 | ok fl δ =>
  rw [e] at this
  simp only at this
  cases e1:z1f fl with
  | none=>rw [e1] at this; cases this
  | some r' =>
   rw [e1] at this
   simp only [QF] at this
   cases e2:z0p 0 ss δ with
   | none=>rw [e2] at this; cases this
   | some os =>
    rw [e2] at this
    cases this
    obtain ⟨h1,h2⟩:=z4C e2
    refine ⟨h1,fun j=>⟨fun d ed=>?_,fun d ed=>?_⟩⟩
    ·rcases h2 j _ ed with ⟨d',z,_⟩ | ⟨d',d'',_,_,z⟩
     ·cases z
     ·exact ⟨d'',z⟩
    ·rcases h2 j _ ed with ⟨d',z,z'⟩ | ⟨d',d'',z,_⟩
     ·exact ⟨d',z'⟩
     ·cases z
section
variable {X:Cx} {c:Fc} {e:Expr} {es:List Expr} {as:List Ak} {k n:Nat} {x:Str} {G:DF} {pp pos:Pos}
theorem z8i {ps:List Str} (hK:z1S G) {σ:St} {H:Hp} {Q:VK} (hl:as.length=n) (h:tD c (z06 G as) σ H Q):zb0 (spD n G) [] E0 (tX c as) σ H Q:=by
 obtain ⟨δ,kk,q⟩:=h
 unfold z06 at q
 split at q
 ·rename_i hc
  rw [Ws] at hc
  have nd:=z4i hc.2
  rw [z01] at q
  refine ⟨δ,kk,fun i hi=>?_,z00 q fun ds δ1 q1 vs H1 a1 r1=>?_⟩
  ·have:=QG.mp hc.1 i (ios_mem.mpr hi)
   unfold z0q at this
   split at this
   ·rename_i d ed
    exact z2m kk ed
   ·cases this
  ·cases em:mkA as ds δ1 with
   | none=>rw [em] at q1; exact q1.elim
   | some ss =>
    rw [em] at q1
    simp only at q1
    cases eg:G ss with
    | none=>rw [eg] at q1; exact q1.elim
    | some y =>
     obtain ⟨r,outs⟩:=y
     rw [eg] at q1
     have hin:=zaK a1.ok r1 em nd
     obtain ⟨m1,m2,_⟩:=z7L r1 em
     obtain ⟨g1,g2⟩:=hK ss r outs eg
     refine ⟨ss,_,by rw [J9,← m2]; exact hl,by rw [J9]; exact hin,r,outs,eg,fun v H2 a2 r2=>?_⟩
     rw [J9] at a2 r2
     obtain ⟨o1,o2⟩:=z9k a1.ok r1 em nd rfl a2 (fun j d ed=>(g2 j).1 d ed) fun j d ed=>(g2 j).2 d ed
     exact q1 v H2 (a1.trans o1) (RepS.back (o2 v r r2) a1)
 ·exact q.elim
theorem z0i (F:KFn X.prog X.w X.K X.mg X.base k x n G) (hK:z1S G) (hr:Room k X.A) (hg:Gl X x) (ha:SX X c (e :: es) as) (hl:as.length=n) (hdb:(x == ("__debug__" : Str))=false:=by decide)
  (he:W6 (e :: es) X.env=(false,eval e X.env) :: W6 es X.env:=by rfl) (hpl:(WW pos (W6 es X.env)).any (·.1)=false:=by rfl):SE X c (.Call (.Name x pp) (e :: es) [] pos) (z06 G as):=by
 obtain ⟨f,fd,ps,hm,hk,hb,ok⟩:=F
 exact PE.weak (zao ok hr hg hm hk hb .nil pass0 ha hdb he hpl) fun σ H Q h=>z8i (ps:=ps) hK hl h
end
def gOf (np:List Nat) (n:Nat) (b:DS):DF:=fun ss=>if ioOk np 0 ss then runD b n ss else none
theorem z0X (h:gOf np n b ss=some y):ioOk np 0 ss=true∧runD b n ss=some y:=by
 unfold gOf at h
 split at h
 ·rename_i hi; exact ⟨hi,h⟩
 ·cases h
theorem z0z:z1S (gOf np n b):=z6w fun _ _ h=>(z0X h).2
theorem z2q (r:Room k A):A.units + 64 < QO:=by have:=r.un; omega
theorem z11 {c:Fc} {np cs:List Nat} (h:Np c np) (hc:cs.all (fun i=>!np.contains i)=true):∀ p ∈ c.pin,p.1 ∉ cs:=fun p hp z=>by
 have h1:=h p hp
 have h2:=QG.mp hc p.1 z
 rw [h1] at h2
 cases h2
def ndS:List Str→Bool
 | []=>true
 | x :: r=>!r.contains x && ndS r
theorem z9J:∀ {l:List Str},ndS l=true→l.Nodup
 | [],_=>.nil
 | x :: r,h=>by
  simp only [ndS,Ws,Bool.not_eq_true'] at h
  exact List.nodup_cons.mpr ⟨fun hm=>by have:=h.1; simp at this; exact this hm,z9J h.2⟩
def z34 (names:List (Str×NameKind)) (x:Str) (k:NameKind):Bool:=match names.lookup x with
 | some j=>j == k
 | none=>false
theorem z4H (h:z34 names x k=true):names.lookup x=some k:=by
 unfold z34 at h
 split at h
 ·rename_i j e; rw [e,eq_of_beq h]
 ·cases h
def cscB (names:List (Str×NameKind)) (N:List Str) (sc:List (Str×NameKind)) (cs:List Nat):Bool :=
 sc.all (fun x=>!(x.2 == .local) || z34 sc x.1 .local) && sc.all (fun x=>!(x.2 == .free) || (z34 names x.1 .cell || z34 names x.1 .free)) && ndS (sc.map (·.1)) &&
 (Wx N.length).all fun i=>match N[i]? with
  | some x=>!(z34 sc x .local || z34 sc x .cell) || cs.contains i
  | none=>true
theorem z6g (h:names.lookup x=some k):z34 names x k=true:=by
 unfold z34; rw [h]; simp
theorem z0h {X:Cx} {scope:Scope} {cs:List Nat} (hk:scope.kind = .function) (h:cscB X.env.scope.names X.N scope.names cs=true):CScope X scope cs:=by
 unfold cscB at h
 simp only [Ws] at h
 obtain ⟨⟨⟨h1,h2⟩,h3⟩,h4⟩:=h
 refine ⟨hk,fun x hx hl=>?_,fun x hx hf=>?_,z9J h3,fun i x hi hl=>?_⟩
 ·have:=QG.mp h1 x hx
  rw [hl] at this
  exact z4H (by simpa using this)
 ·have:=QG.mp h2 x hx
  rw [hf] at this
  have:z34 X.env.scope.names x.1 .cell=true∨z34 X.env.scope.names x.1 .free=true:=by simpa using this
  exact this.elim (fun z=>.inl (z4H z)) fun z=>.inr (z4H z)
 ·have hil:i < X.N.length:=(W3.mp hi).1
  have:=QG.mp h4 i (List.mem_range.mpr hil)
  rw [hi] at this
  have hl':(z34 scope.names x .local || z34 scope.names x .cell)=true:=by
   rcases hl with z | z
   ·rw [z6g z]; rfl
   ·rw [z6g z]; simp
  simp only [hl',Bool.not_true,Bool.false_or] at this
  simpa using this
theorem z9V {K:W1}:TyK K "int":=⟨rfl,rfl,rfl,rfl,rfl,rfl,rfl⟩
theorem z8w {K:W1}:TyK K "bool":=⟨rfl,rfl,rfl,rfl,rfl,rfl,rfl⟩
theorem z6S {K:W1}:TyK K "tuple":=⟨rfl,rfl,rfl,rfl,rfl,rfl,rfl⟩
def z3M:Expr→Bool
 | .Starred ..=>false
 | _=>true
theorem z4t (h:z3M e=true):W6 (e :: es) env=(false,eval e env) :: W6 es env:=by
 cases e <;> first | (cases h; done) | rw [W6] | rfl
 all_goals (intros; contradiction)
section
variable {X:Cx} {c:Fc} {e:Expr} {es:List Expr} {f fe:DE} {g:DA} {as:List Ak}
theorem z0x (ha:SE X c e f) (hr:SA X c es g) (hs:z3M e=true:=by rfl):SA X c (e :: es) (z0U f g):=z7g ha hr (z4t hs)
theorem z0a (ha:SE X c e fe) (hr:SX X c es as) (hs:z3M e=true:=by rfl):SX X c (e :: es) (.val fe :: as):=zb1 ha hr (z4t hs)
theorem z1m {i:Nat} (ha:PE X e (tVar i)) (hr:SX X c es as) (hs:z3M e=true:=by rfl):SX X c (e :: es) (.io i :: as):=sx_io ha hr (z4t hs)
end
mutual
def z2t:Nat→Expr→Option D
 | _,.Constant (.int i) _ _=>some (.int i)
 | _,.Constant (.bool b) _ _=>some (.bl b)
 | _,.Constant .none _ _=>some .non
 | _,.Constant (.str x) _ _=>some (.str x.cps.toList)
 | n + 1,.Tuple es _ _=>if es.length≤1000 then (z2C n es).map .tup else none
 | _,_=>none
def z2C:Nat→List Expr→Option (List D)
 | _,[]=>some []
 | n,e :: es=>match z2t n e,z2C n es with
  | some d,some ds=>some (d :: ds)
  | _,_=>none
end
theorem z6L:∀ {n:Nat} {e:Expr} {d:D},z2t n e=some d→z3M e=true:=fun {n e d} h=>by
 cases e <;> first | rfl | (cases n <;> simp [z2t] at h)
mutual
theorem z7c:∀ {n:Nat} {e:Expr} {d:D},z2t n e=some d→SE X c e (eD d)
 | _,.Constant (.int i) _ _,d,h=>by
  simp only [z2t,W7] at h; subst h; exact z02
 | _,.Constant (.bool b) _ _,d,h=>by
  simp only [z2t,W7] at h; subst h; exact z7d
 | _,.Constant .none _ _,d,h=>by
  simp only [z2t,W7] at h; subst h; exact zba
 | _,.Constant (.str x) _ _,d,h=>by
  simp only [z2t,W7] at h; subst h; exact z79 _ (z9r x)
 | 0,.Tuple es k pos,d,h=>by simp [z2t] at h
 | n + 1,.Tuple es k pos,d,h=>by
  simp only [z2t] at h
  split at h
  ·rename_i hl
   cases e:z2C n es with
   | none=>rw [e] at h; cases h
   | some ds =>
    rw [e] at h
    simp only [WA,W7] at h
    subst h
    exact z3D (z3G e) hl
  ·cases h
theorem z3G:∀ {n:Nat} {es:List Expr} {ds:List D},z2C n es=some ds→SA X c es (fun δ=>.ok ds δ)
 | _,[],ds,h=>by
  simp only [z2C,W7] at h; subst h; exact z1G
 | n,e :: es,ds,h=>by
  simp only [z2C] at h
  split at h
  ·rename_i d ds' h1 h2
   cases h
   exact z7g (z7c h1) (z3G h2) (z4t (z6L h1))
  ·cases h
end
def z39 (ds:List D):DE:=fun δ=>.ok (.own (.lst ds)) δ
theorem z3E {X:Cx} {c:Fc} {es:List Expr} {ds:List D} {pos:Pos} (h:z2C 9 es=some ds) (hl:es.length≤1000):SE X c (.List es pos) (z39 ds):=z3f (z3G h) hl
section
variable {X:Cx} {c:Fc} {e:Expr} {fe:DE} {pos:Pos} {tg:Expr}
theorem z1O {i:Nat} {o:Expr} {apos cpos:Pos} (ho:PE X o (tVar i)) (he:SE X c e fe)
  (hbase:QI o "append" X.env (eval o X.env)=eval o X.env:=by rfl)
  (hfew:((WW cpos (W6 [e] X.env)).all (fun x=>!x.1) && (backToKw cpos (J1 [] X.env)).all (fun x=>x.1.isSome)
   && decide ([e].length + ([]:List Keyword).length + (if ([]:List Keyword).isEmpty then 0 else 1) < 30))=true:=by rfl)
  (hline:(apos.endLine == cpos.line)=true:=by rfl) (hs:W6 [e] X.env=(false,eval e X.env) :: W6 [] X.env:=by rfl)
  (hsw:Jc (.Call (.Attribute o "append" apos) [e] [] cpos) none pos.line X.env=pure false:=by rfl):SS X c (.Expr (.Call (.Attribute o "append" apos) [e] [] cpos) pos) (z0I i fe) :=
 z70 (p0:=apos) ho he (zah (z8S PySem.F.plainAttrs_list PySem.F.slot_list_append PySem.F.type_list_append z59 ho (z0Q he z1H hs) hbase hfew hline hs rfl) hsw)
end
def noL (K:W1):Bool:=K.all fun p=>match p.2.cls with
 | .type t=>!(t == "list")
 | _=>true
theorem z9L [BEq α] [LawfulBEq α]:∀ {K:List (α×β)} {a:α} {o:β},K.lookup a=some o→(a,o) ∈ K
 | [],a,o,e=>by simp at e
 | (b,o') :: r,a,o,e=>by
  rw [Q0] at e
  cases hb:a == b with
  | true =>
   rw [hb] at e
   have h1:o'=o:=Wv e
   have h2:a=b:=eq_of_beq hb
   rw [h1,h2]
   exact Wg
  | false =>
   rw [hb] at e
   exact Wb _ (z9L e)
theorem zbR {K:W1} {a:Addr} {o:Obj} (h:noL K=true) (e:K.lookup a=some o) (hc:o.cls = .type "list"):False:=by
 have hm:(a,o) ∈ (K:List (Addr×Obj)):=z9L e
 have h1:=QG.mp h (a,o) hm
 have h2:(match o.cls with | .type t=>!(t == "list") | _=>true)=true:=h1
 rw [hc] at h2
 have h3:(!(("list" : String) == "list"))=true:=h2
 rw [beq_self_eq_true] at h3
 cases h3
theorem zbX {K:W1} {G:DF} {H:Hp} {a:Addr} {ns:List Int} {E:XK} (hK:noL K=true) (hS:SqL K H a (ns.map V.int)) (hG:∃ outs,G [.pure (.lst (ns.map .int))]=some (.pure (.bl true),outs)) :
  spD 1 G [.ref a] H (fun v _=>v = .bl true) E:=by
 have hR:Rd H a (.lst (ns.map V.int)):=by
  rcases hS with h | ⟨o,its,n,e,hc,_⟩
  ·exact h
  ·exact (zbR hK e hc).elim
 obtain ⟨outs,hg⟩:=hG
 have rep:∀ O:Addr→Prop,¬ O a→Rep H O (.ref a) (.lst (ns.map D.int)):=fun O hO=>.lst hO hR (by simp) fun i v d e1 e2=>by
  rw [Wu] at e1 e2
  cases e:ns[i]? with
  | none=>rw [e] at e1; cases e1
  | some k=>rw [e] at e1 e2; cases e1; cases e2; exact .int k
 refine ⟨[.pure (.lst (ns.map .int))],fun _=>False,rfl,⟨fun b o e _=>e,fun b z=>z.elim,fun b ⟨i,z⟩=>?_,rfl,fun i d e=>?_,fun i d e=>?_,fun i j b d d' e1 e2 e3 e4=>?_,fun p z=>?_⟩,_,outs,hg,fun v H' x r=>?_⟩
 ·simp [z0V] at z
 ·cases i with
  | zero =>
   simp at e
   subst e
   refine ⟨.ref a,rfl,rep _ fun z=>?_⟩
   rcases z with z | ⟨j,d',z1,z2⟩
   ·exact z
   ·cases j with
    | zero=>simp at z1
    | succ j=>simp at z1
  | succ i=>simp at e
 ·cases i with
  | zero=>simp at e
  | succ i=>simp at e
 ·cases i with
  | zero=>simp at e1
  | succ i=>simp at e1
 ·simp [z0V] at z
 ·cases r
  rfl
theorem walkD {l:PySem.W.OpenLaw} {q:Wh} {loose:List Str} {XP:(Str→Option Value)→Heap→Prop} {YP:Wo→Heap→Prop} {d:DefRec} {K:Params→W1} {k:Nat} {G:DF} (hn:l.most=some 63) (hdf:d.params.defaults=[]) (hr:Room k callerA)
  (hY:∀ (w:Wo) (h:Heap),YP w h→(K w.params).In h) (hL:∀ p:Params,noL (K p)=true)
  (hG:∀ ns:List Int,ns.length≤63→∃ outs,G [.pure (.lst (ns.map .int))]=some (.pure (.bl true),outs))
  (F:∀ (w:Wo) (mg:Str→Option Value) (fa:Addr) (h:Heap),(K w.params).In h→h.Ns Ww mg→mg d.name=some (.ref fa) →
   ∃ fd:WR,(∀ (s:W2) (u:Value),BindsTo s fd ⟨[u],[]⟩ [("script",u)])∧∀ base:Heap,(K w.params).In base→base.Ns Ww mg→FnOk l.prog w (K w.params) mg base CX0 k fa fd ["script"] (spD 1 G)) :
  PySem.W.WalkO q loose XP YP l.row.toRowW d [] (fun f vs=>PySem.call f vs) :=
 L2.walk_of (n:=63) (k:=k) (x:="script") (CX:=fun _=>CX0) (sp:=fun _=>spD 1 G) hn (by decide) hdf hr hY F (fun w H a ns hl _ hS=>zbX (hL w.params) hS (hG ns hl)) fun _ _ _ _ _ z=>z
end DV
set_option maxHeartbeats 400000
namespace L2
open PySem PySem.Spec PyProof.Rows
def Its (x:Str):It:=⟨fun i _=>i < x.cps.size,fun i H y H'=>H'=H∧∃ c,x.cps[i]? = some c∧y = .str ⟨#[c]⟩,fun i _=>i=x.cps.size⟩
theorem z8y {P:Wh} {w:Wo} {K:W1} {tg:Expr} (x:Str) (t:Tok) (it:Addr) (T:String) (hT:T = "str_ascii_iterator"∨T = "str_iterator"):Turn P w K tg (Its x) [it] it (fun i h=>h.IsStrIter it T x t i):=by
 have W:∀ A:Wp,A.handled=none→Walks P w A it [it] [it] x.cps.size (SignAt x) (fun i h=>h.IsStrIter it T x t i):=fun A hh=>by
  rcases hT with rfl | rfl
  ·exact Walks.strAscii hh it x t
  ·exact Walks.strWide hh it x t
 refine ⟨by simp,fun i h st b hb=>?_,fun i h h' st k=>?_,?_,?_,fun A i s Q E st h=>?_⟩
 ·have e:b=it:=by simpa using hb
  subst e
  obtain ⟨o,e,c,d⟩:=st
  exact ⟨o,e,fun v z=>by rw [d] at z; cases z⟩
 ·obtain ⟨o,e,r⟩:=st
  exact ⟨o,k it (by simp) o e,r⟩
 ·intro X hP hw hK hc i pins s σ H E I hf st hg
  subst hP hw hK
  obtain ⟨f0,f1,f2,f3,f4,f5⟩:=hf it (by simp)
  refine (W X.A (I.ok.hd hc)).item i s _ _ hg st fun v h' tk hv st' kk=>?_
  obtain ⟨c,u,hx,rfl⟩:=hv
  have I1:Inv X pins σ H { s with heap:=h',toks:=tk }:=I.turned (fun b o hb e=>kk b o (by simpa using hb) e) f0 f1 f3 f4 f5
  obtain ⟨o,e,c',d⟩:=id st'
  refine ⟨_,rfl,z97 (s:={ s with heap:=h',toks:=tk }) e c' d (by rcases hT with rfl | rfl <;> decide) ⟨.str ⟨#[c]⟩,H,I1,⟨u,rfl⟩,⟨rfl,c,hx,rfl⟩,st',fun b hb=>(hf b hb).1⟩⟩
 ·intro X hP hw hK hc i pins s σ H E I hf st hg
  subst hP hw hK
  have hg':i=x.cps.size:=hg
  subst hg'
  obtain ⟨f0,f1,f2,f3,f4,f5⟩:=hf it (by simp)
  exact (W X.A (I.ok.hd hc)).done s _ _ st fun h' tk eb=>⟨rfl,I.turned (fun b o hb e=>eb b o (by simpa using hb) e) f0 f1 f3 f4 f5⟩
 ·rcases hT with rfl | rfl
  ·exact wpAny_pyIter_striter_ascii st h
  ·exact wpAny_pyIter_striter_wide st h
end L2
namespace DV
open PySem PySem.Spec PyProof.Rows L2
section
variable {X:Cx} {c:Fc} {tg e:Expr} {fe:DE} {pos pp:Pos}
def iSeqS (K:W1) (tl:TE):TI:=fun σ H R=>tl σ H fun x H1=>(∃ a,x = .ref a∧(∃ xs,SqL K H1 a xs)∧R (Itl K a) H1)∨(∃ a,x = .ref a∧(∃ xs,SqT K H1 a xs)∧R (Itt K a) H1)∨∃ z,x = .str z∧R (Its z) H1
theorem z7s {l:Expr} {tl:TE} (hl:PE X l tl):PI X tg l (iSeqS X.K tl):=by
 intro pins s σ H R I h
 refine thn (hl pins s σ H _ I h) fun v s1 ⟨x,H1,I1,r1,q1⟩=>?_
 rcases q1 with q1 | q1 | ⟨z,e,q⟩
 ·obtain ⟨a,e,⟨xs,hq⟩,q⟩:=q1
  subst e
  cases r1
  obtain ⟨its,rv,p,hz⟩:=I1.list hq
  refine wpAny_pyIter_list p.isList ?_
  refine ⟨s1.heap.objs.size,[s1.heap.objs.size],_,_,H1,rfl,I1.kept (t':=s1.toks) fun b o e=>Wd _ e,z6V a _,⟨_,Wn _ rfl,rfl,rfl⟩,fun b hb=>?_,q⟩
  have e:b=s1.heap.objs.size:=by simpa using hb
  subst e
  exact I1.fpOk (Wf _) (I1.hok.fresh (Wf _))
 ·obtain ⟨a,e,⟨xs,hq⟩,q⟩:=q1
  subst e
  cases r1
  obtain ⟨its,rv,p,hz⟩:=I1.tuple hq
  refine wpAny_pyIter_tuple (show s1.heap.IsTuple a its.toArray from p) ?_
  refine ⟨s1.heap.objs.size,[s1.heap.objs.size],_,_,H1,rfl,I1.kept (t':=s1.toks) fun b o e=>Wd _ e,z6u a _,⟨_,Wn _ rfl,rfl,rfl⟩,fun b hb=>?_,q⟩
  have e:b=s1.heap.objs.size:=by simpa using hb
  subst e
  exact I1.fpOk (Wf _) (I1.hok.fresh (Wf _))
 ·subst e
  obtain ⟨t,rfl⟩:=r1
  refine wpAny_pyIter_strU ?_
  have hT:strIterType z = "str_ascii_iterator"∨strIterType z = "str_iterator":=by
   unfold strIterType
   split
   ·exact .inl rfl
   ·exact .inr rfl
  refine ⟨s1.heap.objs.size,[s1.heap.objs.size],_,_,H1,rfl,I1.kept (t':=s1.toks) fun b o e=>Wd _ e,z8y z t _ _ hT,⟨_,Wn _ rfl,rfl,rfl⟩,fun b hb=>?_,q⟩
  have e:b=s1.heap.objs.size:=by simpa using hb
  subst e
  exact I1.fpOk (Wf _) (I1.hok.fresh (Wf _))
theorem zc5 (z:Tx):ItOk c σ δ H (Its (toS z)) (z.map fun n=>D.str [n]):=by
 intro H2 kp
 have hsz:(toS z).cps.size=z.length:=by simp [toS]
 refine ⟨by show (z.map _).length=_; rw [hsz]; simp,fun i d e=>?_⟩
 rw [Wu] at e
 cases ez:z[i]? with
 | none=>rw [ez] at e; cases e
 | some n =>
  rw [ez] at e
  cases e
  have hi:i < z.length:=(W3.mp ez).1
  refine ⟨by show i < _; rw [hsz]; exact hi,fun x H3 ⟨e3,cc,hc,hx⟩=>.inl ⟨e3,?_⟩⟩
  have:(toS z).cps[i]? = z[i]?:=by simp [toS]
  rw [this,ez] at hc
  cases hc
  rw [hx]
  exact .str [n]
def iSq (f:DE):DI:=fun δ=>(f δ).bind fun r δ1=>match r.d with
 | .lst ds=>.ok ds δ1
 | .tup ds=>.ok ds δ1
 | .str x=>.ok (x.map fun n=>.str [n]) δ1
 | _=>.stuck
theorem z1T (he:SE X c e fe):SI X c tg e (iSq fe):=PI.weak (z7s he) fun σ H R ⟨δ,k,q⟩=>by
 unfold iSq at q
 rw [z01] at q
 refine ⟨δ,k,z00 q fun r δ1 q1 v H1 a1 r1=>?_⟩
 have rr:=r1.rep
 generalize r.d=d at q1 rr
 cases d <;> first | exact q1.elim | skip
 ·cases rr
  exact .inr (.inr ⟨_,rfl,q1 _ H1 a1 (zc5 _)⟩)
 ·cases rr with
  | tup h1 h2 h3 h4=>exact .inr (.inl ⟨_,rfl,⟨_,.of h2⟩,q1 _ H1 a1 (zc4 _ h2 (fun z=>h1 (.inr z)) ⟨h3,h4⟩)⟩)
 ·cases rr with
  | lst h1 h2 h3 h4 =>
   refine .inl ⟨_,rfl,⟨_,.inl h2⟩,q1 _ H1 a1 ?_⟩
   intro H2 kp
   rename_i a vs
   have h5:Rd H2 a (.lst vs):=Rd.keep h2 fun o e=>kp a o e fun z=>h1 (.inr z)
   have r':Reps H1 (Av c σ δ1) vs _:=⟨h3,h4⟩
   refine ⟨⟨vs,.inl h5,by rw [r'.1]; exact Wf _⟩,fun i d e=>?_⟩
   obtain ⟨v,ev,rv⟩:=r'.get e
   refine ⟨⟨vs,v,.inl h5,ev⟩,fun x H3 ⟨e3,y⟩=>.inl ⟨e3,?_⟩⟩
   have:=y vs (.inl h5)
   rw [ev] at this
   cases this
   exact rv
end
end DV
namespace L2
open PySem PySem.Spec PyProof.Rows
theorem z49 (a:Int) (t:Tok) (l:Addr) (dd:Option Addr) (items:Array Value) (n:Nat) (sl:Array (Option Value)) :
  Meets (Builtin.«int.__rmul__» ⟨[.int a t,.ref l],[]⟩) (fun _ R s=>s.heap.get? l=some { cls:=.type "tuple",dict:=dd,data:=.seq items n,slots:=sl }∧R (.ok (.ret Value.notImplemented)) s) :=
 .of_wp fun prog w A R s h=>by obtain ⟨hp,g,d,tk,os⟩:=s; obtain ⟨hl,h⟩:=h; wp_walk; exact ⟨_,rfl,h⟩
theorem z3o:fillsNumberSlot (.type "tuple") "mul" = pure false :=
 PySem.fillsNumberSlot_seq (id:="tuple.__mul__") (r:=some (.builtin "tuple.__rmul__")) F.slot_tuple_mul.lookup (by decide +kernel) F.slot_tuple_rmul.lookup (by decide +kernel)
theorem z4Z:seqRepeat? (.type "tuple")=pure (some (.builtin "tuple.__mul__")):=by
 unfold seqRepeat?
 rw [PySem.seqSlot_of (T:="tuple") (name:="__mul__") (id:="tuple.__mul__") F.slot_tuple_mul.lookup (by decide +kernel),PySem.seqSlot_of (T:="tuple") (name:="__rmul__") (id:="tuple.__rmul__") F.slot_tuple_rmul.lookup (by decide +kernel)]
 rfl
theorem z42 (l:Addr) (dd:Option Addr) (items:Array Value) (n:Nat) (sl:Array (Option Value)) (x:Int) (u:Tok) (h1:¬ (decide (x < -(2 ^ 63)) || decide (x ≥ 2 ^ 63))=true) (h2:¬ (items.isEmpty || x == 1)=true) (h3:¬ (decide (x≤0) || items.isEmpty)=true) (h4:¬ items.size * x > (2 ^ 63 - 1) / 8) (h5:¬ Builtin.Tuple.tupleTooMany (items.size * x)=true) (h6:((W4 x.toNat items).foldl (· ++ ·) #[]).size≤W9) :
  Meets (Builtin.«tuple.__mul__» ⟨[.ref l,.int x u],[]⟩) (fun _ R s=>s.heap.get? l=some { cls:=.type "tuple",dict:=dd,data:=.seq items n,slots:=sl } ∧
   R (.ok (.ret (.ref s.heap.objs.size))) { s with heap:=s.heap.push { cls:=.type "tuple",data:=.seq ((W4 x.toNat items).foldl (· ++ ·) #[]) } }) :=
 .of_wp fun prog w A R s h=>by
  obtain ⟨hp,g,d,tk,os⟩:=s; obtain ⟨hl,h⟩:=h
  wp_walk
  rw [if_neg h1]
  wp_walk
  try rw [if_neg h2]
  try wp_walk
  try rw [if_neg h3]
  try wp_walk
  try rw [if_neg h4]
  try wp_walk
  try rw [if_neg h5]
  try wp_walk
  exact ⟨_,rfl,h⟩
theorem z4J (its:List α):∀ (k:Nat) (acc:List α),List.foldl (fun x1 x2:Array α=>x1 ++ x2) acc.toArray (W4 k its.toArray)=(acc ++ (W4 k its).flatten).toArray
 | 0,acc=>by simp
 | k + 1,acc=>by
  rw [WC,QL,show acc.toArray ++ its.toArray=(acc ++ its).toArray by simp,z4J its k]
  simp [WC]
section
variable {X:Cx}
def zbk (K:W1):R2:=fun x y H Q=>∃ l k xs,x = .ref l∧y = .int k∧SqT K H l xs∧xs≠[]∧2≤k∧k≤1000000∧xs.length * k.toNat≤W9∧∀ p,H p=none→Q (.ref p) (upd H p (.tup (W4 k.toNat xs).flatten))
theorem zaq:OpR X (WY .Mult) (zbk X.K):=by
 intro pins s σ H x y v u Q I rx ry h
 obtain ⟨l,k,xs,rfl,rfl,hH,hne,h1,h2,hz,q⟩:=h
 cases rx
 obtain ⟨t,rfl⟩:=ry
 obtain ⟨its,r,pl,hl⟩:=I.tuple hH
 obtain ⟨⟨cls,dd,data,sl⟩,ho,hc,n,hd⟩:=id pl
 simp only at hc hd
 subst hc hd
 have hlen:its.toArray.size=xs.length:=by rw [Wi]; exact r.length.symm
 have hem:its.toArray.isEmpty=false:=by
  cases its with
  | nil=>exact absurd (r.nil_iff.mp rfl) hne
  | cons a b=>rfl
 have hline:W9=16777216:=rfl
 have hk:(k.toNat:Int)=k:=by omega
 have hmul:((its.toArray.size:Nat):Int) * k=((xs.length * k.toNat:Nat):Int):=by rw [hlen,Int.natCast_mul,hk]
 have hfold:List.foldl (fun x1 x2=>x1 ++ x2) #[] (W4 k.toNat its.toArray)=(W4 k.toNat its).flatten.toArray:=by
  have:=z3U its k.toNat []
  rw [WF] at this
  exact this
 refine wpAny_binaryOp_repeat_ref (T:="tuple") (U:="int") (by decide) ⟨_,ho,rfl⟩ (fun s'=>QK s' k t) z3o F.fills_int_mul F.slot_int_rmul z4Z F.slot_int_index.lookup
  (call_meets F.slot_int_rmul (QK s k t) F.entry_int_rmul (F.args_int_rmul_2 _ _) (z49 k t l dd its.toArray n sl)
   ⟨ho,rfl,⟨_,ho,rfl⟩,call_meets F.slot_tuple_mul ⟨_,ho,rfl⟩ F.entry_tuple_mul (F.args_tuple_mul_2 _ _) (z42 l dd its.toArray n sl k t ?_ ?_ ?_ ?_ ?_ ?_) ⟨ho,?_⟩⟩)
 ·simp; omega
 ·rw [hem]; simp; omega
 ·rw [hem]; simp; omega
 ·rw [hmul]; omega
 ·rw [hmul]
  unfold Builtin.Tuple.tupleTooMany
  rw [hline] at hz
  generalize xs.length * k.toNat=m at hz
  simp only [hline,decide_eq_true_eq]
  omega
 ·rw [hfold,Wi,z4G,← r.length,QT]; exact hz
 ·rw [hfold]
  have I1:Inv X pins σ (upd H s.heap.objs.size (.tup (W4 k.toNat xs).flatten)) { s with heap:=s.heap.push { cls:=.type "tuple",data:=.seq (W4 k.toNat its).flatten.toArray } } :=
   I.laid (t':=s.toks) (fun b o e=>Wd _ e) (Wf _) (show ObjOk X.prog X.w _ _ _ (.tup (W4 k.toNat xs).flatten) from ⟨by rw [z4G,QT]; exact hz,(W4 k.toNat its).flatten,r.rep k.toNat,IsTupN.new _ _⟩)
  exact ⟨.ref _,_,I1,rfl,q _ (I.hok.fresh (Wf _))⟩
def zbl:R2:=fun x y H Q=>∃ z k,x = .str z∧y = .int k∧2≤k∧k≤1000000∧0 < z.length∧z.length * k.toNat≤W9∧Q (.str ⟨(W4 k.toNat z.cps).foldl (· ++ ·) #[]⟩) H
theorem op_repS:OpR X (WY .Mult) zbl:=by
 intro pins s σ H x y v u Q I rx ry h
 obtain ⟨z,k,rfl,rfl,h1,h2,h0,hz,q⟩:=h
 obtain ⟨t,rfl⟩:=rx
 obtain ⟨t',rfl⟩:=ry
 have hline:W9=16777216:=rfl
 have c1:¬ k < 1:=by omega
 have c2:(k == 1 || z.length == 0)=false:=by
  simp
  omega
 refine PySem.P.mul_str (by simp; omega) (fun _ _=>?_) (fun _ _=>?_) ?_
 ·have hm:(z.length:Int) * k≤16777216:=by
   have:(z.length:Int) * k=((z.length * k.toNat:Nat):Int):=by rw [Int.natCast_mul,show (k.toNat:Int)=k by omega]
   rw [this]
   rw [hline] at hz
   omega
  have:(z.length:Int)≤(2 ^ 63 - 1) / k:=(Int.le_ediv_iff_mul_le (by omega)).mpr (by omega)
  omega
 ·unfold Builtin.Str.tooLong
  rw [hline] at hz
  generalize z.length * k.toNat=m at hz
  simp only [hline,decide_eq_false_iff_not]
  omega
 ·rw [if_neg c1,if_neg (by rw [c2]; simp)]
  have hsz:((W4 k.toNat z.cps).foldl (· ++ ·) #[]).size=k.toNat * z.length:=by
   have h:=z4J z.cps.toList k.toNat []
   simp only [WF,Array.toArray_toList] at h
   rw [h,Wi,z4G]
   simp [Str.length]
  exact ⟨by show ((W4 k.toNat z.cps).foldl (· ++ ·) #[]).size≤_; rw [hsz,QT]; exact hz,.str _,H,I.tok _,⟨_,rfl⟩,q⟩
end
end L2
namespace DV
open PySem PySem.Spec PyProof.Rows L2
def z1q:D→D→Option S
 | .int i,.int j=>pMul (.int i) (.int j)
 | .str x,.int k=>if 2≤k∧k≤1000000∧0 < x.length∧x.length * k.toNat≤W9 then some (.pure (.str (W4 k.toNat x).flatten)) else none
 | .tup xs,.int k=>if 2≤k∧k≤1000000∧0 < xs.length∧xs.length * k.toNat≤W9 then some (.pure (.tup (W4 k.toNat xs).flatten)) else none
 | _,_=>none
def zbn (K:W1):R2:=fun x y H Q=>rI CMul (fun i j=>V.int (i * j)) x y H Q∨zbl x y H Q∨zbk K x y H Q
theorem z3I:OpR X (WY .Mult) (zbn X.K):=op_mul.or (op_repS.or zaq)
theorem Reps.rep (h:Reps H O vs ds):∀ k:Nat,Reps H O (W4 k vs).flatten (W4 k ds).flatten
 | 0=>.nil
 | k + 1=>by rw [WC,WC,Qr,Qr]; exact h.append (Reps.rep h k)
theorem z3L {K:W1}:Op2 (zbn K) z1q:=by
 intro c σ δ H x y d e s Q k rx ry hp q
 cases d <;> cases e <;> first | (simp [z1q] at hp; done) | skip
 ·exact .inl (zbN c σ δ H x y _ _ s Q k rx ry hp q)
 ·rename_i z n
  simp only [z1q] at hp
  split at hp
  ·rename_i h
   cases hp
   refine .inr (.inl ⟨toS z,n,rx.str,ry.int,h.1,h.2.1,by rw [z1v]; exact h.2.2.1,by rw [z1v]; exact h.2.2.2,?_⟩)
   have e:(⟨(W4 n.toNat (toS z).cps).foldl (· ++ ·) #[]⟩:Str)=toS (W4 n.toNat z).flatten:=by
    unfold toS
    congr 1
    have:=z4J z n.toNat []
    rw [WF] at this
    exact this
   rw [e]
   exact q _ H (.refl k) (.str _)
  ·cases hp
 ·rename_i ds n
  simp only [z1q] at hp
  split at hp
  ·rename_i h
   cases hp
   obtain ⟨a,vs,ex,ha,r⟩:=rx.tup
   refine .inr (.inr ⟨a,n,vs,ex,ry.int,.of ha,?_,h.1,h.2.1,by rw [r.1]; exact h.2.2.2,fun p hp'=>?_⟩)
   ·intro z
    rw [z] at r
    have:=r.1
    simp at this
    omega
   ·exact q _ _ (.alloc k hp' _) (RepS.newT k (Reps.rep r _) hp')
  ·cases hp
theorem RepS.newD (k:Ok c σ δ H) (hp:H p=none):RepS c σ δ H (upd H p (.dK [])) (.ref p) (.own (.dct [])):=by
 refine ⟨p,rfl,⟨[],z0G,rfl,fun i p q e=>by simp at e⟩,fun z=>k.nav hp (.inl z),k.fresh₀ hp,k.plus hp _,hp⟩
def z82:DE:=fun δ=>.ok (.own (.dct [])) δ
theorem z8D {X:Cx} {c:Fc} {pos:Pos}:SE X c (.Dict [] [] pos) z82:=PE.weak z8R fun σ H Q ⟨δ,k,q⟩=>fun p hp=>q _ _ (.alloc k hp _) (RepS.newD k hp)
section
variable {X:Cx} {c:Fc} {e a x y:Expr} {fb:BE} {f g fa:DE} {pos pp p p2:Pos}
def eInR (neg:Bool) (fa f g:DE):DE:=fun δ=>(fa δ).bind fun v δ1=>(f δ1).bind fun lo δ2=>(g δ2).bind fun hi δ3=>match v.d,lo.d,hi.d with
 | .int i,.int l,.int h=>.ok (.pure (.bl (if neg then !(decide (l≤i) && decide (i < h)) else (decide (l≤i) && decide (i < h))))) δ3
 | _,_,_=>.stuck
end
end DV
set_option maxHeartbeats 1000000
namespace L2
open PySem PySem.Spec PyProof.Rows
set_option maxRecDepth 8000 in
set_option maxRecDepth 8000 in
section
variable {X:Cx} {pins:List (Addr×Obj)} {σ:St} {H:Hp}
end
end L2
set_option maxHeartbeats 400000
namespace DV
open PySem PySem.Spec PyProof.Rows L2
def valD (kvs:List (DKey×D)) (k:DKey):Option D:=(kvs.find? fun kv=>decide (kv.1=k)).map (·.2)
def putD (kvs:List (DKey×D)) (k:DKey) (v:D):List (DKey×D) :=
 if (kvs.any fun kv=>decide (kv.1=k))=true then kvs.map (fun kv=>if kv.1=k then (kv.1,v) else kv) else kvs ++ [(k,v)]
theorem zaB (h:kOf k=kOf j):k=j:=by
 cases k <;> cases j <;> simp [kOf] at h
 ·rw [h]
 ·rw [z5x h]
def DR (H:Hp) (O:Addr→Prop):List (Key×V)→List (DKey×D)→Prop
 | [],[]=>True
 | p :: ws,q :: ds=>p.1=kOf q.1∧Rep H O p.2 q.2∧DR H O ws ds
 | _,_=>False
section
variable {H H':Hp} {O O':Addr→Prop}
theorem DR.of:∀ {ws:List (Key×V)} {ds:List (DKey×D)},ws.map (·.1)=ds.map (fun p=>kOf p.1)→(∀ (i:Nat) p q,ws[i]? = some p→ds[i]? = some q→Rep H O p.2 q.2)→DR H O ws ds
 | [],[],_,_=>trivial
 | [],_ :: _,h,_=>by simp at h
 | _ :: _,[],h,_=>by simp at h
 | p :: ws,q :: ds,h,k=>by
  simp only [Wr,List.cons.injEq] at h
  exact ⟨h.1,k 0 p q rfl rfl,DR.of h.2 fun i p' q' e1 e2=>k (i + 1) p' q' (by simpa using e1) (by simpa using e2)⟩
theorem DR.keys:∀ {ws:List (Key×V)} {ds:List (DKey×D)},DR H O ws ds→ws.map (·.1)=ds.map (fun p=>kOf p.1)
 | [],[],_=>rfl
 | [],_ :: _,h=>h.elim
 | _ :: _,[],h=>h.elim
 | p :: ws,q :: ds,h=>by simp only [Wr,h.1,DR.keys h.2.2]
theorem DR.vals:∀ {ws:List (Key×V)} {ds:List (DKey×D)},DR H O ws ds→∀ (i:Nat) p q,ws[i]? = some p→ds[i]? = some q→Rep H O p.2 q.2
 | [],[],_,i,p,q,e,_=>by simp at e
 | [],_ :: _,h,_,_,_,_,_=>h.elim
 | _ :: _,[],h,_,_,_,_,_=>h.elim
 | p :: ws,q :: ds,h,i,p',q',e1,e2=>by
  cases i with
  | zero=>simp at e1 e2; subst e1 e2; exact h.2.1
  | succ i=>exact DR.vals h.2.2 i p' q' (by simpa using e1) (by simpa using e2)
theorem DR.map:∀ {ws:List (Key×V)} {ds:List (DKey×D)},DR H O ws ds→(∀ v d,Rep H O v d→Rep H' O' v d)→DR H' O' ws ds
 | [],[],_,_=>trivial
 | [],_ :: _,h,_=>h.elim
 | _ :: _,[],h,_=>h.elim
 | p :: ws,q :: ds,h,k=>⟨h.1,k _ _ h.2.1,DR.map h.2.2 k⟩
theorem z2y (h:p=kOf q):(p=kOf k) ↔ q=k:=⟨fun e=>zaB (by rw [← h]; exact e),fun e=>by rw [h,e]⟩
theorem DR.any:∀ {ws:List (Key×V)} {ds:List (DKey×D)} (k:DKey),DR H O ws ds→(ws.any fun kv=>decide (kv.1=kOf k))=ds.any fun kv=>decide (kv.1=k)
 | [],[],_,_=>rfl
 | [],_ :: _,_,h=>h.elim
 | _ :: _,[],_,h=>h.elim
 | p :: ws,q :: ds,k,h=>by
  rw [Jk,Jk,DR.any k h.2.2]
  congr 1
  exact decide_eq_decide.mpr (z2y h.1)
theorem DR.val:∀ {ws:List (Key×V)} {ds:List (DKey×D)} (k:DKey),DR H O ws ds→(valD ds k=none∧valV ws (kOf k)=none)∨∃ v d,valD ds k=some d∧valV ws (kOf k)=some v∧Rep H O v d
 | [],[],_,_=>.inl ⟨rfl,rfl⟩
 | [],_ :: _,_,h=>h.elim
 | _ :: _,[],_,h=>h.elim
 | p :: ws,q :: ds,k,h=>by
  by_cases e:q.1=k
  ·have e':=(z2y h.1).mpr e
   exact .inr ⟨p.2,q.2,by simp [valD,Qm,e],z16 e',h.2.1⟩
  ·have e':¬ p.1=kOf k:=fun z=>e ((z2y h.1).mp z)
   have ev:valD (q :: ds) k=valD ds k:=by simp [valD,Qm,e]
   rw [ev,z17 e']
   exact DR.val k h.2.2
theorem DR.append:∀ {ws ws':List (Key×V)} {ds ds':List (DKey×D)},DR H O ws ds→DR H O ws' ds'→DR H O (ws ++ ws') (ds ++ ds')
 | [],_,[],_,_,h'=>h'
 | [],_,_ :: _,_,h,_=>h.elim
 | _ :: _,_,[],_,h,_=>h.elim
 | p :: ws,_,q :: ds,_,h,h'=>⟨h.1,h.2.1,DR.append h.2.2 h'⟩
theorem DR.store:∀ {ws:List (Key×V)} {ds:List (DKey×D)} {k:DKey} {v:V} {d:D},DR H O ws ds→Rep H O v d→DR H O (ws.map fun kv=>if kv.1=kOf k then (kv.1,v) else kv) (ds.map fun kv=>if kv.1=k then (kv.1,d) else kv)
 | [],[],_,_,_,_,_=>trivial
 | [],_ :: _,_,_,_,h,_=>h.elim
 | _ :: _,[],_,_,_,h,_=>h.elim
 | p :: ws,q :: ds,k,v,d,h,r=>by
  refine ⟨?_,?_,DR.store h.2.2 r⟩
  ·by_cases e:q.1=k
   ·dsimp only; rw [if_pos ((z2y h.1).mpr e),if_pos e]; exact h.1
   ·dsimp only; rw [if_neg fun z=>e ((z2y h.1).mp z),if_neg e]; exact h.1
  ·by_cases e:q.1=k
   ·dsimp only; rw [if_pos ((z2y h.1).mpr e),if_pos e]; exact r
   ·dsimp only; rw [if_neg fun z=>e ((z2y h.1).mp z),if_neg e]; exact h.2.1
theorem DR.put (h:DR H O ws ds) (r:Rep H O v d):DR H O (putK ws (kOf k) v) (putD ds k d):=by
 unfold putK putD
 rw [DR.any k h]
 split
 ·exact DR.store h r
 ·exact DR.append h ⟨rfl,r,trivial⟩
end
def keyD:D→Option DKey
 | .int i=>some (.inl i)
 | .str x=>some (.inr x)
 | _=>none
theorem za7 (h:keyD d=some k) (r:Rep H O v d):v=kV (kOf k):=by
 cases d <;> simp [keyD] at h <;> subst h <;> cases r <;> rfl
theorem z8F (h:keyD d=some k) (r:RepB c σ δ H v d):v=kV (kOf k):=by
 rcases r with r | ⟨a,rfl,r⟩
 ·exact za7 h r
 ·cases d <;> simp [keyD] at h <;> exact r.elim
section
variable {X:Cx} {c:Fc} {e:Expr} {fb:BE} {pos pp:Pos}
end
theorem z8G (r:RepB c σ δ H v (.dct ds)):∃ a ws,v = .ref a∧H a=some (.dK ws)∧DR H (Av c σ δ) ws ds:=by
 obtain ⟨a,ws,e,h,k1,k2⟩:=r.dct
 exact ⟨a,ws,e,h,DR.of k1 k2⟩
def rIxD:R2:=fun x y H Q=>∃ a kvs k v,x = .ref a∧H a=some (.dK kvs)∧y=kV k∧valV kvs k=some v∧Q v H
def pIxX:D→D→Option S
 | .dct ds,k=>(keyD k).bind fun k=>(valD ds k).map .pure
 | x,y=>pIx x y
theorem z5Q (hu:X.A.units + 64 < QO):IxR X rIxD:=by
 intro value slice pins s σ H x y v u Q I rx ry h hs
 obtain ⟨a,kvs,k,w,rfl,ha,rfl,hv,q⟩:=h
 cases rx
 obtain ⟨_,_,vs,_,dd⟩:=zcg I.hok ha
 have hT:s.TypeIs (.ref a) "dict":=dd.typeIs
 exact tail_any hT F.slot_dict_getitem.lookup (z86 (v:=w) (by omega) I (by rw [← hv]; exact DGet.k ha) ry fun w' s' I' rw'=>⟨w,H,I',rw',q⟩) hs
theorem z9I {K:W1}:Op2 (fun x y H Q=>rIxD x y H Q∨rIx K x y H Q) pIxX:=by
 intro c σ δ H x y d e s Q k rx ry hp q
 cases d with
 | dct ds =>
  simp only [pIxX] at hp
  cases hk:keyD e with
  | none=>rw [hk] at hp; cases hp
  | some kk =>
   rw [hk] at hp
   simp only [QF,Qt] at hp
   obtain ⟨dv,hv,rfl⟩:=hp
   obtain ⟨a,ws,ea,ha,dr⟩:=z8G rx
   rcases dr.val kk with ⟨e1,e2⟩ | ⟨v,d',e1,e2,r⟩
   ·rw [e1] at hv; cases hv
   ·rw [e1] at hv; cases hv
    exact .inl ⟨a,ws,kOf kk,v,ea,ha,z8F hk ry,e2,q v H (.refl k) r⟩
 | _=>exact .inr (z1h c σ δ H x y _ e s Q k rx ry hp q)
end DV
namespace PySem
open Sem (wp)
open AutoSeq1 (wpAny_loadPart')
section
variable {prog:Wh} {w:Wo} {A:Wp} {E:Value→W2→Prop} {s:W2}
theorem z32 {items} (hit:s.heap.IsTupleIter it l i) (hl:s.heap.IsTuple l items) (hx:items[i]? = some x)
  (hQ:∀ h',h'.IsTupleIter it l (i + 1)→Jb it s.heap h'→Q x { s with heap:=h' }):Wa (model prog w) A (Wz (.ref it)) Q E s:=by
 obtain ⟨o,ho,hc,hd⟩:=id hit
 obtain ⟨ol,hol,_,nl,hdl⟩:=hl
 unfold Wz
 refine W0 (WH (name:=Str.ofString "__next__") hit.typeIs Qx
  (WZ Qx hit.typeIs F.entry_tuple_iterator_next ?_ (F.args_tuple_iterator_next_1 _)))
 show Wa _ _ (field (.ref it) 0 >>= _) _ _ s
 refine W0 (WG ho hd (x:=.ref l) rfl ?_)
 show Wa _ _ (if (Value.ref l == Value.none)=true then _ else _) _ _ s
 rw [if_neg (show ¬ ((Value.ref l == Value.none)=true) from Qd)]
 show Wa _ _ (field (.ref it) 1 >>= _) _ _ s
 refine W0 (WG ho hd (x:=.int i 0) rfl ?_)
 show Wa _ _ (seqItems? (.ref l) >>= _) _ _ s
 refine W0 (WQ hol hdl ?_)
 simp only [WT,hx]
 refine W0 (Jg ho hd (by simp) (W5 ⟨x,rfl,W5 (hQ _ ?_ (J4 ..))⟩))
 exact ⟨_,WO _ ho (Obj.isFreed_of_fields (Obj.data_mapFields hd _)),(Obj.cls_mapFields ..).trans hc,by
  rw [Obj.data_mapFields hd]; simp [Qs]⟩
theorem z3p {items} (hh:A.handled=none) (hit:s.heap.IsTupleIter it l i) (hl:s.heap.IsTuple l items) (hx:items[i]? = none)
  (hE:∀ h' e,Heap.ExtBut it s.heap h'→(∃ o,h'.get? e=some o∧o.cls = .type "StopIteration")→E (.ref e) { s with heap:=h' }):Wa (model prog w) A (Wz (.ref it)) Q E s:=by
 obtain ⟨o,ho,hc,hd⟩:=id hit
 obtain ⟨ol,hol,_,nl,hdl⟩:=hl
 unfold Wz
 refine W0 (WH (name:=Str.ofString "__next__") hit.typeIs Qx
  (WZ Qx hit.typeIs F.entry_tuple_iterator_next ?_ (F.args_tuple_iterator_next_1 _)))
 show Wa _ _ (field (.ref it) 0 >>= _) _ _ s
 refine W0 (WG ho hd (x:=.ref l) rfl ?_)
 show Wa _ _ (if (Value.ref l == Value.none)=true then _ else _) _ _ s
 rw [if_neg (show ¬ ((Value.ref l == Value.none)=true) from Qd)]
 show Wa _ _ (field (.ref it) 1 >>= _) _ _ s
 refine W0 (WG ho hd (x:=.int i 0) rfl ?_)
 show Wa _ _ (seqItems? (.ref l) >>= _) _ _ s
 refine W0 (WQ hol hdl ?_)
 simp only [WT,hx]
 refine W0 (QW (W0 (Jg ho hd (by simp) ?_)))
 show Wa _ _ (newExc (.type "StopIteration") [] >>= _) _ _ _
 refine W0 ?_
 simp only [newExc,newTuple]
 refine W0 (Q4 ?_ (by size_fits))
 refine W0 (m:=firstArgMember _ _) (wpAny_of_eq (a:=Value.none) (by first | rfl | (simp only [firstArgMember]; rfl)) ?_)
 refine Q4 ?_ (by size_fits)
 simp only [raiseNew]
 refine W0 (wpAny_handled ?_)
 first | rw [show A.in1.handled=none from hh] | rw [hh]
 refine W0 (W5 (wpAny_throw ?_))
 exact hE _ _ (((J4 ..).extBut.push _).push _) ⟨_,Wn _ rfl,rfl⟩
end
theorem IsTuple.at' {h h':Heap} {l:Addr} {items:Array Value} (x:h.IsTuple l items) (k:∀ o,h.get? l=some o→h'.get? l=some o):h'.IsTuple l items:=by
 obtain ⟨o,ho,r⟩:=x
 exact ⟨o,k o ho,r⟩
theorem Draws.tuple' {prog:Wh} {w:Wo} {A:Wp} (hh:A.handled=none) (it l:Addr) (hne:l≠it) (items:Array Value) :
  Draws prog w A it [it,l] items.size (fun i v=>items[i]? = some v) (fun i h=>h.IsTupleIter it l i∧h.IsTuple l items) where
 live:=fun _ _ st=>let ⟨o,ho,_⟩:=st.1; ⟨o,ho⟩
 frame:=fun _ _ _ st hk=>⟨st.1.at fun o e=>hk it (by simp) o e,IsTuple.at' st.2 fun o e=>hk l (by simp) o e⟩
 item:=fun i s Q E hi st hQ=>by
  refine z32 st.1 st.2 (x:=items[i]) (by simp [hi]) fun h' hit' hs'=>?_
  exact hQ _ h' s.toks (by simp [hi]) ⟨hit',IsTuple.at' st.2 fun o e=>(hs'.2 l hne).trans e⟩ hs'
 done:=fun s Q E st hE=>z3p hh st.1 st.2 (by simp) hE
end PySem
namespace L2
open PySem PySem.Spec PyProof.Rows
section
variable {X:Cx} {pins:List (Addr×Obj)} {σ:St} {H:Hp} {s:W2} {h':Heap}
theorem Inv.turnedL (fp:List Addr) (I:Inv X pins σ H s) (k:∀ b o,b ∉ fp→s.heap.get? b=some o→h'.get? b=some o) (hf:∀ b ∈ fp,FpOk X pins H b):Inv X pins σ H { s with heap:=h',toks:=t' }:=by
 have nit:∀ b u,H b=some u→b ∉ fp:=fun b u e z=>by rw [(hf b z).1] at e; cases e
 refine I.step (g':=s.gens) (d':=s.drawn) (ch:=fp) (fun b hb=>?_) (fun b o _ _ hc e _=>k b o hc e) (fun b o _ _ hc e _=>⟨o.slots,k b o hc e⟩) (fun _ _ _ _ n=>n)
  (fun b o hc e=>⟨o,k b o hc e⟩) (fun _ _ e=>e) (fun _ _ _ e=>e) (fun b ps e=>⟨#[],by rw [e]; simp⟩) (fun m hm=>?_) (fun b u e=>?_) I.bare
 ·obtain ⟨f0,f1,f2,f3,f4,f5⟩:=hf b hb
  exact ⟨f3,f1,f4,f5⟩
 ·obtain ⟨o,es,ep,ho,r⟩:=hm
  exact ⟨o,es,ep,k _ o (fun z=>(hf _ z).2.1 rfl) ho,r⟩
 ·refine (I.hok b u e).stay (fun c v hc q=>k c v ?_ q) (fun _ q=>q) fun _ _ q=>q
  rcases hc with z | z
  ·rw [z]; exact nit b u e
  ·exact nit c _ z
end
end L2
namespace DV
open PySem PySem.Spec PyProof.Rows L2
section
variable {X:Cx} {c:Fc} {tg e:Expr} {fe:DE} {pos pp:Pos}
end
end DV
namespace HT
open PySem PySem.Spec PyProof.Rows
section
variable {prog:Wh} {w:Wo} {A:Wp} {E:Value→W2→Prop} {s:W2}
end
end HT
namespace DV
open PySem PySem.Spec PyProof.Rows L2
section
variable {X:Cx} {c:Fc} {e:Expr} {fb:BE} {pos p2:Pos}
end
def Fc.park (c:Fc) (i:Nat) (a:Addr):Fc:=⟨c.H₀,fun b=>c.B b∨b=a,(i,a) :: c.pin,c.xc⟩
theorem Np.park (h:Np c np):Np (c.park i a) (i :: np):=fun p hp=>by
 rcases Wj.mp hp with e | hp
 ·subst e; simp
 ·have:=h p hp
  simp at this ⊢
  exact .inr this
section
variable {c:Fc} {σ σ':St} {δ δ':Dl} {H H':Hp} {i:Nat} {a:Addr} {ds:List D}
theorem Own.unset (h:Own σ (δ.set i none) b):Own σ δ b:=by
 obtain ⟨j,d',e1,e2⟩:=h
 by_cases hj:i=j
 ·subst hj
  rw [WP] at e1
  split at e1
  ·split at e1 <;> cases e1
  ·rename_i q; exact absurd rfl q
 ·rw [W8 hj] at e1
  exact ⟨j,d',e1,e2⟩
theorem zaM (k:Ok c σ δ H) (e:δ[i]? = some (some (.own (.lst ds)))) (ea:σ[i]? = some (some (.ref a))) (b:Addr) (z:Av (c.park i a) σ (δ.set i none) b):Av c σ δ b:=by
 rcases z with (z | z) | z
 ·exact .inl z
 ·subst z; exact .inr ⟨i,_,e,ea⟩
 ·exact .inr z.unset
theorem Ok.park (k:Ok c σ δ H) (e:δ[i]? = some (some (.own (.lst ds)))) (ea:σ[i]? = some (some (.ref a))):Ok (c.park i a) σ (δ.set i none) H:=by
 have sub:=zaM k e ea
 have ne:∀ j d,(δ.set i none)[j]? = some (some d)→i≠j∧δ[j]? = some (some d):=fun j d q=>by
  by_cases hj:i=j
  ·subst hj
   rw [Wm (W3.mp e).1] at q; cases q
  ·rw [W8 hj] at q; exact ⟨hj,q⟩
 refine ⟨fun b o h n=>k.keep b o h fun ⟨j,z⟩=>n ⟨j,Wb _ z⟩,fun b z=>?_,fun b ⟨j,z⟩=>?_,by rw [Q6]; exact k.len,fun j d q=>?_,fun j d q=>?_,fun j l b d d' q1 q2=>?_,fun p hp=>?_⟩
 ·rcases z with z | z
  ·exact k.bd b z
  ·subst z; exact k.othere ⟨i,_,e,ea⟩
 ·rcases Wj.mp z with z | z
  ·cases z; exact k.othere ⟨i,_,e,ea⟩
  ·exact k.ith b ⟨j,z⟩
 ·obtain ⟨_,q⟩:=ne j _ q
  obtain ⟨v,g1,g2⟩:=k.slot j d q
  exact ⟨v,g1,g2.anti fun b z=>.inl (sub b z)⟩
 ·obtain ⟨hj,q⟩:=ne j _ q
  obtain ⟨b,g1,g2,g3,g4⟩:=k.own j d q
  refine ⟨b,g1,g2.anti fun b z=>.inl (sub b z),g3.imp (fun ⟨l,z⟩=>⟨l,Wb _ z⟩) id,fun z=>?_⟩
  rcases z with z | z
  ·exact g4 z
  ·subst z; exact hj (k.inj i j b _ _ e q ea g1)
 ·exact k.inj j l b d d' (ne j _ q1).2 (ne l _ q2).2
 ·rcases Wj.mp hp with z | z
  ·subst z; exact ea
  ·exact k.pinned p z
end
def dForO (i:Nat) (g:DG) (b:DS):DS:=fun δ=>match δ[i]? with
 | some (some (.own (.lst ds)))=>(forL g b ds (δ.set i none)).bind fun fl δ'=>match fl with
  | .ret (.own _)=>.stuck
  | fl=>.ok fl (δ'.set i (some (.own (.lst ds))))
 | _=>.stuck
section
variable {X:Cx} {c:Fc} {tg iter:Expr} {body:List Stmt} {g:DG} {b:DS} {i:Nat} {pos:Pos}
def z9d (np:List Nat) (i:Nat):DS:=fun δ=>match δ[i]? with
 | some (some (.own d))=>if np.contains i || !np.all (z0q δ) then .ok (.ret (.pure d)) (δ.set i (some (.pure d))) else .ok (.ret (.own d)) (δ.set i none)
 | some (some (.pure d))=>.ok (.ret (.pure d)) δ
 | _=>.stuck
theorem za2 {np:List Nat} {e:Expr} (hnp:Np c np) (he:PE X e (tVar i)):SS X c (.Return (some e) pos) (z9d np i):=PS.weak (z9z he) fun D σ H ⟨δ,k,q⟩=>by
 unfold z9d z2c at q
 split at q
 ·rename_i d e
  obtain ⟨a,ea,oa,ia,nb⟩:=k.own i d e
  refine ⟨.ref a,ea,?_⟩
  split at q
  ·obtain ⟨a',ea',x,r⟩:=k.give e
   rw [ea] at ea'; cases ea'
   exact q σ H x _ r
  ·rename_i hc
   simp only [Bool.or_eq_true,not_or,Bool.not_eq_true,Bool.not_eq_false',List.all_eq_true] at hc
   obtain ⟨hc1,hc2⟩:=hc
   have nI:¬ c.I a:=fun ⟨j,z⟩=>by
    have z1:=hnp (j,a) z
    have z2:=k.pinned (j,a) z
    have z3:=hc2 j (by simpa using z1)
    unfold z0q at z3
    split at z3
    ·rename_i d' ej
     have:=k.inj i j a _ _ e ej ea z2
     subst this
     rw [z1] at hc1; cases hc1
    ·cases z3
   have h0:c.H₀ a=none:=ia.resolve_left nI
   have hi:i < δ.length:=(W3.mp e).1
   have ne:∀ j d,(δ.set i none)[j]? = some (some d)→i≠j∧δ[j]? = some (some d):=fun j d q=>by
    by_cases hj:i=j
    ·subst hj
     rw [Wm hi] at q; cases q
    ·rw [W8 hj] at q; exact ⟨hj,q⟩
   have sub:∀ b,Av (c.plus a) σ (δ.set i none) b→Av c σ δ b:=fun b z=>by
    rcases z with (z | z) | z
    ·exact .inl z
    ·subst z; exact .inr ⟨i,_,e,ea⟩
    ·exact .inr z.unset
   have kp:Ok (c.plus a) σ (δ.set i none) H:=by
    refine ⟨k.keep,fun b z=>?_,k.ith,by rw [Q6]; exact k.len,fun j d q=>?_,fun j d q=>?_,fun j l b d d' q1 q2=>k.inj j l b d d' (ne j _ q1).2 (ne l _ q2).2,k.pinned⟩
    ·rcases z with z | z
     ·exact k.bd b z
     ·subst z; exact k.othere ⟨i,_,e,ea⟩
    ·obtain ⟨_,q⟩:=ne j _ q
     obtain ⟨v,g1,g2⟩:=k.slot j d q
     exact ⟨v,g1,g2.anti fun b z=>.inl (sub b z)⟩
    ·obtain ⟨hj,q⟩:=ne j _ q
     obtain ⟨b,g1,g2,g3,g4⟩:=k.own j d q
     refine ⟨b,g1,g2.anti fun b z=>.inl (sub b z),g3,fun z=>?_⟩
     rcases z with z | z
     ·exact g4 z
     ·subst z; exact hj (k.inj i j b _ _ e q ea g1)
   have x:Aft c σ δ H σ (δ.set i none) H:=by
    refine ⟨⟨k.keep,k.bd,k.ith,by rw [Q6]; exact k.len,fun j d q=>?_,fun j d q=>?_,fun j l b d d' q1 q2=>k.inj j l b d d' (ne j _ q1).2 (ne l _ q2).2,k.pinned⟩,fun _ _ w _=>w,fun b z=>.inl z.unset,fun _ o w=>⟨o,w⟩⟩
    ·obtain ⟨_,q⟩:=ne j _ q
     obtain ⟨v,g1,g2⟩:=k.slot j d q
     exact ⟨v,g1,g2.anti fun b z=>.inl (z.elim .inl fun z=>.inr z.unset)⟩
    ·obtain ⟨hj,q⟩:=ne j _ q
     obtain ⟨b,g1,g2,g3,g4⟩:=k.own j d q
     exact ⟨b,g1,g2.anti fun b z=>.inl (z.elim .inl fun z=>.inr z.unset),g3,g4⟩
   exact q σ H x _ ⟨a,rfl,oa.anti fun b z=>.inl (sub b z),nb,h0,kp,h0⟩
 ·rename_i d e
  obtain ⟨v,e1,r⟩:=k.slot i d e
  exact ⟨v,e1,q σ H (.refl k) v r⟩
 ·exact q.elim
end
theorem ix_X (hu:X.A.units + 64 < QO):IxR X (fun x y H Q=>rIxD x y H Q∨rIx X.K x y H Q):=(z5Q hu).or z0K
end DV
namespace L2
open PySem PySem.Spec PyProof.Rows
section
variable {X:Cx}
end
end L2
namespace DV
open PySem PySem.Spec PyProof.Rows L2
section
variable {X:Cx} {c:Fc} {e:Expr} {fe:DE} {pos:Pos}
end
section
variable {c:Fc} {σ:St} {δ δ':Dl} {H H':Hp} {i:Nat} {a p:Addr} {ds:List D}
end
open Classical in
noncomputable def itAt (δ₀:Dl) (ds:List D):DI:=fun δ=>if δ=δ₀ then .ok ds δ else .stuck
section
variable {X:Cx} {c:Fc} {cs:List Nat} {tg iter elt:Expr} {ifs:List Expr} {scope:Scope} {pos:Pos} {g:DG} {t:DT} {el:DE} {i:Nat}
end
section
variable {X:Cx} {c:Fc} {e:Expr} {fe:DE} {pos pos':Pos}
end
section
variable {X:Cx} {c:Fc} {pp pos:Pos}
end
section
variable {c:Fc} {σ:St} {δ:Dl} {H:Hp} {a:Addr} {d:D}
end
section
variable {X:Cx} {c:Fc} {e:Expr} {es:List Expr} {as:List Ak} {f0:DE} {k n:Nat} {x:Str} {G:DF} {pp pos:Pos}
end
section
variable {X:Cx} {c:Fc} {e:Expr} {fe:DE} {pos:Pos}
def z6i (δ:Dl) (i:Nat):Bool:=match δ[i]? with
 | some (some (.own (.dct _)))=>true
 | _=>false
theorem z7T (h:z6i δ i=true):∃ ds,δ[i]? = some (some (.own (.dct ds))):=by
 unfold z6i at h
 split at h
 ·rename_i ds e; exact ⟨ds,e⟩
 ·cases h
end
section
variable {X:Cx} {c:Fc} {o e f:Expr} {fe ff:DE} {i:Nat} {apos cpos:Pos}
end
section
variable {X:Cx}
end
end DV
namespace L2
open PySem PySem.Spec PyProof.Rows
section
variable {X:Cx} {tg:Expr}
end
end L2
namespace DV
open PySem PySem.Spec PyProof.Rows L2
variable {X:Cx} {c:Fc} {tg e:Expr} {fe:DE} {pp pos:Pos}
section
variable {X:Cx}
end
theorem vals_ints:∀ {ns:List Int} {us:List Value},Vals (ns.map V.int) us→∃ ys:List (Int×Tok),us=(ys.map fun p=>Value.int p.1 p.2)∧ns=ys.map (·.1)
 | [],us,r=>by cases r; exact ⟨[],rfl,rfl⟩
 | n :: ns,us,r=>by
  cases r with
  | cons r1 r2 =>
   obtain ⟨ys,e1,e2⟩:=vals_ints r2
   obtain ⟨t,rfl⟩:=r1
   exact ⟨(n,t) :: ys,by rw [e1]; rfl,by rw [e2]; rfl⟩
section
variable {X:Cx}
end
def z48:List D→Option (List Int)
 | []=>some []
 | .int i :: r=>(z48 r).map (i :: ·)
 | _ :: _=>none
theorem z4Y:∀ {ds:List D} {vs:List V} {ns:List Int},z48 ds=some ns→Reps H O vs ds→vs=ns.map V.int
 | [],vs,bs,h,r=>by
  simp only [z48,W7] at h
  subst h
  have:=r.1
  simpa using this
 | d :: ds,[],bs,h,r=>by have:=r.1; simp at this
 | d :: ds,v :: vs,bs,h,r=>by
  cases d with
  | int b =>
   simp only [z48] at h
   cases e:z48 ds with
   | none=>rw [e] at h; cases h
   | some bs' =>
    rw [e] at h
    simp only [WA,W7] at h
    subst h
    have:=r.head
    cases this
    rw [z4Y e r.tail]
    rfl
  | _=>simp [z48] at h
theorem ints_map (ns:List Int):z48 (ns.map D.int)=some ns:=by
 induction ns with
 | nil=>rfl
 | cons n r ih=>simp [z48,ih]
section
variable {X:Cx} {c:Fc} {e:Expr} {fb:BE} {pos pp:Pos}
end
end DV
namespace L2
open PySem PySem.Spec PyProof.Rows
section
variable {prog:Wh} {w:Wo} {A:Wp} {E:Value→W2→Prop} {s:W2}
end
section
variable {X:Cx} {pos:Pos}
end
end L2
namespace DV
open PySem PySem.Spec PyProof.Rows L2
section
variable {X:Cx} {c:Fc} {pos:Pos}
end
open PySem PySem.Builtin PySem.Builtin.Str PySem.StrLaws
def posn (c:Nat) (z:List Nat) (a n:Nat):List Nat:=(List.range' a n).filter fun i=>decide (z[i]? = some c)
theorem z9Y (z:List Nat) (c i:Nat):subAt ⟨z.toArray⟩ ⟨#[c]⟩ i=decide (z[i]? = some c):=by
 unfold subAt
 have e:(⟨#[c]⟩:Str).length=1:=rfl
 rw [e]
 show (z.toArray.extract i (i + 1) == #[c])=_
 rw [List.extract_toArray,List.extract_eq_take_drop,Nat.add_sub_cancel_left]
 have hb:((List.take 1 (List.drop i z)).toArray == #[c])=((List.take 1 (List.drop i z)) == [c]):=by simp
 rw [hb]
 cases h:z[i]? with
 | none =>
  rw [List.getElem?_eq_none_iff] at h
  rw [List.drop_of_length_le h]
  simp
 | some a =>
  have hi:i < z.length:=(W3.mp h).1
  have ha:z[i]=a:=(W3.mp h).2
  rw [QA hi,ha]
  by_cases hac:a=c <;> simp [hac]
theorem z5L (c:Nat) (z:List Nat):∀ (n k:Nat) (st:Array Nat×Nat),st.2≤k→st.1.size≤k→k + n=z.length + 1 →
  (forIn (List.range' k n) st (occBody ⟨z.toArray⟩ ⟨#[c]⟩ z.length (z.length + 1))).run.fst.toList=st.1.toList ++ posn c z k n
 | 0,k,st,_,_,_=>by simp [posn]
 | n + 1,k,st,h1,h2,h3=>by
  rw [Jp,Qw]
  unfold occBody
  have e1:(⟨#[c]⟩:Str).length=1:=rfl
  rw [z9Y,e1]
  by_cases hc:z[k]? = some c
  ·have hk:k < z.length:=(W3.mp hc).1
   rw [if_pos ⟨⟨⟨by omega,h1⟩,by omega⟩,by simpa using hc⟩]
   have ih:=z5L c z n (k + 1) (st.1.push k,k + 1) (Wf _) (by simp; omega) (by omega)
   show (forIn (List.range' (k + 1) n) (st.1.push k,k + 1) (occBody ⟨z.toArray⟩ ⟨#[c]⟩ z.length (z.length + 1))).run.fst.toList=_
   rw [ih]
   simp [posn,Jp,hc]
  ·rw [if_neg (fun h=>hc (by simpa using h.2))]
   have ih:=z5L c z n (k + 1) (st.1,st.2) (by show st.2≤k + 1; omega) (by show st.1.size≤k + 1; omega) (by omega)
   show (forIn (List.range' (k + 1) n) (st.1,st.2) (occBody ⟨z.toArray⟩ ⟨#[c]⟩ z.length (z.length + 1))).run.fst.toList=_
   rw [ih]
   simp [posn,Jp,hc]
theorem z8U (c:Nat) (z:List Nat):occurrences ⟨z.toArray⟩ ⟨#[c]⟩ 0 z.length (z.length + 1)=posn c z 0 z.length:=by
 rw [occ_eq,z5L c z (z.length + 1 - 0) 0 (#[],0) (Wf _) (Wf _) (by omega)]
 have:z.length + 1 - 0=z.length + 1:=rfl
 rw [this]
 unfold posn
 rw [List.range'_concat]
 simp
section
variable {X:Cx}
end
section
variable {X:Cx} {c:Fc} {e:Expr} {fb:BE}
end
end DV
set_option maxHeartbeats 1000000
namespace PySem
open Sem (wp)
open AutoSeq1 (wpAny_loadPart')
section
variable {prog:Wh} {w:Wo} {A:Wp} {E:Value→W2→Prop} {s:W2}
end
end PySem
namespace PyProof.Rows
open PySem
section
variable {M:Model} {A:Wp} {E:Value→W2→Prop} {s:W2} {env:Env}
end
end PyProof.Rows
set_option maxHeartbeats 400000
namespace L2
open PySem PySem.Spec PyProof.Rows
end L2
namespace DV
open PySem PySem.Spec PyProof.Rows L2
section
variable {X:Cx} {c:Fc} {tg e:Expr} {fe:DE} {pos pp:Pos}
end
end DV
namespace L2
open PySem PySem.Spec PyProof.Rows
structure Noted (h h':Heap) (fs:List Addr) (a T:Addr) (old:Value):Prop where
 new:h.get? T=none
 keep:∀ b o,h.get? b=some o→b≠a→old≠.ref b→b ∉ fs→h'.get? b=some o
 frame:∀ b o,h.get? b=some o→(∀ vs,o.data≠.fields vs)→∃ sl,h'.get? b=some { o with slots:=sl }
section
variable {M:Model} {A:Wp} {E:Value→W2→Prop} {s:W2}
end
abbrev vErr:List Value:=[.type "ValueError",.type "Exception",.type "BaseException",.type "object"]
section
variable {X:Cx} {x:Str} {C:Addr} {np cpos pos:Pos}
end
section
variable {X:Cx} {pins:List (Addr×Obj)} {σ:St} {H:Hp} {s:W2} {h':Heap}
end
structure Apart (X:Cx) (pins:List (Addr×Obj)) (H:Hp) (b:Addr):Prop where
 old:X.s₀.heap.get? b=none
 free:H b=none
 loc:b≠X.env.locals
 cel:∀ x c,X.env.cells.lookup x=some c→c≠b
 pin:∀ p ∈ X.pn ++ pins,p.1≠b
section
variable {X:Cx} {pins:List (Addr×Obj)} {σ:St} {H:Hp} {s:W2} {h':Heap} {a T:Addr}
end
section
variable {prog:Wh} {w:Wo} {A:Wp} {E:Value→W2→Prop} {K:W1}
end
section
variable {X:Cx} {pins ps:List (Addr×Obj)} {σ:St} {H:Hp} {s:W2} {a:Addr} {xe:Value→W2→Prop} {pn:List (Addr×Obj)}
section
variable {M:Model} {E:Value→W2→Prop} {C L:Addr} {dx:Option Addr} {Q:Unit→W2→Prop}
end
end
section
variable {X:Cx} {pins:List (Addr×Obj)} {σ:St} {H:Hp} {s:W2} {b:Addr}
end
section
variable {X:Cx} {k:Nat} {f:Addr} {fd:WR} {ps:List Str} {sp:Sp} {x:Str} {p pos:Pos} {e:Expr} {es:List Expr} {t:TA} {W:Addr→Option Addr→St→Hp→Prop}
end
section
variable {P:Wh} {w:Wo} {K:W1} {mg:Str→Option Value} {base:Heap} {N:List Str} {qual:Str} {scope:Scope} {f:Addr} {cd:Value} {A:Wp} {outer:List Env} {s₀:W2} {H₀:Hp} {E:XK}
end
def Cx.loop (X:Cx):Cx:={ X with xe:=notedBy (model X.prog X.w) X.A X.env (cameBackBy (model X.prog X.w) X.A X.env X.xe) }
section
variable {X:Cx} {pins ps:List (Addr×Obj)} {σ:St} {H:Hp} {s:W2}
end
end L2
namespace DV
open PySem PySem.Spec PyProof.Rows L2
section
variable {c:Fc} {σ σ':St} {δ δ':Dl} {H H':Hp} {g:Xc→Dl→Prop}
end
abbrev DX:=List S→Option ((S×List S) ⊕ (Xc×List S))
section
variable {P:Wh} {w:Wo} {K:W1} {mg:Str→Option Value} {base:Heap}
end
section
variable {X:Cx} {c:Fc} {e:Expr} {es:List Expr} {as:List Ak} {k n:Nat} {x:Str} {G:DX} {pp pos:Pos}
end
def unset (i:Nat):Rs Fl→Rs Fl
 | .ok fl δ=>.ok fl (δ.set i none)
 | r=>r
section
variable {c:Fc} {σ σ':St} {δ δ':Dl} {H H':Hp}
end
section
variable {c:Fc} {σ σ':St} {δ δ':Dl} {H H':Hp} {B':Addr→Prop} {g:Xc→Dl→Prop}
end
end DV
namespace L2
open PySem PySem.Spec PyProof.Rows PySem.W Builtin Builtin.ObjectAttr Builtin.Getset_descriptor
section
variable {prog:Wh} {w:Wo} {A:Wp} {E:Value→W2→Prop} {K:W1} {C e:Addr} {oe:Obj} {h:Heap} {g:Array GenState} {d:Drawn} {t:Nat} {os:OsState}
structure ExcK (K:W1) (C:Addr):Prop where
 ga:findIn K (.ref C) "__getattribute__" = some (some (.builtin "BaseException.__getattribute__"))
 gt:findIn K (.ref C) "__getattr__" = some none
 cl:findIn K (.ref C) "__class__" = some (some (.builtin "object.__class__"))
 sp:specialIn K (.builtin "object.__class__") "__get__" = some (some (.builtin "getset_descriptor.__get__"))
 tk:takesIn K (.builtin "object.__class__")=some true
 mo:mroIn K C (.type "object")=some true
 mb:mroIn K C (.type "BaseException")=some true
end
section
variable {X:Cx} {y:Str} {D:Addr} {pos:Pos}
structure IsT (K:W1) (ce:DV.Tx→Nat) (ys:List DV.Tx) (cv:Value) (tab:DV.Tx→Bool):Prop where
 k:∀ z ∈ ys,ExcK K (ce z)
 c:∀ z ∈ ys,(PySem.W.clsIn K (ce z)).isSome=true
 one:∀ z ∈ ys,Qf K (.ref (ce z)) cv=some (tab z)
end
structure RoomH (k:Nat) (A:Wp):Prop where
 dp:A.depth + 3 * k + 5 < recursionLimit
 un:A.units + 16 * k + 200 < QO
structure FnOkH (P:Wh) (w:Wo) (K:W1) (mg:Str→Option Value) (base:Heap) (k:Nat) (f:Addr) (fd:WR) (ps:List Str) (sp:Sp):Prop where
 len:∀ vs H Q E,sp vs H Q E→vs.length=ps.length
 run:∀ (A:Wp) (outer:List Env) (s:W2) (H:Hp) (args:Args) (us:List Value) (vs:List V) (Q:VK),RoomH k A→Env0 P w K mg base A outer s H→BindsTo s fd args (ps.zip us)→Vals vs us→sp vs H Q E0 →
  QH (model P w) A (.call (.ref f) args) (CR CX0 outer P w H s Q E0) s
section
variable {P:Wh} {w:Wo} {K:W1} {mg:Str→Option Value} {base:Heap} {k:Nat} {f:Addr}
end
section
variable {X:Cx} {k:Nat} {f:Addr} {fd:WR} {ps:List Str} {sp:Sp} {x:Str} {p pos:Pos} {e:Expr} {es:List Expr} {t:TA}
end
end L2
namespace DV
open PySem PySem.Spec PyProof.Rows L2
section
variable {X:Cx} {c:Fc} {e:Expr} {fb:BE} {pp py pos:Pos} {y:Str} {ce:Tx→Nat} {ys:List Tx} {tab:Tx→Bool}
end
section
variable {P:Wh} {w:Wo} {K:W1} {mg:Str→Option Value} {base:Heap}
end
section
variable {X:Cx} {c:Fc} {e:Expr} {es:List Expr} {as:List Ak} {k n:Nat} {x:Str} {G:DF} {pp pos:Pos}
end
end DV
namespace L2
open PySem PySem.Spec PyProof.Rows PySem.SeqAt
section
variable {X:Cx}
end
end L2
namespace DV
open PySem PySem.Spec PyProof.Rows L2
section
variable {X:Cx} {c:Fc} {e:Expr} {fb:BE}
end
end DV
namespace L2
open PySem PySem.Spec PyProof.Rows
section
variable {X:Cx}
end
end L2
namespace DV
open PySem PySem.Spec PyProof.Rows L2
end DV
namespace PySem
open Sem (wp)
structure ZA (z TI TO i1 i2:Addr) (f1 f2:List Addr):Prop where
 m1:i1 ∈ f1
 m2:i2 ∈ f2
 z1:z ∉ f1
 z2:z ∉ f2
 t1:TO ∉ f1
 t2:TO ∉ f2
 k1:i1 ∉ f2
 k2:i2 ∉ f1
 tz:TO≠z
 iz:TI≠z
 io:TI≠TO
 n1:TI≠i1
 n2:TI≠i2
section
variable {prog:Wh} {w:Wo} {A:Wp} {E:Value→W2→Prop} {s:W2}
theorem z6Q {z TI TO i1 i2:Addr} {f1 f2:List Addr} {n1 n2 i:Nat} {P1 P2:Nat→Value→Prop} {S1 S2:Nat→Heap→Prop} {a b:Value} {Q:Value→W2→Prop} (D1:Draws prog w A i1 f1 n1 P1 S1) (D2:Draws prog w A i2 f2 n2 P2 S2) (C:ZA z TI TO i1 i2 f1 f2)
  (hz:IsZip s.heap z TI TO .none) (hI:IsPair s.heap TI (.ref i1) (.ref i2)) (hO:IsPair s.heap TO a b) (g1:S1 i s.heap) (g2:S2 i s.heap) (l1:i < n1) (l2:i < n2)
  (q:∀ x y h' tk,P1 i x→P2 i y→IsZip h' z TI TO (Qs s.heap.objs.size)→IsPair h' TO x y→S1 (i + 1) h'→S2 (i + 1) h'→IsPair h' s.heap.objs.size x y →
   (∀ c o,c≠z→c≠TO→c≠i1→c≠i2→s.heap.get? c=some o→h'.get? c=some o)→Q (.ref s.heap.objs.size) { s with heap:=h',toks:=tk }) :
  Wa (model prog w) A (Builtin.«zip.__next__» ⟨[.ref z],[]⟩) (fun fin s'=>∃ v,fin = .done (.ret v)∧Q v s') E s:=by
 have i1z:i1≠z:=fun e=>C.z1 (e ▸ C.m1)
 have i2z:i2≠z:=fun e=>C.z2 (e ▸ C.m2)
 have Oi1:TO≠i1:=fun e=>C.t1 (e ▸ C.m1)
 have Oi2:TO≠i2:=fun e=>C.t2 (e ▸ C.m2)
 have i12:i1≠i2:=fun e=>C.k1 (e ▸ C.m2)
 show Wa _ _ (field (.ref z) 2 >>= _) _ _ _; refine W0 (WG hz rfl (x:=.bool false) rfl ?_)
 show Wa _ _ (field (.ref z) 3 >>= _) _ _ _; refine W0 (WG hz rfl (x:=.ref TI) rfl (W0 (WQ hI rfl ?_)))
 show Wa _ _ (Wy (.ref z) >>= _) _ _ _; refine W0 ?_
 unfold Wy; refine W0 (WG hz rfl (x:=.none) rfl (W5 ?_))
 simp only [if_true]; refine W0 (QW (W0 (WG hz rfl (x:=.ref TO) rfl (W0 (Qh hz (by simp) fun h1 hz1 s1=>?_)))))
 replace hz1:IsZip h1 z TI TO .ellipsis:=hz1
 refine W0 ?_; simp only [List.zipIdx_cons,List.zipIdx_nil,Qw,QS]
 refine W0 (W0 (wpAny_onRaise ?_)); show Wa _ _ (Wz (.ref i1) >>= _) _ _ _
 have e1:S1 i h1:=D1.frame _ _ _ g1 fun c hc o e=>s1.extBut _ _ (fun x=>C.z1 (x ▸ hc)) e
 refine W0 (D1.item i _ _ _ l1 e1 fun x h2 tk2 p1 e2 s2=>W5 ?_)
 have hO2:IsPair h2 TO a b:=s2.extBut _ _ Oi1 (s1.extBut _ _ C.tz hO)
 refine W0 (WQ hO2 rfl (W0 (wpAny_updateSeq_pair hO2 fun h3 hO3 s3=>?_)))
 replace hO3:IsPair h3 TO x b:=hO3
 refine W0 (wpAny_letGo (W5 (W0 (W0 (wpAny_onRaise ?_))))); show Wa _ _ (Wz (.ref i2) >>= _) _ _ _
 have e3:S2 i h3:=D2.frame _ _ _ g2 fun c hc o e=>s3.extBut _ _ (fun x=>C.t2 (x ▸ hc)) (s2.extBut _ _ (fun x=>C.k1 (x ▸ hc)) (s1.extBut _ _ (fun x=>C.z2 (x ▸ hc)) e))
 refine W0 (D2.item i _ _ _ l2 e3 fun y h4 tk4 p2 e4 s4=>W5 ?_)
 have hO4:IsPair h4 TO x b:=s4.extBut _ _ Oi2 hO3
 refine W0 (WQ hO4 rfl (W0 (wpAny_updateSeq_pair hO4 fun h5 hO5 s5=>?_)))
 replace hO5:IsPair h5 TO x y:=hO5
 refine W0 (wpAny_letGo (W5 (W5 (W0 (WQ hO5 rfl (W0 (wpAny_newTuple ?_)))))))
 have hsz:h5.objs.size=s.heap.objs.size:=by rw [s5.1,s4.1,s3.1,s2.1,s1.1]
 have hz5:IsZip h5 z TI TO .ellipsis:=s5.extBut _ _ C.tz.symm (s4.extBut _ _ i2z.symm (s3.extBut _ _ C.tz.symm (s2.extBut _ _ i1z.symm hz1)))
 have k5:∀ c o,c≠z→c≠TO→c≠i1→c≠i2→s.heap.get? c=some o→h5.get? c=some o:=fun c o c1 c2 c3 c4 e=>s5.extBut _ _ c2 (s4.extBut _ _ c4 (s3.extBut _ _ c2 (s2.extBut _ _ c3 (s1.extBut _ _ c1 e))))
 have r1:S1 (i + 1) h5:=D1.frame _ _ _ e2 fun c hc o e=>s5.extBut _ _ (fun x=>C.t1 (x ▸ hc)) (s4.extBut _ _ (fun x=>C.k2 (x ▸ hc)) (s3.extBut _ _ (fun x=>C.t1 (x ▸ hc)) e))
 have r2:S2 (i + 1) h5:=D2.frame _ _ _ e4 fun c hc o e=>s5.extBut _ _ (fun x=>C.t2 (x ▸ hc)) e
 have zl:z < h5.objs.size:=We hz5
 show Wa _ _ (Builtin.SmallTypes.ownedTupleHandOut (.ref z) (.ref h5.objs.size) >>= _) _ _ _; refine W0 ?_
 unfold Builtin.SmallTypes.ownedTupleHandOut
 have hz6:IsZip (h5.push { cls:=.type "tuple",data:=.seq #[x,y] }) z TI TO .ellipsis:=Wd _ hz5
 refine W0 (Qh hz6 (by simp) fun h7 hz7 s7=>?_)
 replace hz7:IsZip h7 z TI TO (Qs h5.objs.size):=hz7
 refine Qh hz7 (by simp) fun h8 hz8 s8=>?_
 replace hz8:IsZip h8 z TI TO (Qs h5.objs.size):=hz8
 have up:∀ c o,c≠z→h5.get? c=some o→h8.get? c=some o:=fun c o c1 e=>s8.extBut _ _ c1 (s7.extBut _ _ c1 (Wd _ e))
 have hT:IsPair h8 h5.objs.size x y:=s8.extBut _ _ (WK zl) (s7.extBut _ _ (WK zl) (Wn _ rfl))
 rw [hsz] at hz8 hT
 refine W5 ⟨_,rfl,?_⟩; show Q (.ref h5.objs.size) _; rw [hsz]
 exact q x y h8 _ p1 p2 hz8 (up _ _ C.tz hO5) (D1.frame _ _ _ r1 fun c hc o e=>up c o (fun x=>C.z1 (x ▸ hc)) e) (D2.frame _ _ _ r2 fun c hc o e=>up c o (fun x=>C.z2 (x ▸ hc)) e) hT fun c o c1 c2 c3 c4 e=>up c o c1 (k5 c o c1 c2 c3 c4 e)
theorem z8u (D1:Draws prog w A i1 f1 n1 P1 S1) (D2:Draws prog w A i2 f2 n2 P2 S2) (C:ZA z TI TO i1 i2 f1 f2)
  (hz:IsZip s.heap z TI TO .none) (hI:IsPair s.heap TI (.ref i1) (.ref i2)) (hO:IsPair s.heap TO a b) (g1:S1 i s.heap) (g2:S2 i s.heap) (l:i=n1∨(i < n1∧i=n2))
  (q:∀ h' tk e,(∀ c o,c≠z→c≠TO→c≠i1→c≠i2→s.heap.get? c=some o→h'.get? c=some o)→(∃ o,h'.get? e=some o∧o.cls = .type "StopIteration")→E (.ref e) { s with heap:=h',toks:=tk }) :
  Wa (model prog w) A (Builtin.«zip.__next__» ⟨[.ref z],[]⟩) Q E s:=by
 have i1z:i1≠z:=fun e=>C.z1 (e ▸ C.m1)
 have i2z:i2≠z:=fun e=>C.z2 (e ▸ C.m2)
 have Oi1:TO≠i1:=fun e=>C.t1 (e ▸ C.m1)
 show Wa _ _ (field (.ref z) 2 >>= _) _ _ _; refine W0 (WG hz rfl (x:=.bool false) rfl ?_)
 show Wa _ _ (field (.ref z) 3 >>= _) _ _ _; refine W0 (WG hz rfl (x:=.ref TI) rfl (W0 (WQ hI rfl ?_)))
 show Wa _ _ (Wy (.ref z) >>= _) _ _ _; refine W0 ?_
 unfold Wy; refine W0 (WG hz rfl (x:=.none) rfl (W5 ?_))
 simp only [if_true]; refine W0 (QW (W0 (WG hz rfl (x:=.ref TO) rfl (W0 (Qh hz (by simp) fun h1 hz1 s1=>?_)))))
 replace hz1:IsZip h1 z TI TO .ellipsis:=hz1
 refine W0 ?_; simp only [List.zipIdx_cons,List.zipIdx_nil,Qw,QS]
 refine W0 (W0 (wpAny_onRaise ?_)); show Wa _ _ (Wz (.ref i1) >>= _) _ _ _
 have e1:S1 i h1:=D1.frame _ _ _ g1 fun c hc o e=>s1.extBut _ _ (fun x=>C.z1 (x ▸ hc)) e
 rcases l with l | ⟨l,l'⟩
 ·subst l
  refine W0 (D1.done _ _ _ e1 fun h2 e s2 ⟨oe,he,ce⟩=>?_)
  have hz2:IsZip h2 z TI TO .ellipsis:=s2 _ _ i1z.symm hz1
  have ez:e≠z:=fun x=>by subst x; rw [hz2] at he; cases he; simp at ce
  exact Qh hz2 (by simp) fun h3 _ s3=>q h3 _ e (fun c o c1 _ c3 _ x=>s3.extBut _ _ c1 (s2 _ _ c3 (s1.extBut _ _ c1 x))) ⟨oe,s3.extBut _ _ ez he,ce⟩
 ·refine W0 (D1.item i _ _ _ l e1 fun x h2 tk2 p1 e2 s2=>W5 ?_)
  have hO2:IsPair h2 TO a b:=s2.extBut _ _ Oi1 (s1.extBut _ _ C.tz hO)
  refine W0 (WQ hO2 rfl (W0 (wpAny_updateSeq_pair hO2 fun h3 hO3 s3=>?_)))
  refine W0 (wpAny_letGo (W5 (W0 (W0 (wpAny_onRaise ?_))))); show Wa _ _ (Wz (.ref i2) >>= _) _ _ _
  have e3:S2 i h3:=D2.frame _ _ _ g2 fun c hc o e=>s3.extBut _ _ (fun x=>C.t2 (x ▸ hc)) (s2.extBut _ _ (fun x=>C.k1 (x ▸ hc)) (s1.extBut _ _ (fun x=>C.z2 (x ▸ hc)) e))
  subst l'
  refine W0 (D2.done _ _ _ e3 fun h4 e s4 ⟨oe,he,ce⟩=>?_)
  have hz4:IsZip h4 z TI TO .ellipsis:=s4 _ _ i2z.symm (s3.extBut _ _ C.tz.symm (s2.extBut _ _ i1z.symm hz1))
  have ez:e≠z:=fun x=>by subst x; rw [hz4] at he; cases he; simp at ce
  exact Qh hz4 (by simp) fun h5 _ s5=>q h5 _ e (fun c o c1 c2 c3 c4 x=>s5.extBut _ _ c1 (s4 _ _ c4 (s3.extBut _ _ c2 (s2.extBut _ _ c3 (s1.extBut _ _ c1 x))))) ⟨oe,s5.extBut _ _ ez he,ce⟩
theorem z5E {z TI TO i1 i2:Addr} {f1 f2:List Addr} {n1 n2 i:Nat} {P1 P2:Nat→Value→Prop} {S1 S2:Nat→Heap→Prop} {a b:Value} {Q:Option Value→W2→Prop} (D1:Draws prog w A.in1 i1 f1 n1 P1 S1) (D2:Draws prog w A.in1 i2 f2 n2 P2 S2) (C:ZA z TI TO i1 i2 f1 f2)
  (hz:IsZip s.heap z TI TO .none) (hI:IsPair s.heap TI (.ref i1) (.ref i2)) (hO:IsPair s.heap TO a b) (g1:S1 i s.heap) (g2:S2 i s.heap) (l1:i < n1) (l2:i < n2)
  (q:∀ x y h' tk,P1 i x→P2 i y→IsZip h' z TI TO (Qs s.heap.objs.size)→IsPair h' TO x y→S1 (i + 1) h'→S2 (i + 1) h'→IsPair h' s.heap.objs.size x y →
   (∀ c o,c≠z→c≠TO→c≠i1→c≠i2→s.heap.get? c=some o→h'.get? c=some o)→Q (some (.ref s.heap.objs.size)) { s with heap:=h',toks:=tk }) :
  Wa (model prog w) A (Qe (.ref z)) Q E s:=by
 have ty:s.TypeIs (.ref z) "zip":=⟨_,hz,rfl⟩
 unfold Qe
 exact W0 (QY (WH (name:=Str.ofString "__next__") ty Qn (WZ Qn ty F.entry_zip_next
  (z6Q D1 D2 C hz hI hO g1 g2 l1 l2 fun x y h' tk b1 b2 b3 b4 b5 b6 b7 b8=>W5 (q x y h' tk b1 b2 b3 b4 b5 b6 b7 b8)) (Jh _))))
theorem z5D (D1:Draws prog w A.in1 i1 f1 n1 P1 S1) (D2:Draws prog w A.in1 i2 f2 n2 P2 S2) (C:ZA z TI TO i1 i2 f1 f2)
  (hz:IsZip s.heap z TI TO .none) (hI:IsPair s.heap TI (.ref i1) (.ref i2)) (hO:IsPair s.heap TO a b) (g1:S1 i s.heap) (g2:S2 i s.heap) (l:i=n1∨(i < n1∧i=n2))
  (q:∀ h' tk,(∀ c o,c≠z→c≠TO→c≠i1→c≠i2→s.heap.get? c=some o→h'.get? c=some o)→Q none { s with heap:=h',toks:=tk }) :
  Wa (model prog w) A (Qe (.ref z)) Q E s:=by
 have ty:s.TypeIs (.ref z) "zip":=⟨_,hz,rfl⟩
 unfold Qe
 refine W0 (QY (WH (name:=Str.ofString "__next__") ty Qn (WZ Qn ty F.entry_zip_next
  (z8u D1 D2 C hz hI hO g1 g2 l fun h' tk e k ⟨o,ho,hc⟩=>?_) (Jh _))))
 exact W0 (wpAny_isInstance (T:="StopIteration") (b:=true) ⟨o,ho,hc⟩ isSubtype_stop (W5 (q _ _ k)))
end
def IsB (b:Bool) (h:Heap) (a:Addr) (its:Array Value):Prop:=match b with
 | true=>h.IsList a its
 | false=>h.IsTuple a its
def ItB (b:Bool) (h:Heap) (it a:Addr) (i:Nat):Prop:=match b with
 | true=>h.IsListIter it a i
 | false=>h.IsTupleIter it a i
def itO (b:Bool) (a:Addr):Obj:={ cls:=.type (match b with | true=>"list_iterator" | false=>"tuple_iterator"),data:=.fields #[.ref a,.int 0 0] }
theorem IsB.lt (q:IsB b h a its):a < h.objs.size:=by
 cases b
 ·obtain ⟨o,e,_⟩:=(q:h.IsTuple a its); exact We e
 ·obtain ⟨o,e,_⟩:=(q:h.IsList a its); exact We e
theorem IsB.push (q:IsB b h a its) (o:Obj):IsB b (h.push o) a its:=by
 cases b
 ·obtain ⟨o,e,r⟩:=(q:h.IsTuple a its); exact ⟨o,Wd _ e,r⟩
 ·obtain ⟨o,e,r⟩:=(q:h.IsList a its); exact ⟨o,Wd _ e,r⟩
theorem z6a (h:IsB b s.heap a its) (q:Q (.ref s.heap.objs.size) { s with heap:=s.heap.push (itO b a) }):Wa (model prog w) A (pyIter (.ref a)) Q E s:=by
 cases b
 ·exact wpAny_pyIter_tuple h q
 ·exact wpAny_pyIter_list h q
theorem z6l (b:Bool) (hh:A.handled=none) (it a:Addr) (hne:a≠it) (its:Array Value):Draws prog w A it [it,a] its.size (fun i v=>its[i]? = some v) (fun i h=>ItB b h it a i∧IsB b h a its):=by
 cases b
 ·exact Draws.tuple' hh it a hne its
 ·exact Draws.list hh it a hne its
abbrev zH1 (h:Heap) (b1:Bool) (l1:Addr):Heap:=h.push (itO b1 l1)
abbrev zH2 (h:Heap) (b1 b2:Bool) (l1 l2:Addr):Heap:=(zH1 h b1 l1).push (itO b2 l2)
abbrev zH3 (h:Heap) (b1 b2:Bool) (l1 l2:Addr):Heap:=(zH2 h b1 b2 l1 l2).push { cls:=.type "tuple",data:=.seq #[.ref h.objs.size,.ref (zH1 h b1 l1).objs.size] }
abbrev zH4 (h:Heap) (b1 b2:Bool) (l1 l2:Addr):Heap:=(zH3 h b1 b2 l1 l2).push { cls:=.type "tuple",data:=.seq #[.none,.none] }
abbrev zH5 (h:Heap) (b1 b2:Bool) (l1 l2:Addr):Heap:=(zH4 h b1 b2 l1 l2).push { cls:=.type "zip",data:=.fields #[.none,.bool false,.bool false,.ref (zH2 h b1 b2 l1 l2).objs.size,.ref (zH3 h b1 b2 l1 l2).objs.size] }
theorem z6F (b1 b2:Bool) (l1 l2:Addr) (xs ys:Array Value) :
  Meets (Builtin.«zip.__new__» ⟨[.type "zip",.ref l1,.ref l2],[]⟩) (fun _ R s=>IsB b1 s.heap l1 xs∧IsB b2 s.heap l2 ys ∧
   R (.ok (.ret (.ref (zH4 s.heap b1 b2 l1 l2).objs.size))) { s with heap:=zH5 s.heap b1 b2 l1 l2 }) :=
 .of_wp fun prog w A R s h=>by
  obtain ⟨hp,g,d,tk,os⟩:=s; obtain ⟨hl1,hl2,h⟩:=h
  have hsub:=sub_zip
  have hL1:IsB b1 (Shared.heap ⟨hp,g,d,tk,os⟩) l1 xs:=hl1
  have hL2:IsB b2 (Shared.heap ⟨hp.push (itO b1 l1),g,d,tk,os⟩) l2 ys:=hl2.push _
  wp_walk using z6a hL1,z6a hL2
  exact ⟨_,rfl,h⟩
theorem z8h (hl1:IsB b1 s.heap l1 xs) (hl2:IsB b2 s.heap l2 ys)
  (h:∀ h',IsZip h' (s.heap.objs.size + 4) (s.heap.objs.size + 2) (s.heap.objs.size + 3) .none→IsPair h' (s.heap.objs.size + 2) (.ref s.heap.objs.size) (.ref (s.heap.objs.size + 1)) →
   IsPair h' (s.heap.objs.size + 3) .none .none→ItB b1 h' s.heap.objs.size l1 0→ItB b2 h' (s.heap.objs.size + 1) l2 0 →
   (∀ c o,s.heap.get? c=some o→h'.get? c=some o)→Q (.ref (s.heap.objs.size + 4)) { s with heap:=h' }) :
  Wa (model prog w) A (call (.type "zip") [.ref l1,.ref l2]) Q E s:=by
 refine callType_new F.called_zip (by decide) (F.typeCall_zip_2 _ _) (F.newCall_zip_2 _ _) (fun obj=>F.args_object_init_3 obj _ _) F.entry_zip_new (z6F b1 b2 l1 l2 xs ys) ⟨hl1,hl2,?_⟩
 have z1:(zH1 s.heap b1 l1).objs.size=s.heap.objs.size + 1:=QD ..
 have z2:(zH2 s.heap b1 b2 l1 l2).objs.size=s.heap.objs.size + 2:=by rw [QD,z1]
 have z3:(zH3 s.heap b1 b2 l1 l2).objs.size=s.heap.objs.size + 3:=by rw [QD,z2]
 have z4:(zH4 s.heap b1 b2 l1 l2).objs.size=s.heap.objs.size + 4:=by rw [QD,z3]
 have up:∀ {h:Heap} {o:Obj} {c:Addr} {o':Obj},h.get? c=some o'→(h.push o).get? c=some o':=fun e=>Wd _ e
 have g5:(zH5 s.heap b1 b2 l1 l2).get? (zH4 s.heap b1 b2 l1 l2).objs.size=some _:=Wn _ rfl
 have g4:(zH5 s.heap b1 b2 l1 l2).get? (zH3 s.heap b1 b2 l1 l2).objs.size=some _:=up (Wn _ rfl)
 have g3:(zH5 s.heap b1 b2 l1 l2).get? (zH2 s.heap b1 b2 l1 l2).objs.size=some _:=up (up (Wn _ rfl))
 have g2:(zH5 s.heap b1 b2 l1 l2).get? (zH1 s.heap b1 l1).objs.size=some (itO b2 l2):=up (up (up (Wn _ (by cases b2 <;> rfl))))
 have g1:(zH5 s.heap b1 b2 l1 l2).get? s.heap.objs.size=some (itO b1 l1):=up (up (up (up (Wn _ (by cases b1 <;> rfl)))))
 show _∧_
 rw [z2,z3,z4] at g5
 rw [z1,z2] at g3
 rw [z3] at g4
 rw [z1] at g2
 rw [z4]
 exact ⟨⟨_,g5,rfl⟩,h _ g5 g3 g4 (by cases b1 <;> exact ⟨_,g1,rfl,rfl⟩) (by cases b2 <;> exact ⟨_,g2,rfl,rfl⟩) fun c o x=>up (up (up (up (up x))))⟩
end PySem
namespace L2
open PySem PySem.Spec PyProof.Rows
section
variable {X:Cx} {pins:List (Addr×Obj)} {σ:St} {H:Hp} {s:W2} {h':Heap}
theorem Inv.pairLaid2 (fp:List Addr) (I:Inv X pins σ H s) (hf:∀ b ∈ fp,FpOk X pins H b) (hlt:∀ b ∈ fp,b < s.heap.objs.size) (ru:RelV x u) (rv:RelV y v)
  (hT:h'.get? s.heap.objs.size=some { cls:=.type "tuple",data:=.seq #[u,v] }) (k:∀ b o,b ∉ fp→s.heap.get? b=some o→h'.get? b=some o) :
  Inv X pins σ (upd H s.heap.objs.size (.tup [x,y])) { s with heap:=h',toks:=t' }:=by
 have I1:Inv X pins σ (upd H s.heap.objs.size (.tup [x,y])) { s with heap:=s.heap.push { cls:=.type "tuple",data:=.seq #[u,v] },toks:=t' } :=
  I.laid (t':=t') (fun b o e=>Wd _ e) (Wf _) (show ObjOk X.prog X.w _ _ _ (.tup [x,y]) from
   ⟨by simp only [WN,List.length_nil]; rw [QZ]; decide,[u,v],.cons ru (.cons rv .nil),IsTupN.new _ _⟩)
 have:=Inv.turnedL (t':=t') (h':=h') fp I1 (fun b o hb eb=>?_) fun b hb=>?_
 ·exact this
 ·rcases Heap.get?_push_cases eb with ⟨z,z'⟩ | eb
  ·subst z z'; exact hT
  ·exact k b o hb eb
 ·obtain ⟨f0,r⟩:=hf b hb
  exact ⟨by rw [z09 (Wl (hlt b hb))]; exact f0,r⟩
def SqB (b:Bool) (K:W1) (H:Hp) (a:Addr) (xs:List V):Prop:=match b with
 | true=>SqL K H a xs
 | false=>SqT K H a xs
theorem Inv.seqB (I:Inv X pins σ H s) (h:SqB b X.K H a xs):∃ its,Vals xs its∧IsB b s.heap a its.toArray:=by
 cases b
 ·obtain ⟨its,rv,p,_⟩:=I.tuple (h:SqT X.K H a xs)
  exact ⟨its,rv,p⟩
 ·obtain ⟨its,rv,p,_⟩:=I.list (h:SqL X.K H a xs)
  exact ⟨its,rv,p.isList⟩
theorem Inv.seqB_inj (I:Inv X pins σ H s) (h:SqB b X.K H a xs) (h':SqB b X.K H a ys):xs=ys:=by
 cases b
 ·exact I.tuple_inj h h'
 ·exact I.list_inj h h'
end
def IteZ (K:W1) (b1 b2:Bool) (a1 a2:Addr):It :=
 ⟨fun i H=>∃ xs ys x y,SqB b1 K H a1 xs∧SqB b2 K H a2 ys∧xs[i]? = some x∧ys[i]? = some y,
  fun i H v H'=>∃ p x y,H p=none∧(∀ xs,SqB b1 K H a1 xs→xs[i]? = some x)∧(∀ ys,SqB b2 K H a2 ys→ys[i]? = some y)∧H'=upd H p (.tup [x,y])∧v = .ref p,
  fun i H=>∃ xs ys,SqB b1 K H a1 xs∧SqB b2 K H a2 ys∧(i=xs.length∨(i < xs.length∧i=ys.length))⟩
theorem z8x {P:Wh} {w:Wo} {K:W1} {elts:List Expr} {ctx} {pos:Pos} (b1 b2:Bool) (a1 a2 n:Addr) (h1:a1 < n) (h2:a2 < n) :
  Turn P w K (.Tuple elts ctx pos) (IteZ K b1 b2 a1 a2) [n + 4,n + 2,n + 3,n,n + 1] (n + 4) (fun i h=>IsZip h (n + 4) (n + 2) (n + 3) .none∧IsPair h (n + 2) (.ref n) (.ref (n + 1))∧(∃ a b,IsPair h (n + 3) a b)∧ItB b1 h n a1 i∧ItB b2 h (n + 1) a2 i):=by
 have ne:∀ (i j:Nat),i≠j→n + i≠n + j:=fun i j h e=>h (Nat.add_left_cancel e)
 have n1:∀ i:Nat,a1≠n + i:=fun i=>Wl (Wq h1 (Qc n i))
 have n2:∀ i:Nat,a2≠n + i:=fun i=>Wl (Wq h2 (Qc n i))
 have nm:∀ {x a b:Addr},x≠a→x≠b→x ∉ [a,b]:=fun h1 h2 h=>by
  rcases Wj.mp h with e | h
  ·exact h1 e
  ·exact h2 (Je.mp h)
 have C:ZA (n + 4) (n + 2) (n + 3) n (n + 1) [n,a1] [n + 1,a2] :=
  ⟨Wg,Wg,nm (ne 4 0 (by decide)) (n1 4).symm,nm (ne 4 1 (by decide)) (n2 4).symm,nm (ne 3 0 (by decide)) (n1 3).symm,nm (ne 3 1 (by decide)) (n2 3).symm,nm (ne 0 1 (by decide)) (n2 0).symm,nm (ne 1 0 (by decide)) (n1 1).symm,
   ne 3 4 (by decide),ne 2 4 (by decide),ne 2 3 (by decide),ne 2 0 (by decide),ne 2 1 (by decide)⟩
 have liv:∀ {b:Bool} {h:Heap} {it a:Addr} {i:Nat},ItB b h it a i→∃ o,h.get? it=some o∧∀ v,o.data≠.cell v:=fun {b h it a i} q=>by
  cases b
  ·obtain ⟨o,e,c,d⟩:=(q:h.IsTupleIter it a i)
   exact ⟨o,e,fun v z=>by rw [d] at z; cases z⟩
  ·obtain ⟨o,e,c,d⟩:=(q:h.IsListIter it a i)
   exact ⟨o,e,fun v z=>by rw [d] at z; cases z⟩
 have sty:∀ {b:Bool} {h h':Heap} {it a:Addr} {i:Nat},ItB b h it a i→(∀ o,h.get? it=some o→h'.get? it=some o)→ItB b h' it a i:=fun {b h h' it a i} q k=>by
  cases b
  ·obtain ⟨o,e,r⟩:=(q:h.IsTupleIter it a i)
   exact ⟨o,k o e,r⟩
  ·obtain ⟨o,e,r⟩:=(q:h.IsListIter it a i)
   exact ⟨o,k o e,r⟩
 have mm:∀ {b:Addr},b ∈ [n + 4,n + 2,n + 3,n,n + 1]→b=n + 4∨b=n + 2∨b=n + 3∨b=n∨b=n + 1:=fun h=>by simpa using h
 refine ⟨by simp,?_,?_,?_,?_,?_⟩
 ·rintro i h ⟨hz,hI,⟨a,b,hO⟩,q1,q2⟩ c hc
  rcases mm hc with e | e | e | e | e <;> subst e
  ·exact ⟨_,hz,fun v z=>by
    have z':Data.fields _=Data.cell v:=z
    cases z'⟩
  ·exact ⟨_,hI,fun v z=>by
    have z':Data.seq _ _=Data.cell v:=z
    cases z'⟩
  ·exact ⟨_,hO,fun v z=>by
    have z':Data.seq _ _=Data.cell v:=z
    cases z'⟩
  ·exact liv q1
  ·exact liv q2
 ·rintro i h h' ⟨hz,hI,⟨a,b,hO⟩,q1,q2⟩ k
  exact ⟨k _ (by simp) _ hz,k _ (by simp) _ hI,⟨a,b,k _ (by simp) _ hO⟩,sty q1 fun o e=>k _ (by simp) o e,sty q2 fun o e=>k _ (by simp) o e⟩
 ·intro X hP hw hK hc i pins s σ H E I hf st hg
  subst hP hw hK
  obtain ⟨hz,hI,⟨a,b,hO⟩,q1,q2⟩:=st
  obtain ⟨xs,ys,x,y,c1,c2,hx,hy⟩:=hg
  obtain ⟨is,rv1,p1⟩:=I.seqB c1
  obtain ⟨js,rv2,p2⟩:=I.seqB c2
  obtain ⟨u,hu,ru⟩:=rv1.get hx
  obtain ⟨v,hv,rv⟩:=rv2.get hy
  have D1:=z6l (prog:=X.prog) (w:=X.w) (A:=X.A.in1) b1 (I.ok.hd hc) n a1 (n1 0) is.toArray
  have D2:=z6l (prog:=X.prog) (w:=X.w) (A:=X.A.in1) b2 (I.ok.hd hc) (n + 1) a2 (n2 1) js.toArray
  have hlt:∀ c ∈ [n + 4,n + 2,n + 3,n,n + 1],c < s.heap.objs.size:=fun c hc=>by
   have z:=We hz
   have le:∀ k:Nat,k≤4→n + k < s.heap.objs.size:=fun k hk=>QM (Nat.add_le_add_left hk n) z
   rcases mm hc with e | e | e | e | e <;> subst e
   ·exact z
   ·exact le 2 (by decide)
   ·exact le 3 (by decide)
   ·exact le 0 (by decide)
   ·exact le 1 (by decide)
  have l1:i < is.toArray.size:=by simpa using (W3.mp hu).1
  have l2:i < js.toArray.size:=by simpa using (W3.mp hv).1
  refine z5E D1 D2 C hz hI hO ⟨q1,p1⟩ ⟨q2,p2⟩ l1 l2 fun x' y' h' tk e1 e2 hz' hO' s1 s2 hT k=>?_
  have ex:x'=u:=by
   rw [QU,hu] at e1
   cases e1; rfl
  have ey:y'=v:=by
   rw [QU,hv] at e2
   cases e2; rfl
  subst ex ey
  refine ⟨_,rfl,wpAny_letOwnedTupleGo_zip hz' fun h2 hz2 sb=>?_⟩
  have nz:s.heap.objs.size≠n + 4:=WK (hlt (n + 4) (by simp))
  have k2:∀ c o,c ∉ [n + 4,n + 2,n + 3,n,n + 1]→s.heap.get? c=some o→h2.get? c=some o:=fun c o hc e=>by
   have g1:c≠n + 4:=fun z=>hc (by simp [z])
   have g2:c≠n + 3:=fun z=>hc (by simp [z])
   have g3:c≠n:=fun z=>hc (by simp [z])
   have g4:c≠n + 1:=fun z=>hc (by simp [z])
   exact (sb.2 c g1).trans (k c o g1 g2 g3 g4 e)
  have I2:Inv X pins σ (upd H s.heap.objs.size (.tup [x,y])) { s with heap:=h2,toks:=tk }:=Inv.pairLaid2 (t':=tk) _ I hf hlt ru rv ((sb.2 _ nz).trans hT) k2
  refine ⟨.ref s.heap.objs.size,_,I2,rfl,⟨s.heap.objs.size,x,y,I.hok.fresh (Wf _),fun zs hzs=>by rw [I.seqB_inj hzs c1]; exact hx,fun zs hzs=>by rw [I.seqB_inj hzs c2]; exact hy,rfl,rfl⟩,⟨hz2,(sb.2 _ (ne 2 4 (by decide))).trans (k _ _ (ne 2 4 (by decide)) (ne 2 3 (by decide)) (ne 2 0 (by decide)) (ne 2 1 (by decide)) hI),⟨_,_,(sb.2 _ (ne 3 4 (by decide))).trans hO'⟩,sty s1.1 fun o e=>(sb.2 _ (ne 0 4 (by decide))).trans e,sty s2.1 fun o e=>(sb.2 _ (ne 1 4 (by decide))).trans e⟩,fun c hc=>?_⟩
  rw [z09 (Wl (hlt c hc))]
  exact (hf c hc).1
 ·intro X hP hw hK hc i pins s σ H E I hf st hg
  subst hP hw hK
  obtain ⟨hz,hI,⟨a,b,hO⟩,q1,q2⟩:=st
  obtain ⟨xs,ys,c1,c2,hl⟩:=hg
  obtain ⟨is,rv1,p1⟩:=I.seqB c1
  obtain ⟨js,rv2,p2⟩:=I.seqB c2
  have D1:=z6l (prog:=X.prog) (w:=X.w) (A:=X.A.in1) b1 (I.ok.hd hc) n a1 (n1 0) is.toArray
  have D2:=z6l (prog:=X.prog) (w:=X.w) (A:=X.A.in1) b2 (I.ok.hd hc) (n + 1) a2 (n2 1) js.toArray
  have r1:=rv1.length
  have r2:=rv2.length
  refine z5D D1 D2 C hz hI hO ⟨q1,p1⟩ ⟨q2,p2⟩ (by simp; omega) fun h' tk k=>⟨rfl,Inv.turnedL (t':=tk) [n + 4,n + 2,n + 3,n,n + 1] I (fun c o hc e=>?_) hf⟩
  exact k c o (fun z=>hc (by simp [z])) (fun z=>hc (by simp [z])) (fun z=>hc (by simp [z])) (fun z=>hc (by simp [z])) e
 ·intro A i s Q E st h
  exact QX st.1 h
end L2
namespace DV
open PySem PySem.Spec PyProof.Rows L2
section
variable {X:Cx} {c:Fc} {tg e:Expr} {fe:DE} {pos pp:Pos}
def iZipV (K:W1) (ta:TA):TI:=fun σ H R=>ta σ H fun vs H1=>∃ (b1 b2:Bool) (a1 a2:Addr),vs=[.ref a1,.ref a2]∧(∃ xs,SqB b1 K H1 a1 xs)∧(∃ ys,SqB b2 K H1 a2 ys)∧R (IteZ K b1 b2 a1 a2) H1
theorem zby {ctx} (hg:Gl X "zip") (hm:X.mg "zip" = none) (ha:PA X [a,b] ta) (hs:W6 [a,b] X.env=(false,eval a X.env) :: W6 [b] X.env:=by rfl) (hpl:(WW pos (W6 [b] X.env)).any (·.1)=false:=by rfl):PI X (.Tuple elts ctx tp) (.Call (.Name "zip" pp) [a,b] [] pos) (iZipV X.K ta):=by
 intro pins s σ H R I h
 refine Call_ (z3h I hg hm boot_zip (WX (thn (ha pos pins s σ H _ I h) fun us s1 ⟨vs,H1,I1,r1,q1⟩=>?_) hs hpl))
 obtain ⟨b1,b2,a1,a2,ev,⟨xs,hx⟩,⟨ys,hy⟩,q⟩:=q1
 subst ev
 cases r1 with
 | cons r rr =>
  cases rr with
  | cons r' rr =>
   cases rr
   cases r
   cases r'
   obtain ⟨is,rv1,p1⟩:=I1.seqB hx
   obtain ⟨js,rv2,p2⟩:=I1.seqB hy
   refine z8h p1 p2 fun h' hz hI hO q1 q2 kp=>QX hz ?_
   refine ⟨s1.heap.objs.size + 4,_,_,_,H1,rfl,I1.kept (t':=s1.toks) kp,z8x b1 b2 a1 a2 s1.heap.objs.size p1.lt p2.lt,⟨hz,hI,⟨_,_,hO⟩,q1,q2⟩,fun b hb=>?_,q⟩
   have hb:b=s1.heap.objs.size + 4∨b=s1.heap.objs.size + 2∨b=s1.heap.objs.size + 3∨b=s1.heap.objs.size∨b=s1.heap.objs.size + 1:=by simpa using hb
   have hle:s1.heap.objs.size≤b:=by rcases hb with z | z | z | z | z <;> subst z <;> first | exact Wf _ | exact Qc _ _
   exact I1.fpOk hle (I1.hok.fresh hle)
def zipD (xs ys:List D):List D:=List.zipWith (fun x y=>D.tup [x,y]) xs ys
theorem z5U {xs ys:List D} {i:Nat} {d:D} (h:(zipD xs ys)[i]? = some d):∃ x y,xs[i]? = some x∧ys[i]? = some y∧d = .tup [x,y]:=by
 unfold zipD at h
 rw [List.getElem?_zipWith] at h
 cases e1:xs[i]? with
 | none=>rw [e1] at h; cases h
 | some x =>
  cases e2:ys[i]? with
  | none=>rw [e1,e2] at h; cases h
  | some y =>
   rw [e1,e2] at h
   cases h
   exact ⟨x,y,rfl,rfl,rfl⟩
theorem Reps.two (r:Rep H O u x) (r':Rep H O v y):Reps H O [u,v] [x,y]:=by
 refine ⟨rfl,fun j v' d' e1 e2=>?_⟩
 match j with
 | 0=>simp at e1 e2; subst e1 e2; exact r
 | 1=>simp at e1 e2; subst e1 e2; exact r'
 | j + 2=>simp at e1
def sqD:D→Option (List D)
 | .lst ds=>some ds
 | .tup ds=>some ds
 | _=>none
def iZip (f g:DE):DI:=fun δ=>(f δ).bind fun x δ1=>(g δ1).bind fun y δ2=>match sqD x.d,sqD y.d with
 | some xs,some ys=>.ok (zipD xs ys) δ2
 | _,_=>.stuck
theorem Rep.sq {K:W1} {H:Hp} {O:Addr→Prop} {v:V} {d:D} {ds:List D} (r:Rep H O v d) (e:sqD d=some ds) :
  ∃ (b:Bool) (a:Addr) (vs:List V),v = .ref a∧SqB b K H a vs∧Reps H O vs ds∧∀ H2,(∀ p o,H p=some o→¬ O p→H2 p=some o)→SqB b K H2 a vs:=by
 cases d <;> first | (simp [sqD] at e; done) | skip
 ·cases r with
  | tup h1 h2 h3 h4 =>
   simp only [sqD,W7] at e
   subst e
   exact ⟨false,_,_,rfl,SqT.of h2,⟨h3,h4⟩,fun H2 k=>SqT.of (k _ _ h2 h1)⟩
 ·cases r with
  | lst h1 h2 h3 h4 =>
   simp only [sqD,W7] at e
   subst e
   exact ⟨true,_,_,rfl,.inl h2,⟨h3,h4⟩,fun H2 k=>.inl (Rd.keep h2 fun o e=>k _ o e h1)⟩
theorem zb6 {a b:Expr} {f g:DE} {elts:List Expr} {ctx} {tp:Pos} (hg:Gl X "zip") (hm:X.mg "zip" = none) (ha:SE X c a f) (hb:SE X c b g) (hs:W6 [a,b] X.env=(false,eval a X.env) :: W6 [b] X.env:=by rfl)
  (hs2:W6 [b] X.env=(false,eval b X.env) :: W6 [] X.env:=by rfl) (hpl:(WW pos (W6 [b] X.env)).any (·.1)=false:=by rfl):SI X c (.Tuple elts ctx tp) (.Call (.Name "zip" pp) [a,b] [] pos) (iZip f g) :=
 PI.weak (zby hg hm (z0Q ha (z0Q hb z1H hs2) hs) hs hpl) fun σ H R ⟨δ,k,q⟩=>by
  unfold iZip at q
  rw [z01] at q
  refine ⟨δ,k,z00 q fun x δ1 q1 v H1 a1 r1=>⟨δ1,a1.ok,?_⟩⟩
  rw [z01] at q1
  refine z00 q1 fun y δ2 q2 u H2 a2 r2=>?_
  have hx:Rep H2 (Av c σ δ2) v x.d:=Rep.aft r1.rep a2
  have hy:Rep H2 (Av c σ δ2) u y.d:=r2.rep
  generalize x.d=dx at q2 hx
  generalize y.d=dy at q2 hy
  cases e1:sqD dx with
  | none=>rw [e1] at q2; exact q2.elim
  | some xs =>
   cases e2:sqD dy with
   | none=>rw [e1,e2] at q2; exact q2.elim
   | some ys =>
    rw [e1,e2] at q2
    obtain ⟨b1,p1,vs,ev,s1,w1,k1⟩:=hx.sq (K:=X.K) e1
    obtain ⟨b2,p2,us,eu,s2,w2,k2⟩:=hy.sq (K:=X.K) e2
    subst ev eu
    refine ⟨b1,b2,p1,p2,rfl,⟨vs,s1⟩,⟨us,s2⟩,q2 _ H2 (a1.trans a2) fun H3 kp=>?_⟩
    have t1:=k1 H3 fun p o e n=>kp p o e fun z=>n (.inr z)
    have t2:=k2 H3 fun p o e n=>kp p o e fun z=>n (.inr z)
    refine ⟨⟨vs,us,t1,t2,?_⟩,fun i d e=>?_⟩
    ·rw [w1.1,w2.1]
     simp only [zipD,List.length_zipWith]
     omega
    ·obtain ⟨x,y,ex,ey,rfl⟩:=z5U e
     obtain ⟨v,ev,rv⟩:=w1.get ex
     obtain ⟨u,eu,ru⟩:=w2.get ey
     refine ⟨⟨vs,us,v,u,t1,t2,ev,eu⟩,fun z H4 ⟨p,v',u',hp,hv,hu,e3,ez⟩=>.inr ⟨p,_,_,hp,e3,ez,rfl,?_⟩⟩
     have h1:=hv vs t1
     have h2:=hu us t2
     rw [ev] at h1
     rw [eu] at h2
     cases h1
     cases h2
     exact Reps.two rv ru
end
section
variable {X:Cx} {c:Fc} {e:Expr} {es:List Expr} {as:List Ak} {k n:Nat} {x:Str} {G:DX} {pp pos:Pos}
end
end DV
namespace PySem
open Sem (wp)
section
variable {prog:Wh} {w:Wo} {A:Wp} {E:Value→W2→Prop} {hp:Heap} {g:Array GenState} {d:Drawn} {t:Nat} {os:OsState}
variable {nm qn:Str} {C N:Addr} {bs bm bmB:List Value} {hdct:Bool} {sn:List Str} {sub:List Value} {ab:Bool} {col:Option Bool} {dd:Option Addr} {k0 k1 k2 k3 k5:Option Value} {B newId initId:String}
end
end PySem
namespace L2
open PySem PySem.Spec PyProof.Rows PySem.W PySem.Builtin PySem.Builtin.ObjectAttr
def zbH:List Value→Bool
 | .ref _ :: r=>zbH r
 | l=>l == vErr
def zbI (K:W1) (C:Addr):Bool:=(clsIn K C).any fun cd=>zbH cd.mro
section
variable {prog:Wh} {w:Wo} {A:Wp} {E:Value→W2→Prop} {s:W2} {K:W1} {x C:Addr} {name:Str} {v:Value} {R:Result→W2→Prop}
end
section
variable {P:Wh} {w:Wo} {H:Hp} {h:Heap} {C a:Addr}
end
structure ExcS (K:W1) (C:Addr) (f:Str):Prop where
 set:findIn K (.ref C) "__setattr__" = some (some (.builtin "object.__setattr__"))
 over:zbI K C=true
 hd:hasDictIn K C=true
 tk:takerIn K C f=some none
section
variable {X:Cx} {o value:Expr} {f:Str} {ta tv:TE} {pos pos':Pos}
end
section
variable {X:Cx} {k:Nat} {f C:Addr} {fd:WR} {ps:List Str} {sp:Sp} {x:Str} {p pos:Pos} {e:Expr} {es:List Expr} {t:TA}
end
section
variable {P:Wh} {w:Wo} {K:W1} {mg:Str→Option Value} {base:Heap} {x qual f1 f2:Str} {st:Stmt} {f:Addr} {fd:WR} {N ps:List Str} {k:Nat}
end
section
variable {X:Cx} {C f:Addr} {call:Expr} {te:TE} {pos:Pos}
end
end L2
namespace DV
open PySem PySem.Spec PyProof.Rows L2 PySem.W
section
variable {X:Cx} {c:Fc} {e:Expr} {fb:BE}
end
end DV
namespace L2
open PySem PySem.Spec PyProof.Rows
section
variable {X:Cx} {tg:Expr}
end
end L2
namespace DV
open PySem PySem.Spec PyProof.Rows L2
section
variable {X:Cx} {c:Fc} {tg e:Expr} {fe:DE} {pos pp:Pos}
end
end DV
namespace PySem.SeqAt
open AutoSeq1 (wpAny_loadPart')
open MeetsSeq
section
variable {A:Wp} {s:W2}
end
end PySem.SeqAt
namespace DV
open PySem PySem.Spec PyProof.Rows L2
end DV
namespace PySem.SeqAt
open AutoSeq1 (wpAny_loadPart')
open MeetsSeq
abbrev prO (dd:Option Addr) (a1 a2:Int) (t1 t2:Tok) (n:Nat) (sl:Array (Option Value)):Obj:={ cls:=.type "tuple",dict:=dd,data:=.seq #[.int a1 t1,.int a2 t2] n,slots:=sl }
def ltP (a1 a2 b1 b2:Int):Bool:=if a1 == b1 then decide (a2 < b2) else decide (a1 < b1)
theorem z6W (l b:Addr) (a1 a2 b1 b2:Int) (t1 t2 u1 u2:Tok) (n n2:Nat) (dd dd2:Option Addr) (sl sl2:Array (Option Value)) :
  Meets (Builtin.«tuple.__lt__» ⟨[.ref l,.ref b],[]⟩)
   (fun _ R s=>s.heap.get? l=some (prO dd a1 a2 t1 t2 n sl)∧s.heap.get? b=some (prO dd2 b1 b2 u1 u2 n2 sl2)∧R (.ok (.ret (.bool (ltP a1 a2 b1 b2)))) s) :=
 .of_wp fun prog w A R s h=>by
  obtain ⟨hp,g,d,tk,os⟩:=s; obtain ⟨hl,hb,h⟩:=h
  have f2:=AutoSeq1.sub_tuple_tuple
  wp_walk using Qv hl,Qv hb,wpAny_forIn_list _ (fun rest c s'=>c.1=none∧s' = ⟨hp,g,d,tk,os⟩ ∧
   (rest=[(.int a1 t1,.int b1 u1),(.int a2 t2,.int b2 u2)]∨(rest=[(.int a2 t2,.int b2 u2)]∧a1=b1)∨(rest=[]∧a1=b1∧a2=b2))) _
  case turn =>
   rintro ⟨y,x⟩ rest c s' ⟨hc,rfl,hz⟩
   rcases hz with hz | ⟨hz,e1⟩ | ⟨hz,_⟩
   ·injection hz with hyx hrest
    cases hyx
    refine W0 (EqAt.int_int a1 t1 b1 u1 prog w _ _ ?_)
    by_cases e:a1=b1
    ·rw [show (a1 == b1)=true by simp [e]]
     wp_walk
     exact ⟨rfl,rfl,.inr (.inl ⟨hrest,e⟩)⟩
    ·rw [show (a1 == b1)=false by simp [e]]
     have hlt:ltP a1 a2 b1 b2=decide (a1 < b1):=by simp [ltP,e]
     rw [hlt] at h
     simp only [Bool.not_false,if_true]
     refine W0 (QW ?_)
     refine W0 (richCompare_gives (op:=.Lt) (QK _ _ t1) (QK _ _ u1) F.slot_int_lt F.entry_int_lt (F.args_int_lt_2 _ _) (gives_int_lt _ _ t1 u1) (fun x=>nomatch x) ?_)
     refine W0 (W5 ?_)
     exact W5 (W5 ⟨_,rfl,h⟩)
   ·injection hz with hyx hrest
    cases hyx
    refine W0 (EqAt.int_int a2 t2 b2 u2 prog w _ _ ?_)
    by_cases e:a2=b2
    ·rw [show (a2 == b2)=true by simp [e]]
     wp_walk
     exact ⟨rfl,rfl,.inr (.inr ⟨hrest,e1,e⟩)⟩
    ·rw [show (a2 == b2)=false by simp [e]]
     have hlt:ltP a1 a2 b1 b2=decide (a2 < b2):=by simp [ltP,e1]
     rw [hlt] at h
     simp only [Bool.not_false,if_true]
     refine W0 (QW ?_)
     refine W0 (richCompare_gives (op:=.Lt) (QK _ _ t2) (QK _ _ u2) F.slot_int_lt F.entry_int_lt (F.args_int_lt_2 _ _) (gives_int_lt _ _ t2 u2) (fun x=>nomatch x) ?_)
     refine W0 (W5 ?_)
     exact W5 (W5 ⟨_,rfl,h⟩)
   ·cases hz
  case fin =>
   rintro ⟨c1,c2⟩ s' ⟨hc,rfl,hz⟩
   simp only at hc
   subst hc
   rcases hz with hz | ⟨hz,e1⟩ | ⟨_,e1,e2⟩
   ·cases hz
   ·cases hz
   ·have hlt:ltP a1 a2 b1 b2=false:=by simp [ltP,e1,e2]
    rw [hlt] at h
    wp_walk
    exact ⟨_,rfl,h⟩
  case h=>exact ⟨rfl,rfl,.inl rfl⟩
end PySem.SeqAt
namespace PySem
open SeqAt (prO ltP z6W)
section
variable {prog:Wh} {w:Wo} {A:Wp} {R:Result→W2→Prop} {I:Addr} {fp wr:List Addr} {n:Nat} {P:Nat→Value→Prop} {St:Nat→Heap→Prop}
end
section
variable {prog:Wh} {w:Wo} {A:Wp} {E:Value→W2→Prop} {s:W2}
end
end PySem
namespace DV
open PySem PySem.Spec PyProof.Rows L2
open PySem.SeqAt (prO ltP)
theorem vals_refs:∀ {as:List Addr} {us:List Value},Vals (as.map V.ref) us→us=as.map Value.ref
 | [],us,r=>by cases r; rfl
 | a :: as,us,r=>by
  cases r with
  | cons r1 r2 =>
   cases r1
   rw [vals_refs r2]
   rfl
section
variable {X:Cx} {c:Fc} {e:Expr} {fb:BE} {pos pp:Pos}
end
section
variable {c:Fc} {σ:St} {δ δ':Dl} {H H':Hp} {p:Addr}
end
end DV
namespace L2
open PySem PySem.Spec PyProof.Rows
end L2
namespace DV
open PySem PySem.Spec PyProof.Rows L2
section
variable {X:Cx} {c:Fc} {tg e:Expr} {fe:DE} {pos pp:Pos}
end
section
variable {K:W1} {h:Heap} {mg:Str→Option Value} {x q:Str} {st:Stmt} {f:Addr} {fd:WR}
abbrev FnH (K:W1) (x:Str) (st:Stmt):Prop:=∃ (f:Addr) (oc:Value) (od:Option Addr) (kV dc pm:Value) (an:Option Addr) (cd ct:Value) (sl:Array (Option Value)),
 PySem.W.nsIn K Ww x=some (some (.ref f))∧K.lookup f=some ⟨oc,od,.func (Ql x x (z2h st) (z1C st) (z0b st) .none kV dc pm an cd ct),sl⟩∧PySem.W.codeIn K cd x=true∧QC K (.ref f)=true
theorem fnH (X:K.In h) (G:h.Ns Ww mg) (d:FnH K x st):∃ f fd,Fun K x x st f fd∧mg x=some (.ref f):=by
 obtain ⟨f,oc,od,kV,dc,pm,an,cd,ct,sl,a,l,c,k⟩:=d
 exact ⟨f,_,z9O l c k,PySem.W.mg_of X G a⟩
abbrev Bd (x q:Str) (st:Stmt) (ps:List Str) (us:List Value):Prop:=∀ (kV doc pm:Value) (an:Option Addr) (cdv ct:Value),bindArgs (Ql x q (z2h st) (z1C st) (z0b st) .none kV doc pm an cdv ct) ⟨us,[]⟩=pure (ps.zip us)
variable {p1 p2 p3 p4 p5 p6:Str}
theorem bd1 (F:Fun K x q st f fd) (h:∀ a,Bd x q st [p1] [a]):Binds K fd [p1] []:=F.binds fun _ _ _ _ _ _ us hl=>match us,hl with
 | [a],_=>h a _ _ _ _ _ _
theorem bd2 (F:Fun K x q st f fd) (h:∀ a b,Bd x q st [p1,p2] [a,b]):Binds K fd [p1,p2] []:=F.binds fun _ _ _ _ _ _ us hl=>match us,hl with
 | [a,b],_=>h a b _ _ _ _ _ _
theorem bd3 (F:Fun K x q st f fd) (h:∀ a b c,Bd x q st [p1,p2,p3] [a,b,c]):Binds K fd [p1,p2,p3] []:=F.binds fun _ _ _ _ _ _ us hl=>match us,hl with
 | [a,b,c],_=>h a b c _ _ _ _ _ _
theorem bd4 (F:Fun K x q st f fd) (h:∀ a b c d,Bd x q st [p1,p2,p3,p4] [a,b,c,d]):Binds K fd [p1,p2,p3,p4] []:=F.binds fun _ _ _ _ _ _ us hl=>match us,hl with
 | [a,b,c,d],_=>h a b c d _ _ _ _ _ _
end
end DV
namespace L2
open PySem PySem.Spec PyProof.Rows
section
variable {X:Cx} {tg:Expr}
end
section
variable {X:Cx} {e:Expr} {ta:TE} {f:Str} {pos:Pos}
structure AtT (K:W1) (ce:DV.Tx→Nat) (ys:List DV.Tx) (f:Str):Prop where
 k:∀ z ∈ ys,ExcK K (ce z)
 no:∀ z ∈ ys,QR K (.ref (ce z)) f=some none
 hd:∀ z ∈ ys,PySem.W.hasDictIn K (ce z)=true
end
end L2
namespace DV
open PySem PySem.Spec PyProof.Rows L2
section
variable {X:Cx} {c:Fc} {tg e:Expr} {fe:DE} {pos pp:Pos}
end
end DV
namespace L2
open PySem PySem.Spec PyProof.Rows
section
variable {X:Cx}
end
end L2
namespace DV
open PySem PySem.Spec PyProof.Rows L2
end DV
namespace L2
open PySem PySem.Spec PyProof.Rows PySem.SeqAt DV
def zaE (z:Str):Value→Bool
 | .str x _=>x == z
 | _=>false
theorem z9U (h:Vals xs us):∀ (j:Nat) (u:Value),us[j]? = some u→∃ v,xs[j]? = some v∧RelV v u:=by
 induction h with
 | nil=>intro j u e; simp at e
 | cons r rs ih =>
  intro j u e
  cases j with
  | zero=>simp at e; subst e; exact ⟨_,rfl,r⟩
  | succ j=>simpa using ih j u (by simpa using e)
def zbo (K:W1):V→List V→Hp→VK→Prop:=fun x xs H Q=>∃ (a:Addr) (ts:List Tx) (z:Tx),x = .ref a∧xs=[.str (toS z)]∧SqL K H a (ts.map fun t=>V.str (toS t))∧z ∈ ts∧ts.length≤1000∧Q (.int (ts.idxOf z:Nat)) H
section
variable {X:Cx}
theorem zay:MtR X "list.index" (zbo X.K):=by
 intro pins s σ H x xs v us Q I rx rs h
 obtain ⟨a,ts,z,rfl,rfl,hq,hm,hl,q⟩:=h
 obtain ⟨u,rfl,ru⟩:=z41 rs
 obtain ⟨tk,rfl⟩:=ru
 cases rx
 obtain ⟨its,r',p,_⟩:=I.list hq
 obtain ⟨⟨cls,dd,data,sl⟩,ho,hc,n,hd⟩:=p.isList
 simp only at hc hd
 subst hc; subst hd
 have at':∀ j (hj:j < its.length),∃ t tk,ts[j]? = some t∧its[j] = .str (toS t) tk:=fun j hj=>by
  obtain ⟨v,e1,r1⟩:=z9U r' j _ (Wk hj)
  rw [Wu] at e1
  obtain ⟨t,e2,e3⟩:=Option.map_eq_some_iff.mp e1
  subst e3
  obtain ⟨tk,e4⟩:=r1
  exact ⟨t,tk,e2,e4⟩
 have hlen:its.length=ts.length:=by have:=r'.length; simpa using this.symm
 have hj:ts.idxOf z < ts.length:=List.idxOf_lt_length_iff.mpr hm
 have hj':ts.idxOf z < its.length:=by omega
 refine call_meets PySem.F.slot_list_index ⟨_,ho,rfl⟩ PySem.F.entry_list_index (PySem.F.args_list_index_2 _ _) (list_indexAt a _ n dd sl (.str (toS z) tk) (zaE (toS z)) (ts.idxOf z) (by simpa using hj') (by omega) ?_ ?_) ⟨ho,fun y hy=>?_,⟨.int (ts.idxOf z:Nat),H,I.tok _,⟨_,rfl⟩,q⟩⟩
 ·obtain ⟨t,tk',e1,e2⟩:=at' _ hj'
  have e3:ts[ts.idxOf z]=z:=List.getElem_idxOf hj
  rw [Wk hj,e3] at e1
  cases e1
  simp only [List.getElem_toArray,e2,zaE]
  exact beq_self_eq_true _
 ·intro m hm' hlt
  have hm1:m < its.length:=by simpa using hm'
  obtain ⟨t,tk',e1,e2⟩:=at' m hm1
  have hne:t≠z:=fun e=>by
   subst e
   have hm2:m < ts.length:=by omega
   have z2:=List.not_of_lt_findIdx (p:=(· == t)) (xs:=ts) (i:=m) hlt
   rw [Wk hm2] at e1
   cases e1
   simp at z2
  simp only [List.getElem_toArray,e2,zaE]
  rw [z6X]
  exact beq_false_of_ne hne
 ·have hy':y ∈ its:=by simpa using hy
  obtain ⟨j,hjj,rfl⟩:=List.getElem_of_mem hy'
  obtain ⟨t,tk',e1,e2⟩:=at' j hjj
  rw [e2]
  exact EqAt.str_str _ _ _ _
end
end L2
namespace DV
open PySem PySem.Spec PyProof.Rows L2
def isLD:D→Bool
 | .lst _=>true
 | _=>false
def z5G (x y:D):Option S:=match x,y with
 | .lst ds,.str z=>match z2p ds with
  | some ts=>if z ∈ ts∧ts.length≤1000 then some (.pure (.int (ts.idxOf z:Nat))) else none
  | none=>none
 | _,_=>none
def z4a (i:Nat) (fb:DE):DE:=fun δ=>match δ[i]? with
 | some (some s)=>if isLD s.d then (fb δ).bind fun y δ1=>match δ1[i]? with
  | some (some s)=>p2 z5G s.d y.d δ1
  | _=>.stuck else .stuck
 | _=>.stuck
section
variable {X:Cx} {c:Fc} {o e:Expr} {fa fb:DE}
theorem zav {K:W1}:Op2 (fun x y H Q=>zbo K x [y] H Q) z5G:=by
 intro c σ δ H x y d e s Q k rx ry hp q
 cases d with
 | lst ds =>
  cases e with
  | str z =>
   simp only [z5G] at hp
   split at hp
   ·rename_i ts ht
    split at hp
    ·rename_i hz
     cases hp
     obtain ⟨a,vs,ea,ha,r⟩:=rx.lst
     have ev:=z2n ht r
     subst ev
     exact ⟨a,ts,z,ea,by rw [ry.str],.inl ha,hz.1,hz.2,q _ H (.refl k) (.int _)⟩
    ·cases hp
   ·cases hp
  | _=>simp [z5G] at hp
 | _=>simp [z5G] at hp
theorem za5 (he:PE X o (tVar i)) (hx:SE X c e fb)
  (hbase:QI o "index" X.env (eval o X.env)=eval o X.env:=by rfl)
  (hfew:((WW cpos (W6 [e] X.env)).all (fun x=>!x.1) && (backToKw cpos (J1 [] X.env)).all (fun x=>x.1.isSome)
   && decide ([e].length + ([]:List Keyword).length + (if ([]:List Keyword).isEmpty then 0 else 1) < 30))=true:=by rfl)
  (hline:(apos.endLine == cpos.line)=true:=by rfl) (hs:W6 [e] X.env=(false,eval e X.env) :: W6 [] X.env:=by rfl) :
  SE X c (.Call (.Attribute o "index" apos) [e] [] cpos) (z4a i fb):=by
 refine PE.weak (z8S PySem.F.plainAttrs_list PySem.F.slot_list_index PySem.F.type_list_index zay he (z0Q hx z1H hs) hbase hfew hline hs rfl) fun σ H Q h=>?_
 obtain ⟨δ,k,q⟩:=h
 unfold z4a at q
 cases e0:δ[i]? with
 | none=>rw [e0] at q; exact q.elim
 | some o =>
  cases o with
  | none=>rw [e0] at q; exact q.elim
  | some w =>
   rw [e0] at q
   simp only at q
   split at q
   case isFalse=>exact q.elim
   rename_i hL
   obtain ⟨v,ev⟩:=z2m k e0
   have rb:=z5z k e0 ev
   have ty:tyV X.K "list" v H:=by
    cases hd:w.d <;> rw [hd] at hL <;> try cases hL
    rw [hd] at rb
    obtain ⟨a,vs,ea,ha,_⟩:=rb.lst
    subst ea
    exact .inl ⟨rfl,_,.inl ha⟩
   rw [z01] at q
   refine ⟨v,ev,ty,δ,k,z00 q fun y δ1 q1 u H1 a1 r1=>?_⟩
   cases e:δ1[i]? with
   | none=>rw [e] at q1; exact q1.elim
   | some o =>
    cases o with
    | none=>rw [e] at q1; exact q1.elim
    | some w1 =>
     rw [e] at q1
     have rb1:=z5z a1.ok e ev
     exact z5H zav a1.ok rb1 (.inl r1.rep) (z00 q1 fun s δ3 q3 v' H3 a3 r3=>q3 v' H3 (a1.trans a3) (RepS.back r3 a1))
end
end DV
namespace L2
open PySem PySem.Spec PyProof.Rows PySem.W DV
section
variable {α β:Type} {n:Nat}
end
section
variable {n:Nat} {p:Array Nat}
end
structure TupK (h:Heap) (vs:List Value) (ks:List Tx):Prop where
 len:ks.length=vs.length
 at':∀ i v,vs[i]? = some v→∃ b o xs m t,v = .ref b∧h.get? b=some o∧o.cls = .type "tuple"∧o.data = .seq xs m∧xs[0]? = some (.str (toS (ks.getD i [])) t)
section
variable {prog:Wh} {w:Wo} {A:Wp} {E:Value→W2→Prop} {s:W2} {vs:List Value} {ks:List Tx}
end
section
variable {X:Cx}
end
end L2
namespace DV
open PySem PySem.Spec PyProof.Rows L2
section
variable {X:Cx} {c:Fc} {e:Expr} {fb:BE} {pp pos:Pos}
end
section
variable {X:Cx} {c:Fc} {e:Expr} {fe:DE} {fb:BE} {pos:Pos}
end
section
variable {X:Cx}
end
section
variable {X:Cx} {c:Fc} {e:Expr} {fb:BE}
end
def nz:D→Bool
 | .non=>true
 | .int _=>true
 | _=>false
section
variable {X:Cx} {c:Fc} {e:Expr} {fe:DE}
end
section
variable {H H':Hp} {O:Addr→Prop} {v:V} {a:Addr} {us:List V}
end
section
variable {c:Fc} {σ:St} {δ δ1:Dl} {H H1:Hp} {i:Nat} {ds:List D} {g:Xc→Dl→Prop}
end
section
variable {X:Cx} {c:Fc} {e:Expr} {es:List Expr} {as:List Ak} {k n i:Nat} {x:Str} {G:DX} {pp pos:Pos}
end
section
variable {c:Fc} {σ σ':St} {δ δ':Dl} {H H':Hp} {B':Addr→Prop} {g:Xc→Dl→Prop} {i0:Nat} {a:Addr} {ds:List D}
end
end DV
namespace L2
open PySem PySem.Spec PyProof.Rows PySem.W DV
section
variable {prog:Wh} {w:Wo} {A:Wp} {E:Value→W2→Prop} {s:W2} {vs:List Value}
end
section
variable {lt:Nat→Nat→Bool} {r:Nat→Nat} {n:Nat} {α β:Type}
structure Lt (lt:Nat→Nat→Bool) (r:Nat→Nat) (n:Nat):Prop where
 lt:∀ i j,i < n→j < n→lt i j=decide (r i < r j)
 inj:∀ i j,i < n→j < n→i≠j→r i≠r j
end
end L2
namespace DV
open PySem PySem.Spec PyProof.Rows L2
section
variable {X:Cx} {c:Fc} {e:Expr} {fb:BE} {pp pos:Pos}
end
end DV
set_option maxHeartbeats 1000000
namespace SU
open PySem PyProof.Rows
def bt (w:Wo):Bool:=w.params.followText "set-order"
def elE (prog:Wh) (w:Wo) (x:Str×Tok):Int×Value:=((strKind prog w).hash x.1,.str x.1 x.2)
structure SetX (prog:Wh) (w:Wo) (h:Heap) (a:Addr) (ks:List Str) (o:Obj) (es:Array (Int×Value)) (ep:Nat) (t:SetTable) (xs:List (Str×Tok)):Prop where
 g:h.get? a=some o
 ex:o.ExactSet
 d:o.data = .set es ep t
 e:es.toList=xs.map (elE prog w)
 p:(xs.map (·.1)).Perm ks
 nd:ks.Nodup
 f:t.fits es.size=true
 b:es.size < scanBound
 l:bt w=false→t.led=true
 q:t.plain=true→ks=[]
def SetL (prog:Wh) (w:Wo) (h:Heap) (a:Addr) (ks:List Str):Prop:=∃ o es ep t xs,SetX prog w h a ks o es ep t xs
def dd (σ:List Str) (v:Str):List Str:=if v ∈ σ then σ else σ ++ [v]
section
variable {prog:Wh} {w:Wo} {A:Wp} {E:Value→W2→Prop} {s:W2}
section
variable {h:Heap} {a:Addr} {ks:List Str} {o:Obj} {es:Array (Int×Value)} {ep:Nat} {t:SetTable} {xs:List (Str×Tok)}
end
end
section
variable {prog:Wh} {w:Wo} {A:Wp} {R:Result→W2→Prop} {I:Addr} {fp wr:List Addr} {G:Array GenState→Array GenState→Prop} {n:Nat} {P:Nat→Value→Prop} {St:Nat→W2→Prop}
end
section
variable {prog:Wh} {w:Wo} {A:Wp} {E:Value→W2→Prop} {s:W2}
end
section
variable {mask:Nat} {owner:Array (Option Nat)}
end
def live (mask:Nat) (owner:Array (Option Nat)):List (Nat×Nat):=(Wx (mask + 1)).filterMap fun j=>(owner.getD j none).map (j,·)
section
variable {prog:Wh} {w:Wo} {A:Wp} {E:Value→W2→Prop} {s:W2}
theorem z5u {α β:Type} {f:α→β→Sem (ForInStep β)} {Q:β→W2→Prop} (J:List α→β→W2→Prop)
  (step:∀ x r b s,J (x :: r) b s→Wa (model prog w) A (f x b) (fun st s'=>∃ b',st = .yield b'∧J r b' s') E s):∀ (l:List α) (b:β) (s:W2),J l b s→(∀ b' s',J [] b' s'→Q b' s')→Wa (model prog w) A (forIn l b f) Q E s
 | [],b,s,h,q=>by
  rw [QS]
  exact W5 (q b s h)
 | x :: l,b,s,h,q=>by
  rw [Qw]
  refine W0 (Qk (step x l b s h) (fun st s' ⟨b',e,h'⟩=>?_) fun _ _ e=>e)
  subst e
  exact z5u J step l b' s' h' q
theorem z9T {α β:Type} {f:α→β→Sem (ForInStep β)} {Q:β→W2→Prop} (J:List α→β→W2→Prop)
  (step:∀ x r b s,J (x :: r) b s→Wa (model prog w) A (f x b) (fun st s'=>∃ b',st = .yield b'∧J r b' s') E s) (l:Array α) (b:β) (s:W2) (h:J l.toList b s) (q:∀ b' s',J [] b' s'→Q b' s'):Wa (model prog w) A (forIn l b f) Q E s:=by
 rw [← Array.forIn_toList]
 exact z5u J step l.toList b s h q
theorem quiet {l:List Addr} {Q:Bool→W2→Prop} (hl:∀ a ∈ l,∃ ks,SetL prog w s.heap a ks) (h:Q true s):Wa (model prog w) A (setsQuiet l) Q E s:=by
 unfold setsQuiet
 refine W0 (z5u (fun r b s'=>b=(none,())∧s'=s∧∀ a ∈ r,∃ ks,SetL prog w s.heap a ks) ?st l _ s ⟨rfl,rfl,hl⟩ ?fin)
 case fin =>
  rintro b s' ⟨rfl,rfl,_⟩
  exact W5 h
 case st =>
  rintro a r b s' ⟨rfl,rfl,e3⟩
  obtain ⟨ks,x⟩:=e3 a Wg
  obtain ⟨o,es,ep,t,xs,x⟩:=x
  refine W0 (wpAny_setEntries_of x.g x.d x.f ?_)
  refine W0 (z9T (fun r b s''=>b=(none,())∧s''=s'∧∀ e ∈ r,∃ z,e=elE prog w z) ?st es _ s' ⟨rfl,rfl,fun e he=>?el⟩ ?fin)
  case st =>
   rintro e r b s'' ⟨rfl,rfl,q3⟩
   obtain ⟨z,rfl⟩:=q3 e Wg
   exact W5 ⟨_,rfl,rfl,rfl,fun e he=>q3 e (Wb _ he)⟩
  case el =>
   rw [x.e] at he
   obtain ⟨z,_,rfl⟩:=List.mem_map.mp he
   exact ⟨z,rfl⟩
  case fin =>
   rintro b s'' ⟨rfl,rfl,_⟩
   exact W5 ⟨_,rfl,rfl,rfl,fun a ha=>e3 a (Wb _ ha)⟩
end
section
variable {prog:Wh} {w:Wo} {A:Wp} {E:Value→W2→Prop} {s:W2}
end
theorem z2J:Slot "set_iterator" "__next__" "set_iterator.__next__" :=
 .of (owner:="set_iterator") (n:="__next__") (by rw [typeLookup_type,builtinLookup_eq_fast]; kernel_rfl) (by decide +kernel) (by decide +kernel) (by decide +kernel)
  (by first | exact .inl (by decide +kernel) | exact .inr (by decide +kernel)) (by rw [isSubtype_type]; kernel_rfl)
theorem z4k:entryFor table "set_iterator.__next__" = some Builtin.«set_iterator.__next__»:=entryFor_of_tree (by kernel_rfl)
theorem z5s (a:Value):argsOk "set_iterator.__next__" ⟨[a],[]⟩:=by
 unfold argsOk; rw [signature?_of (id:="set_iterator.__next__") (n:="__txen__".toList) (o:="rotareti_tes".toList) (by kernel_rfl) (show Manifest.owners.lookup (String.ofList "rotareti_tes".toList.reverse)=some Manifest.sig_set_iterator by kernel_rfl)]; kernel_rfl
abbrev itO (f:Value) (i:Nat) (a:Addr) (n ep:Nat):Obj:={ cls:=.type "set_iterator",data:=.fields #[f,.int i 0,.ref a,.int n 0,.int ep 0] }
section
variable {prog:Wh} {w:Wo} {A:Wp} {E:Value→W2→Prop} {s:W2}
section
variable {a it:Addr} {ks:List Str} {o:Obj} {es:Array (Int×Value)} {ep:Nat} {t:SetTable} {xs:List (Str×Tok)} {i:Nat}
theorem za0 {Q:Option Value→W2→Prop} {f:Value} {n' j:Nat} {v:Value} (hh:A.handled=none) (hi:s.heap.get? it=some (itO f i a n' ep)) (hj:j < 5)
  (h:∀ h',Heap.ExtBut it s.heap h'→Q none { s with heap:=h' }) :
  Wa (model prog w) A.in1 (do
   setField (.ref it) j v
   raiseNew (← newExc (.type "StopIteration") [])) (fun (_:PySem.Fin) _=>False) (fun e s'=>Wa (model prog w) A (do
    if ← isInstance e (.type "StopIteration") then pure none else throw e) Q E s') s:=by
 refine W0 (Jg hi rfl (by simpa using hj) ?_)
 refine W0 ?_
 simp only [newExc,newTuple]
 refine W0 (Q4 ?_ (by size_fits))
 refine W0 (m:=firstArgMember _ _) (wpAny_of_eq (a:=Value.none) (by first | rfl | (simp only [firstArgMember]; rfl)) ?_)
 refine Q4 ?_ (by size_fits)
 simp only [raiseNew]
 refine W0 (wpAny_handled ?_)
 rw [show A.in1.handled=none from hh]
 refine W0 (W5 (wpAny_throw ?_))
 refine W0 (wpAny_isInstance (T:="StopIteration") (b:=true) ⟨_,Wn _ rfl,rfl⟩ isSubtype_stop ?_)
 exact W5 (h _ (((J4 ..).extBut.push _).push _))
end
end
section
variable {prog:Wh} {w:Wo} {A:Wp} {E:Value→W2→Prop} {s:W2}
variable {a it:Addr} {ks:List Str} {o:Obj} {es:Array (Int×Value)} {ep:Nat} {t:SetTable} {xs:List (Str×Tok)} {i:Nat}
theorem z6D {T:Addr} {ps:List Nat} {oT:Obj} {nT p:Nat} {hv:Int} {v:Value} {Q:Option Value→W2→Prop} (x:SetX prog w s.heap a ks o es ep t xs) (hi:s.heap.get? it=some (itO (.ref T) i a es.size ep))
  (gT:s.heap.get? T=some oT) (dT:oT.data = .seq (ps.map fun j:Nat=>Qs j).toArray nT) (hp:ps[i]? = some p) (hv':es[p]? = some (hv,v))
  (h:∀ h',Jb it s.heap h'→h'.get? it=some (itO (.ref T) (i + 1) a es.size ep)→Q (some v) { s with heap:=h' }):Wa (model prog w) A (Qe (.ref it)) Q E s:=by
 have hT:s.TypeIs (.ref it) "set_iterator":=⟨_,hi,rfl⟩
 unfold Qe
 refine W0 (QY (WH (name:=Str.ofString "__next__") hT z2J (WZ z2J hT z4k ?_ (z5s _))))
 unfold Builtin.«set_iterator.__next__»
 refine W0 (m:=slotArgs "__next__" 0 _) (W5 ?_)
 refine W0 (wpAny_fieldsOf hi rfl ?_)
 dsimp only
 refine W0 (wpAny_setEntries_of x.g x.d x.f ?_)
 rw [if_neg (by simp)]
 refine W0 (WQ gT dT ?_)
 dsimp only
 have e1:(ps.map fun j:Nat=>Qs j).toArray[i]? = some (.int (p:Int) 0):=by simp [hp,Qs]
 rw [WT,e1]
 dsimp only
 refine W0 ?_
 unfold setNextDrawn
 refine W0 (wpAny_setState_of x.g x.d x.f ?_)
 simp only [WT,bne_self_eq_false,QN,if_false]
 rw [hv']
 refine W5 ?_
 refine W0 (Jg hi rfl (by simp) ?_)
 have g2:=WO (Obj.mapFields (·.setIfInBounds 1 (Qs ((i:Int) + 1)))) hi (by rfl)
 refine W5 ⟨_,rfl,W5 (h _ (J4 ..) ?_)⟩
 rw [g2]
 rfl
theorem z83 {T:Addr} {ps:List Nat} {oT:Obj} {nT:Nat} {Q:Option Value→W2→Prop} (hh:A.handled=none) (x:SetX prog w s.heap a ks o es ep t xs) (hi:s.heap.get? it=some (itO (.ref T) i a es.size ep))
  (gT:s.heap.get? T=some oT) (dT:oT.data = .seq (ps.map fun j:Nat=>Qs j).toArray nT) (hp:ps[i]? = none)
  (h:∀ h',Heap.ExtBut it s.heap h'→Q none { s with heap:=h' }):Wa (model prog w) A (Qe (.ref it)) Q E s:=by
 have hT:s.TypeIs (.ref it) "set_iterator":=⟨_,hi,rfl⟩
 unfold Qe
 refine W0 (QY (WH (name:=Str.ofString "__next__") hT z2J (WZ z2J hT z4k ?_ (z5s _))))
 unfold Builtin.«set_iterator.__next__»
 refine W0 (m:=slotArgs "__next__" 0 _) (W5 ?_)
 refine W0 (wpAny_fieldsOf hi rfl ?_)
 dsimp only
 refine W0 (wpAny_setEntries_of x.g x.d x.f ?_)
 rw [if_neg (by simp)]
 refine W0 (WQ gT dT ?_)
 dsimp only
 have e1:(ps.map fun j:Nat=>Qs j).toArray[i]? = none:=by simpa using hp
 rw [WT,e1]
 dsimp only
 refine W0 (Jg hi rfl (by simp) ?_)
 have g1:(s.heap.update it (Obj.mapFields (·.setIfInBounds 0 (Qs 0)))).get? it=some (itO (Qs 0) i a es.size ep):=by
  rw [WO (Obj.mapFields (·.setIfInBounds 0 (Qs 0))) hi (by rfl)]
  rfl
 refine Qk (za0 (s:={ s with heap:=s.heap.update it (Obj.mapFields (·.setIfInBounds 0 (Qs 0))) }) (j:=2) hh g1 (by decide) fun h' eb=>h h' fun b ob hb e=>?_) (fun _ _ e=>e.elim) fun _ _ e=>e
 exact eb b ob hb ((WL _ _ (Ne.symm hb)).trans e)
theorem loopC {St:Nat→Heap→Prop} {n:Nat} {val:Nat→Value} {S:Addr} {res:Value} {R:Result→W2→Prop} (hne:S≠it) (hn:n≤1000)
  (fr:∀ i h h',St i h→(∀ b ob,b≠S→h.get? b=some ob→h'.get? b=some ob)→St i h')
  (item:∀ (i:Nat) (s:W2) (Q:Option Value→W2→Prop) (E:Value→W2→Prop),i < n→St i s.heap→(∀ h',(∀ b ob,b≠it→s.heap.get? b=some ob→h'.get? b=some ob)→St (i + 1) h'→Q (some (val i)) { s with heap:=h' })→Wa (model prog w) A.in1 (Qe (.ref it)) Q E s)
  (done:∀ (s:W2) (Q:Option Value→W2→Prop) (E:Value→W2→Prop),St n s.heap→(∀ h',(∀ b ob,b≠it→s.heap.get? b=some ob→h'.get? b=some ob)→Q none { s with heap:=h' })→Wa (model prog w) A.in1 (Qe (.ref it)) Q E s) :
  ∀ (k i:Nat) (s:W2) (acc:Array Value) (c:Nat),n - i=k→i≤n→St i s.heap→s.heap.get? S=some { cls:=.type "list",data:=.seq acc c }→acc.toList=(Wx i).map val →
   (∀ h' acc' c',(∀ b ob,b≠S→b≠it→s.heap.get? b=some ob→h'.get? b=some ob)→h'.get? S=some { cls:=.type "list",data:=.seq acc' c' }→acc'.toList=(Wx n).map val→R (.ok (.ret res)) { s with heap:=h' }) →
   QH (model prog w) A (.builtin "list.extend.loop" ⟨[.ref S,.ref it,res],[]⟩) R s:=by
 intro k
 induction k with
 | zero =>
  intro i s acc c e1 e2 st g ea fin
  obtain rfl:i=n:=by omega
  refine codeAny_builtin PySem.F.entry_extend_loop ?_
  rw [Around.under_plainId PySem.F.plain_extend_loop _]
  show Wa _ A.in1 (Qe (.ref it) >>= _) _ _ _
  refine W0 (done s _ _ st fun h' kp=>?_)
  exact W5 (fin h' acc c (fun b ob _ hb e=>kp b ob hb e) (kp S _ hne g) ea)
 | succ k ih =>
  intro i s acc c e1 e2 st g ea fin
  refine codeAny_builtin PySem.F.entry_extend_loop ?_
  rw [Around.under_plainId PySem.F.plain_extend_loop _]
  show Wa _ A.in1 (Qe (.ref it) >>= _) _ _ _
  refine W0 (item i s _ _ (by omega) st fun h' kp st'=>?_)
  have g':=kp S _ hne g
  have za:acc.size=i:=by rw [← J2,ea]; simp
  show Wa _ A.in1 (updateSeq S (·.push (val i)) >>= _) _ _ _
  refine W0 (Ja (hz:=by rw [za,QZ]; omega) g' rfl ?_)
  have g2:=WO (Obj.mapSeq (·.push (val i))) g' rfl
  refine W5 ⟨plainId_quiet PySem.F.plain_extend_loop _,ih (i + 1) _ (acc.push (val i)) _ (by omega) (by omega) (fr _ _ _ st' fun b ob hb e=>(WL _ _ (Ne.symm hb)).trans e) g2 (by rw [Array.toList_push,ea,List.range_succ,List.map_append]; rfl) fun h2 acc' c' kp2 g3 ea'=>?_⟩
  exact fin h2 acc' c' (fun b ob hb hi e=>kp2 b ob hb hi ((WL _ _ (Ne.symm hb)).trans (kp b ob hi e))) g3 ea'
end
section
variable {prog:Wh} {w:Wo} {A:Wp} {E:Value→W2→Prop} {s:W2}
variable {a it:Addr} {ks:List Str} {o:Obj} {es:Array (Int×Value)} {ep:Nat} {t:SetTable} {xs:List (Str×Tok)} {i:Nat}
abbrev tupO (ps:List Nat):Obj:={ cls:=.type "tuple",data:=.seq (ps.map fun j:Nat=>Qs j).toArray }
theorem walkD {S T:Addr} {res:Value} {R:Result→W2→Prop} {c:Nat} {ps:List Nat} (hh:A.handled=none) (x:SetX prog w s.heap a ks o es ep t xs) (hz:es.size≤1000) (hS:S≠it) (hSa:S≠a) (hai:a≠it) (hST:S≠T) (hTi:T≠it) (pp:ps.Perm (Wx es.size))
  (hi:s.heap.get? it=some (itO (.ref T) 0 a es.size ep)) (gT:s.heap.get? T=some (tupO ps)) (gS:s.heap.get? S=some { cls:=.type "list",data:=.seq #[] c })
  (fin:∀ h' acc' c' (zs:List (Str×Tok)),(∀ b ob,b≠S→b≠it→s.heap.get? b=some ob→h'.get? b=some ob)→h'.get? S=some { cls:=.type "list",data:=.seq acc' c' }→acc'.toList=zs.map (fun z=>Value.str z.1 z.2)→(zs.map (·.1)).Perm ks→R (.ok (.ret res)) { s with heap:=h' }) :
  QH (model prog w) A (.builtin "list.extend.loop" ⟨[.ref S,.ref it,res],[]⟩) R s:=by
 have hl:ps.length=es.size:=by rw [pp.length_eq,List.length_range]
 have hxl:xs.length=es.size:=by
  have:=congrArg List.length x.e
  simp at this
  omega
 have hin:∀ i (h:i < ps.length),ps[i] < xs.length:=fun i h=>by
  have:=QV.mp (pp.mem_iff.mp (Jo h))
  omega
 have ge:∀ p (h:p < xs.length),es[p]? = some (elE prog w xs[p]):=fun p h=>by
  rw [← Array.getElem?_toList,x.e,Wu,Wk h]; rfl
 refine loopC (it:=it) (St:=fun i h=>h.get? it=some (itO (.ref T) i a es.size ep)∧SetX prog w h a ks o es ep t xs∧h.get? T=some (tupO ps)) (n:=es.size) (val:=fun i=>((ps[i]?).bind fun p=>(xs[p]?).map fun z=>Value.str z.1 z.2).getD .none) hS hz (fun i h h' ⟨q1,q2,q3⟩ k=>⟨k _ _ (Ne.symm hS) q1,{ q2 with g:=k _ _ (Ne.symm hSa) q2.g },k _ _ (Ne.symm hST) q3⟩) ?item ?done es.size 0 s #[] c (by omega) (QB _) ⟨hi,x,gT⟩ gS rfl ?fin
 case item =>
  rintro i s Q E' hlt ⟨q1,q2,q3⟩ k
  have hi':i < ps.length:=by omega
  have hp:=hin i hi'
  refine z6D (A:=A.in1) (T:=T) (ps:=ps) (p:=ps[i]) q2 q1 q3 rfl (Wk hi') (ge _ hp) fun h' sb g=>?_
  have:((ps[i]?).bind fun p=>(xs[p]?).map fun z=>Value.str z.1 z.2).getD .none=Value.str (xs[ps[i]]).1 (xs[ps[i]]).2:=by
   rw [Wk hi',QF,Wk hp]; rfl
  have k2:=k h' (fun b ob hb' e=>(sb.2 b hb').trans e) ⟨g,{ q2 with g:=(sb.2 a hai).trans q2.g },(sb.2 T hTi).trans q3⟩
  rw [this] at k2
  exact k2
 case done =>
  rintro s Q E' ⟨q1,q2,q3⟩ k
  exact z83 (A:=A.in1) (T:=T) (ps:=ps) hh q2 q1 q3 rfl (WB (by omega)) fun h' eb=>k h' fun b ob hb' e=>eb b ob hb' e
 case fin =>
  intro h' acc' c' k g ea
  refine fin h' acc' c' (ps.filterMap (xs[·]?)) k g ?_ ?_
  ·rw [ea,← hl]
   have all:∀ p ∈ ps,p < xs.length:=fun p hp=>by have:=QV.mp (pp.mem_iff.mp hp); omega
   clear pp fin ea g k hl hin ge hi gT
   have:∀ ps:List Nat,(∀ p ∈ ps,p < xs.length)→(Wx ps.length).map (fun i=>((ps[i]?).bind fun p=>(xs[p]?).map fun z=>Value.str z.1 z.2).getD .none)=(ps.filterMap (xs[·]?)).map fun z=>Value.str z.1 z.2:=fun ps=>by
    induction ps with
    | nil=>intro _; rfl
    | cons p ps ih =>
     intro all
     have hp:=all p Wg
     rw [WN,List.range_succ_eq_map,Wr,Q2]
     have ih':=ih fun q hq=>all q (Wb _ hq)
     have e1:(p :: ps).filterMap (xs[·]?)=xs[p] :: ps.filterMap (xs[·]?):=List.filterMap_cons_some (Wk hp)
     rw [e1,Wr,← ih']
     simp [Wk hp,Function.comp_def]
   exact this ps all
  ·have p1:(ps.filterMap (xs[·]?)).Perm xs:=(pp.filterMap _).trans (by rw [← hxl,List.filterMap_getElem?_range_length])
   exact (p1.map (·.1)).trans x.p
end
section
variable {prog:Wh} {w:Wo} {A:Wp} {E:Value→W2→Prop} {s:W2}
end
end SU
set_option maxHeartbeats 400000
namespace L2
open PySem PySem.Spec PyProof.Rows PySem.W DV SU
section
variable {X:Cx}
theorem vals_strs:∀ {vs:List Value} {ss:List Str},StrsAre vs ss→Vals (ss.map V.str) vs
 | _,_,.nil=>.nil
 | _,_,.cons x t h=>.cons ⟨t,rfl⟩ (vals_strs h)
end
end L2
namespace DV
open PySem PySem.Spec PyProof.Rows L2 SU
section
variable {X:Cx} {c:Fc} {a b:Expr} {f g:DE} {pp pos p1 p2' p3 p4 p5:Pos}
end
end DV
namespace L2
open PySem PySem.Spec PyProof.Rows PySem.W DV
section
variable {X:Cx}
end
end L2
namespace DV
open PySem PySem.Spec PyProof.Rows L2
section
variable {X:Cx} {c:Fc} {e:Expr} {fb:BE} {pp pos:Pos}
end
theorem z8M (c:Nat) (z:List Nat):(posn c z 0 z.length).length=z.count c:=by
 have key:∀ (z pre:List Nat),((List.range' pre.length z.length).filter fun i=>decide ((pre ++ z)[i]? = some c)).length=z.count c:=fun z=>by
  induction z with
  | nil=>intro pre; rfl
  | cons x z ih =>
   intro pre
   have h:=ih (pre ++ [x])
   rw [Q8,List.length_singleton] at h
   rw [WN,Jp,List.filter_cons]
   have e:(pre ++ x :: z)[pre.length]? = some x:=by simp
   have e2:pre ++ [x] ++ z=pre ++ x :: z:=by simp
   rw [e2] at h
   rw [e,List.count_cons]
   by_cases hc:x=c
   ·subst hc
    simp [h]
   ·have:¬ (some x=some c):=by simpa using hc
    simp [hc,h]
 exact key z []
section
variable {X:Cx}
theorem zbT:MtR X "str.count" (fun x vs H Q=>∃ (z:Tx) (c:Nat),x = .str (toS z)∧vs=[.str (toS [c])]∧Q (.int (z.count c:Nat)) H):=by
 intro pins s σ H x vs v us Q I rx rv h
 obtain ⟨z,c,rfl,rfl,q⟩:=h
 obtain ⟨t,rfl⟩:=rx
 obtain ⟨u,rfl,ru⟩:=rv.one
 obtain ⟨tu,rfl⟩:=ru
 refine call_gives PySem.F.slot_str_count (typeIs_str _ _ _) PySem.F.entry_str_count (PySem.F.args_str_count_2 _ _) (gives_str_count (toS z) (toS [c]) t tu) ?_
 have e:(PySem.Builtin.Str.occurrences (toS z) (toS [c]) 0 (toS z).length ((toS z).length + 1)).length=z.count c:=by
  have:=z8U c z
  have e1:toS z = ⟨z.toArray⟩:=rfl
  have e2:toS [c] = ⟨#[c]⟩:=rfl
  rw [z1v,e1,e2,this,z8M]
 rw [e]
 exact ⟨.int (z.count c:Nat),H,I.tok _,⟨_,rfl⟩,q⟩
end
def zbG:D→D→Option S
 | .str z,.str [c]=>some (.pure (.int (z.count c:Nat)))
 | _,_=>none
def z9M:D→Bool
 | .str _=>true
 | _=>false
def eCnt (fa fb:DE):DE:=fun δ=>(fa δ).bind fun x δ1=>if z9M x.d=true then (fb δ1).bind fun y δ2=>p2 zbG x.d y.d δ2 else .stuck
section
variable {X:Cx} {c:Fc} {o e:Expr} {fa fb:DE}
theorem za6 (he:SE X c o fa) (hx:SE X c e fb)
  (hbase:QI o "count" X.env (eval o X.env)=eval o X.env:=by rfl)
  (hfew:((WW cpos (W6 [e] X.env)).all (fun x=>!x.1) && (backToKw cpos (J1 [] X.env)).all (fun x=>x.1.isSome)
   && decide ([e].length + ([]:List Keyword).length + (if ([]:List Keyword).isEmpty then 0 else 1) < 30))=true:=by rfl)
  (hline:(apos.endLine == cpos.line)=true:=by rfl) (hs:W6 [e] X.env=(false,eval e X.env) :: W6 [] X.env:=by rfl) :
  SE X c (.Call (.Attribute o "count" apos) [e] [] cpos) (eCnt fa fb):=by
 refine PE.weak (z8S PySem.F.plainAttrs_str PySem.F.slot_str_count PySem.F.type_str_count zbT he (z0Q hx z1H hs) hbase hfew hline hs rfl) fun σ H Q h=>?_
 obtain ⟨δ,k,q⟩:=h
 unfold eCnt at q
 rw [z01] at q
 refine ⟨δ,k,z00 q fun r δ1 q1 v H1 a1 r1=>?_⟩
 split at q1
 case isFalse=>exact q1.elim
 rename_i hL
 obtain ⟨z,ez⟩:∃ z,r.d = .str z:=by
  cases hd:r.d <;> first | exact ⟨_,rfl⟩ | (rw [hd] at hL; cases hL)
 have r1':RepB c σ δ1 H1 v (.str z):=by rw [← ez]; exact .inl r1.rep
 have ev:=r1'.str
 subst ev
 rw [z01] at q1
 refine ⟨rfl,δ1,a1.ok,z00 q1 fun y δ2 q2 u H2 a2 r2=>?_⟩
 rw [ez] at q2
 unfold p2 at q2
 have hy:=r2.b
 generalize y.d=dy at q2 hy
 cases dy with
 | str w =>
  match w,q2,hy with
  | [n],q2,hy =>
   have eu:=hy.str
   subst eu
   exact ⟨z,n,rfl,rfl,q2 _ H2 (a1.trans a2) (.int _)⟩
  | [],q2,_=>exact q2.elim
  | _ :: _ :: _,q2,_=>exact q2.elim
 | _=>exact q2.elim
end
end DV
set_option maxHeartbeats 3200000
namespace SU
open PySem PyProof.Rows
section
variable {prog:Wh} {w:Wo} {A:Wp} {E:Value→W2→Prop} {s:W2}
end
end SU
set_option maxHeartbeats 1000000
namespace DV
open PySem (sizeLine)
open L2
section
variable {α β:Type}
@[simp] theorem z1b (a:α) (δ:Dl) (f:α→Dl→Rs β):(Rs.ok a δ).bind f=f a δ:=id rfl
@[simp] theorem z9b (f:α→Dl→Rs β):(Rs.stuck:Rs α).bind f = .stuck:=id rfl
@[simp] theorem ev_d1 (d:D):(S.pure d).d=d:=id rfl
@[simp] theorem ev_d2 (d:D):(S.own d).d=d:=id rfl
end
section
variable (δ:Dl) (i:Nat) (d e:D) (f g:DE) (fb:BE) (t u:DT) (p:D→D→Option S)
@[simp] theorem ev_eD:eD d δ = .ok (.pure d) δ:=id rfl
@[simp] theorem zce:bOf f δ=(f δ).bind fun r δ'=>.ok r.d δ':=id rfl
@[simp] theorem zcd:eOp p f fb δ=(f δ).bind fun x δ1=>(fb δ1).bind fun y δ2=>p2 p x.d y δ2:=id rfl
@[simp] theorem ev_dAnd:dAnd t u δ=(t δ).bind fun b δ1=>if b then u δ1 else .ok false δ1:=id rfl
@[simp] theorem ev_dOr:dOr t u δ=(t δ).bind fun b δ1=>if b then .ok true δ1 else u δ1:=id rfl
@[simp] theorem ev_dNot:dNot t δ=(t δ).bind fun b δ1=>.ok (!b) δ1:=id rfl
@[simp] theorem ev_eIf:eIf t f g δ=(t δ).bind fun b δ1=>if b then f δ1 else g δ1:=id rfl
@[simp] theorem ev_dNext:z1a δ = .ok .next δ:=id rfl
@[simp] theorem ev_dYes:dYes δ = .ok true δ:=id rfl
@[simp] theorem ev_dDrop:dDrop f δ=(f δ).bind fun _ δ1=>.ok .next δ1:=id rfl
@[simp] theorem ev_dRet:dRet f δ=(f δ).bind fun r δ1=>.ok (.ret r) δ1:=id rfl
@[simp] theorem ev_dIf (a b:DS):dIf t a b δ=(t δ).bind fun x δ1=>if x then a δ1 else b δ1:=id rfl
@[simp] theorem ev_dFor (it:DI) (gg:DG) (b:DS):dFor it gg b δ=(it δ).bind fun ds δ1=>forL gg b ds δ1:=id rfl
@[simp] theorem ev_eTup (a:DA):eTup a δ=(a δ).bind fun ds δ'=>.ok (.pure (.tup ds)) δ':=id rfl
@[simp] theorem ev_eLst (a:DA):eLst a δ=(a δ).bind fun ds δ'=>.ok (.own (.lst ds)) δ':=id rfl
@[simp] theorem ev_eLstC (ds:List D):z39 ds δ = .ok (.own (.lst ds)) δ:=id rfl
@[simp] theorem ev_aNil:aNil δ = .ok [] δ:=id rfl
@[simp] theorem ev_aCons (a:DA):z0U f a δ=(f δ).bind fun x δ1=>(a δ1).bind fun xs δ2=>.ok (x.d :: xs) δ2:=id rfl
@[simp] theorem ev_eC1 (q:D→Option S):eC1 q fb δ=(fb δ).bind fun x δ1=>p1 q x δ1:=id rfl
@[simp] theorem ev_eMax:eMax f g δ=(f δ).bind fun x δ1=>(g δ1).bind fun y δ2=>p2 pMax x.d y.d δ2:=id rfl
@[simp] theorem ev_eSl (fl fh:DOp):eSl f fl fh δ=(f δ).bind fun x δ1=>(fl δ1).bind fun l δ2=>(fh δ2).bind fun h δ3=>p1 (pSl l h) x.d δ3:=id rfl
@[simp] theorem ev_oNone:oNone δ = .ok none δ:=id rfl
@[simp] theorem ev_eComp (cs:List Nat) (it:DI) (gg:DG) (el:DE):z0r cs it gg t el δ=(it δ).bind fun ds δ1=>if cs.any (z0q δ1) then .stuck else
 (z0L cs gg t el ds (clrD cs δ1) []).bind fun acc δ2=>.ok (.own (.lst acc)) (z0S cs δ1 δ2):=id rfl
@[simp] theorem ev_gNm (np:List Nat) (r:S):gNm np i r δ=if np.contains i then none else some (δ.set i (some r)):=id rfl
@[simp] theorem zaG (gg:DG) (b:DS):forL gg b [] δ = .ok .next δ:=id rfl
end
section
variable (δ:Dl) (i:Nat) (d e:D) (f g:DE) (fb:BE) (p:D→D→Option S) (s:S)
@[simp] theorem ev_p2 (x y:D):p2 p x y δ=match p x y with | some s=>.ok s δ | none=>.stuck:=id rfl
@[simp] theorem ev_p1 (q:D→Option S) (x:D):p1 q x δ=match q x with | some s=>.ok s δ | none=>.stuck:=id rfl
@[simp] theorem ev_dSeq (a b:DS):dSeq a b δ=(a δ).bind fun fl δ1=>match fl with | .next=>b δ1 | .ret r=>.ok (.ret r) δ1 | .brk=>.ok .brk δ1 | .cont=>.ok .cont δ1:=id rfl
@[simp] theorem zaQ {α β:Type} (c:Prop) [Decidable c] (x y:Rs α) (k:α→Dl→Rs β):(if c then x else y).bind k=if c then x.bind k else y.bind k:=by split <;> rfl
end
theorem z0o:W9=16777216:=rfl
theorem z1l (xs:List α) (i:Nat):atI xs (i:Int)=xs[i]?:=by
 unfold atI ixN
 by_cases h:i < xs.length
 ·rw [if_pos (by omega),if_pos (by omega)]
  simp
 ·rw [if_pos (by omega),if_neg (by omega)]
  simp [WB (Nat.le_of_not_lt h)]
theorem z5R (xs:List α):atI xs 2=xs[2]?:=z1l xs 2
theorem z3z (xs:List α):atI xs 0=xs[0]?:=z1l xs 0
theorem z5S (xs:List α):atI xs 1=xs[1]?:=z1l xs 1
theorem z3Y (I:Dl→Prop) (R:D→D→Prop) :
  ∀ (ds:List D) (δ:Dl) (acc:List D),I δ→acc.length + ds.length≤W9 →
   (∀ d ∈ ds,∀ δ,I δ→∃ δ1 δ2 x δ3,g (.pure d) δ=some δ1∧t δ1 = .ok true δ2∧el δ2 = .ok x δ3∧I (clrD cs δ3)∧R d x.d) →
   ∃ xs δ',z0L cs g t el ds δ acc = .ok (acc ++ xs) δ'∧I δ'∧xs.length=ds.length∧∀ (i:Nat) d x,ds[i]? = some d→xs[i]? = some x→R d x
 | [],δ,acc,h,_,_=>⟨[],δ,by simp [z0L],h,rfl,fun i d x e=>by simp at e⟩
 | d :: r,δ,acc,h,hl,hs=>by
  obtain ⟨δ1,δ2,x,δ3,e1,e2,e3,h3,hr⟩:=hs d Wg δ h
  have hl':acc.length < W9:=by simp at hl; omega
  obtain ⟨xs,δ',e4,h4,hn,hf⟩:=z3Y (g:=g) (t:=t) (el:=el) I R r (clrD cs δ3) (acc ++ [x.d]) h3 (by simp at hl ⊢; omega) (fun d hd=>hs d (Wb _ hd))
  refine ⟨x.d :: xs,δ',?_,h4,by simp [hn],fun i d' x' f1 f2=>?_⟩
  ·unfold z0L
   rw [e1]
   simp only [e2,z1b,if_true,e3,if_pos hl',e4]
   simp
  ·cases i with
   | zero=>simp at f1 f2; subst f1 f2; exact hr
   | succ i=>exact hf i d' x' (by simpa using f1) (by simpa using f2)
theorem z8d (F:D→D) (δ:Dl) :
  ∀ (ds:List D) (acc:List D),acc.length + ds.length≤W9 →
   (∀ d ∈ ds,∃ δ1 δ2 x δ3,g (.pure d) δ=some δ1∧t δ1 = .ok true δ2∧el δ2 = .ok x δ3∧clrD cs δ3=δ∧x.d=F d) →
   z0L cs g t el ds δ acc = .ok (acc ++ ds.map F) δ:=by
 intro ds acc hl hs
 obtain ⟨xs,δ',e,h,hn,hf⟩:=z3Y (cs:=cs) (g:=g) (t:=t) (el:=el) (fun δ'=>δ'=δ) (fun d x=>x=F d) ds δ acc rfl hl (fun d hd δ' h=>by
  subst h
  obtain ⟨δ1,δ2,x,δ3,a,b,c,d,e⟩:=hs d hd
  exact ⟨δ1,δ2,x,δ3,a,b,c,d,e⟩)
 subst h
 rw [e]
 congr 2
 apply QP
 intro i
 by_cases hi:i < ds.length
 ·have:=hf i ds[i] (xs[i]'(by omega)) (by simp [hi]) (by simp [hn,hi])
  simp [hn,hi,this]
 ·rw [WB (by omega),WB (by simp; omega)]
theorem z1I (I:Nat→Dl→Prop) :
  ∀ (ds:List D) (n:Nat) (δ:Dl),I n δ →
   (∀ (i:Nat) d δ,ds[i]? = some d→I (n + i) δ→∃ δ1 δ2,g (.pure d) δ=some δ1∧b δ1 = .ok .next δ2∧I (n + i + 1) δ2) →
   ∃ δ',forL g b ds δ = .ok .next δ'∧I (n + ds.length) δ'
 | [],n,δ,h,_=>⟨δ,rfl,h⟩
 | d :: r,n,δ,h,hs=>by
  obtain ⟨δ1,δ2,e1,e2,h2⟩:=hs 0 d δ rfl h
  obtain ⟨δ',e3,h3⟩:=z1I (g:=g) (b:=b) I r (n + 1) δ2 h2 (fun i d' δ' e hi=>by
   have:=hs (i + 1) d' δ' (by simpa using e) (by rw [show n + (i + 1)=n + 1 + i by omega]; exact hi)
   rw [show n + (i + 1) + 1=n + 1 + i + 1 by omega] at this
   exact this)
  refine ⟨δ',?_,by rw [WN,show n + (r.length + 1)=n + 1 + r.length by omega]; exact h3⟩
  unfold forL
  rw [e1]
  simp only [e2,z1b,e3]
theorem z3w (xs:List Tx):z2p (xs.map .str)=some xs:=by
 induction xs with
 | nil=>rfl
 | cons x r ih=>simp [z2p,ih]
theorem z2g:∀ ts:List Tx,z3Q [] ts=ts.flatten
 | []=>rfl
 | [x]=>by simp [z3Q]
 | x :: y :: r=>by rw [z3Q,z2g (y :: r)]; simp
theorem z6J (xs:List Nat):z27 (xs.map fun n=>[n])=xs.length:=by
 unfold z27
 induction xs with
 | nil=>rfl
 | cons x r ih=>simp at ih ⊢; omega
theorem z9a (xs:List Nat):(xs.map fun n=>[n]).flatten=xs:=by
 induction xs with
 | nil=>rfl
 | cons x r ih=>simp [ih]
theorem z99 (xs:List Nat) (h:xs.length≤16777216):z1L [] (.lst (xs.map fun n=>.str [n]))=some (.pure (.str xs)):=by
 have e:(xs.map fun n=>D.str [n])=(xs.map fun n=>[n]).map D.str:=by simp
 unfold z1L
 simp only [e,z3w,z6J,z2g,z9a]
 rw [if_pos (by simpa using h)]
theorem z3V (r:Tx) (c:Nat) (h:c < r.length) (hl:r.length≤64):pIx (.str r) (.int c)=some (.pure (.str [r.getD c 0])):=by
 unfold pIx
 have:W9=16777216:=rfl
 simp only
 rw [if_pos (by omega),z1l]
 simp [h]
abbrev flD (fl:List Tx):D:=.tup (fl.map .str)
structure Rect (w:Nat) (fl:List Tx):Prop where
 h0:0 < fl.length
 h1:fl.length≤64
 w0:0 < w
 w1:w≤64
 all:∀ r ∈ fl,r.length=w
def turn (w:Nat) (fl:List Tx):List Tx:=(Wx w).map fun c=>fl.map fun r=>r.getD c 0
def back (fl:List Tx):List Tx:=fl.map List.reverse
def rng (r:S) (δ1:Dl):Rs (List D):=match r with
 | .pure (.int j)=>if z4e j then .ok (z0n 0 j.toNat) δ1 else .stuck
 | _=>.stuck
@[simp] theorem zcc (f:DE) (δ:Dl):z0E f δ=(f δ).bind fun r δ1=>rng r δ1:=id rfl
theorem z72 (w:Nat) (hw:w≤1000000):z4e (w:Int)=true:=by
 have h1 : -(4611686018427387904:Int)≤(w:Int):=by omega
 have h2:(w:Int) < 4611686018427387904:=by omega
 unfold z4e
 rw [Ws]
 exact ⟨decide_eq_true h1,decide_eq_true h2⟩
theorem zbd (j:Int) (hs:z4e j=true) (δ:Dl):rng (.pure (.int j)) δ = .ok (z0n 0 j.toNat) δ:=by unfold rng; simp only [hs,if_true]
theorem z2L (w:Nat) (hw:w≤1000000) (δ:Dl):rng (.pure (.int w)) δ = .ok (z0n 0 w) δ:=by
 have:=zbd (w:Int) (z72 w hw) δ
 rwa [WT] at this
theorem z2f (h:(z0n 0 n)[i]? = some d):i < n∧d = .int (i:Int):=by
 unfold z0n at h
 rw [Wu] at h
 by_cases hi:i < n
 ·rw [List.getElem?_range hi] at h
  simp at h
  exact ⟨hi,h.symm⟩
 ·rw [WB (by simpa using hi)] at h
  cases h
theorem z3i (h:d ∈ z0n 0 n):∃ i:Nat,i < n∧d = .int (i:Int):=by
 obtain ⟨i,hi⟩:=Qo h
 exact ⟨i,z2f hi⟩
@[simp] theorem z5g (lo:Int) (n:Nat):(z0n lo n).length=n:=by simp [z0n]
def insN (x:Nat):List Nat→List Nat
 | []=>[x]
 | y :: r=>if y < x then y :: insN x r else x :: y :: r
def z2Y:List Nat→List Nat
 | []=>[]
 | x :: r=>insN x (z2Y r)
theorem lt1 (a b:Nat):(([a]:Tx) < [b]) ↔ a < b:=by
 constructor
 ·intro h
  cases h with
  | cons h=>cases h
  | rel h=>exact h
 ·intro h; exact List.Lex.rel h
theorem zc6 (x:Nat):∀ xs:List Nat,insT [x] (xs.map fun n=>[n])=(insN x xs).map fun n=>[n]
 | []=>rfl
 | y :: r=>by
  simp only [Wr,insT,insN]
  by_cases h:y < x
  ·rw [if_pos ((lt1 y x).mpr h),if_pos h,zc6 x r]; rfl
  ·rw [if_neg fun z=>h ((lt1 y x).mp z),if_neg h]; rfl
theorem z9v:∀ xs:List Nat,z2X (xs.map fun n=>[n])=(z2Y xs).map fun n=>[n]
 | []=>rfl
 | x :: r=>by rw [Wr,z2X,z9v r,zc6]; rfl
theorem insN_mem:∀ {xs:List Nat},y ∈ insN x xs ↔ y=x∨y ∈ xs
 | []=>by simp [insN]
 | z :: r=>by
  unfold insN
  split
  ·simp [insN_mem (xs:=r)]; constructor <;> (rintro (h | h | h) <;> simp [h])
  ·simp
theorem sortN_mem:∀ {xs:List Nat},y ∈ z2Y xs ↔ y ∈ xs
 | []=>by simp [z2Y]
 | x :: r=>by rw [z2Y,insN_mem,sortN_mem (xs:=r)]; simp
theorem z6j (x:Nat):∀ xs:List Nat,(insN x xs).length=xs.length + 1
 | []=>rfl
 | y :: r=>by unfold insN; split <;> simp [z6j x r]
theorem z4T:∀ xs:List Nat,(z2Y xs).length=xs.length
 | []=>rfl
 | x :: r=>by rw [z2Y,z6j,z4T r]; rfl
theorem z7X:∀ {xs:List Nat},xs.Pairwise (· < ·)→x ∉ xs→(insN x xs).Pairwise (· < ·)
 | [],_,_=>by simp [insN]
 | y :: r,h,hx=>by
  rw [List.pairwise_cons] at h
  simp at hx
  unfold insN
  split
  ·rename_i hl
   rw [List.pairwise_cons]
   refine ⟨fun z hz=>?_,z7X h.2 hx.2⟩
   rcases insN_mem.mp hz with rfl | hz
   ·exact hl
   ·exact h.1 z hz
  ·rename_i hl
   rw [List.pairwise_cons]
   refine ⟨fun z hz=>?_,Jf.mpr h⟩
   rcases Wj.mp hz with rfl | hz
   ·omega
   ·have:=h.1 z hz; omega
theorem z62:∀ {xs:List Nat},xs.Nodup→(z2Y xs).Pairwise (· < ·)
 | [],_=>by simp [z2Y]
 | x :: r,h=>by
  rw [List.nodup_cons] at h
  exact z7X (z62 h.2) fun z=>h.1 (sortN_mem.mp z)
theorem z77 {P:Nat→Prop}:∀ {xs:List D},(∀ x ∈ xs,∃ n,P n∧x = .str [n])→∃ row:List Nat,xs=row.map (fun n=>.str [n])∧∀ n ∈ row,P n
 | [],_=>⟨[],rfl,by simp⟩
 | x :: r,h=>by
  obtain ⟨n,hn,rfl⟩:=h x Wg
  obtain ⟨row,rfl,hr⟩:=z77 (xs:=r) fun y hy=>h y (Wb _ hy)
  exact ⟨n :: row,rfl,by simpa using ⟨hn,hr⟩⟩
theorem za8 {R:D→D→Prop} {ds xs:List D} {Q:D→Prop} (hn:xs.length=ds.length) (hf:∀ (i:Nat) d x,ds[i]? = some d→xs[i]? = some x→R d x) (hq:∀ d x,d ∈ ds→R d x→Q x):∀ x ∈ xs,Q x:=fun x hx=>by
 obtain ⟨i,hi⟩:=Qo hx
 have h1:=(W3.mp hi).1
 have h2:ds[i]? = some (ds[i]'(by omega)):=by simp [show i < ds.length by omega]
 exact hq _ x (Jo _) (hf i _ x h2 hi)
theorem z7h (w:Nat) (hw:w≤100000) (δ:Dl):rng (.pure (.int (1 + (w:Int)))) δ = .ok (z0n 0 (1 + w)) δ:=by
 have:=z2L (1 + w) (by omega) δ
 rwa [show (((1 + w:Nat):Int))=1 + (w:Int) by omega] at this
abbrev blD (b:Nat×List Tx):D:=.tup [.str [b.1],flD b.2]
abbrev ruD (h w:Nat) (bs:List (Nat×List Tx)):D:=.tup [.int h,.int w,.tup (bs.map blD)]
structure Rul (h w:Nat) (bs:List (Nat×List Tx)):Prop where
 h0:0 < h
 h1:h≤4
 w0:0 < w
 w1:w≤4
 hw:2 < h + w
 n0:0 < bs.length
 n1:bs.length≤26
 up:(bs.map (·.1)).Pairwise (· < ·)
 let':∀ b ∈ bs,97≤b.1∧b.1≤122
 blk:∀ b ∈ bs,b.2.length=h∧∀ r ∈ b.2,r.length=w∧∀ n ∈ r,n ∈ bs.map (·.1)
theorem z0k (f F:A→D) (δ:Dl):∀ (as:List A) (acc:List D),acc.length + as.length≤W9 →
  (∀ a ∈ as,∃ δ1 δ2 x δ3,g (.pure (f a)) δ=some δ1∧t δ1 = .ok true δ2∧el δ2 = .ok x δ3∧clrD cs δ3=δ∧x.d=F a)→z0L cs g t el (as.map f) δ acc = .ok (acc ++ as.map F) δ
 | [],acc,_,_=>by simp [z0L]
 | a :: r,acc,hl,hs=>by
  obtain ⟨δ1,δ2,x,δ3,e1,e2,e3,e4,e5⟩:=hs a Wg
  have hl':acc.length < W9:=by simp at hl; omega
  have ih:=z0k (cs:=cs) (g:=g) (t:=t) (el:=el) f F δ r (acc ++ [x.d]) (by simp at hl ⊢; omega) (fun a ha=>hs a (Wb _ ha))
  rw [Wr]
  unfold z0L
  rw [e1]
  rw [e5] at ih
  simp only [e2,z1b,if_true,e3,if_pos hl',e4,e5,ih]
  simp
end DV
set_option maxHeartbeats 400000
namespace L2
open PySem PySem.Spec PyProof.Rows PySem.W DV SU
section
variable {X:Cx}
end
end L2
namespace DV
open PySem PySem.Spec PyProof.Rows L2 SU
section
variable {X:Cx} {c:Fc} {e:Expr} {fb:BE} {pp pos ps1 ps2:Pos}
end
end DV
namespace PySem
end PySem
namespace L2
open PySem PySem.Spec PyProof.Rows
section
variable {X:Cx} {o:Expr} {apos cpos:Pos} {elts:List Expr} {ctx:Nat} {tp:Pos} {td:TE}
end
end L2
namespace DV
open PySem PySem.Spec PyProof.Rows L2
section
variable {X:Cx} {c:Fc} {o:Expr} {i:Nat} {apos cpos:Pos} {elts:List Expr} {ctx:Nat} {tp:Pos}
end
end DV
namespace L2
open PySem PySem.Spec PyProof.Rows
section
variable {X:Cx}
def zbm (K:W1):R2:=fun x y H Q=>∃ l k xs,x = .ref l∧y = .int k∧SqL K H l xs∧xs≠[]∧0≤k∧k≤1000∧xs.length≤1000∧∀ p,H p=none→Q (.ref p) (upd H p (.lst (W4 k.toNat xs).flatten))
theorem z7B:OpR X (WY .Mult) (zbm X.K):=by
 intro pins s σ H x y v u Q I rx ry h
 obtain ⟨l,k,xs,rfl,rfl,hH,hne,h1,h2,hz,q⟩:=h
 cases rx
 obtain ⟨t,rfl⟩:=ry
 obtain ⟨its,r,pl,hl⟩:=I.list hH
 obtain ⟨⟨cls,dd,data,sl⟩,ho,hc,n,hd⟩:=pl.isList
 simp only at hc hd
 subst hc hd
 have hlen:its.toArray.size=xs.length:=by rw [Wi]; exact r.length.symm
 have hem:its.toArray.isEmpty=false:=by
  cases its with
  | nil=>exact absurd (r.nil_iff.mp rfl) hne
  | cons a b=>rfl
 have hline:W9=16777216:=rfl
 have hp1:xs.length * k.toNat≤1000000:=by
  have:xs.length * k.toNat≤1000 * 1000:=Nat.mul_le_mul hz (by omega)
  omega
 have hfold:List.foldl (fun x1 x2=>x1 ++ x2) #[] (W4 k.toNat its.toArray)=(W4 k.toNat its).flatten.toArray:=by
  have:=z3U its k.toNat []
  rw [WF] at this
  exact this
 refine wpAny_binaryOp_repeat_ref (T:="list") (U:="int") (by decide) ⟨_,ho,rfl⟩ (fun s'=>QK s' k t) noFill_list_mul F.fills_int_mul F.slot_int_rmul repeat_list F.slot_int_index.lookup
  (call_meets F.slot_int_rmul (QK s k t) F.entry_int_rmul (F.args_int_rmul_2 _ _) (lm_int_rmul_list_any k t l its.toArray n dd sl)
   ⟨ho,rfl,⟨_,ho,rfl⟩,call_meets F.slot_list_mul ⟨_,ho,rfl⟩ F.entry_list_mul (F.args_list_mul_2 _ _) (lm_list_mul_any l its.toArray n dd sl k t ?_ ?_ ?_) ⟨ho,?_⟩⟩)
 ·unfold Builtin.List.listFitsIndex
  simp
  omega
 ·rw [hlen]; omega
 ·rw [hlen]
  unfold Builtin.List.listTooLong
  simp only [hline,decide_eq_true_eq]
  omega
 ·rw [if_neg (by rw [hem]; exact Qd),hfold]
  have I1:Inv X pins σ (upd H s.heap.objs.size (.lst (W4 k.toNat xs).flatten)) { s with heap:=s.heap.push { cls:=.type "list",data:=.seq (W4 k.toNat its).flatten.toArray } } :=
   I.laid (t':=s.toks) (fun b o e=>Wd _ e) (Wf _) (show ObjOk X.prog X.w _ _ _ (.lst (W4 k.toNat xs).flatten) from ⟨by rw [z4G,QT]; omega,(W4 k.toNat its).flatten,0,r.rep k.toNat,Wn _ rfl⟩)
  exact ⟨.ref _,_,I1,rfl,q _ (I.hok.fresh (Wf _))⟩
end
end L2
namespace DV
open PySem PySem.Spec PyProof.Rows L2
def z2P:D→D→Option S
 | .lst xs,.int k=>if 0≤k∧k≤1000∧0 < xs.length∧xs.length≤1000 then some (.own (.lst (W4 k.toNat xs).flatten)) else none
 | _,_=>none
theorem z7F {K:W1}:Op2 (zbm K) z2P:=by
 intro c σ δ H x y d e s Q k rx ry hp q
 cases d <;> cases e <;> first | (simp [z2P] at hp; done) | skip
 rename_i ds n
 simp only [z2P] at hp
 split at hp
 ·rename_i h
  cases hp
  obtain ⟨a,vs,ex,ha,r⟩:=rx.lst
  refine ⟨a,n,vs,ex,ry.int,.inl ha,?_,h.1,h.2.1,by rw [r.1]; exact h.2.2.2,fun p hp'=>?_⟩
  ·intro z
   rw [z] at r
   have:=r.1
   simp at this
   omega
  ·exact q _ _ (.alloc k hp' _) (RepS.newL k (Reps.rep r _) hp')
 ·cases hp
end DV
namespace L2
open PySem PySem.Spec PyProof.Rows
theorem Inv.adopt (I:Inv X pins σ H s) (hf:FpOk X pins H b) (new:ObjOk X.prog X.w (upd H b o) s.heap b o):Inv X pins σ (upd H b o) s:=by
 obtain ⟨hn,f1,f2,f3,f4,f5⟩:=hf
 have ne:∀ {c u},H c=some u→c≠b:=fun e=>z0D e hn
 refine I.step (g':=s.gens) (d':=s.drawn) (t':=s.toks) (h':=s.heap) (ch:=[b]) (fun c hc=>?_) (fun c u _ _ _ e _=>e) (fun c u _ _ _ e _=>⟨u.slots,e⟩) (fun c u hc _ e=>?_) (fun c u _ e=>⟨u,e⟩) (fun c xs e=>by rw [z09 (ne e)]; exact e) (fun c u xs e=>by rw [z09 (ne e)]; exact e)
  (fun c ps e=>⟨#[],by rw [z09 (ne e),e]; simp⟩) (fun m h=>h) (fun c u e=>?_) I.bare
 ·have z:c=b:=by simpa using hc
  subst z
  exact ⟨f3,f1,f4,f5⟩
 ·rw [z09 fun z=>hc (by simp [z])]
  exact e
 ·by_cases hb:c=b
  ·subst hb
   rw [z0G] at e
   cases e
   exact new
  ·rw [z09 hb] at e
   exact (I.hok c u e).stay (fun _ _ _ q=>q) (fun _ q=>by rw [z09 (ne q)]; exact q) fun _ _ q=>by rw [z09 (ne q)]; exact q
def layP (H:Hp):List Addr→List V→List V→Hp
 | a :: as,x :: xs,y :: ys=>layP (upd H a (.tup [x,y])) as xs ys
 | _,_,_=>H
theorem z5P:∀ {as:List Addr} {xs ys:List V} {H:Hp},b ∉ as→layP H as xs ys b=H b
 | [],_,_,_,_=>rfl
 | _ :: _,[],_,_,_=>rfl
 | _ :: _,_ :: _,[],_,_=>rfl
 | a :: as,x :: xs,y :: ys,H,h=>by
  have h1:b≠a:=fun z=>h (by simp [z])
  have h2:b ∉ as:=fun z=>h (by simp [z])
  unfold layP
  rw [z5P h2,z09 h1]
theorem z6q (hf:∀ (H':Hp) b,n≤b→H' b=none→FpOk X pins H' b):∀ (as:List Addr) (xs ys:List V) (H:Hp),Inv X pins σ H s→as.Nodup→(∀ a ∈ as,n≤a∧H a=none) →
  (∀ (j:Nat) a,as[j]? = some a→∃ x y u v,xs[j]? = some x∧ys[j]? = some y∧RelV x u∧RelV y v∧IsPair s.heap a u v)→Inv X pins σ (layP H as xs ys) s
 | [],xs,ys,H,I,_,_,_=>I
 | a :: as,xs,ys,H,I,nd,hn,hp=>by
  obtain ⟨x,y,u,v,e1,e2,r1,r2,t⟩:=hp 0 a rfl
  cases xs with
  | nil=>simp at e1
  | cons x' xs =>
   cases ys with
   | nil=>simp at e2
   | cons y' ys =>
    simp at e1 e2
    subst e1 e2
    unfold layP
    obtain ⟨h1,h2⟩:=hn a Wg
    refine z6q hf as xs ys _ (I.adopt (hf H a h1 h2) ⟨by simp only [WN,List.length_nil]; rw [QZ]; decide,[u,v],.cons r1 (.cons r2 .nil),⟨0,t⟩⟩) (WV.mp nd).2 (fun b hb=>?_) fun j b e=>hp (j + 1) b (by simpa using e)
    obtain ⟨q1,q2⟩:=hn b (Wb _ hb)
    refine ⟨q1,?_⟩
    rw [z09 fun z=>(WV.mp nd).1 (by rw [← z]; exact hb)]
    exact q2
section
variable {X:Cx} {a b:Expr} {ta:TA} {pp pos pp1 pos1:Pos}
theorem vals_refs:∀ as:List Addr,Vals (as.map V.ref) (as.map Value.ref)
 | []=>.nil
 | a :: as=>.cons rfl (vals_refs as)
end
end L2
namespace DV
open PySem PySem.Spec PyProof.Rows L2
theorem z6f:∀ {as:List Addr} {xs ys:List V} {ds es:List D} {H:Hp},Ok c σ δ H→as.Nodup→(∀ a ∈ as,H a=none)→as.length=xs.length→Reps H (Av c σ δ) xs ds→Reps H (Av c σ δ) ys es→xs.length=ys.length →
  Aft c σ δ H σ δ (layP H as xs ys)∧Reps (layP H as xs ys) (Av c σ δ) (as.map V.ref) (zipD ds es)
 | [],xs,ys,ds,es,H,k,_,_,hl,r1,r2,_=>by
  cases xs with
  | cons x xs=>simp at hl
  | nil =>
   have:ds=[]:=by
    have:=r1.1
    simp at this
    exact List.length_eq_zero_iff.mp this.symm
   subst this
   exact ⟨.refl k,Reps.nil⟩
 | a :: as,xs,ys,ds,es,H,k,nd,hn,hl,r1,r2,hl2=>by
  cases xs with
  | nil=>simp at hl
  | cons x xs =>
   cases ys with
   | nil=>simp at hl2
   | cons y ys =>
    cases ds with
    | nil=>have:=r1.1; simp at this
    | cons d ds =>
     cases es with
     | nil=>have:=r2.1; simp at this
     | cons e es =>
      unfold layP
      have ha:=hn a Wg
      have al:Aft c σ δ H σ δ (upd H a (.tup [x,y])):=.alloc k ha _
      have t:Rep (upd H a (.tup [x,y])) (Av c σ δ) (.ref a) (.tup [d,e]):=RepS.newT k (Reps.two r1.head r2.head) ha
      have up:∀ b o,H b=some o→¬ Av c σ δ b→upd H a (.tup [x,y]) b=some o:=fun b o h _=>by rw [z09 (z0D h ha)]; exact h
      obtain ⟨h1,h2⟩:=z6f (as:=as) (xs:=xs) (ys:=ys) (ds:=ds) (es:=es) al.ok (WV.mp nd).2 (fun b hb=>by
       rw [z09 fun z=>(WV.mp nd).1 (by rw [← z]; exact hb)]
       exact hn b (Wb _ hb)) (by simpa using hl) (Reps.keep r1.tail up) (Reps.keep r2.tail up) (by simpa using hl2)
      exact ⟨al.trans h1,.cons (Rep.aft t h1) h2⟩
section
variable {X:Cx} {c:Fc} {a b:Expr} {f g:DE} {pp pos pp1 pos1:Pos}
end
section
variable {c:Fc} {σ σ':St} {δ δ':Dl} {H H':Hp} {i:Nat} {a p d:Addr} {dd:D}
theorem z6o (e:δ[i]? = some (some (.own dd))) (ea:σ[i]? = some (some (.ref a))) (b:Addr) (z:Av (c.park i a) σ (δ.set i none) b):Av c σ δ b:=by
 rcases z with (z | z) | z
 ·exact .inl z
 ·subst z; exact .inr ⟨i,_,e,ea⟩
 ·exact .inr z.unset
theorem Ok.parkD (k:Ok c σ δ H) (e:δ[i]? = some (some (.own dd))) (ea:σ[i]? = some (some (.ref a))):Ok (c.park i a) σ (δ.set i none) H:=by
 have sub:=z6o (c:=c) e ea
 have ne:∀ j d,(δ.set i none)[j]? = some (some d)→i≠j∧δ[j]? = some (some d):=fun j d q=>by
  by_cases hj:i=j
  ·subst hj
   rw [Wm (W3.mp e).1] at q; cases q
  ·rw [W8 hj] at q; exact ⟨hj,q⟩
 refine ⟨fun b o h n=>k.keep b o h fun ⟨j,z⟩=>n ⟨j,Wb _ z⟩,fun b z=>?_,fun b ⟨j,z⟩=>?_,by rw [Q6]; exact k.len,fun j d q=>?_,fun j d q=>?_,fun j l b d d' q1 q2=>?_,fun p hp=>?_⟩
 ·rcases z with z | z
  ·exact k.bd b z
  ·subst z; exact k.othere ⟨i,_,e,ea⟩
 ·rcases Wj.mp z with z | z
  ·cases z; exact k.othere ⟨i,_,e,ea⟩
  ·exact k.ith b ⟨j,z⟩
 ·obtain ⟨_,q⟩:=ne j _ q
  obtain ⟨v,g1,g2⟩:=k.slot j d q
  exact ⟨v,g1,g2.anti fun b z=>.inl (sub b z)⟩
 ·obtain ⟨hj,q⟩:=ne j _ q
  obtain ⟨b,g1,g2,g3,g4⟩:=k.own j d q
  refine ⟨b,g1,g2.anti fun b z=>.inl (sub b z),g3.imp (fun ⟨l,z⟩=>⟨l,Wb _ z⟩) id,fun z=>?_⟩
  rcases z with z | z
  ·exact g4 z
  ·subst z; exact hj (k.inj i j b _ _ e q ea g1)
 ·exact k.inj j l b d d' (ne j _ q1).2 (ne l _ q2).2
 ·rcases Wj.mp hp with z | z
  ·subst z; exact ea
  ·exact k.pinned p z
theorem z3H {O:Addr→Prop} {u:HO} (hO:O a):∀ b o,H b=some o→¬ O b→upd H a u b=some o:=fun b o h n=>by
 rw [z09 fun z=>n (by rw [z]; exact hO)]
 exact h
theorem Ok.poke (k:Ok c σ δ H) (hB:c.B a) (h0:c.I a∨c.H₀ a=none):Ok c σ δ (upd H a u):=by
 have kp:∀ b o,H b=some o→¬ Av c σ δ b→upd H a u b=some o:=z3H (.inl hB)
 have th:∀ b o,H b=some o→∃ o',upd H a u b=some o':=fun b o h=>by
  by_cases hb:b=a
  ·subst hb; exact ⟨u,z0G⟩
  ·exact ⟨o,by rw [z09 hb]; exact h⟩
 refine ⟨fun b o h n=>?_,fun b z=>(k.bd b z).elim fun o h=>th b o h,fun b z=>(k.ith b z).elim fun o h=>th b o h,k.len,fun j d q=>?_,fun j d q=>?_,k.inj,k.pinned⟩
 ·have hb:b≠a:=fun z=>by
   subst z
   rcases h0 with z | z
   ·exact n z
   ·rw [z] at h; cases h
  rw [z09 hb]
  exact k.keep b o h n
 ·obtain ⟨v,g1,g2⟩:=k.slot j d q
  exact ⟨v,g1,g2.keep kp⟩
 ·obtain ⟨b,g1,g2,g3,g4⟩:=k.own j d q
  have hb:b≠a:=fun z=>g4 (by rw [z]; exact hB)
  exact ⟨b,g1,g2.keep kp fun o h=>by rw [z09 hb]; exact h,g3,g4⟩
end
structure Gh (c:Fc) (i:Nat) (p d:Addr) (σ0:St) (δ0:Dl) (H0:Hp) (ws:List (Key×V)) (ds:List (DKey×D)) (t:Tx) (σ:St) (δ:Dl) (H:Hp) (vs:List V) (xs:List D):Prop where
 ok:Ok ((c.plus p).park i d) σ δ H
 hd:H d=some (.dK (putK ws (.inr (toS t)) (.ref p)))
 hp:H p=some (.lst vs)
 rv:Reps H (Av ((c.plus p).park i d) σ δ) vs xs
 dr:DR H (Av ((c.plus p).park i d) σ δ) ws ds
 keep:∀ a o,H0 a=some o→¬ Own σ0 δ0 a→H a=some o
 own:∀ a,Own σ δ a→Own σ0 δ0 a∨H0 a=none
 there:∀ a o,H0 a=some o→∃ o',H a=some o'
section
variable {c:Fc} {i:Nat} {p d:Addr} {σ0 σ σ':St} {δ0 δ δ':Dl} {H0 H H':Hp} {ws:List (Key×V)} {ds:List (DKey×D)} {t:Tx} {vs vs':List V} {xs xs':List D}
theorem z7I (k:Ok c σ δ H) (h:c.B a):¬ Own σ δ a:=fun ⟨j,e,f1,f2⟩=>by
 obtain ⟨b,g1,_,_,g4⟩:=k.own j e f1
 rw [f2] at g1
 cases g1
 exact g4 h
theorem Gh.aft (g:Gh c i p d σ0 δ0 H0 ws ds t σ δ H vs xs) (x:Aft ((c.plus p).park i d) σ δ H σ' δ' H'):Gh c i p d σ0 δ0 H0 ws ds t σ' δ' H' vs xs:=by
 have nd:¬ Own σ δ d:=z7I g.ok (.inr rfl)
 have np:¬ Own σ δ p:=z7I g.ok (.inl (.inr rfl))
 refine ⟨x.ok,x.keep _ _ g.hd nd,x.keep _ _ g.hp np,Reps.aft g.rv x,g.dr.map fun v d h=>Rep.aft h x,fun a o e n=>x.keep a o (g.keep a o e n) fun z=>?_,fun a z=>?_,fun a o e=>?_⟩
 ·rcases g.own a z with q | q
  ·exact n q
  ·rw [q] at e; cases e
 ·rcases x.own a z with q | q
  ·exact g.own a q
  ·refine .inr ?_
   cases h:H0 a with
   | none=>rfl
   | some o =>
    obtain ⟨o',e⟩:=g.there a o h
    rw [q] at e; cases e
 ·obtain ⟨o',e'⟩:=g.there a o e
  exact x.there a o' e'
theorem Gh.poke (g:Gh c i p d σ0 δ0 H0 ws ds t σ δ H vs xs) (h0:H0 p=none) (h1:c.H₀ p=none) (npd:d≠p) (r:Reps H (Av ((c.plus p).park i d) σ δ) vs' xs'):Gh c i p d σ0 δ0 H0 ws ds t σ δ (upd H p (.lst vs')) vs' xs':=by
 have hB:((c.plus p).park i d).B p:=.inl (.inr rfl)
 have kp:∀ b o,H b=some o→¬ Av ((c.plus p).park i d) σ δ b→upd H p (.lst vs') b=some o:=z3H (.inl hB)
 refine ⟨g.ok.poke hB (.inr h1),by rw [z09 npd]; exact g.hd,z0G,Reps.keep r kp,g.dr.map fun v d h=>h.keep kp,fun a o e n=>?_,g.own,fun a o e=>?_⟩
 ·rw [z09 fun z=>by rw [z,h0] at e; cases e]
  exact g.keep a o e n
 ·by_cases ha:a=p
  ·subst ha; exact ⟨_,z0G⟩
  ·rw [z09 ha]; exact g.there a o e
theorem Gh.done (g:Gh c i p d σ0 δ0 H0 ws ds t σ δ H vs xs) (hI:c.I d∨c.H₀ d=none) (nB:¬ c.B d) (hO:Own σ0 δ0 d) (nBp:¬ c.B p) (npd:d≠p) :
  Aft c σ0 δ0 H0 σ (δ.set i (some (.own (.dct (putD ds (.inr t) (.lst xs)))))) H:=by
 have k':=g.ok
 have ea':σ[i]? = some (some (.ref d)):=k'.pinned (i,d) Wg
 have hi':i < δ.length:=by rw [k'.len]; exact (W3.mp ea').1
 generalize hD:putD ds (.inr t) (.lst xs)=dz
 have ne:∀ j e,(δ.set i (some (.own (.dct dz))))[j]? = some (some e)→(j=i∧e = .own (.dct dz))∨(i≠j∧δ[j]? = some (some e)):=fun j e q=>by
  by_cases hj:i=j
  ·subst hj
   rw [Wm hi'] at q
   cases q; exact .inl ⟨rfl,rfl⟩
  ·rw [W8 hj] at q; exact .inr ⟨hj,q⟩
 have own:∀ b,Own σ (δ.set i (some (.own (.dct dz)))) b→b=d∨Own σ δ b:=fun b ⟨j,e,q1,q2⟩=>by
  rcases ne j _ q1 with ⟨z,_⟩ | ⟨_,z⟩
  ·subst z; rw [ea'] at q2; cases q2; exact .inl rfl
  ·exact .inr ⟨j,e,z,q2⟩
 have sub:∀ b,Av c σ (δ.set i (some (.own (.dct dz)))) b→Av ((c.plus p).park i d) σ δ b:=fun b z=>by
  rcases z with z | z
  ·exact .inl (.inl (.inl z))
  ·rcases own b z with z | z
   ·exact .inl (.inr z)
   ·exact .inr z
 have nBd:∀ (j:Nat) (e:D) (b:Addr),δ[j]? = some (some (.own e))→σ[j]? = some (some (.ref b))→b≠d:=fun j e b q1 q2 z=>by
  obtain ⟨b',g1,_,_,g4⟩:=k'.own j e q1
  rw [q2] at g1; cases g1
  exact g4 (.inr z)
 have np:¬ Av c σ (δ.set i (some (.own (.dct dz)))) p:=fun z=>by
  rcases z with z | z
  ·exact nBp z
  ·rcases own p z with z | z
   ·exact npd z.symm
   ·exact z7I k' (.inl (.inr rfl)) z
 have an:∀ {v e},Rep H (Av ((c.plus p).park i d) σ δ) v e→Rep H (Av c σ (δ.set i (some (.own (.dct dz))))) v e:=fun r=>r.anti fun b z=>.inl (sub b z)
 refine ⟨⟨fun b o h n=>?_,fun b z=>k'.bd b (.inl (.inl z)),fun b ⟨j,z⟩=>k'.ith b ⟨j,Wb _ z⟩,by rw [Q6]; exact k'.len,fun j e q=>?_,fun j e q=>?_,fun j l b e e' q1 q2 s1 s2=>?_,fun p hp=>k'.pinned p (Wb _ hp)⟩,g.keep,fun b z=>?_,g.there⟩
 ·refine k'.keep b o h fun ⟨j,z⟩=>?_
  rcases Wj.mp z with z | z
  ·cases z
   rcases hI with f3 | f3
   ·exact n f3
   ·rw [show c.H₀ d=some o from h] at f3; cases f3
  ·exact n ⟨j,z⟩
 ·rcases ne j _ q with ⟨_,z⟩ | ⟨_,q⟩
  ·cases z
  ·obtain ⟨v,g1,g2⟩:=k'.slot j e q
   exact ⟨v,g1,an g2⟩
 ·rcases ne j _ q with ⟨z,z'⟩ | ⟨hj,q⟩
  ·subst z; cases z'
   have rl:Rep H (Av c σ (δ.set j (some (.own (.dct dz))))) (.ref p) (.lst xs):=.lst np (.inl g.hp) g.rv.1 fun n v e e1 e2=>an (g.rv.2 n v e e1 e2)
   have dr:=(g.dr.map fun v e h=>an h).put (k:=.inr t) rl
   rw [hD] at dr
   exact ⟨d,ea',⟨_,g.hd,dr.keys,dr.vals⟩,hI,nB⟩
  ·obtain ⟨b,g1,g2,g3,g4⟩:=k'.own j e q
   refine ⟨b,g1,g2.anti fun b z=>.inl (sub b z),g3.imp (fun ⟨l,z⟩=>?_) id,fun z=>g4 (.inl (.inl z))⟩
   rcases Wj.mp z with z | z
   ·cases z; exact absurd (.inr rfl) g4
   ·exact ⟨l,z⟩
 ·rcases ne j _ q1 with ⟨z,_⟩ | ⟨hj,z1⟩ <;> rcases ne l _ q2 with ⟨z',_⟩ | ⟨hl,z2⟩
  ·rw [z,z']
  ·subst z; rw [ea'] at s1; cases s1; exact absurd rfl (nBd l _ _ z2 s2)
  ·subst z'; rw [ea'] at s2; cases s2; exact absurd rfl (nBd j _ _ z1 s1)
  ·exact k'.inj j l b e e' z1 z2 s1 s2
 ·rcases own b z with z | z
  ·subst z; exact .inl hO
  ·exact g.own b z
end
def tabL (j m:Nat) (t:Tx) (g:DG) (b:DS):Tx→List D→Dl→Rs (List D)
 | [],xs,δ=>.ok xs δ
 | ch :: r,xs,δ=>match g (.pure (.str [ch])) δ with
  | none=>.stuck
  | some δ1=>(b δ1).bind fun fl δ2=>match fl,δ2[j]?,δ2[m]? with
   | .next,some (some (.pure (.str t'))),some (some (.pure (.int n)))=>if t'=t∧0≤n then match xs[n.toNat]? with
    | some (.int q)=>tabL j m t g b r (xs.set n.toNat (.int (q + 1))) δ2
    | _=>.stuck else .stuck
   | _,_,_=>.stuck
def dTab (i j m:Nat) (f1 fi:DE) (g:DG) (b:DS):DS:=fun δ=>if z6i δ i then (f1 δ).bind fun r δ1=>match r,δ1[i]?,δ1[j]? with
 | .own (.lst xs),some (some (.own (.dct ds))),some (some (.pure (.str t)))=>if ds.length < W9 then
   (fi (δ1.set i none)).bind fun z δ2=>match z with
    | .pure (.str tx)=>(tabL j m t g b tx xs δ2).bind fun xs' δ3=>.ok .next (δ3.set i (some (.own (.dct (putD ds (.inr t) (.lst xs'))))))
    | _=>.stuck
   else .stuck
 | _,_,_=>.stuck else .stuck
section
variable {X:Cx} {c:Fc}
def tBump (K:W1) (i j m:Nat):TS :=
 tAsg (tOp (rI0 fun i j=>.int (i + j)) (tOp (rIx K) (tOp rIxD (tVar i) (tVar j)) (tVar m)) (tC (.int 1))) (gSub (tOp rIxD (tVar i) (tVar j)) (tVar m) zbj)
theorem zb4 {i j m:Nat} {o1 o2 o3 x1 x2 x3 y2 y3 e1 iter tg:Expr} {st:Stmt} {rest:List Stmt} {f1 fi:DE} {g:DG} {b fr:DS} {p1 p2 p3 p4 p5 p6 p7 p8 p9 p10:Pos} {jj}
  (hu:X.A.units + 64 < QO) (hp:PassesOwn (model X.prog X.w) X.A X.env X.xe) (hc:X.calm=true)
  (ho1:PE X o1 (tVar i)) (hx1:PE X x1 (tVar j)) (he:SE X c e1 f1)
  (ho2:PE X o2 (tVar i)) (hx2:PE X x2 (tVar j)) (hy2:PE X y2 (tVar m)) (ho3:PE X o3 (tVar i)) (hx3:PE X x3 (tVar j)) (hy3:PE X y3 (tVar m))
  (hi:∀ p d,SE X ((c.plus p).park i d) iter fi) (hg:∀ p d,SG X ((c.plus p).park i d) tg g) (hb:∀ p d,SS X ((c.plus p).park i d) st b) (hr:SSs X c rest fr)
  (n2:z3c x2) (n3:z3c x3) (m2:z3c y2)
  (hs1:Jc e1 (some (.Subscript o1 x1 p1)) p2.line X.env=pure false:=by rfl)
  (hs2:∀ x,Qq iter X.env x=pure x:=by intro _; rfl)
  (ha:∀ v,assign (.Subscript (.Subscript o3 x3 p7) y3 p8) X.env v=(do
   let ov ← holding [v] (eval (.Subscript o3 x3 p7) X.env)
   let iv ← holding [v,ov] (eval y3 X.env)
   standAt p8
   holding [v,ov,iv] (setItem ov iv v)
   release [v,ov,iv] []):=by intro _; rfl)
  (hs3:swapsWithSole [.Subscript (.Subscript o3 x3 p7) y3 p8] (.BinOp (.Subscript (.Subscript o2 x2 p3) y2 p4) .Add (.Constant (.int 1) jj p5) p6) p9.line X.env=pure false:=by rfl)
  (hw3:swappedStores [.Subscript (.Subscript o3 x3 p7) y3 p8] (.BinOp (.Subscript (.Subscript o2 x2 p3) y2 p4) .Add (.Constant (.int 1) jj p5) p6) X.env=pure none:=by rfl)
  (h1:(WS [.Subscript (.Subscript o3 x3 p7) y3 p8] X.env).map (·.2)=[assign (.Subscript (.Subscript o3 x3 p7) y3 p8) X.env]:=by rfl) :
  SSs X c (.Assign [.Subscript o1 x1 p1] e1 p2 :: .For tg iter [st,.Assign [.Subscript (.Subscript o3 x3 p7) y3 p8] (.BinOp (.Subscript (.Subscript o2 x2 p3) y2 p4) .Add (.Constant (.int 1) jj p5) p6) p9] [] p10 :: rest) (dSeq (dTab i j m f1 fi g b) fr):=by
 have hbump:PS X (.Assign [.Subscript (.Subscript o3 x3 p7) y3 p8] (.BinOp (.Subscript (.Subscript o2 x2 p3) y2 p4) .Add (.Constant (.int 1) jj p5) p6) p9) (tBump X.K i j m) :=
  z7q (zal op_add (z7w z0K (z7w (z5Q hu) ho2 hx2 n2) hy2 m2) z9E) (z9C (z7w (z5Q hu) ho3 hx3 n3) hy3 z66 ha) hs3 hw3 h1
 refine PSs.weak (z3u (zai (by omega) ho1 hx1 he hs1) (z3u (z9A hp hc (z7s (tl:=fun σ H Q=>∃ p d,tD ((c.plus p).park i d) fi σ H Q) fun pins s σ H Q I ⟨p,d,q⟩=>hi p d pins s σ H Q I q)
  (g:=fun v σ H Q=>∃ p d,tGD ((c.plus p).park i d) g v σ H Q) (fun pins s σ H v u Q I r ⟨p,d,q⟩=>hg p d pins s σ H v u Q I r q)
  (z3u (t:=fun D σ H=>∃ p d,tDS ((c.plus p).park i d) b D σ H) (fun pins s σ H D I ⟨p,d,q⟩=>hb p d pins s σ H D I q) (z7p hbump)) hs2) hr)) fun D σ H ⟨δ,k,q⟩=>?_
 unfold dSeq dTab z2c at q
 rw [z01] at q
 split at q
 case isFalse=>exact q.elim
 rename_i hown
 obtain ⟨ds0,e0⟩:=z7T hown
 obtain ⟨d,ed,_,hI,nB⟩:=k.own i _ e0
 have hO:Own σ δ d:=⟨i,_,e0,ed⟩
 rw [z01] at q
 refine ⟨δ,k,z00 q fun r δ1 q1 v H1 a1 r1=>?_⟩
 split at q1
 case h_2=>exact q1.elim
 rename_i xs ds t eI eJ
 split at q1
 case isFalse=>exact q1.elim
 rename_i hlen
 obtain ⟨p,ev,⟨vs,hvs,rvs⟩,nBp,hp0,kp1,hHp⟩:=r1
 subst ev
 obtain ⟨d',ed',⟨ws,hws,hkeys,hvals⟩,hI',nB'⟩:=kp1.own i _ eI
 rw [ed] at ed'
 cases ed'
 obtain ⟨vt,et,rt⟩:=a1.ok.slot j _ eJ
 cases rt
 have npd:d≠p:=fun z=>by
  obtain ⟨o,e⟩:=k.othere hO
  rw [z,hHp] at e
  cases e
 have dr1:DR H1 (Av (c.plus p) σ δ1) ws ds:=DR.of hkeys hvals
 have hwl:ws.length < W9:=by
  have:ws.length=ds.length:=by simpa using congrArg List.length hkeys
  omega
 refine ⟨.ref d,ed,.str (toS t),et,d,_,rfl,DPut.k (k:=.inr (toS t)) hws hwl,?_⟩
 have av:=z6o (c:=c.plus p) eI ed
 have hBd:((c.plus p).park i d).B d:=.inr rfl
 have kpk:∀ b o,H1 b=some o→¬ Av ((c.plus p).park i d) σ (δ1.set i none) b→upd H1 d (.dK (putK ws (.inr (toS t)) (.ref p))) b=some o:=z3H (.inl hBd)
 have up:∀ {v e},Rep H1 (Av (c.plus p) σ δ1) v e→Rep (upd H1 d (.dK (putK ws (.inr (toS t)) (.ref p)))) (Av ((c.plus p).park i d) σ (δ1.set i none)) v e:=fun r=>(r.anti fun b z=>.inl (av b z)).keep kpk
 have G0:Gh c i p d σ δ H ws ds t σ (δ1.set i none) (upd H1 d (.dK (putK ws (.inr (toS t)) (.ref p)))) vs xs:=by
  refine ⟨(kp1.parkD eI ed).poke hBd (.inl ⟨i,Wg⟩),z0G,by rw [z09 npd.symm]; exact hvs,⟨rvs.1,fun n v e e1 e2=>up (rvs.2 n v e e1 e2)⟩,dr1.map fun v e h=>up h,fun a o e n=>?_,fun a z=>?_,fun a o e=>?_⟩
  ·rw [z09 fun z=>n (by rw [z]; exact hO)]
   exact a1.keep a o e n
  ·exact a1.own a z.unset
  ·obtain ⟨o',e'⟩:=a1.there a o e
   by_cases ha:a=d
   ·subst ha; exact ⟨_,z0G⟩
   ·exact ⟨o',by rw [z09 ha]; exact e'⟩
 rw [z01] at q1
 refine ⟨p,d,δ1.set i none,G0.ok,?_⟩
 have q1':post ((c.plus p).park i d) (fi (δ1.set i none)) _:=q1
 refine z00 q1' fun z δ2 q2 u H2 a2 r2=>?_
 split at q2
 case h_2=>exact q2.elim
 rename_i tx
 cases r2
 have G2:=G0.aft a2
 rw [z01] at q2
 refine .inr (.inr ⟨toS tx,rfl,?_⟩)
 have hsz:(toS tx).cps.size=tx.length:=by simp [toS]
 refine ⟨fun n mm σ2 H2=>∃ δ2 vs2 xs2,mm=tx.length - n∧n≤tx.length∧Gh c i p d σ δ H ws ds t σ2 δ2 H2 vs2 xs2∧post c (tabL j m t g b (tx.drop n) xs2 δ2) (fun xs' δ3=>post c (Rs.ok (α:=Fl) .next (δ3.set i (some (.own (.dct (putD ds (.inr t) (.lst xs'))))))) fun fl δ4=>post c (match fl with | .next=>fr δ4 | fl=>.ok fl δ4) fun fl δ'=>∀ σ' H',Aft c σ δ H σ' δ' H'→fin c D σ' δ' H' fl),⟨tx.length,δ2,vs,xs,by simp,QB _,G2,by rw [List.drop_zero]; exact q2⟩,?_⟩
 rintro n mm σ2 H2 ⟨δ2,vs2,xs2,rfl,hn,G,q3⟩
 by_cases hlt:n < tx.length
 ·right
  refine ⟨by show n < (toS tx).cps.size; rw [hsz]; exact hlt,fun σ4 H4=>∃ δ4 vs4 xs4,Gh c i p d σ δ H ws ds t σ4 δ4 H4 vs4 xs4∧post c (tabL j m t g b (tx.drop (n + 1)) xs4 δ4) (fun xs' δ3=>post c (Rs.ok (α:=Fl) .next (δ3.set i (some (.own (.dct (putD ds (.inr t) (.lst xs'))))))) fun fl δ4=>post c (match fl with | .next=>fr δ4 | fl=>.ok fl δ4) fun fl δ'=>∀ σ' H',Aft c σ δ H σ' δ' H'→fin c D σ' δ' H' fl),
   fun σ4 H4 ⟨δ4,vs4,xs4,G4,q4⟩=>⟨tx.length - (n + 1),by omega,δ4,vs4,xs4,rfl,hlt,G4,q4⟩,fun x H3 ⟨eH,ch,ec,ex⟩=>?_⟩
  subst eH ex
  have ech:tx[n]=ch:=by
   have:(toS tx).cps[n]? = some tx[n]:=by simp [toS,hlt]
   rw [this] at ec
   exact Wv ec
  rw [QA hlt,ech] at q3
  unfold tabL at q3
  cases eg:g (.pure (.str [ch])) δ2 with
  | none=>rw [eg] at q3; exact q3.elim
  | some δ3 =>
   rw [eg] at q3
   refine ⟨p,d,σ2,δ2,H3,δ2,.pure (.str [ch]),δ3,.refl G.ok,.str [ch],eg,fun σ3 a3=>?_⟩
   have G3:=G.aft a3
   dsimp only at q3
   rw [z01] at q3
   refine ⟨p,d,δ3,G3.ok,?_⟩
   have q3':post ((c.plus p).park i d) (b δ3) _:=q3
   refine z00 q3' fun fl δ4 q4 σ4 H4 a4=>?_
   have G4:=G3.aft a4
   split at q4
   case h_2=>exact q4.elim
   rename_i t' nn eJ4 eM4
   split at q4
   case isFalse=>exact q4.elim
   rename_i hcond
   obtain ⟨rfl,h0⟩:=hcond
   split at q4
   case h_2=>exact q4.elim
   rename_i qv eq
   have eI4:σ4[i]? = some (some (.ref d)):=G4.ok.pinned (i,d) Wg
   obtain ⟨v1,f1',r1'⟩:=G4.ok.slot j _ eJ4
   cases r1'
   obtain ⟨v2,f2',r2'⟩:=G4.ok.slot m _ eM4
   cases r2'
   obtain ⟨v3,ev3,r3'⟩:=G4.rv.get eq
   cases r3'
   have hln:nn.toNat < vs2.length:=(W3.mp ev3).1
   have hix:ixN vs2.length nn=some nn.toNat:=by
    unfold ixN
    rw [if_pos h0,if_pos (by omega)]
   have hat:atI vs2 nn=some (.int qv):=by
    unfold atI
    rw [hix]
    exact ev3
   have hval:valV (putK ws (Sum.inr (toS t')) (.ref p)) (Sum.inr (toS t'))=some (.ref p):=by rw [z8v,if_pos rfl]
   refine ⟨.ref d,eI4,.str (toS t'),f1',d,_,.inr (toS t'),.ref p,rfl,G4.hd,rfl,hval,.int nn,f2',.inl ⟨p,vs2,nn,.int qv,rfl,rfl,.inl (.inl G4.hp),hat,qv,1,rfl,rfl,?_⟩⟩
   refine ⟨.ref d,eI4,.str (toS t'),f1',d,_,.inr (toS t'),.ref p,rfl,G4.hd,rfl,hval,.int nn,f2',p,vs2,nn,nn.toNat,rfl,rfl,G4.hp,hix,?_⟩
   exact ⟨δ4,_,_,G4.poke hHp hp0 npd (G4.rv.set (.int (qv + 1)) nn.toNat),q4⟩
 ·left
  have hn':n=tx.length:=by omega
  subst hn'
  rw [List.drop_length] at q3
  refine ⟨hsz.symm,?_⟩
  have aF:=G.done hI nB hO nBp npd
  exact ⟨_,aF.ok,z00 q3 fun fl δ' q5 σ' H' a5=>q5 σ' H' (aF.trans a5)⟩
end
section
variable {X:Cx} {c:Fc} {σ:St} {δ:Dl} {H:Hp} {x y:Nat} {a:Addr} {d:D}
end
end DV
namespace PySem.ZW
open Sem (wp)
theorem zap_of (l1 l2 n:Addr) (h1:l1 < n) (h2:l2 < n):ZipApart (n + 4) (n + 2) (n + 3) n (n + 1) l1 l2:=by
 have ne:∀ (i j:Nat),i≠j→n + i≠n + j:=fun i j h e=>h (Nat.add_left_cancel e)
 have n1:∀ i:Nat,l1≠n + i:=fun i=>Wl (Wq h1 (Qc n i))
 have n2:∀ i:Nat,l2≠n + i:=fun i=>Wl (Wq h2 (Qc n i))
 exact ⟨ne 2 4 (by decide),ne 3 4 (by decide),ne 0 4 (by decide),ne 1 4 (by decide),ne 2 3 (by decide),ne 2 0 (by decide),ne 2 1 (by decide),ne 3 0 (by decide),ne 3 1 (by decide),ne 0 1 (by decide),n1 4,n1 3,n1 0,n1 1,n2 4,n2 3,n2 0,n2 1⟩
abbrev ZipO (h:Heap) (z TI TO a:Addr) (f:Bool):Prop :=
 h.get? z=some { cls:=.type "zip",dict:=none,data:=.fields #[Qs a,.bool f,.bool false,.ref TI,.ref TO],slots:=#[] }
structure ZS (i1 i2 l1 l2:Addr) (xs ys:Array Value) (k:Nat) (h:Heap):Prop where
 i1:h.IsListIter i1 l1 k
 i2:h.IsListIter i2 l2 k
 l1:h.IsList l1 xs
 l2:h.IsList l2 ys
section
variable {prog:Wh} {w:Wo} {A:Wp} {E:Value→W2→Prop} {s:W2} {z TI TO i1 i2 l1 l2 a:Addr} {f:Bool} {oa:Obj} {k:Nat} {xs ys:Array Value} {x y:Value}
theorem zcj (ho:s.heap.get? a=some o) (h:Q (some o) s):Wa (model prog w) A (loadIfAlive a) Q E s:=by
 have h':Q (s.heap.get? a) s:=by rw [ho]; exact h
 exact fun _ _ _=>h'
theorem z3A (hz:ZipO s.heap z TI TO a f) (ha:s.heap.get? a=some oa)
  (h:∀ h',ZipO h' z TI TO a true→Jb z s.heap h'→Q false { s with heap:=h' }):Wa (model prog w) A (Wy (.ref z)) Q E s:=by
 unfold Wy
 refine W0 (WG hz rfl (x:=Qs a) rfl ?_)
 show Wa _ _ (loadIfAlive ((a:Int).toNat) >>= _) _ _ _
 rw [WT]
 refine W0 (zcj ha ?_)
 simp only [Option.isNone_some,QN,if_false]
 refine W0 (WG hz rfl (x:=.bool f) rfl ?_)
 cases f with
 | true =>
  rw [if_neg (show ¬ ((Value.bool true != Value.bool true)=true) from Qd)]
  exact W5 (h s.heap hz (Heap.SameBut.refl _ _))
 | false =>
  rw [if_pos (show (Value.bool false != Value.bool true)=true from rfl)]
  exact W0 (Qh hz (by simp) fun h₃ he₃ hs₃=>W5 (h h₃ he₃ hs₃))
theorem ZS.at {h h':Heap} (g:ZS i1 i2 l1 l2 xs ys k h) (e:∀ b o,b=i1∨b=i2∨b=l1∨b=l2→h.get? b=some o→h'.get? b=some o):ZS i1 i2 l1 l2 xs ys k h' :=
 ⟨g.i1.at fun o q=>e _ o (.inl rfl) q,g.i2.at fun o q=>e _ o (.inr (.inl rfl)) q,let ⟨o,q,r⟩:=g.l1; ⟨o,e _ o (.inr (.inr (.inl rfl))) q,r⟩,let ⟨o,q,r⟩:=g.l2; ⟨o,e _ o (.inr (.inr (.inr rfl))) q,r⟩⟩
theorem z6P {Q:Option Value→W2→Prop} (hh:A.handled=none) (D:ZipApart z TI TO i1 i2 l1 l2) (hz:ZipO s.heap z TI TO a f) (ha:s.heap.get? a=some oa) (hI:IsPair s.heap TI (.ref i1) (.ref i2)) (g:ZS i1 i2 l1 l2 xs ys k s.heap) (hx:xs[k]? = some x) (hy:ys[k]? = some y)
  (q:∀ h' tk,ZipO h' z TI TO a true→ZS i1 i2 l1 l2 xs ys (k + 1) h'→IsPair h' s.heap.objs.size x y →
   (∀ c o,c≠z→c≠i1→c≠i2→s.heap.get? c=some o→h'.get? c=some o)→Q (some (.ref s.heap.objs.size)) { s with heap:=h',toks:=tk }):Wa (model prog w) A (Qe (.ref z)) Q E s:=by
 have ty:s.TypeIs (.ref z) "zip":=⟨_,hz,rfl⟩
 have D1:=Draws.list (prog:=prog) (w:=w) (A:=A.in1) hh i1 l1 D.l1i1 xs
 have D2:=Draws.list (prog:=prog) (w:=w) (A:=A.in1) hh i2 l2 D.l2i2 ys
 have lx:k < xs.size:=(Array.getElem?_eq_some_iff.mp hx).1
 have ly:k < ys.size:=(Array.getElem?_eq_some_iff.mp hy).1
 unfold Qe
 refine W0 (QY (WH (name:=Str.ofString "__next__") ty Qn (WZ Qn ty F.entry_zip_next ?_ (Jh _))))
 show Wa _ _ (field (.ref z) 2 >>= _) _ _ _; refine W0 (WG hz rfl (x:=.bool false) rfl ?_)
 show Wa _ _ (field (.ref z) 3 >>= _) _ _ _; refine W0 (WG hz rfl (x:=.ref TI) rfl (W0 (WQ hI rfl ?_)))
 show Wa _ _ (Wy (.ref z) >>= _) _ _ _
 refine W0 (z3A hz ha fun h1 hz1 s1=>?_)
 simp only [QN,if_false]
 refine W0 ?_
 simp only [List.forIn_toArray,Qw,QS]
 have g1:ZS i1 i2 l1 l2 xs ys k h1:=g.at fun b o hb e=>s1.extBut _ _ (by
  rcases hb with r | r | r | r
  ·rw [r]; exact D.i1z
  ·rw [r]; exact D.i2z
  ·rw [r]; exact D.l1z
  ·rw [r]; exact D.l2z) e
 refine W0 (W0 (Qb ?_)); show Wa _ _ (Wz (.ref i1) >>= _) _ _ _
 refine W0 (D1.item k _ _ _ lx ⟨g1.i1,g1.l1⟩ fun x' h2 tk2 p1 e2 s2=>W5 ?_)
 refine W5 (W0 (W0 (Qb ?_))); show Wa _ _ (Wz (.ref i2) >>= _) _ _ _
 have e3:h2.IsListIter i2 l2 k∧h2.IsList l2 ys:=⟨g1.i2.at fun o e=>s2.extBut _ _ D.i12.symm e,let ⟨o,q,r⟩:=g1.l2; ⟨o,s2.extBut _ _ D.l2i1 q,r⟩⟩
 refine W0 (D2.item k _ _ _ ly e3 fun y' h4 tk4 p2 e4 s4=>W5 ?_)
 refine W5 (W5 (W0 (wpAny_newTuple ?_ (by show 2≤W9; decide))))
 have ex:x'=x:=by
  have p1:xs[k]? = some x':=p1
  rw [hx] at p1; cases p1; rfl
 have ey:y'=y:=by
  have p2:ys[k]? = some y':=p2
  rw [hy] at p2; cases p2; rfl
 subst ex ey
 have hsz:h4.objs.size=s.heap.objs.size:=by rw [s4.1,s2.1,s1.1]
 have up:∀ {b o},h4.get? b=some o→(h4.push { cls:=.type "tuple",data:=.seq #[x',y'] }).get? b=some o:=fun e=>Wd _ e
 refine W5 ⟨_,rfl,W5 ?_⟩
 show Q (some (.ref h4.objs.size)) _; rw [hsz]
 refine q _ _ (up (s4.extBut _ _ D.i2z.symm (s2.extBut _ _ D.i1z.symm hz1))) ⟨e2.1.at fun o e=>up (s4.extBut _ _ D.i12 e),e4.1.at fun o e=>up e,let ⟨o,q,r⟩:=e2.2; ⟨o,up (s4.extBut _ _ D.l1i2 q),r⟩,let ⟨o,q,r⟩:=e4.2; ⟨o,up q,r⟩⟩ ?_ fun c o c1 c3 c4 e=>up (s4.extBut _ _ c4 (s2.extBut _ _ c3 (s1.extBut _ _ c1 e)))
 rw [← hsz]; exact Wn _ rfl
theorem z8t (hh:A.handled=none) (D:ZipApart z TI TO i1 i2 l1 l2) (hz:ZipO s.heap z TI TO a f) (ha:s.heap.get? a=some oa) (hI:IsPair s.heap TI (.ref i1) (.ref i2)) (g:ZS i1 i2 l1 l2 xs ys xs.size s.heap)
  (q:∀ h' tk,(∀ c o,c≠z→c≠i1→c≠i2→s.heap.get? c=some o→h'.get? c=some o)→Q none { s with heap:=h',toks:=tk }):Wa (model prog w) A (Qe (.ref z)) Q E s:=by
 have ty:s.TypeIs (.ref z) "zip":=⟨_,hz,rfl⟩
 have D1:=Draws.list (prog:=prog) (w:=w) (A:=A.in1) hh i1 l1 D.l1i1 xs
 unfold Qe
 refine W0 (QY (WH (name:=Str.ofString "__next__") ty Qn (WZ Qn ty F.entry_zip_next ?_ (Jh _))))
 show Wa _ _ (field (.ref z) 2 >>= _) _ _ _; refine W0 (WG hz rfl (x:=.bool false) rfl ?_)
 show Wa _ _ (field (.ref z) 3 >>= _) _ _ _; refine W0 (WG hz rfl (x:=.ref TI) rfl (W0 (WQ hI rfl ?_)))
 show Wa _ _ (Wy (.ref z) >>= _) _ _ _
 refine W0 (z3A hz ha fun h1 hz1 s1=>?_)
 simp only [QN,if_false]
 refine W0 ?_
 simp only [List.forIn_toArray,Qw,QS]
 refine W0 (W0 (Qb ?_)); show Wa _ _ (Wz (.ref i1) >>= _) _ _ _
 refine W0 (D1.done _ _ _ ⟨g.i1.at fun o e=>s1.extBut _ _ D.i1z e,let ⟨o,q,r⟩:=g.l1; ⟨o,s1.extBut _ _ D.l1z q,r⟩⟩ fun h2 e s2 ⟨o,ho,hc⟩=>?_)
 exact W0 (wpAny_isInstance (T:="StopIteration") (b:=true) ⟨o,ho,hc⟩ isSubtype_stop (W5 (q _ _ fun c o c1 c3 _ x=>s2 _ _ c3 (s1.extBut _ _ c1 x))))
end
end PySem.ZW
namespace PySem.ZW
open Sem (wp)
structure ZG (xs ys:Array Value) (lo:Addr) (h:Heap) (as:List Addr):Prop where
 rise:as.Pairwise (· < ·)
 above:∀ a ∈ as,lo < a
 pairs:∀ (j:Nat) a,as[j]? = some a→∃ x y,xs[j]? = some x∧ys[j]? = some y∧IsPair h a x y
theorem ZG.keep (g:ZG xs ys lo h as) (k:∀ a o,lo < a→h.get? a=some o→h'.get? a=some o):ZG xs ys lo h' as :=
 ⟨g.rise,g.above,fun j a e=>let ⟨x,y,p1,p2,q⟩:=g.pairs j a e; ⟨x,y,p1,p2,k a _ (g.above a (WE e)) q⟩⟩
theorem ZG.snoc (g:ZG xs ys lo h as) (hl:∀ a ∈ as,a < n) (hn:lo < n) (p1:xs[as.length]? = some x) (p2:ys[as.length]? = some y) (q:IsPair h n x y):ZG xs ys lo h (as ++ [n]):=by
 refine ⟨List.pairwise_append.mpr ⟨g.rise,List.pairwise_singleton _ _,fun a ha b hb=>by rw [Je.mp hb]; exact hl a ha⟩,fun a ha=>?_,fun j a e=>?_⟩
 ·rcases J8.mp ha with ha | ha
  ·exact g.above a ha
  ·rw [Je.mp ha]; exact hn
 ·rcases Nat.lt_trichotomy j as.length with h1 | h1 | h1
  ·rw [Qy h1] at e
   exact g.pairs j a e
  ·subst h1
   have hb:n=a:=by simpa using e
   subst hb
   exact ⟨x,y,p1,p2,q⟩
  ·have hnone:(as ++ [n])[j]? = none:=WB (by rw [Q8,List.length_singleton]; omega)
   rw [hnone] at e; cases e
structure ZL (z TI TO i1 i2 l1 l2 S:Addr) (xs ys:Array Value) (h0:Heap) (h:Heap) (acc:Array Value) (c:Nat) (as:List Addr):Prop where
 keep:∀ b o,b≠S→b≠z→b≠TO→b≠i1→b≠i2→h0.get? b=some o→h.get? b=some o
 lst:h.get? S=some { cls:=.type "list",dict:=none,data:=.seq acc c,slots:=#[] }
 items:acc.toList=as.map Value.ref
 G:ZG xs ys S h as
section
variable {prog:Wh} {w:Wo} {A:Wp} {E:Value→W2→Prop} {s:W2} {z TI TO i1 i2 l1 l2 S:Addr} {xs ys:Array Value} {R:Result→W2→Prop} {res:Value}
theorem z8s (hh:A.handled=none) (D:ZipApart z TI TO i1 i2 l1 l2) (hn:xs.size=ys.size) (hz':xs.size≤W9) (lz:z < S) (lTI:TI < S) (lTO:TO < S) (li1:i1 < S) (li2:i2 < S) (ll1:l1 < S) (ll2:l2 < S) (h0:Heap)
  (hR:∀ h' tk acc c as,ZL z TI TO i1 i2 l1 l2 S xs ys h0 h' acc c as→as.length=xs.size→R (.ok (.ret res)) { s with heap:=h',toks:=tk }) :
  ∀ (k j:Nat) (h:Heap) (tk c:Nat) (acc:Array Value) (as:List Addr),xs.size - j=k→j≤xs.size→ZS i1 i2 l1 l2 xs ys j h→IsPair h TI (.ref i1) (.ref i2)→((as=[]∧IsZip h z TI TO .none∧∃ a b,IsPair h TO a b)∨∃ a f,ZipO h z TI TO a f∧a ∈ as) →
   ZL z TI TO i1 i2 l1 l2 S xs ys h0 h acc c as→as.length=j→QH (model prog w) A (.builtin "list.extend.loop" ⟨[.ref S,.ref z,res],[]⟩) R { s with heap:=h,toks:=tk }:=by
 have gtS:∀ {b x:Addr},x < S→S < b→b≠x:=fun h1 h2=>WK (Nat.lt_trans h1 h2)
 intro k
 induction k with
 | zero =>
  intro j h tk c acc as hk hj g hI st Z el
  have hjn:j=xs.size:=by omega
  subst hjn
  refine codeAny_builtin F.entry_extend_loop ?_
  rw [Around.under_plainId J5 _]
  show Wa _ A.in1 (Qe (.ref z) >>= _) _ _ _
  refine W0 ?_
  have fin:∀ h' tk',(∀ b o,b≠z→b≠TO→b≠i1→b≠i2→h.get? b=some o→h'.get? b=some o)→R (.ok (.ret res)) { s with heap:=h',toks:=tk' }:=fun h' tk' k2 =>
   hR h' tk' acc c as ⟨fun b o q1 q2 q3 q4 q5 e=>k2 b o q2 q3 q4 q5 (Z.keep b o q1 q2 q3 q4 q5 e),k2 S _ (WK lz) (WK lTO) (WK li1) (WK li2) Z.lst,Z.items,Z.G.keep fun b o hb e=>k2 b o (gtS lz hb) (gtS lTO hb) (gtS li1 hb) (gtS li2 hb) e⟩ el
  rcases st with ⟨_,hz,a,b,hO⟩ | ⟨a,f,hz,ha⟩
  ·exact wpAny_pyNext_zip_end hh D hz hI hO g.i1 g.i2 g.l1 g.l2 (.inl (by simp)) fun h' k2=>W5 (fin h' tk k2)
  ·obtain ⟨m,hm⟩:=Qo ha
   obtain ⟨_,_,_,_,ht⟩:=Z.G.pairs m a hm
   exact z8t hh D hz ht hI g fun h' tk' k2=>W5 (fin h' tk' fun b o q1 _ q3 q4 e=>k2 b o q1 q3 q4 e)
 | succ k ih =>
  intro j h tk c acc as hk hj g hI st Z el
  have hjn:j < xs.size:=by omega
  have hx:xs[j]? = some xs[j]:=by simp [hjn]
  have hy:ys[j]? = some (ys[j]'(by omega)):=by simp [show j < ys.size by omega]
  refine codeAny_builtin F.entry_extend_loop ?_
  rw [Around.under_plainId J5 _]
  show Wa _ A.in1 (Qe (.ref z) >>= _) _ _ _
  refine W0 ?_
  have lS:S < h.objs.size:=We Z.lst
  have hacc:acc.size=j:=by rw [← el,← WM (f:=Value.ref),← Z.items]; simp
  have next:∀ (h':Heap) (tk':Nat) (f:Bool) (a:Addr),ZipO h' z TI TO a f→a ∈ as ++ [h.objs.size]→ZS i1 i2 l1 l2 xs ys (j + 1) h'→IsPair h' h.objs.size xs[j] (ys[j]'(by omega)) →
    (∀ b o,b≠z→b≠TO→b≠i1→b≠i2→h.get? b=some o→h'.get? b=some o) →
    Wa (model prog w) A.in1 (updateSeq S (·.push (.ref h.objs.size)) >>= fun _=>again (.builtin "list.extend.loop" ⟨[.ref S,.ref z,res],[]⟩)) (fun fin s'=>match fin with | .done f=>R (.ok f) s' | .again c'=>c'.quiet=true∧QH (model prog w) A c' R s') (fun e s'=>R (.error e) s') { s with heap:=h',toks:=tk' }:=by
   intro h' tk' f a hz ha g' hT k2
   have hS':=k2 S _ (WK lz) (WK lTO) (WK li1) (WK li2) Z.lst
   refine W0 (Ja hS' rfl ?_ (by rw [hacc]; omega) (by show (acc.push _).size≤W9 + 1; rw [Array.size_push,hacc]; omega))
   have up:∀ b o,b≠S→h'.get? b=some o→(h'.update S (Obj.mapSeq (·.push (Value.ref h.objs.size)))).get? b=some o:=fun b o hb e=>(WL _ _ (Ne.symm hb)).trans e
   refine W5 ⟨plainId_quiet J5 _,ih (j + 1) _ tk' _ (acc.push (.ref h.objs.size)) (as ++ [h.objs.size]) (by omega) hjn (g'.at fun b o hb e=>up b o ?_ e) (up TI _ (Wl lTI) (k2 TI _ D.TIz D.TITO D.TIi1 D.TIi2 hI)) (.inr ⟨a,f,up z _ (Wl lz) hz,ha⟩) ⟨?_,WO _ hS' rfl,by simp [Z.items],?_⟩ (by simp [el])⟩
   ·rcases hb with r | r | r | r
    ·rw [r]; exact Wl li1
    ·rw [r]; exact Wl li2
    ·rw [r]; exact Wl ll1
    ·rw [r]; exact Wl ll2
   ·exact fun b o q1 q2 q3 q4 q5 e=>up b o q1 (k2 b o q2 q3 q4 q5 (Z.keep b o q1 q2 q3 q4 q5 e))
   ·refine ZG.snoc (Z.G.keep fun b o hb e=>up b o (WK hb) (k2 b o (gtS lz hb) (gtS lTO hb) (gtS li1 hb) (gtS li2 hb) e)) (fun b hb=>?_) lS (by rw [el]; exact hx) (by rw [el]; exact hy) (up _ _ (WK lS) hT)
    obtain ⟨m,hm⟩:=Qo hb
    obtain ⟨_,_,_,_,ht⟩:=Z.G.pairs m b hm
    exact We ht
  rcases st with ⟨_,hz,a,b,hO⟩ | ⟨a,f,hz,ha⟩
  ·refine wpAny_pyNext_zip_item D hz hI hO g.i1 g.i2 g.l1 g.l2 hx hy fun h' hz' _ g1 g2 hT _ k2=>?_
   refine next h' tk false h.objs.size hz' (by simp) ⟨g1,g2,?_,?_⟩ hT k2
   ·obtain ⟨o,e,r⟩:=g.l1
    exact ⟨o,k2 _ o D.l1z D.l1TO D.l1i1 D.l1i2 e,r⟩
   ·obtain ⟨o,e,r⟩:=g.l2
    exact ⟨o,k2 _ o D.l2z D.l2TO D.l2i1 D.l2i2 e,r⟩
  ·obtain ⟨m,hm⟩:=Qo ha
   obtain ⟨_,_,_,_,ht⟩:=Z.G.pairs m a hm
   exact z6P hh D hz ht hI g hx hy fun h' tk' hz' g' hT k2=>next h' tk' true a hz' (List.mem_append_left _ ha) g' hT fun b o q1 _ q3 q4 e=>k2 b o q1 q3 q4 e
end
end PySem.ZW
namespace PySem.ZW
open Sem (wp)
theorem z6r:typeLookup (.type "zip") "__len__" = pure none:=by rw [typeLookup_type,builtinLookup_eq_fast]; kernel_rfl
theorem z5t:typeLookup (.type "zip") "__length_hint__" = pure none:=by rw [typeLookup_type,builtinLookup_eq_fast]; kernel_rfl
section
variable {prog:Wh} {w:Wo} {A:Wp} {E:Value→W2→Prop} {s:W2} {z TI TO i1 i2 l1 l2:Addr} {xs ys:Array Value}
theorem call_list_zip (hh:A.handled=none) (D:ZipApart z TI TO i1 i2 l1 l2) (hn:xs.size=ys.size) (hz':xs.size≤W9)
  (hz:IsZip s.heap z TI TO .none) (hI:IsPair s.heap TI (.ref i1) (.ref i2)) (hO:∃ a b,IsPair s.heap TO a b) (g:ZS i1 i2 l1 l2 xs ys 0 s.heap)
  (hQ:∀ h' tk acc c as,ZL z TI TO i1 i2 l1 l2 s.heap.objs.size xs ys s.heap h' acc c as→as.length=xs.size→Q (.ref s.heap.objs.size) { s with heap:=h',toks:=tk }) :
  Wa (model prog w) A (call (.type "list") [.ref z]) Q E s:=by
 refine callType_codes (Q₁:=fun obj s₁=>obj = .ref s.heap.objs.size∧s₁ = { s with heap:=s.heap.push { cls:=.type "list",data:=.seq #[] } }) F.called_list (F.typeCall_list_1 _) F.entry_list_init
  (code_list_new _ ⟨rfl,rfl⟩) fun obj s₁ h₁=>?_
 obtain ⟨rfl,rfl⟩:=h₁
 have hS:(s.heap.push { cls:=.type "list",data:=.seq #[] }).get? s.heap.objs.size=some { cls:=.type "list",data:=.seq #[] }:=Wn _ rfl
 obtain ⟨a,b,hO⟩:=hO
 have lt:∀ {b o},s.heap.get? b=some o→b < s.heap.objs.size:=fun e=>We e
 have li1:i1 < s.heap.objs.size:=let ⟨_,e,_⟩:=g.i1; lt e
 have li2:i2 < s.heap.objs.size:=let ⟨_,e,_⟩:=g.i2; lt e
 have ll1:l1 < s.heap.objs.size:=let ⟨_,e,_⟩:=g.l1; lt e
 have ll2:l2 < s.heap.objs.size:=let ⟨_,e,_⟩:=g.l2; lt e
 refine ⟨⟨_,hS,rfl⟩,F.args_list_init_2 _ _,?_⟩
 generalize hS0:s.heap.objs.size=S at *
 generalize hh0:s.heap.push { cls:=.type "list",data:=.seq #[] } = h0 at *
 have up0:∀ {b o},s.heap.get? b=some o→h0.get? b=some o:=fun e=>by rw [← hh0]; exact Wd _ e
 show Wa _ _ (do let old ← Builtin.List.listItems (.ref S); Builtin.List.listUpdate (.ref S) (fun _=>#[]); letGo old.toList.reverse; Builtin.List.listExtendWith (.ref S) (.ref z) .none) _ _ _
 refine W0 ?_
 unfold Builtin.List.listItems
 refine W0 (WQ hS rfl (W5 ?_))
 show Wa _ _ (updateSeq S (fun _=>#[]) >>= fun _=>letGo (#[]:Array Value).toList.reverse >>= fun _=>Builtin.List.listExtendWith (.ref S) (.ref z) .none) _ _ _
 refine W0 (Ja hS rfl ?_)
 have hS₁:=WO (Obj.mapSeq (fun _=>(#[]:Array Value))) hS rfl
 refine W0 (wpAny_letGo ?_)
 have up1:∀ {b o},b≠S→s.heap.get? b=some o→(h0.update S (Obj.mapSeq (fun _=>(#[]:Array Value)))).get? b=some o:=fun hb e=>(WL _ _ (Ne.symm hb)).trans (up0 e)
 generalize h0.update S (Obj.mapSeq (fun _=>(#[]:Array Value)))=h1 at *
 have hz1:IsZip h1 z TI TO .none:=up1 (Wl (lt hz)) hz
 unfold Builtin.List.listExtendWith
 have hT:Shared.TypeIs { s with heap:=h1 } (.ref z) "zip":=⟨_,hz1,rfl⟩
 refine W0 (wpAny_typeOf (T:="zip") hT ?_)
 have q1:Builtin.List.listSameRef (.ref S) (.ref z)=false:=by simp [Builtin.List.listSameRef,WK (lt hz)]
 have q2:(Value.type "zip" == Value.type "list")=false:=by decide
 have q3:(Value.type "zip" == Value.type "tuple")=false:=by decide
 simp only [q1,q2,q3,Bool.or_false,QN,if_false]
 refine W0 (QX hz1 ?_)
 refine W0 (Qb ?_)
 unfold Builtin.List.listLengthHint
 refine W0 (wpAny_specialOf hT z6r ?_)
 show Wa _ _ (specialOf (Value.ref z) (Str.ofString "__length_hint__") >>= _) _ _ _
 refine W0 (wpAny_specialOf hT z5t (W5 ?_))
 show Wa _ _ (rule "list.extend.makes-room" >>= fun _=>Builtin.List.listTouch (.ref S) >>= fun _=>again (.builtin "list.extend.loop" ⟨[.ref S,.ref z,.none],[]⟩)) _ _ _
 refine W0 (QW (W0 ?_))
 show Wa _ _ (updateSeq S (·.push .none) >>= fun _=>updateSeq S (·.pop)) _ _ _
 refine W0 (Ja hS₁ rfl ?_)
 have hS₂:=WO (Obj.mapSeq (·.push Value.none)) hS₁ rfl
 refine Ja (hz:=by seq_fits) hS₂ rfl ?_
 have hS₃:=WO (Obj.mapSeq (·.pop)) hS₂ rfl
 have up:∀ b o,b≠S→s.heap.get? b=some o→((h1.update S (Obj.mapSeq (·.push Value.none))).update S (Obj.mapSeq (·.pop))).get? b=some o :=
  fun b o hb e=>(WL _ _ (Ne.symm hb)).trans ((WL _ _ (Ne.symm hb)).trans (up1 hb e))
 refine W5 ⟨plainId_quiet J5 _,z8s (A:=A.in1) (s:=s) hh D hn hz' (lt hz) (lt hI) (lt hO) li1 li2 ll1 ll2 s.heap (fun h' tk acc c as Z el=>⟨rfl,hQ h' tk acc c as Z el⟩) xs.size 0 _ s.toks _ _ [] (Nat.sub_zero _) (QB _) (g.at fun b o hb e=>up b o ?_ e)
  (up _ _ (Wl (lt hI)) hI) (.inl ⟨rfl,up _ _ (Wl (lt hz)) hz,a,b,up _ _ (Wl (lt hO)) hO⟩) ⟨fun b o q _ _ _ _ e=>up b o q e,hS₃,rfl,List.Pairwise.nil,(fun _ ha=>nomatch ha),(fun j a hj=>by simp at hj)⟩ rfl⟩
 rcases hb with r | r | r | r
 ·rw [r]; exact Wl li1
 ·rw [r]; exact Wl li2
 ·rw [r]; exact Wl ll1
 ·rw [r]; exact Wl ll2
end
end PySem.ZW
namespace L2
open PySem PySem.Spec PyProof.Rows
def IteW (K:W1) (a1 a2:Addr):It :=
 ⟨fun i H=>∃ xs ys x y,SqL K H a1 xs∧SqL K H a2 ys∧xs[i]? = some x∧ys[i]? = some y,
  fun i H v H'=>∃ p x y,H p=none∧(∀ xs,SqL K H a1 xs→xs[i]? = some x)∧(∀ ys,SqL K H a2 ys→ys[i]? = some y)∧H'=upd H p (.tup [x,y])∧v = .ref p,
  fun i H=>∃ xs ys,SqL K H a1 xs∧SqL K H a2 ys∧(xs.length≤i∨ys.length≤i)⟩
theorem z6T {P:Wh} {w:Wo} {K:W1} {elts:List Expr} {ctx} {pos:Pos} (a1 a2 n:Addr) (h1:a1 < n) (h2:a2 < n) :
  Turn P w K (.Tuple elts ctx pos) (IteW K a1 a2) [n + 4,n + 2,n + 3,n,n + 1] (n + 4) (fun i h=>IsZip h (n + 4) (n + 2) (n + 3) .none∧IsPair h (n + 2) (.ref n) (.ref (n + 1))∧(∃ a b,IsPair h (n + 3) a b)∧h.IsListIter n a1 i∧h.IsListIter (n + 1) a2 i):=by
 have D:=ZW.zap_of a1 a2 n h1 h2
 have mm:∀ {b:Addr},b ∈ [n + 4,n + 2,n + 3,n,n + 1]→b=n + 4∨b=n + 2∨b=n + 3∨b=n∨b=n + 1:=fun h=>by simpa using h
 have liv:∀ {h:Heap} {it a:Addr} {i:Nat},h.IsListIter it a i→∃ o,h.get? it=some o∧∀ v,o.data≠.cell v:=fun q=>by
  obtain ⟨o,e,c,d⟩:=q
  exact ⟨o,e,fun v z=>by rw [d] at z; cases z⟩
 refine ⟨by simp,?_,?_,?_,?_,?_⟩
 ·rintro i h ⟨hz,hI,⟨a,b,hO⟩,q1,q2⟩ c hc
  rcases mm hc with e | e | e | e | e <;> subst e
  ·exact ⟨_,hz,fun v z=>by
    have z':Data.fields _=Data.cell v:=z
    cases z'⟩
  ·exact ⟨_,hI,fun v z=>by
    have z':Data.seq _ _=Data.cell v:=z
    cases z'⟩
  ·exact ⟨_,hO,fun v z=>by
    have z':Data.seq _ _=Data.cell v:=z
    cases z'⟩
  ·exact liv q1
  ·exact liv q2
 ·rintro i h h' ⟨hz,hI,⟨a,b,hO⟩,q1,q2⟩ k
  exact ⟨k _ (by simp) _ hz,k _ (by simp) _ hI,⟨a,b,k _ (by simp) _ hO⟩,q1.at fun o e=>k _ (by simp) o e,q2.at fun o e=>k _ (by simp) o e⟩
 ·intro X hP hw hK hc i pins s σ H E I hf ⟨hz,hI,⟨a,b,hO⟩,q1,q2⟩ ⟨xs,ys,x,y,c1,c2,hx,hy⟩
  subst hP hw hK
  obtain ⟨is,rv1,p1,_⟩:=I.list c1
  obtain ⟨js,rv2,p2,_⟩:=I.list c2
  obtain ⟨u,hu,ru⟩:=rv1.get hx
  obtain ⟨v,hv,rv⟩:=rv2.get hy
  have hlt:∀ c ∈ [n + 4,n + 2,n + 3,n,n + 1],c < s.heap.objs.size:=fun c hc=>by
   have z:=We hz
   have le:∀ k:Nat,k≤4→n + k < s.heap.objs.size:=fun k hk=>QM (Nat.add_le_add_left hk n) z
   rcases mm hc with e | e | e | e | e <;> subst e
   ·exact z
   ·exact le 2 (by decide)
   ·exact le 3 (by decide)
   ·exact le 0 (by decide)
   ·exact le 1 (by decide)
  refine wpAny_pyNext_zip_item D hz hI hO q1 q2 p1.isList p2.isList (x:=u) (y:=v) (by simpa using hu) (by simpa using hv) fun h' hz' hO' s1 s2 hT _ k=>⟨_,rfl,wpAny_letOwnedTupleGo_zip hz' fun h2 hz2 sb=>?_⟩
  have nz:s.heap.objs.size≠n + 4:=WK (hlt (n + 4) (by simp))
  have k2:∀ c o,c ∉ [n + 4,n + 2,n + 3,n,n + 1]→s.heap.get? c=some o→h2.get? c=some o:=fun c o hc e=>by
   have g1:c≠n + 4:=fun z=>hc (by simp [z])
   exact (sb.2 c g1).trans (k c o g1 (fun z=>hc (by simp [z])) (fun z=>hc (by simp [z])) (fun z=>hc (by simp [z])) e)
  have I2:Inv X pins σ (upd H s.heap.objs.size (.tup [x,y])) { s with heap:=h2,toks:=s.toks }:=Inv.pairLaid2 (t':=s.toks) _ I hf hlt ru rv ((sb.2 _ nz).trans hT) k2
  refine ⟨.ref s.heap.objs.size,_,I2,rfl,⟨s.heap.objs.size,x,y,I.hok.fresh (Wf _),fun zs hzs=>by rw [I.list_inj hzs c1]; exact hx,fun zs hzs=>by rw [I.list_inj hzs c2]; exact hy,rfl,rfl⟩,⟨hz2,(sb.2 _ D.TIz).trans (k _ _ D.TIz D.TITO D.TIi1 D.TIi2 hI),⟨_,_,(sb.2 _ D.TOz).trans hO'⟩,s1.at fun o e=>(sb.2 _ D.i1z).trans e,s2.at fun o e=>(sb.2 _ D.i2z).trans e⟩,fun c hc=>?_⟩
  rw [z09 (Wl (hlt c hc))]
  exact (hf c hc).1
 ·intro X hP hw hK hc i pins s σ H E I hf ⟨hz,hI,⟨a,b,hO⟩,q1,q2⟩ ⟨xs,ys,c1,c2,hl⟩
  subst hP hw hK
  obtain ⟨is,rv1,p1,_⟩:=I.list c1
  obtain ⟨js,rv2,p2,_⟩:=I.list c2
  have r1:=rv1.length
  have r2:=rv2.length
  refine wpAny_pyNext_zip_end (I.ok.hd hc) D hz hI hO q1 q2 p1.isList p2.isList (by simp; omega) fun h' k=>⟨rfl,Inv.turnedL (t':=s.toks) [n + 4,n + 2,n + 3,n,n + 1] I (fun c o hc e=>?_) hf⟩
  exact k c o (fun z=>hc (by simp [z])) (fun z=>hc (by simp [z])) (fun z=>hc (by simp [z])) (fun z=>hc (by simp [z])) e
 ·intro A i s Q E st h
  exact QX st.1 h
section
variable {X:Cx} {a b:Expr} {ta:TA} {pp pos pp1 pos1:Pos} {elts:List Expr} {ctx:Nat} {tp:Pos}
theorem z5W {a1 a2:Addr} {us:List Value} (r:Vals [V.ref a1,.ref a2] us):us=[.ref a1,.ref a2]:=by
 cases r with
 | cons r rr =>
  cases rr with
  | cons r' rr =>
   cases rr
   cases r
   cases r'
   rfl
def iZipX (K:W1) (ta:TA):TI:=fun σ H R=>ta σ H fun vs H1=>∃ a1 a2,vs=[.ref a1,.ref a2]∧(∃ xs,SqL K H1 a1 xs)∧(∃ ys,SqL K H1 a2 ys)∧R (IteW K a1 a2) H1
theorem zak (hg:Gl X "zip") (hm:X.mg "zip" = none) (ha:PA X [a,b] ta) (hs:W6 [a,b] X.env=(false,eval a X.env) :: W6 [b] X.env:=by rfl) (hpl:(WW pos (W6 [b] X.env)).any (·.1)=false:=by rfl):PI X (.Tuple elts ctx tp) (.Call (.Name "zip" pp) [a,b] [] pos) (iZipX X.K ta):=by
 intro pins s σ H R I h
 refine Call_ (z3h I hg hm boot_zip (WX (thn (ha pos pins s σ H _ I h) fun us s1 ⟨vs,H1,I1,r1,q1⟩=>?_) hs hpl))
 obtain ⟨a1,a2,ev,⟨xs,hx⟩,⟨ys,hy⟩,q⟩:=q1
 subst ev
 obtain rfl:=z5W r1
 obtain ⟨is,rv1,p1,_⟩:=I1.list hx
 obtain ⟨js,rv2,p2,_⟩:=I1.list hy
 have l1:a1 < s1.heap.objs.size:=let ⟨_,e,_⟩:=p1.isList; We e
 have l2:a2 < s1.heap.objs.size:=let ⟨_,e,_⟩:=p2.isList; We e
 refine call_zip_2 p1.isList p2.isList fun h' hz hI hO q1 q2 _ kp=>QX hz ?_
 refine ⟨s1.heap.objs.size + 4,_,_,_,H1,rfl,I1.kept (t':=s1.toks) kp,z6T a1 a2 s1.heap.objs.size l1 l2,⟨hz,hI,⟨_,_,hO⟩,q1,q2⟩,fun b hb=>?_,q⟩
 have hb:b=s1.heap.objs.size + 4∨b=s1.heap.objs.size + 2∨b=s1.heap.objs.size + 3∨b=s1.heap.objs.size∨b=s1.heap.objs.size + 1:=by simpa using hb
 have hle:s1.heap.objs.size≤b:=by rcases hb with z | z | z | z | z <;> subst z <;> first | exact Wf _ | exact Qc _ _
 exact I1.fpOk hle (I1.hok.fresh hle)
def zaW (K:W1) (ta:TA):TE:=fun σ H Q=>ta σ H fun vs H1=>∃ a1 a2 xs ys,vs=[.ref a1,.ref a2]∧SqL K H1 a1 xs∧SqL K H1 a2 ys∧xs.length=ys.length∧xs.length≤W9 ∧
 ∀ S as,H1 S=none→(∀ c ∈ as,H1 c=none)→as.Nodup→S ∉ as→as.length=xs.length→Q (.ref S) (upd (layP H1 as xs ys) S (.lst (as.map V.ref)))
theorem z8P (hc:X.calm=true) (hgl:Gl X "list") (hml:X.mg "list" = none) (hg:Gl X "zip") (hm:X.mg "zip" = none) (ha:PA X [a,b] ta) (hs:W6 [a,b] X.env=(false,eval a X.env) :: W6 [b] X.env:=by rfl) (hpl:(WW pos (W6 [b] X.env)).any (·.1)=false:=by rfl)
  (hs1:W6 [.Call (.Name "zip" pp) [a,b] [] pos] X.env=(false,eval (.Call (.Name "zip" pp) [a,b] [] pos) X.env) :: W6 [] X.env:=by rfl) :
  PE X (.Call (.Name "list" pp1) [.Call (.Name "zip" pp) [a,b] [] pos] [] pos1) (zaW X.K ta):=by
 intro pins s σ H Q I h
 refine Call_ (z3h I hgl hml PyProof.Rows.boot_list (WX ?_ hs1 rfl))
 rw [hs1]
 show Wa _ _ (spliced ((false,eval (.Call (.Name "zip" pp) [a,b] [] pos) X.env) :: [])) _ _ s
 refine Calls.spliced_cons ?_
 refine Call_ (z3h I hg hm boot_zip (WX (thn (ha pos pins s σ H _ I h) fun us s1 ⟨vs,H1,I1,r1,q1⟩=>?_) hs hpl))
 obtain ⟨a1,a2,xs,ys,ev,hx,hy,hlen,hsz,q⟩:=q1
 subst ev
 obtain rfl:=z5W r1
 obtain ⟨is,rv1,p1,_⟩:=I1.list hx
 obtain ⟨js,rv2,p2,_⟩:=I1.list hy
 have la1:a1 < s1.heap.objs.size:=let ⟨_,e,_⟩:=p1.isList; We e
 have la2:a2 < s1.heap.objs.size:=let ⟨_,e,_⟩:=p2.isList; We e
 refine call_zip_2 p1.isList p2.isList fun h' hz hI hO q1 q2 _ kp=>Calls.spliced_nil ?_
 generalize hN:s1.heap.objs.size=n at hz hI hO q1 q2 la1 la2
 have D:=ZW.zap_of a1 a2 n la1 la2
 have zl:n + 4 < h'.objs.size:=We hz
 have z1:is.toArray.size=xs.length:=by rw [Wi]; exact rv1.length.symm
 have z2:js.toArray.size=xs.length:=by rw [Wi,hlen]; exact rv2.length.symm
 refine ZW.call_list_zip (s:={ s1 with heap:=h' }) (I.ok.hd hc) D (by rw [z1,z2]) (by rw [z1]; exact hsz) hz hI ⟨_,_,hO⟩ ⟨q1,q2,let ⟨o,e,r⟩:=p1.isList; ⟨o,kp _ _ e,r⟩,let ⟨o,e,r⟩:=p2.isList; ⟨o,kp _ _ e,r⟩⟩ fun h2 tk acc c as Z hl=>?_
 rw [z1] at hl
 have kp3:∀ c o,s1.heap.get? c=some o→h2.get? c=some o:=fun c o e=>by
  have hb:=We e
  have hb':=Nat.lt_trans (We (kp c o e)) (Nat.lt_succ_self _)
  rw [hN] at hb
  have ne:∀ i:Nat,c≠n + i:=fun i=>Wl (Wq hb (Qc n i))
  exact Z.keep c o (Wl (We (kp c o e))) (ne 4) (ne 3) (ne 0) (ne 1) (kp c o e)
 have I3:Inv X pins σ H1 { s1 with heap:=h2,toks:=tk }:=I1.kept (t':=tk) kp3
 have hf:∀ (H':Hp) c,n≤c→H' c=none→FpOk X pins H' c:=fun H' c hc e=>I1.fpOk (by rw [hN]; exact hc) e
 have nS:n≤h'.objs.size:=QQ (QM (Qc n 4) zl)
 have fr:∀ c,n≤c→H1 c=none:=fun c hc=>I1.hok.fresh (by rw [hN]; exact hc)
 have nd:as.Nodup:=Z.G.rise.imp fun h=>Wl h
 have hSn:h'.objs.size ∉ as:=fun z=>Q1 _ (Z.G.above _ z)
 have ge:∀ c ∈ as,n≤c:=fun c hc=>WD nS (QQ (Z.G.above c hc))
 have I4:=z6q hf as xs ys H1 I3 nd (fun c hc=>⟨ge c hc,fr c (ge c hc)⟩) fun j c e=>by
  obtain ⟨u,v,g1,g2,t⟩:=Z.G.pairs j c e
  have hj:j < xs.length:=by rw [← hl]; exact (W3.mp e).1
  have hx':xs[j]? = some xs[j]:=by simp [hj]
  have hy':ys[j]? = some (ys[j]'(by omega)):=by simp [show j < ys.length by omega]
  obtain ⟨u',hu,ru⟩:=rv1.get hx'
  obtain ⟨v',hv,rv⟩:=rv2.get hy'
  rw [QU,hu] at g1
  rw [QU,hv] at g2
  cases g1
  cases g2
  exact ⟨_,_,_,_,hx',hy',ru,rv,t⟩
 have hS0:layP H1 as xs ys h'.objs.size=none:=by rw [z5P hSn]; exact fr _ nS
 have I5:=I4.adopt (b:=h'.objs.size) (o:=.lst (as.map V.ref)) (hf _ _ nS hS0) ⟨by rw [WM,hl]; exact hsz,as.map Value.ref,c,vals_refs as,by rw [← Z.items,Array.toArray_toList]; exact Z.lst⟩
 exact ⟨.ref h'.objs.size,_,I5,rfl,q _ as (fr _ nS) (fun c hc=>fr c (ge c hc)) nd hSn hl⟩
end
end L2
namespace DV
open PySem PySem.Spec PyProof.Rows L2
def lsD:D→Option (List D)
 | .lst ds=>some ds
 | _=>none
theorem Rep.ls {H:Hp} {O:Addr→Prop} {v:V} {d:D} {ds:List D} (r:Rep H O v d) (e:lsD d=some ds):∃ a vs,v = .ref a∧Rd H a (.lst vs)∧¬ O a∧Reps H O vs ds:=by
 cases d <;> first | (simp [lsD] at e; done) | skip
 cases r with
 | lst h1 h2 h3 h4 =>
  simp only [lsD,W7] at e
  subst e
  exact ⟨_,_,rfl,h2,h1,h3,h4⟩
def z38 (f g:DE):DI:=fun δ=>(f δ).bind fun x δ1=>(g δ1).bind fun y δ2=>match lsD x.d,lsD y.d with
 | some xs,some ys=>.ok (zipD xs ys) δ2
 | _,_=>.stuck
def z4l (f g:DE):DE:=fun δ=>(f δ).bind fun x δ1=>(g δ1).bind fun y δ2=>match lsD x.d,lsD y.d with
 | some xs,some ys=>if xs.length=ys.length∧xs.length≤1000 then .ok (.own (.lst (zipD xs ys))) δ2 else .stuck
 | _,_=>.stuck
section
variable {X:Cx} {c:Fc} {a b:Expr} {f g:DE} {pp pos pp1 pos1:Pos} {elts:List Expr} {ctx:Nat} {tp:Pos}
theorem z78 (hg:Gl X "zip") (hm:X.mg "zip" = none) (ha:SE X c a f) (hb:SE X c b g) (hs:W6 [a,b] X.env=(false,eval a X.env) :: W6 [b] X.env:=by rfl)
  (hs2:W6 [b] X.env=(false,eval b X.env) :: W6 [] X.env:=by rfl) (hpl:(WW pos (W6 [b] X.env)).any (·.1)=false:=by rfl):SI X c (.Tuple elts ctx tp) (.Call (.Name "zip" pp) [a,b] [] pos) (z38 f g) :=
 PI.weak (zak hg hm (z0Q ha (z0Q hb z1H hs2) hs) hs hpl) fun σ H R ⟨δ,k,q⟩=>by
  unfold z38 at q
  rw [z01] at q
  refine ⟨δ,k,z00 q fun x δ1 q1 v H1 a1 r1=>⟨δ1,a1.ok,?_⟩⟩
  rw [z01] at q1
  refine z00 q1 fun y δ2 q2 u H2 a2 r2=>?_
  have hx:Rep H2 (Av c σ δ2) v x.d:=Rep.aft r1.rep a2
  have hy:Rep H2 (Av c σ δ2) u y.d:=r2.rep
  split at q2
  case h_2=>exact q2.elim
  rename_i xs ys e1 e2
  obtain ⟨p1,vs,ev,s1,n1,w1⟩:=hx.ls e1
  obtain ⟨p2,us,eu,s2,n2,w2⟩:=hy.ls e2
  subst ev eu
  refine ⟨p1,p2,rfl,⟨vs,.inl s1⟩,⟨us,.inl s2⟩,q2 _ H2 (a1.trans a2) fun H3 kp=>?_⟩
  have t1:SqL X.K H3 p1 vs:=.inl (Rd.keep s1 fun o e=>kp _ o e fun z=>n1 (.inr z))
  have t2:SqL X.K H3 p2 us:=.inl (Rd.keep s2 fun o e=>kp _ o e fun z=>n2 (.inr z))
  refine ⟨⟨vs,us,t1,t2,?_⟩,fun i d e=>?_⟩
  ·rw [w1.1,w2.1]
   simp only [zipD,List.length_zipWith]
   omega
  ·obtain ⟨x,y,ex,ey,rfl⟩:=z5U e
   obtain ⟨v,ev,rv⟩:=w1.get ex
   obtain ⟨u,eu,ru⟩:=w2.get ey
   refine ⟨⟨vs,us,v,u,t1,t2,ev,eu⟩,fun z H4 ⟨p,v',u',hp,hv,hu,e3,ez⟩=>.inr ⟨p,_,_,hp,e3,ez,rfl,?_⟩⟩
   have h1:=hv vs t1
   have h2:=hu us t2
   rw [ev] at h1
   rw [eu] at h2
   cases h1
   cases h2
   exact Reps.two rv ru
theorem z8C (hc:X.calm=true) (hgl:Gl X "list") (hml:X.mg "list" = none) (hg:Gl X "zip") (hm:X.mg "zip" = none) (ha:SE X c a f) (hb:SE X c b g) (hs:W6 [a,b] X.env=(false,eval a X.env) :: W6 [b] X.env:=by rfl)
  (hs2:W6 [b] X.env=(false,eval b X.env) :: W6 [] X.env:=by rfl) (hpl:(WW pos (W6 [b] X.env)).any (·.1)=false:=by rfl)
  (hs1:W6 [.Call (.Name "zip" pp) [a,b] [] pos] X.env=(false,eval (.Call (.Name "zip" pp) [a,b] [] pos) X.env) :: W6 [] X.env:=by rfl) :
  SE X c (.Call (.Name "list" pp1) [.Call (.Name "zip" pp) [a,b] [] pos] [] pos1) (z4l f g) :=
 PE.weak (z8P hc hgl hml hg hm (z0Q ha (z0Q hb z1H hs2) hs) hs hpl hs1) fun σ H Q ⟨δ,k,q⟩=>by
  unfold z4l at q
  rw [z01] at q
  refine ⟨δ,k,z00 q fun x δ1 q1 v H1 a1 r1=>⟨δ1,a1.ok,?_⟩⟩
  rw [z01] at q1
  refine z00 q1 fun y δ2 q2 u H2 a2 r2=>?_
  have hx:Rep H2 (Av c σ δ2) v x.d:=Rep.aft r1.rep a2
  have hy:Rep H2 (Av c σ δ2) u y.d:=r2.rep
  split at q2
  case h_2=>exact q2.elim
  rename_i xs ys e1 e2
  obtain ⟨p1,vs,ev,s1,_,w1⟩:=hx.ls e1
  obtain ⟨p2,us,eu,s2,_,w2⟩:=hy.ls e2
  subst ev eu
  split at q2
  case isFalse=>exact q2.elim
  rename_i hl
  have l1:=w1.1
  have l2:=w2.1
  refine ⟨p1,p2,vs,us,rfl,.inl s1,.inl s2,by omega,by rw [l1,QZ]; omega,fun S as hS hn nd hSn hlen=>?_⟩
  obtain ⟨h1,h2⟩:=z6f a2.ok nd hn hlen w1 w2 (by omega)
  have hS':layP H2 as vs us S=none:=by rw [z5P hSn]; exact hS
  have a12:=a1.trans a2
  exact q2 _ _ (a12.trans (h1.trans (.alloc h1.ok hS' _))) ((RepS.newL h1.ok h2 hS').back (a12.trans h1))
end
section
variable {X:Cx}
theorem z8j (hc:X.calm=true):CallR X (.builtin "sum") (fun xs H Q=>∃ (a:Addr) (ns:List Int),xs=[.ref a]∧SqL X.K H a (ns.map V.int)∧Q (.int ns.sum) H):=by
 intro pins s σ H xs us Q I r h
 obtain ⟨a,ns,rfl,hq,q⟩:=h
 obtain ⟨u,rfl,ru⟩:=z41 r
 cases ru
 obtain ⟨its,r',p,_⟩:=I.list hq
 obtain ⟨ys,rfl,rfl⟩:=vals_ints r'
 have hl:=p.isList
 have el:(ys.map fun p=>Value.int p.1 p.2).toArray=intItems ys.toArray:=by simp [intItems]
 rw [el] at hl
 refine sum_intListG (I.ok.hd hc) hl fun h' tk t' hk=>?_
 refine ⟨.int (ys.map (·.1)).sum,H,I.kept hk,⟨t',by rw [preSum_eq,List.take_of_length_le (by simp)]⟩,q⟩
end
def z5F:D→Option S
 | .lst ds=>match z48 ds with
  | some ns=>some (.pure (.int ns.sum))
  | _=>none
 | _=>none
section
variable {X:Cx} {c:Fc} {e:Expr} {fb:BE} {pos pp:Pos}
theorem za4 (hc:X.calm=true) (hg:Gl X "sum") (hm:X.mg "sum" = none) (he:SB X c e fb) (hs:W6 [e] X.env=(false,eval e X.env) :: W6 [] X.env:=by rfl):SE X c (.Call (.Name "sum" pp) [e] [] pos) (eC1 z5F fb) :=
 z3t (r:=fun v H Q=>∃ (a:Addr) (ns:List Int),v = .ref a∧SqL X.K H a (ns.map V.int)∧Q (.int ns.sum) H) (z8j hc) (fun v H Q ⟨a,bs,e,h⟩=>⟨a,bs,by rw [e],h⟩) (fun c σ δ H x d s Q k rx hp q=>by
  cases d with
  | lst ds =>
   simp only [z5F] at hp
   cases e:z48 ds with
   | none=>rw [e] at hp; cases hp
   | some bs =>
    rw [e] at hp
    simp only [W7] at hp
    subst hp
    obtain ⟨a,vs,ea,ha,ra⟩:=rx.lst
    have:=z4Y e ra
    subst this
    exact ⟨a,bs,ea,.inl ha,q _ H (.refl k) (.int _)⟩
  | _=>simp [z5F] at hp) hg hm PyProof.Rows.boot_sum he (by decide) (by decide) hs
end
def z5m (i j:Int):Bool:=decide (J7 i≤67108864) && decide (J7 j≤67108864)
theorem zar {X:Cx}:OpR X (WY .Mult) (rI (fun i j=>z5m i j=true) fun i j=>.int (i * j)):=opI fun i j _ _ _ _ _ hc q=>by
 have hc:z5m i j=true:=hc
 unfold z5m at hc
 simp only [Ws,decide_eq_true_eq] at hc
 exact PyProof.Rows.mul_int q (IntMulOk.of_le hc.1 hc.2 (by decide))
def z6C:=pII z5m fun i j=>.int (i * j)
theorem zau:Op2 (rI (fun i j=>z5m i j=true) fun i j=>V.int (i * j)) z6C:=z7G (fun i j h=>h) fun _ _ _ _=>.int _
theorem z8o {n k:Nat} (h:n < 2 ^ k):J7 (n:Int)≤k:=by
 unfold J7
 split
 ·exact QB _
 ·rename_i h0
  have hn:n≠0:=by simpa using h0
  have:=(Nat.log2_lt hn).mpr h
  have e:(n:Int).natAbs=n:=rfl
  rw [e]
  omega
theorem z8Y {a b k:Nat} (ha:a < 2 ^ k) (hb:b < 2 ^ k) (hk:k≤67108864):z6C (.int a) (.int b)=some (.pure (.int ((a * b:Nat):Int))):=by
 show (if z5m a b then some (S.pure (.int ((a:Int) * (b:Int)))) else none)=_
 have:z5m a b=true:=by
  unfold z5m
  simp only [Ws,decide_eq_true_eq]
  exact ⟨WD (z8o ha) hk,WD (z8o hb) hk⟩
 rw [this,if_pos rfl,Int.natCast_mul]
end DV
namespace K20
open PySem.W (nsIn keepIn codeIn findIn mroIn kitOne mg_of)
open PySem PySem.Spec PyProof.Rows L2 DV
def top (i:Nat):Stmt:=PySem.Challenge.pw_tilegrow_k20_tables_and_powers.main.body.getD i (.Pass ⟨0,0,0,0⟩)
abbrev z1K:Stmt:=top 7
abbrev z1W:Stmt:=top 9
abbrev z2w:Stmt:=top 8
abbrev z2x:Stmt:=top 10
abbrev z1y:Stmt:=top 13
abbrev z2v:Stmt:=top 12
abbrev z1J:Stmt:=top 14
abbrev z2b:Stmt:=top 15
abbrev z2a:Stmt:=top 11
abbrev z1x:Stmt:=top 18
abbrev z29:Stmt:=top 1
abbrev z2Z:Stmt:=top 3
abbrev z1X:Stmt:=top 16
abbrev z1U:Stmt:=top 4
abbrev z1V:Stmt:=top 5
abbrev z4x:Stmt:=top 19
structure Txt (K:W1) (mg:Str→Option Value):Prop where
 z_all:mg "all" = none
 z_bool:mg "bool" = none
 z_int:mg "int" = none
 z_isinstance:mg "isinstance" = none
 z_len:mg "len" = none
 z_list:mg "list" = none
 z_max:mg "max" = none
 z_range:mg "range" = none
 z_sorted:mg "sorted" = none
 z_sum:mg "sum" = none
 z_tuple:mg "tuple" = none
 z_zip:mg "zip" = none
 ty_bool:TyK K "bool"
 ty_int:TyK K "int"
 ty_tuple:TyK K "tuple"
def z1N:DS:=(dSeq (dIf (dTr (eOpF pLt 1 (bOf (eC1 pLen (bVar 0))))) (dRet (eOpF pIx 0 (bVar 1))) z1a) (dRet (eD (.int 0))))
def z0C:DF:=gOf [] 2 z1N
theorem z2U:z1S z0C:=z0z
theorem z3F:FnScope ["script","k"] ["script","k"] (z0b z1K):=⟨rfl,rfl,rfl,by decide +kernel,rfl,by decide +kernel,by decide +kernel⟩
theorem z3K {K:W1} (F:Fun K "_law_cell_at" "_law_cell_at" z1K f fd) (hm:mg "_law_cell_at" = some (.ref f)) (hb:Binds K fd ["script","k"] []) (T:Txt K mg):KFn P w K mg base 1 "_law_cell_at" 2 z0C :=
 z1A (np:=[]) (fb:=z1N) F hm hb z3F (fun c cdv A outer s H E hr hnp=>by
  have hq:=z2q hr
  refine (z03 ?_ ?_)
  ·refine (z2H ?_ ?_ ?_)
   ·exact (z2u z9G zbO (pv 1) (z0c (z3g rfl T.z_len (z0m (pv 0)) (by rfl))) (z1i _))
   ·refine (z0l ?_)
    refine (z0W ?_)
    exact (z0P z0K z1h (pv 0) (z0m (pv 1)) (fun _ _=>rfl))
   ·exact z1w
  refine (z0l ?_)
  refine (z0W ?_)
  exact z02) fun ss y h=>z0X h
def z23:DS:=(dSeq (dAsg (eMax (eVar 0) (eOp pSub (eD (.int 0)) (bVar 0))) (gNm [] 1)) (dRet (eLst (z0U (eVar 1) (z0U (eC1 pInt (bOf (eOpF pGe 1 (bOf (eOp pPow (eD (.int 10)) (bOf (eD (.int 18)))))))) (z0U (eOpF pMod 1 (bOf (eD (.int 1000003)))) aNil))))))
def z0M:DF:=gOf [] 2 z23
theorem z36:z1S z0M:=z0z
theorem sc__law_pen_of:FnScope ["cell","left"] ["cell"] (z0b z1W):=⟨rfl,rfl,rfl,by decide +kernel,rfl,by decide +kernel,by decide +kernel⟩
theorem z46 {K:W1} (F:Fun K "_law_pen_of" "_law_pen_of" z1W f fd) (hm:mg "_law_pen_of" = some (.ref f)) (hb:Binds K fd ["cell"] []) (T:Txt K mg):KFn P w K mg base 1 "_law_pen_of" 1 z0M :=
 z1A (np:=[]) (fb:=z23) F hm hb sc__law_pen_of (fun c cdv A outer s H E hr hnp=>by
  have hq:=z2q hr
  refine (z03 ?_ ?_)
  ·exact (@z0t _ _ _ _ _ _ ([]) (1) _ hnp sc__law_pen_of.nd rfl (Or.inl rfl) (zbb rfl rfl T.z_max (z07 (pv 0)) (z1j z9F z9H z02 (z0m (pv 0))) (by rfl) (by rfl) (by rfl)) rfl (Or.inl rfl))
  refine (z0l ?_)
  refine (z0W ?_)
  exact (z3f (z0x (z07 (pv 1)) (z0x (z7b rfl T.z_int (z0c (z5B zbK z58 (pv 1) (z0c (z1j zbJ zbM z02 (z0c z02))) (z1i _))) (by rfl)) (z0x (z25 z2Q z2S (pv 1) (z0c z02)) z1G (by rfl)) (by rfl)) (by rfl)) (by decide))) fun ss y h=>z0X h
def z2F:DS:=(dSeq (dAsg (eOp pMod (eOpF pAdd 0 (bOf (eD (.int 7919)))) (bOf (eD (.int 2147483647)))) (gNm [] 0)) (dRet (eOp pMod (eOp pAdd (eOp pAdd (eOpF z1q 0 (bVar 0)) (bOf (eOp z1q (eD (.int 48271)) (bVar 0)))) (bOf (eD (.int 12345)))) (bOf (eD (.int 2147483629))))))
def z0Z:DF:=gOf [] 1 z2F
theorem z2e:z1S z0Z:=z0z
theorem sc__law_next:FnScope ["seed"] ["seed"] (z0b z2w):=⟨rfl,rfl,rfl,by decide +kernel,rfl,by decide +kernel,by decide +kernel⟩
theorem z56 {K:W1} (F:Fun K "_law_next" "_law_next" z2w f fd) (hm:mg "_law_next" = some (.ref f)) (hb:Binds K fd ["seed"] []) (T:Txt K mg):KFn P w K mg base 1 "_law_next" 1 z0Z :=
 z1A (np:=[]) (fb:=z2F) F hm hb sc__law_next (fun c cdv A outer s H E hr hnp=>by
  have hq:=z2q hr
  refine (z03 ?_ ?_)
  ·exact (@z0t _ _ _ _ _ _ ([]) (0) _ hnp sc__law_next.nd rfl (Or.inl rfl) (z1j z2Q z2S (z25 z14 z1s (pv 0) (z0c z02)) (z0c z02)) rfl (Or.inl rfl))
  refine (z0l ?_)
  refine (z0W ?_)
  exact (z1j z2Q z2S (z1j z14 z1s (z1j z14 z1s (z25 z3I z3L (pv 0) (z0m (pv 0))) (z0c (z1j z3I z3L z02 (z0m (pv 0))))) (z0c z02)) (z0c z02))) fun ss y h=>z0X h
def z2G:DS:=(dSeq (dIf (dTr (eOp pEq (eOpF pIx 0 (bOf (eD (.int 1)))) (bOf (eD (.int 1))))) (dSeq (dAsg (eOp pMod (eOpF pIx 0 (bOf (eD (.int 0)))) (bVar 1)) (gNm [0] 2)) (dSeq (z6K 0 (eD (.int 0)) (eOp pDiv (eOpF pIx 0 (bOf (eD (.int 0)))) (bVar 1))) (dRet (eVar 2)))) z1a) (dSeq (z6K 0 (eD (.int 2)) (z06 z0Z [.val (eOp pAdd (z06 z0Z [.val (eOpF pIx 0 (bOf (eD (.int 2))))]) (bOf (eD (.int 7))))])) (dRet (eOp pMod (eOp pDiv (eOpF pIx 0 (bOf (eD (.int 2)))) (bOf (eD (.int 64)))) (bVar 1)))))
def z04:DF:=gOf [0] 3 z2G
theorem z08:z1S z04:=z0z
theorem sc__law_draw:FnScope ["pen","many","found"] ["pen","many"] (z0b z2x):=⟨rfl,rfl,rfl,by decide +kernel,rfl,by decide +kernel,by decide +kernel⟩
theorem z57 {K:W1} (F:Fun K "_law_draw" "_law_draw" z2x f fd) (hm:mg "_law_draw" = some (.ref f)) (hb:Binds K fd ["pen","many"] []) (T:Txt K mg) (k__law_next:KFn P w K mg base 1 "_law_next" 1 z0Z):KFn P w K mg base 2 "_law_draw" 2 z04 :=
 z1A (np:=[0]) (fb:=z2G) F hm hb sc__law_draw (fun c cdv A outer s H E hr hnp=>by
  have hq:=z2q hr
  refine (z03 ?_ ?_)
  ·refine (z2H ?_ ?_ ?_)
   ·exact (z3d (z26 hq) z3n (z0P z0K z1h (pv 0) (z0c z02) (fun _ _=>rfl)) (z0c z02) (z1i _))
   ·refine (z03 ?_ ?_)
    ·exact (@z0t _ _ _ _ _ _ ([0]) (2) _ hnp sc__law_draw.nd rfl (Or.inl rfl) (z1j z2Q z2S (z0P z0K z1h (pv 0) (z0c z02) (fun _ _=>rfl)) (z0m (pv 1))) rfl (Or.inl rfl))
    refine (z03 ?_ ?_)
    ·exact (z6Z (pv 0) z02 (z1j z5J z7H (z0P z0K z1h (pv 0) (z0c z02) (fun _ _=>rfl)) (z0m (pv 1))) (by intro _; rfl) (by rfl) (by rfl) (by rfl))
    refine (z0l ?_)
    refine (z0W ?_)
    exact (z07 (pv 2))
   ·exact z1w
  refine (z03 ?_ ?_)
  ·exact (z6Z (pv 0) z02 (@z0i _ _ _ _ _ (1) _ _ _ _ _ k__law_next z2e (hr.mono (by decide)) rfl (z0a (z1j z14 z1s (@z0i _ _ _ _ _ (1) _ _ _ _ _ k__law_next z2e (hr.mono (by decide)) rfl (z0a (z0P z0K z1h (pv 0) (z0c z02) (fun _ _=>rfl)) z0y (by rfl)) rfl (by decide) (by rfl) (by rfl)) (z0c z02)) z0y (by rfl)) rfl (by decide) (by rfl) (by rfl)) (by intro _; rfl) (by rfl) (by rfl) (by rfl))
  refine (z0l ?_)
  refine (z0W ?_)
  exact (z1j z2Q z2S (z1j z5J z7H (z0P z0K z1h (pv 0) (z0c z02) (fun _ _=>rfl)) (z0c z02)) (z0m (pv 1)))) fun ss y h=>z0X h
def z1E:DS:=(dSeq (dAsg (eOp pAdd (eD (.int 1)) (bOf (z06 z04 [.io 0,.val (eD (.int 3))]))) (gNm [0] 1)) (dSeq (dAsg (eOp pAdd (eD (.int 1)) (bOf (z06 z04 [.io 0,.val (eD (.int 3))]))) (gNm [0] 2)) (dSeq (dIf (dTr (eOp pEq (z06 z04 [.io 0,.val (eD (.int 8))]) (bOf (eD (.int 0))))) (dAsg (eOp pIx (z39 [.tup [.int 4,.int 1],.tup [.int 1,.int 4],.tup [.int 4,.int 4],.tup [.int 4,.int 3],.tup [.int 1,.int 2],.tup [.int 2,.int 1]]) (bOf (z06 z04 [.io 0,.val (eD (.int 6))]))) (gTp 2 (z05 (gNm [0] 1) (z05 (gNm [0] 2) z0R)))) z1a) (dSeq (dIf (dTr (eOp pEq (eOpF pAdd 1 (bVar 2)) (bOf (eD (.int 2))))) (dAsg (eD (.int 2)) (gNm [0] 2)) z1a) (dRet (eTup (z0U (eVar 1) (z0U (eVar 2) aNil))))))))
def z0F:DF:=gOf [0] 3 z1E
theorem z2z:z1S z0F:=z0z
theorem sc__law_sizes_by:FnScope ["pen","high","wide"] ["pen"] (z0b z1y):=⟨rfl,rfl,rfl,by decide +kernel,rfl,by decide +kernel,by decide +kernel⟩
theorem z3m {K:W1} (F:Fun K "_law_sizes_by" "_law_sizes_by" z1y f fd) (hm:mg "_law_sizes_by" = some (.ref f)) (hb:Binds K fd ["pen"] []) (T:Txt K mg) (k__law_draw:KFn P w K mg base 2 "_law_draw" 2 z04):KFn P w K mg base 3 "_law_sizes_by" 1 z0F :=
 z1A (np:=[0]) (fb:=z1E) F hm hb sc__law_sizes_by (fun c cdv A outer s H E hr hnp=>by
  have hq:=z2q hr
  refine (@z03 _ _ _ _ _ _ ?_ ?_)
  ·exact (@z0t _ _ _ _ _ _ ([0]) (1) _ hnp sc__law_sizes_by.nd rfl (Or.inl rfl) (@z1j _ _ _ _ _ _ _ _ _ _ z14 z1s (@z02 _ _ _ _ _) (@z0c _ _ _ _ (@z0i _ _ _ _ _ (2) _ _ _ _ _ k__law_draw z08 (hr.mono (by decide)) rfl (@z1m _ _ _ _ _ _ (pv 0) (@z0a _ _ _ _ _ _ (@z02 _ _ _ _ _) (@z0y _ _) (by rfl)) (by rfl)) rfl (by decide) (by rfl) (by rfl)))) rfl (Or.inl rfl))
  refine (@z03 _ _ _ _ _ _ ?_ ?_)
  ·exact (@z0t _ _ _ _ _ _ ([0]) (2) _ hnp sc__law_sizes_by.nd rfl (Or.inl rfl) (@z1j _ _ _ _ _ _ _ _ _ _ z14 z1s (@z02 _ _ _ _ _) (@z0c _ _ _ _ (@z0i _ _ _ _ _ (2) _ _ _ _ _ k__law_draw z08 (hr.mono (by decide)) rfl (@z1m _ _ _ _ _ _ (pv 0) (@z0a _ _ _ _ _ _ (@z02 _ _ _ _ _) (@z0y _ _) (by rfl)) (by rfl)) rfl (by decide) (by rfl) (by rfl)))) rfl (Or.inl rfl))
  refine (@z03 _ _ _ _ _ _ ?_ ?_)
  ·refine (@z2H _ _ _ _ _ _ _ _ _ ?_ ?_ ?_)
   ·exact (@z3d _ _ _ _ _ _ _ _ _ _ (z26 hq) z3n (@z0i _ _ _ _ _ (2) _ _ _ _ _ k__law_draw z08 (hr.mono (by decide)) rfl (@z1m _ _ _ _ _ _ (pv 0) (@z0a _ _ _ _ _ _ (@z02 _ _ _ _ _) (@z0y _ _) (by rfl)) (by rfl)) rfl (by decide) (by rfl) (by rfl)) (@z0c _ _ _ _ (@z02 _ _ _ _ _)) (z1i _))
   ·refine (@z0l _ _ _ _ ?_)
    refine (@z9u _ _ _ _ _ _ _ ?_ ?_ (by rfl) (by rfl) (by rfl))
    ·exact (@se_ix _ _ _ _ _ _ _ _ _ z0K z1h (@z3E _ _ _ _ _ (by rfl) (by decide)) (@z0c _ _ _ _ (@z0i _ _ _ _ _ (2) _ _ _ _ _ k__law_draw z08 (hr.mono (by decide)) rfl (@z1m _ _ _ _ _ _ (pv 0) (@z0a _ _ _ _ _ _ (@z02 _ _ _ _ _) (@z0y _ _) (by rfl)) (by rfl)) rfl (by decide) (by rfl) (by rfl))) (fun _ _=>rfl))
    ·exact (@z65 _ _ _ _ _ _ _ rfl (@z1F _ _ _ _ _ _ (@z12 _ _ _ ([0]) (1) _ hnp sc__law_sizes_by.nd rfl (Or.inl rfl) (Or.inl rfl)) (@z1F _ _ _ _ _ _ (@z12 _ _ _ ([0]) (2) _ hnp sc__law_sizes_by.nd rfl (Or.inl rfl) (Or.inl rfl)) (@z4v _ _) (by rfl)) (by rfl)) (by rfl) (by rfl))
   ·exact z1w
  refine (@z03 _ _ _ _ _ _ ?_ ?_)
  ·refine (@z2H _ _ _ _ _ _ _ _ _ ?_ ?_ ?_)
   ·exact (@z3d _ _ _ _ _ _ _ _ _ _ (z26 hq) z3n (@z25 _ _ _ _ _ _ _ _ _ _ z14 z1s (pv 1) (@z0m _ _ _ _ (pv 2))) (@z0c _ _ _ _ (@z02 _ _ _ _ _)) (z1i _))
   ·refine (@z0l _ _ _ _ ?_)
    exact (@z0t _ _ _ _ _ _ ([0]) (2) _ hnp sc__law_sizes_by.nd rfl (Or.inl rfl) (@z02 _ _ _ _ _) rfl (Or.inl rfl))
   ·exact z1w
  refine (@z0l _ _ _ _ ?_)
  refine (@z0W _ _ _ _ _ ?_)
  exact (@z3D _ _ _ _ _ _ (@z0x _ _ _ _ _ _ (@z07 _ _ _ _ (pv 1)) (@z0x _ _ _ _ _ _ (@z07 _ _ _ _ (pv 2)) (@z1G _ _) (by rfl)) (by rfl)) (by decide))) fun ss y h=>z0X h
def z2E:DS:=(dSeq (dIf (dTr (eOpF pEq 3 (bOf (eD (.int 1))))) (dRet (eOpF pIx 1 (bOf (z06 z04 [.io 0,.val (eOpF pAdd 2 (bOf (eD (.int 1))))])))) z1a) (dSeq (dIf (dTr (eOpF pEq 3 (bOf (eD (.int 2))))) (dRet (eOpF pIx 1 (bOf (eOp pMod (eOpF pAdd 2 (bOf (eD (.int 1)))) (bOf (eC1 pLen (bVar 1))))))) z1a) (dSeq (dIf (dAnd (dTr (eOpF pEq 3 (bOf (eD (.int 3))))) (dTr (eOp pGt (z06 z04 [.io 0,.val (eD (.int 4))]) (bOf (eD (.int 0)))))) (dRet (eOpF pIx 1 (bVar 2))) z1a) (dRet (eOpF pIx 1 (bOf (z06 z04 [.io 0,.val (eC1 pLen (bVar 1))])))))))
def z0s:DF:=gOf [0] 4 z2E
theorem z3P:z1S z0s:=z0z
theorem z4W:FnScope ["pen","tiles","place","way"] ["pen","tiles","place","way"] (z0b z2v):=⟨rfl,rfl,rfl,by decide +kernel,rfl,by decide +kernel,by decide +kernel⟩
theorem z55 {K:W1} (F:Fun K "_law_pick" "_law_pick" z2v f fd) (hm:mg "_law_pick" = some (.ref f)) (hb:Binds K fd ["pen","tiles","place","way"] []) (T:Txt K mg) (k__law_draw:KFn P w K mg base 2 "_law_draw" 2 z04):KFn P w K mg base 3 "_law_pick" 4 z0s :=
 z1A (np:=[0]) (fb:=z2E) F hm hb z4W (fun c cdv A outer s H E hr hnp=>by
  have hq:=z2q hr
  refine (z03 ?_ ?_)
  ·refine (z2H ?_ ?_ ?_)
   ·exact (z2u (z26 hq) z3n (pv 3) (z0c z02) (z1i _))
   ·refine (z0l ?_)
    refine (z0W ?_)
    exact (z0P z0K z1h (pv 1) (z0c (@z0i _ _ _ _ _ (2) _ _ _ _ _ k__law_draw z08 (hr.mono (by decide)) rfl (z1m (pv 0) (z0a (z25 z14 z1s (pv 2) (z0c z02)) z0y (by rfl)) (by rfl)) rfl (by decide) (by rfl) (by rfl))) (fun _ _=>rfl))
   ·exact z1w
  refine (z03 ?_ ?_)
  ·refine (z2H ?_ ?_ ?_)
   ·exact (z2u (z26 hq) z3n (pv 3) (z0c z02) (z1i _))
   ·refine (z0l ?_)
    refine (z0W ?_)
    exact (z0P z0K z1h (pv 1) (z0c (z1j z2Q z2S (z25 z14 z1s (pv 2) (z0c z02)) (z0c (z3g rfl T.z_len (z0m (pv 1)) (by rfl))))) (fun _ _=>rfl))
   ·exact z1w
  refine (z03 ?_ ?_)
  ·refine (z2H ?_ ?_ ?_)
   ·exact (za1 (z9t (z2u (z26 hq) z3n (pv 3) (z0c z02) (z1i _)) (z6Y (z3d z7D z58 (@z0i _ _ _ _ _ (2) _ _ _ _ _ k__law_draw z08 (hr.mono (by decide)) rfl (z1m (pv 0) (z0a z02 z0y (by rfl)) (by rfl)) rfl (by decide) (by rfl) (by rfl)) (z0c z02) (z1i _)))))
   ·refine (z0l ?_)
    refine (z0W ?_)
    exact (z0P z0K z1h (pv 1) (z0m (pv 2)) (fun _ _=>rfl))
   ·exact z1w
  refine (z0l ?_)
  refine (z0W ?_)
  exact (z0P z0K z1h (pv 1) (z0c (@z0i _ _ _ _ _ (2) _ _ _ _ _ k__law_draw z08 (hr.mono (by decide)) rfl (z1m (pv 0) (z0a (z3g rfl T.z_len (z0m (pv 1)) (by rfl)) z0y (by rfl)) (by rfl)) rfl (by decide) (by rfl) (by rfl))) (fun _ _=>rfl))) fun ss y h=>z0X h
def z1M:DS:=(dSeq (dAsg (z06 z0F [.io 0]) (gTp 2 (z05 (gNm [0] 2) (z05 (gNm [0] 3) z0R)))) (dSeq (dAsg (eOp pAdd (eD (.int 1)) (bOf (z06 z04 [.io 0,.val (eVar 1)]))) (gNm [0] 4)) (dSeq (dAsg (z06 z04 [.io 0,.val (eD (.int 26))]) (gNm [0] 5)) (dSeq (dAsg (eD (.str [97,98,99,100,101,102,103,104,105,106,107,108,109,110,111,112,113,114,115,116,117,118,119,120,121,122])) (gNm [0] 6)) (dSeq (dAsg (eC1 z31 (bOf (z0r [13] (z0E (eVar 4)) (gNm [0] 13) dYes (eOpF pIx 6 (bOf (eOp pMod (eOpF pAdd 5 (bOf (eOp z1q (eD (.int 5)) (bVar 13)))) (bOf (eD (.int 26))))))))) (gNm [0] 7)) (dSeq (dAsg (z06 z04 [.io 0,.val (eD (.int 5))]) (gNm [0] 8)) (dSeq (dAsg (eLst aNil) (gNm [0] 9)) (dSeq (dFor (z0E (eVar 4)) (gNm [0] 10) (dSeq (dAsg (eLst aNil) (gNm [0] 11)) (dSeq (dFor (z0E (eVar 2)) (gNm [0] 12) (z0I 11 (eC1 (z1L []) (bOf (z0r [14] (z0E (eVar 3)) (gNm [0] 14) dYes (z06 z0s [.io 0,.val (eVar 7),.val (eVar 10),.val (eVar 8)])))))) (z0I 9 (eTup (z0U (eOpF pIx 7 (bVar 10)) (z0U (eC1 z0d (bVar 11)) aNil))))))) (dRet (eTup (z0U (eVar 2) (z0U (eVar 3) (z0U (eC1 z0d (bVar 9)) aNil)))))))))))))
def z0u:DF:=gOf [0] 15 z1M
theorem z2T:z1S z0u:=z0z
theorem sc__law_rule_by:FnScope ["pen","most","high","wide","size","first","letters","tiles","way","blocks","place","block","row","k","column"] ["pen","most"] (z0b z1J):=⟨rfl,rfl,rfl,by decide +kernel,rfl,by decide +kernel,by decide +kernel⟩
theorem z3J {K:W1} (F:Fun K "_law_rule_by" "_law_rule_by" z1J f fd) (hm:mg "_law_rule_by" = some (.ref f)) (hb:Binds K fd ["pen","most"] []) (T:Txt K mg) (k__law_draw:KFn P w K mg base 2 "_law_draw" 2 z04) (k__law_sizes_by:KFn P w K mg base 3 "_law_sizes_by" 1 z0F) (k__law_pick:KFn P w K mg base 3 "_law_pick" 4 z0s):KFn P w K mg base 4 "_law_rule_by" 2 z0u :=
 z1A (np:=[0]) (fb:=z1M) F hm hb sc__law_rule_by (fun c cdv A outer s H E hr hnp=>by
  have hq:=z2q hr
  refine (@z03 _ _ _ _ _ _ ?_ ?_)
  ·refine (@z9u _ _ _ _ _ _ _ ?_ ?_ (by rfl) (by rfl) (by rfl))
   ·exact (@z0i _ _ _ _ _ (3) _ _ _ _ _ k__law_sizes_by z2z (hr.mono (by decide)) rfl (@z1m _ _ _ _ _ _ (pv 0) (@z0y _ _) (by rfl)) rfl (by decide) (by rfl) (by rfl))
   ·exact (@z65 _ _ _ _ _ _ _ rfl (@z1F _ _ _ _ _ _ (@z12 _ _ _ ([0]) (2) _ hnp sc__law_rule_by.nd rfl (by first | exact Or.inl rfl | exact Or.inr rfl) (Or.inl rfl)) (@z1F _ _ _ _ _ _ (@z12 _ _ _ ([0]) (3) _ hnp sc__law_rule_by.nd rfl (by first | exact Or.inl rfl | exact Or.inr rfl) (Or.inl rfl)) (@z4v _ _) (by rfl)) (by rfl)) (by rfl) (by rfl))
  refine (@z03 _ _ _ _ _ _ ?_ ?_)
  ·exact (@z0t _ _ _ _ _ _ ([0]) (4) _ hnp sc__law_rule_by.nd rfl (by first | exact Or.inl rfl | exact Or.inr rfl) (@z1j _ _ _ _ _ _ _ _ _ _ z14 z1s (@z02 _ _ _ _ _) (@z0c _ _ _ _ (@z0i _ _ _ _ _ (2) _ _ _ _ _ k__law_draw z08 (hr.mono (by decide)) rfl (@z1m _ _ _ _ _ _ (pv 0) (@z0a _ _ _ _ _ _ (@z07 _ _ _ _ (pv 1)) (@z0y _ _) (by rfl)) (by rfl)) rfl (by decide) (by rfl) (by rfl)))) rfl (Or.inl rfl))
  refine (@z03 _ _ _ _ _ _ ?_ ?_)
  ·exact (@z0t _ _ _ _ _ _ ([0]) (5) _ hnp sc__law_rule_by.nd rfl (by first | exact Or.inl rfl | exact Or.inr rfl) (@z0i _ _ _ _ _ (2) _ _ _ _ _ k__law_draw z08 (hr.mono (by decide)) rfl (@z1m _ _ _ _ _ _ (pv 0) (@z0a _ _ _ _ _ _ (@z02 _ _ _ _ _) (@z0y _ _) (by rfl)) (by rfl)) rfl (by decide) (by rfl) (by rfl)) rfl (Or.inl rfl))
  refine (@z03 _ _ _ _ _ _ ?_ ?_)
  ·exact (@z0t _ _ _ _ _ _ ([0]) (6) _ hnp sc__law_rule_by.nd rfl (by first | exact Or.inl rfl | exact Or.inr rfl) (@z79 _ _ _ _ _ [97,98,99,100,101,102,103,104,105,106,107,108,109,110,111,112,113,114,115,116,117,118,119,120,121,122] (by decide +kernel)) rfl (Or.inl rfl))
  refine (@z03 _ _ _ _ _ _ ?_ ?_)
  ·exact (@z0t _ _ _ _ _ _ ([0]) (7) _ hnp sc__law_rule_by.nd rfl (by first | exact Or.inl rfl | exact Or.inr rfl) (@z7a _ _ _ _ _ _ rfl T.z_sorted (@z0c _ _ _ _ (@z13 _ _ ([13]) _ _ _ _ _ _ _ _ _ _ rfl (@z0h _ _ _ rfl rfl) (@z1e _ _ _ _ _ _ _ rfl T.z_range (@z07 _ _ _ _ (pv 4)) (by rfl)) (fun l s0 H0 ex=>(@z0f _ _ _ _ ([0]) (13) _ hnp sc__law_rule_by.nd rfl (by first | exact Or.inl rfl | exact Or.inr rfl) (by first | exact Or.inl rfl | exact Or.inr rfl) (by decide))) (fun l s0 H0 ex=>(@z0H _ _)) (fun l s0 H0 ex=>(@z0P _ _ _ _ _ _ _ _ _ z0K z1h (pv 6) (@z0c _ _ _ _ (@z1j _ _ _ _ _ _ _ _ _ _ z2Q z2S (@z25 _ _ _ _ _ _ _ _ _ _ z14 z1s (pv 5) (@z0c _ _ _ _ (@z1j _ _ _ _ _ _ _ _ _ _ z3I z3L (@z02 _ _ _ _ _) (@z0m _ _ _ _ (pv 13))))) (@z0c _ _ _ _ (@z02 _ _ _ _ _)))) (fun _ _=>rfl))) (z11 hnp rfl) (by intro _; rfl))) (by rfl)) rfl (Or.inl rfl))
  refine (@z03 _ _ _ _ _ _ ?_ ?_)
  ·exact (@z0t _ _ _ _ _ _ ([0]) (8) _ hnp sc__law_rule_by.nd rfl (by first | exact Or.inl rfl | exact Or.inr rfl) (@z0i _ _ _ _ _ (2) _ _ _ _ _ k__law_draw z08 (hr.mono (by decide)) rfl (@z1m _ _ _ _ _ _ (pv 0) (@z0a _ _ _ _ _ _ (@z02 _ _ _ _ _) (@z0y _ _) (by rfl)) (by rfl)) rfl (by decide) (by rfl) (by rfl)) rfl (Or.inl rfl))
  refine (@z03 _ _ _ _ _ _ ?_ ?_)
  ·exact (@z0t _ _ _ _ _ _ ([0]) (9) _ hnp sc__law_rule_by.nd rfl (by first | exact Or.inl rfl | exact Or.inr rfl) (@z3f _ _ _ _ _ (@z1G _ _) (by decide)) rfl (Or.inl rfl))
  refine (@z03 _ _ _ _ _ _ ?_ ?_)
  ·refine (@z2I _ _ _ _ _ _ _ _ _ PassesOwn.never rfl ?_ ?_ ?_ (by intro _; rfl))
   ·exact (@z1e _ _ _ _ _ _ _ rfl T.z_range (@z07 _ _ _ _ (pv 4)) (by rfl))
   ·exact (@z12 _ _ _ ([0]) (10) _ hnp sc__law_rule_by.nd rfl (by first | exact Or.inl rfl | exact Or.inr rfl) (Or.inl rfl))
   ·refine (@z03 _ _ _ _ _ _ ?_ ?_)
    ·exact (@z0t _ _ _ _ _ _ ([0]) (11) _ hnp sc__law_rule_by.nd rfl (by first | exact Or.inl rfl | exact Or.inr rfl) (@z3f _ _ _ _ _ (@z1G _ _) (by decide)) rfl (Or.inl rfl))
    refine (@z03 _ _ _ _ _ _ ?_ ?_)
    ·refine (@z2I _ _ _ _ _ _ _ _ _ PassesOwn.never rfl ?_ ?_ ?_ (by intro _; rfl))
     ·exact (@z1e _ _ _ _ _ _ _ rfl T.z_range (@z07 _ _ _ _ (pv 2)) (by rfl))
     ·exact (@z12 _ _ _ ([0]) (12) _ hnp sc__law_rule_by.nd rfl (by first | exact Or.inl rfl | exact Or.inr rfl) (Or.inl rfl))
     ·refine (@z0l _ _ _ _ ?_)
      exact (@z1O _ _ _ _ _ _ _ _ _ (pv 11) (@z5A _ _ _ _ _ _ _ _ _ [] (@z0c _ _ _ _ (@z13 _ _ ([14]) _ _ _ _ _ _ _ _ _ _ rfl (@z0h _ _ _ rfl rfl) (@z1e _ _ _ _ _ _ _ rfl T.z_range (@z07 _ _ _ _ (pv 3)) (by rfl)) (fun l s0 H0 ex=>(@z0f _ _ _ _ ([0]) (14) _ hnp sc__law_rule_by.nd rfl (by first | exact Or.inl rfl | exact Or.inr rfl) (by first | exact Or.inl rfl | exact Or.inr rfl) (by decide))) (fun l s0 H0 ex=>(@z0H _ _)) (fun l s0 H0 ex=>(@z0i _ _ _ _ _ (3) _ _ _ _ _ k__law_pick z3P (hr.mono (by decide)) rfl (@z1m _ _ _ _ _ _ (pv 0) (@z0a _ _ _ _ _ _ (@z07 _ _ _ _ (pv 7)) (@z0a _ _ _ _ _ _ (@z07 _ _ _ _ (pv 10)) (@z0a _ _ _ _ _ _ (@z07 _ _ _ _ (pv 8)) (@z0y _ _) (by rfl)) (by rfl)) (by rfl)) (by rfl)) rfl (by decide) (by rfl) (by rfl))) (z11 hnp rfl) (by intro _; rfl))) (by decide +kernel) (by rfl) (by rfl) (by rfl) (by rfl)) (by rfl) (by rfl) (by rfl) (by rfl) (by rfl))
    refine (@z0l _ _ _ _ ?_)
    exact (@z1O _ _ _ _ _ _ _ _ _ (pv 9) (@z3D _ _ _ _ _ _ (@z0x _ _ _ _ _ _ (@z0P _ _ _ _ _ _ _ _ _ z0K z1h (pv 7) (@z0m _ _ _ _ (pv 10)) (fun _ _=>rfl)) (@z0x _ _ _ _ _ _ (@z10 _ _ _ _ _ _ rfl T.z_tuple (@z0m _ _ _ _ (pv 11)) (by rfl)) (@z1G _ _) (by rfl)) (by rfl)) (by decide)) (by rfl) (by rfl) (by rfl) (by rfl) (by rfl))
  refine (@z0l _ _ _ _ ?_)
  refine (@z0W _ _ _ _ _ ?_)
  exact (@z3D _ _ _ _ _ _ (@z0x _ _ _ _ _ _ (@z07 _ _ _ _ (pv 2)) (@z0x _ _ _ _ _ _ (@z07 _ _ _ _ (pv 3)) (@z0x _ _ _ _ _ _ (@z10 _ _ _ _ _ _ rfl T.z_tuple (@z0m _ _ _ _ (pv 9)) (by rfl)) (@z1G _ _) (by rfl)) (by rfl)) (by rfl)) (by decide))) fun ss y h=>z0X h
def z2k:DS:=(dSeq (dAsg (z0r [7] (iSq (eOpF pIx 0 (bOf (eD (.int 2))))) (gNm [] 7) dYes (eOpF pIx 7 (bOf (eD (.int 0))))) (gNm [] 1)) (dSeq (dAsg z82 (gNm [] 2)) (dSeq (dFor (iSq (eOpF pIx 0 (bOf (eD (.int 2))))) (gTp 2 (z05 (gNm [] 3) (z05 (gNm [] 4) z0R))) (dSeq (dTab 2 3 6 (eOp z2P (z39 [.int 0]) (bOf (eC1 pLen (bVar 1)))) (eC1 (z1L []) (bVar 4)) (gNm [2] 5) (dAsg (z4a 1 (eVar 5)) (gNm [2] 6))) z1a)) (z9d [] 2))))
def z0v:DF:=gOf [] 8 z2k
theorem z28:z1S z0v:=z0z
theorem sc__law_table:FnScope ["rule","tiles","found","tile","block","sign","place","pair"] ["rule"] (z0b z2b):=⟨rfl,rfl,rfl,by decide +kernel,rfl,by decide +kernel,by decide +kernel⟩
theorem z4F {K:W1} (F:Fun K "_law_table" "_law_table" z2b f fd) (hm:mg "_law_table" = some (.ref f)) (hb:Binds K fd ["rule"] []) (T:Txt K mg):KFn P w K mg base 1 "_law_table" 1 z0v :=
 z1A (np:=[]) (fb:=z2k) F hm hb sc__law_table (fun c cdv A outer s H E hr hnp=>by
  have hq:=z2q hr
  refine (z03 ?_ ?_)
  ·exact (@z1u _ _ ([7]) _ _ _ _ _ _ _ _ _ _ ([]) (1) _ _ _ hnp rfl (z0h rfl rfl) sc__law_table.nd rfl rfl (z1T (z0P z0K z1h (pv 0) (z0c z02) (fun _ _=>rfl))) (fun l s0 H0 ex=>(@z0f _ _ _ _ ([]) (7) _ hnp sc__law_table.nd rfl (by first | exact Or.inl rfl | exact Or.inr rfl) (by first | exact Or.inl rfl | exact Or.inr rfl) (by decide))) (fun l s0 H0 ex=>z0H) (fun l s0 H0 ex=>(z0P z0K z1h (pv 7) (z0c z02) (fun _ _=>rfl))) (z11 hnp rfl) (by rfl) (by intro _; rfl))
  refine (z03 ?_ ?_)
  ·exact (@z0t _ _ _ _ _ _ ([]) (2) _ hnp sc__law_table.nd rfl (by first | exact Or.inl rfl | exact Or.inr rfl) z8D rfl (Or.inl rfl))
  refine (z03 ?_ ?_)
  ·refine (z2I PassesOwn.never rfl ?_ ?_ ?_ (by intro _; rfl))
   ·exact (z1T (z0P z0K z1h (pv 0) (z0c z02) (fun _ _=>rfl)))
   ·exact (z65 rfl (z1F (@z12 _ _ _ ([]) (3) _ hnp sc__law_table.nd rfl (by first | exact Or.inl rfl | exact Or.inr rfl) (Or.inl rfl)) (z1F (@z12 _ _ _ ([]) (4) _ hnp sc__law_table.nd rfl (by first | exact Or.inl rfl | exact Or.inr rfl) (Or.inl rfl)) z4v (by rfl)) (by rfl)) (by rfl) (by rfl))
   ·refine (zb4 (i:=2) (j:=3) (m:=6) hq PassesOwn.never rfl (pv 2) (pv 3) ?_ (pv 2) (pv 3) (pv 6) (pv 2) (pv 3) (pv 6) ?_ ?_ ?_ ?_ (fun _ _=>rfl) (fun _ _=>rfl) (fun _ _=>rfl))
    ·exact (z1j z7B z7F (z3E (by rfl) (by decide)) (z0c (z3g rfl T.z_len (z0m (pv 1)) (by rfl))))
    ·intro pp pa; have hnp:=Np.park (c:=c.plus pp) (i:=2) (a:=pa) hnp; exact (z5A [] (z0m (pv 4)) (by decide +kernel) (by rfl) (by rfl) (by rfl) (by rfl))
    ·intro pp pa; have hnp:=Np.park (c:=c.plus pp) (i:=2) (a:=pa) hnp; exact (@z12 _ _ _ ([2]) (5) _ hnp sc__law_table.nd rfl (by first | exact Or.inl rfl | exact Or.inr rfl) (Or.inl rfl))
    ·intro pp pa; have hnp:=Np.park (c:=c.plus pp) (i:=2) (a:=pa) hnp; exact (@z0t _ _ _ _ _ _ ([2]) (6) _ hnp sc__law_table.nd rfl (by first | exact Or.inl rfl | exact Or.inr rfl) (za5 (pv 1) (z07 (pv 5)) (by rfl) (by rfl) (by rfl) (by rfl)) rfl (Or.inl rfl))
    exact z1w
  refine (z0l ?_)
  exact (za2 hnp (pv 2))) fun ss y h=>z0X h
def z3k:DS:=(dRet (eAnd (eIsi "int" (bVar 0)) (eNot (eIsi "bool" (bVar 0)))))
def z0B:DF:=gOf [] 1 z3k
theorem z3r:z1S z0B:=z0z
theorem z4w:FnScope ["found"] ["found"] (z0b z2a):=⟨rfl,rfl,rfl,by decide +kernel,rfl,by decide +kernel,by decide +kernel⟩
theorem z4E {K:W1} (F:Fun K "_law_whole" "_law_whole" z2a f fd) (hm:mg "_law_whole" = some (.ref f)) (hb:Binds K fd ["found"] []) (T:Txt K mg):KFn P w K mg base 1 "_law_whole" 1 z0B :=
 z1A (np:=[]) (fb:=z3k) F hm hb z4w (fun c cdv A outer s H E hr hnp=>by
  have hq:=z2q hr
  refine (z0l ?_)
  refine (z0W ?_)
  exact (z9y (z67 T.ty_int rfl T.z_isinstance rfl T.z_int boot_int (z0m (pv 0)) (by decide) (by decide) (by rfl) (by rfl)) (z9x (zb9 (z67 T.ty_bool rfl T.z_isinstance rfl T.z_bool boot_bool (z0m (pv 0)) (by decide) (by decide) (by rfl) (by rfl)))))) fun ss y h=>z0X h
def z1D:DS:=(dSeq (dIf (dOr (dNot (dTr (eIsi "tuple" (bVar 0)))) (dNot (dTr (eC1 pAll (bOf (z0r [2] (iSq (eVar 0)) (gNm [] 2) dYes (eIsi "tuple" (bVar 2)))))))) (dRet (eD (.bl false))) z1a) (dRet (eAnd (eOpF pEq 0 (bVar 1)) (eC1 pAll (bOf (z0r [2] (iSq (eVar 0)) (gNm [] 2) dYes (eC1 pAll (bOf (z0r [3] (iSq (eVar 2)) (gNm [] 3) dYes (z06 z0B [.val (eVar 3)]))))))))))
def z0e:DF:=gOf [] 4 z1D
theorem z1z:z1S z0e:=z0z
theorem sc__law_table_is:FnScope ["found","due","row","one"] ["found","due"] (z0b z1x):=⟨rfl,rfl,rfl,by decide +kernel,rfl,by decide +kernel,by decide +kernel⟩
theorem z3l {K:W1} (F:Fun K "_law_table_is" "_law_table_is" z1x f fd) (hm:mg "_law_table_is" = some (.ref f)) (hb:Binds K fd ["found","due"] []) (T:Txt K mg) (k__law_whole:KFn P w K mg base 1 "_law_whole" 1 z0B):KFn P w K mg base 2 "_law_table_is" 2 z0e :=
 z1A (np:=[]) (fb:=z1D) F hm hb sc__law_table_is (fun c cdv A outer s H E hr hnp=>by
  have hq:=z2q hr
  refine (z03 ?_ ?_)
  ·refine (z2H ?_ ?_ ?_)
   ·exact (za1 (sw_or (z61 (z60 (z67 T.ty_tuple rfl T.z_isinstance rfl T.z_tuple boot_tuple (z0m (pv 0)) (by decide) (by decide) (by rfl) (by rfl)) (by intro _; rfl))) (zb2 (z61 (z60 (z7e rfl rfl T.z_all (z0c (@z13 _ _ ([2]) _ _ _ _ _ _ _ _ _ _ rfl (z0h rfl rfl) (z1T (z07 (pv 0))) (fun l s0 H0 ex=>(@z0f _ _ _ _ ([]) (2) _ hnp sc__law_table_is.nd rfl (by first | exact Or.inl rfl | exact Or.inr rfl) (by first | exact Or.inl rfl | exact Or.inr rfl) (by decide))) (fun l s0 H0 ex=>z0H) (fun l s0 H0 ex=>(z67 T.ty_tuple rfl T.z_isinstance rfl T.z_tuple boot_tuple (z0m (pv 2)) (by decide) (by decide) (by rfl) (by rfl))) (z11 hnp rfl) (by intro _; rfl))) (by rfl)) (by intro _; rfl))))))
   ·refine (z0l ?_)
    refine (z0W ?_)
    exact z7d
   ·exact z1w
  refine (z0l ?_)
  refine (z0W ?_)
  exact (z9y (z5B (z26 hq) z3n (pv 0) (z0m (pv 1)) (z1i _)) (z9x (z7e rfl rfl T.z_all (z0c (@z13 _ _ ([2]) _ _ _ _ _ _ _ _ _ _ rfl (z0h rfl rfl) (z1T (z07 (pv 0))) (fun l s0 H0 ex=>(@z0f _ _ _ _ ([]) (2) _ hnp sc__law_table_is.nd rfl (by first | exact Or.inl rfl | exact Or.inr rfl) (by first | exact Or.inl rfl | exact Or.inr rfl) (by decide))) (fun l s0 H0 ex=>z0H) (fun l s0 H0 ex=>(z7e rfl rfl T.z_all (z0c (@z13 _ _ ([3]) _ _ _ _ _ _ _ _ _ _ rfl (z0h rfl rfl) (z1T (z07 (pv 2))) (fun l s0 H0 ex=>(@z0f _ _ _ _ ([]) (3) _ hnp sc__law_table_is.nd rfl (by first | exact Or.inl rfl | exact Or.inr rfl) (by first | exact Or.inl rfl | exact Or.inr rfl) (by decide))) (fun l s0 H0 ex=>z0H) (fun l s0 H0 ex=>(@z0i _ _ _ _ _ (1) _ _ _ _ _ k__law_whole z3r (hr.mono (by decide)) rfl (z0a (z07 (pv 3)) z0y (by rfl)) rfl (by decide) (by rfl) (by rfl))) (z11 hnp rfl) (by intro _; rfl))) (by rfl))) (z11 hnp rfl) (by intro _; rfl))) (by rfl))))) fun ss y h=>z0X h
def z2j:DS:=(dRet (z0r [1,2] (iSq (eOpF pIx 0 (bOf (eD (.int 2))))) (gTp 2 (z05 (gNm [] 1) (z05 (gNm [] 2) z0R))) dYes (eVar 1)))
def z0Y:DF:=gOf [] 3 z2j
theorem z3q:z1S z0Y:=z0z
theorem sc_rule_tiles:FnScope ["rule","tile","block"] ["rule"] (z0b z29):=⟨rfl,rfl,rfl,by decide +kernel,rfl,by decide +kernel,by decide +kernel⟩
theorem z4D {K:W1} (F:Fun K "rule_tiles" "rule_tiles" z29 f fd) (hm:mg "rule_tiles" = some (.ref f)) (hb:Binds K fd ["rule"] []) (T:Txt K mg):KFn P w K mg base 1 "rule_tiles" 1 z0Y :=
 z1A (np:=[]) (fb:=z2j) F hm hb sc_rule_tiles (fun c cdv A outer s H E hr hnp=>by
  have hq:=z2q hr
  refine (z0l ?_)
  refine (z0W ?_)
  exact (@z13 _ _ ([1,2]) _ _ _ _ _ _ _ _ _ _ rfl (z0h rfl rfl) (z1T (z0P z0K z1h (pv 0) (z0c z02) (fun _ _=>rfl))) (fun l s0 H0 ex=>(z3C rfl (z15 (@z0f _ _ _ _ ([]) (1) _ hnp sc_rule_tiles.nd rfl (by first | exact Or.inl rfl | exact Or.inr rfl) (by first | exact Or.inl rfl | exact Or.inr rfl) (by decide)) (z15 (@z0f _ _ _ _ ([]) (2) _ hnp sc_rule_tiles.nd rfl (by first | exact Or.inl rfl | exact Or.inr rfl) (by first | exact Or.inl rfl | exact Or.inr rfl) (by decide)) z2K (by rfl)) (by rfl)) (by rfl) (by rfl))) (fun l s0 H0 ex=>z0H) (fun l s0 H0 ex=>(z07 (pv 1))) (z11 hnp rfl) (by intro _; rfl))) fun ss y h=>z0X h
def z3b:DS:=(dSeq (dAsg (z06 z0Y [.val (eVar 0)]) (gNm [] 1)) (dRet (eC1 z0d (bOf (z0r [2,3] (iSq (eOpF pIx 0 (bOf (eD (.int 2))))) (gTp 2 (z05 (gNm [] 2) (z05 (gNm [] 3) z0R))) dYes (eC1 z0d (bOf (z0r [4] (iSq (eVar 1)) (gNm [] 4) dYes (eCnt (eC1 (z1L []) (bVar 3)) (eVar 4))))))))))
def z0J:DF:=gOf [] 5 z3b
theorem z2s:z1S z0J:=z0z
theorem sc_table_of:FnScope ["rule","tiles","own","block","tile"] ["rule"] (z0b z2Z):=⟨rfl,rfl,rfl,by decide +kernel,rfl,by decide +kernel,by decide +kernel⟩
theorem z5K {K:W1} (F:Fun K "table_of" "table_of" z2Z f fd) (hm:mg "table_of" = some (.ref f)) (hb:Binds K fd ["rule"] []) (T:Txt K mg) (k_rule_tiles:KFn P w K mg base 1 "rule_tiles" 1 z0Y):KFn P w K mg base 2 "table_of" 1 z0J :=
 z1A (np:=[]) (fb:=z3b) F hm hb sc_table_of (fun c cdv A outer s H E hr hnp=>by
  have hq:=z2q hr
  refine (z03 ?_ ?_)
  ·exact (@z0t _ _ _ _ _ _ ([]) (1) _ hnp sc_table_of.nd rfl (by first | exact Or.inl rfl | exact Or.inr rfl) (@z0i _ _ _ _ _ (1) _ _ _ _ _ k_rule_tiles z3q (hr.mono (by decide)) rfl (z0a (z07 (pv 0)) z0y (by rfl)) rfl (by decide) (by rfl) (by rfl)) rfl (Or.inl rfl))
  refine (z0l ?_)
  refine (z0W ?_)
  exact (z10 rfl T.z_tuple (z0c (@z13 _ _ ([2,3]) _ _ _ _ _ _ _ _ _ _ rfl (z0h rfl rfl) (z1T (z0P z0K z1h (pv 0) (z0c z02) (fun _ _=>rfl))) (fun l s0 H0 ex=>(z3C rfl (z15 (@z0f _ _ _ _ ([]) (2) _ hnp sc_table_of.nd rfl (by first | exact Or.inl rfl | exact Or.inr rfl) (by first | exact Or.inl rfl | exact Or.inr rfl) (by decide)) (z15 (@z0f _ _ _ _ ([]) (3) _ hnp sc_table_of.nd rfl (by first | exact Or.inl rfl | exact Or.inr rfl) (by first | exact Or.inl rfl | exact Or.inr rfl) (by decide)) z2K (by rfl)) (by rfl)) (by rfl) (by rfl))) (fun l s0 H0 ex=>z0H) (fun l s0 H0 ex=>(z10 rfl T.z_tuple (z0c (@z13 _ _ ([4]) _ _ _ _ _ _ _ _ _ _ rfl (z0h rfl rfl) (z1T (z07 (pv 1))) (fun l s0 H0 ex=>(@z0f _ _ _ _ ([]) (4) _ hnp sc_table_of.nd rfl (by first | exact Or.inl rfl | exact Or.inr rfl) (by first | exact Or.inl rfl | exact Or.inr rfl) (by decide))) (fun l s0 H0 ex=>z0H) (fun l s0 H0 ex=>(za6 (z5A [] (z0m (pv 3)) (by decide +kernel) (by rfl) (by rfl) (by rfl) (by rfl)) (z07 (pv 4)))) (z11 hnp rfl) (by intro _; rfl))) (by rfl))) (z11 hnp rfl) (by intro _; rfl))) (by rfl))) fun ss y h=>z0X h
def z24:DS:=(dSeq (dAsg (z0r [11] (iSq (eOpF pIx 0 (bOf (eD (.int 2))))) (gNm [] 11) dYes (eOpF pIx 11 (bOf (eD (.int 0))))) (gNm [] 3)) (dSeq (dAsg (z06 z0v [.val (eVar 0)]) (gNm [] 4)) (dSeq (dAsg (z0r [12] (iSq (eVar 3)) (gNm [] 12) dYes (eC1 pInt (bOf (eOpF pEq 12 (bVar 1))))) (gNm [] 5)) (dSeq (dFor (z0E (eVar 2)) (gNm [] 6) (dSeq (dAsg (eOp z2P (z39 [.int 0]) (bOf (eC1 pLen (bVar 3)))) (gNm [] 7)) (dSeq (dFor (z38 (eVar 5) (eVar 3)) (gTp 2 (z05 (gNm [] 8) (z05 (gNm [] 9) z0R))) (dSeq (dAsg (eOpF pIxX 4 (bVar 9)) (gNm [] 10)) (dAsg (z0r [13,12] (z38 (eVar 7) (eVar 10)) (gTp 2 (z05 (gNm [] 13) (z05 (gNm [] 12) z0R))) dYes (eOpF pAdd 13 (bOf (eOpF z1q 8 (bVar 12))))) (gNm [] 7)))) (dAsg (eVar 7) (gNm [] 5))))) (dRet (z4l (eVar 3) (eVar 5)))))))
def z0N:DF:=gOf [] 14 z24
theorem z37:z1S z0N:=z0z
theorem sc__law_counts:FnScope ["rule","tile","growings","tiles","table","now","turn","later","many","tile_here","row","pair","other","one"] ["rule","tile","growings"] (z0b z1X):=⟨rfl,rfl,rfl,by decide +kernel,rfl,by decide +kernel,by decide +kernel⟩
theorem z47 {K:W1} (F:Fun K "_law_counts" "_law_counts" z1X f fd) (hm:mg "_law_counts" = some (.ref f)) (hb:Binds K fd ["rule","tile","growings"] []) (T:Txt K mg) (k__law_table:KFn P w K mg base 1 "_law_table" 1 z0v):KFn P w K mg base 2 "_law_counts" 3 z0N :=
 z1A (np:=[]) (fb:=z24) F hm hb sc__law_counts (fun c cdv A outer s H E hr hnp=>by
  have hq:=z2q hr
  refine (z03 ?_ ?_)
  ·exact (@z1u _ _ ([11]) _ _ _ _ _ _ _ _ _ _ ([]) (3) _ _ _ hnp rfl (z0h rfl rfl) sc__law_counts.nd rfl rfl (z1T (z0P z0K z1h (pv 0) (z0c z02) (fun _ _=>rfl))) (fun l s0 H0 ex=>(@z0f _ _ _ _ ([]) (11) _ hnp sc__law_counts.nd rfl (by first | exact Or.inl rfl | exact Or.inr rfl) (by first | exact Or.inl rfl | exact Or.inr rfl) (by decide))) (fun l s0 H0 ex=>z0H) (fun l s0 H0 ex=>(z0P z0K z1h (pv 11) (z0c z02) (fun _ _=>rfl))) (z11 hnp rfl) (by rfl) (by intro _; rfl))
  refine (z03 ?_ ?_)
  ·exact (@z0t _ _ _ _ _ _ ([]) (4) _ hnp sc__law_counts.nd rfl (by first | exact Or.inl rfl | exact Or.inr rfl) (@z0i _ _ _ _ _ (1) _ _ _ _ _ k__law_table z28 (hr.mono (by decide)) rfl (z0a (z07 (pv 0)) z0y (by rfl)) rfl (by decide) (by rfl) (by rfl)) rfl (Or.inl rfl))
  refine (z03 ?_ ?_)
  ·exact (@z1u _ _ ([12]) _ _ _ _ _ _ _ _ _ _ ([]) (5) _ _ _ hnp rfl (z0h rfl rfl) sc__law_counts.nd rfl rfl (z1T (z07 (pv 3))) (fun l s0 H0 ex=>(@z0f _ _ _ _ ([]) (12) _ hnp sc__law_counts.nd rfl (by first | exact Or.inl rfl | exact Or.inr rfl) (by first | exact Or.inl rfl | exact Or.inr rfl) (by decide))) (fun l s0 H0 ex=>z0H) (fun l s0 H0 ex=>(z7b rfl T.z_int (z0c (z5B (z26 hq) z3n (pv 12) (z0m (pv 1)) (z1i _))) (by rfl))) (z11 hnp rfl) (by rfl) (by intro _; rfl))
  refine (z03 ?_ ?_)
  ·refine (z2I PassesOwn.never rfl ?_ ?_ ?_ (by intro _; rfl))
   ·exact (z1e rfl T.z_range (z07 (pv 2)) (by rfl))
   ·exact (@z12 _ _ _ ([]) (6) _ hnp sc__law_counts.nd rfl (by first | exact Or.inl rfl | exact Or.inr rfl) (Or.inl rfl))
   ·refine (z03 ?_ ?_)
    ·exact (@z0t _ _ _ _ _ _ ([]) (7) _ hnp sc__law_counts.nd rfl (by first | exact Or.inl rfl | exact Or.inr rfl) (z1j z7B z7F (z3E (by rfl) (by decide)) (z0c (z3g rfl T.z_len (z0m (pv 3)) (by rfl)))) rfl (Or.inl rfl))
    refine (z03 ?_ ?_)
    ·refine (z2I PassesOwn.never rfl ?_ ?_ ?_ (by intro _; rfl))
     ·exact (z78 rfl T.z_zip (z07 (pv 5)) (z07 (pv 3)))
     ·exact (z65 rfl (z1F (@z12 _ _ _ ([]) (8) _ hnp sc__law_counts.nd rfl (by first | exact Or.inl rfl | exact Or.inr rfl) (Or.inl rfl)) (z1F (@z12 _ _ _ ([]) (9) _ hnp sc__law_counts.nd rfl (by first | exact Or.inl rfl | exact Or.inr rfl) (Or.inl rfl)) z4v (by rfl)) (by rfl)) (by rfl) (by rfl))
     ·refine (z03 ?_ ?_)
      ·exact (@z0t _ _ _ _ _ _ ([]) (10) _ hnp sc__law_counts.nd rfl (by first | exact Or.inl rfl | exact Or.inr rfl) (z0P (ix_X hq) z9I (pv 4) (z0m (pv 9)) (fun _ _=>rfl)) rfl (Or.inl rfl))
      refine (z0l ?_)
      exact (@z1u _ _ ([13,12]) _ _ _ _ _ _ _ _ _ _ ([]) (7) _ _ _ hnp rfl (z0h rfl rfl) sc__law_counts.nd rfl rfl (z78 rfl T.z_zip (z07 (pv 7)) (z07 (pv 10))) (fun l s0 H0 ex=>(z3C rfl (z15 (@z0f _ _ _ _ ([]) (13) _ hnp sc__law_counts.nd rfl (by first | exact Or.inl rfl | exact Or.inr rfl) (by first | exact Or.inl rfl | exact Or.inr rfl) (by decide)) (z15 (@z0f _ _ _ _ ([]) (12) _ hnp sc__law_counts.nd rfl (by first | exact Or.inl rfl | exact Or.inr rfl) (by first | exact Or.inl rfl | exact Or.inr rfl) (by decide)) z2K (by rfl)) (by rfl)) (by rfl) (by rfl))) (fun l s0 H0 ex=>z0H) (fun l s0 H0 ex=>(z25 z14 z1s (pv 13) (z0c (z25 z3I z3L (pv 8) (z0m (pv 12)))))) (z11 hnp rfl) (by rfl) (by intro _; rfl))
    refine (z0l ?_)
    exact (@z0t _ _ _ _ _ _ ([]) (5) _ hnp sc__law_counts.nd rfl (by first | exact Or.inl rfl | exact Or.inr rfl) (z07 (pv 7)) rfl (Or.inl rfl))
  refine (z0l ?_)
  refine (z0W ?_)
  exact (z8C rfl rfl T.z_list rfl T.z_zip (z07 (pv 3)) (z07 (pv 5)))) fun ss y h=>z0X h
def z21:DS:=(dSeq (dAsg (eC1 pLen (bVar 0)) (gNm [] 2)) (dSeq (dAsg (z0r [6] (z0E (eVar 2)) (gNm [] 6) dYes (z0r [5] (iSq (eVar 1)) (gNm [] 5) dYes (eOpF pIx 5 (bVar 6)))) (gNm [] 3)) (dSeq (dAsg (eLst aNil) (gNm [] 4)) (dSeq (dFor (iSq (eVar 0)) (gNm [] 5) (z0I 4 (eC1 z0d (bOf (z0r [7] (iSq (eVar 3)) (gNm [] 7) dYes (eC1 z5F (bOf (z0r [8,9] (iZip (eVar 5) (eVar 7)) (gTp 2 (z05 (gNm [] 8) (z05 (gNm [] 9) z0R))) dYes (eOpF z6C 8 (bVar 9)))))))))) (dRet (eC1 z0d (bVar 4)))))))
def z0g:DF:=gOf [] 10 z21
theorem z1Q:z1S z0g:=z0z
theorem sc_table_times:FnScope ["table","other","size","columns","product","row","number","column","one","two"] ["table","other"] (z0b z1U):=⟨rfl,rfl,rfl,by decide +kernel,rfl,by decide +kernel,by decide +kernel⟩
theorem z44 {K:W1} (F:Fun K "table_times" "table_times" z1U f fd) (hm:mg "table_times" = some (.ref f)) (hb:Binds K fd ["table","other"] []) (T:Txt K mg):KFn P w K mg base 1 "table_times" 2 z0g :=
 z1A (np:=[]) (fb:=z21) F hm hb sc_table_times (fun c cdv A outer s H E hr hnp=>by
  have hq:=z2q hr
  refine (z03 ?_ ?_)
  ·exact (@z0t _ _ _ _ _ _ ([]) (2) _ hnp sc_table_times.nd rfl (by first | exact Or.inl rfl | exact Or.inr rfl) (z3g rfl T.z_len (z0m (pv 0)) (by rfl)) rfl (Or.inl rfl))
  refine (z03 ?_ ?_)
  ·exact (@z1u _ _ ([6]) _ _ _ _ _ _ _ _ _ _ ([]) (3) _ _ _ hnp rfl (z0h rfl rfl) sc_table_times.nd rfl rfl (z1e rfl T.z_range (z07 (pv 2)) (by rfl)) (fun l s0 H0 ex=>(@z0f _ _ _ _ ([]) (6) _ hnp sc_table_times.nd rfl (by first | exact Or.inl rfl | exact Or.inr rfl) (by first | exact Or.inl rfl | exact Or.inr rfl) (by decide))) (fun l s0 H0 ex=>z0H) (fun l s0 H0 ex=>(@z13 _ _ ([5]) _ _ _ _ _ _ _ _ _ _ rfl (z0h rfl rfl) (z1T (z07 (pv 1))) (fun l s0 H0 ex=>(@z0f _ _ _ _ ([]) (5) _ hnp sc_table_times.nd rfl (by first | exact Or.inl rfl | exact Or.inr rfl) (by first | exact Or.inl rfl | exact Or.inr rfl) (by decide))) (fun l s0 H0 ex=>z0H) (fun l s0 H0 ex=>(z0P z0K z1h (pv 5) (z0m (pv 6)) (fun _ _=>rfl))) (z11 hnp rfl) (by intro _; rfl))) (z11 hnp rfl) (by rfl) (by intro _; rfl))
  refine (z03 ?_ ?_)
  ·exact (@z0t _ _ _ _ _ _ ([]) (4) _ hnp sc_table_times.nd rfl (by first | exact Or.inl rfl | exact Or.inr rfl) (z3f z1G (by decide)) rfl (Or.inl rfl))
  refine (z03 ?_ ?_)
  ·refine (z2I PassesOwn.never rfl ?_ ?_ ?_ (by intro _; rfl))
   ·exact (z1T (z07 (pv 0)))
   ·exact (@z12 _ _ _ ([]) (5) _ hnp sc_table_times.nd rfl (by first | exact Or.inl rfl | exact Or.inr rfl) (Or.inl rfl))
   ·refine (z0l ?_)
    exact (z1O (pv 4) (z10 rfl T.z_tuple (z0c (@z13 _ _ ([7]) _ _ _ _ _ _ _ _ _ _ rfl (z0h rfl rfl) (z1T (z07 (pv 3))) (fun l s0 H0 ex=>(@z0f _ _ _ _ ([]) (7) _ hnp sc_table_times.nd rfl (by first | exact Or.inl rfl | exact Or.inr rfl) (by first | exact Or.inl rfl | exact Or.inr rfl) (by decide))) (fun l s0 H0 ex=>z0H) (fun l s0 H0 ex=>(za4 rfl rfl T.z_sum (z0c (@z13 _ _ ([8,9]) _ _ _ _ _ _ _ _ _ _ rfl (z0h rfl rfl) (zb6 rfl T.z_zip (z07 (pv 5)) (z07 (pv 7)) (by rfl) (by rfl) (by rfl)) (fun l s0 H0 ex=>(z3C rfl (z15 (@z0f _ _ _ _ ([]) (8) _ hnp sc_table_times.nd rfl (by first | exact Or.inl rfl | exact Or.inr rfl) (by first | exact Or.inl rfl | exact Or.inr rfl) (by decide)) (z15 (@z0f _ _ _ _ ([]) (9) _ hnp sc_table_times.nd rfl (by first | exact Or.inl rfl | exact Or.inr rfl) (by first | exact Or.inl rfl | exact Or.inr rfl) (by decide)) z2K (by rfl)) (by rfl)) (by rfl) (by rfl))) (fun l s0 H0 ex=>z0H) (fun l s0 H0 ex=>(z25 zar zau (pv 8) (z0m (pv 9)))) (z11 hnp rfl) (by intro _; rfl))))) (z11 hnp rfl) (by intro _; rfl))) (by rfl)) (by rfl) (by rfl) (by rfl) (by rfl) (by rfl))
  refine (z0l ?_)
  refine (z0W ?_)
  exact (z10 rfl T.z_tuple (z0m (pv 4)) (by rfl))) fun ss y h=>z0X h
def z22:DS:=(dSeq (dAsg (eC1 pLen (bOf (eOpF pIx 0 (bOf (eD (.int 2)))))) (gNm [] 2)) (dSeq (dAsg (eC1 z0d (bOf (z0r [6] (z0E (eVar 2)) (gNm [] 6) dYes (eC1 z0d (bOf (z0r [7] (z0E (eVar 2)) (gNm [] 7) dYes (eIf (dTr (eOpF pEq 6 (bVar 7))) (eD (.int 1)) (eD (.int 0))))))))) (gNm [] 3)) (dSeq (dAsg (z06 z0J [.val (eVar 0)]) (gNm [] 4)) (dSeq (dAsg (eVar 1) (gNm [] 5)) (dSeq (z1r (dTr (eOpF pGt 5 (bOf (eD (.int 0))))) (dSeq (dIf (dTr (eOp pEq (eOpF pMod 5 (bOf (eD (.int 2)))) (bOf (eD (.int 1))))) (dAsg (z06 z0g [.val (eVar 3),.val (eVar 4)]) (gNm [] 3)) z1a) (dSeq (dAsg (eOpF pDiv 5 (bOf (eD (.int 2)))) (gNm [] 5)) (dIf (dTr (eOpF pGt 5 (bOf (eD (.int 0))))) (dAsg (z06 z0g [.val (eVar 4),.val (eVar 4)]) (gNm [] 4)) z1a))) 1000000) (dRet (eVar 3)))))))
def z0A:DF:=gOf [] 8 z22
theorem z35:z1S z0A:=z0z
theorem sc_table_power:FnScope ["rule","growings","size","power","square","left","row","column"] ["rule","growings"] (z0b z1V):=⟨rfl,rfl,rfl,by decide +kernel,rfl,by decide +kernel,by decide +kernel⟩
theorem z45 {K:W1} (F:Fun K "table_power" "table_power" z1V f fd) (hm:mg "table_power" = some (.ref f)) (hb:Binds K fd ["rule","growings"] []) (T:Txt K mg) (k_table_of:KFn P w K mg base 2 "table_of" 1 z0J) (k_table_times:KFn P w K mg base 1 "table_times" 2 z0g):KFn P w K mg base 3 "table_power" 2 z0A :=
 z1A (np:=[]) (fb:=z22) F hm hb sc_table_power (fun c cdv A outer s H E hr hnp=>by
  have hq:=z2q hr
  refine (z03 ?_ ?_)
  ·exact (@z0t _ _ _ _ _ _ ([]) (2) _ hnp sc_table_power.nd rfl (by first | exact Or.inl rfl | exact Or.inr rfl) (z3g rfl T.z_len (z0c (z0P z0K z1h (pv 0) (z0c z02) (fun _ _=>rfl))) (by rfl)) rfl (Or.inl rfl))
  refine (z03 ?_ ?_)
  ·exact (@z0t _ _ _ _ _ _ ([]) (3) _ hnp sc_table_power.nd rfl (by first | exact Or.inl rfl | exact Or.inr rfl) (z10 rfl T.z_tuple (z0c (@z13 _ _ ([6]) _ _ _ _ _ _ _ _ _ _ rfl (z0h rfl rfl) (z1e rfl T.z_range (z07 (pv 2)) (by rfl)) (fun l s0 H0 ex=>(@z0f _ _ _ _ ([]) (6) _ hnp sc_table_power.nd rfl (by first | exact Or.inl rfl | exact Or.inr rfl) (by first | exact Or.inl rfl | exact Or.inr rfl) (by decide))) (fun l s0 H0 ex=>z0H) (fun l s0 H0 ex=>(z10 rfl T.z_tuple (z0c (@z13 _ _ ([7]) _ _ _ _ _ _ _ _ _ _ rfl (z0h rfl rfl) (z1e rfl T.z_range (z07 (pv 2)) (by rfl)) (fun l s0 H0 ex=>(@z0f _ _ _ _ ([]) (7) _ hnp sc_table_power.nd rfl (by first | exact Or.inl rfl | exact Or.inr rfl) (by first | exact Or.inl rfl | exact Or.inr rfl) (by decide))) (fun l s0 H0 ex=>z0H) (fun l s0 H0 ex=>(se_if (z2u (z26 hq) z3n (pv 6) (z0m (pv 7)) (z1i _)) z02 z02)) (z11 hnp rfl) (by intro _; rfl))) (by rfl))) (z11 hnp rfl) (by intro _; rfl))) (by rfl)) rfl (Or.inl rfl))
  refine (z03 ?_ ?_)
  ·exact (@z0t _ _ _ _ _ _ ([]) (4) _ hnp sc_table_power.nd rfl (by first | exact Or.inl rfl | exact Or.inr rfl) (@z0i _ _ _ _ _ (2) _ _ _ _ _ k_table_of z2s (hr.mono (by decide)) rfl (z0a (z07 (pv 0)) z0y (by rfl)) rfl (by decide) (by rfl) (by rfl)) rfl (Or.inl rfl))
  refine (z03 ?_ ?_)
  ·exact (@z0t _ _ _ _ _ _ ([]) (5) _ hnp sc_table_power.nd rfl (by first | exact Or.inl rfl | exact Or.inr rfl) (z07 (pv 1)) rfl (Or.inl rfl))
  refine (z03 ?_ ?_)
  ·refine (z8A 1000000 (fun h1 h2=>z8L PassesOwn.never h1 h2) ?_ ?_)
   ·exact (z2u z7D z58 (pv 5) (z0c z02) (z1i _))
   ·refine (z03 ?_ ?_)
    ·refine (z2H ?_ ?_ ?_)
     ·exact (z3d (z26 hq) z3n (z25 z2Q z2S (pv 5) (z0c z02)) (z0c z02) (z1i _))
     ·refine (z0l ?_)
      exact (@z0t _ _ _ _ _ _ ([]) (3) _ hnp sc_table_power.nd rfl (by first | exact Or.inl rfl | exact Or.inr rfl) (@z0i _ _ _ _ _ (1) _ _ _ _ _ k_table_times z1Q (hr.mono (by decide)) rfl (z0a (z07 (pv 3)) (z0a (z07 (pv 4)) z0y (by rfl)) (by rfl)) rfl (by decide) (by rfl) (by rfl)) rfl (Or.inl rfl))
     ·exact z1w
    refine (z03 ?_ ?_)
    ·exact (@z0t _ _ _ _ _ _ ([]) (5) _ hnp sc_table_power.nd rfl (by first | exact Or.inl rfl | exact Or.inr rfl) (z25 z5J z7H (pv 5) (z0c z02)) rfl (Or.inl rfl))
    refine (z0l ?_)
    refine (z2H ?_ ?_ ?_)
    ·exact (z2u z7D z58 (pv 5) (z0c z02) (z1i _))
    ·refine (z0l ?_)
     exact (@z0t _ _ _ _ _ _ ([]) (4) _ hnp sc_table_power.nd rfl (by first | exact Or.inl rfl | exact Or.inr rfl) (@z0i _ _ _ _ _ (1) _ _ _ _ _ k_table_times z1Q (hr.mono (by decide)) rfl (z0a (z07 (pv 4)) (z0a (z07 (pv 4)) z0y (by rfl)) (by rfl)) rfl (by decide) (by rfl) (by rfl)) rfl (Or.inl rfl))
    ·exact z1w
  refine (z0l ?_)
  refine (z0W ?_)
  exact (z07 (pv 3))) fun ss y h=>z0X h
def zaL:DS:=(dSeq (dFor (iSq (eOp pAdd (eLst (z0U (z06 z0C [.val (eVar 0),.val (eD (.int 0))]) aNil)) (bOf (eSlN 0 (z5M (eD (.int 1))) (z5M (eD (.int 4))))))) (gNm [] 1) (dSeq (dAsg (z06 z0M [.val (eVar 1)]) (gNm [] 2)) (dSeq (dAsg (z06 z0u [.io 2,.val (eD (.int 6))]) (gNm [] 3)) (dSeq (dIf (dTr (eOp pEq (z06 z04 [.io 2,.val (eD (.int 8))]) (bOf (eD (.int 0))))) (dSeq (dAsg (eD (.str [97,98,99,100,101,102,103,104,105,106,107,108,109,110,111,112,113,114,115,116,117,118,119,120,121,122])) (gNm [] 4)) (dAsg (eTup (z0U (eD (.int 1)) (z0U (eD (.int 2)) (z0U (eC1 z0d (bOf (z0r [12] (z0E (eD (.int 26))) (gNm [] 12) dYes (eTup (z0U (eOpF pIx 4 (bVar 12)) (z0U (eTup (z0U (eOp pAdd (eOpF pIx 4 (bVar 12)) (bOf (eOpF pIx 4 (bOf (eOp pMod (eOp pAdd (eOp z1q (eD (.int 3)) (bVar 12)) (bOf (eD (.int 1)))) (bOf (eD (.int 26)))))))) aNil)) aNil)))))) aNil)))) (gNm [] 3))) z1a) (dSeq (dAsg (z0r [11] (iSq (eOpF pIx 3 (bOf (eD (.int 2))))) (gNm [] 11) dYes (eOpF pIx 11 (bOf (eD (.int 0))))) (gNm [] 5)) (dSeq (dAsg (z06 z0v [.val (eVar 3)]) (gNm [] 6)) (dSeq (dIf (dNot (dTr (z06 z0e [.val (z06 z0J [.val (eVar 3)]),.val (eC1 z0d (bOf (z0r [10] (iSq (eVar 5)) (gNm [] 10) dYes (eC1 z0d (bOf (eOpF pIxX 6 (bVar 10)))))))]))) (dRet (eD (.bl false))) z1a) (dSeq (dAsg (eLst (z0U (eD (.int 0)) (z0U (eD (.int 1)) (z0U (eOp pAdd (eD (.int 2)) (bOf (z06 z04 [.io 2,.val (eD (.int 8))]))) aNil)))) (gNm [] 7)) (dSeq (dIf (dAnd (dTr (eOp pLt (eC1 pLen (bVar 5)) (bOf (eD (.int 4))))) (dTr (eOp pEq (z06 z04 [.io 2,.val (eD (.int 4))]) (bOf (eD (.int 0)))))) (z0I 7 (eOp pSub (eD (.int 1000)) (bOf (z06 z04 [.io 2,.val (eD (.int 2))])))) z1a) (dFor (iSq (eVar 7)) (gNm [] 8) (dSeq (dAsg (eLst aNil) (gNm [] 9)) (dSeq (dFor (iSq (eVar 5)) (gNm [] 10) (z0I 9 (eC1 z0d (bOf (z0r [13,14] (iSq (z06 z0N [.val (eVar 3),.val (eVar 10),.val (eVar 8)])) (gTp 2 (z05 (gNm [] 13) (z05 (gNm [] 14) z0R))) dYes (eVar 14)))))) (dIf (dNot (dTr (z06 z0e [.val (z06 z0A [.val (eVar 3),.val (eVar 8)]),.val (eC1 z0d (bVar 9))]))) (dRet (eD (.bl false))) z1a))))))))))))) (dRet (eD (.bl true))))
def G_law:DF:=gOf [] 15 zaL
theorem zc2:z1S G_law:=z0z
theorem sc_law:FnScope ["script","cell","pen","rule","letters","tiles","table","growings","often","due","tile","pair","k","other","many"] ["script"] (z0b z4x):=⟨rfl,rfl,rfl,by decide +kernel,rfl,by decide +kernel,by decide +kernel⟩
theorem zbL {K:W1} (F:Fun K "law" "law" z4x f fd) (T:Txt K mg) (k__law_cell_at:KFn P w K mg base 1 "_law_cell_at" 2 z0C) (k__law_pen_of:KFn P w K mg base 1 "_law_pen_of" 1 z0M) (k__law_draw:KFn P w K mg base 2 "_law_draw" 2 z04) (k__law_rule_by:KFn P w K mg base 4 "_law_rule_by" 2 z0u) (k__law_table:KFn P w K mg base 1 "_law_table" 1 z0v) (k__law_table_is:KFn P w K mg base 2 "_law_table_is" 2 z0e) (k_table_of:KFn P w K mg base 2 "table_of" 1 z0J) (k__law_counts:KFn P w K mg base 2 "_law_counts" 3 z0N) (k_table_power:KFn P w K mg base 3 "table_power" 2 z0A):FnOk P w K mg base CX0 5 f fd ["script"] (spD 1 G_law) :=
 zca (np:=[]) (fb:=zaL) F sc_law (fun c cdv A outer s H E hr hnp=>by
  have hq:=z2q hr
  refine (@z03 _ _ _ _ _ _ ?_ ?_)
  ·refine (@z2I _ _ _ _ _ _ _ _ _ PassesOwn.never rfl ?_ ?_ ?_ (by intro _; rfl))
   ·exact (@z1T _ _ _ _ _ (@z1j _ _ _ _ _ _ _ _ _ _ z14 z1s (@z3f _ _ _ _ _ (@z0x _ _ _ _ _ _ (@z0i _ _ _ _ _ (1) _ _ _ _ _ k__law_cell_at z2U (hr.mono (by decide)) rfl (@z0a _ _ _ _ _ _ (@z07 _ _ _ _ (pv 0)) (@z0a _ _ _ _ _ _ (@z02 _ _ _ _ _) (@z0y _ _) (by rfl)) (by rfl)) rfl (by decide) (by rfl) (by rfl)) (@z1G _ _) (by rfl)) (by decide)) (@z0c _ _ _ _ (@zb8 _ _ _ _ _ _ _ _ _ _ (pv 0) (@z71 _ _ _ _ (@z02 _ _ _ _ _)) (@z71 _ _ _ _ (@z02 _ _ _ _ _))))))
   ·exact (@z12 _ _ _ ([]) (1) _ hnp sc_law.nd rfl (by first | exact Or.inl rfl | exact Or.inr rfl) (Or.inl rfl))
   ·refine (@z03 _ _ _ _ _ _ ?_ ?_)
    ·exact (@z0t _ _ _ _ _ _ ([]) (2) _ hnp sc_law.nd rfl (by first | exact Or.inl rfl | exact Or.inr rfl) (@z0i _ _ _ _ _ (1) _ _ _ _ _ k__law_pen_of z36 (hr.mono (by decide)) rfl (@z0a _ _ _ _ _ _ (@z07 _ _ _ _ (pv 1)) (@z0y _ _) (by rfl)) rfl (by decide) (by rfl) (by rfl)) rfl (Or.inl rfl))
    refine (@z03 _ _ _ _ _ _ ?_ ?_)
    ·exact (@z0t _ _ _ _ _ _ ([]) (3) _ hnp sc_law.nd rfl (by first | exact Or.inl rfl | exact Or.inr rfl) (@z0i _ _ _ _ _ (4) _ _ _ _ _ k__law_rule_by z2T (hr.mono (by decide)) rfl (@z1m _ _ _ _ _ _ (pv 2) (@z0a _ _ _ _ _ _ (@z02 _ _ _ _ _) (@z0y _ _) (by rfl)) (by rfl)) rfl (by decide) (by rfl) (by rfl)) rfl (Or.inl rfl))
    refine (@z03 _ _ _ _ _ _ ?_ ?_)
    ·refine (@z2H _ _ _ _ _ _ _ _ _ ?_ ?_ ?_)
     ·exact (@z3d _ _ _ _ _ _ _ _ _ _ (z26 hq) z3n (@z0i _ _ _ _ _ (2) _ _ _ _ _ k__law_draw z08 (hr.mono (by decide)) rfl (@z1m _ _ _ _ _ _ (pv 2) (@z0a _ _ _ _ _ _ (@z02 _ _ _ _ _) (@z0y _ _) (by rfl)) (by rfl)) rfl (by decide) (by rfl) (by rfl)) (@z0c _ _ _ _ (@z02 _ _ _ _ _)) (z1i _))
     ·refine (@z03 _ _ _ _ _ _ ?_ ?_)
      ·exact (@z0t _ _ _ _ _ _ ([]) (4) _ hnp sc_law.nd rfl (by first | exact Or.inl rfl | exact Or.inr rfl) (@z79 _ _ _ _ _ [97,98,99,100,101,102,103,104,105,106,107,108,109,110,111,112,113,114,115,116,117,118,119,120,121,122] (by decide +kernel)) rfl (Or.inl rfl))
      refine (@z0l _ _ _ _ ?_)
      exact (@z0t _ _ _ _ _ _ ([]) (3) _ hnp sc_law.nd rfl (by first | exact Or.inl rfl | exact Or.inr rfl) (@z3D _ _ _ _ _ _ (@z0x _ _ _ _ _ _ (@z02 _ _ _ _ _) (@z0x _ _ _ _ _ _ (@z02 _ _ _ _ _) (@z0x _ _ _ _ _ _ (@z10 _ _ _ _ _ _ rfl T.z_tuple (@z0c _ _ _ _ (@z13 _ _ ([12]) _ _ _ _ _ _ _ _ _ _ rfl (@z0h _ _ _ rfl rfl) (@z1e _ _ _ _ _ _ _ rfl T.z_range (@z02 _ _ _ _ _) (by rfl)) (fun l s0 H0 ex=>(@z0f _ _ _ _ ([]) (12) _ hnp sc_law.nd rfl (by first | exact Or.inl rfl | exact Or.inr rfl) (by first | exact Or.inl rfl | exact Or.inr rfl) (by decide))) (fun l s0 H0 ex=>(@z0H _ _)) (fun l s0 H0 ex=>(@z3D _ _ _ _ _ _ (@z0x _ _ _ _ _ _ (@z0P _ _ _ _ _ _ _ _ _ z0K z1h (pv 4) (@z0m _ _ _ _ (pv 12)) (fun _ _=>rfl)) (@z0x _ _ _ _ _ _ (@z3D _ _ _ _ _ _ (@z0x _ _ _ _ _ _ (@z1j _ _ _ _ _ _ _ _ _ _ z14 z1s (@z0P _ _ _ _ _ _ _ _ _ z0K z1h (pv 4) (@z0m _ _ _ _ (pv 12)) (fun _ _=>rfl)) (@z0c _ _ _ _ (@z0P _ _ _ _ _ _ _ _ _ z0K z1h (pv 4) (@z0c _ _ _ _ (@z1j _ _ _ _ _ _ _ _ _ _ z2Q z2S (@z1j _ _ _ _ _ _ _ _ _ _ z14 z1s (@z1j _ _ _ _ _ _ _ _ _ _ z3I z3L (@z02 _ _ _ _ _) (@z0m _ _ _ _ (pv 12))) (@z0c _ _ _ _ (@z02 _ _ _ _ _))) (@z0c _ _ _ _ (@z02 _ _ _ _ _)))) (fun _ _=>rfl)))) (@z1G _ _) (by rfl)) (by decide)) (@z1G _ _) (by rfl)) (by rfl)) (by decide))) (z11 hnp rfl) (by intro _; rfl))) (by rfl)) (@z1G _ _) (by rfl)) (by rfl)) (by rfl)) (by decide)) rfl (Or.inl rfl))
     ·exact z1w
    refine (@z03 _ _ _ _ _ _ ?_ ?_)
    ·exact (@z1u _ _ ([11]) _ _ _ _ _ _ _ _ _ _ ([]) (5) _ _ _ hnp rfl (@z0h _ _ _ rfl rfl) sc_law.nd rfl rfl (@z1T _ _ _ _ _ (@z0P _ _ _ _ _ _ _ _ _ z0K z1h (pv 3) (@z0c _ _ _ _ (@z02 _ _ _ _ _)) (fun _ _=>rfl))) (fun l s0 H0 ex=>(@z0f _ _ _ _ ([]) (11) _ hnp sc_law.nd rfl (by first | exact Or.inl rfl | exact Or.inr rfl) (by first | exact Or.inl rfl | exact Or.inr rfl) (by decide))) (fun l s0 H0 ex=>(@z0H _ _)) (fun l s0 H0 ex=>(@z0P _ _ _ _ _ _ _ _ _ z0K z1h (pv 11) (@z0c _ _ _ _ (@z02 _ _ _ _ _)) (fun _ _=>rfl))) (z11 hnp rfl) (by rfl) (by intro _; rfl))
    refine (@z03 _ _ _ _ _ _ ?_ ?_)
    ·exact (@z0t _ _ _ _ _ _ ([]) (6) _ hnp sc_law.nd rfl (by first | exact Or.inl rfl | exact Or.inr rfl) (@z0i _ _ _ _ _ (1) _ _ _ _ _ k__law_table z28 (hr.mono (by decide)) rfl (@z0a _ _ _ _ _ _ (@z07 _ _ _ _ (pv 3)) (@z0y _ _) (by rfl)) rfl (by decide) (by rfl) (by rfl)) rfl (Or.inl rfl))
    refine (@z03 _ _ _ _ _ _ ?_ ?_)
    ·refine (@z2H _ _ _ _ _ _ _ _ _ ?_ ?_ ?_)
     ·exact (@z61 _ _ _ _ _ (@z60 _ _ _ _ (@z0i _ _ _ _ _ (2) _ _ _ _ _ k__law_table_is z1z (hr.mono (by decide)) rfl (@z0a _ _ _ _ _ _ (@z0i _ _ _ _ _ (2) _ _ _ _ _ k_table_of z2s (hr.mono (by decide)) rfl (@z0a _ _ _ _ _ _ (@z07 _ _ _ _ (pv 3)) (@z0y _ _) (by rfl)) rfl (by decide) (by rfl) (by rfl)) (@z0a _ _ _ _ _ _ (@z10 _ _ _ _ _ _ rfl T.z_tuple (@z0c _ _ _ _ (@z13 _ _ ([10]) _ _ _ _ _ _ _ _ _ _ rfl (@z0h _ _ _ rfl rfl) (@z1T _ _ _ _ _ (@z07 _ _ _ _ (pv 5))) (fun l s0 H0 ex=>(@z0f _ _ _ _ ([]) (10) _ hnp sc_law.nd rfl (by first | exact Or.inl rfl | exact Or.inr rfl) (by first | exact Or.inl rfl | exact Or.inr rfl) (by decide))) (fun l s0 H0 ex=>(@z0H _ _)) (fun l s0 H0 ex=>(@z10 _ _ _ _ _ _ rfl T.z_tuple (@z0c _ _ _ _ (@z0P _ _ _ _ _ _ _ _ _ (ix_X hq) z9I (pv 6) (@z0m _ _ _ _ (pv 10)) (fun _ _=>rfl))) (by rfl))) (z11 hnp rfl) (by intro _; rfl))) (by rfl)) (@z0y _ _) (by rfl)) (by rfl)) rfl (by decide) (by rfl) (by rfl)) (by intro _; rfl)))
     ·refine (@z0l _ _ _ _ ?_)
      refine (@z0W _ _ _ _ _ ?_)
      exact (@z7d _ _ _ _ _)
     ·exact z1w
    refine (@z03 _ _ _ _ _ _ ?_ ?_)
    ·exact (@z0t _ _ _ _ _ _ ([]) (7) _ hnp sc_law.nd rfl (by first | exact Or.inl rfl | exact Or.inr rfl) (@z3f _ _ _ _ _ (@z0x _ _ _ _ _ _ (@z02 _ _ _ _ _) (@z0x _ _ _ _ _ _ (@z02 _ _ _ _ _) (@z0x _ _ _ _ _ _ (@z1j _ _ _ _ _ _ _ _ _ _ z14 z1s (@z02 _ _ _ _ _) (@z0c _ _ _ _ (@z0i _ _ _ _ _ (2) _ _ _ _ _ k__law_draw z08 (hr.mono (by decide)) rfl (@z1m _ _ _ _ _ _ (pv 2) (@z0a _ _ _ _ _ _ (@z02 _ _ _ _ _) (@z0y _ _) (by rfl)) (by rfl)) rfl (by decide) (by rfl) (by rfl)))) (@z1G _ _) (by rfl)) (by rfl)) (by rfl)) (by decide)) rfl (Or.inl rfl))
    refine (@z03 _ _ _ _ _ _ ?_ ?_)
    ·refine (@z2H _ _ _ _ _ _ _ _ _ ?_ ?_ ?_)
     ·exact (@za1 _ _ _ _ (@z9t _ _ _ _ _ _ _ _ (@z3d _ _ _ _ _ _ _ _ _ _ z9G zbO (@z3g _ _ _ _ _ _ rfl T.z_len (@z0m _ _ _ _ (pv 5)) (by rfl)) (@z0c _ _ _ _ (@z02 _ _ _ _ _)) (z1i _)) (@z6Y _ _ _ _ _ (@z3d _ _ _ _ _ _ _ _ _ _ (z26 hq) z3n (@z0i _ _ _ _ _ (2) _ _ _ _ _ k__law_draw z08 (hr.mono (by decide)) rfl (@z1m _ _ _ _ _ _ (pv 2) (@z0a _ _ _ _ _ _ (@z02 _ _ _ _ _) (@z0y _ _) (by rfl)) (by rfl)) rfl (by decide) (by rfl) (by rfl)) (@z0c _ _ _ _ (@z02 _ _ _ _ _)) (z1i _)))))
     ·refine (@z0l _ _ _ _ ?_)
      exact (@z1O _ _ _ _ _ _ _ _ _ (pv 7) (@z1j _ _ _ _ _ _ _ _ _ _ z9F z9H (@z02 _ _ _ _ _) (@z0c _ _ _ _ (@z0i _ _ _ _ _ (2) _ _ _ _ _ k__law_draw z08 (hr.mono (by decide)) rfl (@z1m _ _ _ _ _ _ (pv 2) (@z0a _ _ _ _ _ _ (@z02 _ _ _ _ _) (@z0y _ _) (by rfl)) (by rfl)) rfl (by decide) (by rfl) (by rfl)))) (by rfl) (by rfl) (by rfl) (by rfl) (by rfl))
     ·exact z1w
    refine (@z0l _ _ _ _ ?_)
    refine (@z2I _ _ _ _ _ _ _ _ _ PassesOwn.never rfl ?_ ?_ ?_ (by intro _; rfl))
    ·exact (@z1T _ _ _ _ _ (@z07 _ _ _ _ (pv 7)))
    ·exact (@z12 _ _ _ ([]) (8) _ hnp sc_law.nd rfl (by first | exact Or.inl rfl | exact Or.inr rfl) (Or.inl rfl))
    ·refine (@z03 _ _ _ _ _ _ ?_ ?_)
     ·exact (@z0t _ _ _ _ _ _ ([]) (9) _ hnp sc_law.nd rfl (by first | exact Or.inl rfl | exact Or.inr rfl) (@z3f _ _ _ _ _ (@z1G _ _) (by decide)) rfl (Or.inl rfl))
     refine (@z03 _ _ _ _ _ _ ?_ ?_)
     ·refine (@z2I _ _ _ _ _ _ _ _ _ PassesOwn.never rfl ?_ ?_ ?_ (by intro _; rfl))
      ·exact (@z1T _ _ _ _ _ (@z07 _ _ _ _ (pv 5)))
      ·exact (@z12 _ _ _ ([]) (10) _ hnp sc_law.nd rfl (by first | exact Or.inl rfl | exact Or.inr rfl) (Or.inl rfl))
      ·refine (@z0l _ _ _ _ ?_)
       exact (@z1O _ _ _ _ _ _ _ _ _ (pv 9) (@z10 _ _ _ _ _ _ rfl T.z_tuple (@z0c _ _ _ _ (@z13 _ _ ([13,14]) _ _ _ _ _ _ _ _ _ _ rfl (@z0h _ _ _ rfl rfl) (@z1T _ _ _ _ _ (@z0i _ _ _ _ _ (2) _ _ _ _ _ k__law_counts z37 (hr.mono (by decide)) rfl (@z0a _ _ _ _ _ _ (@z07 _ _ _ _ (pv 3)) (@z0a _ _ _ _ _ _ (@z07 _ _ _ _ (pv 10)) (@z0a _ _ _ _ _ _ (@z07 _ _ _ _ (pv 8)) (@z0y _ _) (by rfl)) (by rfl)) (by rfl)) rfl (by decide) (by rfl) (by rfl))) (fun l s0 H0 ex=>(@z3C _ _ _ _ _ _ _ _ rfl (@z15 _ _ _ _ _ _ _ (@z0f _ _ _ _ ([]) (13) _ hnp sc_law.nd rfl (by first | exact Or.inl rfl | exact Or.inr rfl) (by first | exact Or.inl rfl | exact Or.inr rfl) (by decide)) (@z15 _ _ _ _ _ _ _ (@z0f _ _ _ _ ([]) (14) _ hnp sc_law.nd rfl (by first | exact Or.inl rfl | exact Or.inr rfl) (by first | exact Or.inl rfl | exact Or.inr rfl) (by decide)) (@z2K _ _ _) (by rfl)) (by rfl)) (by rfl) (by rfl))) (fun l s0 H0 ex=>(@z0H _ _)) (fun l s0 H0 ex=>(@z07 _ _ _ _ (pv 14))) (z11 hnp rfl) (by intro _; rfl))) (by rfl)) (by rfl) (by rfl) (by rfl) (by rfl) (by rfl))
     refine (@z0l _ _ _ _ ?_)
     refine (@z2H _ _ _ _ _ _ _ _ _ ?_ ?_ ?_)
     ·exact (@z61 _ _ _ _ _ (@z60 _ _ _ _ (@z0i _ _ _ _ _ (2) _ _ _ _ _ k__law_table_is z1z (hr.mono (by decide)) rfl (@z0a _ _ _ _ _ _ (@z0i _ _ _ _ _ (3) _ _ _ _ _ k_table_power z35 (hr.mono (by decide)) rfl (@z0a _ _ _ _ _ _ (@z07 _ _ _ _ (pv 3)) (@z0a _ _ _ _ _ _ (@z07 _ _ _ _ (pv 8)) (@z0y _ _) (by rfl)) (by rfl)) rfl (by decide) (by rfl) (by rfl)) (@z0a _ _ _ _ _ _ (@z10 _ _ _ _ _ _ rfl T.z_tuple (@z0m _ _ _ _ (pv 9)) (by rfl)) (@z0y _ _) (by rfl)) (by rfl)) rfl (by decide) (by rfl) (by rfl)) (by intro _; rfl)))
     ·refine (@z0l _ _ _ _ ?_)
      refine (@z0W _ _ _ _ _ ?_)
      exact (@z7d _ _ _ _ _)
     ·exact z1w
  refine (@z0l _ _ _ _ ?_)
  refine (@z0W _ _ _ _ _ ?_)
  exact (@z7d _ _ _ _ _)) fun ss y h=>z0X h
theorem all_mk {l:PySem.W.OpenLaw} {w:Wo} {K:W1} {h:Heap} {mg:Str→Option Value} {fa:Addr} (X:K.In h) (G:h.Ns Ww mg) (hfa:mg "law" = some (.ref fa))
  (d0:FnH K "_law_cell_at" z1K)
  (d1:FnH K "_law_pen_of" z1W)
  (d2:FnH K "_law_next" z2w)
  (d3:FnH K "_law_draw" z2x)
  (d4:FnH K "_law_sizes_by" z1y)
  (d5:FnH K "_law_pick" z2v)
  (d6:FnH K "_law_rule_by" z1J)
  (d7:FnH K "_law_table" z2b)
  (d8:FnH K "_law_whole" z2a)
  (d9:FnH K "_law_table_is" z1x)
  (d10:FnH K "rule_tiles" z29)
  (d11:FnH K "table_of" z2Z)
  (d12:FnH K "_law_counts" z1X)
  (d13:FnH K "table_times" z1U)
  (d14:FnH K "table_power" z1V)
  (a15:nsIn K Ww "law" = some (some (.ref f15)))
  (l15:K.lookup f15=some ⟨oc15,od15,.func (Ql "law" "law" (z2h z4x) (z1C z4x) (z0b z4x) .none kV15 dc15 pm15 an15 cd15 ct15),sl15⟩)
  (c15:codeIn K cd15 "law" = true)
  (k15:keepIn K (.ref f15)=true)
  (z_all:nsIn K Ww "all" = some none)
  (z_bool:nsIn K Ww "bool" = some none)
  (z_int:nsIn K Ww "int" = some none)
  (z_isinstance:nsIn K Ww "isinstance" = some none)
  (z_len:nsIn K Ww "len" = some none)
  (z_list:nsIn K Ww "list" = some none)
  (z_max:nsIn K Ww "max" = some none)
  (z_range:nsIn K Ww "range" = some none)
  (z_sorted:nsIn K Ww "sorted" = some none)
  (z_sum:nsIn K Ww "sum" = some none)
  (z_tuple:nsIn K Ww "tuple" = some none)
  (z_zip:nsIn K Ww "zip" = some none)
  : ∃ fd:WR,(∀ (s:W2) (v:Value),BindsTo s fd ⟨[v],[]⟩ [("script",v)])∧∀ base:Heap,K.In base→base.Ns Ww mg→FnOk l.prog w K mg base CX0 5 fa fd ["script"] (spD 1 G_law):=by
 have e:=hfa.symm.trans (mg_of X G a15)
 cases e
 have T:Txt K mg:=⟨WI X G z_all,WI X G z_bool,WI X G z_int,WI X G z_isinstance,WI X G z_len,WI X G z_list,WI X G z_max,WI X G z_range,WI X G z_sorted,WI X G z_sum,WI X G z_tuple,WI X G z_zip,z8w,z9V,z6S⟩
 obtain ⟨f0,fd0,F0,m0⟩:=fnH X G d0
 obtain ⟨f1,fd1,F1,m1⟩:=fnH X G d1
 obtain ⟨f2,fd2,F2,m2⟩:=fnH X G d2
 obtain ⟨f3,fd3,F3,m3⟩:=fnH X G d3
 obtain ⟨f4,fd4,F4,m4⟩:=fnH X G d4
 obtain ⟨f5,fd5,F5,m5⟩:=fnH X G d5
 obtain ⟨f6,fd6,F6,m6⟩:=fnH X G d6
 obtain ⟨f7,fd7,F7,m7⟩:=fnH X G d7
 obtain ⟨f8,fd8,F8,m8⟩:=fnH X G d8
 obtain ⟨f9,fd9,F9,m9⟩:=fnH X G d9
 obtain ⟨f10,fd10,F10,m10⟩:=fnH X G d10
 obtain ⟨f11,fd11,F11,m11⟩:=fnH X G d11
 obtain ⟨f12,fd12,F12,m12⟩:=fnH X G d12
 obtain ⟨f13,fd13,F13,m13⟩:=fnH X G d13
 obtain ⟨f14,fd14,F14,m14⟩:=fnH X G d14
 have F15:=z9O (st:=z4x) l15 c15 k15
 refine ⟨Ql "law" "law" (z2h z4x) (z1C z4x) (z0b z4x) .none kV15 dc15 pm15 an15 cd15 ct15,fun s v=>.of_eq rfl,fun base _ _=>?_⟩
 have k__law_cell_at:KFn l.prog w K mg base 1 "_law_cell_at" 2 z0C:=z3K F0 m0 (bd2 F0 fun _ _ _ _ _ _ _ _=>rfl) T
 have k__law_pen_of:KFn l.prog w K mg base 1 "_law_pen_of" 1 z0M:=z46 F1 m1 (bd1 F1 fun _ _ _ _ _ _ _=>rfl) T
 have k__law_next:KFn l.prog w K mg base 1 "_law_next" 1 z0Z:=z56 F2 m2 (bd1 F2 fun _ _ _ _ _ _ _=>rfl) T
 have k__law_draw:KFn l.prog w K mg base 2 "_law_draw" 2 z04:=z57 F3 m3 (bd2 F3 fun _ _ _ _ _ _ _ _=>rfl) T k__law_next
 have k__law_sizes_by:KFn l.prog w K mg base 3 "_law_sizes_by" 1 z0F:=z3m F4 m4 (bd1 F4 fun _ _ _ _ _ _ _=>rfl) T k__law_draw
 have k__law_pick:KFn l.prog w K mg base 3 "_law_pick" 4 z0s:=z55 F5 m5 (bd4 F5 fun _ _ _ _ _ _ _ _ _ _=>rfl) T k__law_draw
 have k__law_rule_by:KFn l.prog w K mg base 4 "_law_rule_by" 2 z0u:=z3J F6 m6 (bd2 F6 fun _ _ _ _ _ _ _ _=>rfl) T k__law_draw k__law_sizes_by k__law_pick
 have k__law_table:KFn l.prog w K mg base 1 "_law_table" 1 z0v:=z4F F7 m7 (bd1 F7 fun _ _ _ _ _ _ _=>rfl) T
 have k__law_whole:KFn l.prog w K mg base 1 "_law_whole" 1 z0B:=z4E F8 m8 (bd1 F8 fun _ _ _ _ _ _ _=>rfl) T
 have k__law_table_is:KFn l.prog w K mg base 2 "_law_table_is" 2 z0e:=z3l F9 m9 (bd2 F9 fun _ _ _ _ _ _ _ _=>rfl) T k__law_whole
 have k_rule_tiles:KFn l.prog w K mg base 1 "rule_tiles" 1 z0Y:=z4D F10 m10 (bd1 F10 fun _ _ _ _ _ _ _=>rfl) T
 have k_table_of:KFn l.prog w K mg base 2 "table_of" 1 z0J:=z5K F11 m11 (bd1 F11 fun _ _ _ _ _ _ _=>rfl) T k_rule_tiles
 have k__law_counts:KFn l.prog w K mg base 2 "_law_counts" 3 z0N:=z47 F12 m12 (bd3 F12 fun _ _ _ _ _ _ _ _ _=>rfl) T k__law_table
 have k_table_times:KFn l.prog w K mg base 1 "table_times" 2 z0g:=z44 F13 m13 (bd2 F13 fun _ _ _ _ _ _ _ _=>rfl) T
 have k_table_power:KFn l.prog w K mg base 3 "table_power" 2 z0A:=z45 F14 m14 (bd2 F14 fun _ _ _ _ _ _ _ _=>rfl) T k_table_of k_table_times
 exact zbL F15 T k__law_cell_at k__law_pen_of k__law_draw k__law_rule_by k__law_table k__law_table_is k_table_of k__law_counts k_table_power
open PySem (sizeLine)
def blk (bs:List (Nat×List Tx)) (n:Nat):List Tx:=((bs.find? fun b=>decide (b.1=n)).map (·.2)).getD []
theorem z4O (h:n ∈ bs.map (·.1)):∃ b ∈ bs,b.1=n∧(bs.find? fun b=>decide (b.1=n))=some b∧blk bs n=b.2:=by
 cases e:bs.find? fun b=>decide (b.1=n) with
 | none =>
  obtain ⟨b,hb,rfl⟩:=List.mem_map.mp h
  have:=List.find?_eq_none.mp e b hb
  simp at this
 | some b =>
  have h1:=List.mem_of_find?_eq_some e
  have h2:=List.find?_some e
  refine ⟨b,h1,by simpa using h2,rfl,?_⟩
  unfold blk
  rw [e]
  rfl
def sm:List Nat→(Nat→Nat)→Nat
 | [],_=>0
 | t :: r,f=>f t + sm r f
theorem z63 (f:Nat→Nat):sm [] f=0:=rfl
theorem z19 (t:Nat) (r:List Nat) (f:Nat→Nat):sm (t :: r) f=f t + sm r f:=rfl
theorem z1t:∀ {ts:List Nat} {f g:Nat→Nat},(∀ t ∈ ts,f t=g t)→sm ts f=sm ts g
 | [],_,_,_=>rfl
 | t :: r,f,g,h=>by
  rw [z19,z19,h t Wg,z1t fun x hx=>h x (Wb _ hx)]
theorem z76 (f g:Nat→Nat):∀ ts:List Nat,sm ts (fun t=>f t + g t)=sm ts f + sm ts g
 | []=>rfl
 | t :: r=>by
  rw [z19,z19,z19,z76 f g r]
  show f t + g t + _=_
  omega
theorem z3B:∀ {ts:List Nat} {f:Nat→Nat},(∀ t ∈ ts,f t=0)→sm ts f=0
 | [],_,_=>rfl
 | t :: r,f,h=>by
  rw [z19,h t Wg,z3B fun x hx=>h x (Wb _ hx)]
theorem z9w (f:Nat→Nat):∀ a b:List Nat,sm (a ++ b) f=sm a f + sm b f
 | [],b=>by rw [WF,z63,Q3]
 | t :: r,b=>by
  rw [Jn,z19,z19,z9w f r b]
  omega
theorem z75 (f:Nat→Nat) (n:Nat):∀ ts:List Nat,ts.Nodup→n ∈ ts→sm ts (fun t=>(if t=n then 1 else 0) * f t)=f n
 | [],_,h=>by simp at h
 | t :: r,nd,h=>by
  obtain ⟨n1,n2⟩:=WV.mp nd
  rw [z19]
  rcases Wj.mp h with e | h
  ·subst e
   rw [z3B fun t ht=>by rw [if_neg (fun e=>n1 (by rw [← e]; exact ht)),Nat.zero_mul]]
   simp
  ·have:t≠n:=fun e=>n1 (by rw [e]; exact h)
   rw [z75 f n r n2 h]
   simp [this]
def M (bs:List (Nat×List Tx)) (t s:Nat):Nat:=(blk bs t).flatten.count s
def stp (bs:List (Nat×List Tx)) (v:Nat→Nat):Nat→Nat:=fun s=>sm (bs.map (·.1)) fun t=>v t * M bs t s
def vec (bs:List (Nat×List Tx)) (t0:Nat):Nat→Nat→Nat
 | 0=>fun s=>if s=t0 then 1 else 0
 | k + 1=>stp bs (vec bs t0 k)
theorem z5y (f:Nat→Nat→Nat) (b:List Nat):∀ a:List Nat,sm a (fun x=>sm b fun y=>f x y)=sm b fun y=>sm a fun x=>f x y
 | []=>by
  rw [z63,z3B fun t _=>z63 _]
 | x :: r=>by
  show sm b (fun y=>f x y) + sm r (fun x=>sm b fun y=>f x y)=_
  rw [z5y f b r,← z76]
  rfl
theorem z8X (R:Rul h w bs):(bs.map (·.1)).Nodup:=R.up.imp fun h=>Wl h
def mt (ts:List Nat) (X Y:Nat→Nat→Nat) (t s:Nat):Nat:=sm ts fun u=>X t u * Y u s
def mp (ts:List Nat) (A:Nat→Nat→Nat):Nat→Nat→Nat→Nat
 | 0=>fun t s=>if s=t then 1 else 0
 | k + 1=>mt ts (mp ts A k) A
theorem z64 (c:Nat) (f:Nat→Nat):∀ ts:List Nat,sm ts (fun t=>f t * c)=sm ts f * c
 | []=>by simp [z63]
 | t :: r=>by rw [z19,z19,z64 c f r,Nat.add_mul]
theorem z74 (c:Nat) (f:Nat→Nat) (ts:List Nat):sm ts (fun t=>c * f t)=c * sm ts f:=by
 rw [QT,← z64]
 exact z1t fun t _=>QT _ _
theorem z8Z {ts:List Nat} {X X' Y Y':Nat→Nat→Nat} {t s:Nat} (h1:∀ u ∈ ts,X t u=X' t u) (h2:∀ u ∈ ts,Y u s=Y' u s):mt ts X Y t s=mt ts X' Y' t s:=z1t fun u hu=>by rw [h1 u hu,h2 u hu]
theorem z90 (ts:List Nat) (X Y Z:Nat→Nat→Nat) (t s:Nat):mt ts (mt ts X Y) Z t s=mt ts X (mt ts Y Z) t s:=by
 unfold mt
 have e1:sm ts (fun u=>sm ts (fun v=>X t v * Y v u) * Z u s)=sm ts fun u=>sm ts fun v=>X t v * Y v u * Z u s:=z1t fun u _=>(z64 (Z u s) (fun v=>X t v * Y v u) ts).symm
 have e2:sm ts (fun v=>X t v * sm ts fun u=>Y v u * Z u s)=sm ts fun v=>sm ts fun u=>X t v * Y v u * Z u s:=z1t fun v _=>by
  rw [← z74]
  exact z1t fun u _=>(Nat.mul_assoc _ _ _).symm
 rw [e1,e2,z5y]
theorem zbS {ts:List Nat} (nd:ts.Nodup) (X A:Nat→Nat→Nat) {t s:Nat} (hs:s ∈ ts):mt ts X (mp ts A 0) t s=X t s:=by
 unfold mt
 have:sm ts (fun u=>X t u * mp ts A 0 u s)=sm ts fun u=>(if u=s then 1 else 0) * X t u:=z1t fun u _=>by
  show X t u * (if s=u then 1 else 0)=_
  by_cases h:s=u
  ·subst h; simp
  ·simp [h,Ne.symm h]
 rw [this,z75 (fun u=>X t u) s ts nd hs]
theorem z7K {ts:List Nat} (nd:ts.Nodup) (A:Nat→Nat→Nat) (a:Nat) {t:Nat}:∀ (b:Nat) {s:Nat},s ∈ ts→mt ts (mp ts A a) (mp ts A b) t s=mp ts A (a + b) t s
 | 0,s,hs=>zbS nd _ A hs
 | b + 1,s,hs=>by
  show mt ts (mp ts A a) (mt ts (mp ts A b) A) t s=mt ts (mp ts A (a + b)) A t s
  rw [← z90]
  exact z8Z (fun u hu=>z7K nd A a b hu) fun _ _=>rfl
theorem zbU {ts:List Nat} (nd:ts.Nodup) (A:Nat→Nat→Nat) {t s:Nat} (ht:t ∈ ts):mp ts A 1 t s=A t s:=by
 show sm ts (fun u=>(if u=t then 1 else 0) * A u s)=_
 rw [z75 (fun u=>A u s) t ts nd ht]
theorem z9q (bs:List (Nat×List Tx)) (t:Nat):∀ k,vec bs t k=mp (bs.map (·.1)) (M bs) k t
 | 0=>rfl
 | k + 1=>by
  show stp bs (vec bs t k)=_
  rw [z9q bs t k]
  rfl
theorem sm_le {ts:List Nat} {f g:Nat→Nat} (h:∀ t ∈ ts,f t≤g t):sm ts f≤sm ts g:=by
 induction ts with
 | nil=>exact Wf _
 | cons t r ih =>
  rw [z19,z19]
  have:=h t Wg
  have:=ih fun x hx=>h x (Wb _ hx)
  omega
theorem zbV {ts:List Nat} (f:Nat→Nat) {t:Nat} (h:t ∈ ts):f t≤sm ts f:=by
 induction ts with
 | nil=>simp at h
 | cons a r ih =>
  rw [z19]
  rcases Wj.mp h with rfl | h
  ·omega
  ·have:=ih h; omega
theorem z9K {ts:List Nat} (nd:ts.Nodup) {A:Nat→Nat→Nat} {c:Nat} (hA:∀ t ∈ ts,sm ts (A t)≤c) {t:Nat} (ht:t ∈ ts):∀ k,sm ts (mp ts A k t)≤c ^ k
 | 0=>by
  have e:sm ts (mp ts A 0 t)=sm ts fun u=>(if u=t then 1 else 0) * 1:=z1t fun u _=>by
   show (if u=t then 1 else 0)=_
   simp
  rw [e,z75 (fun _=>1) t ts nd ht]
  simp
 | k + 1=>by
  show sm ts (fun s=>sm ts fun u=>mp ts A k t u * A u s)≤_
  rw [z5y (fun s u=>mp ts A k t u * A u s)]
  have e:sm ts (fun u=>sm ts fun s=>mp ts A k t u * A u s)≤sm ts fun u=>mp ts A k t u * c:=sm_le fun u hu=>by
   rw [z74]
   exact Nat.mul_le_mul_left _ (hA u hu)
  refine WD e ?_
  rw [z64,Nat.pow_succ]
  exact Nat.mul_le_mul_right _ (z9K nd hA ht k)
theorem mp_lt {ts:List Nat} (nd:ts.Nodup) {A:Nat→Nat→Nat} (hA:∀ t ∈ ts,sm ts (A t)≤16) {t s:Nat} (ht:t ∈ ts) (hs:s ∈ ts) (k:Nat) (hk:k≤2000):mp ts A k t s < 2 ^ 9000:=by
 have h1:=WD (zbV (mp ts A k t) hs) (z9K nd hA ht k)
 have h2:(16:Nat) ^ k=2 ^ (4 * k):=by rw [Nat.pow_mul]
 rw [h2] at h1
 exact QM h1 (Nat.pow_lt_pow_right (by decide) (by omega))
theorem z9Q {ts:List Nat} (nd:ts.Nodup):∀ tx:List Nat,sm ts (fun s=>tx.count s)≤tx.length
 | []=>by rw [z3B fun t _=>List.count_nil]; exact Wf _
 | n :: r=>by
  have e:sm ts (fun t=>(n :: r).count t)=sm ts (fun t=>r.count t + (if t=n then 1 else 0) * 1):=z1t fun t _=>by
   rw [List.count_cons]
   by_cases q:n=t
   ·subst q; simp
   ·simp [q,Ne.symm q]
  rw [e,z76,WN]
  have h1:=z9Q nd r
  have h2:sm ts (fun t=>(if t=n then 1 else 0) * 1)≤1:=by
   by_cases h:n ∈ ts
   ·rw [z75 (fun _=>1) n ts nd h]; exact Wf _
   ·rw [z3B fun t ht=>by rw [if_neg (fun (e:t=n)=>h (e ▸ ht)),Nat.zero_mul]]; omega
  omega
theorem z9o {h w:Nat} {bs:List (Nat×List Tx)} (R:Rul h w bs) {b:Nat×List Tx} (hb:b ∈ bs):blk bs b.1=b.2:=by
 obtain ⟨b',hb',e0,_,e2⟩:=z4O (J3 hb:b.1 ∈ bs.map (·.1))
 have:b'=b:=by
  obtain ⟨i,hi,e⟩:=List.getElem_of_mem hb
  obtain ⟨j,hj,e'⟩:=List.getElem_of_mem hb'
  have nd:=z8X R
  have:i=j:=(Jl (h₀:=by simpa using hi) (h₁:=by simpa using hj) nd).mp (by simp [e,e',e0])
  subst this
  rw [← e,← e']
 rw [e2,this]
theorem z1Z (f:DE) (δ:Dl):iSq f δ=(f δ).bind fun r δ1=>match r.d with
 | .lst ds=>.ok ds δ1
 | .tup ds=>.ok ds δ1
 | .str x=>.ok (x.map fun n=>.str [n]) δ1
 | _=>.stuck:=id rfl
theorem ev_inR (neg:Bool) (fa f g:DE) (δ:Dl):eInR neg fa f g δ=(fa δ).bind fun v δ1=>(f δ1).bind fun lo δ2=>(g δ2).bind fun hi δ3=>match v.d,lo.d,hi.d with
 | .int i,.int l,.int h=>.ok (.pure (.bl (if neg then !(decide (l≤i) && decide (i < h)) else (decide (l≤i) && decide (i < h))))) δ3
 | _,_,_=>.stuck:=id rfl
def nx (s:Int):Int:=(((s + 7919) % 2147483647) * ((s + 7919) % 2147483647) + 48271 * ((s + 7919) % 2147483647) + 12345) % 2147483629
theorem zbg (s:Int):z0Z [.pure (.int s)]=some (.pure (.int (nx s)),[.pure (.int s)]):=by
 unfold z0Z gOf z2F runD
 have h1:=Int.emod_nonneg (s + 7919) (b:=2147483647) (by decide)
 have h2:=Int.emod_lt_of_pos (s + 7919) (b:=2147483647) (by decide)
 have c1:cMul ((s + 7919) % 2147483647) ((s + 7919) % 2147483647)=true:=by unfold cMul; simp; omega
 have c2:cMul 48271 ((s + 7919) % 2147483647)=true:=by unfold cMul; simp
 simp [ioOk,z0w,dAsg,eOpF,eOpN,bVar,pAdd,pMod,pII,z1q,pMul,c1,c2,z1f,z0p]
 rfl
def Pen (d:D):Prop:=∃ l f s:Int,d = .lst [.int l,.int f,.int s]∧0≤l
theorem z69 (hp:Pen d) (m:Nat) (h0:0 < m) (h1:m < 1073741824):∃ (r:Nat) (d':D),z04 [.own d,.pure (.int m)]=some (.pure (.int r),[.own d',.pure (.int m)])∧r < m∧Pen d':=by
 obtain ⟨l,f,s,rfl,hl⟩:=hp
 have hm:(0:Int) < (m:Int):=by omega
 have hd:cDiv l m=true:=by unfold cDiv; simp; omega
 unfold z04 gOf z2G runD
 by_cases hf:f=1
 ·subst hf
  have e1:=Int.emod_nonneg l (b:=(m:Int)) (by omega)
  have e2:=Int.emod_lt_of_pos l hm
  refine ⟨(l % (m:Int)).toNat,.lst [.int (l / m),.int 1,.int s],?_,by omega,⟨_,_,_,rfl,Int.ediv_nonneg hl (by omega)⟩⟩
  simp [ioOk,z0w,dAsg,eOpF,eOpN,bVar,eVar,pIx,pEq,eqD,flat,z3z,z5S,z5R,dTr,pMod,pDiv,pII,h0,hd,z6K,z1R,putL,z1f,z0p,ixN]
  omega
 ·have e1:=Int.emod_nonneg (nx (nx s + 7) / 64) (b:=(m:Int)) (by omega)
  have e2:=Int.emod_lt_of_pos (nx (nx s + 7) / 64) hm
  refine ⟨(nx (nx s + 7) / 64 % (m:Int)).toNat,.lst [.int l,.int f,.int (nx (nx s + 7))],?_,by omega,⟨_,_,_,rfl,hl⟩⟩
  simp [ioOk,z0w,dAsg,eOpF,eOpN,bVar,eVar,pIx,pEq,eqD,flat,z3z,z5S,z5R,dTr,pMod,pDiv,pII,h0,hd,z6K,z1R,putL,z1f,z0p,ixN,hf,z06,ios,z0q,ndup,evX,mkA,zbg,pAdd,putA,cDiv]
  omega
theorem r_pen (c:Int):∃ d,z0M [.pure (.int c)]=some (.own d,[.pure (.int c)])∧Pen d:=by
 unfold z0M gOf z23 runD
 refine ⟨.lst [.int (if 0 - c > c then 0 - c else c),.int (if decide (1000000000000000000≤(if 0 - c > c then 0 - c else c)) then 1 else 0),.int ((if 0 - c > c then 0 - c else c) % 1000003)],?_,⟨_,_,_,rfl,by split <;> omega⟩⟩
 simp [ioOk,z0w,dAsg,eOpF,eOpN,bVar,eVar,pMax,pSub,pII,pInt,pGe,pCmp,pPow,cPow,pMod,z1f,z0p]
theorem z5C (ns:List Int):∃ c:Int,z0C [.pure (.lst (ns.map .int)),.pure (.int 0)]=some (.pure (.int c),[.pure (.lst (ns.map .int)),.pure (.int 0)]):=by
 unfold z0C gOf z1N runD
 cases ns with
 | nil=>exact ⟨0,by simp [ioOk,z0w,eOpF,eOpN,bVar,pLt,pCmp,dTr,pLen,z1f,z0p]⟩
 | cons n r=>exact ⟨n,by
   have:(0:Int) < (r.length:Int) + 1:=by omega
   simp [ioOk,z0w,eOpF,eOpN,bVar,pLt,pCmp,dTr,pLen,z1f,z0p,pIx,z3z,this]⟩
theorem z1p (hp:Pen d) (m:Nat) (i:Int) (hi:i=m) (h0:0 < m) (h1:m < 1073741824):∃ (r:Nat) (d':D),z04 [.own d,.pure (.int i)]=some (.pure (.int r),[.own d',.pure (.int i)])∧r < m∧Pen d':=by
 subst hi
 exact z69 hp m h0 h1
def lettersT:Tx:=[97,98,99,100,101,102,103,104,105,106,107,108,109,110,111,112,113,114,115,116,117,118,119,120,121,122]
theorem zab (hp:Pen d):∃ (h w:Nat) (d':D),z0F [.own d]=some (.pure (.tup [.int h,.int w]),[.own d'])∧0 < h∧h≤4∧0 < w∧w≤4∧2 < h + w∧Pen d':=by
 obtain ⟨r1,d1,e1,l1,p1⟩:=z1p hp 3 3 rfl (by decide) (by decide)
 obtain ⟨r2,d2,e2,l2,p2⟩:=z1p p1 3 3 rfl (by decide) (by decide)
 obtain ⟨r3,d3,e3,l3,p3⟩:=z1p p2 8 8 rfl (by decide) (by decide)
 obtain ⟨r4,d4,e4,l4,p4⟩:=z1p p3 6 6 rfl (by decide) (by decide)
 unfold z0F gOf z1E runD
 by_cases h3:r3=0
 ·subst h3
  have:r4=0∨r4=1∨r4=2∨r4=3∨r4=4∨r4=5:=by omega
  rcases this with rfl | rfl | rfl | rfl | rfl | rfl
  ·exact ⟨4,1,d4,by simp [ioOk,z0w,dAsg,z06,ios,ndup,z0q,evX,mkA,e1,e2,e3,e4,putA,pAdd,pEq,eqD,flat,dTr,pIx,atI,ixN,gTp,z05,z0R,eOpF,eOpN,bVar,eVar,z1f,z0p],by decide,by decide,by decide,by decide,by decide,p4⟩
  ·exact ⟨1,4,d4,by simp [ioOk,z0w,dAsg,z06,ios,ndup,z0q,evX,mkA,e1,e2,e3,e4,putA,pAdd,pEq,eqD,flat,dTr,pIx,atI,ixN,gTp,z05,z0R,eOpF,eOpN,bVar,eVar,z1f,z0p],by decide,by decide,by decide,by decide,by decide,p4⟩
  ·exact ⟨4,4,d4,by simp [ioOk,z0w,dAsg,z06,ios,ndup,z0q,evX,mkA,e1,e2,e3,e4,putA,pAdd,pEq,eqD,flat,dTr,pIx,atI,ixN,gTp,z05,z0R,eOpF,eOpN,bVar,eVar,z1f,z0p],by decide,by decide,by decide,by decide,by decide,p4⟩
  ·exact ⟨4,3,d4,by simp [ioOk,z0w,dAsg,z06,ios,ndup,z0q,evX,mkA,e1,e2,e3,e4,putA,pAdd,pEq,eqD,flat,dTr,pIx,atI,ixN,gTp,z05,z0R,eOpF,eOpN,bVar,eVar,z1f,z0p],by decide,by decide,by decide,by decide,by decide,p4⟩
  ·exact ⟨1,2,d4,by simp [ioOk,z0w,dAsg,z06,ios,ndup,z0q,evX,mkA,e1,e2,e3,e4,putA,pAdd,pEq,eqD,flat,dTr,pIx,atI,ixN,gTp,z05,z0R,eOpF,eOpN,bVar,eVar,z1f,z0p],by decide,by decide,by decide,by decide,by decide,p4⟩
  ·exact ⟨2,1,d4,by simp [ioOk,z0w,dAsg,z06,ios,ndup,z0q,evX,mkA,e1,e2,e3,e4,putA,pAdd,pEq,eqD,flat,dTr,pIx,atI,ixN,gTp,z05,z0R,eOpF,eOpN,bVar,eVar,z1f,z0p],by decide,by decide,by decide,by decide,by decide,p4⟩
 ·by_cases hs:r1=0∧r2=0
  ·obtain ⟨rfl,rfl⟩:=hs
   refine ⟨1,2,d3,?_,by decide,by decide,by decide,by decide,by decide,p3⟩
   simp [ioOk,z0w,dAsg,z06,ios,ndup,z0q,evX,mkA,e1,e2,e3,putA,pAdd,pEq,eqD,flat,dTr,h3,eOpF,eOpN,bVar,eVar,z1f,z0p]
  ·have hn:¬ (1 + (r1:Int) + (1 + (r2:Int))=2):=by omega
   refine ⟨1 + r1,1 + r2,d3,?_,by omega,by omega,by omega,by omega,by omega,p3⟩
   simp [ioOk,z0w,dAsg,z06,ios,ndup,z0q,evX,mkA,e1,e2,e3,putA,pAdd,pEq,eqD,flat,dTr,h3,hn,eOpF,eOpN,bVar,eVar,z1f,z0p]
theorem z5h (ts:List Nat) (r:Nat) (h:r < ts.length):pIx (.lst (ts.map fun n=>.str [n])) (.int r)=some (.pure (.str [ts.getD r 0])):=by
 simp [pIx,z1l,h]
theorem zbf (hp:Pen d) (ts:List Nat) (place way:Nat) (h1:place < ts.length) (h2:ts.length≤64):∃ (n:Nat) (d':D),
  z0s [.own d,.pure (.lst (ts.map fun n=>.str [n])),.pure (.int place),.pure (.int way)]=some (.pure (.str [n]),[.own d',.pure (.lst (ts.map fun n=>.str [n])),.pure (.int place),.pure (.int way)])∧n ∈ ts∧Pen d':=by
 have mem:∀ r,r < ts.length→ts.getD r 0 ∈ ts:=fun r h=>by simp [h]
 unfold z0s gOf z2E runD
 by_cases w1:way=1
 ·subst w1
  obtain ⟨r,d1,e1,l1,p1⟩:=z1p hp (place + 1) ((place:Int) + 1) (by omega) (by omega) (by omega)
  refine ⟨ts.getD r 0,d1,?_,mem r (by omega),p1⟩
  simp [ioOk,z0w,eOpF,eOpN,bVar,pEq,eqD,flat,dTr,z06,ios,ndup,z0q,evX,pAdd,mkA,e1,putA,pIx,z1l,z1f,z0p,show r < ts.length by omega]
 ·by_cases w2:way=2
  ·subst w2
   have hr:(place + 1) % ts.length < ts.length:=Nat.mod_lt _ (by omega)
   refine ⟨ts.getD ((place + 1) % ts.length) 0,d,?_,mem _ hr,hp⟩
   have hm:pMod (.int ((place:Int) + 1)) (.int ts.length)=some (.pure (.int (((place + 1) % ts.length:Nat):Int))):=by
    simp only [pMod,pII]
    rw [if_pos (by simp; omega)]
    simp
   simp [ioOk,z0w,eOpF,eOpN,bVar,pEq,eqD,flat,dTr,pAdd,pLen,hm,z1f,z0p]
   have hx:=z5h ts ((place + 1) % ts.length) hr
   simp at hx
   simp [hx]
  ·by_cases w3:way=3
   ·subst w3
    obtain ⟨r,d1,e1,l1,p1⟩:=z1p hp 4 4 rfl (by decide) (by decide)
    by_cases hr:0 < r
    ·refine ⟨ts.getD place 0,d1,?_,mem place h1,p1⟩
     simp [ioOk,z0w,eOpF,eOpN,bVar,pEq,eqD,flat,dTr,z06,ios,ndup,z0q,evX,mkA,e1,putA,pGt,pCmp,hr,pIx,z1l,h1,z1f,z0p]
    ·obtain ⟨r',d2,e2,l2,p2⟩:=z69 p1 ts.length (by omega) (by omega)
     refine ⟨ts.getD r' 0,d2,?_,mem r' l2,p2⟩
     simp [ioOk,z0w,eOpF,eOpN,bVar,pEq,eqD,flat,dTr,z06,ios,ndup,z0q,evX,mkA,e1,putA,pGt,pCmp,hr,pLen,e2,pIx,z1l,l2,z1f,z0p]
   ·obtain ⟨r',d2,e2,l2,p2⟩:=z69 hp ts.length (by omega) (by omega)
    refine ⟨ts.getD r' 0,d2,?_,mem r' l2,p2⟩
    have c1:¬ (way:Int)=1:=by omega
    have c2:¬ (way:Int)=2:=by omega
    have c3:¬ (way:Int)=3:=by omega
    simp [ioOk,z0w,eOpF,eOpN,bVar,pEq,eqD,flat,dTr,z06,ios,ndup,z0q,evX,mkA,putA,c1,c2,c3,pLen,e2,pIx,z1l,l2,z1f,z0p]
theorem z33:∀ k,k < 26→lettersT.getD k 0=97 + k:=by decide
theorem z6I (xs:List Nat) (h:xs.length < 64):z31 (.lst (xs.map fun n=>.str [n]))=some (.own (.lst ((z2Y xs).map fun n=>.str [n]))):=by
 have e:(xs.map fun n=>D.str [n])=(xs.map fun n=>[n]).map D.str:=by simp
 unfold z31
 simp only [e,z3w]
 rw [if_pos (by simpa using h),z9v]
 simp
def rawT (f n:Nat):List Nat:=(Wx n).map fun k=>97 + (f + 5 * k) % 26
theorem z7i (f n:Nat) (hn:n≤26):(rawT f n).Nodup:=by
 unfold rawT
 rw [List.nodup_iff_pairwise_ne,List.pairwise_map]
 refine (List.pairwise_lt_range (n:=n)).imp_of_mem ?_
 intro a b ha hb hab e
 simp at ha hb
 omega
def rb (pd:D) (m h w n f:Nat) (s7:S) (wy:Nat) (blocks:List D) (a b c:Option S):Dl :=
 [some (.own pd),some (.pure (.int m)),some (.pure (.int h)),some (.pure (.int w)),some (.pure (.int (1 + (n:Int)))),some (.pure (.int f)),some (.pure (.str lettersT)),some s7,some (.pure (.int wy)),some (.own (.lst blocks)),a,b,c,none,none]
def tD (ts:List Nat):D:=.lst (ts.map fun n=>.str [n])
def sT (ts:List Nat) (s:S):Prop:=s = .own (tD ts)∨s = .pure (tD ts)
theorem z6z (hts:ts.length≤64) (hw:w≤4) (hpd:Pen pd) (h7:sT ts s7) (blocks:List D) (place:Nat) (hpl:place < ts.length) (block:List D) (row:Nat) :
  ∃ (x:Tx) (pd':D) (s7':S),z0L [14] (gNm [0] 14) dYes (z06 z0s [.io 0,.val (eVar 7),.val (eVar 10),.val (eVar 8)]) (z0n 0 w) (rb pd m h w n f s7 wy blocks (some (.pure (.int place))) (some (.own (.lst block))) (some (.pure (.int row)))) []
   = .ok (x.map fun n=>.str [n]) (rb pd' m h w n f s7' wy blocks (some (.pure (.int place))) (some (.own (.lst block))) (some (.pure (.int row))))∧x.length=w∧(∀ n ∈ x,n ∈ ts)∧Pen pd'∧sT ts s7':=by
 obtain ⟨xs,δ',e,⟨pd',s7',hpd',h7',rfl⟩,hn,hf⟩:=z3Y (cs:=[14]) (g:=gNm [0] 14) (t:=dYes) (el:=z06 z0s [.io 0,.val (eVar 7),.val (eVar 10),.val (eVar 8)]) (fun δ=>∃ pd s7,Pen pd∧sT ts s7∧δ=rb pd m h w n f s7 wy blocks (some (.pure (.int place))) (some (.own (.lst block))) (some (.pure (.int row))))
  (fun _ x=>∃ n,n ∈ ts∧x = .str [n]) (z0n 0 w) _ [] ⟨pd,s7,hpd,h7,rfl⟩ (by rw [z0o]; simp; omega) (fun d hd δ ⟨pd,s7,hpd,h7,e⟩=>by
   subst e
   obtain ⟨i,hi,rfl⟩:=z3i hd
   obtain ⟨k,d',e,hk,p⟩:=zbf hpd ts place wy hpl hts
   have e':z0s [.own pd,.pure (tD ts),.pure (.int place),.pure (.int wy)]=some (.pure (.str [k]),[.own d',.pure (tD ts),.pure (.int place),.pure (.int wy)]):=e
   refine ⟨_,_,.pure (.str [k]),(rb d' m h w n f (.pure (tD ts)) wy blocks (some (.pure (.int place))) (some (.own (.lst block))) (some (.pure (.int row)))).set 14 (some (.pure (.int i))),rfl,rfl,?_,⟨d',_,p,.inr rfl,rfl⟩,⟨_,hk,rfl⟩⟩
   rcases h7 with rfl | rfl
   ·simp [rb,z06,ios,ndup,z0q,evX,eVar,mkA,e',putA]
   ·simp [rb,z06,ios,ndup,z0q,evX,eVar,mkA,e',putA])
 obtain ⟨x,rfl,hx⟩:=z77 (P:=fun n=>n ∈ ts) (za8 hn hf fun d x _ h=>h)
 exact ⟨x,pd',s7',by simpa using e,by simpa using hn,hx,hpd',h7'⟩
theorem z51 (hts:ts.length≤64) (hw:w≤4) (hh:h≤4) (hpd:Pen pd) (h7:sT ts s7) (blocks:List D) (place:Nat) (hpl:place < ts.length) (rs:Option S) :
  ∃ (fl:List Tx) (pd':D) (s7':S) (rs':Option S),forL (gNm [0] 12) (z0I 11 (eC1 (z1L []) (bOf (z0r [14] (z0E (eVar 3)) (gNm [0] 14) dYes (z06 z0s [.io 0,.val (eVar 7),.val (eVar 10),.val (eVar 8)]))))) (z0n 0 h) (rb pd m h w n f s7 wy blocks (some (.pure (.int place))) (some (.own (.lst []))) rs)
   = .ok .next (rb pd' m h w n f s7' wy blocks (some (.pure (.int place))) (some (.own (.lst (fl.map .str)))) rs')∧fl.length=h∧(∀ r ∈ fl,r.length=w∧∀ n ∈ r,n ∈ ts)∧Pen pd'∧sT ts s7':=by
 obtain ⟨δ',e3,pd',s7',fl,rs',hpd',h7',hfl,hall,rfl⟩:=z1I (g:=gNm [0] 12) (b:=z0I 11 (eC1 (z1L []) (bOf (z0r [14] (z0E (eVar 3)) (gNm [0] 14) dYes (z06 z0s [.io 0,.val (eVar 7),.val (eVar 10),.val (eVar 8)]))))) (fun k δ=>∃ (pd:D) (s7:S) (fl:List Tx) (rs:Option S),Pen pd∧sT ts s7∧fl.length=k∧(∀ r ∈ fl,r.length=w∧∀ n ∈ r,n ∈ ts)∧δ=rb pd m h w n f s7 wy blocks (some (.pure (.int place))) (some (.own (.lst (fl.map .str)))) rs)
  (z0n 0 h) 0 _ ⟨pd,s7,[],rs,hpd,h7,rfl,by simp,rfl⟩ (fun i d δ hd ⟨pd,s7,fl,rs,hpd,h7,hfl,hall,e⟩=>by
   subst e
   obtain ⟨hi,rfl⟩:=z2f hd
   obtain ⟨x,pd',s7',e,hx,hxt,hpd',h7'⟩:=z6z (m:=m) (h:=h) (n:=n) (f:=f) (wy:=wy) hts hw hpd h7 blocks place hpl (fl.map .str) i
   have hz:fl.length < W9:=by rw [z0o]; omega
   have ej:=z99 x (by omega)
   refine ⟨_,rb pd' m h w n f s7' wy blocks (some (.pure (.int place))) (some (.own (.lst ((fl ++ [x]).map .str)))) (some (.pure (.int i))),rfl,?_,⟨pd',s7',fl ++ [x],_,hpd',h7',by simp [hfl],?_,rfl⟩⟩
   ·unfold rb at e ⊢
    simp [z0I,z1R,eVar,z2L w (by omega),z0q,clrD]
    rw [e]
    simp [ej,z0S,putL,hz]
   ·intro r hr
    rcases J8.mp hr with hr | hr
    ·exact hall r hr
    ·simp at hr; subst hr; exact ⟨hx,hxt⟩)
 exact ⟨fl,pd',s7',rs',e3,by simpa using hfl,hall,hpd',h7'⟩
theorem z7m (hp:Pen d) (m:Nat) (hm0:0 < m) (hm1:m≤26):∃ (h w:Nat) (bs:List (Nat×List Tx)) (d':D),
  z0u [.own d,.pure (.int m)]=some (.pure (ruD h w bs),[.own d',.pure (.int m)])∧Rul h w bs∧bs.length≤m∧Pen d':=by
 obtain ⟨h,w,d1,e1,h0,h1,w0,w1,hw,p1⟩:=zab hp
 obtain ⟨r,d2,e2,l2,p2⟩:=z69 p1 m hm0 (by omega)
 obtain ⟨f,d3,e3,l3,p3⟩:=z1p p2 26 26 rfl (by decide) (by decide)
 obtain ⟨wy,d4,e4,l4,p4⟩:=z1p p3 5 5 rfl (by decide) (by decide)
 -- the tiles
 have ec:=z8d (cs:=[13]) (g:=gNm [0] 13) (t:=dYes) (el:=eOpF pIx 6 (bOf (eOp pMod (eOpF pAdd 5 (bOf (eOp z1q (eD (.int 5)) (bVar 13)))) (bOf (eD (.int 26)))))) (fun d=>match d with | .int k=>.str [97 + (f + 5 * k.toNat) % 26] | _=>.non)
  [some (.own d3),some (.pure (.int m)),some (.pure (.int h)),some (.pure (.int w)),some (.pure (.int (1 + (r:Int)))),some (.pure (.int f)),some (.pure (.str lettersT)),none,none,none,none,none,none,none,none] (z0n 0 (1 + r)) [] (by rw [z0o]; simp; omega) (fun d hd=>by
   obtain ⟨i,hi,rfl⟩:=z3i hd
   refine ⟨_,_,.pure (.str [97 + (f + 5 * i) % 26]),[some (.own d3),some (.pure (.int m)),some (.pure (.int h)),some (.pure (.int w)),some (.pure (.int (1 + (r:Int)))),some (.pure (.int f)),some (.pure (.str lettersT)),none,none,none,none,none,none,some (.pure (.int i)),none],rfl,rfl,?_,rfl,rfl⟩
   have hk:(f + 5 * i) % 26 < 26:=Nat.mod_lt _ (by decide)
   have hx:=z3V lettersT ((f + 5 * i) % 26) hk (by decide)
   rw [z33 _ hk] at hx
   have hc:((f:Int) + 5 * (i:Int)) % 26=(((f + 5 * i) % 26:Nat):Int):=by omega
   have hmul:z1q (.int 5) (.int i)=some (.pure (.int (5 * (i:Int)))):=by
    unfold z1q pMul pII
    have:cMul 5 i=true:=by unfold cMul; simp
    simp only [this,if_true]
   have hmod:pMod (.int ((f:Int) + 5 * (i:Int))) (.int 26)=some (.pure (.int (((f + 5 * i) % 26:Nat):Int))):=by
    rw [← hc]; rfl
   generalize lettersT=lt at hx ⊢
   simp only [eOpF,eOpN,bVar,zce,zcd,ev_eD,z1b,ev_p2,List.set_cons_succ,List.set_cons_zero,List.getElem?_cons_succ,List.getElem?_cons_zero,ev_d1,hmul,pAdd,hmod,hx])
 have hraw:List.map (fun (d:D)=>match d with | .int k=>D.str [97 + (f + 5 * k.toNat) % 26] | _=>.non) (z0n 0 (1 + r))=(rawT f (1 + r)).map fun n=>.str [n]:=by
  simp [z0n,rawT]
 rw [hraw] at ec
 simp only [WF] at ec
 have hrl:(rawT f (1 + r)).length=1 + r:=by simp [rawT]
 have es:=z6I (rawT f (1 + r)) (by rw [hrl]; omega)
 have hts:(z2Y (rawT f (1 + r))).length=1 + r:=by rw [z4T,hrl]
 have hlt:=z62 (z7i f (1 + r) (by omega))
 have hle:∀ t ∈ z2Y (rawT f (1 + r)),97≤t∧t≤122:=fun t ht=>by
  rw [sortN_mem] at ht
  simp [rawT] at ht
  obtain ⟨k,_,rfl⟩:=ht
  omega
 generalize z2Y (rawT f (1 + r))=ts at es hts hlt hle
 -- the blocks
 obtain ⟨δ',e5,pd,s7,bs,a,b,c,hpd,h7,hbl,hbt,hall,rfl⟩:=z1I (g:=gNm [0] 10) (b:=(dSeq (dAsg (eLst aNil) (gNm [0] 11)) (dSeq (dFor (z0E (eVar 2)) (gNm [0] 12) (z0I 11 (eC1 (z1L []) (bOf (z0r [14] (z0E (eVar 3)) (gNm [0] 14) dYes (z06 z0s [.io 0,.val (eVar 7),.val (eVar 10),.val (eVar 8)])))))) (z0I 9 (eTup (z0U (eOpF pIx 7 (bVar 10)) (z0U (eC1 z0d (bVar 11)) aNil)))))))
  (fun k δ=>∃ (pd:D) (s7:S) (bs:List (Nat×List Tx)) (a b c:Option S),Pen pd∧sT ts s7∧bs.length=k∧bs.map (·.1)=ts.take k∧(∀ b ∈ bs,b.2.length=h∧∀ r ∈ b.2,r.length=w∧∀ n ∈ r,n ∈ ts)∧δ=rb pd m h w r f s7 wy (bs.map blD) a b c)
  (z0n 0 (1 + r)) 0 (rb d4 m h w r f (.own (tD ts)) wy [] none none none) ⟨d4,_,[],none,none,none,p4,.inl rfl,rfl,rfl,by simp,rfl⟩ (fun i d δ hd ⟨pd,s7,bs,a,b,c,hpd,h7,hbl,hbt,hall,e⟩=>by
   subst e
   obtain ⟨hi,rfl⟩:=z2f hd
   rw [Q3] at hbl hbt
   obtain ⟨fl,pd',s7',rs',e,hfl,hflt,hpd',h7'⟩:=z51 (m:=m) (n:=r) (f:=f) (wy:=wy) (ts:=ts) (by omega) w1 h1 hpd h7 (bs.map blD) i (by omega) c
   have hz:bs.length < W9:=by rw [z0o]; omega
   have hx:=z5h ts i (by omega)
   refine ⟨_,rb pd' m h w r f s7' wy ((bs ++ [(ts.getD i 0,fl)]).map blD) (some (.pure (.int i))) (some (.own (.lst (fl.map .str)))) rs',rfl,?_,⟨pd',s7',bs ++ [(ts.getD i 0,fl)],_,_,_,hpd',h7',by simp [hbl],?_,?_,rfl⟩⟩
   ·unfold rb at e ⊢
    simp [dAsg,eVar,z2L h (by omega)]
    rw [e]
    rcases h7' with rfl | rfl
    ·simp [z0I,z1R,eOpF,eOpN,bVar,tD,hx,z0d,putL,hz,blD]
    ·simp [z0I,z1R,eOpF,eOpN,bVar,tD,hx,z0d,putL,hz,blD]
   ·rw [Q3,List.map_append,hbt,Ji]
    simp [show i < ts.length by omega]
   ·intro b hb
    rcases J8.mp hb with hb | hb
    ·exact hall b hb
    ·simp at hb; subst hb; exact ⟨hfl,hflt⟩)
 have hbl':bs.length=1 + r:=by simpa using hbl
 have hbt':bs.map (·.1)=ts:=by
  rw [hbt,List.take_of_length_le]
  simp [hts]
 refine ⟨h,w,bs,pd,?_,⟨h0,h1,w0,w1,hw,by omega,by omega,by rw [hbt']; exact hlt,fun b hb=>hle _ (by rw [← hbt']; exact J3 hb),fun b hb=>by rw [hbt']; exact hall b hb⟩,by omega,hpd⟩
 unfold z0u gOf z1M runD
 unfold lettersT at ec
 simp [ioOk,z0w,dAsg,z06,ios,ndup,z0q,evX,mkA,e1,putA,gTp,z05,z0R,eVar,e2,pAdd,e3,z7h r (by omega),clrD]
 rw [ec]
 simp [z0S,es,e4,putA,eVar,z7h r (by omega)]
 unfold rb lettersT tD at e5
 rw [e5]
 simp [bVar,z0d,z1f,z0p,eVar]
theorem gt_int (i j:Int):pGt (.int i) (.int j)=some (.pure (.bl (decide (j < i)))):=rfl
theorem z3j (i j:Int):pEq (.int i) (.int j)=some (.pure (.bl (i == j))):=rfl
theorem add_int (i j:Int):pAdd (.int i) (.int j)=some (.pure (.int (i + j))):=rfl
theorem z6x (h w:Nat) (bs:List (Nat×List Tx)):pIx (ruD h w bs) (.int 0)=some (.pure (.int h))∧pIx (ruD h w bs) (.int 1)=some (.pure (.int w))∧pIx (ruD h w bs) (.int 2)=some (.pure (.tup (bs.map blD))):=by
 refine ⟨?_,?_,?_⟩
 ·simp [pIx,z3z]
 ·simp [pIx,z5S]
 ·simp [pIx,z5R]
theorem z2B (np:List Nat) (n:Nat) (b:DS) (ss:List S):gOf np n b ss=if ioOk np 0 ss then (match b (z0w n ss) with
 | .ok fl δ=>(z1f fl).bind fun r=>(z0p 0 ss δ).map fun outs=>(r,outs)
 | _=>none) else none:=rfl
theorem z7N (xs:List Tx) (m:Nat) (h:∀ x ∈ xs,x.length≤m):z27 xs≤xs.length * m:=by
 induction xs with
 | nil=>simp [z27]
 | cons x r ih =>
  have h1:=h x Wg
  have h2:=ih fun y hy=>h y (Wb _ hy)
  have e:z27 (x :: r)=x.length + z27 r:=by simp [z27]
  rw [e,WN,Nat.succ_mul]
  omega
theorem mul_int (i j:Int) (h0:0≤j) (h1:j≤1000):z1q (.int i) (.int j)=some (.pure (.int (i * j))):=by
 unfold z1q pMul pII
 have:cMul i j=true:=by unfold cMul; simp; omega
 simp only [this,if_true]
theorem zc9 (e:b (z0w n [.pure x,.pure y]) = .ok (.ret v) δ1):gOf [] n b [.pure x,.pure y]=some (v,[.pure x,.pure y]):=by
 rw [z2B,e]; rfl
theorem zc8 (e:b (z0w n [.pure x,.pure y,.pure z]) = .ok (.ret v) δ1):gOf [] n b [.pure x,.pure y,.pure z]=some (v,[.pure x,.pure y,.pure z]):=by
 rw [z2B,e]; rfl
theorem z9N (e:b (z0w n [.pure x]) = .ok (.ret v) δ1):gOf [] n b [.pure x]=some (v,[.pure x]):=by
 rw [z2B,e]; rfl
theorem z0j (h:a δ = .ok .next δ1):dSeq a b δ=b δ1:=by unfold dSeq; rw [h]; rfl
theorem z80 (h:it δ = .ok ds δ1):dFor it g b δ=forL g b ds δ1:=by unfold dFor; rw [h]; rfl
theorem zaV (ts:List Nat):z2p (ts.map fun n=>D.str [n])=some (ts.map fun n=>[n]):=by
 have:=z3w (ts.map fun n=>[n])
 simpa [Q2,Function.comp_def] using this
theorem zaa (R:Rul h w bs):z0Y [.pure (ruD h w bs)]=some (.own (tD (bs.map (·.1))),[.pure (ruD h w bs)]):=by
 have n1:=R.n1
 obtain ⟨_,_,x2⟩:=z6x h w bs
 have e:=z0k (cs:=[1,2]) (g:=gTp 2 (z05 (gNm [] 1) (z05 (gNm [] 2) z0R))) (t:=dYes) (el:=eVar 1) blD (fun b=>.str [b.1]) [some (.pure (ruD h w bs)),none,none] bs [] (by rw [z0o]; simp; omega) (fun b hb=>by
  refine ⟨[some (.pure (ruD h w bs)),some (.pure (.str [b.1])),some (.pure (flD b.2))],_,.pure (.str [b.1]),[some (.pure (ruD h w bs)),some (.pure (.str [b.1])),some (.pure (flD b.2))],rfl,rfl,?_,rfl,rfl⟩
  simp [eVar])
 simp only [WF] at e
 rw [z0Y]
 refine z9N (δ1:=[some (.pure (ruD h w bs)),none,none]) ?_
 rw [z2j]
 have et:tD (bs.map (·.1)) = .lst (bs.map fun b=>D.str [b.1]):=by simp [tD,Function.comp_def]
 rw [et]
 show dRet (z0r [1,2] (iSq (eOpF pIx 0 (bOf (eD (.int 2))))) (gTp 2 (z05 (gNm [] 1) (z05 (gNm [] 2) z0R))) dYes (eVar 1)) [some (.pure (ruD h w bs)),none,none]=_
 generalize ruD h w bs=U at *
 simp [z1Z,eOpF,eOpN,bVar,x2,z0q,clrD,e,z0S]
theorem za9 (n:Int):z0B [.pure (.int n)]=some (.pure (.bl true),[.pure (.int n)]):=rfl
theorem z93 (xs:List Tx) (h:z27 xs≤16777216):z1L [] (flD xs)=some (.pure (.str xs.flatten)):=by
 unfold z1L
 simp only [z3w,z2g]
 rw [if_pos (by simpa using h)]
def res (bs:List (Nat×List Tx)) (v:Nat→Nat):List D:=bs.map fun b=>D.tup [.str [b.1],.int ((v b.1:Nat):Int)]
theorem zc7 {ts:List Nat} {ch:Nat} (h:ch ∈ ts):∃ n,(ts.map fun n=>[n]).idxOf [ch]=n∧ts[n]? = some ch:=by
 have hm:([ch]:Tx) ∈ ts.map fun n=>[n]:=List.mem_map.mpr ⟨ch,h,rfl⟩
 have hl:=List.idxOf_lt_length_of_mem hm
 refine ⟨_,rfl,?_⟩
 have e:=List.getElem_idxOf hl
 have hl':(ts.map fun n=>[n]).idxOf [ch] < ts.length:=by simpa using hl
 rw [List.getElem_map] at e
 have e':ts[(ts.map fun n=>[n]).idxOf [ch]]=ch:=by simpa using e
 rw [Wk hl',e']
theorem zb7 {ts:List Nat} (nd:ts.Nodup) {n ch:Nat} (h:ts[n]? = some ch) (F G:Nat→D):(ts.map F).set n (G ch)=ts.map fun s=>if s=ch then G s else F s:=by
 apply QP
 intro i
 by_cases hi:n=i
 ·subst hi
  have hl:=(W3.mp h).1
  rw [Wm (by simpa using hl),Wu,h]
  simp
 ·rw [W8 hi,Wu,Wu]
  cases e:ts[i]? with
  | none=>rfl
  | some x =>
   have:x≠ch:=fun z=>by
    subst z
    obtain ⟨h1,e1⟩:=W3.mp h
    obtain ⟨h2,e2⟩:=W3.mp e
    exact hi ((Jl nd).mp (e1.trans e2.symm))
   simp [this]
def cnts (ts:List Nat) (f:Nat→Nat):List D:=ts.map fun s=>.int ((f s:Nat):Int)
theorem z5Y {ts:List Nat} (nd:ts.Nodup) (hl:ts.length≤26) (U V:D) (b1:Nat):∀ (tx:Tx) (f:Nat→Nat) (s5 s6:Option D),(∀ n ∈ tx,n ∈ ts) →
  ∃ s5' s6':Option D,tabL 3 6 [b1] (gNm [2] 5) (dAsg (z4a 1 (eVar 5)) (gNm [2] 6)) tx (cnts ts f) [some (.pure U),some (.own (tD ts)),none,some (.pure (.str [b1])),some (.pure V),s5.map .pure,s6.map .pure,none]
   = .ok (cnts ts fun s=>f s + tx.count s) [some (.pure U),some (.own (tD ts)),none,some (.pure (.str [b1])),some (.pure V),s5'.map .pure,s6'.map .pure,none]
 | [],f,s5,s6,_=>⟨s5,s6,by simp [tabL]⟩
 | ch :: r,f,s5,s6,h=>by
  obtain ⟨n,e1,e2⟩:=zc7 (h ch Wg)
  obtain ⟨a,b,ih⟩:=z5Y nd hl U V b1 r (fun s=>f s + if s=ch then 1 else 0) (some (.str [ch])) (some (.int (n:Int))) fun k hk=>h k (Wb _ hk)
  refine ⟨a,b,?_⟩
  have hi:z5G (tD ts) (.str [ch])=some (.pure (.int (n:Int))):=by
   unfold z5G tD
   simp only [zaV]
   have hm:([ch]:Tx) ∈ ts.map fun n=>[n]:=List.mem_map.mpr ⟨ch,h ch Wg,rfl⟩
   rw [if_pos ⟨hm,by simp; omega⟩,e1]
  have hst:dAsg (z4a 1 (eVar 5)) (gNm [2] 6) [some (.pure U),some (.own (tD ts)),none,some (.pure (.str [b1])),some (.pure V),some (.pure (.str [ch])),s6.map .pure,none] = .ok .next [some (.pure U),some (.own (tD ts)),none,some (.pure (.str [b1])),some (.pure V),some (.pure (.str [ch])),some (.pure (.int (n:Int))),none]:=by
   have hL:isLD (tD ts)=true:=rfl
   generalize tD ts=T at *
   simp [dAsg,z4a,eVar,hL,hi]
  have hx:(cnts ts f)[n]? = some (.int ((f ch:Nat):Int)):=by
   unfold cnts
   rw [Wu,e2]
   rfl
  have hs:(cnts ts f).set n (.int ((f ch:Nat) + 1:Int))=cnts ts fun s=>f s + if s=ch then 1 else 0:=by
   unfold cnts
   have:=zb7 nd e2 (fun s=>D.int ((f s:Nat):Int)) (fun s=>D.int ((f s:Nat) + 1:Int))
   rw [this]
   refine Q5 fun s _=>?_
   by_cases q:s=ch
   ·simp [q]
   ·simp [q]
  have hf:(cnts ts fun s=>f s + (ch :: r).count s)=cnts ts fun s=>(f s + if s=ch then 1 else 0) + r.count s:=by
   refine Q5 fun s _=>?_
   show D.int (((f s + List.count s (ch :: r)):Nat):Int)=D.int ((((f s + if s=ch then 1 else 0) + List.count s r):Nat):Int)
   rw [List.count_cons]
   by_cases q:ch=s
   ·subst q
    simp
    omega
   ·simp [q,Ne.symm q]
  rw [hf,← ih]
  conv=>lhs; unfold tabL
  have hg:gNm [2] 5 (.pure (.str [ch])) [some (.pure U),some (.own (tD ts)),none,some (.pure (.str [b1])),some (.pure V),s5.map .pure,s6.map .pure,none]=some [some (.pure U),some (.own (tD ts)),none,some (.pure (.str [b1])),some (.pure V),some (.pure (.str [ch])),s6.map .pure,none]:=rfl
  rw [hg]
  dsimp only
  rw [hst]
  simp only [z1b]
  simp only [List.getElem?_cons_succ,List.getElem?_cons_zero]
  rw [if_pos (by simp)]
  simp only [WT,hx]
  rw [hs]
  rfl
theorem zae (R:Rul h w bs) (F:Nat×List Tx→D) (hb:bs[i]? = some b):putD ((bs.take i).map fun b=>((Sum.inr [b.1]:DKey),F b)) (.inr [b.1]) (F b)=(bs.take (i + 1)).map fun b=>((Sum.inr [b.1]:DKey),F b):=by
 have hi:=(W3.mp hb).1
 have hn:(((bs.take i).map fun b=>((Sum.inr [b.1]:DKey),F b)).any fun kv=>decide (kv.1 = .inr [b.1]))=false:=by
  rw [List.any_eq_false]
  intro kv hkv
  obtain ⟨c,hc,rfl⟩:=List.mem_map.mp hkv
  simp only [decide_eq_true_eq]
  intro e
  simp at e
  obtain ⟨j,hj⟩:=Qo hc
  have hji:j < i:=by have:=(W3.mp hj).1; simp at this; omega
  rw [List.getElem?_take_of_lt hji] at hj
  have:=List.pairwise_iff_getElem.mp R.up j i (by simp; omega) (by simpa using hi) hji
  have e1:=(W3.mp hj).2
  have e2:=(W3.mp hb).2
  simp only [List.getElem_map,e1,e2] at this
  omega
 unfold putD
 rw [hn,Ji,hb]
 simp
theorem z3y (R:Rul h w bs) (hb:b ∈ bs):z1L [] (flD b.2)=some (.pure (.str b.2.flatten))∧b.2.flatten.length≤16∧∀ n ∈ b.2.flatten,n ∈ bs.map (·.1):=by
 obtain ⟨h1,h2⟩:=R.blk b hb
 have hh:=R.h1
 have hw:=R.w1
 have hs:=z7N b.2 w (fun x hx=>Nat.le_of_eq (h2 x hx).1)
 have hm:b.2.length * w≤4 * 4:=Nat.mul_le_mul (by omega) hw
 refine ⟨z93 _ (by omega),?_,fun n hn=>?_⟩
 ·have:b.2.flatten.length=z27 b.2:=by rw [List.length_flatten]; rfl
  omega
 ·obtain ⟨r,hr,hn⟩:=List.mem_flatten.mp hn
  exact (h2 r hr).2 n hn
def rowT (bs:List (Nat×List Tx)) (b2:List Tx):D:=.lst (cnts (bs.map (·.1)) fun s=>b2.flatten.count s)
def dcT (bs:List (Nat×List Tx)):D:=.dct (bs.map fun b=>((Sum.inr [b.1]:DKey),rowT bs b.2))
theorem zaR (n:Nat) (ts:List Nat) (h:n=ts.length):(W4 n ([.int 0]:List D)).flatten=cnts ts fun _=>0:=by
 subst h
 induction ts with
 | nil=>rfl
 | cons t r ih =>
  rw [WN,WC,Qr,ih]
  rfl
theorem q_tab (U V T:D) (b1 n:Nat) (dd:List (DKey×D)) (tx:Tx) (zs xs':List D) (s5 s6 s5' s6':Option S) (hl:pLen T=some (.pure (.int (n:Int)))) (hn:n≤1000) (hz:(W4 n ([.int 0]:List D)).flatten=zs) (hd:dd.length < W9) (hj:z1L [] V=some (.pure (.str tx)))
  (ht:tabL 3 6 [b1] (gNm [2] 5) (dAsg (z4a 1 (eVar 5)) (gNm [2] 6)) tx zs [some (.pure U),some (.own T),none,some (.pure (.str [b1])),some (.pure V),s5,s6,none] = .ok xs' [some (.pure U),some (.own T),none,some (.pure (.str [b1])),some (.pure V),s5',s6',none]) :
  dTab 2 3 6 (eOp z2P (z39 [.int 0]) (bOf (eC1 pLen (bVar 1)))) (eC1 (z1L []) (bVar 4)) (gNm [2] 5) (dAsg (z4a 1 (eVar 5)) (gNm [2] 6)) [some (.pure U),some (.own T),some (.own (.dct dd)),some (.pure (.str [b1])),some (.pure V),s5,s6,none]
   = .ok .next [some (.pure U),some (.own T),some (.own (.dct (putD dd (.inr [b1]) (.lst xs')))),some (.pure (.str [b1])),some (.pure V),s5',s6',none]:=by
 have hm:z2P (.lst [.int 0]) (.int (n:Int))=some (.own (.lst zs)):=by
  unfold z2P
  dsimp only
  rw [if_pos ⟨by omega,by omega,by simp,by simp⟩]
  simp only [WT,hz]
 unfold dTab
 simp [z6i,eOp,z39,bVar,hl,hm,hd,hj]
 rw [ht]
 rfl
theorem z3a {bs:List (Nat×List Tx)} (hn:bs.length≤26) (k:Nat) (δ:Dl) (hk:δ[k]? = some none):z0L [k] (gNm [] k) dYes (eOpF pIx k (bOf (eD (.int 0)))) (bs.map blD) δ [] = .ok ((bs.map (·.1)).map fun n=>.str [n]) δ:=by
 have hl:k < δ.length:=(W3.mp hk).1
 have:=z0k (cs:=[k]) (g:=gNm [] k) (t:=dYes) (el:=eOpF pIx k (bOf (eD (.int 0)))) blD (fun b=>D.str [b.1]) δ bs [] (by rw [z0o]; simp; omega) (fun b hb=>by
  have q:pIx (blD b) (.int 0)=some (.pure (.str [b.1])):=by simp [pIx,atI,ixN]
  have hg:(δ.set k (some (.pure (blD b))))[k]? = some (some (.pure (blD b))):=Wm hl
  refine ⟨δ.set k (some (.pure (blD b))),_,.pure (.str [b.1]),δ.set k (some (.pure (blD b))),by simp [gNm],rfl,?_,?_,rfl⟩
  ·generalize blD b=B at *
   simp [eOpF,eOpN,bVar,hg,q]
  ·show (δ.set k (some (.pure (blD b)))).set k none=δ
   rw [List.set_set]
   apply QP
   intro i
   by_cases hi:k=i
   ·subst hi
    rw [Wm hl,hk]
   ·rw [W8 hi])
 rw [this]
 simp
theorem z7l {h w:Nat} {bs:List (Nat×List Tx)} (R:Rul h w bs):z0v [.pure (ruD h w bs)]=some (.own (dcT bs),[.pure (ruD h w bs)]):=by
 have x2:=(z6x h w bs).2.2
 have n1:=R.n1
 have hts:(bs.map (·.1)).length≤26:=by simpa using n1
 have hlen:pLen (tD (bs.map (·.1)))=some (.pure (.int ((bs.length:Nat):Int))):=by simp [tD,pLen]
 have hc:=z3a n1 7 [some (.pure (ruD h w bs)),none,none,none,none,none,none,none] rfl
 have loop:∃ o3 o4 o5 o6:Option D,forL (gTp 2 (z05 (gNm [] 3) (z05 (gNm [] 4) z0R))) (dSeq (dTab 2 3 6 (eOp z2P (z39 [.int 0]) (bOf (eC1 pLen (bVar 1)))) (eC1 (z1L []) (bVar 4)) (gNm [2] 5) (dAsg (z4a 1 (eVar 5)) (gNm [2] 6))) z1a) (bs.map blD) [some (.pure (ruD h w bs)),some (.own (tD (bs.map (·.1)))),some (.own (.dct [])),none,none,none,none,none]
   = .ok .next [some (.pure (ruD h w bs)),some (.own (tD (bs.map (·.1)))),some (.own (dcT bs)),o3.map .pure,o4.map .pure,o5.map .pure,o6.map .pure,none]:=by
  obtain ⟨δ',e,o3,o4,o5,o6,rfl⟩:=z1I (g:=gTp 2 (z05 (gNm [] 3) (z05 (gNm [] 4) z0R))) (b:=dSeq (dTab 2 3 6 (eOp z2P (z39 [.int 0]) (bOf (eC1 pLen (bVar 1)))) (eC1 (z1L []) (bVar 4)) (gNm [2] 5) (dAsg (z4a 1 (eVar 5)) (gNm [2] 6))) z1a)
   (fun k δ=>∃ o3 o4 o5 o6:Option D,δ=[some (.pure (ruD h w bs)),some (.own (tD (bs.map (·.1)))),some (.own (.dct ((bs.take k).map fun b=>((Sum.inr [b.1]:DKey),rowT bs b.2)))),o3.map .pure,o4.map .pure,o5.map .pure,o6.map .pure,none]) (bs.map blD) 0 [some (.pure (ruD h w bs)),some (.own (tD (bs.map (·.1)))),some (.own (.dct [])),none,none,none,none,none] ⟨none,none,none,none,by simp⟩ (fun i d δ hd ⟨o3,o4,o5,o6,e⟩=>by
   subst e
   rw [Wu,Qt] at hd
   obtain ⟨b,hb,rfl⟩:=hd
   rw [Q3]
   have hm:=WE hb
   obtain ⟨t1,t2,t3⟩:=z3y R hm
   have hz:((bs.take i).map fun b=>((Sum.inr [b.1]:DKey),rowT bs b.2)).length < W9:=by
    rw [z0o]; simp; omega
   obtain ⟨s5',s6',et⟩:=z5Y (z8X R) hts (ruD h w bs) (flD b.2) b.1 b.2.flatten (fun _=>0) o5 o6 t3
   have hq:=q_tab (ruD h w bs) (flD b.2) (tD (bs.map (·.1))) b.1 bs.length _ b.2.flatten _ _ _ _ _ _ hlen (by omega) (zaR bs.length (bs.map (·.1)) (by simp)) hz t1 et
   have hr:D.lst (cnts (bs.map (·.1)) fun s=>0 + b.2.flatten.count s)=rowT bs b.2:=by
    unfold rowT
    congr 1
    exact Q5 fun s _=>by simp
   rw [hr,zae R (fun b=>rowT bs b.2) hb] at hq
   refine ⟨[some (.pure (ruD h w bs)),some (.own (tD (bs.map (·.1)))),some (.own (.dct ((bs.take i).map fun b=>((Sum.inr [b.1]:DKey),rowT bs b.2)))),some (.pure (.str [b.1])),some (.pure (flD b.2)),o5.map .pure,o6.map .pure,none],_,rfl,?_,some (.str [b.1]),some (flD b.2),s5',s6',rfl⟩
   rw [z0j hq]
   rfl)
  refine ⟨o3,o4,o5,o6,?_⟩
  rw [e]
  simp [dcT]
 obtain ⟨o3,o4,o5,o6,e⟩:=loop
 rw [z0v,z2B,z2k]
 have hT:D.lst ((bs.map (·.1)).map fun n=>.str [n])=tD (bs.map (·.1)):=rfl
 generalize ((bs.map (·.1)).map fun n=>D.str [n])=TS at *
 generalize tD (bs.map (·.1))=T at *
 generalize dcT bs=DT at *
 generalize hru:ruD h w bs=ru at *
 generalize o3.map S.pure=p3 at *
 generalize o4.map S.pure=p4 at *
 generalize o5.map S.pure=p5 at *
 generalize o6.map S.pure=p6 at *
 simp [ioOk,z0w,dAsg,z1Z,eVar,z82,eOpF,eOpN,bVar,x2,z0q,clrD,hc,z0S]
 rw [hT,e]
 simp [z9d,z1f,z0p]
theorem M_le (R:Rul h w bs) (ht:t ∈ bs.map (·.1)) (s:Nat):M bs t s≤16:=by
 obtain ⟨b,hb,_,_,e2⟩:=z4O ht
 unfold M
 rw [e2]
 exact WD List.count_le_length (z3y R hb).2.1
theorem ix_T (R:Rul h w bs) (ht:t ∈ bs.map (·.1)):pIxX (dcT bs) (.str [t])=some (.pure (.lst (cnts (bs.map (·.1)) (M bs t)))):=by
 obtain ⟨b,hb,e0,e1,e2⟩:=z4O ht
 have hv:valD (bs.map fun b=>((Sum.inr [b.1]:DKey),rowT bs b.2)) (.inr [t])=some (rowT bs b.2):=by
  unfold valD
  rw [List.find?_map]
  have:((fun kv:DKey×D=>decide (kv.1 = .inr [t])) ∘ fun b:Nat×List Tx=>((Sum.inr [b.1]:DKey),rowT bs b.2))=fun b=>decide (b.1=t):=by
   funext b
   simp
  rw [this,e1]
  rfl
 unfold dcT pIxX
 simp only [keyD,QF,hv,WA]
 unfold rowT M
 rw [e2]
theorem zaP (ts:List Nat) (a m:Nat→Nat) (many:Nat) (hl:ts.length≤26) (hm:∀ s ∈ ts,m s≤1000) (δ0:Dl) (L:Dl) (hL:δ0=L ++ [none,none]) (hlen:L.length=12) (h8:L[8]? = some (some (.pure (.int (many:Int))))) :
  z0L [13,12] (gTp 2 (z05 (gNm [] 13) (z05 (gNm [] 12) z0R))) dYes (eOpF pAdd 13 (bOf (eOpF z1q 8 (bVar 12)))) (zipD (cnts ts a) (cnts ts m)) δ0 [] = .ok (cnts ts fun s=>a s + many * m s) δ0:=by
 have hz:zipD (cnts ts a) (cnts ts m)=ts.map fun s=>D.tup [.int ((a s:Nat):Int),.int ((m s:Nat):Int)]:=by
  unfold zipD cnts
  rw [Jq,Jj]
 rw [hz]
 match L,hlen with
 | [d0,d1,d2,d3,d4,d5,d6,d7,d8,d9,d10,d11],_ =>
  simp at h8
  subst hL h8
  have:=z0k (cs:=[13,12]) (g:=gTp 2 (z05 (gNm [] 13) (z05 (gNm [] 12) z0R))) (t:=dYes) (el:=eOpF pAdd 13 (bOf (eOpF z1q 8 (bVar 12)))) (fun s=>D.tup [.int ((a s:Nat):Int),.int ((m s:Nat):Int)]) (fun s=>D.int ((a s + many * m s:Nat):Int)) [d0,d1,d2,d3,d4,d5,d6,d7,some (.pure (.int (many:Int))),d9,d10,d11,none,none] ts [] (by rw [z0o]; simp; omega) (fun s hs=>by
   have q:=mul_int (many:Int) ((m s:Nat):Int) (by omega) (by have:=hm s hs; omega)
   refine ⟨[d0,d1,d2,d3,d4,d5,d6,d7,some (.pure (.int (many:Int))),d9,d10,d11,some (.pure (.int ((m s:Nat):Int))),some (.pure (.int ((a s:Nat):Int)))],_,.pure (.int ((a s:Nat) + (many:Int) * (m s:Nat))),[d0,d1,d2,d3,d4,d5,d6,d7,some (.pure (.int (many:Int))),d9,d10,d11,some (.pure (.int ((m s:Nat):Int))),some (.pure (.int ((a s:Nat):Int)))],rfl,rfl,?_,rfl,by show D.int _=D.int _; push_cast; rfl⟩
   simp [eOpF,eOpN,bVar,q,add_int])
  simp only [Jn,WF]
  rw [this]
  rfl
theorem q_row (ru t0 gg T3 T4 V5 tn:D) (s6 o10:Option S) (a m A':List D) (many:Int) (hx:pIxX T4 tn=some (.pure (.lst m)))
  (hc:z0L [13,12] (gTp 2 (z05 (gNm [] 13) (z05 (gNm [] 12) z0R))) dYes (eOpF pAdd 13 (bOf (eOpF z1q 8 (bVar 12)))) (zipD a m) [some (.pure ru),some (.pure t0),some (.pure gg),some (.pure T3),some (.own T4),some (.pure V5),s6,some (.pure (.lst a)),some (.pure (.int many)),some (.pure tn),some (.pure (.lst m)),none,none,none] [] = .ok A' [some (.pure ru),some (.pure t0),some (.pure gg),some (.pure T3),some (.own T4),some (.pure V5),s6,some (.pure (.lst a)),some (.pure (.int many)),some (.pure tn),some (.pure (.lst m)),none,none,none]) :
  (dSeq (dAsg (eOpF pIxX 4 (bVar 9)) (gNm [] 10)) (dAsg (z0r [13,12] (z38 (eVar 7) (eVar 10)) (gTp 2 (z05 (gNm [] 13) (z05 (gNm [] 12) z0R))) dYes (eOpF pAdd 13 (bOf (eOpF z1q 8 (bVar 12))))) (gNm [] 7)))
   [some (.pure ru),some (.pure t0),some (.pure gg),some (.pure T3),some (.own T4),some (.pure V5),s6,some (.own (.lst a)),some (.pure (.int many)),some (.pure tn),o10,none,none,none]
   = .ok .next [some (.pure ru),some (.pure t0),some (.pure gg),some (.pure T3),some (.own T4),some (.pure V5),s6,some (.own (.lst A')),some (.pure (.int many)),some (.pure tn),some (.pure (.lst m)),none,none,none]:=by
 simp [dAsg,eOpF,eOpN,bVar,hx,z38,eVar,lsD,z0q,clrD]
 rw [hc]
 simp [z0S]
theorem z6U (R:Rul h w bs) (ru t0 gg:D) (v:Nat→Nat) (s6 s8 s9 s10:Option S) :
  ∃ o8 o9 o10:Option S,forL (gTp 2 (z05 (gNm [] 8) (z05 (gNm [] 9) z0R))) (dSeq (dAsg (eOpF pIxX 4 (bVar 9)) (gNm [] 10)) (dAsg (z0r [13,12] (z38 (eVar 7) (eVar 10)) (gTp 2 (z05 (gNm [] 13) (z05 (gNm [] 12) z0R))) dYes (eOpF pAdd 13 (bOf (eOpF z1q 8 (bVar 12))))) (gNm [] 7)))
   ((bs.map (·.1)).map fun t=>D.tup [.int ((v t:Nat):Int),.str [t]]) [some (.pure ru),some (.pure t0),some (.pure gg),some (.pure (tD (bs.map (·.1)))),some (.own (dcT bs)),some (.pure (.lst (cnts (bs.map (·.1)) v))),s6,some (.own (.lst (cnts (bs.map (·.1)) fun _=>0))),s8,s9,s10,none,none,none]
   = .ok .next [some (.pure ru),some (.pure t0),some (.pure gg),some (.pure (tD (bs.map (·.1)))),some (.own (dcT bs)),some (.pure (.lst (cnts (bs.map (·.1)) v))),s6,some (.own (.lst (cnts (bs.map (·.1)) (stp bs v)))),o8,o9,o10,none,none,none]:=by
 have n1:=R.n1
 generalize hts:bs.map (·.1)=ts at *
 have hlen:ts.length≤26:=by rw [← hts]; simpa using n1
 obtain ⟨δ',e,o8,o9,o10,rfl⟩:=z1I (g:=gTp 2 (z05 (gNm [] 8) (z05 (gNm [] 9) z0R))) (b:=dSeq (dAsg (eOpF pIxX 4 (bVar 9)) (gNm [] 10)) (dAsg (z0r [13,12] (z38 (eVar 7) (eVar 10)) (gTp 2 (z05 (gNm [] 13) (z05 (gNm [] 12) z0R))) dYes (eOpF pAdd 13 (bOf (eOpF z1q 8 (bVar 12))))) (gNm [] 7)))
  (fun k δ=>∃ o8 o9 o10:Option S,δ=[some (.pure ru),some (.pure t0),some (.pure gg),some (.pure (tD ts)),some (.own (dcT bs)),some (.pure (.lst (cnts ts v))),s6,some (.own (.lst (cnts ts fun s=>sm (ts.take k) fun t=>v t * M bs t s))),o8,o9,o10,none,none,none]) (ts.map fun t=>D.tup [.int ((v t:Nat):Int),.str [t]]) 0 [some (.pure ru),some (.pure t0),some (.pure gg),some (.pure (tD ts)),some (.own (dcT bs)),some (.pure (.lst (cnts ts v))),s6,some (.own (.lst (cnts ts fun _=>0))),s8,s9,s10,none,none,none]
  ⟨s8,s9,s10,by simp [sm]⟩ (fun i d δ hd ⟨o8,o9,o10,e⟩=>by
   subst e
   rw [Wu,Qt] at hd
   obtain ⟨t,ht,rfl⟩:=hd
   rw [Q3]
   have hm:t ∈ bs.map (·.1):=by rw [hts]; exact WE ht
   have hx:=ix_T R hm
   rw [hts] at hx
   have ha:=zaP ts (fun s=>sm (ts.take i) fun t=>v t * M bs t s) (M bs t) (v t) hlen (fun s _=>WD (M_le R hm s) (by decide)) [some (.pure ru),some (.pure t0),some (.pure gg),some (.pure (tD ts)),some (.own (dcT bs)),some (.pure (.lst (cnts ts v))),s6,some (.pure (.lst (cnts ts fun s=>sm (ts.take i) fun t=>v t * M bs t s))),some (.pure (.int ((v t:Nat):Int))),some (.pure (.str [t])),some (.pure (.lst (cnts ts (M bs t)))),none,none,none]
    [some (.pure ru),some (.pure t0),some (.pure gg),some (.pure (tD ts)),some (.own (dcT bs)),some (.pure (.lst (cnts ts v))),s6,some (.pure (.lst (cnts ts fun s=>sm (ts.take i) fun t=>v t * M bs t s))),some (.pure (.int ((v t:Nat):Int))),some (.pure (.str [t])),some (.pure (.lst (cnts ts (M bs t)))),none] rfl rfl rfl
   have hE:(cnts ts fun s=>sm (ts.take (i + 1)) fun t=>v t * M bs t s)=cnts ts fun s=>sm (ts.take i) (fun t=>v t * M bs t s) + v t * M bs t s:=by
    refine Q5 fun s _=>?_
    show D.int (((sm (ts.take (i + 1)) fun t=>v t * M bs t s):Nat):Int)=D.int (((sm (ts.take i) (fun t=>v t * M bs t s) + v t * M bs t s):Nat):Int)
    rw [Ji,ht,z9w]
    simp [sm]
   refine ⟨[some (.pure ru),some (.pure t0),some (.pure gg),some (.pure (tD ts)),some (.own (dcT bs)),some (.pure (.lst (cnts ts v))),s6,some (.own (.lst (cnts ts fun s=>sm (ts.take i) fun t=>v t * M bs t s))),some (.pure (.int ((v t:Nat):Int))),some (.pure (.str [t])),o10,none,none,none],_,rfl,q_row _ _ _ _ _ _ _ _ _ _ _ _ _ hx ha,_,_,_,by rw [hE]⟩)
 refine ⟨o8,o9,o10,?_⟩
 rw [e]
 simp only [WM,Q3,List.take_length]
 unfold stp
 rw [hts]
theorem zbs (ru t0 gg T3 T4:D) (n:Nat) (vs zs us ts zp:List D) (s5:S) (h5:s5 = .own (.lst vs)∨s5 = .pure (.lst vs)) (s6 s7 s8 s9 s10 o8 o9 o10:Option S) (h3:T3 = .lst ts) (hl:pLen T3=some (.pure (.int (n:Int)))) (hn:n≤1000) (hz:(W4 n ([.int 0]:List D)).flatten=zs) (hzp:zipD vs ts=zp)
  (B:DS) (hB:forL (gTp 2 (z05 (gNm [] 8) (z05 (gNm [] 9) z0R))) B zp [some (.pure ru),some (.pure t0),some (.pure gg),some (.pure T3),some (.own T4),some (.pure (.lst vs)),s6,some (.own (.lst zs)),s8,s9,s10,none,none,none] = .ok .next [some (.pure ru),some (.pure t0),some (.pure gg),some (.pure T3),some (.own T4),some (.pure (.lst vs)),s6,some (.own (.lst us)),o8,o9,o10,none,none,none]) :
  (dSeq (dAsg (eOp z2P (z39 [.int 0]) (bOf (eC1 pLen (bVar 3)))) (gNm [] 7)) (dSeq (dFor (z38 (eVar 5) (eVar 3)) (gTp 2 (z05 (gNm [] 8) (z05 (gNm [] 9) z0R))) B) (dAsg (eVar 7) (gNm [] 5)))) [some (.pure ru),some (.pure t0),some (.pure gg),some (.pure T3),some (.own T4),some s5,s6,s7,s8,s9,s10,none,none,none]
   = .ok .next [some (.pure ru),some (.pure t0),some (.pure gg),some (.pure T3),some (.own T4),some (.pure (.lst us)),s6,some (.pure (.lst us)),o8,o9,o10,none,none,none]:=by
 have hm:z2P (.lst [.int 0]) (.int (n:Int))=some (.own (.lst zs)):=by
  unfold z2P
  dsimp only
  rw [if_pos ⟨by omega,by omega,by simp,by simp⟩]
  simp only [WT,hz]
 subst h3
 rcases h5 with rfl | rfl
 ·simp [dAsg,eOp,z39,bVar,hl,hm,z38,eVar,lsD,hzp]
  rw [hB]
  simp [eVar]
 ·simp [dAsg,eOp,z39,bVar,hl,hm,z38,eVar,lsD,hzp]
  rw [hB]
  simp [eVar]
abbrev bRow:DS:=dSeq (dAsg (eOpF pIxX 4 (bVar 9)) (gNm [] 10)) (dAsg (z0r [13,12] (z38 (eVar 7) (eVar 10)) (gTp 2 (z05 (gNm [] 13) (z05 (gNm [] 12) z0R))) dYes (eOpF pAdd 13 (bOf (eOpF z1q 8 (bVar 12))))) (gNm [] 7))
abbrev z8q:DS:=dSeq (dAsg (eOp z2P (z39 [.int 0]) (bOf (eC1 pLen (bVar 3)))) (gNm [] 7)) (dSeq (dFor (z38 (eVar 5) (eVar 3)) (gTp 2 (z05 (gNm [] 8) (z05 (gNm [] 9) z0R))) bRow) (dAsg (eVar 7) (gNm [] 5)))
theorem z6t (R:Rul h w bs) (ru tt gg:D) (t0 g:Nat) :
  ∃ (s5:S) (o6 o7 o8 o9 o10:Option S),(s5 = .own (.lst (cnts (bs.map (·.1)) (vec bs t0 g)))∨s5 = .pure (.lst (cnts (bs.map (·.1)) (vec bs t0 g))))∧forL (gNm [] 6) z8q (z0n 0 g) [some (.pure ru),some (.pure tt),some (.pure gg),some (.pure (tD (bs.map (·.1)))),some (.own (dcT bs)),some (.own (.lst (cnts (bs.map (·.1)) (vec bs t0 0)))),none,none,none,none,none,none,none,none]
   = .ok .next [some (.pure ru),some (.pure tt),some (.pure gg),some (.pure (tD (bs.map (·.1)))),some (.own (dcT bs)),some s5,o6,o7,o8,o9,o10,none,none,none]:=by
 have n1:=R.n1
 have hlen:pLen (tD (bs.map (·.1)))=some (.pure (.int ((bs.length:Nat):Int))):=by simp [tD,pLen]
 obtain ⟨δ',e,s5,o6,o7,o8,o9,o10,h5,rfl⟩:=z1I (g:=gNm [] 6) (b:=z8q)
  (fun k δ=>∃ (s5:S) (o6 o7 o8 o9 o10:Option S),(s5 = .own (.lst (cnts (bs.map (·.1)) (vec bs t0 k)))∨s5 = .pure (.lst (cnts (bs.map (·.1)) (vec bs t0 k))))∧δ=[some (.pure ru),some (.pure tt),some (.pure gg),some (.pure (tD (bs.map (·.1)))),some (.own (dcT bs)),some s5,o6,o7,o8,o9,o10,none,none,none]) (z0n 0 g) 0 _
  ⟨_,none,none,none,none,none,.inl rfl,rfl⟩ (fun i d δ hd ⟨s5,o6,o7,o8,o9,o10,h5,e⟩=>by
   subst e
   rw [Q3] at *
   obtain ⟨p8,p9,p10,et⟩:=z6U R ru tt gg (vec bs t0 i) (some (.pure d)) o8 o9 o10
   have hz:zipD (cnts (bs.map (·.1)) (vec bs t0 i)) ((bs.map (·.1)).map fun n=>D.str [n])=(bs.map (·.1)).map fun t=>D.tup [.int ((vec bs t0 i t:Nat):Int),.str [t]]:=by
    unfold zipD cnts
    rw [Jq,Jj]
   have q:=zbs ru tt gg (tD (bs.map (·.1))) (dcT bs) bs.length _ _ _ _ _ s5 h5 (some (.pure d)) o7 o8 o9 o10 p8 p9 p10 rfl hlen (by omega) (zaR bs.length (bs.map (·.1)) (by simp)) hz bRow et
   exact ⟨_,_,rfl,q,_,_,_,_,_,_,.inr rfl,rfl⟩)
 refine ⟨s5,o6,o7,o8,o9,o10,?_,e⟩
 rw [z5g,Q3] at h5
 exact h5
theorem z9f (hl:ts.length≤26) (t0:Nat) (L:Dl) (hL:L.length=12) (h1:L[1]? = some (some (.pure (.str [t0])))):z0L [12] (gNm [] 12) dYes (eC1 pInt (bOf (eOpF pEq 12 (bVar 1)))) (ts.map fun n=>D.str [n]) (L ++ [none,none]) [] = .ok (cnts ts fun s=>if s=t0 then 1 else 0) (L ++ [none,none]):=by
 match L,hL with
 | [d0,d1,d2,d3,d4,d5,d6,d7,d8,d9,d10,d11],_ =>
  simp at h1
  subst h1
  have:=z0k (cs:=[12]) (g:=gNm [] 12) (t:=dYes) (el:=eC1 pInt (bOf (eOpF pEq 12 (bVar 1)))) (fun n=>D.str [n]) (fun s=>D.int (((if s=t0 then 1 else 0):Nat):Int)) [d0,some (.pure (.str [t0])),d2,d3,d4,d5,d6,d7,d8,d9,d10,d11,none,none] ts [] (by rw [z0o]; simp; omega) (fun s hs=>by
   have q:pEq (.str [s]) (.str [t0])=some (.pure (.bl (s == t0))):=by simp [pEq,flat,eqD]
   have q2:pInt (.bl (s == t0))=some (.pure (.int (((if s=t0 then 1 else 0):Nat):Int))):=by
    by_cases h:s=t0
    ·simp [pInt,h]
    ·have:(s == t0)=false:=by simpa using h
     simp [pInt,h,this]
   refine ⟨[d0,some (.pure (.str [t0])),d2,d3,d4,d5,d6,d7,d8,d9,d10,d11,some (.pure (.str [s])),none],_,.pure (.int (((if s=t0 then 1 else 0):Nat):Int)),[d0,some (.pure (.str [t0])),d2,d3,d4,d5,d6,d7,d8,d9,d10,d11,some (.pure (.str [s])),none],rfl,rfl,?_,rfl,rfl⟩
   generalize (s == t0)=bb at *
   generalize (((if s=t0 then 1 else 0):Nat):Int)=vv at *
   simp [eOpF,eOpN,bVar,q,q2])
  simp only [Jn,WF]
  rw [this]
  rfl
theorem z8K (GT:DF) (ru T DT:D) (t0 g:Nat) (bd TS NW VV RR:List D) (s5:S) (h5:s5 = .own (.lst VV)∨s5 = .pure (.lst VV)) (o6 o7 o8 o9 o10:Option S) (x2:pIx ru (.int 2)=some (.pure (.tup bd))) (hT:T = .lst TS) (hg:g≤1000)
  (hc:z0L [11] (gNm [] 11) dYes (eOpF pIx 11 (bOf (eD (.int 0)))) bd [some (.pure ru),some (.pure (.str [t0])),some (.pure (.int g)),none,none,none,none,none,none,none,none,none,none,none] [] = .ok TS [some (.pure ru),some (.pure (.str [t0])),some (.pure (.int g)),none,none,none,none,none,none,none,none,none,none,none])
  (gt:GT [.pure ru]=some (.own DT,[.pure ru]))
  (hc2:z0L [12] (gNm [] 12) dYes (eC1 pInt (bOf (eOpF pEq 12 (bVar 1)))) TS [some (.pure ru),some (.pure (.str [t0])),some (.pure (.int g)),some (.pure T),some (.own DT),none,none,none,none,none,none,none,none,none] [] = .ok NW [some (.pure ru),some (.pure (.str [t0])),some (.pure (.int g)),some (.pure T),some (.own DT),none,none,none,none,none,none,none,none,none])
  (hl:forL (gNm [] 6) z8q (z0n 0 g) [some (.pure ru),some (.pure (.str [t0])),some (.pure (.int g)),some (.pure T),some (.own DT),some (.own (.lst NW)),none,none,none,none,none,none,none,none] = .ok .next [some (.pure ru),some (.pure (.str [t0])),some (.pure (.int g)),some (.pure T),some (.own DT),some s5,o6,o7,o8,o9,o10,none,none,none])
  (hz:zipD TS VV=RR) (hz1:TS.length=VV.length) (hz2:TS.length≤1000) :
  ∃ δ',(dSeq (dAsg (z0r [11] (iSq (eOpF pIx 0 (bOf (eD (.int 2))))) (gNm [] 11) dYes (eOpF pIx 11 (bOf (eD (.int 0))))) (gNm [] 3)) (dSeq (dAsg (z06 GT [.val (eVar 0)]) (gNm [] 4)) (dSeq (dAsg (z0r [12] (iSq (eVar 3)) (gNm [] 12) dYes (eC1 pInt (bOf (eOpF pEq 12 (bVar 1))))) (gNm [] 5)) (dSeq (dFor (z0E (eVar 2)) (gNm [] 6) z8q) (dRet (z4l (eVar 3) (eVar 5))))))) [some (.pure ru),some (.pure (.str [t0])),some (.pure (.int g)),none,none,none,none,none,none,none,none,none,none,none] = .ok (.ret (.own (.lst RR))) δ':=by
 subst hT
 have e1:dAsg (z0r [11] (iSq (eOpF pIx 0 (bOf (eD (.int 2))))) (gNm [] 11) dYes (eOpF pIx 11 (bOf (eD (.int 0))))) (gNm [] 3) [some (.pure ru),some (.pure (.str [t0])),some (.pure (.int g)),none,none,none,none,none,none,none,none,none,none,none] = .ok .next [some (.pure ru),some (.pure (.str [t0])),some (.pure (.int g)),some (.own (.lst TS)),none,none,none,none,none,none,none,none,none,none]:=by
  simp [dAsg,z1Z,eOpF,eOpN,bVar,x2,z0q,clrD]
  rw [hc]
  simp [z0S]
 have e2:dAsg (z06 GT [.val (eVar 0)]) (gNm [] 4) [some (.pure ru),some (.pure (.str [t0])),some (.pure (.int g)),some (.own (.lst TS)),none,none,none,none,none,none,none,none,none,none] = .ok .next [some (.pure ru),some (.pure (.str [t0])),some (.pure (.int g)),some (.own (.lst TS)),some (.own DT),none,none,none,none,none,none,none,none,none]:=by
  simp [dAsg,z06,ios,ndup,evX,eVar,mkA,gt,putA]
 have e3:dAsg (z0r [12] (iSq (eVar 3)) (gNm [] 12) dYes (eC1 pInt (bOf (eOpF pEq 12 (bVar 1))))) (gNm [] 5) [some (.pure ru),some (.pure (.str [t0])),some (.pure (.int g)),some (.own (.lst TS)),some (.own DT),none,none,none,none,none,none,none,none,none] = .ok .next [some (.pure ru),some (.pure (.str [t0])),some (.pure (.int g)),some (.pure (.lst TS)),some (.own DT),some (.own (.lst NW)),none,none,none,none,none,none,none,none]:=by
  simp [dAsg,z1Z,eVar,z0q,clrD]
  rw [hc2]
  simp [z0S]
 rw [z0j e1,z0j e2,z0j e3]
 have e4:dFor (z0E (eVar 2)) (gNm [] 6) z8q [some (.pure ru),some (.pure (.str [t0])),some (.pure (.int g)),some (.pure (.lst TS)),some (.own DT),some (.own (.lst NW)),none,none,none,none,none,none,none,none] = .ok .next [some (.pure ru),some (.pure (.str [t0])),some (.pure (.int g)),some (.pure (.lst TS)),some (.own DT),some s5,o6,o7,o8,o9,o10,none,none,none]:=by
  rw [← hl]
  simp [eVar,z2L g (by omega)]
 rw [z0j e4]
 rcases h5 with rfl | rfl
 ·refine ⟨[some (.pure ru),some (.pure (.str [t0])),some (.pure (.int g)),some (.pure (.lst TS)),some (.own DT),some (.pure (.lst VV)),o6,o7,o8,o9,o10,none,none,none],?_⟩
  have hz3:VV.length≤1000:=by omega
  simp [z4l,eVar,lsD,hz,hz1,hz3]
 ·refine ⟨[some (.pure ru),some (.pure (.str [t0])),some (.pure (.int g)),some (.pure (.lst TS)),some (.own DT),some (.pure (.lst VV)),o6,o7,o8,o9,o10,none,none,none],?_⟩
  have hz3:VV.length≤1000:=by omega
  simp [z4l,eVar,lsD,hz,hz1,hz3]
theorem z8I {h w t0 g:Nat} {bs:List (Nat×List Tx)} (R:Rul h w bs) (hg:g≤1000):z0N [.pure (ruD h w bs),.pure (.str [t0]),.pure (.int g)]=some (.own (.lst (res bs (vec bs t0 g))),[.pure (ruD h w bs),.pure (.str [t0]),.pure (.int g)]):=by
 have n1:=R.n1
 have hts:(bs.map (·.1)).length≤26:=by simpa using n1
 obtain ⟨s5,o6,o7,o8,o9,o10,h5,hl⟩:=z6t R (ruD h w bs) (.str [t0]) (.int g) t0 g
 have hz:zipD ((bs.map (·.1)).map fun n=>D.str [n]) (cnts (bs.map (·.1)) (vec bs t0 g))=res bs (vec bs t0 g):=by
  unfold zipD cnts res
  rw [Jq,Jj,Q2]
  rfl
 obtain ⟨δ',e⟩:=z8K z0v (ruD h w bs) (tD (bs.map (·.1))) (dcT bs) t0 g _ _ _ _ _ s5 h5 o6 o7 o8 o9 o10 (z6x h w bs).2.2 rfl hg (z3a n1 11 _ rfl) (z7l R)
  (z9f hts t0 [some (.pure (ruD h w bs)),some (.pure (.str [t0])),some (.pure (.int g)),some (.pure (tD (bs.map (·.1)))),some (.own (dcT bs)),none,none,none,none,none,none,none] rfl rfl) hl hz (by simp [cnts]) (by simp; omega)
 rw [z0N,z24]
 exact zc8 e
theorem z4n (f F:A→D) (I:Dl→Prop):∀ (as:List A) (acc:List D) (δ:Dl),I δ→acc.length + as.length≤W9 →
  (∀ a ∈ as,∀ δ,I δ→∃ δ1 δ2 x δ3,g (.pure (f a)) δ=some δ1∧t δ1 = .ok true δ2∧el δ2 = .ok x δ3∧I (clrD cs δ3)∧x.d=F a)→∃ δ',z0L cs g t el (as.map f) δ acc = .ok (acc ++ as.map F) δ'∧I δ'
 | [],acc,δ,h,_,_=>⟨δ,by simp [z0L],h⟩
 | a :: r,acc,δ,h,hl,hs=>by
  obtain ⟨δ1,δ2,x,δ3,e1,e2,e3,e4,e5⟩:=hs a Wg δ h
  have hl':acc.length < W9:=by simp at hl; omega
  obtain ⟨δ',e6,h6⟩:=z4n (cs:=cs) (g:=g) (t:=t) (el:=el) f F I r (acc ++ [x.d]) (clrD cs δ3) e4 (by simp at hl ⊢; omega) (fun a ha=>hs a (Wb _ ha))
  refine ⟨δ',?_,h6⟩
  rw [Wr]
  unfold z0L
  rw [e1]
  simp only [e2,z1b,if_true,e3,if_pos hl']
  rw [e6,e5]
  simp
def tb (ts:List Nat) (X:Nat→Nat→Nat):D:=.tup (ts.map fun t=>.tup (cnts ts (X t)))
theorem z4s {ts:List Nat} {X Y:Nat→Nat→Nat} (h:∀ t ∈ ts,∀ s ∈ ts,X t s=Y t s):tb ts X=tb ts Y:=by
 unfold tb
 congr 1
 refine Q5 fun t ht=>?_
 congr 1
 exact Q5 fun s hs=>by rw [h t ht s hs]
theorem z8E {h w:Nat} {bs:List (Nat×List Tx)} (R:Rul h w bs) {b:Nat×List Tx} (hb:b ∈ bs) (ru d2:D):z0L [4] (gNm [] 4) dYes (eCnt (eC1 (z1L []) (bVar 3)) (eVar 4)) ((bs.map (·.1)).map fun n=>D.str [n]) [some (.pure ru),some (.pure (tD (bs.map (·.1)))),some (.pure d2),some (.pure (flD b.2)),none] [] = .ok (cnts (bs.map (·.1)) (M bs b.1)) [some (.pure ru),some (.pure (tD (bs.map (·.1)))),some (.pure d2),some (.pure (flD b.2)),none]:=by
 have n1:=R.n1
 obtain ⟨t1,_,_⟩:=z3y R hb
 have:=z0k (cs:=[4]) (g:=gNm [] 4) (t:=dYes) (el:=eCnt (eC1 (z1L []) (bVar 3)) (eVar 4)) (fun n=>D.str [n]) (fun s=>D.int ((M bs b.1 s:Nat):Int)) [some (.pure ru),some (.pure (tD (bs.map (·.1)))),some (.pure d2),some (.pure (flD b.2)),none] (bs.map (·.1)) [] (by rw [z0o]; simp; omega) (fun s hs=>by
  refine ⟨[some (.pure ru),some (.pure (tD (bs.map (·.1)))),some (.pure d2),some (.pure (flD b.2)),some (.pure (.str [s]))],_,.pure (.int ((M bs b.1 s:Nat):Int)),[some (.pure ru),some (.pure (tD (bs.map (·.1)))),some (.pure d2),some (.pure (flD b.2)),some (.pure (.str [s]))],rfl,rfl,?_,rfl,rfl⟩
  have e:M bs b.1 s=b.2.flatten.count s:=by unfold M; rw [z9o R hb]
  rw [e]
  generalize b.2.flatten=z at *
  generalize flD b.2=FB at *
  generalize tD (bs.map (·.1))=T at *
  simp [eCnt,bVar,t1,z9M,eVar,zbG])
 rw [this]
 rfl
theorem z50 {h w:Nat} {bs:List (Nat×List Tx)} (R:Rul h w bs):z0J [.pure (ruD h w bs)]=some (.pure (tb (bs.map (·.1)) (M bs)),[.pure (ruD h w bs)]):=by
 have n1:=R.n1
 have x2:=(z6x h w bs).2.2
 have g:=zaa R
 obtain ⟨δ',e,s1,h1,hδ⟩:=z4n (cs:=[2,3]) (g:=gTp 2 (z05 (gNm [] 2) (z05 (gNm [] 3) z0R))) (t:=dYes) (el:=eC1 z0d (bOf (z0r [4] (iSq (eVar 1)) (gNm [] 4) dYes (eCnt (eC1 (z1L []) (bVar 3)) (eVar 4))))) blD (fun b=>D.tup (cnts (bs.map (·.1)) (M bs b.1)))
  (fun δ=>∃ s1,sT (bs.map (·.1)) s1∧δ=[some (.pure (ruD h w bs)),some s1,none,none,none]) bs [] [some (.pure (ruD h w bs)),some (.own (tD (bs.map (·.1)))),none,none,none] ⟨_,.inl rfl,rfl⟩ (by rw [z0o]; simp; omega) (fun b hb δ ⟨s1,h1,hδ⟩=>by
  subst hδ
  have hc:=z8E R hb (ruD h w bs) (.str [b.1])
  refine ⟨[some (.pure (ruD h w bs)),some s1,some (.pure (.str [b.1])),some (.pure (flD b.2)),none],_,.pure (.tup (cnts (bs.map (·.1)) (M bs b.1))),[some (.pure (ruD h w bs)),some (.pure (tD (bs.map (·.1)))),some (.pure (.str [b.1])),some (.pure (flD b.2)),none],rfl,rfl,?_,⟨_,.inr rfl,rfl⟩,rfl⟩
  have hT:tD (bs.map (·.1)) = .lst ((bs.map (·.1)).map fun n=>.str [n]):=rfl
  generalize ((bs.map (·.1)).map fun n=>D.str [n])=TS at *
  generalize cnts (bs.map (·.1)) (M bs b.1)=CC at *
  generalize ruD h w bs=ru at *
  generalize flD b.2=FB at *
  rcases h1 with rfl | rfl
  ·rw [hT] at *
   simp [z1Z,eVar,z0q,clrD,hc,z0S,z0d]
  ·rw [hT] at *
   simp [z1Z,eVar,z0q,clrD,hc,z0S,z0d])
 have hE:bs.map (fun b=>D.tup (cnts (bs.map (·.1)) (M bs b.1)))=(bs.map (·.1)).map fun t=>.tup (cnts (bs.map (·.1)) (M bs t)):=by
  rw [Q2]; rfl
 rw [hE,WF] at e
 rw [z0J,z2B,z3b]
 unfold tb
 generalize ((bs.map (·.1)).map fun t=>D.tup (cnts (bs.map (·.1)) (M bs t)))=RR at *
 generalize tD (bs.map (·.1))=T at *
 subst hδ
 generalize ruD h w bs=ru at *
 simp [ioOk,z0w,dAsg,z06,ios,ndup,evX,eVar,mkA,g,putA,z1Z,eOpF,eOpN,bVar,x2,z0q,clrD]
 rw [e]
 simp [z0S,z0d,z1f,z0p]
theorem z30 {B:Type} (F:Nat→B) (ts:List Nat):(Wx ts.length).map (fun i=>F (ts.getD i 0))=ts.map F:=by
 apply QP
 intro i
 rw [Wu,Wu]
 by_cases h:i < ts.length
 ·rw [List.getElem?_range h,Wk h]
  simp [h]
 ·rw [WB (by simpa using h),WB (by simpa using h)]
  rfl
theorem zaD (ts:List Nat) (f:Nat→Nat) {i:Nat} (h:i < ts.length):pIx (.tup (cnts ts f)) (.int i)=some (.pure (.int ((f (ts.getD i 0):Nat):Int))):=by
 have:i < (cnts ts f).length:=by simpa [cnts] using h
 simp [pIx,z1l,this]
 simp [cnts,h]
def cols (ts:List Nat) (Y:Nat→Nat→Nat):List D:=ts.map fun s=>.lst (cnts ts fun u=>Y u s)
theorem z9h {ts:List Nat} (hl:ts.length≤26) (Y:Nat→Nat→Nat) {i:Nat} (hi:i < ts.length) (T n:D):z0L [5] (gNm [] 5) dYes (eOpF pIx 5 (bVar 6)) (ts.map fun t=>D.tup (cnts ts (Y t))) [some (.pure T),some (.pure (tb ts Y)),some (.pure n),none,none,none,some (.pure (.int i)),none,none,none] [] = .ok (cnts ts fun u=>Y u (ts.getD i 0)) [some (.pure T),some (.pure (tb ts Y)),some (.pure n),none,none,none,some (.pure (.int i)),none,none,none]:=by
 have:=z0k (cs:=[5]) (g:=gNm [] 5) (t:=dYes) (el:=eOpF pIx 5 (bVar 6)) (fun t=>D.tup (cnts ts (Y t))) (fun u=>D.int ((Y u (ts.getD i 0):Nat):Int)) [some (.pure T),some (.pure (tb ts Y)),some (.pure n),none,none,none,some (.pure (.int i)),none,none,none] ts [] (by rw [z0o]; simp; omega) (fun u hu=>by
  have q:=zaD ts (Y u) hi
  refine ⟨[some (.pure T),some (.pure (tb ts Y)),some (.pure n),none,none,some (.pure (.tup (cnts ts (Y u)))),some (.pure (.int i)),none,none,none],_,.pure (.int ((Y u (ts.getD i 0):Nat):Int)),[some (.pure T),some (.pure (tb ts Y)),some (.pure n),none,none,some (.pure (.tup (cnts ts (Y u)))),some (.pure (.int i)),none,none,none],rfl,rfl,?_,rfl,rfl⟩
  generalize tb ts Y=TB at *
  generalize D.tup (cnts ts (Y u))=RW at *
  generalize ((Y u (ts.getD i 0):Nat):Int)=yy at *
  simp [eOpF,eOpN,bVar,q])
 rw [this]
 rfl
theorem z8c {ts:List Nat} (hl:ts.length≤26) (Y:Nat→Nat→Nat) (T n:D):z0L [6] (gNm [] 6) dYes (z0r [5] (iSq (eVar 1)) (gNm [] 5) dYes (eOpF pIx 5 (bVar 6))) (z0n 0 ts.length) [some (.pure T),some (.pure (tb ts Y)),some (.pure n),none,none,none,none,none,none,none] [] = .ok (cols ts Y) [some (.pure T),some (.pure (tb ts Y)),some (.pure n),none,none,none,none,none,none,none]:=by
 have hr:z0n 0 ts.length=(Wx ts.length).map fun k:Nat=>D.int (k:Int):=by simp [z0n]
 rw [hr]
 have:=z0k (cs:=[6]) (g:=gNm [] 6) (t:=dYes) (el:=z0r [5] (iSq (eVar 1)) (gNm [] 5) dYes (eOpF pIx 5 (bVar 6))) (fun k:Nat=>D.int (k:Int)) (fun i=>D.lst (cnts ts fun u=>Y u (ts.getD i 0))) [some (.pure T),some (.pure (tb ts Y)),some (.pure n),none,none,none,none,none,none,none] (Wx ts.length) [] (by rw [z0o]; simp; omega) (fun i hi=>by
  have hi:=QV.mp hi
  have hc:=z9h hl Y hi T n
  refine ⟨[some (.pure T),some (.pure (tb ts Y)),some (.pure n),none,none,none,some (.pure (.int i)),none,none,none],_,.own (.lst (cnts ts fun u=>Y u (ts.getD i 0))),[some (.pure T),some (.pure (tb ts Y)),some (.pure n),none,none,none,some (.pure (.int i)),none,none,none],rfl,rfl,?_,rfl,rfl⟩
  have hT:tb ts Y = .tup (ts.map fun t=>.tup (cnts ts (Y t))):=rfl
  generalize (ts.map fun t=>D.tup (cnts ts (Y t)))=RS at *
  generalize (cnts ts fun u=>Y u (ts.getD i 0))=CC at *
  rw [hT] at *
  simp [z1Z,eVar,z0q,clrD,hc,z0S])
 rw [this,WF,z30 (fun s=>D.lst (cnts ts fun u=>Y u s)) ts]
 rfl
theorem zb3 (ts:List Nat) (f:Nat→Nat):(ts.map fun u=>((f u:Nat):Int)).sum=((sm ts f:Nat):Int):=by
 induction ts with
 | nil=>rfl
 | cons t r ih=>rw [Wr,List.sum_cons,ih,z19]; omega
theorem z8z (ts:List Nat) (f:Nat→Nat):z5F (.lst (cnts ts f))=some (.pure (.int ((sm ts f:Nat):Int))):=by
 have e:cnts ts f=(ts.map fun u=>((f u:Nat):Int)).map D.int:=by
  unfold cnts; rw [Q2]; rfl
 unfold z5F
 simp only [e,DV.ints_map,zb3]
theorem z9g {ts:List Nat} (hl:ts.length≤26) (X Y:Nat→Nat→Nat) (t s:Nat) (hx:∀ u ∈ ts,X t u < 2 ^ 9000) (hy:∀ u ∈ ts,Y u s < 2 ^ 9000) (d0 d1 d2 d3 d4 d5 d6 d7:Option S) :
  z0L [8,9] (gTp 2 (z05 (gNm [] 8) (z05 (gNm [] 9) z0R))) dYes (eOpF z6C 8 (bVar 9)) (zipD (cnts ts (X t)) (cnts ts fun u=>Y u s)) [d0,d1,d2,d3,d4,d5,d6,d7,none,none] [] = .ok (cnts ts fun u=>X t u * Y u s) [d0,d1,d2,d3,d4,d5,d6,d7,none,none]:=by
 have hz:zipD (cnts ts (X t)) (cnts ts fun u=>Y u s)=ts.map fun u=>D.tup [.int ((X t u:Nat):Int),.int ((Y u s:Nat):Int)]:=by
  unfold zipD cnts
  rw [Jq,Jj]
 rw [hz]
 have:=z0k (cs:=[8,9]) (g:=gTp 2 (z05 (gNm [] 8) (z05 (gNm [] 9) z0R))) (t:=dYes) (el:=eOpF z6C 8 (bVar 9)) (fun u=>D.tup [.int ((X t u:Nat):Int),.int ((Y u s:Nat):Int)]) (fun u=>D.int ((X t u * Y u s:Nat):Int)) [d0,d1,d2,d3,d4,d5,d6,d7,none,none] ts [] (by rw [z0o]; simp; omega) (fun u hu=>by
  have q:=z8Y (hx u hu) (hy u hu) (by decide)
  generalize X t u=a at *
  generalize Y u s=b at *
  refine ⟨[d0,d1,d2,d3,d4,d5,d6,d7,some (.pure (.int (a:Int))),some (.pure (.int (b:Int)))],_,.pure (.int ((a * b:Nat):Int)),[d0,d1,d2,d3,d4,d5,d6,d7,some (.pure (.int (a:Int))),some (.pure (.int (b:Int)))],rfl,rfl,?_,rfl,rfl⟩
  generalize (a:Int)=i at *
  generalize (b:Int)=j at *
  generalize ((a * b:Nat):Int)=k at *
  simp [eOpF,eOpN,bVar,q])
 rw [this]
 rfl
abbrev bDot:DE:=eC1 z5F (bOf (z0r [8,9] (iZip (eVar 5) (eVar 7)) (gTp 2 (z05 (gNm [] 8) (z05 (gNm [] 9) z0R))) dYes (eOpF z6C 8 (bVar 9))))
theorem z8a {ts:List Nat} (hl:ts.length≤26) (X Y:Nat→Nat→Nat) (t:Nat) (hx:∀ u ∈ ts,X t u < 2 ^ 9000) (hy:∀ u ∈ ts,∀ s ∈ ts,Y u s < 2 ^ 9000) (T O n:D) (P:List D) (o6:Option S) :
  z0L [7] (gNm [] 7) dYes bDot (cols ts Y) [some (.pure T),some (.pure O),some (.pure n),some (.pure (.lst (cols ts Y))),some (.own (.lst P)),some (.pure (.tup (cnts ts (X t)))),o6,none,none,none] [] = .ok (cnts ts (mt ts X Y t)) [some (.pure T),some (.pure O),some (.pure n),some (.pure (.lst (cols ts Y))),some (.own (.lst P)),some (.pure (.tup (cnts ts (X t)))),o6,none,none,none]:=by
 generalize hcl:D.lst (cols ts Y)=CL
 unfold cols
 have:=z0k (cs:=[7]) (g:=gNm [] 7) (t:=dYes) (el:=bDot) (fun s=>D.lst (cnts ts fun u=>Y u s)) (fun s=>D.int ((mt ts X Y t s:Nat):Int)) [some (.pure T),some (.pure O),some (.pure n),some (.pure CL),some (.own (.lst P)),some (.pure (.tup (cnts ts (X t)))),o6,none,none,none] ts [] (by rw [z0o]; simp; omega) (fun s hs=>by
  have hc:=z9g hl X Y t s hx (fun u hu=>hy u hu s hs) (some (.pure T)) (some (.pure O)) (some (.pure n)) (some (.pure CL)) (some (.own (.lst P))) (some (.pure (.tup (cnts ts (X t))))) o6 (some (.pure (.lst (cnts ts fun u=>Y u s))))
  have hs':=z8z ts fun u=>X t u * Y u s
  refine ⟨[some (.pure T),some (.pure O),some (.pure n),some (.pure CL),some (.own (.lst P)),some (.pure (.tup (cnts ts (X t)))),o6,some (.pure (.lst (cnts ts fun u=>Y u s))),none,none],_,.pure (.int ((mt ts X Y t s:Nat):Int)),[some (.pure T),some (.pure O),some (.pure n),some (.pure CL),some (.own (.lst P)),some (.pure (.tup (cnts ts (X t)))),o6,some (.pure (.lst (cnts ts fun u=>Y u s))),none,none],rfl,rfl,?_,rfl,rfl⟩
  have hm:sm ts (fun u=>X t u * Y u s)=mt ts X Y t s:=rfl
  rw [hm] at hs'
  generalize (cnts ts fun u=>X t u * Y u s)=PR at *
  generalize ((mt ts X Y t s:Nat):Int)=V at *
  generalize cnts ts (X t)=XS at *
  generalize (cnts ts fun u=>Y u s)=YS at *
  simp [iZip,eVar,sqD,z0q,clrD,hc,z0S,hs'])
 rw [this]
 rfl
theorem z7k {ts:List Nat} (hl:ts.length≤26) (X Y:Nat→Nat→Nat) (hx:∀ u ∈ ts,∀ s ∈ ts,X u s < 2 ^ 9000) (hy:∀ u ∈ ts,∀ s ∈ ts,Y u s < 2 ^ 9000):z0g [.pure (tb ts X),.pure (tb ts Y)]=some (.pure (tb ts (mt ts X Y)),[.pure (tb ts X),.pure (tb ts Y)]):=by
 have hlen:pLen (tb ts X)=some (.pure (.int ((ts.length:Nat):Int))):=by simp [tb,pLen]
 have hc:=z8c hl Y (tb ts X) (.int ((ts.length:Nat):Int))
 have hsq:∀ δ,iSq (eVar 0) (some (.pure (tb ts X)) :: δ) = .ok (ts.map fun t=>D.tup (cnts ts (X t))) (some (.pure (tb ts X)) :: δ):=fun δ=>by simp [z1Z,eVar,tb]
 obtain ⟨δ',e,s3,o5,h3,rfl⟩:=z1I (g:=gNm [] 5) (b:=z0I 4 (eC1 z0d (bOf (z0r [7] (iSq (eVar 3)) (gNm [] 7) dYes bDot))))
  (fun k δ=>∃ (s3:S) (o5:Option S),(s3 = .own (.lst (cols ts Y))∨s3 = .pure (.lst (cols ts Y)))∧δ=[some (.pure (tb ts X)),some (.pure (tb ts Y)),some (.pure (.int ((ts.length:Nat):Int))),some s3,some (.own (.lst ((ts.take k).map fun t=>.tup (cnts ts (mt ts X Y t))))),o5,none,none,none,none]) (ts.map fun t=>D.tup (cnts ts (X t))) 0
  [some (.pure (tb ts X)),some (.pure (tb ts Y)),some (.pure (.int ((ts.length:Nat):Int))),some (.own (.lst (cols ts Y))),some (.own (.lst [])),none,none,none,none,none] ⟨_,none,.inl rfl,rfl⟩ (fun i d δ hd ⟨s3,o5,h3,hδ⟩=>by
   subst hδ
   rw [Wu,Qt] at hd
   obtain ⟨t,ht,rfl⟩:=hd
   have htm:=WE ht
   rw [Q3]
   have hc:=z8a hl X Y t (hx t htm) hy (tb ts X) (tb ts Y) (.int ((ts.length:Nat):Int)) ((ts.take i).map fun t=>.tup (cnts ts (mt ts X Y t))) none
   have hz:((ts.take i).map fun t=>D.tup (cnts ts (mt ts X Y t))).length < W9:=by rw [z0o]; simp; omega
   refine ⟨[some (.pure (tb ts X)),some (.pure (tb ts Y)),some (.pure (.int ((ts.length:Nat):Int))),some s3,some (.own (.lst ((ts.take i).map fun t=>.tup (cnts ts (mt ts X Y t))))),some (.pure (.tup (cnts ts (X t)))),none,none,none,none],[some (.pure (tb ts X)),some (.pure (tb ts Y)),some (.pure (.int ((ts.length:Nat):Int))),some (.pure (.lst (cols ts Y))),some (.own (.lst ((ts.take (i + 1)).map fun t=>.tup (cnts ts (mt ts X Y t))))),some (.pure (.tup (cnts ts (X t)))),none,none,none,none],rfl,?_,_,_,.inr rfl,rfl⟩
   have hp:(ts.take (i + 1)).map (fun t=>D.tup (cnts ts (mt ts X Y t)))=(ts.take i).map (fun t=>D.tup (cnts ts (mt ts X Y t))) ++ [.tup (cnts ts (mt ts X Y t))]:=by
    rw [Ji,ht,List.map_append]
    rfl
   rw [hp]
   generalize ((ts.take i).map fun t=>D.tup (cnts ts (mt ts X Y t)))=PP at *
   generalize cnts ts (mt ts X Y t)=LN at *
   generalize cols ts Y=CL at *
   generalize tb ts X=TX at *
   generalize tb ts Y=TY at *
   generalize cnts ts (X t)=XS at *
   generalize hB:bDot=BD at *
   clear hB
   rcases h3 with rfl | rfl
   ·simp [z0I,z1R,z1Z,eVar,z0q,clrD,hc,z0S,z0d,putL,hz]
   ·simp [z0I,z1R,z1Z,eVar,z0q,clrD,hc,z0S,z0d,putL,hz])
 rw [WM,Q3,List.take_length] at e
 have hT:D.tup (ts.map fun t=>D.tup (cnts ts (mt ts X Y t)))=tb ts (mt ts X Y):=rfl
 generalize (ts.map fun t=>D.tup (cnts ts (mt ts X Y t)))=RR at *
 generalize (ts.map fun t=>D.tup (cnts ts (X t)))=XR at *
 generalize tb ts (mt ts X Y)=TM at *
 generalize cols ts Y=CL at *
 generalize tb ts X=TX at *
 generalize tb ts Y=TY at *
 have hl2:ts.length≤1000000:=by omega
 generalize ts.length=n at *
 rw [z0g,z2B,z21]
 simp only [bDot] at e
 simp [ioOk,z0w,dAsg,bVar,hlen,eVar,z2L n hl2,z0q,clrD]
 rw [hc]
 simp [z0S,hsq]
 rw [e]
 simp [bVar,z0d,z1f,z0p,hT]
theorem z6s (h1:t δ = .ok true δ1) (h2:b δ1 = .ok .next δ2):z1r t b (n + 1) δ=z1r t b n δ2:=by
 simp only [z1r,h1,z1b,if_true,h2]
theorem z6R (h1:t δ = .ok false δ1):z1r t b (n + 1) δ = .ok .next δ1:=by
 simp [z1r,h1]
theorem M_row {h w:Nat} {bs:List (Nat×List Tx)} (R:Rul h w bs):∀ t ∈ bs.map (·.1),sm (bs.map (·.1)) (M bs t)≤16:=fun t ht=>by
 obtain ⟨b,hb,_,_,e2⟩:=z4O ht
 refine WD ?_ (z3y R hb).2.1
 have:=z9Q (z8X R) b.2.flatten
 unfold M
 rw [e2]
 exact this
theorem z88 {ts:List Nat} (nd:ts.Nodup) (hl:ts.length≤26) (A:Nat→Nat→Nat) {i:Nat} (hi:i < ts.length) (d0 d1 d2 d3 d4 d5:Option S):z0L [7] (gNm [] 7) dYes (eIf (dTr (eOpF pEq 6 (bVar 7))) (eD (.int 1)) (eD (.int 0))) (z0n 0 ts.length) [d0,d1,d2,d3,d4,d5,some (.pure (.int i)),none] [] = .ok (cnts ts (mp ts A 0 (ts.getD i 0))) [d0,d1,d2,d3,d4,d5,some (.pure (.int i)),none]:=by
 have hr:z0n 0 ts.length=(Wx ts.length).map fun k:Nat=>D.int (k:Int):=by simp [z0n]
 rw [hr]
 have:=z0k (cs:=[7]) (g:=gNm [] 7) (t:=dYes) (el:=eIf (dTr (eOpF pEq 6 (bVar 7))) (eD (.int 1)) (eD (.int 0))) (fun k:Nat=>D.int (k:Int)) (fun j=>D.int ((mp ts A 0 (ts.getD i 0) (ts.getD j 0):Nat):Int)) [d0,d1,d2,d3,d4,d5,some (.pure (.int i)),none] (Wx ts.length) [] (by rw [z0o]; simp; omega) (fun j hj=>by
  have hj:=QV.mp hj
  refine ⟨[d0,d1,d2,d3,d4,d5,some (.pure (.int i)),some (.pure (.int j))],_,.pure (.int ((mp ts A 0 (ts.getD i 0) (ts.getD j 0):Nat):Int)),[d0,d1,d2,d3,d4,d5,some (.pure (.int i)),some (.pure (.int j))],rfl,rfl,?_,rfl,rfl⟩
  have hv:mp ts A 0 (ts.getD i 0) (ts.getD j 0)=if i=j then 1 else 0:=by
   show (if ts.getD j 0=ts.getD i 0 then 1 else 0)=_
   have:ts.getD j 0=ts.getD i 0 ↔ i=j:=by
    simp only [List.getD_eq_getElem?_getD,Wk hi,Wk hj,Option.getD_some]
    exact ⟨fun e=>((Jl nd).mp e).symm,fun e=>by subst e; rfl⟩
   simp only [this]
  rw [hv]
  by_cases h:i=j
  ·subst h
   simp [eIf,eOpF,eOpN,bVar,z3j,dTr]
  ·have h':((i:Int) == (j:Int))=false:=by simp; omega
   simp [eIf,eOpF,eOpN,bVar,z3j,dTr,h,h'])
 rw [this,WF,z30 (fun s=>D.int ((mp ts A 0 (ts.getD i 0) s:Nat):Int)) ts]
 rfl
theorem z6M {ts:List Nat} (nd:ts.Nodup) (hl:ts.length≤26) (A:Nat→Nat→Nat) (d0 d1 d3 d4 d5:Option S):z0L [6] (gNm [] 6) dYes (eC1 z0d (bOf (z0r [7] (z0E (eVar 2)) (gNm [] 7) dYes (eIf (dTr (eOpF pEq 6 (bVar 7))) (eD (.int 1)) (eD (.int 0)))))) (z0n 0 ts.length) [d0,d1,some (.pure (.int ((ts.length:Nat):Int))),d3,d4,d5,none,none] [] = .ok (ts.map fun t=>D.tup (cnts ts (mp ts A 0 t))) [d0,d1,some (.pure (.int ((ts.length:Nat):Int))),d3,d4,d5,none,none]:=by
 have hr:z0n 0 ts.length=(Wx ts.length).map fun k:Nat=>D.int (k:Int):=by simp [z0n]
 have:=z0k (cs:=[6]) (g:=gNm [] 6) (t:=dYes) (el:=eC1 z0d (bOf (z0r [7] (z0E (eVar 2)) (gNm [] 7) dYes (eIf (dTr (eOpF pEq 6 (bVar 7))) (eD (.int 1)) (eD (.int 0)))))) (fun k:Nat=>D.int (k:Int)) (fun i=>D.tup (cnts ts (mp ts A 0 (ts.getD i 0)))) [d0,d1,some (.pure (.int ((ts.length:Nat):Int))),d3,d4,d5,none,none] (Wx ts.length) [] (by rw [z0o]; simp; omega) (fun i hi=>by
  have hi:=QV.mp hi
  have hc:=z88 nd hl A hi d0 d1 (some (.pure (.int ((ts.length:Nat):Int)))) d3 d4 d5
  have hl2:ts.length≤1000000:=by omega
  refine ⟨[d0,d1,some (.pure (.int ((ts.length:Nat):Int))),d3,d4,d5,some (.pure (.int i)),none],_,.pure (.tup (cnts ts (mp ts A 0 (ts.getD i 0)))),[d0,d1,some (.pure (.int ((ts.length:Nat):Int))),d3,d4,d5,some (.pure (.int i)),none],rfl,rfl,?_,rfl,rfl⟩
  generalize cnts ts (mp ts A 0 (ts.getD i 0))=CC at *
  generalize ts.length=n at *
  simp [eVar,z2L n hl2,z0q,clrD,hc,z0S,z0d])
 rw [← hr] at this
 rw [this,WF,z30 (fun t=>D.tup (cnts ts (mp ts A 0 t))) ts]
abbrev bPow:DS:=dSeq (dIf (dTr (eOp pEq (eOpF pMod 5 (bOf (eD (.int 2)))) (bOf (eD (.int 1))))) (dAsg (z06 z0g [.val (eVar 3),.val (eVar 4)]) (gNm [] 3)) z1a) (dSeq (dAsg (eOpF pDiv 5 (bOf (eD (.int 2)))) (gNm [] 5)) (dIf (dTr (eOpF pGt 5 (bOf (eD (.int 0))))) (dAsg (z06 z0g [.val (eVar 4),.val (eVar 4)]) (gNm [] 4)) z1a))
abbrev tPow:DT:=dTr (eOpF pGt 5 (bOf (eD (.int 0))))
abbrev stP (ru n:D) (g:Nat) (P Q:D) (l:Nat):Dl:=[some (.pure ru),some (.pure (.int g)),some (.pure n),some (.pure P),some (.pure Q),some (.pure (.int l)),none,none]
theorem q_pow (GT:DF) (ru n:D) (g:Nat) (P P' Q Q':D) (l:Nat) (h1:l % 2=1→GT [.pure P,.pure Q]=some (.pure P',[.pure P,.pure Q])) (h2:l % 2=0→P'=P) (h3:0 < l / 2→GT [.pure Q,.pure Q]=some (.pure Q',[.pure Q,.pure Q])) (h4:l / 2=0→Q'=Q) :
  (dSeq (dIf (dTr (eOp pEq (eOpF pMod 5 (bOf (eD (.int 2)))) (bOf (eD (.int 1))))) (dAsg (z06 GT [.val (eVar 3),.val (eVar 4)]) (gNm [] 3)) z1a) (dSeq (dAsg (eOpF pDiv 5 (bOf (eD (.int 2)))) (gNm [] 5)) (dIf (dTr (eOpF pGt 5 (bOf (eD (.int 0))))) (dAsg (z06 GT [.val (eVar 4),.val (eVar 4)]) (gNm [] 4)) z1a))) (stP ru n g P Q l) = .ok .next (stP ru n g P' Q' (l / 2)):=by
 have hm:pMod (.int (l:Int)) (.int 2)=some (.pure (.int ((l % 2:Nat):Int))):=by
  simp only [pMod,pII]; rw [if_pos (by simp)]; simp
 have hd:pDiv (.int (l:Int)) (.int 2)=some (.pure (.int ((l / 2:Nat):Int))):=by
  simp only [pDiv,pII]; rw [if_pos (by simp [cDiv])]; simp
 have e1:dIf (dTr (eOp pEq (eOpF pMod 5 (bOf (eD (.int 2)))) (bOf (eD (.int 1))))) (dAsg (z06 GT [.val (eVar 3),.val (eVar 4)]) (gNm [] 3)) z1a (stP ru n g P Q l) = .ok .next (stP ru n g P' Q l):=by
  rcases Nat.mod_two_eq_zero_or_one l with h | h
  ·have hm:pMod (.int (l:Int)) (.int 2)=some (.pure (.int 0)):=by rw [hm,h]; rfl
   rw [h2 h]
   unfold stP
   generalize (l:Int)=li at *
   simp [stP,eOpF,eOpN,bVar,hm,z3j,dTr]
  ·have:=h1 h
   have hm:pMod (.int (l:Int)) (.int 2)=some (.pure (.int 1)):=by rw [hm,h]; rfl
   unfold stP
   generalize (l:Int)=li at *
   simp [stP,eOpF,eOpN,bVar,hm,z3j,dTr,dAsg,z06,ios,ndup,evX,eVar,mkA,this,putA]
 have e2:dAsg (eOpF pDiv 5 (bOf (eD (.int 2)))) (gNm [] 5) (stP ru n g P' Q l) = .ok .next (stP ru n g P' Q (l / 2)):=by
  unfold stP
  generalize ((l / 2:Nat):Int)=lh at *
  generalize (l:Int)=li at *
  simp [dAsg,eOpF,eOpN,bVar,hd]
 have e3:dIf (dTr (eOpF pGt 5 (bOf (eD (.int 0))))) (dAsg (z06 GT [.val (eVar 4),.val (eVar 4)]) (gNm [] 4)) z1a (stP ru n g P' Q (l / 2)) = .ok .next (stP ru n g P' Q' (l / 2)):=by
  generalize l / 2=k at *
  by_cases h:0 < k
  ·have:=h3 h
   simp [stP,eOpF,eOpN,bVar,gt_int,dTr,h,dAsg,z06,ios,ndup,evX,eVar,mkA,this,putA]
  ·rw [h4 (by omega)]
   simp [stP,eOpF,eOpN,bVar,gt_int,dTr,h]
 rw [z0j e1,z0j e2,e3]
theorem z4A {ts:List Nat} (nd:ts.Nodup) (hl:ts.length≤26) (A:Nat→Nat→Nat) (hA:∀ t ∈ ts,sm ts (A t)≤16) (ru n:D) (g:Nat) (hg:g≤1000):∀ (f l a b:Nat),l≤f→f≤1000→a + b * l=g→(0 < l→b≤1000) →
  ∃ Q,z1r tPow bPow (f + 1 + 998999) (stP ru n g (tb ts (mp ts A a)) (tb ts (mp ts A b)) l) = .ok .next (stP ru n g (tb ts (mp ts A g)) Q 0)
 | f,0,a,b,_,_,h,_=>by
  have:a=g:=by omega
  subst this
  refine ⟨tb ts (mp ts A b),z6R (n:=f + 998999) (δ1:=stP ru n a (tb ts (mp ts A a)) (tb ts (mp ts A b)) 0) ?_⟩
  simp [tPow,stP,eOpF,eOpN,bVar,gt_int,dTr]
 | 0,l + 1,a,b,hf,_,_,_=>by omega
 | f + 1,l + 1,a,b,hf,hf1,h,hb=>by
  have hb:=hb (by omega)
  have ha:a≤1000:=by omega
  have B:∀ k,k≤2000→∀ t ∈ ts,∀ s ∈ ts,mp ts A k t s < 2 ^ 9000:=fun k hk t ht s hs=>mp_lt nd hA ht hs k hk
  have T1:z0g [.pure (tb ts (mp ts A a)),.pure (tb ts (mp ts A b))]=some (.pure (tb ts (mp ts A (a + b))),[.pure (tb ts (mp ts A a)),.pure (tb ts (mp ts A b))]):=by
   rw [z7k hl _ _ (B a (by omega)) (B b (by omega)),z4s fun t _ s hs=>z7K nd A a b hs]
  have T2:z0g [.pure (tb ts (mp ts A b)),.pure (tb ts (mp ts A b))]=some (.pure (tb ts (mp ts A (b + b))),[.pure (tb ts (mp ts A b)),.pure (tb ts (mp ts A b))]):=by
   rw [z7k hl _ _ (B b (by omega)) (B b (by omega)),z4s fun t _ s hs=>z7K nd A b b hs]
  have step:=q_pow z0g ru n g (tb ts (mp ts A a)) (if (l + 1) % 2=1 then tb ts (mp ts A (a + b)) else tb ts (mp ts A a)) (tb ts (mp ts A b)) (if 0 < (l + 1) / 2 then tb ts (mp ts A (b + b)) else tb ts (mp ts A b)) (l + 1)
   (fun h=>by rw [if_pos h]; exact T1) (fun h=>by rw [if_neg (by omega)]) (fun h=>by rw [if_pos h]; exact T2) (fun h=>by rw [if_neg (by omega)])
  have ht:tPow (stP ru n g (tb ts (mp ts A a)) (tb ts (mp ts A b)) (l + 1)) = .ok true (stP ru n g (tb ts (mp ts A a)) (tb ts (mp ts A b)) (l + 1)):=by
   generalize tb ts (mp ts A a)=PA
   generalize tb ts (mp ts A b)=PB
   have:(0:Int) < (l:Int) + 1:=by omega
   simp [tPow,stP,eOpF,eOpN,bVar,gt_int,dTr,this]
  have e:=z6s (n:=f + 1 + 998999) ht step
  rw [show f + 1 + 1 + 998999=f + 1 + 998999 + 1 by omega,e]
  have hP:(if (l + 1) % 2=1 then tb ts (mp ts A (a + b)) else tb ts (mp ts A a))=tb ts (mp ts A (a + b * ((l + 1) % 2))):=by
   rcases Nat.mod_two_eq_zero_or_one (l + 1) with h | h
   ·rw [h]; simp
   ·rw [h]; simp
  rw [hP]
  have hdm:=Nat.div_add_mod (l + 1) 2
  by_cases hh:0 < (l + 1) / 2
  ·rw [if_pos hh]
   refine z4A nd hl A hA ru n g hg f ((l + 1) / 2) _ _ (by omega) (by omega) ?_ fun _=>?_
   ·rw [← h]
    have:b * (l + 1)=b * (2 * ((l + 1) / 2) + (l + 1) % 2):=by rw [hdm]
    rw [this,Nat.mul_add,Nat.add_mul,← Nat.mul_assoc,QT b 2,Nat.two_mul,Nat.add_mul]
    omega
   ·have:b * 2≤b * (l + 1):=Nat.mul_le_mul_left b (by omega)
    omega
  ·rw [if_neg hh]
   have h0:(l + 1) / 2=0:=by omega
   have h1:l=0:=by omega
   subst h1
   rw [h0]
   refine z4A nd hl A hA ru n g hg f 0 _ _ (by omega) (by omega) ?_ fun h=>by omega
   rw [← h]
   simp
theorem zac {h w:Nat} {bs:List (Nat×List Tx)} (R:Rul h w bs) (g:Nat) (hg:g≤1000):z0A [.pure (ruD h w bs),.pure (.int g)]=some (.pure (tb (bs.map (·.1)) (mp (bs.map (·.1)) (M bs) g)),[.pure (ruD h w bs),.pure (.int g)]):=by
 have n1:=R.n1
 have nd:=z8X R
 have hts:(bs.map (·.1)).length≤26:=by simpa using n1
 have x2:=(z6x h w bs).2.2
 have hlen:pLen (.tup (bs.map blD))=some (.pure (.int (((bs.map (·.1)).length:Nat):Int))):=by simp [pLen]
 have hto:=z50 R
 have h1:tb (bs.map (·.1)) (M bs)=tb (bs.map (·.1)) (mp (bs.map (·.1)) (M bs) 1):=z4s fun t ht s _=>(zbU nd (M bs) ht).symm
 rw [h1] at hto
 obtain ⟨Q,e⟩:=z4A nd hts (M bs) (M_row R) (ruD h w bs) (.int (((bs.map (·.1)).length:Nat):Int)) g hg 1000 g 0 1 hg (by omega) (by omega) fun _=>by omega
 have hc:=z6M nd hts (M bs) (some (.pure (ruD h w bs))) (some (.pure (.int g))) none none none
 have h0:D.tup ((bs.map (·.1)).map fun t=>D.tup (cnts (bs.map (·.1)) (mp (bs.map (·.1)) (M bs) 0 t)))=tb (bs.map (·.1)) (mp (bs.map (·.1)) (M bs) 0):=rfl
 generalize ((bs.map (·.1)).map fun t=>D.tup (cnts (bs.map (·.1)) (mp (bs.map (·.1)) (M bs) 0 t)))=U0 at *
 generalize tb (bs.map (·.1)) (mp (bs.map (·.1)) (M bs) 0)=T0 at *
 generalize tb (bs.map (·.1)) (mp (bs.map (·.1)) (M bs) 1)=T1 at *
 generalize tb (bs.map (·.1)) (mp (bs.map (·.1)) (M bs) g)=TG at *
 have hl2:(bs.map (·.1)).length≤1000000:=by omega
 generalize (bs.map (·.1)).length=n at *
 generalize bs.map blD=BD at *
 generalize ruD h w bs=ru at *
 rw [z0A]
 refine zc9 (δ1:=stP ru (.int n) g TG Q 0) ?_
 rw [z22]
 have hst:z0w 8 [.pure ru,.pure (.int (g:Int))]=[some (.pure ru),some (.pure (.int g)),none,none,none,none,none,none]:=rfl
 rw [hst]
 have e1:dAsg (eC1 pLen (bOf (eOpF pIx 0 (bOf (eD (.int 2)))))) (gNm [] 2) [some (.pure ru),some (.pure (.int g)),none,none,none,none,none,none] = .ok .next [some (.pure ru),some (.pure (.int g)),some (.pure (.int n)),none,none,none,none,none]:=by
  simp [dAsg,eOpF,eOpN,bVar,x2,hlen]
 have e2:dAsg (eC1 z0d (bOf (z0r [6] (z0E (eVar 2)) (gNm [] 6) dYes (eC1 z0d (bOf (z0r [7] (z0E (eVar 2)) (gNm [] 7) dYes (eIf (dTr (eOpF pEq 6 (bVar 7))) (eD (.int 1)) (eD (.int 0))))))))) (gNm [] 3) [some (.pure ru),some (.pure (.int g)),some (.pure (.int n)),none,none,none,none,none] = .ok .next [some (.pure ru),some (.pure (.int g)),some (.pure (.int n)),some (.pure T0),none,none,none,none]:=by
  simp [dAsg,eVar,z2L n hl2,z0q,clrD]
  rw [hc]
  simp [z0S,z0d,h0]
 have e3:dAsg (z06 z0J [.val (eVar 0)]) (gNm [] 4) [some (.pure ru),some (.pure (.int g)),some (.pure (.int n)),some (.pure T0),none,none,none,none] = .ok .next [some (.pure ru),some (.pure (.int g)),some (.pure (.int n)),some (.pure T0),some (.pure T1),none,none,none]:=by
  simp [dAsg,z06,ios,ndup,evX,eVar,mkA,hto,putA]
 have e4:dAsg (eVar 1) (gNm [] 5) [some (.pure ru),some (.pure (.int g)),some (.pure (.int n)),some (.pure T0),some (.pure T1),none,none,none] = .ok .next (stP ru (.int n) g T0 T1 g):=by
  simp [dAsg,eVar,stP]
 rw [z0j e1,z0j e2,z0j e3,z0j e4]
 have e5:z1r tPow bPow 1000000 (stP ru (.int n) g T0 T1 g) = .ok .next (stP ru (.int n) g TG Q 0):=e
 rw [z0j e5]
 simp [stP,eVar]
theorem z5f (f:Nat→Nat) (n:Nat):∀ ts:List Nat,z2r n (cnts ts f)=true
 | []=>by simp [cnts,z2r]
 | t :: r=>by
  have:=z5f f n r
  unfold cnts at this ⊢
  simp [z2r,flat,this]
theorem z5e (ts:List Nat) (X:Nat→Nat→Nat):∀ us:List Nat,z2r 49 (us.map fun t=>D.tup (cnts ts (X t)))=true
 | []=>by simp [z2r]
 | u :: r=>by
  have:=z5e ts X r
  rw [Wr]
  show (flat 49 (.tup (cnts ts (X u))) && z2r 49 _)=true
  rw [this,Bool.and_true]
  exact z5f (X u) 48 ts
theorem eq_tb (ts:List Nat) (X:Nat→Nat→Nat):pEq (tb ts X) (tb ts X)=some (.pure (.bl true)):=by
 have hf:flat 50 (tb ts X)=true:=by
  show z2r 49 (ts.map fun t=>D.tup (cnts ts (X t)))=true
  exact z5e ts X ts
 have he:eqD (tb ts X) (tb ts X)=true:=z3x hf
 unfold pEq
 rw [hf,he]
 rfl
theorem z4q:∀ n:Nat,z40 (W4 n (.bl true))=some (W4 n true)
 | 0=>rfl
 | n + 1=>by
  rw [WC,WC]
  simp [z40,z4q n]
theorem z6p {A:Type} (as:List A):pAll (.lst (as.map fun _=>D.bl true))=some (.pure (.bl true)):=by
 have:(as.map fun _=>D.bl true)=W4 as.length (.bl true):=by
  induction as with
  | nil=>rfl
  | cons a r ih=>rw [Wr,ih,WN,WC]
 rw [this]
 show (z40 (W4 as.length (.bl true))).map _=_
 rw [z4q]
 simp
theorem zaI {ts:List Nat} (hl:ts.length≤26) (f:Nat→Nat) (d0 d1 d2:Option S):z0L [3] (gNm [] 3) dYes (z06 z0B [.val (eVar 3)]) (cnts ts f) [d0,d1,d2,none] [] = .ok (ts.map fun _=>D.bl true) [d0,d1,d2,none]:=by
 unfold cnts
 have:=z0k (cs:=[3]) (g:=gNm [] 3) (t:=dYes) (el:=z06 z0B [.val (eVar 3)]) (fun s=>D.int ((f s:Nat):Int)) (fun _=>D.bl true) [d0,d1,d2,none] ts [] (by rw [z0o]; simp; omega) (fun s hs=>by
  have gw:=za9 ((f s:Nat):Int)
  refine ⟨[d0,d1,d2,some (.pure (.int ((f s:Nat):Int)))],_,.pure (.bl true),[d0,d1,d2,some (.pure (.int ((f s:Nat):Int)))],rfl,rfl,?_,rfl,rfl⟩
  simp [z06,ios,ndup,evX,eVar,mkA,gw,putA])
 rw [this]
 rfl
theorem zaJ {ts:List Nat} (hl:ts.length≤26) (X:Nat→Nat→Nat) (d0 d1 d3:Option S):z0L [2] (gNm [] 2) dYes (eIsi "tuple" (bVar 2)) (ts.map fun t=>D.tup (cnts ts (X t))) [d0,d1,none,d3] [] = .ok (ts.map fun _=>D.bl true) [d0,d1,none,d3]:=by
 have:=z0k (cs:=[2]) (g:=gNm [] 2) (t:=dYes) (el:=eIsi "tuple" (bVar 2)) (fun t=>D.tup (cnts ts (X t))) (fun _=>D.bl true) [d0,d1,none,d3] ts [] (by rw [z0o]; simp; omega) (fun s hs=>by
  refine ⟨[d0,d1,some (.pure (.tup (cnts ts (X s)))),d3],_,.pure (.bl true),[d0,d1,some (.pure (.tup (cnts ts (X s)))),d3],rfl,rfl,?_,rfl,rfl⟩
  simp [eIsi,isTy,bVar])
 rw [this]
 rfl
theorem z9i {ts:List Nat} (hl:ts.length≤26) (X:Nat→Nat→Nat) (d0 d1:Option S):z0L [2] (gNm [] 2) dYes (eC1 pAll (bOf (z0r [3] (iSq (eVar 2)) (gNm [] 3) dYes (z06 z0B [.val (eVar 3)])))) (ts.map fun t=>D.tup (cnts ts (X t))) [d0,d1,none,none] [] = .ok (ts.map fun _=>D.bl true) [d0,d1,none,none]:=by
 have:=z0k (cs:=[2]) (g:=gNm [] 2) (t:=dYes) (el:=eC1 pAll (bOf (z0r [3] (iSq (eVar 2)) (gNm [] 3) dYes (z06 z0B [.val (eVar 3)])))) (fun t=>D.tup (cnts ts (X t))) (fun _=>D.bl true) [d0,d1,none,none] ts [] (by rw [z0o]; simp; omega) (fun s hs=>by
  have hc:=zaI hl (X s) d0 d1 (some (.pure (.tup (cnts ts (X s)))))
  have ha:=z6p ts
  refine ⟨[d0,d1,some (.pure (.tup (cnts ts (X s)))),none],_,.pure (.bl true),[d0,d1,some (.pure (.tup (cnts ts (X s)))),none],rfl,rfl,?_,rfl,rfl⟩
  generalize (ts.map fun _=>D.bl true)=AT at *
  generalize cnts ts (X s)=CC at *
  simp [z1Z,eVar,z0q,clrD,hc,z0S,ha])
 rw [this]
 rfl
theorem r_is {ts:List Nat} (hl:ts.length≤26) (X:Nat→Nat→Nat):z0e [.pure (tb ts X),.pure (tb ts X)]=some (.pure (.bl true),[.pure (tb ts X),.pure (tb ts X)]):=by
 have c1:=zaJ hl X (some (.pure (tb ts X))) (some (.pure (tb ts X))) none
 have c2:=z9i hl X (some (.pure (tb ts X))) (some (.pure (tb ts X)))
 have ha:=z6p ts
 have he:=eq_tb ts X
 have hty:isTy "tuple" (tb ts X)=some true:=by simp [tb,isTy]
 have hsq:∀ δ,iSq (eVar 0) (some (.pure (tb ts X)) :: δ) = .ok (ts.map fun t=>D.tup (cnts ts (X t))) (some (.pure (tb ts X)) :: δ):=fun δ=>by simp [z1Z,eVar,tb]
 generalize (ts.map fun _=>D.bl true)=AT at *
 generalize (ts.map fun t=>D.tup (cnts ts (X t)))=RS at *
 generalize tb ts X=T at *
 rw [z0e,z2B,z1D]
 simp [ioOk,z0w,dTr,eIsi,hty,bVar,hsq,z0q,clrD]
 simp [c1,z0S,ha,eAnd,eOpF,eOpN,bVar,he,hsq,z0q,clrD,c2,z1f,z0p]
theorem z5d (h1:g (.pure d) δ=some δ1) (h2:b δ1 = .ok .next δ2):forL g b (d :: r) δ=forL g b r δ2:=by
 conv=>lhs; unfold forL
 rw [h1]
 simp only [h2,z1b]
abbrev s15 (scr:D) (a1 a2 a3 a4 a5 a6 a7 a8 a9 a10:Option S):Dl:=[some (.pure scr),a1,a2,a3,a4,a5,a6,a7,a8,a9,a10,none,none,none,none]
def bs26:List (Nat×List Tx):=(Wx 26).map fun k=>(97 + k,[[97 + k,97 + (3 * k + 1) % 26]])
theorem rul26:Rul 1 2 bs26:=⟨by decide,by decide,by decide,by decide,by decide,by decide,by decide,by decide,by decide,by decide⟩
abbrev bLet:DE:=eTup (z0U (eOpF pIx 4 (bVar 12)) (z0U (eTup (z0U (eOp pAdd (eOpF pIx 4 (bVar 12)) (bOf (eOpF pIx 4 (bOf (eOp pMod (eOp pAdd (eOp z1q (eD (.int 3)) (bVar 12)) (bOf (eD (.int 1)))) (bOf (eD (.int 26)))))))) aNil)) aNil))
theorem zci (scr:D) (a1 a2 a3 a5 a6 a7 a8 a9 a10:Option S):z0L [12] (gNm [] 12) dYes bLet (z0n 0 26) (s15 scr a1 a2 a3 (some (.pure (.str lettersT))) a5 a6 a7 a8 a9 a10) [] = .ok (bs26.map blD) (s15 scr a1 a2 a3 (some (.pure (.str lettersT))) a5 a6 a7 a8 a9 a10):=by
 have hr:z0n 0 26=(Wx 26).map fun k:Nat=>D.int (k:Int):=by simp [z0n]
 rw [hr]
 have:=z0k (cs:=[12]) (g:=gNm [] 12) (t:=dYes) (el:=bLet) (fun k:Nat=>D.int (k:Int)) (fun k=>blD (97 + k,[[97 + k,97 + (3 * k + 1) % 26]])) (s15 scr a1 a2 a3 (some (.pure (.str lettersT))) a5 a6 a7 a8 a9 a10) (Wx 26) [] (by rw [z0o]; simp) (fun k hk=>by
  have hk:=QV.mp hk
  have hk2:(3 * k + 1) % 26 < 26:=Nat.mod_lt _ (by decide)
  have x1:=z3V lettersT k hk (by decide)
  have x2:=z3V lettersT ((3 * k + 1) % 26) hk2 (by decide)
  rw [z33 _ hk] at x1
  rw [z33 _ hk2] at x2
  have hm:z1q (.int 3) (.int (k:Int))=some (.pure (.int (3 * (k:Int)))):=by
   unfold z1q pMul pII
   have:cMul 3 k=true:=by unfold cMul; simp
   simp only [this,if_true]
  have hc:(3 * (k:Int) + 1) % 26=(((3 * k + 1) % 26:Nat):Int):=by omega
  have hmod:pMod (.int (3 * (k:Int) + 1)) (.int 26)=some (.pure (.int (((3 * k + 1) % 26:Nat):Int))):=by
   rw [← hc]; rfl
  have ha:pAdd (.str [97 + k]) (.str [97 + (3 * k + 1) % 26])=some (.pure (.str [97 + k,97 + (3 * k + 1) % 26])):=by simp [pAdd,z0o]
  refine ⟨[some (.pure scr),a1,a2,a3,some (.pure (.str lettersT)),a5,a6,a7,a8,a9,a10,none,some (.pure (.int (k:Int))),none,none],_,.pure (blD (97 + k,[[97 + k,97 + (3 * k + 1) % 26]])),[some (.pure scr),a1,a2,a3,some (.pure (.str lettersT)),a5,a6,a7,a8,a9,a10,none,some (.pure (.int (k:Int))),none,none],rfl,rfl,?_,rfl,rfl⟩
  generalize lettersT=lt at x1 x2 ⊢
  generalize (((3 * k + 1) % 26:Nat):Int)=m26 at *
  generalize 97 + (3 * k + 1) % 26=l2 at *
  generalize 97 + k=l1 at *
  simp [bLet,eTup,z0U,aNil,eOpF,eOpN,bVar,x1,hm,add_int,hmod,x2,ha,blD])
 rw [this]
 unfold bs26
 rw [Q2,WF]
 rfl
theorem z8b {h w:Nat} {bs:List (Nat×List Tx)} (R:Rul h w bs) (scr:D) (a1 a2 a3 a4 a5 a7 a8 a9:Option S):z0L [10] (gNm [] 10) dYes (eC1 z0d (bOf (eOpF pIxX 6 (bVar 10)))) ((bs.map (·.1)).map fun n=>D.str [n]) (s15 scr a1 a2 a3 a4 a5 (some (.own (dcT bs))) a7 a8 a9 none) [] = .ok ((bs.map (·.1)).map fun t=>D.tup (cnts (bs.map (·.1)) (M bs t))) (s15 scr a1 a2 a3 a4 a5 (some (.own (dcT bs))) a7 a8 a9 none):=by
 have n1:=R.n1
 have:=z0k (cs:=[10]) (g:=gNm [] 10) (t:=dYes) (el:=eC1 z0d (bOf (eOpF pIxX 6 (bVar 10)))) (fun n=>D.str [n]) (fun t=>D.tup (cnts (bs.map (·.1)) (M bs t))) (s15 scr a1 a2 a3 a4 a5 (some (.own (dcT bs))) a7 a8 a9 none) (bs.map (·.1)) [] (by rw [z0o]; simp; omega) (fun t ht=>by
  have hx:=ix_T R ht
  refine ⟨s15 scr a1 a2 a3 a4 a5 (some (.own (dcT bs))) a7 a8 a9 (some (.pure (.str [t]))),_,.pure (.tup (cnts (bs.map (·.1)) (M bs t))),s15 scr a1 a2 a3 a4 a5 (some (.own (dcT bs))) a7 a8 a9 (some (.pure (.str [t]))),rfl,rfl,?_,rfl,rfl⟩
  generalize cnts (bs.map (·.1)) (M bs t)=CC at *
  generalize dcT bs=DT at *
  simp [eOpF,eOpN,bVar,hx,z0d])
 rw [this]
 rfl
theorem z89 (bs:List (Nat×List Tx)) (hn:bs.length≤26) (v:Nat→Nat) (scr:D) (a1 a2 a3 a4 a5 a6 a7 a8 a9 a10:Option S):z0L [13,14] (gTp 2 (z05 (gNm [] 13) (z05 (gNm [] 14) z0R))) dYes (eVar 14) (res bs v) (s15 scr a1 a2 a3 a4 a5 a6 a7 a8 a9 a10) [] = .ok (cnts (bs.map (·.1)) v) (s15 scr a1 a2 a3 a4 a5 a6 a7 a8 a9 a10):=by
 unfold res
 have:=z0k (cs:=[13,14]) (g:=gTp 2 (z05 (gNm [] 13) (z05 (gNm [] 14) z0R))) (t:=dYes) (el:=eVar 14) (fun b:Nat×List Tx=>D.tup [.str [b.1],.int ((v b.1:Nat):Int)]) (fun b=>D.int ((v b.1:Nat):Int)) (s15 scr a1 a2 a3 a4 a5 a6 a7 a8 a9 a10) bs [] (by rw [z0o]; simp; omega) (fun b hb=>by
  refine ⟨[some (.pure scr),a1,a2,a3,a4,a5,a6,a7,a8,a9,a10,none,none,some (.pure (.str [b.1])),some (.pure (.int ((v b.1:Nat):Int)))],_,.pure (.int ((v b.1:Nat):Int)),[some (.pure scr),a1,a2,a3,a4,a5,a6,a7,a8,a9,a10,none,none,some (.pure (.str [b.1])),some (.pure (.int ((v b.1:Nat):Int)))],rfl,rfl,?_,rfl,rfl⟩
  simp [eVar])
 rw [this]
 unfold cnts
 rw [Q2,WF]
 rfl
def nOwn (o:Option S):Prop:=∀ d,o≠some (.own d)
abbrev bDue:DS:=z0I 9 (eC1 z0d (bOf (z0r [13,14] (iSq (z06 z0N [.val (eVar 3),.val (eVar 10),.val (eVar 8)])) (gTp 2 (z05 (gNm [] 13) (z05 (gNm [] 14) z0R))) dYes (eVar 14))))
theorem z6e {h w:Nat} {bs:List (Nat×List Tx)} (R:Rul h w bs) (g:Nat) (hg:g≤1000) (scr:D) (a1 a2 a4 a5 a6 a7:Option S):∀ (us:List Nat) (acc:List D) (o10:Option S),nOwn o10→acc.length + us.length≤1000 →
  ∃ o,nOwn o∧forL (gNm [] 10) bDue (us.map fun n=>D.str [n]) (s15 scr a1 a2 (some (.pure (ruD h w bs))) a4 a5 a6 a7 (some (.pure (.int g))) (some (.own (.lst acc))) o10) = .ok .next (s15 scr a1 a2 (some (.pure (ruD h w bs))) a4 a5 a6 a7 (some (.pure (.int g))) (some (.own (.lst (acc ++ us.map fun t=>D.tup (cnts (bs.map (·.1)) (vec bs t g)))))) o)
 | [],acc,o10,ho,_=>⟨o10,ho,by simp [forL]⟩
 | t :: r,acc,o10,ho,hl=>by
  obtain ⟨o,no,ih⟩:=z6e R g hg scr a1 a2 a4 a5 a6 a7 r (acc ++ [D.tup (cnts (bs.map (·.1)) (vec bs t g))]) (some (.pure (.str [t]))) (fun d e=>by cases e) (by simp at hl ⊢; omega)
  refine ⟨o,no,?_⟩
  have gc:=z8I (t0:=t) (g:=g) R hg
  have hm:=z89 bs R.n1 (vec bs t g) scr a1 a2 (some (.pure (ruD h w bs))) a4 a5 a6 a7 (some (.pure (.int g))) (some (.own (.lst acc))) (some (.pure (.str [t])))
  have hz:acc.length < W9:=by rw [z0o]; simp at hl; omega
  rw [Wr,z5d (δ1:=s15 scr a1 a2 (some (.pure (ruD h w bs))) a4 a5 a6 a7 (some (.pure (.int g))) (some (.own (.lst acc))) (some (.pure (.str [t])))) (δ2:=s15 scr a1 a2 (some (.pure (ruD h w bs))) a4 a5 a6 a7 (some (.pure (.int g))) (some (.own (.lst (acc ++ [D.tup (cnts (bs.map (·.1)) (vec bs t g))])))) (some (.pure (.str [t])))) rfl (by
   generalize cnts (bs.map (·.1)) (vec bs t g)=CC at *
   generalize res bs (vec bs t g)=RS at *
   generalize ruD h w bs=ru at *
   generalize (g:Int)=gi at *
   simp [bDue,z0I,z1R,z1Z,z06,ios,ndup,evX,eVar,mkA,gc,putA,z0q,clrD]
   rw [hm]
   simp [z0S,z0d,putL,hz])]
  rw [ih]
  simp
abbrev bOft:DS:=dSeq (dAsg (eLst aNil) (gNm [] 9)) (dSeq (dFor (iSq (eVar 5)) (gNm [] 10) bDue) (dIf (dNot (dTr (z06 z0e [.val (z06 z0A [.val (eVar 3),.val (eVar 8)]),.val (eC1 z0d (bVar 9))]))) (dRet (eD (.bl false))) z1a))
theorem q_chk (GI GP:DF) (ru gi T:D) (L:List D) (hT:D.tup L=T) (gp:GP [.pure ru,.pure gi]=some (.pure T,[.pure ru,.pure gi])) (gs:GI [.pure T,.pure T]=some (.pure (.bl true),[.pure T,.pure T])) (scr:D) (a1 a2 a4 a5 a6 a7 a10:Option S) :
  dIf (dNot (dTr (z06 GI [.val (z06 GP [.val (eVar 3),.val (eVar 8)]),.val (eC1 z0d (bVar 9))]))) (dRet (eD (.bl false))) z1a (s15 scr a1 a2 (some (.pure ru)) a4 a5 a6 a7 (some (.pure gi)) (some (.own (.lst L))) a10) = .ok .next (s15 scr a1 a2 (some (.pure ru)) a4 a5 a6 a7 (some (.pure gi)) (some (.own (.lst L))) a10):=by
 simp [dTr,z06,ios,ndup,evX,eVar,mkA,gp,bVar,z0d,hT,gs,putA]
theorem z6d {h w:Nat} {bs:List (Nat×List Tx)} (R:Rul h w bs) (scr:D) (a1 a2 a4 a6 a7:Option S):∀ (gs:List Nat) (o8 o9 o10:Option S),nOwn o10→(∀ g ∈ gs,g≤1000) →
  ∃ q8 q9 q10,nOwn q10∧forL (gNm [] 8) bOft (gs.map fun g:Nat=>D.int (g:Int)) (s15 scr a1 a2 (some (.pure (ruD h w bs))) a4 (some (.pure (tD (bs.map (·.1))))) a6 a7 o8 o9 o10) = .ok .next (s15 scr a1 a2 (some (.pure (ruD h w bs))) a4 (some (.pure (tD (bs.map (·.1))))) a6 a7 q8 q9 q10)
 | [],o8,o9,o10,ho,_=>⟨o8,o9,o10,ho,rfl⟩
 | g :: r,o8,o9,o10,ho,hs=>by
  have n1:=R.n1
  have hg:=hs g Wg
  obtain ⟨o,no,e⟩:=z6e R g hg scr a1 a2 a4 (some (.pure (tD (bs.map (·.1))))) a6 a7 (bs.map (·.1)) [] o10 ho (by simp; omega)
  obtain ⟨q8,q9,q10,nq,ih⟩:=z6d R scr a1 a2 a4 a6 a7 r (some (.pure (.int (g:Int)))) (some (.own (.lst ([] ++ (bs.map (·.1)).map fun t=>D.tup (cnts (bs.map (·.1)) (vec bs t g)))))) o no fun x hx=>hs x (Wb _ hx)
  refine ⟨q8,q9,q10,nq,?_⟩
  have hT:D.tup ([] ++ (bs.map (·.1)).map fun t=>D.tup (cnts (bs.map (·.1)) (vec bs t g)))=tb (bs.map (·.1)) (mp (bs.map (·.1)) (M bs) g):=by
   rw [WF]
   unfold tb
   congr 1
   exact Q5 fun t _=>by rw [z9q]
  have gp:=zac R g hg
  have gi:=r_is (ts:=bs.map (·.1)) (by simpa using n1) (mp (bs.map (·.1)) (M bs) g)
  have hq:=q_chk z0e z0A (ruD h w bs) (.int (g:Int)) _ _ hT gp gi scr a1 a2 a4 (some (.pure (tD (bs.map (·.1))))) a6 a7 o
  rw [Wr,z5d (δ1:=s15 scr a1 a2 (some (.pure (ruD h w bs))) a4 (some (.pure (tD (bs.map (·.1))))) a6 a7 (some (.pure (.int (g:Int)))) o9 o10) rfl (by
   have e1:dAsg (eLst aNil) (gNm [] 9) (s15 scr a1 a2 (some (.pure (ruD h w bs))) a4 (some (.pure (tD (bs.map (·.1))))) a6 a7 (some (.pure (.int (g:Int)))) o9 o10) = .ok .next (s15 scr a1 a2 (some (.pure (ruD h w bs))) a4 (some (.pure (tD (bs.map (·.1))))) a6 a7 (some (.pure (.int (g:Int)))) (some (.own (.lst []))) o10):=by
    generalize ruD h w bs=ru at *
    generalize tD (bs.map (·.1))=T at *
    simp [dAsg]
   have i3:iSq (eVar 5) (s15 scr a1 a2 (some (.pure (ruD h w bs))) a4 (some (.pure (tD (bs.map (·.1))))) a6 a7 (some (.pure (.int (g:Int)))) (some (.own (.lst []))) o10) = .ok ((bs.map (·.1)).map fun n=>D.str [n]) (s15 scr a1 a2 (some (.pure (ruD h w bs))) a4 (some (.pure (tD (bs.map (·.1))))) a6 a7 (some (.pure (.int (g:Int)))) (some (.own (.lst []))) o10):=by
    generalize ruD h w bs=ru at *
    unfold tD
    generalize ((bs.map (·.1)).map fun n=>D.str [n])=TS at *
    simp [z1Z,eVar]
   exact (z0j e1).trans ((z0j ((z80 i3).trans e)).trans hq))]
  exact ih
abbrev z0:DS:=(dAsg (z06 z0M [.val (eVar 1)]) (gNm [] 2))
abbrev z1:DS:=(dAsg (z06 z0u [.io 2,.val (eD (.int 6))]) (gNm [] 3))
abbrev z2:DS:=(dIf (dTr (eOp pEq (z06 z04 [.io 2,.val (eD (.int 8))]) (bOf (eD (.int 0))))) (dSeq (dAsg (eD (.str [97,98,99,100,101,102,103,104,105,106,107,108,109,110,111,112,113,114,115,116,117,118,119,120,121,122])) (gNm [] 4)) (dAsg (eTup (z0U (eD (.int 1)) (z0U (eD (.int 2)) (z0U (eC1 z0d (bOf (z0r [12] (z0E (eD (.int 26))) (gNm [] 12) dYes bLet))) aNil)))) (gNm [] 3))) z1a)
abbrev z3:DS:=(dAsg (z0r [11] (iSq (eOpF pIx 3 (bOf (eD (.int 2))))) (gNm [] 11) dYes (eOpF pIx 11 (bOf (eD (.int 0))))) (gNm [] 5))
abbrev z4:DS:=(dAsg (z06 z0v [.val (eVar 3)]) (gNm [] 6))
abbrev z5:DS:=(dIf (dNot (dTr (z06 z0e [.val (z06 z0J [.val (eVar 3)]),.val (eC1 z0d (bOf (z0r [10] (iSq (eVar 5)) (gNm [] 10) dYes (eC1 z0d (bOf (eOpF pIxX 6 (bVar 10)))))))]))) (dRet (eD (.bl false))) z1a)
abbrev z6:DS:=(dAsg (eLst (z0U (eD (.int 0)) (z0U (eD (.int 1)) (z0U (eOp pAdd (eD (.int 2)) (bOf (z06 z04 [.io 2,.val (eD (.int 8))]))) aNil)))) (gNm [] 7))
abbrev z7:DS:=(dIf (dAnd (dTr (eOp pLt (eC1 pLen (bVar 5)) (bOf (eD (.int 4))))) (dTr (eOp pEq (z06 z04 [.io 2,.val (eD (.int 4))]) (bOf (eD (.int 0)))))) (z0I 7 (eOp pSub (eD (.int 1000)) (bOf (z06 z04 [.io 2,.val (eD (.int 2))])))) z1a)
abbrev z8:DS:=(dFor (iSq (eVar 7)) (gNm [] 8) bOft)
theorem turnA (scr:D) (c:Int) (o2 o3 o4 o5 o6 o7 o8 o9 o10:Option S):∃ (d:D) (h w:Nat) (bs:List (Nat×List Tx)) (q4:Option S),Pen d∧Rul h w bs∧∀ rest,(dSeq z0 (dSeq z1 (dSeq z2 rest))) (s15 scr (some (.pure (.int c))) o2 o3 o4 o5 o6 o7 o8 o9 o10)=rest (s15 scr (some (.pure (.int c))) (some (.own d)) (some (.pure (ruD h w bs))) q4 o5 o6 o7 o8 o9 o10):=by
 obtain ⟨d0,e0,p0⟩:=r_pen c
 obtain ⟨h,w,bs,d1,e1,R,n6,p1⟩:=z7m p0 6 (by decide) (by decide)
 have e1:z0u [.own d0,.pure (.int 6)]=some (.pure (ruD h w bs),[.own d1,.pure (.int 6)]):=e1
 obtain ⟨r2,d2,e2,l2,p2⟩:=z1p p1 8 8 rfl (by decide) (by decide)
 have k0:z0 (s15 scr (some (.pure (.int c))) o2 o3 o4 o5 o6 o7 o8 o9 o10) = .ok .next (s15 scr (some (.pure (.int c))) (some (.own d0)) o3 o4 o5 o6 o7 o8 o9 o10):=by
  simp [z0,dAsg,z06,ios,ndup,z0q,evX,eVar,mkA,putA,e0]
 have k1:z1 (s15 scr (some (.pure (.int c))) (some (.own d0)) o3 o4 o5 o6 o7 o8 o9 o10) = .ok .next (s15 scr (some (.pure (.int c))) (some (.own d1)) (some (.pure (ruD h w bs))) o4 o5 o6 o7 o8 o9 o10):=by
  generalize ruD h w bs=RU at *
  simp [z1,dAsg,z06,ios,ndup,z0q,evX,eVar,mkA,putA,e1]
 by_cases h2:r2=0
 ·subst h2
  refine ⟨d2,1,2,bs26,some (.pure (.str lettersT)),p2,rul26,fun rest=>?_⟩
  have c26:=zci scr (some (.pure (.int c))) (some (.own d2)) (some (.pure (ruD h w bs))) o5 o6 o7 o8 o9 o10
  have hru:ruD 1 2 bs26 = .tup [.int 1,.int 2,.tup (bs26.map blD)]:=rfl
  have hr:=z2L 26 (by decide)
  have k2:z2 (s15 scr (some (.pure (.int c))) (some (.own d1)) (some (.pure (ruD h w bs))) o4 o5 o6 o7 o8 o9 o10) = .ok .next (s15 scr (some (.pure (.int c))) (some (.own d2)) (some (.pure (ruD 1 2 bs26))) (some (.pure (.str lettersT))) o5 o6 o7 o8 o9 o10):=by
   rw [hru]
   unfold lettersT at c26 ⊢
   generalize bs26.map blD=BB at *
   generalize ruD h w bs=RU at *
   generalize hB:bLet=BL at *
   have hr:∀ δ,rng (.pure (.int 26)) δ = .ok (z0n 0 26) δ:=fun δ=>z2L 26 (by decide) δ
   simp only [z2,hB]
   clear hB
   simp [z06,ios,ndup,z0q,evX,eVar,mkA,putA,e2,z3j,dTr,dAsg,hr,clrD]
   rw [c26]
   simp [z0S,z0d]
  rw [z0j k0,z0j k1,z0j k2]
 ·refine ⟨d2,h,w,bs,o4,p2,R,fun rest=>?_⟩
  have hq:pEq (.int (r2:Int)) (.int 0)=some (.pure (.bl false)):=by
   rw [z3j]
   have:((r2:Int) == 0)=false:=by simpa using h2
   rw [this]
  have k2:z2 (s15 scr (some (.pure (.int c))) (some (.own d1)) (some (.pure (ruD h w bs))) o4 o5 o6 o7 o8 o9 o10) = .ok .next (s15 scr (some (.pure (.int c))) (some (.own d2)) (some (.pure (ruD h w bs))) o4 o5 o6 o7 o8 o9 o10):=by
   generalize ruD h w bs=RU at *
   simp [z2,z06,ios,ndup,z0q,evX,eVar,mkA,putA,e2,hq,dTr]
  rw [z0j k0,z0j k1,z0j k2]
theorem q_is (GI GO:DF) (ru T TB DT:D) (TS L:List D) (hT:T = .lst TS) (hL:D.tup L=TB) (go:GO [.pure ru]=some (.pure TB,[.pure ru])) (gi:GI [.pure TB,.pure TB]=some (.pure (.bl true),[.pure TB,.pure TB])) (scr:D) (a1 a2 a4 a7 a8 a9 a10:Option S) (ho:nOwn a10)
  (hc:z0L [10] (gNm [] 10) dYes (eC1 z0d (bOf (eOpF pIxX 6 (bVar 10)))) TS (s15 scr a1 a2 (some (.pure ru)) a4 (some (.pure T)) (some (.own DT)) a7 a8 a9 none) [] = .ok L (s15 scr a1 a2 (some (.pure ru)) a4 (some (.pure T)) (some (.own DT)) a7 a8 a9 none)) :
  dIf (dNot (dTr (z06 GI [.val (z06 GO [.val (eVar 3)]),.val (eC1 z0d (bOf (z0r [10] (iSq (eVar 5)) (gNm [] 10) dYes (eC1 z0d (bOf (eOpF pIxX 6 (bVar 10)))))))]))) (dRet (eD (.bl false))) z1a (s15 scr a1 a2 (some (.pure ru)) a4 (some (.own T)) (some (.own DT)) a7 a8 a9 a10) = .ok .next (s15 scr a1 a2 (some (.pure ru)) a4 (some (.pure T)) (some (.own DT)) a7 a8 a9 a10):=by
 subst hT
 have hno:z0q (s15 scr a1 a2 (some (.pure ru)) a4 (some (.pure (.lst TS))) (some (.own DT)) a7 a8 a9 a10) 10=false:=by
  cases a10 with
  | none=>rfl
  | some s=>cases s with
   | pure d=>rfl
   | own d=>exact absurd rfl (ho d)
 simp [dTr,z06,ios,ndup,evX,eVar,mkA,go,putA,z1Z,hno,clrD]
 rw [hc]
 simp [z0S,z0d,hL,mkA,gi,putA]
theorem zaU (scr:D) (c:Int) (o2 o3 o4 o5 o6 o7 o8 o9 o10:Option S) (ho:nOwn o10):∃ q2 q3 q4 q5 q6 q7 q8 q9 q10,nOwn q10∧(dSeq z0 (dSeq z1 (dSeq z2 (dSeq z3 (dSeq z4 (dSeq z5 (dSeq z6 (dSeq z7 z8)))))))) (s15 scr (some (.pure (.int c))) o2 o3 o4 o5 o6 o7 o8 o9 o10) = .ok .next (s15 scr (some (.pure (.int c))) q2 q3 q4 q5 q6 q7 q8 q9 q10):=by
 obtain ⟨d2,h,w,bs,q4,p2,R,eA⟩:=turnA scr c o2 o3 o4 o5 o6 o7 o8 o9 o10
 rw [eA]
 have n1:=R.n1
 have x2:=(z6x h w bs).2.2
 have c3:=z3a n1 11 (s15 scr (some (.pure (.int c))) (some (.own d2)) (some (.pure (ruD h w bs))) q4 o5 o6 o7 o8 o9 o10) rfl
 have htl:tD (bs.map (·.1)) = .lst ((bs.map (·.1)).map fun n=>D.str [n]):=rfl
 have gt:=z7l R
 obtain ⟨r6,d6,e6,l6,p6⟩:=z1p p2 8 8 rfl (by decide) (by decide)
 obtain ⟨r7,d7,e7,l7,p7⟩:=z1p p6 4 4 rfl (by decide) (by decide)
 obtain ⟨r8,d8,e8,l8,p8⟩:=z1p p7 2 2 rfl (by decide) (by decide)
 have hlen:pLen (tD (bs.map (·.1)))=some (.pure (.int ((bs.length:Nat):Int))):=by simp [tD,pLen]
 have k3:z3 (s15 scr (some (.pure (.int c))) (some (.own d2)) (some (.pure (ruD h w bs))) q4 o5 o6 o7 o8 o9 o10) = .ok .next (s15 scr (some (.pure (.int c))) (some (.own d2)) (some (.pure (ruD h w bs))) q4 (some (.own (tD (bs.map (·.1))))) o6 o7 o8 o9 o10):=by
  generalize bs.map blD=B at *
  generalize ((bs.map (·.1)).map fun n=>D.str [n])=TS at *
  generalize tD (bs.map (·.1))=T at *
  generalize ruD h w bs=RU at *
  simp [z3,dAsg,z1Z,eOpF,eOpN,bVar,x2,z0q,clrD]
  rw [c3,htl]
  rfl
 have k4:z4 (s15 scr (some (.pure (.int c))) (some (.own d2)) (some (.pure (ruD h w bs))) q4 (some (.own (tD (bs.map (·.1))))) o6 o7 o8 o9 o10) = .ok .next (s15 scr (some (.pure (.int c))) (some (.own d2)) (some (.pure (ruD h w bs))) q4 (some (.own (tD (bs.map (·.1))))) (some (.own (dcT bs))) o7 o8 o9 o10):=by
  generalize tD (bs.map (·.1))=T at *
  generalize dcT bs=DT at *
  generalize ruD h w bs=RU at *
  simp [z4,dAsg,z06,ios,ndup,evX,eVar,mkA,gt,putA]
 have k5:z5 (s15 scr (some (.pure (.int c))) (some (.own d2)) (some (.pure (ruD h w bs))) q4 (some (.own (tD (bs.map (·.1))))) (some (.own (dcT bs))) o7 o8 o9 o10) = .ok .next (s15 scr (some (.pure (.int c))) (some (.own d2)) (some (.pure (ruD h w bs))) q4 (some (.pure (tD (bs.map (·.1))))) (some (.own (dcT bs))) o7 o8 o9 o10) :=
  q_is z0e z0J (ruD h w bs) _ (tb (bs.map (·.1)) (M bs)) (dcT bs) _ _ htl rfl (z50 R) (r_is (by simpa using n1) (M bs)) scr _ _ _ _ _ _ _ ho (z8b R scr _ _ _ _ _ _ _ _)
 have k6:z6 (s15 scr (some (.pure (.int c))) (some (.own d2)) (some (.pure (ruD h w bs))) q4 (some (.pure (tD (bs.map (·.1))))) (some (.own (dcT bs))) o7 o8 o9 o10) = .ok .next (s15 scr (some (.pure (.int c))) (some (.own d6)) (some (.pure (ruD h w bs))) q4 (some (.pure (tD (bs.map (·.1))))) (some (.own (dcT bs))) (some (.own (.lst ([0,1,2 + r6].map fun g:Nat=>D.int (g:Int))))) o8 o9 o10):=by
  generalize tD (bs.map (·.1))=T at *
  generalize dcT bs=DT at *
  generalize ruD h w bs=RU at *
  simp [z6,dAsg,z06,ios,ndup,z0q,evX,eVar,mkA,e6,putA,add_int]
 have k7:∃ (gs:List Nat) (d:D),(∀ g ∈ gs,g≤1000)∧z7 (s15 scr (some (.pure (.int c))) (some (.own d6)) (some (.pure (ruD h w bs))) q4 (some (.pure (tD (bs.map (·.1))))) (some (.own (dcT bs))) (some (.own (.lst ([0,1,2 + r6].map fun g:Nat=>D.int (g:Int))))) o8 o9 o10) = .ok .next (s15 scr (some (.pure (.int c))) (some (.own d)) (some (.pure (ruD h w bs))) q4 (some (.pure (tD (bs.map (·.1))))) (some (.own (dcT bs))) (some (.own (.lst (gs.map fun g:Nat=>D.int (g:Int))))) o8 o9 o10):=by
  have lt_int:∀ i j:Int,pLt (.int i) (.int j)=some (.pure (.bl (decide (i < j)))):=fun _ _=>rfl
  have hsub:pSub (.int 1000) (.int (r8:Int))=some (.pure (.int ((1000 - r8:Nat):Int))):=by
   show some (S.pure (D.int (1000 - (r8:Int))))=_
   congr 3
   omega
  generalize tD (bs.map (·.1))=T at *
  generalize dcT bs=DT at *
  generalize ruD h w bs=RU at *
  by_cases h4:bs.length < 4
  ·have h4':(bs.length:Int) < 4:=by omega
   by_cases h7:r7=0
   ·refine ⟨[0,1,2 + r6,1000 - r8],d8,by simp; omega,?_⟩
    have hq:pEq (.int (r7:Int)) (.int 0)=some (.pure (.bl true)):=by rw [z3j,h7]; rfl
    have hz:2 + 1 < W9:=by rw [z0o]; decide
    simp only [Wr,Jr]
    generalize ((1000 - r8:Nat):Int)=G at *
    simp [z7,bVar,hlen,lt_int,h4',dTr,z06,ios,ndup,z0q,evX,eVar,mkA,e7,e8,putA,hq,z0I,z1R,hsub,putL,z0o]
   ·refine ⟨[0,1,2 + r6],d7,by simp; omega,?_⟩
    have hq:pEq (.int (r7:Int)) (.int 0)=some (.pure (.bl false)):=by
     rw [z3j]
     have:((r7:Int) == 0)=false:=by simpa using h7
     rw [this]
    simp only [Wr,Jr]
    simp [z7,bVar,hlen,lt_int,h4',dTr,z06,ios,ndup,z0q,evX,eVar,mkA,e7,putA,hq]
  ·have h4':¬ (bs.length:Int) < 4:=by omega
   refine ⟨[0,1,2 + r6],d6,by simp; omega,?_⟩
   simp only [Wr,Jr]
   simp [z7,bVar,hlen,lt_int,h4',dTr]
 obtain ⟨gs,d9,hgs,k7⟩:=k7
 obtain ⟨q8,q9,q10,nq,e8⟩:=z6d R scr (some (.pure (.int c))) (some (.own d9)) q4 (some (.own (dcT bs))) (some (.pure (.lst (gs.map fun g:Nat=>D.int (g:Int))))) gs o8 o9 o10 ho hgs
 have i8:iSq (eVar 7) (s15 scr (some (.pure (.int c))) (some (.own d9)) (some (.pure (ruD h w bs))) q4 (some (.pure (tD (bs.map (·.1))))) (some (.own (dcT bs))) (some (.own (.lst (gs.map fun g:Nat=>D.int (g:Int))))) o8 o9 o10) = .ok (gs.map fun g:Nat=>D.int (g:Int)) (s15 scr (some (.pure (.int c))) (some (.own d9)) (some (.pure (ruD h w bs))) q4 (some (.pure (tD (bs.map (·.1))))) (some (.own (dcT bs))) (some (.pure (.lst (gs.map fun g:Nat=>D.int (g:Int))))) o8 o9 o10):=by
  generalize tD (bs.map (·.1))=T at *
  generalize dcT bs=DT at *
  generalize ruD h w bs=RU at *
  generalize (gs.map fun g:Nat=>D.int (g:Int))=GS at *
  simp [z1Z,eVar]
 exact ⟨_,_,_,_,_,_,q8,q9,q10,nq,(z0j k3).trans ((z0j k4).trans ((z0j k5).trans ((z0j k6).trans ((z0j k7).trans ((z80 i8).trans e8)))))⟩
theorem r_law (ns:List Int) (hn:ns.length≤63):∃ outs,G_law [.pure (.lst (ns.map .int))]=some (.pure (.bl true),outs):=by
 obtain ⟨c0,e0⟩:=z5C ns
 have cut_ints:∀ (ns:List Int) (lo hi:Option Int),cutL (ns.map D.int) lo hi=(cutL ns lo hi).map D.int:=fun ns lo hi=>by
  unfold cutL
  simp [List.map_take,List.map_drop]
 have ha:pAdd (.lst [.int c0]) (.lst (cutL (ns.map .int) (some 1) (some 4)))=some (.own (.lst ((c0 :: cutL ns (some 1) (some 4)).map .int))):=by
  rw [cut_ints]
  have hl:(cutL ns (some 1) (some 4)).length≤63:=by
   unfold cutL
   simp
   omega
  simp only [pAdd]
  rw [if_pos (by rw [z0o]; simp; omega)]
  simp
 have hs:pSl (some 1) (some 4) (.lst (ns.map .int))=some (.own (.lst (cutL (ns.map .int) (some 1) (some 4)))):=rfl
 generalize D.lst (ns.map .int)=scr at *
 obtain ⟨δ',e,o1,o2,o3,o4,o5,o6,o7,o8,o9,o10,no,rfl⟩:=z1I (g:=gNm [] 1) (b:=(dSeq z0 (dSeq z1 (dSeq z2 (dSeq z3 (dSeq z4 (dSeq z5 (dSeq z6 (dSeq z7 z8)))))))))
  (fun _ δ=>∃ o1 o2 o3 o4 o5 o6 o7 o8 o9 o10,nOwn o10∧δ=s15 scr o1 o2 o3 o4 o5 o6 o7 o8 o9 o10) ((c0 :: cutL ns (some 1) (some 4)).map .int) 0 (s15 scr none none none none none none none none none none) ⟨_,_,_,_,_,_,_,_,_,_,fun d e=>by (cases e),rfl⟩ (fun i d δ hd ⟨o1,o2,o3,o4,o5,o6,o7,o8,o9,o10,no,e⟩=>by
   subst e
   simp only [Wu,Qt] at hd
   obtain ⟨k,_,rfl⟩:=hd
   obtain ⟨q2,q3,q4,q5,q6,q7,q8,q9,q10,nq,e⟩:=zaU scr k o2 o3 o4 o5 o6 o7 o8 o9 o10 no
   exact ⟨_,_,rfl,e,_,_,_,_,_,_,_,_,_,_,nq,rfl⟩)
 generalize ((c0 :: cutL ns (some 1) (some 4)).map D.int)=cs at *
 generalize D.lst (cutL (ns.map .int) (some 1) (some 4))=cl at *
 refine ⟨[.pure scr],?_⟩
 rw [G_law]
 refine z9N (δ1:=s15 scr o1 o2 o3 o4 o5 o6 o7 o8 o9 o10) ?_
 rw [zaL]
 have qi:iSq (eOp pAdd (eLst (z0U (z06 z0C [.val (eVar 0),.val (eD (.int 0))]) aNil)) (bOf (eSlN 0 (z5M (eD (.int 1))) (z5M (eD (.int 4)))))) (s15 scr none none none none none none none none none none) = .ok cs (s15 scr none none none none none none none none none none):=by
  simp [z1Z,z06,ios,ndup,evX,eVar,mkA,e0,putA,eSlN,z5M,bVar,hs,ha]
 refine (z0j ((z80 qi).trans e)).trans ?_
 rfl
end K20
open PySem PySem.W PyProof.Rows
def PySem.W.Fast.tw4508371012770429607:Nat:=0
def PySem.W.Fast.tw9683475823042107872:Nat:=0
def PySem.W.Fast.tw8174068885899438082:Nat:=0
def PySem.W.Fast.tw7402138813491220582:Nat:=0
def PySem.W.Fast.tw14633395972463486947:Nat:=0
def PySem.W.Fast.tw2573383426699394151:Nat:=0
set_option maxRecDepth 100000 in
set_option maxHeartbeats 0 in
theorem PySem.Challenge.cw_tilegrow_k20_tables_and_powers_holds : PySem.Challenge.rw_tilegrow_k20_tables_and_powers.Holds := by
 w_on; o_law; k_head; (case hw=>w_witness2)
 k_fill
 refine DV.walkD (l:=PySem.Challenge.rw_tilegrow_k20_tables_and_powers) (k:=5) (G:=K20.G_law) rfl rfl ⟨rfl,by decide,by decide⟩ (fun w h Y=>PySem.W.kIn_of Y) ?L K20.r_law ?F
 case L=>intro p; exact Eq.refl true
 case F =>
  intro w mg fa h KX G hmg
  refine' K20.all_mk KX G hmg ?d0 ?d1 ?d2 ?d3 ?d4 ?d5 ?d6 ?d7 ?d8 ?d9 ?d10 ?d11 ?d12 ?d13 ?d14 ?a15 ?l15 ?c15 ?k15 ?z_all ?z_bool ?z_int ?z_isinstance ?z_len ?z_list ?z_max ?z_range ?z_sorted ?z_sum ?z_tuple ?z_zip
  (case d0=>exact ⟨_,_,_,_,_,_,_,_,_,_,by k_is,by k_is,by k_is,by k_is⟩); (case d1=>exact ⟨_,_,_,_,_,_,_,_,_,_,by k_is,by k_is,by k_is,by k_is⟩); (case d2=>exact ⟨_,_,_,_,_,_,_,_,_,_,by k_is,by k_is,by k_is,by k_is⟩); (case d3=>exact ⟨_,_,_,_,_,_,_,_,_,_,by k_is,by k_is,by k_is,by k_is⟩); (case d4=>exact ⟨_,_,_,_,_,_,_,_,_,_,by k_is,by k_is,by k_is,by k_is⟩); (case d5=>exact ⟨_,_,_,_,_,_,_,_,_,_,by k_is,by k_is,by k_is,by k_is⟩); (case d6=>exact ⟨_,_,_,_,_,_,_,_,_,_,by k_is,by k_is,by k_is,by k_is⟩); (case d7=>exact ⟨_,_,_,_,_,_,_,_,_,_,by k_is,by k_is,by k_is,by k_is⟩)
  (case d8=>exact ⟨_,_,_,_,_,_,_,_,_,_,by k_is,by k_is,by k_is,by k_is⟩); (case d9=>exact ⟨_,_,_,_,_,_,_,_,_,_,by k_is,by k_is,by k_is,by k_is⟩); (case d10=>exact ⟨_,_,_,_,_,_,_,_,_,_,by k_is,by k_is,by k_is,by k_is⟩); (case d11=>exact ⟨_,_,_,_,_,_,_,_,_,_,by k_is,by k_is,by k_is,by k_is⟩); (case d12=>exact ⟨_,_,_,_,_,_,_,_,_,_,by k_is,by k_is,by k_is,by k_is⟩); (case d13=>exact ⟨_,_,_,_,_,_,_,_,_,_,by k_is,by k_is,by k_is,by k_is⟩); (case d14=>exact ⟨_,_,_,_,_,_,_,_,_,_,by k_is,by k_is,by k_is,by k_is⟩); (case a15=>k_is)
  (case l15=>k_is); (case c15=>k_is); (case k15=>k_is); (case z_all=>k_is); (case z_bool=>k_is); (case z_int=>k_is); (case z_isinstance=>k_is); (case z_len=>k_is)
  (case z_list=>k_is); (case z_max=>k_is); (case z_range=>k_is); (case z_sorted=>k_is); (case z_sum=>k_is); (case z_tuple=>k_is); (case z_zip=>k_is)
