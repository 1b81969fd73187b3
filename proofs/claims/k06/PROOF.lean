import PyProof.Rows.All
import Wide.All
import OpenK.AllK
import Wide.FinOn
import Lean
import PyProof.EqAt
import PyProof.EqKinds
import PyProof.TupleCall
import PyProof.NeKinds
import PyProof.StrWalks
import PyProof.ListStr
import PyProof.StrOps2
import PyProof.StrLawsIn
import KE.KDictOf
import PyProof.AttrMissHeap
import PyProof.Draws
import PyProof.EnumMake
import PyProof.Rows.EnumRows
import PyProof.LongRange
import PyProof.NoPylong
import PyProof.SeqI3
import PyProof.Rows.SeqCalls
import PyProof.StrLawsChain
import PyProof.StrCalls2
import KE.KIntText
import PyProof.Rows.CallKwBuiltin
import OpenK.KOwn
import OpenK.KRaise
import PyProof.ExcBaseAll.ValueError
import PyProof.Rows.CatchOwn
import KE.KIsAll
import PyProof.ExcArgsOwn
import PyProof.ExcAttrAll.ValueError
import PyProof.Rows.SeqMore2
import PyProof.ListMulAny
import PyProof.ListMulRoad
import PyProof.ZipIter
import PyProof.Rows.FactsT2
import PyProof.ExcInit
import PyProof.InstStoreFacts
import PyProof.StrCalls
import PyProof.FactsAll.dict_1
import PyProof.FactsAll.subtypes_3
import PyProof.FactsAll.subtypes_4
import PyProof.Dict
import PyProof.MinMaxWalk
import PyProof.WalkInts
import PyProof.WalksMore
import PyProof.FactsAll.tuple_2
import KE.KSortTup
import PyProof.Rows.SortWalk
import PyProof.Rows.SetFrom
import PyProof.DictKinds
import PyProof.DictStraight
import PyProof.SetRoads
import PyProof.CollectWalk
import PyProof.CollectStr
import PyProof.DictIter
import PyProof.Rows.SortShell
import KE.KItemsList
import PyProof.Rows.SortStr
import PySem.Challenge.RW_tilegrow_k06_rules_joined
open PySem renaming wpAny_bind→W0,Shared→W1,wpAny_pure→W3,wpAny→W5,starEach→W6,sizeLine→W8,Spec→Wf,Program→Wj,Around→Wn,World→Wp,mainGlobals→Wq,mem_of_lookup→Wy,wpAny_mono→WE,wpAny_holding→WF,wpAny_setState_of→WL,FuncData→WM,compareOp→WP,wpAny_newObj_type→WT,backTo→WZ,rawInt→Q4,codeAny_builtin→Q8,codeAny→Q9,assignEach→Qa,binaryOp→Qb,wpAny_askSetting→Qc,wpAny_loadPart_at→Qh,bootBuiltins→Qk,wpAny_call_entry→Qn,pyNext→Qr,wpAny_callSpecial?_slot→Qs,cLine→Qt,cellsFrom→Qu,behindInMarks→Qx,attributeBase→Qy,sizeLine_eq→QE,wpAny_typeOf→QJ,wpAny_rule→QL,plainId_quiet→QN,wpAny_setEntries_of→QO,wpAny_setField→QQ,codeAny_mono→QT,wpAny_Call_Name_kw→QU,wpAny_loadPart'→QW,wpAny_truthy_bool→J3,codeAny_call_builtin→Jd,wpAny_field→Jf,scanBound→Jg,sysModules→Jm,swapsWith→Jn,wpAny_setEpoch_of→Ju,builtinLookup_eq_fast→Jw,sliceBounds→JB,keywordEach→JC,wpAny_passesOwn→JE,wpAny_ite_split→JF,wpAny_updateSeq→JI,tupleKind_room_in1→JK,pushCells→JL,noteFrame→JM,getattributeRaised→JN,typeIs_int→JQ,call_meets→JR,setsByText→JS,foldedSetIterable→JU,wpAny_pyIter_list→JV
open PySem.W renaming Frag→W2,mg_none_of→WQ,kia_one→Q0,keepIn→Qe,fnOf→Qm,findIn→Qp,kitOne→Qz,kitOne→QA,hasDictIn→J4,cellsFrom_some→Jr,findIn→Jv,looks_findIn→JO
open PySem.Heap renaming get?_push_of_some→W4,lt_size→We,get?_push_size→Wi,get?_update_self→Wv,get?_update_other→WA,SameBut→WW,size_push→QP,get?_none_of_le→Jy
open List renaming getElem?_set_ne→W7,replicate→Wa,getElem?_eq_some_iff→Wb,mem_cons_of_mem→Wc,mem_cons→Wg,getElem?_eq_getElem→Wk,size_toArray→Wl,mem_cons_self→Wm,map_cons→Wr,length_map→Ws,getElem?_set_self→Wt,range→Wz,length_cons→WB,nodup_cons→WD,map_map→WH,mem_of_getElem?→WI,lookup_cons→WJ,getElem?_map→WK,append_nil→WN,mem_append_right→WR,getElem?_eq_none→WS,getElem?_set→WU,length_append→Q1,nil_append→Q2,all_eq_true→Q3,replicate_succ→Q5,mem_map_of_mem→Q6,mem_map→Q7,mem_range→Qd,foldl_cons→Qi,eq_nil_of_length_eq_zero→Qj,pairwise_cons→Qo,map_append→Qw,set_cons_succ→QB,length→QF,mem_append→QG,find?_cons→QK,filterMap_cons_some→QM,mem_singleton→QV,contains_iff_mem→QX,any_cons→QY,length_eraseIdx_of_lt→J0,flatten_cons→J9,take_add_one→Ja,mem_of_find?_eq_some→Je,length_take→Jh,getElem_mem→Jj,filterMap_cons→Jl,length_set→Jo,contains_cons→Jp,set_cons_zero→Jq,take_of_length_le→Js,length_range→Jt,length_filter_le→Jx,mem_append_left→Jz,mem_of_mem_take→JA,find?_some→JG,range_succ→JH,nodup_append→JW,pairwise_map→JY,of_mem_zip→U0
open Option.some renaming injEq→W9,inj→Ww
open Nat renaming le_refl→Wd,ne_of_lt→Wo,lt_of_lt_of_le→Wx,le_trans→WO,zero_add→WX,lt_succ_of_lt→Qf,lt_irrefl→Qq,ne_of_gt→QH,zero_le→QR,le_of_lt→JJ,mul_le_mul→JT,lt_succ_self→JZ,mul_comm→U2,mod_lt→U3
open Bool renaming and_eq_true→Wh,false_eq_true→WG,not_eq_true'→Qg,false_ne_true→Ql,not_eq_true→Jk,eq_iff_iff→U1
open Array renaming length_toList→Wu,getD_eq_getD_getElem?→WY,getElem?_eq_some_iff→QZ,toList_push→JX
open Option renaming bind_some→WC,map_some→WV,isSome_iff_exists→QI,map_eq_some_iff→QS
open PySem.Builtin.Str renaming strSliceIndices→Qv
open PySem.F renaming plain_extend_loop→QC
open PyProof.Rows renaming slot_tuple_getitem→QD,envOfC→J5
open PySem.Builtin.Frozenset renaming isAnySet→J1
open Int renaming toNat_natCast→Jb,emod_lt_of_pos→JP,emod_nonneg→U4
open PySem.Builtin.Slice renaming slicePlaces→Jc
open PySem.Builtin.Tuple renaming tupleExact→Ji
open PySem.Heap.SameBut renaming update→JD
set_option Elab.async false
set_option linter.all false
set_option maxRecDepth 100000
namespace L2
open PySem PySem.Spec PyProof.Rows
abbrev Key:=Sum Int Str
def z8y:Key→Value→Bool
 | .inl k,v=>Value.isInt k v
 | .inr x,v=>Value.isStrOf x v
def keyH (w:Wp):Key→Int
 | .inl k=>hashInt k
 | .inr x=>hashStr w x
theorem z12:∀ {k:Key} {v:Value},z8y k v=true→(∃ i t,k=Sum.inl i∧v=Value.int i t)∨(∃ x t,k=Sum.inr x∧v=Value.str x t)
 | .inl i,v,h=>by
  obtain ⟨t,e⟩:=Value.isInt_shape (k:=i) (v:=v) h
  exact .inl ⟨i,t,rfl,e⟩
 | .inr x,v,h=>by
  obtain ⟨t,e⟩:=Value.isStrOf_shape (x:=x) (v:=v) h
  exact .inr ⟨x,t,rfl,e⟩
theorem z9T (i:Int) (t:Tok):z8y (.inl i) (.int i t)=true:=by simp [z8y,Value.isInt]
theorem z9S (x:Str) (t:Tok):z8y (.inr x) (.str x t)=true:=by simp [z8y,Value.isStrOf]
theorem zf9 (a b:Int):decide ((Sum.inl a:Key)=Sum.inl b)=(a == b):=by
 by_cases e:a=b
 ·subst e; simp
 ·have h:¬ (Sum.inl a:Key)=Sum.inl b:=fun q=>e (Sum.inl.inj q)
  rw [decide_eq_false h]
  exact (beq_eq_false_iff_ne.mpr e).symm
theorem zf6 (a b:Str):decide ((Sum.inr a:Key)=Sum.inr b)=decide (a=b):=by
 by_cases e:a=b
 ·subst e; simp
 ·have h:¬ (Sum.inr a:Key)=Sum.inr b:=fun q=>e (Sum.inr.inj q)
  rw [decide_eq_false h,decide_eq_false e]
theorem zf8 (a:Int) (b:Str):decide ((Sum.inl a:Key)=Sum.inr b)=false:=decide_eq_false (fun q=>nomatch q)
theorem zf7 (a:Str) (b:Int):decide ((Sum.inr a:Key)=Sum.inl b)=false:=decide_eq_false (fun q=>nomatch q)
def z1v (prog:Wj) (w:Wp):PySem.KeyKind prog w Key where
 is:=z8y
 hash:=keyH w
 inj:=fun v a b ha hb=>by
  rcases z12 ha with ⟨i,t,rfl,rfl⟩ | ⟨x,t,rfl,rfl⟩
  ·rcases z12 hb with ⟨j,u,rfl,e⟩ | ⟨y,u,rfl,e⟩
   ·injection e with e1 _; rw [e1]
   ·exact nomatch e
  ·rcases z12 hb with ⟨j,u,rfl,e⟩ | ⟨y,u,rfl,e⟩
   ·exact nomatch e
   ·injection e with e1 _; rw [e1]
 byValue:=fun k v h=>by
  rcases z12 h with ⟨i,t,rfl,rfl⟩ | ⟨x,t,rfl,rfl⟩ <;> rfl
 pyHash:=fun hv h=>by
  rcases z12 hv with ⟨i,t,rfl,rfl⟩ | ⟨x,t,rfl,rfl⟩
  ·exact wpAny_pyHash_int h
  ·exact wpAny_pyHash_str h
 eqBool:=fun hu hv h=>by
  rcases z12 hu with ⟨i,t,rfl,rfl⟩ | ⟨x,t,rfl,rfl⟩
  ·rcases z12 hv with ⟨j,u,rfl,rfl⟩ | ⟨y,u,rfl,rfl⟩
   ·rw [zf9] at h; exact wpAny_eqBool_int h
   ·rw [zf8] at h; exact SeqAt.EqAt.int_str i t y u _ _ _ _ h
  ·rcases z12 hv with ⟨j,u,rfl,rfl⟩ | ⟨y,u,rfl,rfl⟩
   ·rw [zf7] at h; exact SeqAt.EqAt.str_int x t j u _ _ _ _ h
   ·rw [zf6] at h; exact wpAny_eqBool_str h
 «strs»:=fun k x t v h=>by
  rcases z12 h with ⟨i,u,rfl,e⟩ | ⟨y,u,rfl,e⟩
  ·exact nomatch e
  ·injection e with e1 _
   subst e1
   cases v <;> rfl
theorem z7n (prog:Wj) (w:Wp) (i:Int) (t:Tok):(z1v prog w).is (.inl i) (.int i t)=true:=z9T i t
theorem z7m (prog:Wj) (w:Wp) (x:Str) (t:Tok):(z1v prog w).is (.inr x) (.str x t)=true:=z9S x t
inductive V where
 | non | bl (b:Bool) | int (i:Int) | str (x:Str) | byt (b:Array UInt8) | flt (b:UInt64) | ref (a:Addr) | ty (n:String)
 deriving DecidableEq
def RelV:V→Value→Prop
 | .non,u=>u=Value.none
 | .bl b,u=>u=Value.bool b
 | .int i,u=>∃ t,u=Value.int i t
 | .str x,u=>∃ t,u=Value.str x t
 | .byt b,u=>∃ t,u=Value.bytes b t
 | .flt b,u=>∃ t,u=Value.float b t
 | .ref a,u=>u=Value.ref a
 | .ty n,u=>u=Value.type n
abbrev Vals:List V→List Value→Prop:=Paired RelV
theorem Vals.length (r:Vals xs us):xs.length=us.length:=Paired.length r
theorem Vals.get:∀ {xs:List V} {us:List Value} {i:Nat} {x:V},Vals xs us→xs[i]? = some x→∃ u,us[i]? = some u∧RelV x u
 | _,_,_,_,.nil,e=>by simp at e
 | _,_,0,_,.cons r _,e=>by simp at e; subst e; exact ⟨_,rfl,r⟩
 | _,_,i + 1,x,.cons _ t,e=>by
  obtain ⟨u,h1,h2⟩:=Vals.get (i:=i) (x:=x) t (by simpa using e)
  exact ⟨u,by simpa using h1,h2⟩
theorem Vals.set (r:RelV x u):∀ {xs:List V} {us:List Value} (i:Nat),Vals xs us→Vals (xs.set i x) (us.set i u)
 | _,_,_,.nil=>.nil
 | _,_,0,.cons _ t=>.cons r t
 | _,_,i + 1,.cons q t=>.cons q (Vals.set r i t)
theorem Vals.append:∀ {xs ys:List V} {us ws:List Value},Vals xs us→Vals ys ws→Vals (xs ++ ys) (us ++ ws)
 | _,_,_,_,.nil,s=>s
 | _,_,_,_,.cons r t,s=>.cons r (Vals.append t s)
theorem Vals.take:∀ {xs:List V} {us:List Value} (n:Nat),Vals xs us→Vals (xs.take n) (us.take n)
 | _,_,0,_=>.nil
 | _,_,_ + 1,.nil=>.nil
 | _,_,n + 1,.cons r t=>.cons r (Vals.take n t)
theorem Vals.drop:∀ {xs:List V} {us:List Value} (n:Nat),Vals xs us→Vals (xs.drop n) (us.drop n)
 | _,_,0,r=>r
 | _,_,_ + 1,.nil=>.nil
 | _,_,n + 1,.cons _ t=>Vals.drop n t
def RelO:Option V→Option Value→Prop
 | some v,some u=>RelV v u
 | none,none=>True
 | _,_=>False
def KV {κ:Type}:List (κ×V)→List (κ×Value)→Prop:=Paired fun (p:κ×V) (q:κ×Value)=>p.1=q.1∧RelV p.2 q.2
def kV:Key→V
 | .inl i=>.int i
 | .inr x=>.str x
inductive HO where
  | lst (xs:List V)
  | tup (xs:List V)
  | dK (kvs:List (Key×V)) | dT (kvs:List (List Key×V))
  | set (S:Int→Bool) (n:Nat)
  | ins (C dx:Addr) (fs:List (Str×V))
  | own (x:Addr)
  | xd (fs:List (Str×V))
  | met (f x:Addr)
  | rng (lo hi:Int)
  | frz (o:Obj) (u:HO)
  | tbl (ps:Array Value)
  | ext (φ:Heap→Prop)
abbrev Hp:=Addr→Option HO
def upd (H:Hp) (a:Addr) (o:HO):Hp:=fun b=>if b=a then some o else H b
theorem z0k:upd H a o a=some o:=by unfold upd; rw [if_pos rfl]
theorem z0i (h:b≠a):upd H a o b=H b:=by unfold upd; rw [if_neg h]
theorem z8S:upd (upd H a o) a u=upd H a u:=by
 funext b; unfold upd; split <;> rfl
theorem ne_of {H:Hp} {a b:Addr} {o u:HO} (h:H a=some o) (h':H b=some u) (d:o≠u):a≠b:=by
 intro e; subst e; rw [h] at h'; exact d (Ww h')
theorem z0C {H:Hp} {a b:Addr} {o:HO} (h:H a=some o) (h':H b=none):a≠b:=by
 intro e; subst e; rw [h] at h'; cases h'
def IsTupN (h:Heap) (a:Addr) (its:Array Value):Prop:=∃ n,h.get? a=some { cls:=.type "tuple",dict:=none,data:=.seq its n,slots:=#[] }
theorem IsTupN.tup (x:IsTupN h a its):IsTup h a its:=let ⟨n,e⟩:=x; ⟨_,e,rfl,n,rfl⟩
theorem IsTupN.new (h:Heap) (its:Array Value):IsTupN (h.push { cls:=.type "tuple",data:=.seq its }) h.objs.size its:=⟨_,Wi _ rfl⟩
theorem IsTupN.lt (x:IsTupN h a its):a < h.objs.size:=let ⟨_,e⟩:=x; We e
section
variable (P:Wj) (w:Wp)
def ObjOk (H:Hp) (h:Heap) (a:Addr):HO→Prop
 | .lst xs=>xs.length≤W8∧∃ (its:List Value) (n:Nat),Vals xs its∧h.get? a=some { cls:=.type "list",data:=.seq its.toArray n }
 | .tup xs=>xs.length≤W8∧∃ its:List Value,Vals xs its∧IsTupN h a its.toArray
 | .dK kvs=>kvs.length≤W8∧(a == Jm)=false∧∃ vs,KV kvs vs∧h.DictOf (z1v P w) a vs
 | .dT kvs=>kvs.length≤W8∧(a == Jm)=false∧∃ xs:List (List Key×Addr×Value),
   Paired (fun (p:List Key×V) (q:List Key×Addr×Value)=>p.1=q.1∧H q.2.1=some (.tup (p.1.map kV))∧RelV p.2 q.2.2) kvs xs ∧
   ∃ o es ep,h.get? a=some o∧o.ExactDict∧o.data = .dict es ep∧es.toList=xs.map (entryOfKey (tupleKind (z1v P w)))∧(xs.map (·.1)).Nodup
 | .set S n=>h.SetOf (intKind P w) a S n
 | .ins C dx fs=>H dx=some (.own a)∧fs.length≤1000∧dx≠a∧h.get? a=some (PySem.W.instObj C dx) ∧
   ∃ mA,h.Ns1 dx mA∧(∀ f,RelO (fs.lookup f) (mA f))∧PySem.Within mA (fs.map (·.1))
 | .own _=>∃ o,h.get? a=some o
 | .xd fs=>∃ mA,h.Ns1 a mA∧∀ f,RelO (fs.lookup f) (mA f)
 | .rng lo hi=>∃ t u v,h.get? a=some { cls:=.type "range",data:=.fields #[.int lo t,.int hi u,.int 1 v] }
 | .frz o u=>h.get? a=some o∧ObjOk H h a u
 | .tbl ps=>h.get? a=some { cls:=.none,data:=.fields ps }
 | .met f x=>h.get? a=some (PySem.W.methodObj (.ref f) (.ref x))
 | .ext φ=>φ h∧(∃ o,h.get? a=some o)∧∀ h1 h2:Heap,φ h1→(∀ o,h1.get? a=some o→h2.get? a=some o)→φ h2
def HOk (H:Hp) (h:Heap):Prop:=∀ a o,H a=some o→ObjOk P w H h a o
end
section
variable {P:Wj} {w:Wp} {H H':Hp} {h h':Heap} {a:Addr} {o:HO}
theorem ObjOk.lt (x:ObjOk P w H h a o):a < h.objs.size:=by
 cases o with
 | lst xs=>obtain ⟨_,_,_,_,e⟩:=x; exact We e
 | tup xs=>obtain ⟨_,_,_,p⟩:=x; exact p.lt
 | dK kvs=>obtain ⟨_,_,_,_,o,_,_,e,_⟩:=x; exact We e
 | dT kvs=>obtain ⟨_,_,_,_,o,_,_,e,_⟩:=x; exact We e
 | set S n=>obtain ⟨o,_,_,_,e,_⟩:=x; exact We e
 | ins C dx fs=>obtain ⟨_,_,_,e,_⟩:=x; exact We e
 | own y=>obtain ⟨_,e⟩:=x; exact We e
 | xd fs=>obtain ⟨_,⟨_,_,_,e,_⟩,_⟩:=x; exact We e
 | rng lo hi=>obtain ⟨_,_,_,e⟩:=x; exact We e
 | frz ob u=>obtain ⟨e,_⟩:=x; exact We e
 | tbl ps=>exact We (show h.get? a=some _ from x)
 | met f y=>exact We (show h.get? a=some _ from x)
 | ext φ=>obtain ⟨_,⟨_,e⟩,_⟩:=x; exact We e
theorem Paired.mapP:∀ {l₁:List α} {l₂:List β},Paired F l₁ l₂→(∀ a b,F a b→G a b)→Paired G l₁ l₂
 | _,_,.nil,_=>.nil
 | _,_,.cons r t,f=>.cons (f _ _ r) (Paired.mapP t f)
theorem ObjOk.stay (x:ObjOk P w H h a o) (k:∀ b u,(b=a∨H b=some (.own a))→h.get? b=some u→h'.get? b=some u)
  (ho:∀ b,H b=some (.own a)→H' b=some (.own a)) (ht:∀ b xs,H b=some (.tup xs)→H' b=some (.tup xs)):ObjOk P w H' h' a o:=by
 induction o with
 | lst xs=>obtain ⟨z,its,n,r,e⟩:=x; exact ⟨z,its,n,r,k _ _ (.inl rfl) e⟩
 | tup xs=>obtain ⟨z,its,r,n,e⟩:=x; exact ⟨z,its,r,n,k _ _ (.inl rfl) e⟩
 | dK kvs=>obtain ⟨z,y,vs,r,ob,es,ep,e,c⟩:=x; exact ⟨z,y,vs,r,ob,es,ep,k _ _ (.inl rfl) e,c⟩
 | dT kvs =>
  obtain ⟨z,y,xs,r,ob,es,ep,e,c⟩:=x
  exact ⟨z,y,xs,Paired.mapP r fun p q z=>⟨z.1,ht _ _ z.2.1,z.2.2⟩,ob,es,ep,k _ _ (.inl rfl) e,c⟩
 | set S n=>obtain ⟨ob,es,ep,t,e,c⟩:=x; exact ⟨ob,es,ep,t,k _ _ (.inl rfl) e,c⟩
 | ins C dx fs =>
  obtain ⟨d,z,ne,e,mA,⟨od,es,ep,e2,c⟩,r⟩:=x
  exact ⟨ho _ d,z,ne,k _ _ (.inl rfl) e,mA,⟨od,es,ep,k _ _ (.inr d) e2,c⟩,r⟩
 | own y=>obtain ⟨ob,e⟩:=x; exact ⟨ob,k _ _ (.inl rfl) e⟩
 | xd fs=>obtain ⟨mA,⟨od,es,ep,e,c⟩,r⟩:=x; exact ⟨mA,⟨od,es,ep,k _ _ (.inl rfl) e,c⟩,r⟩
 | rng lo hi=>obtain ⟨t,u,v,e⟩:=x; exact ⟨t,u,v,k _ _ (.inl rfl) e⟩
 | frz ob u ih=>obtain ⟨e,q⟩:=x; exact ⟨k _ _ (.inl rfl) e,ih q⟩
 | tbl ps =>
  have e:h.get? a=some { cls:=.none,data:=.fields ps }:=x
  show h'.get? a=some { cls:=.none,data:=.fields ps }
  exact k a _ (.inl rfl) e
 | met f y =>
  have e:h.get? a=some (PySem.W.methodObj (.ref f) (.ref y)):=x
  show h'.get? a=some (PySem.W.methodObj (.ref f) (.ref y))
  exact k a _ (.inl rfl) e
 | ext φ=>obtain ⟨p,⟨o,e⟩,st⟩:=x; exact ⟨st _ _ p fun o q=>k _ _ (.inl rfl) q,⟨o,k _ _ (.inl rfl) e⟩,st⟩
theorem HOk.lt (x:HOk P w H h) (e:H a=some o):a < h.objs.size:=(x a o e).lt
theorem HOk.fresh (x:HOk P w H h) (e:h.objs.size≤a):H a=none:=by
 cases q:H a with
 | none=>rfl
 | some u=>exact absurd (Wx (x.lt q) e) (Qq _)
theorem HOk.kept (x:HOk P w H h) (k:∀ b u,h.get? b=some u→h'.get? b=some u):HOk P w H h':=fun a o e =>
 (x a o e).stay (fun b u _ q=>k b u q) (fun _ q=>q) fun _ _ q=>q
theorem HOk.laid (x:HOk P w H h) (k:∀ b u,h.get? b=some u→h'.get? b=some u) (hp:h.objs.size≤a) (new:ObjOk P w (upd H a o) h' a o):HOk P w (upd H a o) h':=fun b u e=>by
 have hn:=x.fresh hp
 by_cases hb:b=a
 ·subst hb; rw [z0k] at e; cases e; exact new
 ·rw [z0i hb] at e
  exact (x b u e).stay (fun c v _ q=>k c v q) (fun c q=>by rw [z0i (z0C q hn)]; exact q) fun c xs q=>by rw [z0i (z0C q hn)]; exact q
end
def Rd (H:Hp) (a:Addr) (u:HO):Prop:=H a=some u∨∃ o,H a=some (.frz o u)
theorem Rd.ok (r:Rd H a u) (x:HOk P w H h):ObjOk P w H h a u:=by
 rcases r with r | ⟨o,r⟩
 ·exact x a u r
 ·obtain ⟨_,q⟩:=x a _ r
  exact q
def Mut:Option HO→Prop
 | some (.lst _)=>True
 | some (.dK _)=>True
 | some (.dT _)=>True
 | some (.set _ _)=>True
 | some (.ins _ _ _)=>True
 | some (.ext _)=>True
 | _=>False
section
variable {P:Wj} {w:Wp} {H:Hp} {h h':Heap} {x e:Addr} {o':HO}
theorem HOk.write (ok:HOk P w H h) (mu:Mut (H x)) (he:e=x∨H e=some (.own x)) (k:∀ b u,b≠e→h.get? b=some u→h'.get? b=some u) (heo:∃ u,h'.get? e=some u)
  (new:ObjOk P w (upd H x o') h' x o'):HOk P w (upd H x o') h':=fun b u q=>by
 have nown:∀ c y,H c=some (.own y)→c≠x:=fun c y r z=>by subst z; rw [r] at mu; exact mu
 have ntup:∀ c xs,H c=some (.tup xs)→c≠x:=fun c xs r z=>by subst z; rw [r] at mu; exact mu
 by_cases hb:b=x
 ·subst hb; rw [z0k] at q; cases q; exact new
 ·rw [z0i hb] at q
  by_cases hbe:b=e
  ·have q':H b=some (.own x):=by
    rcases he with z | z
    ·exact absurd (hbe.trans z) hb
    ·rw [hbe]; exact z
   rw [q] at q'; cases q'
   obtain ⟨v,hv⟩:=heo
   exact ⟨v,by rw [hbe]; exact hv⟩
  ·refine (ok b u q).stay (fun c v hc r=>k c v ?_ r) (fun c r=>by rw [z0i (nown c b r)]; exact r) fun c xs r=>by rw [z0i (ntup c xs r)]; exact r
   rcases hc with rfl | hc
   ·exact hbe
   ·rintro rfl
    rcases he with z | z
    ·exact nown c b hc z
    ·rw [hc] at z; cases z; exact hb rfl
end
structure Un (fs ex:List Addr) (H H':Hp) (h h':Heap):Prop where
 keep:∀ b o,h.get? b=some o→H b=none→b ∉ fs→b ∉ ex→h'.get? b=some o
 slot:∀ b o,h.get? b=some o→H b=none→b ∈ fs→b ∉ ex→∃ sl,h'.get? b=some { o with slots:=sl }
 free:∀ b o,h.get? b=some o→H b=none→b ∉ ex→H' b=none
 there:∀ b o,h.get? b=some o→b ∉ ex→∃ o',h'.get? b=some o'
 tups:∀ b xs,H b=some (.tup xs)→H' b=some (.tup xs)
 frzs:∀ b o u,H b=some (.frz o u)→H' b=some (.frz o u)
 tbls:∀ b ps,H b=some (.tbl ps)→∃ more,H' b=some (.tbl (ps ++ more))
section
variable {fs fs' ex ex':List Addr} {H H1 H2:Hp} {h h1 h2 h':Heap} {a x e:Addr} {o:HO}
theorem Un.any (u:Un fs ex H H1 h h1) (q:h.get? b=some ob) (n:H b=none) (hx:b ∉ ex):∃ sl,h1.get? b=some { ob with slots:=sl }:=by
 by_cases hb:b ∈ fs
 ·exact u.slot b ob q n hb hx
 ·exact ⟨ob.slots,u.keep b ob q n hb hx⟩
theorem Un.kept (k:∀ b u,h.get? b=some u→h'.get? b=some u):Un fs ex H H h h' :=
 ⟨fun b ob q _ _ _=>k b ob q,fun b ob q _ _ _=>⟨ob.slots,k b ob q⟩,fun _ _ _ n _=>n,fun b ob q _=>⟨ob,k b ob q⟩,fun _ _ q=>q,fun _ _ _ q=>q,fun _ ps q=>⟨#[],by rw [q]; simp⟩⟩
theorem Un.refl:Un fs ex H H h h:=Un.kept fun _ _ q=>q
theorem Un.laid (k:∀ b u,h.get? b=some u→h'.get? b=some u) (hp:h.objs.size≤a) (hn:H a=none):Un fs ex H (upd H a o) h h' where
 keep:=fun b u q _ _ _=>k b u q
 slot:=fun b u q _ _ _=>⟨u.slots,k b u q⟩
 free:=fun b u q n _=>by rw [z0i (Wo (Wx (We q) hp))]; exact n
 there:=fun b u q _=>⟨u,k b u q⟩
 tups:=fun b xs q=>by rw [z0i (z0C q hn)]; exact q
 frzs:=fun b u xs q=>by rw [z0i (z0C q hn)]; exact q
 tbls:=fun b ps q=>⟨#[],by rw [z0i (z0C q hn),q]; simp⟩
theorem Un.write (mu:Mut (H x)) (he:e=x∨H e=some (.own x)) (k:∀ b u,b≠e→h.get? b=some u→h'.get? b=some u) (heo:∃ u,h'.get? e=some u):Un fs ex H (upd H x o) h h':=by
 have hx:∀ b,H b=none→b≠x:=fun b n z=>by subst z; rw [n] at mu; exact mu
 have hb:∀ b,H b=none→b≠e:=fun b n z=>by
  subst z
  rcases he with r | r
  ·exact hx b n r
  ·rw [n] at r; cases r
 have hm:∀ b u,H b=some u→¬ Mut (some u)→b≠x:=fun b u q nm z=>by subst z; rw [q] at mu; exact nm mu
 refine ⟨fun b u q n _ _=>k b u (hb b n) q,fun b u q n _ _=>⟨u.slots,k b u (hb b n) q⟩,fun b u q n _=>by rw [z0i (hx b n)]; exact n,fun b u q _=>?_,
  fun b xs q=>by rw [z0i (hm b _ q fun z=>z)]; exact q,fun b u xs q=>by rw [z0i (hm b _ q fun z=>z)]; exact q,fun b ps q=>⟨#[],by rw [z0i (hm b _ q fun z=>z),q]; simp⟩⟩
 by_cases hbe:b=e
 ·subst hbe; exact heo
 ·exact ⟨u,k b u hbe q⟩
end
def trk (h:Heap) (H:Hp):List Addr:=(Wz h.objs.size).filter fun a=>(H a).isSome
def hidT (h:Heap) (H:Hp):Heap:=PySem.W.hideAll h (trk h H)
theorem za4 (h:Heap) (H:Hp):(hidT h H).objs.size=h.objs.size:=PySem.W.hideAll_size _ _
theorem zbz (e:h.get? b=some o) (n:H b=none):(hidT h H).get? b=some o :=
 PySem.W.hideAll_get _ e fun hm=>by
  have q:(H b).isSome=true:=(List.mem_filter.mp hm).2
  rw [n] at q; simp at q
theorem zdl (e:(hidT h H).get? b=some o):h.get? b=some o∧H b=none:=by
 have e':h.get? b=some o:=PySem.W.of_hideAll (trk h H) e
 refine ⟨e',?_⟩
 cases q:H b with
 | none=>rfl
 | some x =>
  have hm:b ∈ trk h H:=List.mem_filter.mpr ⟨Qd.mpr (We e'),by simp [q]⟩
  have z:(hidT h H).get? b=none:=PySem.W.hideAll_none (trk h H) hm
  rw [z] at e; cases e
def zdO (g h:Heap) (L:Addr):List (Addr×Obj):=(Wz h.objs.size).filterMap fun a=>if a=L∨(g.get? a).isSome=true then none else (h.get? a).map fun o=>(a,o)
def rest (g h:Heap) (L d:Addr):List (Addr×Obj):=(zdO g h L).filter fun p=>decide (p.1≠d)
structure Mod (K:W2) (mg:Str→Option Value) (base:Heap):Prop where
 kin:K.In base
 glob:base.Ns Wq mg
 blt:∃ mb,base.Ns builtinsNs mb∧∀ x:Str,x≠"__name__"→mb x=Qk x
 nolimit:base.NoLimit
structure Cx where
 prog:Wj
 w:Wp
 K:W2
 mg:Str→Option Value
 base:Heap
 A:Wn
 N:List Str
 s₀:W1
 H₀:Hp
 env:Env
 outer:List Env
 stack:List Env
 ex:List Addr
 fn:Str→Bool
 calm:Bool
 pn:List (Addr×Obj)
 xe:Value→W1→Prop
def frs (l:List Env):List Addr:=l.filterMap (·.frame)
abbrev Cx.fs (X:Cx):List Addr:=frs X.outer
def Vis (sc:Scope) (x:Str):Prop:=sc.names.lookup x=some .local∨sc.names.lookup x=some .cell∨sc.names.lookup x=some .free
def Loc (sc:Scope) (x:Str):Prop:=sc.names.lookup x=some .local∨sc.names.lookup x=some .cell
def Look (env:Env) (h:Heap) (m:Str→Option Value) (x:Str) (u:Value):Prop :=
 (env.kindOf x=some .local∧m x=some u)∨((env.kindOf x=some .cell∨env.kindOf x=some .free)∧∃ c,env.cells.lookup x=some c∧h.IsCell c (some u))
structure Cx.Ok (X:Cx):Prop where
 mod:Mod X.K X.mg X.base
 kind:X.env.scope.kind = .function
 glob:X.env.globals=Wq
 blt:X.env.builtins=builtinsNs
 above:X.s₀.heap.objs.size≤X.env.locals
 inj:∀ x y c,X.env.cells.lookup x=some c→X.env.cells.lookup y=some c→x=y
 has:∀ x,(X.env.kindOf x=some .cell∨X.env.kindOf x=some .free)→∃ c,X.env.cells.lookup x=some c
 cab:∀ x c,X.fn x=true→X.env.cells.lookup x=some c→X.s₀.heap.objs.size≤c
 hd:X.calm=true→X.A.handled=none
 frames:X.A.frames=some X.stack
 stk:X.stack=X.outer∨(X.stack=X.env :: X.outer∧X.env.frame=some X.env.locals)
 exf:∀ b ∈ X.ex,b≠X.env.locals∧∀ x c,X.env.cells.lookup x=some c→c≠b
 bs:∀ b o,X.base.get? b=some o→X.s₀.heap.get? b=some o∧X.H₀ b=none
 bsz:X.base.objs.size≤X.s₀.heap.objs.size
 noex:∀ b o,X.base.get? b=some o→b ∉ X.ex
 exfs:∀ b ∈ X.ex,b ∉ X.fs
 funs:X.s₀.heap.FunFrames X.base X.outer
 frf:∀ b ∈ X.fs,X.H₀ b=none
structure Inv (X:Cx) (pins:List (Addr×Obj)) (σ:List (Option V)) (H:Hp) (s:W1):Prop where
 ok:X.Ok
 os:s.os=X.s₀.os
 bare:AllBare s.gens
 base:Un X.fs X.ex X.H₀ H X.s₀.heap s.heap
 loc:∃ m,s.heap.Ns X.env.locals m∧∀ (i:Nat) (x:Str) (v:V),X.N[i]? = some x→σ[i]? = some (some v)→Vis X.env.scope x→∃ u,RelV v u∧Look X.env s.heap m x u
 cell:∀ x c,X.env.cells.lookup x=some c→∃ v,s.heap.IsCell c v
 free:H X.env.locals=none
 freeC:∀ x c,X.env.cells.lookup x=some c→H c=none
 pin:∀ p ∈ X.pn ++ pins,s.heap.get? p.1=some p.2∧H p.1=none∧p.1≠X.env.locals∧p.1 ∉ X.fs∧∀ v,p.2.data≠.cell v
 hok:HOk X.prog X.w H s.heap
 len:σ.length=X.N.length
section
variable {X:Cx} {pins:List (Addr×Obj)} {σ:List (Option V)} {H H':Hp} {s:W1} {h':Heap}
theorem Cx.Ok.nofr (ok:X.Ok) (e:X.base.get? b=some o):b ∉ X.fs:=fun hb=>by
 have:=(ok.funs.mem hb).1
 rw [e] at this; cases this
theorem Inv.bs (I:Inv X pins σ H s):∀ b o,X.base.get? b=some o→s.heap.get? b=some o∧H b=none:=fun b o e =>
 ⟨I.base.keep b o (I.ok.bs b o e).1 (I.ok.bs b o e).2 (I.ok.nofr e) (I.ok.noex b o e),I.base.free b o (I.ok.bs b o e).1 (I.ok.bs b o e).2 (I.ok.noex b o e)⟩
theorem Inv.bk (I:Inv X pins σ H s):∀ b o,X.base.get? b=some o→s.heap.get? b=some o:=fun b o e=>(I.bs b o e).1
theorem Inv.mod (I:Inv X pins σ H s):Mod X.K X.mg X.base:=I.ok.mod
theorem Inv.kIn (I:Inv X pins σ H s):X.K.In s.heap:=I.ok.mod.kin.keeps I.bk
theorem Inv.fr (I:Inv X pins σ H s):∃ m,Fr X.base X.env.locals s.heap m :=
 let ⟨m,hn,_⟩:=I.loc
 ⟨m,hn,I.bk,WO I.ok.bsz I.ok.above⟩
theorem Inv.lt (I:Inv X pins σ H s):X.env.locals < s.heap.objs.size:=let ⟨_,hn,_⟩:=I.loc; hn.lt
theorem Inv.sz (I:Inv X pins σ H s):X.s₀.heap.objs.size≤s.heap.objs.size:=WO I.ok.above (JJ I.lt)
theorem Inv.nofs (I:Inv X pins σ H s) (h:s.heap.objs.size≤a):a ∉ X.fs:=fun hb=>by
 obtain ⟨_,o,ho,_⟩:=I.ok.funs.mem hb
 exact absurd (Wx (We ho) (WO I.sz h)) (Qq _)
theorem Inv.cne (I:Inv X pins σ H s):∀ x c,X.env.cells.lookup x=some c→c≠X.env.locals:=fun x c e z=>by
 obtain ⟨v,o,ho,hd⟩:=I.cell x c e
 obtain ⟨m,⟨o',es,ep,ho',hd',_⟩,_⟩:=I.loc
 rw [z,ho'] at ho; cases ho; rw [hd'] at hd; cases hd
theorem Inv.funs (I:Inv X pins σ H s):s.heap.FunFrames X.base X.outer:=by
 have all:∀ (l:List Env),(∀ b ∈ frs l,b ∈ X.fs)→X.s₀.heap.FunFrames X.base l→s.heap.FunFrames X.base l:=by
  intro l
  induction l with
  | nil=>intro _ _; trivial
  | cons env r ih =>
   intro hs hl
   obtain ⟨hk,⟨L,o,hf,hn,ho,hd⟩,hr⟩:=hl
   have hL:L ∈ X.fs:=hs L (by unfold frs; rw [Jl,hf]; exact Wm)
   obtain ⟨sl,e⟩:=I.base.slot L o ho (I.ok.frf L hL) hL fun z=>I.ok.exfs L z hL
   exact ⟨hk,⟨L,_,hf,hn,e,hd⟩,ih (fun b hb=>hs b (by unfold frs; rw [Jl,hf]; exact Wc _ hb)) hr⟩
 exact all X.outer (fun _ hb=>hb) I.ok.funs
theorem Inv.stack (I:Inv X pins σ H s):s.heap.FunFrames X.base X.stack:=by
 rcases I.ok.stk with e | ⟨e,hf⟩
 ·rw [e]; exact I.funs
 ·rw [e]
  obtain ⟨m,hn,_⟩:=I.loc
  refine .cons (by rw [I.ok.kind]; decide) hf hn ?_ I.funs
  exact Jy (WO I.ok.bsz I.ok.above)
theorem Inv.stkSub (I:Inv X pins σ H s):∀ b ∈ frs X.stack,b ∈ X.env.locals :: X.fs:=fun b hb=>by
 rcases I.ok.stk with e | ⟨e,hf⟩
 ·rw [e] at hb; exact Wc _ hb
 ·rw [e] at hb
  unfold frs at hb
  rw [Jl,hf] at hb
  exact hb
theorem Inv.stkFree (I:Inv X pins σ H s):∀ b ∈ frs X.stack,H b=none:=fun b hb=>by
 rcases Wg.mp (I.stkSub b hb) with e | hb
 ·rw [e]; exact I.free
 ·obtain ⟨_,o,ho,_⟩:=I.ok.funs.mem hb
  exact I.base.free b o ho (I.ok.frf b hb) fun z=>I.ok.exfs b z hb
theorem Inv.step {g':Array GenState} {t':Nat} {d':Drawn} {ch:List Addr} (I:Inv X pins σ H s)
  (hch:∀ b ∈ ch,(b ∈ X.ex∨X.s₀.heap.objs.size≤b)∧b≠X.env.locals∧(∀ x c,X.env.cells.lookup x=some c→c≠b)∧∀ p ∈ X.pn ++ pins,p.1≠b)
  (keep:∀ b o,b≠X.env.locals→b ∉ X.fs→b ∉ ch→s.heap.get? b=some o→H b=none→h'.get? b=some o)
  (slot:∀ b o,b≠X.env.locals→b ∈ X.fs→b ∉ ch→s.heap.get? b=some o→H b=none→∃ sl,h'.get? b=some { o with slots:=sl }) (free:∀ b o,b ∉ ch→s.heap.get? b=some o→H b=none→H' b=none)
  (there:∀ b o,b ∉ ch→s.heap.get? b=some o→∃ o',h'.get? b=some o')
  (tups:∀ b xs,H b=some (.tup xs)→H' b=some (.tup xs)) (frzs:∀ b o u,H b=some (.frz o u)→H' b=some (.frz o u)) (tbls:∀ b ps,H b=some (.tbl ps)→∃ more,H' b=some (.tbl (ps ++ more)))
  (ns:∀ m,s.heap.Ns X.env.locals m→h'.Ns X.env.locals m) (hok:HOk X.prog X.w H' h') (hg:AllBare g') :
  Inv X pins σ H' { s with heap:=h',gens:=g',drawn:=d',toks:=t' }:=by
 have neL:∀ b o,X.s₀.heap.get? b=some o→b≠X.env.locals:=fun b o e=>Wo (Wx (We e) I.ok.above)
 have neC:∀ b o,X.s₀.heap.get? b=some o→b ∉ X.ex→b ∉ ch:=fun b o e hx hb=>by
  rcases (hch b hb).1 with z | z
  ·exact hx z
  ·exact absurd (Wx (We e) z) (Qq _)
 have cellK:∀ x c,X.env.cells.lookup x=some c→∀ v,s.heap.IsCell c v→h'.IsCell c v:=fun x c e v ⟨o,ho,hd⟩=>by
  have nch:c ∉ ch:=fun z=>(hch c z).2.2.1 x c e rfl
  by_cases hc:c ∈ X.fs
  ·obtain ⟨sl,q⟩:=slot c o (I.cne x c e) hc nch ho (I.freeC x c e)
   exact ⟨_,q,hd⟩
  ·exact ⟨o,keep c o (I.cne x c e) hc nch ho (I.freeC x c e),hd⟩
 refine ⟨I.ok,I.os,hg,⟨fun b o e n hb hx=>?_,fun b o e n hb hx=>?_,fun b o e n hx=>?_,fun b o e hx=>?_,fun b xs e=>tups b xs (I.base.tups b xs e),fun b o xs e=>frzs b o xs (I.base.frzs b o xs e),fun b ps e=>?_⟩,?_,fun x c e=>?_,?_,fun x c e=>?_,fun p hp=>?_,hok,I.len⟩
 ·exact keep b o (neL b o e) hb (neC b o e hx) (I.base.keep b o e n hb hx) (I.base.free b o e n hx)
 ·obtain ⟨sl,e1⟩:=I.base.slot b o e n hb hx
  obtain ⟨sl',e2⟩:=slot b _ (neL b o e) hb (neC b o e hx) e1 (I.base.free b o e n hx)
  exact ⟨sl',e2⟩
 ·obtain ⟨o',e1⟩:=I.base.there b o e hx
  exact free b o' (neC b o e hx) e1 (I.base.free b o e n hx)
 ·obtain ⟨o',e1⟩:=I.base.there b o e hx
  exact there b o' (neC b o e hx) e1
 ·obtain ⟨m1,e1⟩:=I.base.tbls b ps e
  obtain ⟨m2,e2⟩:=tbls b _ e1
  exact ⟨m1 ++ m2,by rw [e2,Array.append_assoc]⟩
 ·obtain ⟨m,hn,hl⟩:=I.loc
  refine ⟨m,ns m hn,fun i x v e1 e2 e3=>?_⟩
  obtain ⟨u,r,l⟩:=hl i x v e1 e2 e3
  refine ⟨u,r,?_⟩
  rcases l with l | ⟨k,c,e,z⟩
  ·exact .inl l
  ·exact .inr ⟨k,c,e,cellK x c e _ z⟩
 ·obtain ⟨v,z⟩:=I.cell x c e
  exact ⟨v,cellK x c e v z⟩
 ·obtain ⟨m,⟨o,_,_,ho,_⟩,_⟩:=I.loc
  exact free _ o (fun z=>(hch _ z).2.1 rfl) ho I.free
 ·obtain ⟨v,o,ho,hd⟩:=I.cell x c e
  exact free c o (fun z=>(hch c z).2.2.1 x c e rfl) ho (I.freeC x c e)
 ·obtain ⟨e,n,ne,nf,d⟩:=I.pin p hp
  have nch:p.1 ∉ ch:=fun z=>(hch p.1 z).2.2.2 p hp rfl
  exact ⟨keep p.1 p.2 ne nf nch e n,free p.1 p.2 nch e n,ne,nf,d⟩
theorem Inv.un {t':Nat} (I:Inv X pins σ H s) (u:Un X.fs [] H H' s.heap h') (hok:HOk X.prog X.w H' h'):Inv X pins σ H' { s with heap:=h',toks:=t' }:=by
 obtain ⟨m,⟨o,es,ep,ho,r⟩,_⟩:=id I.loc
 obtain ⟨sl,hL⟩:=u.any ho I.free (by simp)
 exact I.step (g':=s.gens) (d':=s.drawn) (ch:=[]) (fun _ z=>nomatch z) (fun b o _ hb _ e n=>u.keep b o e n hb (by simp)) (fun b o _ hb _ e n=>u.slot b o e n hb (by simp)) (fun b o _ e n=>u.free b o e n (by simp)) (fun b o _ e=>u.there b o e (by simp)) u.tups u.frzs u.tbls (fun m' hm=>by
  obtain ⟨o',es',ep',ho',r'⟩:=hm
  rw [ho] at ho'; cases ho'
  exact ⟨_,es',ep',hL,r'⟩) hok I.bare
theorem Inv.call {g':Array GenState} {t':Nat} {d':Drawn} {ch:List Addr} (I:Inv X pins σ H s) (u:Un (frs X.stack) ch H H' s.heap h') (hok:HOk X.prog X.w H' h') (hg:AllBare g')
  (hch:∀ b ∈ ch,(b ∈ X.ex∨X.s₀.heap.objs.size≤b)∧b≠X.env.locals∧(∀ x c,X.env.cells.lookup x=some c→c≠b)∧∀ p ∈ X.pn ++ pins,p.1≠b) :
  Inv X pins σ H' { s with heap:=h',gens:=g',drawn:=d',toks:=t' }:=by
 obtain ⟨m,⟨o,es,ep,ho,r⟩,_⟩:=id I.loc
 obtain ⟨sl,hL⟩:=u.any ho I.free fun z=>(hch _ z).2.1 rfl
 exact I.step (ch:=ch) hch (fun b o hL hb hc e n=>u.keep b o e n (fun z=>(Wg.mp (I.stkSub b z)).elim hL hb) hc) (fun b o _ _ hc e n=>u.any e n hc) (fun b o hc e n=>u.free b o e n hc) (fun b o hc e=>u.there b o e hc) u.tups u.frzs u.tbls (fun m' hm=>by
  obtain ⟨o',es',ep',ho',r'⟩:=hm
  rw [ho] at ho'; cases ho'
  exact ⟨_,es',ep',hL,r'⟩) hok hg
theorem Inv.turned {t':Nat} {it:Addr} (I:Inv X pins σ H s) (k:∀ b o,b≠it→s.heap.get? b=some o→h'.get? b=some o) (hn:H it=none) (hL:it≠X.env.locals)
  (h1:it ∈ X.ex∨X.s₀.heap.objs.size≤it) (h2:∀ x c,X.env.cells.lookup x=some c→c≠it) (h3:∀ p ∈ X.pn ++ pins,p.1≠it):Inv X pins σ H { s with heap:=h',toks:=t' }:=by
 have nit:∀ b u,H b=some u→b≠it:=fun b u e z=>by rw [z,hn] at e; cases e
 refine I.step (g':=s.gens) (d':=s.drawn) (ch:=[it]) (fun b hb=>?_) (fun b o _ _ hc e _=>k b o (fun z=>hc (by simp [z])) e) (fun b o _ _ hc e _=>⟨o.slots,k b o (fun z=>hc (by simp [z])) e⟩) (fun _ _ _ _ n=>n)
  (fun b o hc e=>⟨o,k b o (fun z=>hc (by simp [z])) e⟩) (fun _ _ e=>e) (fun _ _ _ e=>e) (fun b ps e=>⟨#[],by rw [e]; simp⟩) (fun m hm=>?_) (fun b u e=>?_) I.bare
 ·have e:b=it:=by simpa using hb
  subst e
  exact ⟨h1,hL,h2,h3⟩
 ·obtain ⟨o,es,ep,ho,r⟩:=hm
  exact ⟨o,es,ep,k _ o (Ne.symm hL) ho,r⟩
 ·refine (I.hok b u e).stay (fun c v hc q=>k c v ?_ q) (fun _ q=>q) fun _ _ q=>q
  rcases hc with z | z
  ·rw [z]; exact nit b u e
  ·exact nit c _ z
theorem Inv.tok (I:Inv X pins σ H s) (t:Nat):Inv X pins σ H { s with toks:=t }:=I.un (h':=s.heap) (t':=t) Un.refl I.hok
theorem Inv.kept (I:Inv X pins σ H s) (k:∀ b u,s.heap.get? b=some u→h'.get? b=some u):Inv X pins σ H { s with heap:=h',toks:=t' }:=I.un (Un.kept k) (I.hok.kept k)
theorem Inv.laid (I:Inv X pins σ H s) (k:∀ b u,s.heap.get? b=some u→h'.get? b=some u) (hp:s.heap.objs.size≤a) (new:ObjOk X.prog X.w (upd H a o) h' a o) :
  Inv X pins σ (upd H a o) { s with heap:=h',toks:=t' }:=I.un (Un.laid k hp (I.hok.fresh hp)) (I.hok.laid k hp new)
theorem Inv.write (I:Inv X pins σ H s) (mu:Mut (H x)) (he:e=x∨H e=some (.own x)) (k:∀ b u,b≠e→s.heap.get? b=some u→h'.get? b=some u) (heo:∃ u,h'.get? e=some u)
  (new:ObjOk X.prog X.w (upd H x o) h' x o):Inv X pins σ (upd H x o) { s with heap:=h',toks:=t' }:=I.un (Un.write mu he k heo) (I.hok.write mu he k heo new)
theorem Inv.weak (I:Inv X pins σ H s) (hl:σ'.length=σ.length) (w:∀ (i:Nat) v,σ'[i]? = some (some v)→σ[i]? = some (some v)):Inv X pins σ' H s :=
 ⟨I.ok,I.os,I.bare,I.base,let ⟨m,hn,hl'⟩:=I.loc; ⟨m,hn,fun i x v e1 e2 e3=>hl' i x v e1 (w i v e2) e3⟩,I.cell,I.free,I.freeC,I.pin,I.hok,hl.trans I.len⟩
theorem Inv.pins_of (I:Inv X pins σ H s) (h:∀ p ∈ pins',s.heap.get? p.1=some p.2∧H p.1=none∧p.1≠X.env.locals∧p.1 ∉ X.fs∧∀ v,p.2.data≠.cell v):Inv X pins' σ H s :=
 ⟨I.ok,I.os,I.bare,I.base,I.loc,I.cell,I.free,I.freeC,fun p hp=>(QG.mp hp).elim (fun z=>I.pin p (Jz _ z)) (h p),I.hok,I.len⟩
theorem z5V {N:List Str} (hN:N.Nodup) {i j:Nat} {x:Str} (a:N[i]? = some x) (b:N[j]? = some x):i=j:=by
 obtain ⟨h1,e1⟩:=Wb.mp a
 obtain ⟨h2,e2⟩:=Wb.mp b
 exact (List.getElem_inj hN).mp (e1.trans e2.symm)
theorem z4y {M:Model} {A:Wn} {E:Value→W1→Prop} {i:Nat} {x:Str} {v:V} {u:Value} {Q:Unit→W1→Prop} (I:Inv X pins σ H s) (hN:X.N.Nodup) (hi:X.N[i]? = some x) (hx:Loc X.env.scope x) (r:RelV v u)
  (h:∀ s',Inv X pins (σ.set i (some v)) H s'→(∃ a,WW a s.heap s'.heap∧(a=X.env.locals∨X.env.cells.lookup x=some a))→Q () s') (hf:X.fn x=true∨X.env.scope.names.lookup x=some .local:=by first | exact .inl rfl | exact .inr rfl | assumption):W5 M A (storeName X.env x u) Q E s:=by
 obtain ⟨m,hn,hl⟩:=id I.loc
 have hcls:(X.env.scope.kind == .class || (X.env.scope.kind == .module && X.env.locals != X.env.globals))=false:=by rw [I.ok.kind]; rfl
 have hiσ:i < σ.length:=by rw [I.len]; exact (Wb.mp hi).1
 have cne:=I.cne
 have tracked:∀ {a:Addr} {h':Heap},(∃ o,s.heap.get? a=some o∧H a=none)→WW a s.heap h'→HOk X.prog X.w H h':=fun {a h'} ha hs b ob e=>by
  obtain ⟨_,_,hfree⟩:=ha
  refine (I.hok b ob e).stay (fun c w' hc q=>(hs.2 c ?_).trans q) (fun _ q=>q) fun _ _ q=>q
  rintro rfl
  rcases hc with rfl | hc
  ·rw [hfree] at e; cases e
  ·rw [hfree] at hc; cases hc
 rcases hx with hk | hk
 ·refine wpAny_storeName_local hk hn (fun h' hn' hs=>?_) hcls
  obtain ⟨oL,_,_,hoL,_⟩:=id hn
  refine h _ ⟨I.ok,I.os,I.bare,⟨fun b o e n hb hx=>?_,fun b o e n hb hx=>?_,I.base.free,fun b o e hx=>?_,I.base.tups,I.base.frzs,I.base.tbls⟩,⟨_,hn',fun j y v' e1 e2 e3=>?_⟩,fun y c e=>?_,I.free,I.freeC,fun p hp=>?_,tracked ⟨oL,hoL,I.free⟩ hs,by simpa using I.len⟩ ⟨_,hs,.inl rfl⟩
  ·exact (hs.2 b (Wo (Wx (We e) I.ok.above))).trans (I.base.keep b o e n hb hx)
  ·obtain ⟨sl,e1⟩:=I.base.slot b o e n hb hx
   exact ⟨sl,(hs.2 b (Wo (Wx (We e) I.ok.above))).trans e1⟩
  ·obtain ⟨o',e1⟩:=I.base.there b o e hx
   exact ⟨o',(hs.2 b (Wo (Wx (We e) I.ok.above))).trans e1⟩
  ·by_cases hj:j=i
   ·subst hj
    rw [hi] at e1; cases e1
    rw [Wt hiσ] at e2
    cases e2
    exact ⟨u,r,.inl ⟨hk,by simp⟩⟩
   ·rw [W7 (Ne.symm hj)] at e2
    obtain ⟨u',r',q⟩:=hl j y v' e1 e2 e3
    refine ⟨u',r',?_⟩
    rcases q with ⟨k,e⟩ | ⟨k,c,e,z⟩
    ·refine .inl ⟨k,?_⟩
     have:y≠x:=fun e=>hj (z5V hN e1 (e ▸ hi))
     simp [this,e]
    ·exact .inr ⟨k,c,e,z.sameBut hs (cne y c e)⟩
  ·obtain ⟨w',z⟩:=I.cell y c e
   exact ⟨w',z.sameBut hs (cne y c e)⟩
  ·obtain ⟨e,n,ne,nf,d⟩:=I.pin p hp
   exact ⟨(hs.2 p.1 ne).trans e,n,ne,nf,d⟩
 ·have hfn:X.fn x=true:=by
   rcases hf with z | z
   ·exact z
   ·rw [z] at hk; cases hk
  obtain ⟨c,hc⟩:=I.ok.has x (.inl hk)
  obtain ⟨w',z⟩:=I.cell x c hc
  refine wpAny_storeName_cell I.ok.kind hk hc z (fun h' hc' hs=>?_)
  obtain ⟨oc,hoc,hocd⟩:=id z
  refine h { s with heap:=h' } ⟨I.ok,I.os,I.bare,⟨fun b o e n hb hx=>?_,fun b o e n hb hx=>?_,I.base.free,fun b o e hx=>?_,I.base.tups,I.base.frzs,I.base.tbls⟩,⟨m,hn.sameBut hs (Ne.symm (cne x c hc)),fun j y v' e1 e2 e3=>?_⟩,fun y c' e=>?_,I.free,I.freeC,fun p hp=>?_,tracked ⟨oc,hoc,I.freeC x c hc⟩ hs,by simpa using I.len⟩ ⟨c,hs,.inr hc⟩
  ·exact (hs.2 b (Wo (Wx (We e) (I.ok.cab x c hfn hc)))).trans (I.base.keep b o e n hb hx)
  ·obtain ⟨sl,e1⟩:=I.base.slot b o e n hb hx
   exact ⟨sl,(hs.2 b (Wo (Wx (We e) (I.ok.cab x c hfn hc)))).trans e1⟩
  ·obtain ⟨o',e1⟩:=I.base.there b o e hx
   exact ⟨o',(hs.2 b (Wo (Wx (We e) (I.ok.cab x c hfn hc)))).trans e1⟩
  ·by_cases hj:j=i
   ·subst hj
    rw [hi] at e1; cases e1
    rw [Wt hiσ] at e2
    cases e2
    exact ⟨u,r,.inr ⟨.inl hk,c,hc,hc'⟩⟩
   ·rw [W7 (Ne.symm hj)] at e2
    obtain ⟨u',r',q⟩:=hl j y v' e1 e2 e3
    refine ⟨u',r',?_⟩
    rcases q with q | ⟨k,c',e,z'⟩
    ·exact .inl q
    ·refine .inr ⟨k,c',e,z'.sameBut hs ?_⟩
     rintro rfl
     exact hj (z5V hN e1 (I.ok.inj _ _ _ e hc ▸ hi))
  ·by_cases hcc:c'=c
   ·subst hcc; exact ⟨_,hc'⟩
   ·obtain ⟨w2,z2⟩:=I.cell y c' e
    exact ⟨w2,z2.sameBut hs hcc⟩
  ·obtain ⟨e,n,ne,nf,d⟩:=I.pin p hp
   refine ⟨(hs.2 p.1 ?_).trans e,n,ne,nf,d⟩
   intro q
   rw [q,hoc] at e
   have q':oc=p.2:=Ww e
   exact d w' (by rw [← q']; exact hocd)
theorem z7K (I:Inv X pins σ H s) (hN:X.N.Nodup) (hi:X.N[i]? = some x) (hx:Loc X.env.scope x) (r:RelV v u)
  (h:∀ s',Inv X pins (σ.set i (some v)) H s'→Q () s') (hf:X.fn x=true∨X.env.scope.names.lookup x=some .local:=by first | exact .inl rfl | exact .inr rfl | assumption):W5 M A (storeName X.env x u) Q E s :=
 z4y I hN hi hx r (fun s' I' _=>h s' I') hf
theorem Inv.call' (I:Inv X pins σ H s) (ho:s'.os=s.os) (u:Un (frs X.stack) ch H H' s.heap s'.heap) (hok:HOk X.prog X.w H' s'.heap) (hg:AllBare s'.gens)
  (hch:∀ b ∈ ch,(b ∈ X.ex∨X.s₀.heap.objs.size≤b)∧b≠X.env.locals∧(∀ x c,X.env.cells.lookup x=some c→c≠b)∧∀ p ∈ X.pn ++ pins,p.1≠b):Inv X pins σ H' s':=by
 obtain ⟨h',g',d',t',o'⟩:=s'
 have e:o'=s.os:=ho
 subst e
 exact I.call (g':=g') (t':=t') (d':=d') u hok hg hch
end
abbrev XK:=Value→Option Addr→Hp→Prop
abbrev St:=List (Option V)
abbrev VK:=V→Hp→Prop
abbrev TE:=St→Hp→VK→Prop
abbrev TT:=St→Hp→(Bool→Hp→Prop)→Prop
abbrev TA:=St→Hp→(List V→Hp→Prop)→Prop
structure Ends where
 nx:St→Hp→Prop
 rt:VK
 bk:St→Hp→Prop:=fun _ _=>False
 ct:St→Hp→Prop:=fun _ _=>False
abbrev TS:=Ends→St→Hp→Prop
def EP (X:Cx) (pins:List (Addr×Obj)) (σ:St) (Q:VK) (u:Value) (s':W1):Prop:=∃ v H',Inv X pins σ H' s'∧RelV v u∧Q v H'
def TP (X:Cx) (pins:List (Addr×Obj)) (σ:St) (Q:Bool→Hp→Prop) (b:Bool) (s':W1):Prop:=∃ H',Inv X pins σ H' s'∧Q b H'
def AP (X:Cx) (pins:List (Addr×Obj)) (σ:St) (Q:List V→Hp→Prop) (us:List Value) (s':W1):Prop:=∃ vs H',Inv X pins σ H' s'∧Vals vs us∧Q vs H'
def SP (X:Cx) (pins:List (Addr×Obj)) (D:Ends) (f:Flow) (s':W1):Prop :=
 match f with
 | .next=>∃ σ' H',Inv X pins σ' H' s'∧D.nx σ' H'
 | .brk=>∃ σ' H',Inv X pins σ' H' s'∧D.bk σ' H'
 | .cont=>∃ σ' H',Inv X pins σ' H' s'∧D.ct σ' H'
 | .ret u=>∃ v σ' H',Inv X pins σ' H' s'∧RelV v u∧D.rt v H'
def PE (X:Cx) (e:Expr) (t:TE):Prop :=
 ∀ (pins:List (Addr×Obj)) (s:W1) (σ:St) (H:Hp) (Q:VK),Inv X pins σ H s→t σ H Q→W5 (model X.prog X.w) X.A (eval e X.env) (EP X pins σ Q) X.xe s
def PT (X:Cx) (e:Expr) (t:TT):Prop :=
 ∀ (pins:List (Addr×Obj)) (s:W1) (σ:St) (H:Hp) (Q:Bool→Hp→Prop),Inv X pins σ H s→t σ H Q→W5 (model X.prog X.w) X.A (isTrue e X.env (eval e X.env)) (TP X pins σ Q) X.xe s
def PW (X:Cx) (e:Expr) (t:TT):Prop :=
 ∀ (whole:Sem Value) (pins:List (Addr×Obj)) (s:W1) (σ:St) (H:Hp) (Q:Bool→Hp→Prop),Inv X pins σ H s→t σ H Q→W5 (model X.prog X.w) X.A (isTrue e X.env whole) (TP X pins σ Q) X.xe s
theorem PW.pt (h:PW X e t):PT X e t:=h _
def PA (X:Cx) (es:List Expr) (t:TA):Prop :=
 ∀ (pos:Pos) (pins:List (Addr×Obj)) (s:W1) (σ:St) (H:Hp) (Q:List V→Hp→Prop),Inv X pins σ H s→t σ H Q→W5 (model X.prog X.w) X.A (spliced (WZ pos (W6 es X.env))) (AP X pins σ Q) X.xe s
def PS (X:Cx) (st:Stmt) (t:TS):Prop :=
 ∀ (pins:List (Addr×Obj)) (s:W1) (σ:St) (H:Hp) (D:Ends),Inv X pins σ H s→t D σ H→W5 (model X.prog X.w) X.A (exec st X.env) (SP X pins D) X.xe s
def PSs (X:Cx) (st:List Stmt) (t:TS):Prop :=
 ∀ (pins:List (Addr×Obj)) (s:W1) (σ:St) (H:Hp) (D:Ends),Inv X pins σ H s→t D σ H→W5 (model X.prog X.w) X.A (execs st X.env) (SP X pins D) X.xe s
theorem thn (h:W5 M A t Q E s) (hQ:∀ a s,Q a s→Q' a s):W5 M A t Q' E s:=WE h hQ fun _ _ x=>x
section
variable {X:Cx}
theorem bin {a b:Expr} {ta tb:TE} (ha:PE X a ta) (hb:PE X b tb) {pins:List (Addr×Obj)} {s:W1} {σ:St} {H:Hp} {R:V→V→Hp→Prop} (I:Inv X pins σ H s) (h:ta σ H fun x H1=>tb σ H1 fun y H2=>R x y H2)
  {α:Type} {Q:α→W1→Prop} {f:Value→Value→Sem α}
  (hf:∀ v u s2 x y H2,Inv X pins σ H2 s2→RelV x v→RelV y u→R x y H2→W5 (model X.prog X.w) X.A (f v u) Q X.xe s2) :
  W5 (model X.prog X.w) X.A (eval a X.env) (fun v s₁=>W5 (model X.prog X.w) X.A (eval b X.env) (fun u s₂=>W5 (model X.prog X.w) X.A (f v u) Q X.xe s₂) X.xe s₁) X.xe s:=by
 refine thn (ha pins s σ H _ I h) fun v s1 ⟨x,H1,I1,r1,q1⟩=>?_
 refine thn (hb pins s1 σ H1 _ I1 q1) fun u s2 ⟨y,H2,I2,r2,q2⟩=>?_
 exact hf v u s2 x y H2 I2 r1 r2 q2
def tVar (i:Nat):TE:=fun σ H Q=>∃ v,σ[i]? = some (some v)∧Q v H
def tC (v:V):TE:=fun _ H Q=>Q v H
theorem zeE (hN:X.N[i]? = some x) (hv:Vis X.env.scope x) (hd:(x == ("__debug__" : Str))=false:=by decide) (hcd:(x == ("__classdict__" : Str))=false:=by decide):PE X (.Name x pos) (tVar i):=by
 intro pins s σ H Q I h
 obtain ⟨v,e,h⟩:=h
 obtain ⟨m,hn,hl⟩:=I.loc
 obtain ⟨u,r,l⟩:=hl i x v hN e hv
 have fin:EP X pins σ Q u s:=⟨v,H,I,r,h⟩
 rcases l with ⟨hk,hm⟩ | ⟨hk,c,hc,hcell⟩
 ·exact wpAny_Name (wpAny_loadName_local I.ok.kind hk hn hm fin) hd
 ·rcases hk with hk | hk
  ·exact wpAny_Name (wpAny_loadName_cell I.ok.kind hk hc hcell fin) hd
  ·exact wpAny_Name (wpAny_loadName_free I.ok.kind hk hc hcell fin hcd) hd
theorem zeL {i j pos}:PE X (.Constant (.int i) j pos) (tC (.int i)):=fun _ _ _ H _ I h=>wpAny_Constant_int ⟨.int i,H,I.tok _,⟨_,rfl⟩,h⟩
theorem zde {b j pos}:PE X (.Constant (.bool b) j pos) (tC (.bl b)):=fun _ _ _ H _ I h=>Constant_bool ⟨.bl b,H,I,rfl,h⟩
theorem zeI {j pos}:PE X (.Constant .none j pos) (tC .non):=fun _ _ _ H _ I h=>Constant_none ⟨.non,H,I,rfl,h⟩
theorem zc7 {x j pos}:PE X (.Constant (.str x) j pos) (tC (.str x)):=fun _ _ _ H _ I h=>Calls.Constant_str ⟨.str x,H,I.tok _,⟨_,rfl⟩,h⟩
def Gl (X:Cx) (x:Str):Prop:=X.env.kindOf x=some .globalImplicit
theorem z3p (I:Inv X pins σ H s) (hg:Gl X x) (hm:X.mg x=some u) (h:Q u s)
  (hd:(x == ("__debug__" : Str))=false:=by decide):W5 (model X.prog X.w) X.A (eval (.Name x pos) X.env) Q E s :=
 Calls.Name_function_global I.ok.kind hg (Calls.loadGlobal_global (by rw [I.ok.glob]; exact I.mod.glob.keeps I.bk) hm h) hd
theorem z7Y (I:Inv X pins σ H s) (hg:Gl X x) (hm:X.mg x=none) (hv:Qk x=some u) (h:Q u s)
  (hn:x≠"__name__":=by decide) (hd:(x == ("__debug__" : Str))=false:=by decide):W5 (model X.prog X.w) X.A (eval (.Name x pos) X.env) Q E s:=by
 obtain ⟨mb,h1,h2⟩:=I.mod.blt
 exact Calls.Name_function_global I.ok.kind hg (Calls.loadGlobal_builtin (by rw [I.ok.glob]; exact I.mod.glob.keeps I.bk) hm (by rw [I.ok.blt]; exact h1.keeps I.bk) ((h2 x hn).trans hv) h) hd
theorem zda (hg:Gl X x) (hm:X.mg x=some u) (r:RelV v u) (hd:(x == ("__debug__" : Str))=false:=by decide):PE X (.Name x pos) (tC v) :=
 fun _ _ _ H _ I h=>z3p I hg hm ⟨v,H,I,r,h⟩ hd
theorem z9z (hg:Gl X x) (hm:X.mg x=none) (hv:Qk x=some u) (r:RelV v u) (hn:x≠"__name__":=by decide) (hd:(x == ("__debug__" : Str))=false:=by decide):PE X (.Name x pos) (tC v) :=
 fun _ _ _ H _ I h=>z7Y I hg hm hv ⟨v,H,I,r,h⟩ hn hd
variable {a b:Expr} {ta tb:TE} {pos:Pos}
def PC (X:Cx) (op:CmpOp) (a b:Expr) (t:TE):Prop :=
 ∀ (pins:List (Addr×Obj)) (s:W1) (σ:St) (H:Hp) (Q:VK),Inv X pins σ H s→t σ H Q →
  W5 (model X.prog X.w) X.A (eval a X.env) (fun v s₁=>W5 (model X.prog X.w) X.A (eval b X.env) (fun u s₂=>W5 (model X.prog X.w) X.A (WP op v u) (EP X pins σ Q) X.xe s₂) X.xe s₁) X.xe s
theorem zbm (b:Expr) (h:op≠.In) (h2:op≠.NotIn):Qx op b=false:=by
 have e1:(op == CmpOp.In)=false:=by cases op <;> first | rfl | exact absurd rfl h
 have e2:(op == CmpOp.NotIn)=false:=by cases op <;> first | rfl | exact absurd rfl h2
 cases b <;> simp [Qx,e1,e2]
def tB (t:TE):TT:=fun σ H Q=>t σ H fun x H1=>∃ c,x = .bl c∧Q c H1
theorem pt_cmp (h:PC X op a b t) (h1:Qx op b=false:=by first | exact zbm _ (by decide) (by decide) | rfl):PT X (.Compare a [op] [b] pos) (tB t):=by
 intro pins s σ H Q I hw
 refine wpAny_isTrue_Compare1 (thn (h pins s σ H _ I hw) fun v s1 h1=>thn h1 fun u s2 h2=>thn h2 fun c s3 ⟨x,H1,I1,r1,q1⟩=>?_) h1
 obtain ⟨d,rfl,q⟩:=q1
 cases r1
 exact J3 ⟨H1,I1,q⟩
theorem zex (h:PE X e t) (he:∀ whole,isTrue e X.env whole=(do let v ← whole; standAt e.pos; holding [v] (truthy v)):=by intro _; rfl):PT X e (tB t):=by
 intro pins s σ H Q I hw
 refine isTrue_plain (thn (h pins s σ H _ I hw) fun v s1 ⟨x,H1,I1,r1,q1⟩=>?_) (he _)
 obtain ⟨d,rfl,q⟩:=q1
 cases r1
 exact J3 ⟨H1,I1,q⟩
variable {tA tB':TT} {rest:List Expr}
def tAnd (t u:TT):TT:=fun σ H Q=>t σ H fun c H1=>if c=true then u σ H1 Q else Q false H1
def tOr (t u:TT):TT:=fun σ H Q=>t σ H fun c H1=>if c=true then Q true H1 else u σ H1 Q
def tNot (t:TT):TT:=fun σ H Q=>t σ H fun c H1=>Q (!c) H1
theorem zd1 (ha:PT X a tA):PW X (.BoolOp .And [a] pos) tA:=by
 intro wh pins s σ H Q I h
 refine isTrue_and (thn (ha pins s σ H Q I h) fun c s1 e=>?_)
 cases c with
 | true=>exact isTrue_and_nil e
 | false=>exact e
theorem zeu (ha:PT X a tA):PW X (.BoolOp .Or [a] pos) tA:=by
 intro wh pins s σ H Q I h
 refine isTrue_or (thn (ha pins s σ H Q I h) fun c s1 e=>?_)
 cases c with
 | false=>exact isTrue_or_nil e
 | true=>exact e
theorem zev (ha:PT X a tA) (hb:PW X (.BoolOp .And (b :: rest) pos) tB'):PW X (.BoolOp .And (a :: b :: rest) pos) (tAnd tA tB'):=by
 intro wh pins s σ H Q I h
 refine isTrue_and (thn (ha pins s σ H _ I h) fun c s1 ⟨H1,I1,q1⟩=>?_)
 cases c with
 | true=>exact hb wh pins s1 σ H1 Q I1 q1
 | false=>exact ⟨H1,I1,q1⟩
theorem pw_or (ha:PT X a tA) (hb:PW X (.BoolOp .Or (b :: rest) pos) tB'):PW X (.BoolOp .Or (a :: b :: rest) pos) (tOr tA tB'):=by
 intro wh pins s σ H Q I h
 refine isTrue_or (thn (ha pins s σ H _ I h) fun c s1 ⟨H1,I1,q1⟩=>?_)
 cases c with
 | true=>exact ⟨H1,I1,q1⟩
 | false=>exact hb wh pins s1 σ H1 Q I1 q1
theorem zey (ha:PT X a tA):PT X (.UnaryOp .Not a pos) (tNot tA):=by
 intro pins s σ H Q I h
 exact isTrue_not (ha pins s σ H (fun c H1=>Q (!c) H1) I h)
def tAndV (ta tb:TE):TE:=fun σ H Q=>ta σ H fun x H1=>∃ c,x = .bl c∧if c=true then tb σ H1 Q else Q (.bl false) H1
def tNotV (ta:TE):TE:=fun σ H Q=>ta σ H fun x H1=>∃ c,x = .bl c∧Q (.bl (!c)) H1
theorem zeG {op} (h:PE X a t):PE X (.BoolOp op [a] pos) t:=fun pins s σ H Q I hw=>BoolOp_one (h pins s σ H Q I hw)
theorem zeN (ha:PE X a ta) (hb:PE X (.BoolOp .And (b :: rest) pos) tb):PE X (.BoolOp .And (a :: b :: rest) pos) (tAndV ta tb):=by
 intro pins s σ H Q I h
 refine BoolOp_and (thn (ha pins s σ H _ I h) fun v s1 ⟨x,H1,I1,r1,q1⟩=>?_)
 obtain ⟨c,rfl,q1⟩:=q1
 cases r1
 refine J3 ?_
 cases c with
 | true=>exact hb pins s1 σ H1 Q I1 q1
 | false=>exact ⟨.bl false,H1,I1,rfl,q1⟩
theorem zeH (ha:PE X a ta):PE X (.UnaryOp .Not a pos) (tNotV ta):=by
 intro pins s σ H Q I h
 refine UnaryOp_ (thn (ha pins s σ H _ I h) fun v s1 ⟨x,H1,I1,r1,q1⟩=>?_)
 obtain ⟨c,rfl,q1⟩:=q1
 cases r1
 exact not_of (J3 ⟨.bl (!c),H1,I1,rfl,q1⟩)
end
def SqL (K:W2) (H:Hp) (a:Addr) (xs:List V):Prop :=
 Rd H a (.lst xs) ∨
  ∃ (o:Obj) (its:Array Value) (n:Nat),K.lookup a=some o∧o.cls = .type "list"∧o.dict=none∧o.data = .seq its n∧its.size≤W8∧Vals xs its.toList
def SqT (K:W2) (H:Hp) (a:Addr) (xs:List V):Prop :=
 Rd H a (.tup xs) ∨
  ∃ (o:Obj) (its:Array Value) (n:Nat),K.lookup a=some o∧o.cls = .type "tuple"∧o.data = .seq its n∧its.size≤W8∧Vals xs its.toList
def absV:Value→Option V
 | .none=>some .non
 | .bool b=>some (.bl b)
 | .int i _=>some (.int i)
 | .str x _=>some (.str x)
 | .bytes b _=>some (.byt b)
 | .float b _=>some (.flt b)
 | .ref a=>some (.ref a)
 | .type n=>some (.ty n)
 | _=>none
theorem RelV.abs (r:RelV x u):absV u=some x:=by
 cases x with
 | non=>cases r; rfl
 | bl _=>cases r; rfl
 | int _=>obtain ⟨t,rfl⟩:=r; rfl
 | str _=>obtain ⟨t,rfl⟩:=r; rfl
 | byt _=>obtain ⟨t,rfl⟩:=r; rfl
 | flt _=>obtain ⟨t,rfl⟩:=r; rfl
 | ref _=>cases r; rfl
 | ty _=>cases r; rfl
theorem RelV.inj (r:RelV x u) (q:RelV y u):x=y:=Ww (r.abs.symm.trans q.abs)
theorem Vals.inj:∀ {xs ys:List V} {us:List Value},Vals xs us→Vals ys us→xs=ys
 | _,_,_,.nil,.nil=>rfl
 | _,_,_,.cons r t,.cons r' t'=>by rw [r.inj r',Vals.inj t t']
section
variable {X:Cx} {pins:List (Addr×Obj)} {σ:St} {H:Hp} {s:W1} {a:Addr} {xs ys:List V}
theorem SqL.of {K:W2} (h:H a=some (.lst xs)):SqL K H a xs:=.inl (.inl h)
theorem SqT.of {K:W2} (h:H a=some (.tup xs)):SqT K H a xs:=.inl (.inl h)
theorem Inv.list (I:Inv X pins σ H s) (h:SqL X.K H a xs):∃ its:List Value,Vals xs its∧PlainL s.heap a its.toArray∧xs.length≤W8:=by
 rcases h with h | ⟨o,its,n,hk,hc,hd,hs,hz,r⟩
 ·obtain ⟨z,its,n,r,e⟩:=h.ok I.hok
  exact ⟨its,r,⟨_,n,e,rfl,rfl,rfl⟩,z⟩
 ·refine ⟨its.toList,r,⟨o,n,I.kIn a o hk,hc,hd,by simpa using hs⟩,?_⟩
  have e:=r.length
  simp only [Wu] at e
  omega
theorem Inv.tuple (I:Inv X pins σ H s) (h:SqT X.K H a xs):∃ its:List Value,Vals xs its∧IsTup s.heap a its.toArray∧xs.length≤W8:=by
 rcases h with h | ⟨o,its,n,hk,hc,hs,hz,r⟩
 ·obtain ⟨z,its,r,p⟩:=h.ok I.hok
  exact ⟨its,r,p.tup,z⟩
 ·refine ⟨its.toList,r,⟨o,I.kIn a o hk,hc,n,by simpa using hs⟩,?_⟩
  have e:=r.length
  simp only [Wu] at e
  omega
theorem Inv.list_inj (I:Inv X pins σ H s) (h:SqL X.K H a xs) (h':SqL X.K H a ys):xs=ys:=by
 obtain ⟨its,r,⟨o,n,e,_,_,d⟩,_⟩:=I.list h
 obtain ⟨its',r',⟨o',n',e',_,_,d'⟩,_⟩:=I.list h'
 rw [e] at e'; cases e'
 rw [d] at d'
 injection d' with d1 _
 have:its=its':=by simpa using congrArg Array.toList d1
 subst this
 exact r.inj r'
theorem Inv.tuple_inj (I:Inv X pins σ H s) (h:SqT X.K H a xs) (h':SqT X.K H a ys):xs=ys:=by
 obtain ⟨its,r,⟨o,e,_,n,d⟩,_⟩:=I.tuple h
 obtain ⟨its',r',⟨o',e',_,n',d'⟩,_⟩:=I.tuple h'
 rw [e] at e'; cases e'
 rw [d] at d'
 injection d' with d1 _
 have:its=its':=by simpa using congrArg Array.toList d1
 subst this
 exact r.inj r'
end
abbrev Cx.wish (X:Cx) (E:Value→W1→Prop):Cx:={ X with xe:=E }
abbrev Cx.nox (X:Cx):Cx:=X.wish fun _ _=>False
theorem Cx.Ok.wish {X:Cx} (ok:X.Ok) (E:Value→W1→Prop):(X.wish E).Ok :=
 ⟨ok.mod,ok.kind,ok.glob,ok.blt,ok.above,ok.inj,ok.has,ok.cab,ok.hd,ok.frames,ok.stk,ok.exf,ok.bs,ok.bsz,ok.noex,ok.exfs,ok.funs,ok.frf⟩
theorem Cx.Ok.unwish {X:Cx} {E:Value→W1→Prop} (ok:(X.wish E).Ok):X.Ok :=
 ⟨ok.mod,ok.kind,ok.glob,ok.blt,ok.above,ok.inj,ok.has,ok.cab,ok.hd,ok.frames,ok.stk,ok.exf,ok.bs,ok.bsz,ok.noex,ok.exfs,ok.funs,ok.frf⟩
section
variable {X:Cx} {pins:List (Addr×Obj)} {σ:St} {H:Hp} {s:W1} {E:Value→W1→Prop}
theorem Inv.wish (I:Inv X pins σ H s) (E:Value→W1→Prop):Inv (X.wish E) pins σ H s:=⟨I.ok.wish E,I.os,I.bare,I.base,I.loc,I.cell,I.free,I.freeC,I.pin,I.hok,I.len⟩
theorem Inv.unwish (I:Inv (X.wish E) pins σ H s):Inv X pins σ H s:=⟨I.ok.unwish,I.os,I.bare,I.base,I.loc,I.cell,I.free,I.freeC,I.pin,I.hok,I.len⟩
theorem SP.unwish (h:SP (X.wish E) pins D f s'):SP X pins D f s':=by
 cases f with
 | next=>obtain ⟨σ',H',I,q⟩:=h; exact ⟨σ',H',I.unwish,q⟩
 | brk=>obtain ⟨σ',H',I,q⟩:=h; exact ⟨σ',H',I.unwish,q⟩
 | cont=>obtain ⟨σ',H',I,q⟩:=h; exact ⟨σ',H',I.unwish,q⟩
 | ret u=>obtain ⟨v,σ',H',I,r,q⟩:=h; exact ⟨v,σ',H',I.unwish,r,q⟩
theorem PSs.nox {st:List Stmt} {t:TS} (h:PSs X.nox st t):PSs X st t:=fun pins s σ H D I hw =>
 WE (h pins s σ H D (I.wish _) hw) (fun _ _ q=>q.unwish) fun _ _ z=>False.elim z
end
section
variable {X:Cx} {st:Stmt} {rest:List Stmt} {t u:TS} {e:Expr} {te:TE} {pos:Pos}
def tNext:TS:=fun D σ H=>D.nx σ H
def tSeq (t u:TS):TS:=fun D σ H=>t { D with nx:=u D } σ H
theorem zd4:PSs X [] tNext:=fun _ _ σ H _ I h=>wpAny_execs_nil ⟨σ,H,I,h⟩
theorem z7Q (h1:PS X st t) (h2:PSs X rest u):PSs X (st :: rest) (tSeq t u):=by
 intro pins s σ H D I h
 refine wpAny_execs_cons (thn (h1 pins s σ H { D with nx:=u D } I h) fun f s1 q=>?_)
 cases f with
 | next =>
  obtain ⟨σ',H',I',q⟩:=q
  exact h2 pins s1 σ' H' D I' q
 | ret v=>exact q
 | brk=>exact q
 | cont=>exact q
theorem z7f (h1:PS X st t):PSs X [st] t:=by
 intro pins s σ H D I h
 refine wpAny_execs_cons (thn (h1 pins s σ H D I h) fun f s1 q=>?_)
 cases f with
 | next=>exact wpAny_execs_nil q
 | ret v=>exact q
 | brk=>exact q
 | cont=>exact q
theorem Inv.quiet (I:Inv X pins σ H s):interactive X.env=false:=by simp [interactive,I.ok.kind]
def zcy (te:TE):TS:=fun D σ H=>te σ H fun _ H1=>D.nx σ H1
theorem z9u (he:PE X e te) (hs:Jn e none pos.line X.env=pure false:=by rfl):PS X (.Expr e pos) (zcy te):=by
 intro pins s σ H D I h
 exact wpAny_Expr_any (thn (he pins s σ H _ I h) fun v s1 ⟨x,H1,I1,r1,q1⟩=>⟨σ,H1,I1,q1⟩) I.quiet hs
def tRet (te:TE):TS:=fun D σ H=>te σ H D.rt
theorem zeA (he:PE X e te):PS X (.Return (some e) pos) (tRet te):=by
 intro pins s σ H D I h
 exact wpAny_Return_some (thn (he pins s σ H _ I h) fun v s1 ⟨x,H1,I1,r1,q1⟩=>⟨x,σ,H1,I1,r1,q1⟩)
def tIfS (c:TT) (t u:TS):TS:=fun D σ H=>c σ H fun b H1=>if b=true then t D σ H1 else u D σ H1
theorem ps_if (hc:PT X c tc) (ha:PSs X a t) (hb:PSs X b u):PS X (.If c a b pos) (tIfS tc t u):=by
 intro pins s σ H D I h
 refine wpAny_If (thn (hc pins s σ H _ I h) fun d s1 ⟨H1,I1,q1⟩=>?_)
 cases d with
 | true=>exact ha pins s1 σ H1 D I1 q1
 | false=>exact hb pins s1 σ H1 D I1 q1
def zdV:TS:=fun _ _ _=>False
theorem zb6:PS X st zdV:=fun _ _ _ _ _ _ h=>h.elim
end
abbrev TG:=V→St→Hp→(St→Hp→Prop)→Prop
abbrev TGs:=List V→St→Hp→(St→Hp→Prop)→Prop
def PG (X:Cx) (target:Expr) (t:TG):Prop :=
 ∀ (pins:List (Addr×Obj)) (s:W1) (σ:St) (H:Hp) (v:V) (u:Value) (Q:St→Hp→Prop),Inv X pins σ H s→RelV v u→t v σ H Q →
  W5 (model X.prog X.w) X.A (assign target X.env u) (fun _ s'=>∃ σ' H',Inv X pins σ' H' s'∧Q σ' H') X.xe s
def PGs (X:Cx) (ts:List Expr) (t:TGs):Prop :=
 ∀ (pins:List (Addr×Obj)) (s:W1) (σ:St) (H:Hp) (vs:List V) (us:List Value) (Q:St→Hp→Prop),Inv X pins σ H s→Vals vs us→t vs σ H Q →
  W5 (model X.prog X.w) X.A (assignInOrder ((Qa ts X.env).map (·.2)) us) (fun _ s'=>∃ σ' H',Inv X pins σ' H' s'∧Q σ' H') X.xe s
abbrev TSet:=V→V→V→Hp→(Hp→Prop)→Prop
def PSet (X:Cx) (t:TSet):Prop :=
 ∀ (pins:List (Addr×Obj)) (s:W1) (σ:St) (H:Hp) (o i v:V) (ov iv u:Value) (Q:Hp→Prop),Inv X pins σ H s→RelV o ov→RelV i iv→RelV v u→t o i v H Q →
  W5 (model X.prog X.w) X.A (setItem ov iv u) (fun _ s'=>∃ H',Inv X pins σ H' s'∧Q H') X.xe s
section
variable {X:Cx} {pos:Pos}
def zdA (i:Nat):TG:=fun v σ H Q=>Q (σ.set i (some v)) H
theorem z9y (hN:X.N.Nodup) (hi:X.N[i]? = some x) (hx:Loc X.env.scope x) (hf:X.fn x=true∨X.env.scope.names.lookup x=some .local:=by first | exact .inl rfl | exact .inr rfl | assumption):PG X (.Name x pos) (zdA i):=by
 intro pins s σ H v u Q I r h
 exact wpAny_assign_Name (z7K I hN hi hx r (fun s' I'=>⟨_,H,I',h⟩) hf)
def gNil:TGs:=fun vs σ H Q=>vs=[]∧Q σ H
def gCons (t:TG) (u:TGs):TGs:=fun vs σ H Q=>∃ v r,vs=v :: r∧t v σ H fun σ' H'=>u r σ' H' Q
theorem z9x:PGs X [] gNil:=by
 intro pins s σ H vs us Q I r h
 obtain ⟨e,h⟩:=h
 subst e
 cases r
 exact assignInOrder_nil ⟨σ,H,I,h⟩
theorem z7R (h1:PG X e t) (h2:PGs X es u)
  (hs:(Qa (e :: es) X.env).map (·.2)=assign e X.env :: (Qa es X.env).map (·.2):=by rfl):PGs X (e :: es) (gCons t u):=by
 intro pins s σ H vs us Q I r h
 obtain ⟨v,vr,e1,h⟩:=h
 subst e1
 cases r with
 | cons r rr =>
  rw [hs]
  refine assignInOrder_cons (thn (h1 pins s σ H _ _ _ I r h) fun _ s1 ⟨σ1,H1,I1,q1⟩=>?_)
  exact h2 pins s1 σ1 H1 _ _ Q I1 rr q1
def gTup (K:W2) (n:Nat) (t:TGs):TG:=fun v σ H Q=>∃ a xs,v = .ref a∧SqT K H a xs∧xs.length=n∧t xs σ H Q
theorem zc6 (hc:X.calm=true) (h:PGs X es t)
  (hn:(Qa es X.env).length=n:=by rfl) (hst:(Qa es X.env).findIdx? (·.1)=none:=by rfl):PG X (.Tuple es k pos) (gTup X.K n t):=by
 intro pins s σ H v u Q I r hw
 obtain ⟨a,xs,e1,hq,hl,hw⟩:=hw
 subst e1
 cases r
 obtain ⟨its,rv,ht,hz⟩:=I.tuple hq
 refine assign_Tuple_tuple (I.ok.hd hc) ht (by simp [hn,← hl,rv.length]) hst fun h' hx=>?_
 have I1:Inv X pins σ H { s with heap:=h' }:=I.kept (t':=s.toks) fun b o e=>hx b o (Wo (We e)) e
 exact h pins _ σ H xs _ Q I1 (by simpa using rv) hw
def gSub (to ti:TE) (t:TSet):TG:=fun v σ H Q=>to σ H fun o H1=>ti σ H1 fun i H2=>t o i v H2 fun H3=>Q σ H3
theorem zeC (ho:PE X o to) (hi:PE X i ti) (hs:PSet X t)
  (ha:∀ v,assign (.Subscript o i pos) X.env v=(do
   let ov ← holding [v] (eval o X.env)
   let iv ← holding [v,ov] (eval i X.env)
   standAt pos
   holding [v,ov,iv] (setItem ov iv v)
   release [v,ov,iv] []):=by intro _; rfl):PG X (.Subscript o i pos) (gSub to ti t):=by
 intro pins s σ H v u Q I r h
 rw [ha]
 refine W0 (WF (thn (ho pins s σ H _ I h) fun ov s1 ⟨x,H1,I1,r1,q1⟩=>?_))
 refine W0 (WF (thn (hi pins s1 σ H1 _ I1 q1) fun iv s2 ⟨y,H2,I2,r2,q2⟩=>?_))
 refine W0 (wpAny_standAt (W0 (WF (thn (hs pins s2 σ H2 x y v ov iv u _ I2 r1 r2 r q2) fun _ s3 ⟨H3,I3,q3⟩=>?_))))
 exact wpAny_release ⟨σ,H3,I3,q3⟩
def tAsg (te:TE) (g:TG):TS:=fun D σ H=>te σ H fun x H1=>g x σ H1 D.nx
theorem zc5 (he:PE X e te) (hg:PG X tg g) (hs:swapsWithSole [tg] e pos.line X.env=pure false:=by rfl) (hw:swappedStores [tg] e X.env=pure none:=by rfl)
  (h1:(Qa [tg] X.env).map (·.2)=[assign tg X.env]:=by rfl):PS X (.Assign [tg] e pos) (tAsg te g):=by
 intro pins s σ H D I h
 refine wpAny_Assign_stores (thn (he pins s σ H _ I h) fun v s1 ⟨x,H1,I1,r1,q1⟩=>?_) hs hw
 rw [h1]
 exact thn (hg pins s1 σ H1 x v _ I1 r1 q1) fun _ s2 q=>q
theorem zez (hN:X.N.Nodup) (hi:X.N[i]? = some x) (hx:Loc X.env.scope x) (he:PE X e te) (hs:Jn e (some (.Name x pos')) pos.line X.env=pure false:=by rfl) (hf:X.fn x=true∨X.env.scope.names.lookup x=some .local:=by first | exact .inl rfl | exact .inr rfl | assumption) :
  PS X (.Assign [.Name x pos'] e pos) (tAsg te (zdA i)):=by
 intro pins s σ H D I h
 refine wpAny_Assign_Name (thn (he pins s σ H _ I h) fun v s1 ⟨y,H1,I1,r1,q1⟩=>?_) hs
 exact z7K I1 hN hi hx r1 (fun s2 I2=>⟨_,H1,I2,q1⟩) hf
end
section
variable {X:Cx} {pos:Pos}
end
structure It where
 go:Nat→Hp→Prop
 yld:Nat→Hp→V→Hp→Prop
 stop:Nat→Hp→Prop
def FpOk (X:Cx) (pins:List (Addr×Obj)) (H:Hp) (b:Addr):Prop :=
 H b=none∧b≠X.env.locals∧b ∉ X.fs∧(b ∈ X.ex∨X.s₀.heap.objs.size≤b)∧(∀ x c,X.env.cells.lookup x=some c→c≠b)∧∀ p ∈ X.pn ++ pins,p.1≠b
theorem Inv.fpOk (I:Inv X pins σ H s) (hb:s.heap.objs.size≤b) (hn:H' b=none):FpOk X pins H' b:=by
 refine ⟨hn,QH (Wx I.lt hb),I.nofs hb,.inr (WO I.sz hb),fun x c e z=>?_,fun p hp z=>?_⟩
 ·obtain ⟨v,q⟩:=I.cell x c e
  exact absurd (Wx q.lt (by rw [z]; exact hb)) (Qq _)
 ·exact absurd (Wx (We (I.pin p hp).1) (by rw [z]; exact hb)) (Qq _)
structure Turn (P:Wj) (w:Wp) (K:W2) (tg:Expr) (J:It) (fp:List Addr) (it:Addr) (tn:Nat→Heap→Prop):Prop where
 mem:it ∈ fp
 obj:∀ i h,tn i h→∀ b ∈ fp,∃ o,h.get? b=some o∧∀ v,o.data≠.cell v
 keep:∀ i h h',tn i h→(∀ b ∈ fp,∀ o,h.get? b=some o→h'.get? b=some o)→tn i h'
 item:∀ (X:Cx),X.prog=P→X.w=w→X.K=K→X.calm=true→∀ (i:Nat) (pins:List (Addr×Obj)) (s:W1) (σ:St) (H:Hp) (E:Value→W1→Prop),Inv X pins σ H s→(∀ b ∈ fp,FpOk X pins H b)→tn i s.heap→J.go i H →
  W5 (model P w) X.A (Qr (.ref it)) (fun r s1=>∃ u,r=some u ∧
   W5 (model P w) X.A (letOwnedTupleGo tg (.ref it) u) (fun _ s2=>∃ x H',Inv X pins σ H' s2∧RelV x u∧J.yld i H x H'∧tn (i + 1) s2.heap∧∀ b ∈ fp,H' b=none) E s1) E s
 done:∀ (X:Cx),X.prog=P→X.w=w→X.K=K→X.calm=true→∀ (i:Nat) (pins:List (Addr×Obj)) (s:W1) (σ:St) (H:Hp) (E:Value→W1→Prop),Inv X pins σ H s→(∀ b ∈ fp,FpOk X pins H b)→tn i s.heap→J.stop i H →
  W5 (model P w) X.A (Qr (.ref it)) (fun r s1=>r=none∧Inv X pins σ H s1) E s
 self:∀ (A:Wn) (i:Nat) (s:W1) (Q:Value→W1→Prop) (E:Value→W1→Prop),tn i s.heap→Q (.ref it) s→W5 (model P w) A (pyIter (.ref it)) Q E s
abbrev TI:=St→Hp→(It→Hp→Prop)→Prop
def PIE (X:Cx) (pins:List (Addr×Obj)) (σ:St) (tg:Expr) (R:It→Hp→Prop) (itv:Value) (s2:W1):Prop :=
 ∃ (it:Addr) (fp:List Addr) (tn:Nat→Heap→Prop) (J:It) (H':Hp),itv = .ref it∧Inv X pins σ H' s2∧Turn X.prog X.w X.K tg J fp it tn∧tn 0 s2.heap∧(∀ b ∈ fp,FpOk X pins H' b)∧R J H'
def PI (X:Cx) (tg iter:Expr) (wi:TI):Prop :=
 ∀ (pins:List (Addr×Obj)) (s:W1) (σ:St) (H:Hp) (R:It→Hp→Prop),Inv X pins σ H s→wi σ H R →
  W5 (model X.prog X.w) X.A (eval iter X.env) (fun v s1=>W5 (model X.prog X.w) X.A (pyIter v) (PIE X pins σ tg R) X.xe s1) X.xe s
theorem zbA (ho:s.heap.get? it=some o) (hc:o.cls = .type n) (hd:o.data = .fields vs)
  (hn:["enumerate","zip","dict_itemiterator","dict_reverseitemiterator","odict_iterator","itertools.zip_longest","itertools.pairwise"].contains n=false) (hQ:Q () s):W5 M A (letOwnedTupleGo tg (.ref it) u) Q E s:=by
 unfold letOwnedTupleGo
 cases tg <;> first
  | exact W3 hQ
  | (cases u <;> first
    | exact W3 hQ
    | (refine W0 (wpAny_load ho ?_); rw [hc,hd]; show W5 M A (if (["enumerate","zip","dict_itemiterator","dict_reverseitemiterator","odict_iterator","itertools.zip_longest","itertools.pairwise"].contains n && vs[0]? == some (Q4 _))=true then _ else _) Q E s; rw [if_neg (by intro h; rw [hn,Bool.false_and] at h; cases h)]; exact W3 hQ))
def Itl (K:W2) (a:Addr):It :=
 ⟨fun i H=>∃ xs x,SqL K H a xs∧xs[i]? = some x,fun i H x H'=>H'=H∧∀ xs,SqL K H a xs→xs[i]? = some x,fun i H=>∃ xs,SqL K H a xs∧xs.length≤i⟩
def Itt (K:W2) (a:Addr):It :=
 ⟨fun i H=>∃ xs x,SqT K H a xs∧xs[i]? = some x,fun i H x H'=>H'=H∧∀ xs,SqT K H a xs→xs[i]? = some x,fun i H=>∃ xs,SqT K H a xs∧xs.length≤i⟩
def Itr (lo:Int) (n:Nat):It:=⟨fun i _=>i < n,fun i H x H'=>H'=H∧x = .int (lo + i),fun i _=>n≤i⟩
theorem z8T {P:Wj} {w:Wp} {K:W2} {tg:Expr} (a it:Addr):Turn P w K tg (Itl K a) [it] it (fun i h=>h.IsListIter it a i) where
 mem:=by simp
 obj:=fun i h st b hb=>by
  have e:b=it:=by simpa using hb
  subst e
  obtain ⟨o,e,c,d⟩:=st
  exact ⟨o,e,fun v z=>by rw [d] at z; cases z⟩
 keep:=fun i h h' st k=>st.at fun o e=>k it (by simp) o e
 item:=by
  intro X hP hw hK hc i pins s σ H E I hf st hg
  subst hP hw hK
  obtain ⟨xs,x,hq,hx⟩:=hg
  obtain ⟨its,rv,p,hz⟩:=I.list hq
  obtain ⟨u,hu,ru⟩:=rv.get hx
  obtain ⟨f0,f1,f2,f3,f4,f5⟩:=hf it (by simp)
  refine wpAny_pyNext_list_item st p.isList (x:=u) (by simpa using hu) fun h' st' sb=>?_
  have I1:Inv X pins σ H { s with heap:=h' }:=I.turned (t':=s.toks) (fun b o hb e=>(sb.2 b hb).trans e) f0 f1 f3 f4 f5
  obtain ⟨o,e,c,d⟩:=id st'
  exact ⟨u,rfl,zbA (s:={ s with heap:=h' }) e c d (by decide) ⟨x,H,I1,ru,⟨rfl,fun ys hy=>by rw [I.list_inj hy hq]; exact hx⟩,st',fun b hb=>(hf b hb).1⟩⟩
 done:=by
  intro X hP hw hK hc i pins s σ H E I hf st hg
  subst hP hw hK
  obtain ⟨xs,hq,hx⟩:=hg
  obtain ⟨its,rv,p,hz⟩:=I.list hq
  obtain ⟨f0,f1,f2,f3,f4,f5⟩:=hf it (by simp)
  have hl:=rv.length
  exact wpAny_pyNext_list_end (I.ok.hd hc) st p.isList (by simp; omega) fun h' eb=>⟨rfl,I.turned (t':=s.toks) (fun b o hb e=>eb b o hb e) f0 f1 f3 f4 f5⟩
 self:=fun _ _ _ _ _ st h=>wpAny_pyIter_listiter st h
theorem z8h {P:Wj} {w:Wp} {K:W2} {tg:Expr} (a it:Addr):Turn P w K tg (Itt K a) [it] it (fun i h=>h.IsTupleIter it a i) where
 mem:=by simp
 obj:=fun i h st b hb=>by
  have e:b=it:=by simpa using hb
  subst e
  obtain ⟨o,e,c,d⟩:=st
  exact ⟨o,e,fun v z=>by rw [d] at z; cases z⟩
 keep:=fun i h h' st k=>st.at fun o e=>k it (by simp) o e
 item:=by
  intro X hP hw hK hc i pins s σ H E I hf st hg
  subst hP hw hK
  obtain ⟨xs,x,hq,hx⟩:=hg
  obtain ⟨its,rv,p,hz⟩:=I.tuple hq
  obtain ⟨u,hu,ru⟩:=rv.get hx
  obtain ⟨f0,f1,f2,f3,f4,f5⟩:=hf it (by simp)
  refine wpAny_pyNext_tuple_item st (show s.heap.IsTuple a its.toArray from p) (x:=u) (by simpa using hu) fun h' st' sb=>?_
  have I1:Inv X pins σ H { s with heap:=h' }:=I.turned (t':=s.toks) (fun b o hb e=>(sb.2 b hb).trans e) f0 f1 f3 f4 f5
  obtain ⟨o,e,c,d⟩:=id st'
  exact ⟨u,rfl,zbA (s:={ s with heap:=h' }) e c d (by decide) ⟨x,H,I1,ru,⟨rfl,fun ys hy=>by rw [I.tuple_inj hy hq]; exact hx⟩,st',fun b hb=>(hf b hb).1⟩⟩
 done:=by
  intro X hP hw hK hc i pins s σ H E I hf st hg
  subst hP hw hK
  obtain ⟨xs,hq,hx⟩:=hg
  obtain ⟨its,rv,p,hz⟩:=I.tuple hq
  obtain ⟨f0,f1,f2,f3,f4,f5⟩:=hf it (by simp)
  have hl:=rv.length
  exact wpAny_pyNext_tuple_end (I.ok.hd hc) st (show s.heap.IsTuple a its.toArray from p) (by simp; omega) fun h' eb=>⟨rfl,I.turned (t':=s.toks) (fun b o hb e=>eb b o hb e) f0 f1 f3 f4 f5⟩
 self:=fun _ _ _ _ _ st h=>wpAny_pyIter_tupleiter st h
theorem z8i {P:Wj} {w:Wp} {K:W2} {tg:Expr} (it:Addr) (lo:Int) (n:Nat):Turn P w K tg (Itr lo n) [it] it (fun i h=>IsRangeIter h it (lo + (i:Nat) * 1) ((n:Int) - (i:Nat)) 1) where
 mem:=by simp
 obj:=fun i h st b hb=>by
  have e:b=it:=by simpa using hb
  subst e
  exact ⟨_,st,fun v z=>by
   have z':Data.fields _=Data.cell v:=z
   cases z'⟩
 keep:=fun i h h' st k=>k it (by simp) _ st
 item:=by
  intro X hP hw hK hc i pins s σ H E I hf st hg
  subst hP hw hK
  obtain ⟨f0,f1,f2,f3,f4,f5⟩:=hf it (by simp)
  have W:=Walks.range (prog:=X.prog) (w:=X.w) (I.ok.hd hc) it lo 1 n
  refine W.item i s _ _ hg st fun v h' tk hv st' kk=>?_
  obtain ⟨t,rfl⟩:=hv
  have I1:Inv X pins σ H { s with heap:=h',toks:=tk }:=I.turned (fun b o hb e=>kk b o (by simpa using hb) e) f0 f1 f3 f4 f5
  refine ⟨_,rfl,zbA (s:={ s with heap:=h',toks:=tk }) (n:="range_iterator") st' rfl rfl (by decide) ⟨.int (lo + i),H,I1,⟨t,?_⟩,⟨rfl,rfl⟩,st',fun b hb=>(hf b hb).1⟩⟩
  rw [Int.mul_one]
 done:=by
  intro X hP hw hK hc i pins s σ H E I hf st hg
  subst hP hw hK
  obtain ⟨f0,f1,f2,f3,f4,f5⟩:=hf it (by simp)
  exact wpAny_pyNext_range_end (I.ok.hd hc) st (by have:n≤i:=hg; omega) fun h' eb=>⟨rfl,I.turned (t':=s.toks) (fun b o hb e=>eb b o hb e) f0 f1 f3 f4 f5⟩
 self:=fun _ _ _ _ _ st h=>wpAny_pyIter_rangeiter st h
section
variable {X:Cx} {tg:Expr}
theorem zb0 {pins:List (Addr×Obj)} {σ:St} {H:Hp} {s:W1} {R:It→Hp→Prop} {E:Value→W1→Prop} {lo hi:Int} {t u v:Tok} {tk:Nat} (I:Inv X pins σ H s) (h1 : -(2 ^ 62)≤lo) (h2:lo < 2 ^ 62) (h3 : -(2 ^ 62)≤hi) (h4:hi < 2 ^ 62)
  (q:R (Itr lo (hi - lo).toNat) H):W5 (model X.prog X.w) X.A (pyIter (.ref s.heap.objs.size)) (PIE X pins σ tg R) E { s with heap:=s.heap.push { cls:=.type "range",data:=.fields #[.int lo t,.int hi u,.int 1 v] },toks:=tk }:=by
 refine wpAny_pyIter_range (IsRange.new ..) (small_one h1 h2 h3 h4) ?_
 have I1:Inv X pins σ H { s with heap:=s.heap.push { cls:=.type "range",data:=.fields #[.int lo t,.int hi u,.int 1 v] },toks:=tk }:=I.kept fun b o e=>W4 _ e
 refine ⟨(s.heap.push { cls:=.type "range",data:=.fields #[.int lo t,.int hi u,.int 1 v] }).objs.size,[(s.heap.push { cls:=.type "range",data:=.fields #[.int lo t,.int hi u,.int 1 v] }).objs.size],_,_,H,rfl,
  I1.kept (t':=tk) fun b o e=>W4 _ e,z8i _ lo (hi - lo).toNat,?_,fun b hb=>?_,q⟩
 ·have e1:lo + ((0:Nat):Int) * 1=lo:=by simp
  have e2:(((hi - lo).toNat:Nat):Int) - ((0:Nat):Int)=Builtin.Range.rangeSize lo hi 1:=by rw [rangeSize_one]; split <;> omega
  show IsRangeIter _ _ (lo + ((0:Nat):Int) * 1) ((((hi - lo).toNat:Nat):Int) - ((0:Nat):Int)) 1
  rw [e1,e2]
  exact Wi _ rfl
 ·have e:b=(s.heap.push { cls:=.type "range",data:=.fields #[.int lo t,.int hi u,.int 1 v] }).objs.size:=by simpa using hb
  subst e
  exact I1.fpOk (Wd _) (I1.hok.fresh (Wd _))
def iRng1 (ta:TA):TI:=fun σ H R=>ta σ H fun vs H1=>∃ j:Int,vs=[.int j]∧-(2 ^ 62)≤j∧j < 2 ^ 62∧R (Itr 0 j.toNat) H1
theorem z9w {a:Expr} {ta:TA} {p pos:Pos} (hg:Gl X "range") (hm:X.mg "range" = none) (ha:PA X [a] ta) (hs:W6 [a] X.env=[(false,eval a X.env)]:=by rfl):PI X tg (.Call (.Name "range" p) [a] [] pos) (iRng1 ta):=by
 intro pins s σ H R I h
 refine Call_ (z7Y I hg hm boot_range (PyProof.Rows.callWith_type1 (thn (ha pos pins s σ H _ I h) fun us s1 ⟨vs,H1,I1,r1,q1⟩=>?_) hs rfl))
 obtain ⟨j,e,q1,q2,q⟩:=q1
 subst e
 cases r1 with
 | cons r rr =>
  cases rr
  obtain ⟨t,rfl⟩:=r
  exact call_range_1 (zb0 I1 (by omega) (by omega) q1 q2 (by simpa using q))
def tFor (wi:TI) (g:TG) (tb:TS):TS:=fun D σ H=>wi σ H fun J H1=>∃ W:Nat→Nat→St→Hp→Prop,(∃ m,W 0 m σ H1)∧∀ i m σ H,W i m σ H →
 (J.stop i H∧D.nx σ H)∨(J.go i H∧∃ N:St→Hp→Prop,(∀ σ' H',N σ' H'→∃ m',m' < m∧W (i + 1) m' σ' H')∧∀ x H',J.yld i H x H'→g x σ H' fun σ2 H2=>tb { D with nx:=N,ct:=N,bk:=D.nx } σ2 H2)
def z6o (fp:List Addr) (h:Heap):List (Addr×Obj):=fp.filterMap fun b=>(h.get? b).map fun o=>(b,o)
theorem z39 (hb:b ∈ fp) (e:h.get? b=some o):(b,o) ∈ z6o fp h:=List.mem_filterMap.mpr ⟨b,hb,by rw [e]; rfl⟩
theorem z9I (hp:p ∈ z6o fp h):p.1 ∈ fp∧h.get? p.1=some p.2:=by
 obtain ⟨b,hb,e⟩:=List.mem_filterMap.mp hp
 cases q:h.get? b with
 | none=>rw [q] at e; cases e
 | some o =>
  rw [q] at e
  have e':(b,o)=p:=Ww e
  subst e'
  exact ⟨hb,q⟩
theorem Inv.pinned (I:Inv X pins σ H s) (hf:∀ b ∈ fp,FpOk X pins H b) (ho:∀ b ∈ fp,∃ o,s.heap.get? b=some o∧∀ v,o.data≠.cell v):Inv X (pins ++ z6o fp s.heap) σ H s :=
 I.pins_of fun p hp=>(QG.mp hp).elim (fun z=>I.pin p (WR _ z)) fun z=>by
  obtain ⟨hb,e⟩:=z9I z
  obtain ⟨f0,f1,f2,_⟩:=hf p.1 hb
  obtain ⟨o,e',d⟩:=ho p.1 hb
  rw [e] at e'; cases e'
  exact ⟨e,f0,f1,f2,d⟩
theorem Inv.unpinned (I:Inv X (pins ++ pl) σ H s):Inv X pins σ H s:=I.pins_of fun p hp=>I.pin p (WR _ (Jz _ hp))
theorem zeB (hp:PassesOwn (model X.prog X.w) X.A X.env X.xe) (hc:X.calm=true) (hi:PI X tg iter wi) (hg:PG X tg g) (hb:PSs X body tb)
  (hs:∀ x,JU iter X.env x=pure x:=by intro _; rfl):PS X (.For tg iter body [] pos) (tFor wi g tb):=by
 intro pins s σ H D I h
 refine wpAny_For (thn (hi pins s σ H _ I h) fun v s1 h1=>thn h1 fun itv s2 h2=>?_) hs
 obtain ⟨it,fp,tn,J,H2,e,I2,T,st2,f2,W,⟨m0,w0⟩,turn⟩:=h2
 subst e
 -- what stays true of the iterator's objects through the loop
 have stat:∀ {H':Hp},(∀ b ∈ fp,H' b=none)→∀ b ∈ fp,FpOk X pins H' b:=fun hn b hb=>⟨hn b hb,(f2 b hb).2⟩
 refine codeAny_forLoop_any (fun n s'=>∃ i σ' H',Inv X pins σ' H' s'∧tn i s'.heap∧(∀ b ∈ fp,H' b=none)∧W i n σ' H') ?_ m0 ⟨0,σ,H2,I2,st2,fun b hb=>(f2 b hb).1,w0⟩
 rintro n s3 ⟨i,σ3,H3,I3,st3,fr3,w3⟩
 rcases turn i n σ3 H3 w3 with ⟨stop,qn⟩ | ⟨go,N,hN,step⟩
 ·refine JE hp (thn (T.done X rfl rfl rfl hc i pins s3 σ3 H3 X.xe I3 (stat fr3) st3 stop) fun r s4 ⟨hr,I4⟩=>?_)
  subst hr
  exact wpAny_execs_nil ⟨σ3,H3,I4,qn⟩
 ·refine JE hp (thn (T.item X rfl rfl rfl hc i pins s3 σ3 H3 X.xe I3 (stat fr3) st3 go) fun r s4 ⟨u,hr,h4⟩=>?_)
  subst hr
  refine JE hp (thn h4 fun _ s5 ⟨x,H5,I5,r5,y5,st5,fr5⟩=>?_)
  have I5':=I5.pinned (stat fr5) (T.obj _ _ st5)
  refine JE hp (thn (hg _ s5 σ3 H5 x u _ I5' r5 (step x H5 y5)) fun _ s6 ⟨σ6,H6,I6,q6⟩=>?_)
  refine JE hp (thn (hb _ s6 σ6 H6 _ I6 q6) fun f s7 q7=>?_)
  have again:∀ {σ7:St} {H7:Hp},Inv X (pins ++ z6o fp s5.heap) σ7 H7 s7→N σ7 H7→∃ m,m < n∧∃ i σ' H',Inv X pins σ' H' s7∧tn i s7.heap∧(∀ b ∈ fp,H' b=none)∧W i m σ' H':=fun {σ7 H7} I7 n7=>by
   obtain ⟨m',hm,w7⟩:=hN σ7 H7 n7
   refine ⟨m',hm,i + 1,σ7,H7,I7.unpinned,T.keep _ _ _ st5 fun b hb o e=>(I7.pin (b,o) (WR _ (WR _ (z39 hb e)))).1,fun b hb=>?_,w7⟩
   obtain ⟨o,e,d⟩:=T.obj _ _ st5 b hb
   exact (I7.pin (b,o) (WR _ (WR _ (z39 hb e)))).2.1
  cases f with
  | next=>obtain ⟨σ7,H7,I7,n7⟩:=q7; exact again I7 n7
  | cont=>obtain ⟨σ7,H7,I7,n7⟩:=q7; exact again I7 n7
  | brk=>obtain ⟨σ7,H7,I7,q7⟩:=q7; exact ⟨σ7,H7,I7.unpinned,q7⟩
  | ret v=>obtain ⟨x7,σ7,H7,I7,r7,q7⟩:=q7; exact ⟨x7,σ7,H7,I7.unpinned,r7,q7⟩
end
abbrev R2:=V→V→Hp→VK→Prop
def OpR (X:Cx) (f:Value→Value→Sem Value) (r:R2):Prop :=
 ∀ (pins:List (Addr×Obj)) (s:W1) (σ:St) (H:Hp) (x y:V) (v u:Value) (Q:VK),Inv X pins σ H s→RelV x v→RelV y u→r x y H Q →
  W5 (model X.prog X.w) X.A (f v u) (EP X pins σ Q) X.xe s
def CallR (X:Cx) (f:Value) (r:List V→Hp→VK→Prop):Prop :=
 ∀ (pins:List (Addr×Obj)) (s:W1) (σ:St) (H:Hp) (xs:List V) (us:List Value) (Q:VK),Inv X pins σ H s→Vals xs us→r xs H Q →
  W5 (model X.prog X.w) X.A (call f us) (EP X pins σ Q) X.xe s
def tOp (r:R2) (ta tb:TE):TE:=fun σ H Q=>ta σ H fun x H1=>tb σ H1 fun y H2=>r x y H2 Q
def tUn (r:V→Hp→VK→Prop) (ta:TE):TE:=fun σ H Q=>ta σ H fun x H1=>r x H1 Q
def rI (C:Int→Int→Prop) (g:Int→Int→V):R2:=fun x y H Q=>∃ i j,x = .int i∧y = .int j∧C i j∧Q (g i j) H
def rI0 (g:Int→Int→V):R2:=fun x y H Q=>∃ i j,x = .int i∧y = .int j∧Q (g i j) H
section
variable {X:Cx} {a b c:Expr} {ta tb tc:TE} {pos:Pos}
theorem binT (ha:PE X a ta) (hb:PE X b tb) {pins:List (Addr×Obj)} {s:W1} {σ:St} {H:Hp} {R:V→V→Hp→Prop} (I:Inv X pins σ H s)
  (h:ta σ H fun x H1=>tb σ H1 fun y H2=>R x y H2) {Q:Value→W1→Prop} {f:Value→Value→Sem Value}
  (hf:∀ v u s2 x y H2,Inv X pins σ H2 s2→RelV x v→RelV y u→R x y H2→W5 (model X.prog X.w) X.A (f v u) Q X.xe s2) :
  W5 (model X.prog X.w) X.A (eval a X.env) (fun v s₁=>W5 (model X.prog X.w) X.A (eval b X.env) (fun u s₂=>W5 (model X.prog X.w) X.A (f v u) Q X.xe s₂) X.xe s₁) X.xe s:=by
 refine thn (ha pins s σ H _ I h) fun v s1 ⟨x,H1,I1,r1,q1⟩=>?_
 refine thn (hb pins s1 σ H1 _ I1 q1) fun u s2 ⟨y,H2,I2,r2,q2⟩=>?_
 exact hf v u s2 x y H2 I2 r1 r2 q2
theorem zd9 {op:Operator} {r:R2} (ho:OpR X (Qb op) r) (ha:PE X a ta) (hb:PE X b tb):PE X (.BinOp a op b pos) (tOp r ta tb):=by
 intro pins s σ H Q I h
 exact wpAny_BinOp (binT ha hb I h fun v u s2 x y H2 I2 rx ry q=>ho pins s2 σ H2 x y v u Q I2 rx ry q)
theorem opI {f:Value→Value→Sem Value} {C:Int→Int→Prop} {g:Int→Int→Int}
  (rule:∀ (i j:Int) (t u:Tok) (s:W1) (Q:Value→W1→Prop) (E:Value→W1→Prop),C i j→Q (.int (g i j) s.toks) { s with toks:=s.toks + 1 }→W5 (model X.prog X.w) X.A (f (.int i t) (.int j u)) Q E s) :
  OpR X f (rI C fun i j=>.int (g i j)):=by
 intro pins s σ H x y v u Q I rx ry h
 obtain ⟨i,j,rfl,rfl,hc,q⟩:=h
 obtain ⟨t,rfl⟩:=rx
 obtain ⟨t',rfl⟩:=ry
 exact rule i j t t' s _ _ hc ⟨.int (g i j),H,I.tok _,⟨_,rfl⟩,q⟩
theorem opI0 {f:Value→Value→Sem Value} {g:Int→Int→Int}
  (rule:∀ (i j:Int) (t u:Tok) (s:W1) (Q:Value→W1→Prop) (E:Value→W1→Prop),Q (.int (g i j) s.toks) { s with toks:=s.toks + 1 }→W5 (model X.prog X.w) X.A (f (.int i t) (.int j u)) Q E s) :
  OpR X f (rI0 fun i j=>.int (g i j)):=by
 intro pins s σ H x y v u Q I rx ry h
 obtain ⟨i,j,rfl,rfl,q⟩:=h
 obtain ⟨t,rfl⟩:=rx
 obtain ⟨t',rfl⟩:=ry
 exact rule i j t t' s _ _ ⟨.int (g i j),H,I.tok _,⟨_,rfl⟩,q⟩
theorem opB0 {f:Value→Value→Sem Value} {g:Int→Int→Bool}
  (rule:∀ (i j:Int) (t u:Tok) (s:W1) (Q:Value→W1→Prop) (E:Value→W1→Prop),Q (.bool (g i j)) s→W5 (model X.prog X.w) X.A (f (.int i t) (.int j u)) Q E s) :
  OpR X f (rI0 fun i j=>.bl (g i j)):=by
 intro pins s σ H x y v u Q I rx ry h
 obtain ⟨i,j,rfl,rfl,q⟩:=h
 obtain ⟨t,rfl⟩:=rx
 obtain ⟨t',rfl⟩:=ry
 exact rule i j t t' s _ _ ⟨.bl (g i j),H,I,rfl,q⟩
def CDiv (i j:Int):Prop:=0 < j∧j < 1073741824
def CPow (i j:Int):Prop:=0≤j∧j≤1000000∧i.natAbs < 2 ^ 64
def CMul (i j:Int):Prop:=(-(2 ^ 64) < i∧i < 2 ^ 64)∨(-(2 ^ 64) < j∧j < 2 ^ 64)
theorem CMul.ok (h:CMul i j):IntMulOk i j:=by
 rcases h with ⟨h1,h2⟩ | ⟨h1,h2⟩
 ·exact .of_left (intBits_le_64 h1 h2)
 ·exact .of_right (intBits_le_64 h1 h2)
theorem op_add:OpR X (Qb .Add) (rI0 fun i j=>.int (i + j)):=opI0 fun _ _ _ _ _ _ _ q=>add_int q
theorem zeO:OpR X (Qb .Sub) (rI0 fun i j=>.int (i - j)):=opI0 fun _ _ _ _ _ _ _ q=>sub_int q
theorem op_mul:OpR X (Qb .Mult) (rI CMul fun i j=>.int (i * j)):=opI fun _ _ _ _ _ _ _ hc q=>mul_int q hc.ok
theorem z9H:OpR X (Qb .FloorDiv) (rI CDiv fun i j=>.int (i / j)):=opI fun i j _ _ _ _ _ hc q=>by
 have h1:(0:Int) < j:=hc.1
 have h2:j < 1073741824:=hc.2
 exact floordiv_int (by omega) (by rw [Int.fdiv_eq_ediv_of_nonneg i (by omega)]; exact q) (.inl (PyProof.noPylong_small (by omega)))
theorem z4M:OpR X (Qb .Mod) (rI (fun _ j=>0 < j) fun i j=>.int (i % j)):=opI fun i j _ _ _ _ _ hc q=>by
 have h1:(0:Int) < j:=hc
 exact mod_int' (by omega) (by rw [Int.fmod_eq_emod_of_nonneg i (by omega)]; exact q)
theorem zeP:OpR X (Qb .Pow) (rI CPow fun i j=>.int (i ^ j.toNat)):=opI fun _ _ _ _ _ _ _ hc q=>pow_int_small hc.1 hc.2.1 hc.2.2 q
end
section
variable {X:Cx} {a b c:Expr} {ta tb tc:TE} {pos:Pos}
theorem zcj (I:Inv X pins σ H s) (q:Q (.bl k) H) (e:k=k'):EP X pins σ Q (.bool k') s:=by
 subst e
 exact ⟨.bl k,H,I,rfl,q⟩
theorem op_lt:OpR X (WP .Lt) (rI0 fun i j=>.bl (decide (i < j))):=opB0 fun _ _ _ _ _ _ _ q=>lt_int q
theorem op_gt:OpR X (WP .Gt) (rI0 fun i j=>.bl (decide (j < i))):=opB0 fun _ _ _ _ _ _ _ q=>gt_int q
theorem op_ge:OpR X (WP .GtE) (rI0 fun i j=>.bl (decide (j≤i))):=opB0 fun _ _ _ _ _ _ _ q=>ge_int q
theorem z9G:OpR X (WP .Lt) (fun x y H Q=>∃ i j,x = .str i∧y = .str j∧Q (.bl (decide (i.cps.toList < j.cps.toList))) H):=by
 intro pins s σ H x y v u Q I rx ry h
 obtain ⟨i,j,rfl,rfl,q⟩:=h
 obtain ⟨t,rfl⟩:=rx
 obtain ⟨t',rfl⟩:=ry
 exact lt_str (zcj I q rfl)
theorem z6q:OpR X (WP .NotIn) (fun x y H Q=>∃ i j,x = .str i∧y = .str j∧Q (.bl (!(!(Builtin.Str.occurrences j i 0 j.length 1).isEmpty))) H):=by
 intro pins s σ H x y v u Q I rx ry h
 obtain ⟨i,j,rfl,rfl,q⟩:=h
 obtain ⟨t,rfl⟩:=rx
 obtain ⟨t',rfl⟩:=ry
 exact notIn_str (zcj I q rfl)
theorem OpR.or (h:OpR X f r) (h':OpR X f r'):OpR X f (fun x y H Q=>r x y H Q∨r' x y H Q):=by
 intro pins s σ H x y v u Q I rx ry q
 rcases q with q | q
 ·exact h pins s σ H x y v u Q I rx ry q
 ·exact h' pins s σ H x y v u Q I rx ry q
theorem z19 (b:Expr) (h:op≠.In:=by decide) (h2:op≠.NotIn:=by decide):Qx op b=false:=by
 have e1:(op == CmpOp.In)=false:=by cases op <;> first | rfl | exact absurd rfl h
 have e2:(op == CmpOp.NotIn)=false:=by cases op <;> first | rfl | exact absurd rfl h2
 cases b <;> simp [Qx,e1,e2]
theorem zdc {op:CmpOp} {r:R2} (ho:OpR X (WP op) r) (ha:PE X a ta) (hb:PE X b tb) (hm:Qx op b=false):PE X (.Compare a [op] [b] pos) (tOp r ta tb):=by
 intro pins s σ H Q I h
 exact wpAny_Compare1 (binT ha hb I h fun v u s2 x y H2 I2 rx ry q=>ho pins s2 σ H2 x y v u Q I2 rx ry q) hm
def tTest (t:TE):TT:=fun σ H Q=>t σ H fun x H'=>∃ k,x = .bl k∧Q k H'
theorem z9q (ho:OpR X (WP op) r) (ha:PE X a ta) (hb:PE X b tb) (hm:Qx op b=false):PT X (.Compare a [op] [b] pos) (tTest (tOp r ta tb)):=by
 intro pins s σ H Q I h
 refine wpAny_isTrue_Compare1 (thn (ha pins s σ H _ I h) fun v s1 ⟨x,H1,I1,r1,q1⟩=>thn (hb pins s1 σ H1 _ I1 q1) fun u s2 ⟨y,H2,I2,r2,q2⟩ =>
  thn (ho pins s2 σ H2 x y v u _ I2 r1 r2 q2) fun c s3 ⟨z,H3,I3,r3,k,e,q3⟩=>?_) hm
 subst e
 cases r3
 exact J3 ⟨H3,I3,q3⟩
theorem z5v:(W8:Nat) < 2 ^ 63:=by rw [QE]; decide
theorem op_add_str:OpR X (Qb .Add) (fun x y H Q=>∃ i j,x = .str i∧y = .str j∧i.length + j.length≤W8∧Q (.str (i ++ j)) H):=by
 intro pins s σ H x y v u Q I rx ry h
 obtain ⟨i,j,rfl,rfl,hz,q⟩:=h
 obtain ⟨t,rfl⟩:=rx
 obtain ⟨t',rfl⟩:=ry
 exact add_str (fun t' tk=>⟨.str (i ++ j),H,I.tok _,⟨_,rfl⟩,q⟩) hz
theorem z3R (r:Vals [x] us):∃ u,us=[u]∧RelV x u:=by
 cases r with
 | cons r1 r2=>cases r2; exact ⟨_,rfl,r1⟩
theorem zcu (r:Vals [x,y] us):∃ u w',us=[u,w']∧RelV x u∧RelV y w':=by
 cases r with
 | cons r1 r2 =>
  cases r2 with
  | cons r3 r4=>cases r4; exact ⟨_,_,rfl,r1,r3⟩
theorem zaF (hc:X.calm=true):CallR X (.builtin "max") (fun xs H Q=>∃ i j,xs=[.int i,.int j]∧Q (.int (if j > i then j else i)) H):=by
 intro pins s σ H xs us Q I r h
 obtain ⟨i,j,rfl,q⟩:=h
 obtain ⟨u,w',rfl,⟨t,rfl⟩,⟨t',rfl⟩⟩:=zcu r
 refine max_two_ints (I.ok.hd hc) fun h' tk k=>⟨_,H,I.kept k,?_,q⟩
 by_cases hj:j > i
 ·rw [if_pos hj,if_pos hj]; exact ⟨_,rfl⟩
 ·rw [if_neg hj,if_neg hj]; exact ⟨_,rfl⟩
theorem zaH:CallR X (.type "int") (fun xs H Q=>(∃ i,xs=[.int i]∧Q (.int i) H)∨∃ k,xs=[.bl k]∧Q (.int (if k then 1 else 0)) H):=by
 intro pins s σ H xs us Q I r h
 rcases h with ⟨i,rfl,q⟩ | ⟨k,rfl,q⟩
 ·obtain ⟨u,rfl,t,rfl⟩:=z3R r
  exact call_int_int ⟨.int i,H,I,⟨_,rfl⟩,q⟩
 ·obtain ⟨u,rfl,r1⟩:=z3R r
  cases r1
  exact call_int_bool ⟨.int (if k then 1 else 0),H,I.tok _,⟨_,rfl⟩,q⟩
end
structure ObjM (h:Heap) (x dx C:Addr) (mA:Str→Option Value):Prop where
 obj:h.get? x=some (PySem.W.instObj C dx)
 ns:h.Ns1 dx mA
 ne:dx≠x
theorem z4T {h:Heap} {dx:Addr} {mA:Str→Option Value} (n:h.Ns1 dx mA):∃ od,h.get? dx=some od∧∀ name,PySem.W.lookIn name od=some (mA name):=by
 obtain ⟨o,es,ep,ho,hd,hk,_,hm⟩:=n
 refine ⟨o,ho,fun name=>?_⟩
 have e:=hm name
 unfold nsFind findBy at e
 rw [← Array.find?_toList] at e
 unfold PySem.W.lookIn
 rw [hd]
 dsimp only
 split
 ·rename_i y q
  rw [q] at e
  exact congrArg some e
 ·rename_i q
  rw [q] at e
  have a:es.toList.any (·.refKey)=false:=by
   rw [List.any_eq_false]
   intro y hy
   obtain ⟨z,t,hkey⟩:=hk y (Array.mem_toList_iff.mp hy)
   simp [DictEntry.refKey,hkey]
  have a':¬ es.toList.any (·.refKey)=true:=by rw [a]; exact Ql
  rw [if_neg a']
  exact congrArg some e
theorem ObjM.look (I:ObjM h x dx C mA):∃ od,PySem.W.InstAt h x (PySem.W.instObj C dx) C (some od)∧∀ name,PySem.W.lookIn name od=some (mA name) :=
 let ⟨od,ho,hl⟩:=z4T I.ns
 ⟨od,⟨I.obj,rfl,rfl,ho⟩,hl⟩
section
variable {prog:Wj} {w:Wp} {A:Wn} {E:Value→W1→Prop} {s:W1} {K:W2} {x dx C f:Addr} {mA:Str→Option Value} {name:Str} {v:Value}
end
theorem RelO.some_of (r:RelO (some v) o):∃ u,o=some u∧RelV v u:=by
 cases o with
 | none=>exact (show False from r).elim
 | some u=>exact ⟨u,rfl,r⟩
theorem RelO.none_of (r:RelO none o):o=none:=by
 cases o with
 | none=>rfl
 | some u=>exact (show False from r).elim
theorem za5 (r:RelV v u):PySem.W.handedIn u=true:=by
 cases v with
 | non=>cases (show u=Value.none from r); rfl
 | bl b=>cases (show u=Value.bool b from r); rfl
 | int i=>obtain ⟨t,e⟩:=(show ∃ t,u=Value.int i t from r); cases e; rfl
 | str x=>obtain ⟨t,e⟩:=(show ∃ t,u=Value.str x t from r); cases e; rfl
 | byt b=>obtain ⟨t,e⟩:=(show ∃ t,u=Value.bytes b t from r); cases e; rfl
 | flt b=>obtain ⟨t,e⟩:=(show ∃ t,u=Value.float b t from r); cases e; rfl
 | ref a=>cases (show u=Value.ref a from r); rfl
 | ty n=>cases (show u=Value.type n from r); rfl
section
variable {P:Wj} {w:Wp} {H H':Hp} {h h':Heap} {a C dx:Addr} {fs fs':List (Str×V)}
theorem zdx (hok:HOk P w H h) (e:H a=some (.ins C dx fs)):∃ mA,ObjM h a dx C mA∧(∀ f,RelO (fs.lookup f) (mA f))∧PySem.Within mA (fs.map (·.1))∧fs.length≤1000∧H dx=some (.own a):=by
 obtain ⟨d,z,ne,ob,mA,n,r,q⟩:=(show ObjOk P w H h a (.ins C dx fs) from hok a _ e)
 exact ⟨mA,⟨ob,n,ne⟩,r,q,z,d⟩
end
structure Cls (K:W2) (C:Addr):Prop where
 pg:PySem.W.plainGet K C Str.empty=true
 hd:J4 K C=true
 po:PySem.W.plainOver K C=true
 sa:Jv K (.ref C) "__setattr__" = some (some (.builtin "object.__setattr__"))
theorem Cls.get {K:W2} {C:Addr} (c:Cls K C) (f:Str):PySem.W.plainGet K C f=true:=c.pg
structure Con (K:W2) (C:Addr) (f:Str) (v:V) (u:Value):Prop where
 at_:Jv K (.ref C) f=some (some u)
 rel:RelV v u
 get:PySem.W.specialIn K u "__get__" = some none
 cp:PySem.W.copiedNames.contains f=false
structure Meth (K:W2) (C:Addr) (m:Str) (f:Addr):Prop where
 at_:Jv K (.ref C) m=some (some (.ref f))
 fn:PySem.W.isFn K (.ref f)=true
 kp:Qe K (.ref f)=true
section
variable {X:Cx} {pins:List (Addr×Obj)} {σ:St} {H:Hp} {s:W1} {a C dx:Addr} {fs:List (Str×V)} {f:Str} {v:V} {A:Wn} {E:Value→W1→Prop}
theorem zdN (hb:Qy e f env (eval e env)=eval e env)
  (h:W5 (model prog w) A (eval e env) (fun o s₁=>W5 (model prog w) A (getAttr o f true) Q E s₁) E s):W5 (model prog w) A (eval (.Attribute e f pos) env) Q E s :=
 Attribute_any_ h (by rw [arm_eval_Attribute,hb])
end
section
variable {X:Cx} {o e value:Expr} {f:Str} {pos pos' tpos:Pos} {ta tv:TE}
end
section
variable {X:Cx} {pins:List (Addr×Obj)} {σ:St} {H:Hp} {s:W1} {A:Wn} {E:Value→W1→Prop} {Q:Value→W1→Prop} {c:Value} {b:Bool}
inductive TyOf (K:W2) (H:Hp):V→Value→Prop where
 | non:TyOf K H .non (.type "NoneType")
 | bl (x:Bool):TyOf K H (.bl x) (.type "bool")
 | int (i:Int):TyOf K H (.int i) (.type "int")
 | str (x:Str):TyOf K H (.str x) (.type "str")
 | flt (x:UInt64):TyOf K H (.flt x) (.type "float")
 | lst {a:Addr} {xs:List V} (e:H a=some (.lst xs)):TyOf K H (.ref a) (.type "list")
 | frz {a:Addr} {o:Obj} {xs:List V} (e:H a=some (.frz o (.lst xs))):TyOf K H (.ref a) (.type "list")
 | tup {a:Addr} {xs:List V} (e:H a=some (.tup xs)):TyOf K H (.ref a) (.type "tuple")
 | dK {a:Addr} {kvs:List (Key×V)} (e:H a=some (.dK kvs)):TyOf K H (.ref a) (.type "dict")
 | dT {a:Addr} {kvs:List (List Key×V)} (e:H a=some (.dT kvs)):TyOf K H (.ref a) (.type "dict")
 | ins {a C dx:Addr} {fs:List (Str×V)} (e:H a=some (.ins C dx fs)) (cl:Cls K C) (ha:Jv K (.ref C) "__class__" = some (some (.builtin "object.__class__")))
   (hn:PySem.W.specialIn K (.builtin "object.__class__") "__get__" = some (some (.builtin "getset_descriptor.__get__"))) (htk:PySem.W.takesIn K (.builtin "object.__class__")=some true)
   (hm:PySem.W.mroIn K C (.type "object")=some true):TyOf K H (.ref a) (.ref C)
theorem z1A (I:Inv X pins σ H s) (rx:RelV x u) (ty:TyOf X.K H x t) (e:Qz X.K t c=some b) (h:∀ tk,Q (.bool b) { s with toks:=tk }) :
  W5 (model X.prog X.w) A (call (.builtin "isinstance") [u,c]) Q E s:=by
 cases ty with
 | non=>cases (show u=Value.none from rx); exact Q0 PySem.W.kitx_none I.kIn True.intro e (fun z=>nomatch z) h
 | bl y=>cases (show u=Value.bool y from rx); exact Q0 PySem.W.kitx_bool I.kIn True.intro e (fun z=>nomatch z) h
 | int i=>obtain ⟨t,q⟩:=(show ∃ t,u=Value.int i t from rx); cases q; exact Q0 PySem.W.kitx_int I.kIn True.intro e (fun z=>nomatch z) h
 | str y=>obtain ⟨t,q⟩:=(show ∃ t,u=Value.str y t from rx); cases q; exact Q0 PySem.W.kitx_str I.kIn True.intro e (fun z=>nomatch z) h
 | flt y=>obtain ⟨t,q⟩:=(show ∃ t,u=Value.float y t from rx); cases q; exact Q0 PySem.W.kitx_float I.kIn True.intro e (fun z=>nomatch z) h
 | @lst a xs ea =>
  cases (show u=Value.ref a from rx)
  obtain ⟨_,_,n,_,h1⟩:=(show ObjOk X.prog X.w H s.heap a (.lst xs) from I.hok a _ ea)
  exact Q0 PySem.W.kitx_list I.kIn ⟨_,h1,rfl⟩ e (fun z=>nomatch z) h
 | @frz a ob xs ea =>
  cases (show u=Value.ref a from rx)
  obtain ⟨_,_,_,n,_,h1⟩:=(show ObjOk X.prog X.w H s.heap a (.frz ob (.lst xs)) from I.hok a _ ea)
  exact Q0 PySem.W.kitx_list I.kIn ⟨_,h1,rfl⟩ e (fun z=>nomatch z) h
 | @tup a xs ea =>
  cases (show u=Value.ref a from rx)
  obtain ⟨_,_,_,p⟩:=(show ObjOk X.prog X.w H s.heap a (.tup xs) from I.hok a _ ea)
  obtain ⟨o,h1,h2,_⟩:=p.tup
  exact Q0 PySem.W.kitx_tuple I.kIn ⟨o,h1,h2⟩ e (fun z=>nomatch z) h
 | @dK a kvs ea =>
  cases (show u=Value.ref a from rx)
  obtain ⟨_,_,vs,_,p⟩:=(show ObjOk X.prog X.w H s.heap a (.dK kvs) from I.hok a _ ea)
  obtain ⟨o,es,ep,h1,h2,_⟩:=p
  exact Q0 PySem.W.kitx_dict I.kIn ⟨o,h1,h2.1⟩ e (fun z=>nomatch z) h
 | @dT a kvs ea =>
  cases (show u=Value.ref a from rx)
  obtain ⟨_,_,xs,_,o,es,ep,h1,h2,_⟩:=(show ObjOk X.prog X.w H s.heap a (.dT kvs) from I.hok a _ ea)
  exact Q0 PySem.W.kitx_dict I.kIn ⟨o,h1,h2.1⟩ e (fun z=>nomatch z) h
 | @ins a C dx fs ea cl ha hn htk hm =>
  cases (show u=Value.ref a from rx)
  obtain ⟨mA,O,_⟩:=zdx I.hok ea
  obtain ⟨od,J,_⟩:=O.look
  exact Q0 (PySem.W.kitx_own (cl.get _) cl.hd ha hn htk hm) I.kIn J e (fun z=>nomatch z) h
end
structure Room (k:Nat) (A:Wn):Prop where
 hd:A.handled=none
 dp:A.depth + 3 * k + 5 < recursionLimit
 un:A.units + 16 * k + 200 < Qt
theorem Room.mono (r:Room k A) (h:j≤k):Room j A:=⟨r.hd,by have:=r.dp; omega,by have:=r.un; omega⟩
theorem Room.deeper (r:Room (k + 1) A) (env:Env):Room k (A.deeper env) :=
 ⟨r.hd,by have:=r.dp; show A.depth + 1 + 3 * k + 5 < _; omega,by have:=r.un; show A.units + 3 + 16 * k + 200 < _; omega⟩
theorem z8w {A:Wn} {C:Addr} {us:List Value} {kw:List (Str×Value)}:(A.under (.builtin "type.__call__" ⟨.ref C :: us,kw⟩)).depth=A.depth + 1:=by
 first | rfl | simp [Around.under,Code.weight,Code.isCreation,Code.isGuard,Code.isCaller,Code.frames,Code.isFrame,guardIds]
theorem z8v {A:Wn} {C:Addr} {us:List Value} {kw:List (Str×Value)}:(A.under (.builtin "type.__call__" ⟨.ref C :: us,kw⟩)).units=A.units + 1:=by
 first | rfl | simp [Around.under,Code.cUnits,Code.frames,Code.isFrame]
theorem Room.make (r:Room (k + 1) A) (C:Addr) (us:List Value) (kw:List (Str×Value)):Room k (A.under (.builtin "type.__call__" ⟨.ref C :: us,kw⟩)) :=
 ⟨r.hd,by have:=r.dp; rw [z8w]; omega,by have:=r.un; rw [z8v]; omega⟩
theorem Room.depth (r:Room k A):A.depth < recursionLimit:=by have:=r.dp; omega
def tNil:TA:=fun _ H Q=>Q [] H
def zdX (ta:TE) (tr:TA):TA:=fun σ H Q=>ta σ H fun x H1=>tr σ H1 fun xs H2=>Q (x :: xs) H2
section
variable {X:Cx} {e:Expr} {es:List Expr} {te:TE} {t:TA} {pos:Pos}
theorem z1K:PA X [] tNil:=fun _ _ _ _ H Q I h=>Calls.spliced_nil ⟨[],H,I,.nil,h⟩
theorem z0V (ha:PE X e te) (hr:PA X es t) (hs:W6 (e :: es) X.env=(false,eval e X.env) :: W6 es X.env:=by rfl):PA X (e :: es) (zdX te t):=by
 intro pos pins s σ H Q I h
 rw [hs]
 show W5 _ _ (spliced ((false,eval e X.env) :: WZ pos (W6 es X.env))) _ _ s
 refine Calls.spliced_cons (thn (ha pins s σ H _ I h) fun u s1 ⟨x,H1,I1,r1,q1⟩=>?_)
 exact thn (hr pos pins s1 σ H1 _ I1 q1) fun us s2 ⟨xs,H2,I2,r2,q2⟩=>⟨x :: xs,H2,I2,.cons r1 r2,q2⟩
def tTup (t:TA):TE:=fun σ H Q=>t σ H fun xs H1=>xs.length≤W8∧∀ p,H1 p=none→Q (.ref p) (upd H1 p (.tup xs))
def tLst (t:TA):TE:=fun σ H Q=>t σ H fun xs H1=>xs.length≤W8∧∀ p,H1 p=none→Q (.ref p) (upd H1 p (.lst xs))
theorem zeF {x1} (h:PA X es t):PE X (.Tuple es x1 pos) (tTup t):=by
 intro pins s σ H Q I hq
 refine wpAny_Tuple_spliced (thn (h pos pins s σ H _ I hq) fun us s1 ⟨xs,H1,I1,r,z,q⟩=>⟨by rw [← r.length]; exact z,?_⟩)
 have hf:H1 s1.heap.objs.size=none:=I1.hok.fresh (Wd _)
 refine ⟨.ref s1.heap.objs.size,upd H1 s1.heap.objs.size (.tup xs),I1.laid (t':=s1.toks) (fun b u e=>W4 _ e) (Wd _) ?_,rfl,q _ hf⟩
 exact ⟨z,us,r,⟨_,Wi _ rfl⟩⟩
theorem zeJ (h:PA X es t):PE X (.List es pos) (tLst t):=by
 intro pins s σ H Q I hq
 refine wpAny_List_spliced (thn (h pos pins s σ H _ I hq) fun us s1 ⟨xs,H1,I1,r,z,q⟩=>⟨by rw [← r.length]; exact z,?_⟩)
 have hf:H1 s1.heap.objs.size=none:=I1.hok.fresh (Wd _)
 refine ⟨.ref s1.heap.objs.size,upd H1 s1.heap.objs.size (.lst xs),I1.laid (t':=s1.toks) (fun b u e=>W4 _ e) (Wd _) ?_,rfl,q _ hf⟩
 exact ⟨z,us,0,r,Wi _ rfl⟩
end
abbrev Sp:=List V→Hp→VK→XK→Prop
abbrev CXT:=List Env→Hp→W1→XK→Value→W1→Prop
structure Env0 (P:Wj) (w:Wp) (K:W2) (mg:Str→Option Value) (base:Heap) (A:Wn) (outer:List Env) (s:W1) (H:Hp):Prop where
 frames:A.frames=some outer
 mod:Mod K mg base
 bs:∀ b o,base.get? b=some o→s.heap.get? b=some o∧H b=none
 bsz:base.objs.size≤s.heap.objs.size
 funs:s.heap.FunFrames base outer
 frf:∀ b ∈ frs outer,H b=none
 hok:HOk P w H s.heap
 bare:AllBare s.gens
def CE (outer:List Env) (P:Wj) (w:Wp) (H:Hp) (s:W1) (Q:VK) (u:Value) (s':W1):Prop :=
 ∃ v H',s'.os=s.os∧AllBare s'.gens∧Un (frs outer) [] H H' s.heap s'.heap∧HOk P w H' s'.heap∧RelV v u∧Q v H'
def CR (CX:CXT) (outer:List Env) (P:Wj) (w:Wp) (H:Hp) (s:W1) (Q:VK) (E:XK) (r:Result) (s':W1):Prop :=
 match r with
 | .ok (.ret u)=>CE outer P w H s Q u s'
 | .ok _=>False
 | .error e=>CX outer H s E e s'
structure FnOk (P:Wj) (w:Wp) (K:W2) (mg:Str→Option Value) (base:Heap) (CX:CXT) (k:Nat) (f:Addr) (fd:WM) (ps:List Str) (sp:Sp):Prop where
 len:∀ vs H Q E,sp vs H Q E→vs.length=ps.length
 run:∀ (A:Wn) (outer:List Env) (s:W1) (H:Hp) (args:Args) (us:List Value) (vs:List V) (Q:VK) (E:XK),Room k A→Env0 P w K mg base A outer s H→BindsTo s fd args (ps.zip us)→Vals vs us→sp vs H Q E →
  Q9 (model P w) A (.call (.ref f) args) (CR CX outer P w H s Q E) s
theorem Env0.make {P:Wj} {w:Wp} {K:W2} {mg:Str→Option Value} {base:Heap} {A:Wn} {outer:List Env} {s:W1} {H:Hp} (e:Env0 P w K mg base A outer s H) (C:Addr) (us:List Value) (kw:List (Str×Value)) :
  Env0 P w K mg base (A.under (.builtin "type.__call__" ⟨.ref C :: us,kw⟩)) outer s H:=⟨by first | exact e.frames | (simpa [Around.under,Code.envs,Code.isFrame,pushEnvs] using e.frames),e.mod,e.bs,e.bsz,e.funs,e.frf,e.hok,e.bare⟩
section
variable {X:Cx} {pins:List (Addr×Obj)} {σ:St} {H:Hp} {s s':W1}
theorem Inv.env0 (I:Inv X pins σ H s):Env0 X.prog X.w X.K X.mg X.base X.A X.stack s H :=
 ⟨I.ok.frames,I.ok.mod,I.bs,WO I.ok.bsz I.sz,I.stack,I.stkFree,I.hok,I.bare⟩
theorem Inv.after (I:Inv X pins σ H s) (h:CE X.stack X.prog X.w H s Q u s'):EP X pins σ Q u s':=by
 obtain ⟨v,H',os,bare,un,hok,r,q⟩:=h
 obtain ⟨hh,g,d,t,os'⟩:=s'
 obtain rfl:os'=s.os:=os
 exact ⟨v,H',I.call (h':=hh) (g':=g) (d':=d) (t':=t) (ch:=[]) un hok bare (fun b z=>absurd z (by simp)),r,q⟩
end
def zcz (sp:Sp) (dvs:List V) (E:XK) (t:TA):TE:=fun σ H Q=>t σ H fun vs H1=>sp (vs ++ dvs) H1 Q E
def Binds (K:W2) (fd:WM) (ps:List Str) (ds:List Value):Prop :=
 ∀ (s:W1) (us:List Value),K.In s.heap→(us ++ ds).length=ps.length→BindsTo s fd ⟨us,[]⟩ (ps.zip (us ++ ds))
theorem Binds.all {K:W2} {fd:WM} {ps:List Str} (h:∀ us:List Value,us.length=ps.length→bindArgs fd ⟨us,[]⟩=pure (ps.zip us)):Binds K fd ps []:=fun s us _ hl=>by
 rw [WN] at hl ⊢
 exact .of_eq (h us hl)
def zaN (CX:CXT) (X:Cx) (E:XK):Prop:=∀ (pins:List (Addr×Obj)) (σ:St) (H:Hp) (s:W1) (e:Value) (s':W1),Inv X pins σ H s→CX X.stack H s E e s'→X.xe e s'
section
variable {X:Cx} {CX:CXT} {k:Nat} {f C:Addr} {fd:WM} {ps:List Str} {sp:Sp} {dvs:List V} {ds:List Value} {E:XK} {x m:Str} {p pos apos:Pos} {e o:Expr} {es:List Expr} {ta:TE} {t:TA}
theorem zea (F:FnOk X.prog X.w X.K X.mg X.base CX k f fd ps sp) (hr:Room k X.A) (hb:Binds X.K fd ps ds) (hd:Vals dvs ds) (hx:zaN CX X E)
  (I:Inv X pins σ H s) (r:Vals vs us) (h:sp (vs ++ dvs) H Q E):W5 (model X.prog X.w) X.A (call (.ref f) us) (EP X pins σ Q) X.xe s:=by
 have r2:Vals (vs ++ dvs) (us ++ ds):=r.append hd
 have hl:(us ++ ds).length=ps.length:=by rw [← r2.length]; exact F.len _ _ _ _ h
 refine wpAny_call (QT (F.run X.A X.stack s H ⟨us,[]⟩ (us ++ ds) (vs ++ dvs) Q E hr I.env0 (hb s us I.kIn hl) r2 h) fun r s' hq=>?_)
 cases r with
 | error e=>exact hx pins σ H s e s' I hq
 | ok fl =>
  cases fl with
  | ret u=>exact I.after hq
  | next=>exact False.elim hq
  | brk=>exact False.elim hq
  | cont=>exact False.elim hq
theorem zdd (F:FnOk X.prog X.w X.K X.mg X.base CX k f fd ps sp) (hr:Room k X.A) (hg:Gl X x) (hm:X.mg x=some (.ref f)) (hk:Qe X.K (.ref f)=true) (hb:Binds X.K fd ps ds) (hd:Vals dvs ds) (hx:zaN CX X E)
  (ha:PA X (e :: es) t) (hdb:(x == ("__debug__" : Str))=false:=by decide) (he:W6 (e :: es) X.env=(false,eval e X.env) :: W6 es X.env:=by rfl) (hpl:(WZ pos (W6 es X.env)).any (·.1)=false:=by rfl) :
  PE X (.Call (.Name x p) (e :: es) [] pos) (zcz sp dvs E t):=by
 intro pins s σ H Q I h
 refine QU (z3p I hg hm ?_ hdb)
 refine PySem.W.callWith_K (h₀:=X.base) I.ok.mod.kin hk (thn (ha pos pins s σ H _ I h) fun us s1 ⟨vs,H1,I1,r,q⟩=>⟨I1.kIn,?_⟩) he hpl
 exact zea F hr hb hd hx I1 r q
structure Mk (K:W2) (C f:Addr):Prop where
 makes:PySem.W.makesIn K C=true
 init:Jv K (.ref C) "__init__" = some (some (.ref f))
 fn:PySem.W.isFn K (.ref f)=true
 kp:Qe K (.ref C)=true
end
section
variable {X:Cx} {CX:CXT} {k:Nat} {f C:Addr} {fd:WM} {ps ks:List Str} {sp:Sp} {E:XK} {x m:Str} {p pos apos kpos:Pos} {e o:Expr} {es:List Expr} {kws:List Keyword} {te ta:TE} {t tk:TA} {nm:Option Str}
structure KBinds (K:W2) (fd:WM) (ps ks:List Str) (g:List Value→List Value→List Value) (gV:List V→List V→List V):Prop where
 to:∀ (s:W1) (us ws:List Value),K.In s.heap→(g us ws).length=ps.length→BindsTo s fd ⟨us,ks.zip ws⟩ (ps.zip (g us ws))
 rel:∀ {vs:List V} {us:List Value} {zs:List V} {ws:List Value},Vals vs us→Vals zs ws→Vals (gV vs zs) (g us ws)
variable {g:List Value→List Value→List Value} {gV:List V→List V→List V}
end
structure FnScope (N P:List Str) (sc:Scope):Prop where
 kind:sc.kind = .function
 co:sc.isCoroutine=false
 gen:sc.isGenerator=false
 nd:N.Nodup
 pre:N.take P.length=P
 par:∀ x ∈ P,sc.names.lookup x=some .local∨sc.names.lookup x=some .cell
 nofree:∀ y ∈ sc.names,y.2≠.free
theorem z6Y {kindOf:Str→Option NameKind} {x:Str}:∀ {binds:List (Str×Value)} {m:Str→Option Value},(∀ v,(x,v) ∉ binds)→bindL kindOf binds m x=m x
 | [],_,_=>rfl
 | (n,v) :: r,m,h=>by
  unfold bindL
  rw [z6Y fun w hw=>h w (Wc _ hw)]
  split
  ·have:x≠n:=by rintro rfl; exact h v Wm
   simp [this]
  ·rfl
theorem z70 {kindOf:Str→Option NameKind} {x:Str}:∀ {binds:List (Str×Value)} {m:Str→Option Value},(∀ v,(x,v) ∉ binds)→bindC kindOf binds m x=m x
 | [],_,_=>rfl
 | (n,v) :: r,m,h=>by
  unfold bindC
  rw [z70 fun w hw=>h w (Wc _ hw)]
  split
  ·rfl
  ·have:x≠n:=by rintro rfl; exact h v Wm
   simp [this]
theorem z6Z {kindOf:Str→Option NameKind} {x:Str} {v:Value}:∀ {P:List Str} {vs:List Value} {i:Nat} {m:Str→Option Value},P.Nodup→P[i]? = some x→vs[i]? = some v→kindOf x=some .local →
  bindL kindOf (P.zip vs) m x=some v
 | [],_,_,_,_,h,_,_=>by simp at h
 | _ :: _,[],_,_,_,_,h,_=>by simp at h
 | p :: P,w :: vs,0,m,nd,h1,h2,hk=>by
  simp at h1 h2; subst h1; subst h2
  show bindL kindOf ((p,w) :: P.zip vs) m p=_
  unfold bindL
  rw [z6Y fun v hv=>(WD.mp nd).1 (U0 hv).1,if_pos hk]
  simp
 | p :: P,w :: vs,i + 1,m,nd,h1,h2,hk=>by
  show bindL kindOf ((p,w) :: P.zip vs) m x=_
  unfold bindL
  exact z6Z (i:=i) (WD.mp nd).2 (by simpa using h1) (by simpa using h2) hk
theorem z71 {kindOf:Str→Option NameKind} {x:Str} {v:Value}:∀ {P:List Str} {vs:List Value} {i:Nat} {m:Str→Option Value},P.Nodup→P[i]? = some x→vs[i]? = some v→kindOf x≠some .local →
  bindC kindOf (P.zip vs) m x=some v
 | [],_,_,_,_,h,_,_=>by simp at h
 | _ :: _,[],_,_,_,_,h,_=>by simp at h
 | p :: P,w :: vs,0,m,nd,h1,h2,hk=>by
  simp at h1 h2; subst h1; subst h2
  show bindC kindOf ((p,w) :: P.zip vs) m p=_
  unfold bindC
  rw [z70 fun v hv=>(WD.mp nd).1 (U0 hv).1,if_neg hk]
  simp
 | p :: P,w :: vs,i + 1,m,nd,h1,h2,hk=>by
  show bindC kindOf ((p,w) :: P.zip vs) m x=_
  unfold bindC
  exact z71 (i:=i) (WD.mp nd).2 (by simpa using h1) (by simpa using h2) hk
def start (N:List Str) (vs:List V):St:=vs.map some ++ Wa (N.length - vs.length) none
def cxOf (CX:CXT) (P:Wj) (w:Wp) (K:W2) (mg:Str→Option Value) (base:Heap) (N:List Str) (qual:Str) (scope:Scope) (f:Addr) (cd:Value) (A:Wn) (outer:List Env) (s:W1) (H:Hp) (E:XK):Cx where
 prog:=P
 w:=w
 K:=K
 mg:=mg
 base:=base
 A:=A.deeper (J5 qual scope s.heap.objs.size f cd)
 N:=N
 s₀:=s
 H₀:=H
 env:=J5 qual scope s.heap.objs.size f cd
 outer:=outer
 stack:=J5 qual scope s.heap.objs.size f cd :: outer
 ex:=[]
 calm:=true
 fn:=fun _=>true
 pn:=[]
 xe:=fun e s'=>W5 (model P w) (A.deeper (J5 qual scope s.heap.objs.size f cd)) (leaving (J5 qual scope s.heap.objs.size f cd) e) (fun _ s''=>CX outer H s E e s'') (fun e' s''=>CX outer H s E e' s'') s'
theorem z8d {sc:Scope} {n:Nat} {x:Str} (h:sc.names.lookup x=some .cell):∃ c,(Qu n sc.names []).lookup x=some c:=by
 have q:=Jr sc.names n [] (.inl h)
 exact QI.mp q
theorem z6J {CX:CXT} {P:Wj} {w:Wp} {K:W2} {mg:Str→Option Value} {base:Heap} {N ps:List Str} {qual:Str} {scope:Scope} {f:Addr} {cd:Value} {A:Wn} {outer:List Env} {s s1:W1} {H:Hp} {E:XK} {us:List Value} {vs:List V}
  (S:FnScope N ps scope) (hd:A.handled=none) (e0:Env0 P w K mg base A outer s H) (hl:vs.length=ps.length) (r:Vals vs us)
  (x:InCallC s s.heap.objs.size (bindL (J5 qual scope s.heap.objs.size f cd).kindOf (ps.zip us) fun _=>none) (Qu (s.heap.objs.size + 1) scope.names []) (bindC (J5 qual scope s.heap.objs.size f cd).kindOf (ps.zip us) fun _=>none) s1) :
  Inv (cxOf CX P w K mg base N qual scope f cd A outer s H E) [] (start N vs) H s1:=by
 have hpl:ps.length≤N.length:=by have:=congrArg QF S.pre; rw [Jh] at this; omega
 obtain ⟨h1,tk,rfl,hk⟩:=x.done
 have noA:∀ b:Addr,b ∉ (cxOf CX P w K mg base N qual scope f cd A outer s H E).ex:=fun b z=>absurd (show b ∈ ([]:List Addr) from z) (by simp)
 refine ⟨⟨e0.mod,S.kind,rfl,rfl,Wd _,fun y z c h1 h2=>?_,fun y hy=>?_,fun y c _ h=>?_,fun _=>hd,Around.frames_deeper e0.frames,.inr ⟨rfl,rfl⟩,fun b z=>absurd z (noA b),e0.bs,e0.bsz,fun b _ _=>noA b,fun b z=>absurd z (noA b),e0.funs,e0.frf⟩,
  rfl,e0.bare,Un.kept hk,⟨_,x.toInCall.ns,fun i y v h1 h2 h3=>?_⟩,fun y c h=>⟨_,x.cell y c h⟩,e0.hok.fresh (Wd _),fun y c h=>?_,fun p hp=>absurd (show p ∈ ([]:List (Addr×Obj)) from hp) (by simp),e0.hok.kept hk,?_⟩
 ·exact name_of_addr x.apart (Wy h1) (Wy h2)
 ·have hy:scope.names.lookup y=some .cell∨scope.names.lookup y=some .free:=hy
  rcases hy with hy | hy
  ·exact z8d hy
  ·exact absurd rfl (S.nofree _ (Wy hy))
 ·exact JJ (x.above y c (Wy h))
 ·have hi:i < vs.length:=by
   unfold start at h2
   by_cases hi:i < vs.length
   ·exact hi
   ·rw [List.getElem?_append_right (by simpa using hi)] at h2
    rw [List.getElem?_replicate] at h2
    split at h2 <;> cases h2
  have ha:vs[i]? = some v:=by
   unfold start at h2
   rw [List.getElem?_append_left (by simpa using hi),WK] at h2
   cases e:vs[i]? with
   | none=>rw [e] at h2; cases h2
   | some a=>rw [e] at h2; cases h2; rfl
  obtain ⟨u,hu,rv⟩:=r.get ha
  have hp:ps[i]? = some y:=by
   rw [← S.pre,List.getElem?_take_of_lt (by omega)]; exact h1
  have ndP:ps.Nodup:=by rw [← S.pre]; exact S.nd.sublist (List.take_sublist _ _)
  refine ⟨u,rv,?_⟩
  rcases S.par y (WI hp) with k | k
  ·exact .inl ⟨k,z6Z ndP hp hu k⟩
  ·obtain ⟨c,e⟩:=z8d (n:=s.heap.objs.size + 1) k
   refine .inr ⟨.inl k,c,e,?_⟩
   have q:=x.cell y c e
   rw [z71 ndP hp hu (by show scope.names.lookup y≠_; rw [k]; decide)] at q
   exact q
 ·exact e0.hok.fresh (JJ (x.above y c (Wy h)))
 ·unfold start
  show _=N.length
  rw [Q1,Ws,List.length_replicate]
  omega
theorem zfo {CX:CXT} {P:Wj} {w:Wp} {K:W2} {mg:Str→Option Value} {base:Heap} {k:Nat} {f:Addr} {name qual:Str} {params:Arguments} {body:List Stmt} {scope:Scope} {dV kV doc pm cdv ct oc:Value} {an od:Option Addr}
  {osl:Array (Option Value)} {N ps:List Str} {sp:Sp} (lk:K.lookup f=some ⟨oc,od,.func (Qm name qual params body scope dV kV doc pm an cdv ct),osl⟩) (hcd:PySem.W.codeIn K cdv qual=true) (S:FnScope N ps scope)
  (len:∀ vs H Q E,sp vs H Q E→vs.length=ps.length)
  (hbody:∀ (A:Wn) (outer:List Env) (s:W1) (H:Hp) (vs:List V) (Q:VK) (E:XK),Room k (A.deeper (J5 qual scope s.heap.objs.size f cdv))→sp vs H Q E →
   ∃ t,PSs (cxOf CX P w K mg base N qual scope f cdv A outer s H E) body t∧t { nx:=fun _ H'=>Q .non H',rt:=Q } (start N vs) H) :
  FnOk P w K mg base CX (k + 1) f (Qm name qual params body scope dV kV doc pm an cdv ct) ps sp:=by
 refine ⟨len,fun A outer s H args us vs Q E hr e0 hb r hsp=>?_⟩
 have hl:=len _ _ _ _ hsp
 have KX:K.In s.heap:=e0.mod.kin.keeps fun b o e=>(e0.bs b o e).1
 have lim:s.heap.NoLimit:=e0.mod.nolimit.keeps fun b o e=>(e0.bs b o e).1
 have hkind:∀ y ∈ ps.zip us,scope.names.lookup y.1=some .local∨(scope.names.lookup y.1=some .cell∧((Qu (s.heap.objs.size + 1) scope.names []).lookup y.1).isSome=true):=fun ⟨n,v⟩ hy=>by
  rcases S.par n (U0 hy).1 with q | q
  ·exact .inl q
  ·exact .inr ⟨q,Jr _ _ _ (.inl q)⟩
 refine codeAny_call_function hr.depth (KX _ _ lk) rfl S.co S.gen rfl (PySem.W.codeRec_of KX hcd) (hb _ _ _ _ ?_)
 refine wpAny_newFunctionEnv_cells S.kind hkind fun env he s1 x=>?_
 subst he
 refine ⟨lim.keeps x.toInCall.keep,codeAny_func ?_⟩
 obtain ⟨t,ht,hq⟩:=hbody A outer s H vs Q E (hr.deeper _) hsp
 have I:Inv (cxOf CX P w K mg base N qual scope f cdv A outer s H E) [] (start N vs) H s1:=z6J S hr.hd e0 hl r x
 refine WE (ht [] s1 (start N vs) H _ I hq) (fun fl s' hs=>?_) fun e s' hs=>hs
 have fin:∀ {σ':St} {H':Hp} {v:V} {u:Value},Inv (cxOf CX P w K mg base N qual scope f cdv A outer s H E) [] σ' H' s'→RelV v u→Q v H'→CE outer P w H s Q u s' :=
  fun {σ' H' v u} J rv q=>⟨v,H',J.os,J.bare,J.base,J.hok,rv,q⟩
 cases fl with
 | ret u =>
  obtain ⟨v,σ',H',J,rv,q⟩:=hs
  exact fin J rv q
 | next =>
  obtain ⟨σ',H',J,q⟩:=hs
  exact fin (v:=V.non) (u:=Value.none) J rfl q
 | brk =>
  obtain ⟨_,_,_,q⟩:=hs
  exact False.elim q
 | cont =>
  obtain ⟨_,_,_,q⟩:=hs
  exact False.elim q
section
variable {X:Cx} {x:Str} {p pos:Pos} {e:Expr} {es:List Expr} {t:TA} {id T:String} {r:List V→Hp→VK→Prop}
def tCB (r:List V→Hp→VK→Prop) (t:TA):TE:=fun σ H Q=>t σ H fun vs H1=>r vs H1 Q
theorem z37 (hc:CallR X (.builtin id) r) (hg:Gl X x) (hm:X.mg x=none) (hv:Qk x=some (.builtin id)) (ha:PA X (e :: es) t) (hn:x≠"__name__":=by decide) (hdb:(x == ("__debug__" : Str))=false:=by decide)
  (he:W6 (e :: es) X.env=(false,eval e X.env) :: W6 es X.env:=by rfl) (hpl:(WZ pos (W6 es X.env)).any (·.1)=false:=by rfl):PE X (.Call (.Name x p) (e :: es) [] pos) (tCB r t):=by
 intro pins s σ H Q I h
 refine QU (z7Y I hg hm hv ?_ hn hdb)
 exact PyProof.Rows.callWith_builtin1 (thn (ha pos pins s σ H _ I h) fun us s1 ⟨vs,H1,I1,r1,q1⟩=>hc pins s1 σ H1 vs us Q I1 r1 q1) he hpl
theorem z4J (hc:CallR X (.type T) r) (hg:Gl X x) (hm:X.mg x=none) (hv:Qk x=some (.type T)) (ha:PA X (e :: es) t) (hn:x≠"__name__":=by decide) (hdb:(x == ("__debug__" : Str))=false:=by decide)
  (he:W6 (e :: es) X.env=(false,eval e X.env) :: W6 es X.env:=by rfl) (hpl:(WZ pos (W6 es X.env)).any (·.1)=false:=by rfl):PE X (.Call (.Name x p) (e :: es) [] pos) (tCB r t):=by
 intro pins s σ H Q I h
 refine QU (z7Y I hg hm hv ?_ hn hdb)
 exact PyProof.Rows.callWith_type1 (thn (ha pos pins s σ H _ I h) fun us s1 ⟨vs,H1,I1,r1,q1⟩=>hc pins s1 σ H1 vs us Q I1 r1 q1) he hpl
end
end L2
namespace HT
open PySem PyProof.Rows
section
open PySem.SeqAt
open PySem.AutoSeq1 (wpAny_loadPart')
open PySem.MeetsSeq PySem.MeetsSeq2 PySem.MeetsSeq3
end
section
variable {prog:Wj} {w:Wp} {A:Wn} {E:Value→W1→Prop} {s:W1}
theorem cat_tup (ht:IsTup s.heap t vs.toArray) (hb:IsTup s.heap b ws.toArray) (hv:vs≠[])
  (h1:ws=[]→Q (.ref t) s) (h2:ws≠[]→Q (.ref s.heap.objs.size) { s with heap:=s.heap.push { cls:=.type "tuple",data:=.seq (vs ++ ws).toArray } })
  (hsz:vs.length + ws.length≤W8):W5 (model prog w) A (Qb .Add (.ref t) (.ref b)) Q E s:=by
 obtain ⟨⟨cls,dd,data,sl⟩,ho,hc,n,hd⟩:=id ht
 obtain ⟨⟨cls2,dd2,data2,sl2⟩,ho2,hc2,n2,hd2⟩:=id hb
 simp only at hc hd hc2 hd2
 subst hc hd hc2 hd2
 have e:vs.toArray ++ ws.toArray=(vs ++ ws).toArray:=by simp
 by_cases hw:ws=[]
 ·exact concat_meets ⟨_,ho,rfl⟩ ⟨_,ho2,rfl⟩ noFill_tuple_add seq_tuple_add PySem.F.slot_tuple_add PySem.F.entry_tuple_add (PySem.F.args_tuple_add_2 _ _)
   (tuple_addW1 t b vs.toArray ws.toArray n n2 dd dd2 sl sl2 (by simpa using hv) (by simp [hw])) ⟨ho,ho2,h1 hw⟩
 ·refine concat_meets ⟨_,ho,rfl⟩ ⟨_,ho2,rfl⟩ noFill_tuple_add seq_tuple_add PySem.F.slot_tuple_add PySem.F.entry_tuple_add (PySem.F.args_tuple_add_2 _ _)
   (tuple_addW2 t b vs.toArray ws.toArray n n2 dd dd2 sl sl2 (by simpa using hv) (by simpa using hw) (by rw [Wl,Wl]; exact hsz)) ⟨ho,ho2,?_⟩
  rw [e]
  exact h2 hw
def sIx (n d:Nat):Option Int→Nat
 | none=>d
 | some v=>if v < 0 then (v + (n:Int)).toNat else min v.toNat n
theorem sIx_le (n d:Nat) (hd:d≤n) (o:Option Int):sIx n d o≤n:=by
 cases o with
 | none=>exact hd
 | some v =>
  show (if v < 0 then (v + (n:Int)).toNat else min v.toNat n)≤n
  by_cases hv:v < 0
  ·rw [if_pos hv]; omega
  ·rw [if_neg hv]; exact Nat.min_le_right _ _
theorem zaB (v:Int) (n d:Nat):(if v < 0 then max (v + (n:Int)) 0 else min v (n:Int))=((sIx n d (some v):Nat):Int):=by
 show (if v < 0 then max (v + (n:Int)) 0 else min v (n:Int))=(((if v < 0 then (v + (n:Int)).toNat else min v.toNat n):Nat):Int)
 by_cases hv:v < 0
 ·simp only [if_pos hv]; omega
 ·simp only [if_neg hv]; omega
theorem z8O (lo hi:Option Int) (n:Nat):Builtin.Slice.sliceAdjust lo hi 1 (n:Int)=(((sIx n 0 lo:Nat):Int),((sIx n n hi:Nat):Int)):=by
 have h1:¬ ((1:Int) < 0):=by omega
 unfold Builtin.Slice.sliceAdjust
 simp only [h1,if_false]
 refine Prod.ext ?_ ?_
 ·cases lo with
  | none=>rfl
  | some v=>exact zaB v n 0
 ·cases hi with
  | none=>rfl
  | some v=>exact zaB v n n
theorem z8p (i j:Nat):Jc (i:Int) (j:Int) 1=j - i:=by
 unfold Jc
 have h1:(1:Int) > 0:=by omega
 simp only [h1,if_true,Int.ediv_one]
 split <;> omega
theorem z5r (p:IsPart v o) (h:Q o s):W5 (model prog w) A (Builtin.Slice.slicePartIndex v) Q E s:=by
 cases p with
 | none=>exact slicePart_none h
 | int i t=>exact slicePart_int h
theorem sliceApplied_gen {sl:Addr} {vl vu:Value} {lo hi:Option Int} {n:Nat} {Q:Int×Int×Nat→W1→Prop} (hs:s.heap.IsSliceOf sl vl vu .none) (pl:IsPart vl lo) (pu:IsPart vu hi)
  (h:Q (((sIx n 0 lo:Nat):Int),1,sIx n n hi - sIx n 0 lo) s):W5 (model prog w) A (Builtin.Slice.sliceApplied (.ref sl) (pure (n:Int))) Q E s:=by
 obtain ⟨os,hos,hcs,hds⟩:=id hs
 unfold Builtin.Slice.sliceApplied Builtin.Slice.sliceFields
 refine W0 (W0 (Jf hos hds (x:=vl) rfl (W0 (Jf hos hds (x:=vu) rfl (W0 (Jf hos hds (x:=.none) rfl (W3 ?_)))))))
 refine W0 (slicePart_none ?_)
 show W5 _ _ (if ((1:Int) == 0)=true then _ else _) _ _ s
 rw [if_neg (by decide)]
 refine W0 (z5r pl (W0 (z5r pu (W0 (W3 ?_)))))
 show W5 _ _ (match Builtin.Slice.sliceAdjust lo hi 1 (n:Int) with | (lo,hi)=>pure (lo,(1:Int),Jc lo hi 1)) _ _ s
 rw [z8O lo hi n]
 show W5 _ _ (pure (((sIx n 0 lo:Nat):Int),(1:Int),Jc ((sIx n 0 lo:Nat):Int) ((sIx n n hi:Nat):Int) 1)) _ _ s
 rw [z8p]
 exact W3 h
theorem zb7 (xs:Array Value) (i k:Nat):((Wz k).filterMap fun (m:Nat)=>xs[((i:Int) + (m:Int) * 1).toNat]?).toArray=((xs.toList.drop i).take k).toArray:=by
 have e:(fun (m:Nat)=>xs[((i:Int) + (m:Int) * 1).toNat]?)=fun m=>xs[i + m]?:=by
  funext m
  have:((i:Int) + (m:Int) * 1).toNat=i + m:=by omega
  rw [this]
 rw [e]
 have:=pick_run xs i k
 rw [List.filterMap_map] at this
 have e2:((fun x=>xs[x]?) ∘ fun x=>i + x)=fun m=>xs[i + m]?:=rfl
 rw [e2] at this
 rw [this]
theorem getItem_tuple_cut {t sl:Addr} {items:Array Value} {vl vu:Value} {lo hi:Option Int} {Q:Value→W1→Prop} (ht:IsTup s.heap t items) (hs:s.heap.IsSliceOf sl vl vu .none) (pl:IsPart vl lo) (pu:IsPart vu hi)
  (hw:¬ (sIx items.size 0 lo=0∧sIx items.size items.size hi=items.size))
  (h:Q (.ref s.heap.objs.size) { s with heap:=s.heap.push { cls:=.type "tuple",data:=.seq ((items.toList.drop (sIx items.size 0 lo)).take (sIx items.size items.size hi - sIx items.size 0 lo)).toArray } })
  (hsz:items.size≤W8):W5 (model prog w) A (getItem (.ref t) (.ref sl)) Q E s:=by
 have htake:sizeOk (.seq ((items.toList.drop (sIx items.size 0 lo)).take (sIx items.size items.size hi - sIx items.size 0 lo)).toArray):=by
  show ((items.toList.drop (sIx items.size 0 lo)).take (sIx items.size items.size hi - sIx items.size 0 lo)).toArray.size≤W8
  rw [Wl,Jh,List.length_drop,Wu]
  omega
 have hj:sIx items.size items.size hi≤items.size:=sIx_le _ _ (Wd _) hi
 obtain ⟨os,hos,hcs,hds⟩:=id hs
 have hTs:s.TypeIs (.ref sl) "slice":=⟨os,hos,hcs⟩
 unfold getItem
 try with_reducible refine WF ?_
 first | refine W0 (W3 ?_) | skip
 refine W0 (wpAny_sequenceKey ht.typeIs (by decide) ?_)
 refine W0 (Qs (name:=Str.ofString "__getitem__") ht.typeIs QD
  (Qn QD ht.typeIs entry_tuple_getitem ?_ (args_tuple_getitem _ _)))
 show W5 _ _ (Builtin.Tuple.tupleItemsOf (.ref t) >>= _) _ _ s
 refine W0 (tupleItemsOf_ ht ?_)
 refine W0 (QJ hTs ?_)
 rw [if_pos (by decide)]
 refine W0 (sliceApplied_gen hs pl pu ?_)
 have hno:¬ ((((sIx items.size 0 lo:Nat):Int) == 0 && (1:Int) == 1 && (sIx items.size items.size hi - sIx items.size 0 lo) == items.size)=true):=by
  intro q
  rw [Wh,Wh] at q
  have q1:((sIx items.size 0 lo:Nat):Int)=0:=eq_of_beq q.1.1
  have q2:sIx items.size items.size hi - sIx items.size 0 lo=items.size:=eq_of_beq q.2
  exact hw ⟨by omega,by omega⟩
 show W5 _ _ (if (((sIx items.size 0 lo:Nat):Int) == 0 && (1:Int) == 1 && (sIx items.size items.size hi - sIx items.size 0 lo) == items.size)=true then _ else _) _ _ s
 rw [if_neg hno,zb7]
 first
  | exact W0 (m:=Ji _) (WT (W3 ⟨_,rfl,W3 h⟩) htake)
  | exact W0 (m:=Ji _) (WT (W0 (W3 (W3 ⟨_,rfl,W3 h⟩))) htake)
  | exact W0 (W0 (m:=Ji _) (WT (W3 (W3 ⟨_,rfl,W3 h⟩)) htake))
  | exact W0 (W0 (m:=Ji _) (WT (W3 ⟨_,rfl,W3 h⟩) htake))
end
end HT
namespace L2
open PySem PySem.Spec PyProof.Rows
abbrev TO:=St→Hp→(Option Int→Hp→Prop)→Prop
def PO (X:Cx) (e:Option Expr) (t:TO):Prop :=
 ∀ (pins:List (Addr×Obj)) (s:W1) (σ:St) (H:Hp) (Q:Option Int→Hp→Prop),Inv X pins σ H s→t σ H Q →
  W5 (model X.prog X.w) X.A (evalPart e X.env) (fun u s'=>∃ o H',Inv X pins σ H' s'∧IsPart u o∧Q o H') X.xe s
def zcx:TO:=fun _ H Q=>Q none H
def tPart (t:TE):TO:=fun σ H Q=>t σ H fun x H1=>∃ i,x = .int i∧Q (some i) H1
section
variable {X:Cx} {e:Expr} {te:TE} {lo hi:Option Expr} {tl th:TO} {pos p2:Pos}
theorem zd7:PO X none zcx:=by
 intro pins s σ H Q I h
 rw [evalPart_none]
 exact W3 ⟨none,H,I,.none,h⟩
theorem zd6 (h:PE X e te):PO X (some e) (tPart te):=by
 intro pins s σ H Q I hw
 rw [evalPart_some]
 refine thn (h pins s σ H _ I hw) fun u s1 ⟨x,H1,I1,r1,q1⟩=>?_
 obtain ⟨i,rfl,q⟩:=q1
 obtain ⟨t,rfl⟩:=r1
 exact ⟨some i,H1,I1,.int i t,q⟩
def SlR (X:Cx) (r:V→Option Int→Option Int→Hp→VK→Prop):Prop :=
 ∀ (pins:List (Addr×Obj)) (s:W1) (σ:St) (H:Hp) (x:V) (v vl vu:Value) (lo hi:Option Int) (sl:Addr) (Q:VK),Inv X pins σ H s→RelV x v→s.heap.IsSliceOf sl vl vu .none→IsPart vl lo→IsPart vu hi→r x lo hi H Q →
  ∃ T id,typeLookup (.type T) "__getitem__" = pure (some (.builtin id))∧s.TypeIs v T∧W5 (model X.prog X.w) X.A (getItem v (.ref sl)) (EP X pins σ Q) X.xe s
theorem SlR.or (h:SlR X r) (h':SlR X r'):SlR X (fun x lo hi H Q=>r x lo hi H Q∨r' x lo hi H Q):=by
 intro pins s σ H x v vl vu lo hi sl Q I rx hs pl pu q
 rcases q with q | q
 ·exact h pins s σ H x v vl vu lo hi sl Q I rx hs pl pu q
 ·exact h' pins s σ H x v vl vu lo hi sl Q I rx hs pl pu q
def tSl (r:V→Option Int→Option Int→Hp→VK→Prop) (te:TE) (tl th:TO):TE:=fun σ H Q=>te σ H fun x H1=>tl σ H1 fun l H2=>th σ H2 fun u H3=>r x l u H3 Q
theorem z7S (hr:SlR X r) (he:PE X e te) (hl:PO X lo tl) (hu:PO X hi th):PE X (.Subscript e (.Slice lo hi none p2) pos) (tSl r te tl th):=by
 intro pins s σ H Q I h
 refine Subscript_ (thn (he pins s σ H _ I h) fun v s1 ⟨x,H1,I1,r1,q1⟩=>?_)
 refine wpAny_Slice (thn (hl pins s1 σ H1 _ I1 q1) fun vl s2 ⟨l,H2,I2,pl,q2⟩=>thn (hu pins s2 σ H2 _ I2 q2) fun vu s3 ⟨u,H3,I3,pu,q3⟩=>?_)
 rw [evalPart_none]
 refine W3 ?_
 have I4:Inv X pins σ H3 { s3 with heap:=s3.heap.push { cls:=.type "slice",data:=.fields #[vl,vu,.none] } }:=I3.kept (t':=s3.toks) fun b ob q=>W4 _ q
 obtain ⟨T,id,hT,ht,hg⟩:=hr pins { s3 with heap:=s3.heap.push { cls:=.type "slice",data:=.fields #[vl,vu,.none] } } σ H3 x v vl vu l u s3.heap.objs.size Q I4 r1 (Heap.IsSliceOf.new ..) pl pu q3
 show W5 (model X.prog X.w) X.A (subscriptTail e (.Slice lo hi none p2) v (.ref s3.heap.objs.size)) (EP X pins σ Q) X.xe { s3 with heap:=s3.heap.push { cls:=.type "slice",data:=.fields #[vl,vu,.none] } }
 exact tail_any (ops:=[.ref s3.heap.objs.size,v]) ht hT hg (by with_unfolding_all rfl)
def cutV (xs:List V) (lo hi:Option Int):List V:=(xs.drop (HT.sIx xs.length 0 lo)).take (HT.sIx xs.length xs.length hi - HT.sIx xs.length 0 lo)
theorem z55 (xs:List V) (lo hi:Option Int):(cutV xs lo hi).length≤xs.length:=by
 unfold cutV
 rw [Jh,List.length_drop]
 omega
def rSlT (K:W2):V→Option Int→Option Int→Hp→VK→Prop:=fun x lo hi H Q=>∃ a xs,x = .ref a∧SqT K H a xs ∧
 ¬ (HT.sIx xs.length 0 lo=0∧HT.sIx xs.length xs.length hi=xs.length)∧∀ p,H p=none→Q (.ref p) (upd H p (.tup (cutV xs lo hi)))
theorem ze4:SlR X (rSlT X.K):=by
 intro pins s σ H x v vl vu lo hi sl Q I rx hs pl pu h
 obtain ⟨a,xs,rfl,hx,hw,q⟩:=h
 cases rx
 obtain ⟨its,r,ht,hz⟩:=I.tuple hx
 have hlen:its.toArray.size=xs.length:=by rw [Wl]; exact r.length.symm
 refine ⟨"tuple",_,PyProof.Rows.slot_tuple_getitem.lookup,ht.typeIs,?_⟩
 refine HT.getItem_tuple_cut ht hs pl pu (by rw [hlen]; exact hw) ?_ (by rw [hlen]; exact hz)
 rw [hlen]
 refine ⟨.ref s.heap.objs.size,_,I.laid (t':=s.toks) (o:=.tup (cutV xs lo hi)) (fun b ob q=>W4 _ q) (Wd _) ?_,rfl,q _ (I.hok.fresh (Wd _))⟩
 exact ⟨WO (z55 xs lo hi) hz,_,(r.drop (HT.sIx xs.length 0 lo)).take (HT.sIx xs.length xs.length hi - HT.sIx xs.length 0 lo),IsTupN.new _ _⟩
def zen (K:W2):R2:=fun x y H Q=>∃ a b xs ys,x = .ref a∧y = .ref b∧SqT K H a xs∧SqT K H b ys∧xs≠[]∧xs.length + ys.length≤W8 ∧
 (ys=[]→Q (.ref a) H)∧(ys≠[]→∀ p,H p=none→Q (.ref p) (upd H p (.tup (xs ++ ys))))
theorem Vals.nil_iff (r:Vals xs us):us=[] ↔ xs=[]:=by
 cases r with
 | nil=>simp
 | cons _ _=>simp
theorem op_catT:OpR X (Qb .Add) (zen X.K):=by
 intro pins s σ H x y v u Q I rx ry h
 obtain ⟨a,b,xs,ys,rfl,rfl,ha,hb,hx,hz,q1,q2⟩:=h
 cases rx
 cases ry
 obtain ⟨its,r1,p1,_⟩:=I.tuple ha
 obtain ⟨its2,r2,p2,_⟩:=I.tuple hb
 refine HT.cat_tup p1 p2 (fun z=>hx (r1.nil_iff.mp z)) (fun z=>⟨.ref a,H,I,rfl,q1 (r2.nil_iff.mp z)⟩) (fun z=>?_) (by rw [← r1.length,← r2.length]; exact hz)
 refine ⟨.ref s.heap.objs.size,_,I.laid (t':=s.toks) (o:=.tup (xs ++ ys)) (fun b ob q=>W4 _ q) (Wd _) ?_,rfl,q2 (fun w=>z (r2.nil_iff.mpr w)) _ (I.hok.fresh (Wd _))⟩
 exact ⟨by rw [Q1]; exact hz,_,r1.append r2,IsTupN.new _ _⟩
end
def ixN (n:Nat) (i:Int):Option Nat:=if 0≤i then (if i < n then some i.toNat else none) else if -(n:Int)≤i then some (i + n).toNat else none
def atI {α:Type} (xs:List α) (i:Int):Option α:=(ixN xs.length i).bind fun j=>xs[j]?
theorem z9V (h:ixN n i=some j):seqIndex? i n=some j∧j < n∧-(n:Int)≤i∧i < n:=by
 unfold ixN at h
 by_cases h0:0≤i
 ·rw [if_pos h0] at h
  by_cases h1:i < n
  ·rw [if_pos h1] at h
   have e:i.toNat=j:=Ww h
   exact ⟨by rw [seqIndex_of h0 h1,e],by omega,by omega,h1⟩
  ·rw [if_neg h1] at h; cases h
 ·rw [if_neg h0] at h
  by_cases h1 : -(n:Int)≤i
  ·rw [if_pos h1] at h
   have e:(i + n).toNat=j:=Ww h
   exact ⟨by rw [seqIndex_neg (by omega) h1,e],by omega,h1,by omega⟩
  ·rw [if_neg h1] at h; cases h
theorem z7A (h:atI xs i=some v):∃ j,seqIndex? i xs.length=some j∧xs[j]? = some v∧j < xs.length∧-(xs.length:Int)≤i∧i < xs.length:=by
 unfold atI at h
 cases e:ixN xs.length i with
 | none=>rw [e] at h; cases h
 | some j =>
  rw [e] at h
  obtain ⟨h1,h2,h3,h4⟩:=z9V e
  exact ⟨j,h1,h,h2,h3,h4⟩
def z7C (b:Expr):Prop:=∀ o i,subscripted b false o i=operate [o,i] (getItem o i)
def IxR (X:Cx) (r:R2):Prop :=
 ∀ (value slice:Expr) (pins:List (Addr×Obj)) (s:W1) (σ:St) (H:Hp) (x y:V) (v u:Value) (Q:VK),Inv X pins σ H s→RelV x v→RelV y u→r x y H Q →
  subscripted slice false v u=operate [v,u] (getItem v u)→W5 (model X.prog X.w) X.A (subscriptTail value slice v u) (EP X pins σ Q) X.xe s
def MtR (X:Cx) (id:String) (r:V→List V→Hp→VK→Prop):Prop :=
 ∀ (pins:List (Addr×Obj)) (s:W1) (σ:St) (H:Hp) (x:V) (xs:List V) (v:Value) (us:List Value) (Q:VK),Inv X pins σ H s→RelV x v→Vals xs us→r x xs H Q →
  W5 (model X.prog X.w) X.A (call (.builtin id) (v :: us)) (EP X pins σ Q) X.xe s
section
variable {X:Cx} {a b:Expr} {ta tb:TE} {pos:Pos}
theorem IxR.or (h:IxR X r) (h':IxR X r'):IxR X (fun x y H Q=>r x y H Q∨r' x y H Q):=by
 intro value slice pins s σ H x y v u Q I rx ry q hs
 rcases q with q | q
 ·exact h value slice pins s σ H x y v u Q I rx ry q hs
 ·exact h' value slice pins s σ H x y v u Q I rx ry q hs
theorem zeK (hr:IxR X r) (ha:PE X a ta) (hb:PE X b tb) (hs:z7C b):PE X (.Subscript a b pos) (tOp r ta tb):=by
 intro pins s σ H Q I h
 exact Subscript_ (binT ha hb I h fun v u s2 x y H2 I2 rx ry q=>hr a b pins s2 σ H2 x y v u Q I2 rx ry q (hs _ _))
def rIxL (K:W2):R2:=fun x y H Q=>∃ p xs i v,x = .ref p∧y = .int i∧SqL K H p xs∧atI xs i=some v∧Q v H
def rIxT (K:W2):R2:=fun x y H Q=>∃ p xs i v,x = .ref p∧y = .int i∧SqT K H p xs∧atI xs i=some v∧Q v H
def rIxS:R2:=fun x y H Q=>∃ z i c,x = .str z∧y = .int i∧z.length≤W8∧atI z.cps.toList i=some c∧Q (.str ⟨#[c]⟩) H
theorem ix_list:IxR X (rIxL X.K):=by
 intro value slice pins s σ H x y v u Q I rx ry h hs
 obtain ⟨p,xs,i,z,rfl,rfl,hq,he,q⟩:=h
 cases rx
 obtain ⟨t,rfl⟩:=ry
 obtain ⟨its,r,pl,hz⟩:=I.list hq
 obtain ⟨j,h1,h2,h3,h4,h5⟩:=z7A he
 obtain ⟨w,ew,rw'⟩:=r.get h2
 have hl:=r.length
 have hn:=z5v
 have fin:EP X pins σ Q w s:=⟨z,H,I,rw',q⟩
 by_cases h0:0≤i
 ·have hj:i.toNat=j:=by
   rw [seqIndex_of h0 h5] at h1
   exact Ww h1
  exact item_listR pl.isList h0 (by omega) (by rw [hj]; simpa using ew) fin hs
 ·have hj:(i + (its.toArray.size:Int)).toNat=j:=by
   rw [seqIndex_neg (by omega) h4] at h1
   rw [Wl,← hl]
   exact Ww h1
  exact subscriptTail_builtinR (x:=w) pl.isList.typeIs slot_list_getitem.lookup
   (wpAny_getItem_list_neg (Q:=fun r s'=>r=w∧EP X pins σ Q r s') pl.isList (by omega) (by rw [Wl] <;> omega) (by omega) (by rw [hj]; simpa using ew) ⟨rfl,fin⟩) hs
theorem ix_tup:IxR X (rIxT X.K):=by
 intro value slice pins s σ H x y v u Q I rx ry h hs
 obtain ⟨p,xs,i,z,rfl,rfl,hq,he,q⟩:=h
 cases rx
 obtain ⟨t,rfl⟩:=ry
 obtain ⟨its,r,pl,hz⟩:=I.tuple hq
 obtain ⟨j,h1,h2,h3,h4,h5⟩:=z7A he
 obtain ⟨w,ew,rw'⟩:=r.get h2
 have hl:=r.length
 have hn:=z5v
 have fin:EP X pins σ Q w s:=⟨z,H,I,rw',q⟩
 exact subscriptTail_builtinR (x:=w) pl.typeIs slot_tuple_getitem.lookup
  (getItem_tuple (j:=j) (Q:=fun r s'=>r=w∧EP X pins σ Q r s') pl (by omega) (by omega) (by rw [Wl,← hl]; exact h1) (by simpa using ew) ⟨rfl,fin⟩) hs
theorem zfb:IxR X rIxS:=by
 intro value slice pins s σ H x y v u Q I rx ry h hs
 obtain ⟨z,i,c,rfl,rfl,hz,he,q⟩:=h
 obtain ⟨t,rfl⟩:=rx
 obtain ⟨t',rfl⟩:=ry
 obtain ⟨j,h1,h2,h3,h4,h5⟩:=z7A he
 have hl:z.cps.toList.length=z.length:=by simp [Str.length]
 rw [hl] at h1 h4 h5
 have hn:=z5v
 exact tail_any (typeIs_str s z t) slot_str_getitem.lookup (getItem_str (c:=c) (by
  have e1:decide (i < -(2 ^ 63:Int))=false:=decide_eq_false (by omega)
  have e2:decide (i ≥ 2 ^ 63)=false:=decide_eq_false (by omega)
  rw [e1,e2,Bool.or_false]) (by rw [h1]; simpa using h2) ⟨.str ⟨#[c]⟩,H,I.tok _,⟨_,rfl⟩,q⟩) hs
def rIx (K:W2):R2:=fun x y H Q=>rIxL K x y H Q∨rIxT K x y H Q∨rIxS x y H Q
theorem z0p:IxR X (rIx X.K):=ix_list.or (ix_tup.or zfb)
theorem z8u (its:List Value) (n j:Nat) (u:Value):Obj.mapSeq (·.setIfInBounds j u) { cls:=.type "list",data:=.seq its.toArray n } = { cls:=.type "list",data:=.seq (its.set j u).toArray n }:=by
 simp [Obj.mapSeq]
theorem Inv.lst (I:Inv X pins σ H s) (h:H p=some (.lst xs)) :
  ∃ (its:List Value) (n:Nat),Vals xs its∧s.heap.get? p=some { cls:=.type "list",data:=.seq its.toArray n }∧xs.length≤W8:=by
 obtain ⟨z,its,n,r,e⟩:=I.hok p _ h
 exact ⟨its,n,r,e,z⟩
theorem Inv.lstUpd {pins:List (Addr×Obj)} {σ:St} {H:Hp} {s:W1} {p:Addr} {xs ys:List V} {its its':List Value} {n n':Nat} {f:Obj→Obj} (I:Inv X pins σ H s) (h:H p=some (.lst xs))
  (ho:s.heap.get? p=some { cls:=.type "list",data:=.seq its.toArray n }) (hf:f { cls:=.type "list",data:=.seq its.toArray n } = { cls:=.type "list",data:=.seq its'.toArray n' }) (r:Vals ys its') (hz:ys.length≤W8) (t:Nat) :
  Inv X pins σ (upd H p (.lst ys)) { s with heap:=s.heap.update p f,toks:=t }:=by
 have e:(s.heap.update p f).get? p=some { cls:=.type "list",data:=.seq its'.toArray n' }:=by
  rw [Wv f ho (by rw [hf] <;> rfl),hf]
 refine I.write (x:=p) (e:=p) (by rw [h]; trivial) (.inl rfl) (fun b u hb q=>(WA _ _ (Ne.symm hb)).trans q) ⟨_,e⟩ ?_
 exact ⟨hz,its',n',r,e⟩
def rSetL:V→V→V→Hp→(Hp→Prop)→Prop:=fun o i v H Q=>∃ p xs k j,o = .ref p∧i = .int k∧H p=some (.lst xs)∧ixN xs.length k=some j∧Q (upd H p (.lst (xs.set j v)))
theorem zaU:PSet X rSetL:=by
 intro pins s σ H o i v ov iv u Q I ro ri rv h
 obtain ⟨p,xs,k,j,rfl,rfl,hp,hj,q⟩:=h
 cases ro
 obtain ⟨t,rfl⟩:=ri
 obtain ⟨its,n,r,ho,hz⟩:=I.lst hp
 obtain ⟨h1,h2,h3,h4⟩:=z9V hj
 have hl:=r.length
 have hn:=z5v
 have I':Inv X pins σ (upd H p (.lst (xs.set j v))) { s with heap:=s.heap.update p (Obj.mapSeq (·.setIfInBounds j u)) } :=
  I.lstUpd hp ho (z8u its n j u) (r.set rv j) (by rw [Jo]; exact hz) s.toks
 by_cases h0:0≤k
 ·have hk:k.toNat=j:=by
   rw [seqIndex_of h0 h4] at h1
   exact Ww h1
  exact PySem.W.ki_setAt ho h0 (by omega) (by rw [Wl,← hl]; exact h4) (by rw [hk]; exact ⟨_,I',q⟩)
 ·have hk:(k + (its.toArray.size:Int)).toNat=j:=by
   rw [seqIndex_neg (by omega) h3] at h1
   rw [Wl,← hl]
   exact Ww h1
  exact PySem.W.ki_setBack ho (by omega) (by rw [Wl,← hl]; exact h3) (by omega) (by rw [hk]; exact ⟨_,I',q⟩)
theorem z6b (lo hi:Option Int) (n:Nat):(JB lo hi none n).1=((HT.sIx n 0 lo:Nat):Int)∧(JB lo hi none n).2.1=((HT.sIx n n hi:Nat):Int)∧(JB lo hi none n).2.2=1:=by
 refine ⟨?_,?_,rfl⟩
 ·cases lo with
  | none=>simp [JB,HT.sIx]
  | some i =>
   simp only [JB,HT.sIx,Option.getD_none,show (1:Int) > 0 by decide,if_true]
   by_cases h:i < 0
   ·simp only [h,if_true] <;> omega
   ·simp only [h,if_false] <;> omega
 ·cases hi with
  | none=>simp [JB,HT.sIx]
  | some i =>
   simp only [JB,HT.sIx,Option.getD_none,show (1:Int) > 0 by decide,if_true]
   by_cases h:i < 0
   ·simp only [h,if_true] <;> omega
   ·simp only [h,if_false] <;> omega
theorem z5H (its:List Value) (lo hi:Option Int):slicePick its.toArray lo hi none=((its.drop (HT.sIx its.length 0 lo)).take (HT.sIx its.length its.length hi - HT.sIx its.length 0 lo)).toArray:=by
 obtain ⟨h1,h2,h3⟩:=z6b lo hi its.toArray.size
 unfold slicePick
 rw [h1,h2,h3]
 simp only [sliceRange_one,pick_run,Wl] <;> rfl
def rSlL (K:W2):V→Option Int→Option Int→Hp→VK→Prop:=fun x lo hi H Q=>∃ a xs,x = .ref a∧SqL K H a xs∧∀ p,H p=none→Q (.ref p) (upd H p (.lst (cutV xs lo hi)))
theorem zcH:SlR X (rSlL X.K):=by
 intro pins s σ H x v vl vu lo hi sl Q I rx hs pl pu h
 obtain ⟨a,xs,rfl,hx,q⟩:=h
 cases rx
 obtain ⟨its,r,ht,hz⟩:=I.list hx
 have hlen:=r.length
 refine ⟨"list",_,slot_list_getitem.lookup,ht.isList.typeIs,?_⟩
 refine wpAny_getItem_list_slice ht.isList hs pl pu .none (by simp) ?_ (by rw [Wl] <;> omega)
 rw [z5H,← hlen]
 refine ⟨.ref s.heap.objs.size,_,I.laid (t':=s.toks) (o:=.lst (cutV xs lo hi)) (fun b ob q=>W4 _ q) (Wd _) ?_,rfl,q _ (I.hok.fresh (Wd _))⟩
 exact ⟨WO (z55 xs lo hi) hz,_,0,(r.drop (HT.sIx xs.length 0 lo)).take (HT.sIx xs.length xs.length hi - HT.sIx xs.length 0 lo),Wi _ rfl⟩
def z63:V→Bool
 | .non=>true
 | .bl _=>true
 | .int _=>true
 | .str _=>true
 | _=>false
def eqV:V→V→Bool
 | .non,.non=>true
 | .bl a,.bl b=>a == b
 | .bl a,.int b=>(if a then 1 else 0) == b
 | .int a,.bl b=>a == (if b then 1 else 0)
 | .int a,.int b=>a == b
 | .str a,.str b=>a == b
 | _,_=>false
theorem zfv (ry:RelV y u) (rx:RelV x v) (fy:z63 y=true) (fx:z63 x=true):SeqAt.EqAt A s u v (eqV y x):=by
 cases y with
 | non =>
  cases ry
  cases x with
  | non=>cases rx; exact SeqAt.EqAt.same _
  | bl b=>cases rx; exact SeqAt.EqAt.none_bool b
  | int b=>obtain ⟨t,rfl⟩:=rx; exact SeqAt.EqAt.none_int b t
  | str b=>obtain ⟨t,rfl⟩:=rx; exact SeqAt.EqAt.none_str b t
  | _=>exact absurd (show false=true from fx) Ql
 | bl a =>
  cases ry
  cases x with
  | non=>cases rx; exact SeqAt.EqAt.bool_none a
  | bl b=>cases rx; exact SeqAt.EqAt.bool_bool a b
  | int b=>obtain ⟨t,rfl⟩:=rx; exact SeqAt.EqAt.bool_int a b t
  | str b=>obtain ⟨t,rfl⟩:=rx; exact SeqAt.EqAt.bool_str a b t
  | _=>exact absurd (show false=true from fx) Ql
 | int a =>
  obtain ⟨t',rfl⟩:=ry
  cases x with
  | non=>cases rx; exact SeqAt.EqAt.int_none a t'
  | bl b=>cases rx; exact SeqAt.EqAt.int_bool a t' b
  | int b=>obtain ⟨t,rfl⟩:=rx; exact SeqAt.EqAt.int_int a t' b t
  | str b=>obtain ⟨t,rfl⟩:=rx; exact SeqAt.EqAt.int_str a t' b t
  | _=>exact absurd (show false=true from fx) Ql
 | str a =>
  obtain ⟨t',rfl⟩:=ry
  cases x with
  | non=>cases rx; exact SeqAt.EqAt.str_none a t'
  | bl b=>cases rx; exact SeqAt.EqAt.str_bool a t' b
  | int b=>obtain ⟨t,rfl⟩:=rx; exact SeqAt.EqAt.str_int a t' b t
  | str b=>obtain ⟨t,rfl⟩:=rx; exact SeqAt.EqAt.str_str a t' b t
  | _=>exact absurd (show false=true from fx) Ql
 | _=>exact absurd (show false=true from fy) Ql
def eqU (x:V) (u:Value):Bool:=match u with
 | .none=>eqV .non x
 | .bool b=>eqV (.bl b) x
 | .int i _=>eqV (.int i) x
 | .str z _=>eqV (.str z) x
 | _=>false
theorem zcm (r:RelV y u) (f:z63 y=true):eqU x u=eqV y x:=by
 cases y with
 | non=>cases r; rfl
 | bl b=>cases r; rfl
 | int i=>obtain ⟨t,rfl⟩:=r; rfl
 | str z=>obtain ⟨t,rfl⟩:=r; rfl
 | _=>exact absurd (show false=true from f) Ql
theorem z7B:∀ {xs:List V} {us:List Value},Vals xs us→xs.all z63=true→us.any (eqU x)=xs.any fun y=>eqV y x
 | _,_,.nil,_=>rfl
 | y :: xs,u :: us,.cons r t,f=>by
  rw [List.all_cons,Wh] at f
  rw [QY,QY,zcm r f.1,z7B t f.2]
theorem z5X (rx:RelV x v) (fx:z63 x=true):∀ {xs:List V} {us:List Value},Vals xs us→xs.all z63=true→∀ u ∈ us,SeqAt.EqAt A s u v (eqU x u)
 | _,_,.nil,_=>fun u hu=>by cases hu
 | y :: xs,u :: us,.cons r t,f=>fun u' hu=>by
  rw [List.all_cons,Wh] at f
  rcases Wg.mp hu with rfl | hu
  ·rw [zcm r f.1]; exact zfv r rx f.1 fx
  ·exact z5X rx fx t f.2 u' hu
def inV (x:V) (xs:List V):Bool:=xs.any fun y=>eqV y x
def rIn (K:W2) (neg:Bool):R2:=fun x y H Q=>∃ p xs,y = .ref p∧(SqL K H p xs∨SqT K H p xs)∧z63 x=true∧xs.all z63=true∧Q (.bl (if neg then !inV x xs else inV x xs)) H
theorem op_notIn_seq:OpR X (WP .NotIn) (rIn X.K true):=by
 intro pins s σ H x y v u Q I rx ry h
 obtain ⟨p,xs,rfl,hq,fx,fs,q⟩:=h
 cases ry
 rcases hq with hq | hq
 ·obtain ⟨its,r,pl,hz⟩:=I.list hq
  refine SeqAt.notIn_listAt (eqU x) pl.isList (fun w hw=>z5X rx fx r fs w (by simpa using hw)) ⟨.bl _,H,I,rfl,?_⟩
  rw [show its.toArray.any (eqU x)=its.any (eqU x) by simp,z7B r fs]
  exact q
 ·obtain ⟨its,r,pl,hz⟩:=I.tuple hq
  refine SeqAt.notIn_tupleAt (eqU x) pl (fun w hw=>z5X rx fx r fs w (by simpa using hw)) ⟨.bl _,H,I,rfl,?_⟩
  rw [show its.toArray.any (eqU x)=its.any (eqU x) by simp,z7B r fs]
  exact q
theorem call_len_seq:CallR X (.builtin "len") (fun xs H Q=>∃ p ys,xs=[.ref p]∧(SqL X.K H p ys∨SqT X.K H p ys)∧Q (.int ys.length) H):=by
 intro pins s σ H xs us Q I r h
 obtain ⟨p,ys,rfl,hq,q⟩:=h
 obtain ⟨u,rfl,rx⟩:=z3R r
 cases rx
 have hn:=z5v
 rcases hq with hq | hq
 ·obtain ⟨its,r',pl,hz⟩:=I.list hq
  have hlen:=r'.length
  exact Calls.call_len_list pl.isList (by simp only [Wl] <;> omega) ⟨.int ys.length,H,I.tok _,⟨s.toks + 1,by rw [Wl,hlen]⟩,q⟩
 ·obtain ⟨its,r',pl,hz⟩:=I.tuple hq
  have hlen:=r'.length
  exact len_tuple pl (by simp only [Wl] <;> omega) ⟨.int ys.length,H,I.tok _,⟨s.toks + 1,by rw [Wl,hlen]⟩,q⟩
theorem z6X:CallR X (.builtin "len") (fun xs H Q=>∃ z,xs=[.str z]∧z.length≤W8∧Q (.int z.length) H):=by
 intro pins s σ H xs us Q I r h
 obtain ⟨z,rfl,hz,q⟩:=h
 obtain ⟨u,rfl,t,rfl⟩:=z3R r
 have hn:=z5v
 exact len_str (by omega) ⟨.int z.length,H,I.tok _,⟨_,rfl⟩,q⟩
theorem CallR.or (h:CallR X f r) (h':CallR X f r'):CallR X f (fun xs H Q=>r xs H Q∨r' xs H Q):=by
 intro pins s σ H xs us Q I rs q
 rcases q with q | q
 ·exact h pins s σ H xs us Q I rs q
 ·exact h' pins s σ H xs us Q I rs q
theorem z66:CallR X (.type "tuple") (fun xs H Q=>∃ p ys,xs=[.ref p]∧((SqL X.K H p ys∧∀ l,H l=none→Q (.ref l) (upd H l (.tup ys)))∨(SqT X.K H p ys∧Q (.ref p) H))):=by
 intro pins s σ H xs us Q I r h
 obtain ⟨p,ys,rfl,h⟩:=h
 obtain ⟨u,rfl,rx⟩:=z3R r
 cases rx
 rcases h with ⟨hq,q⟩ | ⟨hq,q⟩
 ·obtain ⟨its,r',pl,hz⟩:=I.list hq
  have hlen:=r'.length
  refine call_tuple_list pl.isList (fun h' kp=>?_) (by simp only [Wl] <;> omega)
  have I1:Inv X pins σ H { s with heap:=h' }:=I.kept (t':=s.toks) kp
  have I2:Inv X pins σ (upd H h'.objs.size (.tup ys)) { s with heap:=h'.push { cls:=.type "tuple",data:=.seq its.toArray } } :=
   I1.laid (t':=s.toks) (fun b o e=>W4 _ e) (Wd _) (show ObjOk X.prog X.w _ _ _ (.tup ys) from ⟨hz,its,r',IsTupN.new _ _⟩)
  exact ⟨.ref h'.objs.size,_,I2,rfl,q _ (I1.hok.fresh (Wd _))⟩
 ·obtain ⟨its,r',pl,hz⟩:=I.tuple hq
  exact call_tuple_same pl ⟨.ref p,H,I,rfl,q⟩
def tyV (K:W2) (T:String) (x:V) (H:Hp):Prop:=match x with
 | .str _=>T = "str"
 | .int _=>T = "int"
 | .ref p=>(T = "list"∧∃ xs,SqL K H p xs)∨(T = "tuple"∧∃ o,K.lookup p=some o∧o.cls = .type "tuple"∧o.dict=none) ∨
   (T = "dict"∧((∃ kvs,H p=some (.dK kvs))∨∃ kvs,H p=some (.dT kvs)))∨(T = "set"∧∃ S n,H p=some (.set S n))
 | _=>False
theorem zdU (I:Inv X pins σ H s) (r:RelV x v) (ty:tyV X.K T x H) :
  s.TypeIs v T∧∀ a,v = .ref a→∃ ob,s.heap.get? a=some ob∧ob.dict=none:=by
 cases x with
 | str z =>
  obtain ⟨t,rfl⟩:=r
  cases (show T = "str" from ty)
  exact ⟨typeIs_str s z t,fun _ e=>nomatch e⟩
 | int i =>
  obtain ⟨t,rfl⟩:=r
  cases (show T = "int" from ty)
  exact ⟨JQ s i t,fun _ e=>nomatch e⟩
 | ref p =>
  cases r
  rcases ty with ⟨rfl,xs,hq⟩ | ⟨rfl,o,hk,hc,hd⟩ | ⟨rfl,hk⟩ | ⟨rfl,S,n,hk⟩
  ·obtain ⟨its,_,pl,_⟩:=I.list hq
   refine ⟨pl.isList.typeIs,fun a e=>?_⟩
   cases e
   obtain ⟨o,n,e,c,hd,_⟩:=pl
   exact ⟨o,e,hd⟩
  ·refine ⟨⟨o,I.kIn p o hk,hc⟩,fun a e=>?_⟩
   cases e
   exact ⟨o,I.kIn _ o hk,hd⟩
  ·have z:∃ o,s.heap.get? p=some o∧o.ExactDict:=by
    rcases hk with ⟨kvs,hk⟩ | ⟨kvs,hk⟩
    ·obtain ⟨_,_,_,_,o,_,_,e,ex,_⟩:=I.hok p _ hk
     exact ⟨o,e,ex⟩
    ·obtain ⟨_,_,_,_,o,_,_,e,ex,_⟩:=I.hok p _ hk
     exact ⟨o,e,ex⟩
   obtain ⟨o,e,ex⟩:=z
   refine ⟨⟨o,e,ex.1⟩,fun a e2=>?_⟩
   cases e2
   exact ⟨o,e,ex.2.1⟩
  ·obtain ⟨o,_,_,_,e,ex,_⟩:=I.hok p _ hk
   refine ⟨⟨o,e,ex.1⟩,fun a e2=>?_⟩
   cases e2
   exact ⟨o,e,ex.2.1⟩
 | _=>exact False.elim ty
def tBM (K:W2) (T:String) (r:V→List V→Hp→VK→Prop) (to:TE) (t:TA):TE:=fun σ H Q=>to σ H fun x H1=>tyV K T x H1∧t σ H1 fun xs H2=>r x xs H2 Q
variable {o e:Expr} {es:List Expr} {to:TE} {t:TA} {name:Str} {apos cpos:Pos} {T id:String} {r:V→List V→Hp→VK→Prop}
theorem zbb (pa:PlainAttrs T) (slot:Slot T name id) (hty:typeOf (.builtin id)=pure (.type "method_descriptor")) (hm:MtR X id r) (ho:PE X o to) (ha:PA X (e :: es) t)
  (hbase:Qy o name X.env (eval o X.env)=eval o X.env:=by rfl)
  (hfew:((WZ cpos (W6 (e :: es) X.env)).all (fun x=>!x.1) && (backToKw cpos (JC [] X.env)).all (fun x=>x.1.isSome)
   && decide ((e :: es).length + ([]:List Keyword).length + (if ([]:List Keyword).isEmpty then 0 else 1) < 30))=true:=by rfl)
  (hline:(apos.endLine == cpos.line)=true:=by rfl) (hs:W6 (e :: es) X.env=(false,eval e X.env) :: W6 es X.env:=by rfl) (hplain:(WZ cpos (W6 es X.env)).any (·.1)=false:=by rfl) :
  PE X (.Call (.Attribute o name apos) (e :: es) [] cpos) (tBM X.K T r to t):=by
 intro pins s σ H Q I h
 refine wpAny_Call_method_late hbase hfew hline rfl (thn (ho pins s σ H _ I h) fun v s1 ⟨x,H1,I1,r1,ty,q1⟩=>?_)
 obtain ⟨h1,h2⟩:=zdU I1 r1 ty
 refine ⟨T,id,pa,slot,hty,h1,h2,?_⟩
 have hA:=ha cpos pins s1 σ H1 _ I1 q1
 rw [hs] at hA ⊢
 refine Calls.callWith_builtin (by show (false || (WZ cpos (W6 es X.env)).any (·.1))=false; rw [hplain] <;> rfl) (Calls.evalArgs_plain ?_)
 exact thn hA fun us s2 ⟨vs,H2,I2,r2,q2⟩=>hm pins s2 σ H2 x vs v us Q I2 r1 r2 q2
end
def MtM (X:Cx) (id:String) (r:V→List V→Hp→VK→Prop):Prop :=
 ∀ (pins:List (Addr×Obj)) (s:W1) (σ:St) (H:Hp) (x:V) (xs:List V) (v:Value) (us:List Value) (Q:VK),Inv X pins σ H s→RelV x v→Vals xs us→r x xs H Q →
  W5 (model X.prog X.w) X.A (call (.builtin id) (v :: us)) (EP X pins σ Q) X.xe s
theorem Vals.one:∀ {x:V} {us:List Value},Vals [x] us→∃ u,us=[u]∧RelV x u
 | _,_,.cons r .nil=>⟨_,rfl,r⟩
theorem Vals.two:∀ {x y:V} {us:List Value},Vals [x,y] us→∃ u v,us=[u,v]∧RelV x u∧RelV y v
 | _,_,_,.cons r (.cons q .nil)=>⟨_,_,rfl,r,q⟩
theorem Vals.rep (h:Vals xs us):∀ k:Nat,Vals (Wa k xs).flatten (Wa k us).flatten
 | 0=>.nil
 | k + 1=>by
  rw [Q5,Q5,J9,J9]
  exact Vals.append h (Vals.rep h k)
theorem z6N (its:List Value):∀ (k:Nat) (acc:List Value),
  List.foldl (fun x1 x2=>x1 ++ x2) acc.toArray (Wa k its.toArray)=(acc ++ (Wa k its).flatten).toArray
 | 0,acc=>by simp
 | k + 1,acc=>by
  have e:acc.toArray ++ its.toArray=(acc ++ its).toArray:=by simp
  have e2:(acc ++ its) ++ (Wa k its).flatten=acc ++ (Wa (k + 1) its).flatten:=by
   rw [Q5,J9,List.append_assoc]
  rw [← e2,← z6N its k (acc ++ its),← e,Q5,Qi]
section
variable {X:Cx} {pins:List (Addr×Obj)} {σ:St} {H:Hp} {s:W1} {l b:Addr} {xs ys zs:List V}
theorem Inv.lset {its its':List Value} {n:Nat} {f:Array Value→Array Value} {t':Nat} (I:Inv X pins σ H s) (hH:H l=some (.lst xs))
  (e:s.heap.get? l=some { cls:=.type "list",data:=.seq its.toArray n }) (hf:f its.toArray=its'.toArray) (hv:Vals ys its') (hz:ys.length≤W8) :
  Inv X pins σ (upd H l (.lst ys)) { s with heap:=s.heap.update l (Obj.mapSeq f),toks:=t' }:=by
 have q:=PySem.IsL.update e f
 rw [hf] at q
 refine I.write (x:=l) (e:=l) (by rw [hH]; exact trivial) (.inl rfl) (fun b' u hb hu=>(WA s.heap (Obj.mapSeq f) (Ne.symm hb)).trans hu) ⟨_,q⟩ ?_
 exact ⟨hz,its',_,hv,q⟩
theorem Inv.lnew (I:Inv X pins σ H s) (hv:Vals ys its) (hz:ys.length≤W8) :
  Inv X pins σ (upd H s.heap.objs.size (.lst ys)) { s with heap:=s.heap.push { cls:=.type "list",data:=.seq its.toArray },toks:=t' } :=
 I.laid (fun _ _ q=>W4 _ q) (Wd _) ⟨hz,its,0,hv,Wi _ rfl⟩
theorem Inv.fresh (I:Inv X pins σ H s):H s.heap.objs.size=none:=I.hok.fresh (Wd _)
theorem Inv.lstM (I:Inv X pins σ H s) (hH:H l=some (.lst xs)):xs.length≤W8∧∃ (its:List Value) (n:Nat),Vals xs its∧xs.length=its.length∧s.heap.get? l=some { cls:=.type "list",data:=.seq its.toArray n }:=by
 obtain ⟨z,its,n,r,e⟩:=I.hok l _ hH
 exact ⟨z,its,n,r,r.length,e⟩
end
section
variable {X:Cx}
def z9p:V→List V→Hp→VK→Prop:=fun x vs H Q=>∃ l xs y,x = .ref l∧vs=[y]∧H l=some (.lst xs)∧xs.length < W8∧Q .non (upd H l (.lst (xs ++ [y])))
theorem z6B:MtM X "list.append" z9p:=by
 intro pins s σ H x vs v us Q I rx rv h
 obtain ⟨l,xs,y,rfl,rfl,hH,hz,q⟩:=h
 cases rx
 obtain ⟨u,rfl,ru⟩:=rv.one
 obtain ⟨z,its,n,r,hl,e⟩:=I.lstM hH
 refine JR F.slot_list_append ⟨_,e,rfl⟩ F.entry_list_append (F.args_list_append_2 _ _) (PySem.list_append l its.toArray n u (by rw [Wl]; omega)) ⟨e,?_⟩
 refine ⟨.non,_,I.lset (its':=its ++ [u]) hH e (by simp) (r.append (.cons ru .nil)) ?_,rfl,q⟩
 rw [Q1,List.length_singleton]
 omega
theorem z7o (xs:List α) (k:Nat):(Wa k xs).flatten.length=k * xs.length:=by
 induction k with
 | zero=>simp
 | succ k ih=>rw [Q5,J9,Q1,ih,Nat.succ_mul,Nat.add_comm]
end
section
variable {prog:Wj} {w:Wp} {A:Wn} {E:Value→W1→Prop} {s:W1}
set_option maxRecDepth 100000 in
end
section
variable {X:Cx}
end
section
variable {κ:Type} [DecidableEq κ]
def valV (kvs:List (κ×V)) (k:κ):Option V:=(kvs.find? fun kv=>decide (kv.1=k)).map (·.2)
def putK (kvs:List (κ×V)) (k:κ) (v:V):List (κ×V) :=
 if (kvs.any fun kv=>decide (kv.1=k))=true then kvs.map (fun kv=>if kv.1=k then (kv.1,v) else kv) else kvs ++ [(k,v)]
theorem z4l {p:κ×V} {r:List (κ×V)} {k:κ} (e:p.1=k):valV (p :: r) k=some p.2:=by simp [valV,QK,e]
theorem z4m {p:κ×V} {r:List (κ×V)} {k:κ} (e:¬ p.1=k):valV (p :: r) k=valV r k:=by simp [valV,QK,e]
theorem z7G (k:κ):∀ kvs:List (κ×V),(kvs.any fun kv=>decide (kv.1=k))=(valV kvs k).isSome
 | []=>rfl
 | p :: r=>by
  rw [QY]
  by_cases e:p.1=k
  ·simp only [z4l e,decide_eq_true e,Bool.true_or,Option.isSome_some]
  ·rw [z4m e,decide_eq_false e,Bool.false_or]; exact z7G k r
theorem z2z (kvs:List (κ×V)) (k:κ) (v:V):(putK kvs k v).length≤kvs.length + 1:=by
 unfold putK
 split
 ·rw [Ws]; omega
 ·rw [Q1,WB,List.length_nil]; omega
theorem RelO.isSome_eq (r:RelO o u):o.isSome=u.isSome:=by
 cases o with
 | none=>cases u with
  | none=>rfl
  | some _=>exact (show False from r).elim
 | some _=>cases u with
  | none=>exact (show False from r).elim
  | some _=>rfl
theorem KV.val {kvs:List (κ×V)} {vs:List (κ×Value)} (r:KV kvs vs) (k:κ):RelO (valV kvs k) (valueAt vs k):=by
 unfold KV at r
 induction r with
 | nil=>exact True.intro
 | @cons p q ps qs h t ih =>
  obtain ⟨h1,h2⟩:=h
  by_cases e:p.1=k
  ·have e':q.1=k:=h1.symm.trans e
   have b:valueAt (q :: qs) k=some q.2:=by simp [valueAt,QK,e']
   rw [z4l e,b]; exact h2
  ·have e':¬ q.1=k:=fun z=>e (h1.trans z)
   have b:valueAt (q :: qs) k=valueAt qs k:=by simp [valueAt,QK,e']
   rw [z4m e,b]; exact ih
theorem KV.any (r:KV kvs vs) (k:κ):(kvs.any fun kv=>decide (kv.1=k))=vs.any fun kv=>decide (kv.1=k):=by
 unfold KV at r
 induction r with
 | nil=>rfl
 | cons h t ih=>rw [QY,QY,ih,h.1]
theorem KV.repl (r:KV kvs vs) (k:κ) (ry:RelV y u) :
  KV (kvs.map fun kv=>if kv.1=k then (kv.1,y) else kv) (vs.map fun kv=>if kv.1=k then (kv.1,u) else kv):=by
 unfold KV at r ⊢
 induction r with
 | nil=>exact .nil
 | @cons p q ps qs h t ih =>
  rw [Wr,Wr]
  refine .cons ?_ ih
  obtain ⟨h1,h2⟩:=h
  by_cases e:p.1=k
  ·rw [if_pos e,if_pos (h1.symm.trans e)]; exact ⟨h1,ry⟩
  ·rw [if_neg e,if_neg (fun z=>e (h1.trans z))]; exact ⟨h1,h2⟩
theorem KV.put (r:KV kvs vs) (k:κ) (ry:RelV y u):KV (putK kvs k y) (stored vs k u):=by
 unfold putK stored
 rw [r.any k]
 by_cases e:(vs.any fun kv=>decide (kv.1=k))=true
 ·rw [if_pos e,if_pos e]; exact r.repl k ry
 ·rw [if_neg e,if_neg e]; exact Paired.snoc r ⟨rfl,ry⟩
theorem KV.length (r:KV kvs vs):kvs.length=vs.length:=Paired.length r
end
theorem z8z (r:RelV (kV k) u):(z1v P w).is k u=true:=by
 cases k with
 | inl i=>obtain ⟨t,e⟩:=(show ∃ t,u=Value.int i t from r); subst e; exact z7n P w i t
 | inr x=>obtain ⟨t,e⟩:=(show ∃ t,u=Value.str x t from r); subst e; exact z7m P w x t
theorem z6G:∀ {ks:List Key} {us:List Value},Vals (ks.map kV) us→ItemsAre (z1v P w) ks us
 | [],_,r=>by rw [List.map_nil] at r; cases r; exact .nil
 | k :: ks,_,r=>by
  rw [Wr] at r
  cases r with
  | cons h t=>exact .cons (z8z h) (z6G t)
abbrev KT (H:Hp):List (List Key×V)→List (List Key×Addr×Value)→Prop:=Paired fun p q=>p.1=q.1∧H q.2.1=some (.tup (p.1.map kV))∧RelV p.2 q.2.2
theorem KT.val {H:Hp} {kvs:List (List Key×V)} {xs:List (List Key×Addr×Value)} (r:KT H kvs xs) (k:List Key):RelO (valV kvs k) ((atKey xs k).map (·.2)):=by
 induction r with
 | nil=>exact True.intro
 | @cons p q ps qs h t ih =>
  obtain ⟨h1,_,h2⟩:=h
  by_cases e:p.1=k
  ·have e':q.1=k:=h1.symm.trans e
   have b:atKey (q :: qs) k=some q.2:=by simp [atKey,QK,e']
   rw [z4l e,b]; exact h2
  ·have e':¬ q.1=k:=fun z=>e (h1.trans z)
   have b:atKey (q :: qs) k=atKey qs k:=by simp [atKey,QK,e']
   rw [z4m e,b]; exact ih
theorem KT.repl (r:KT H kvs xs) (k:List Key) (ry:RelV y u) :
  KT H (kvs.map fun kv=>if kv.1=k then (kv.1,y) else kv) (xs.map (putAt k u)):=by
 induction r with
 | nil=>exact .nil
 | @cons p q ps qs h t ih =>
  rw [Wr,Wr]
  refine .cons ?_ ih
  obtain ⟨h1,h2,h3⟩:=h
  unfold putAt
  by_cases e:p.1=k
  ·rw [if_pos e,if_pos (h1.symm.trans e)]; exact ⟨h1,h2,ry⟩
  ·rw [if_neg e,if_neg (fun z=>e (h1.trans z))]; exact ⟨h1,h2,h3⟩
theorem KT.put (r:KT H kvs xs) (k:List Key) (hb:H b=some (.tup (k.map kV))) (ry:RelV y u) :
  KT H (putK kvs k y) (storedH xs k b u):=by
 have e:(kvs.any fun kv=>decide (kv.1=k))=(atKey xs k).isSome:=by
  rw [z7G,(r.val k).isSome_eq,Option.isSome_map]
 unfold putK storedH
 rw [e]
 by_cases q:(atKey xs k).isSome=true
 ·rw [if_pos q,if_pos q]; exact r.repl k ry
 ·rw [if_neg q,if_neg q]; exact Paired.snoc r ⟨rfl,hb,ry⟩
theorem KT.keeps (r:KT H kvs xs) (ht:∀ b ys,H b=some (.tup ys)→H' b=some (.tup ys)):KT H' kvs xs :=
 Paired.mapP r fun _ _ z=>⟨z.1,ht _ _ z.2.1,z.2.2⟩
section
variable {P:Wj} {w:Wp} {H:Hp} {h:Heap} {a:Addr}
theorem zed (ok:HOk P w H h) (e:Rd H a u):ObjOk P w H h a u:=e.ok ok
theorem zar (ok:HOk P w H h) (e:Rd H a (.dK kvs)):kvs.length≤W8∧(a == Jm)=false∧∃ vs,KV kvs vs∧h.DictOf (z1v P w) a vs :=
 show ObjOk P w H h a (.dK kvs) from zed ok e
theorem zdK (ok:HOk P w H h) (e:H a=some (.dK kvs)):kvs.length≤W8∧(a == Jm)=false∧∃ vs,KV kvs vs∧h.DictOf (z1v P w) a vs:=zar ok (.inl e)
theorem z6F (ok:HOk P w H h) (e:H a=some (.tup (ks.map kV))):(tupleKind (z1v P w)).is h ks a:=by
 obtain ⟨_,its,r,p⟩:=(show ObjOk P w H h a (.tup (ks.map kV)) from ok a _ e)
 obtain ⟨o,h1,h2,n,h3⟩:=p.tup
 exact ⟨o,its.toArray,n,h1,h2,h3,by simpa using z6G r⟩
theorem zbK (ok:HOk P w H h) (e:Rd H a (.dT kvs)):kvs.length≤W8∧(a == Jm)=false ∧
  ∃ xs,KT H kvs xs∧h.DictOfH (tupleKind (z1v P w)) a xs:=by
 obtain ⟨z,y,xs,r,o,es,ep,h1,h2,h3,h4,h5⟩:=(show ObjOk P w H h a (.dT kvs) from zed ok e)
 refine ⟨z,y,xs,r,o,es,ep,h1,h2,h3,h4,fun x hx=>?_,h5⟩
 have all:∀ {l:List (List Key×V)} {m:List (List Key×Addr×Value)},KT H l m→∀ x ∈ m,(tupleKind (z1v P w)).is h x.1 x.2.1:=by
  intro l m q
  induction q with
  | nil=>intro x hx; exact nomatch hx
  | @cons p q ps qs hq t ih =>
   intro x hx
   rcases Wg.mp hx with e | hx
   ·subst e
    exact z6F ok (by rw [← hq.1]; exact hq.2.1)
   ·exact ih x hx
 exact all r x hx
theorem dt_of (ok:HOk P w H h) (e:H a=some (.dT kvs)):kvs.length≤W8∧(a == Jm)=false ∧
  ∃ xs,KT H kvs xs∧h.DictOfH (tupleKind (z1v P w)) a xs:=zbK ok (.inl e)
end
def DGet (H:Hp) (a:Addr) (y:V) (r:Option V):Prop :=
 (∃ kvs k,Rd H a (.dK kvs)∧y=kV k∧r=valV kvs k)∨∃ kvs k b,Rd H a (.dT kvs)∧y = .ref b∧H b=some (.tup (k.map kV))∧r=valV kvs k
def DPut (H:Hp) (a:Addr) (y v:V) (H':Hp):Prop :=
 (∃ kvs k,H a=some (.dK kvs)∧y=kV k∧kvs.length < W8∧H'=upd H a (.dK (putK kvs k v))) ∨
 ∃ kvs k b,H a=some (.dT kvs)∧y = .ref b∧H b=some (.tup (k.map kV))∧kvs.length < W8∧H'=upd H a (.dT (putK kvs k v))
theorem DGet.k {H:Hp} {a:Addr} {kvs:List (Key×V)} {k:Key} (e:H a=some (.dK kvs)):DGet H a (kV k) (valV kvs k):=.inl ⟨kvs,k,.inl e,rfl,rfl⟩
theorem DPut.k {H:Hp} {a:Addr} {kvs:List (Key×V)} {k:Key} {v:V} (e:H a=some (.dK kvs)) (hl:kvs.length < W8):DPut H a (kV k) v (upd H a (.dK (putK kvs k v))):=.inl ⟨kvs,k,e,rfl,hl,rfl⟩
section
variable {X:Cx} {pins:List (Addr×Obj)} {σ:St} {H:Hp} {s:W1} {a:Addr} {y v:V} {u r:Value} {o:Option V} {A:Wn} {E:Value→W1→Prop}
theorem Inv.big (I:Inv X pins σ H s):Jm < s.heap.objs.size:=by
 have h:Wq < s.heap.objs.size:=(I.mod.glob.keeps I.bk).lt
 exact Nat.lt_trans (by decide) h
theorem zav (hu:A.units + 1 < Qt) (I:Inv X pins σ H s) (g:DGet H a y (some v)) (ry:RelV y u) (h:∀ w' s',Inv X pins σ H s'→RelV v w'→Q w' s') :
  W5 (model X.prog X.w) A (getItem (.ref a) u) Q E s:=by
 rcases g with ⟨kvs,k,e,ey,l⟩ | ⟨kvs,k,b,e,ey,eb,l⟩
 ·subst ey
  obtain ⟨z,hd,vs,rel,dd⟩:=zar I.hok e
  obtain ⟨w',hw,rw'⟩:=RelO.some_of (v:=v) (o:=valueAt vs k) (by rw [l]; exact rel.val k)
  exact wpAny_getItem_of (z8z ry) dd.mapOf hw (h w' _ (I.tok _) rw')
 ·subst ey
  cases (show u=Value.ref b from ry)
  obtain ⟨z,hd,xs,rel,dd⟩:=zbK I.hok e
  obtain ⟨w',hw,rw'⟩:=RelO.some_of (v:=v) (o:=(atKey xs k).map (·.2)) (by rw [l]; exact rel.val k)
  obtain ⟨p,hp,hp2⟩:=Option.map_eq_some_iff.mp hw
  refine wpAny_getItem_heap (JK hu) (z6F I.hok eb) dd hp ?_
  rw [hp2]
  exact h w' _ (I.tok _) rw'
theorem d_in (hu:A.units + 1 < Qt) (I:Inv X pins σ H s) (g:DGet H a y o) (ry:RelV y u) (h:∀ s',Inv X pins σ H s'→Q (.bool o.isSome) s') :
  W5 (model X.prog X.w) A (WP .In u (.ref a)) Q E s:=by
 rcases g with ⟨kvs,k,e,ey,l⟩ | ⟨kvs,k,b,e,ey,eb,l⟩
 ·subst ey
  obtain ⟨z,hd,vs,rel,dd⟩:=zar I.hok e
  refine wpAny_in_of (z8z ry) hd dd.mapOf ?_
  rw [← (rel.val k).isSome_eq,← l]
  exact h _ (I.tok _)
 ·subst ey
  cases (show u=Value.ref b from ry)
  obtain ⟨z,hd,xs,rel,dd⟩:=zbK I.hok e
  refine wpAny_in_heap (JK hu) (z6F I.hok eb) hd dd ?_
  have q:=(rel.val k).isSome_eq
  rw [Option.isSome_map] at q
  rw [← q,← l]
  exact h _ (I.tok _)
theorem zdL (hu:A.units + 1 < Qt) (I:Inv X pins σ H s) (g:DGet H a y o) (ry:RelV y u) (h:∀ s',Inv X pins σ H s'→Q (.bool (!o.isSome)) s') :
  W5 (model X.prog X.w) A (WP .NotIn u (.ref a)) Q E s:=by
 rcases g with ⟨kvs,k,e,ey,l⟩ | ⟨kvs,k,b,e,ey,eb,l⟩
 ·subst ey
  obtain ⟨z,hd,vs,rel,dd⟩:=zar I.hok e
  refine wpAny_notIn_of (z8z ry) hd dd.mapOf ?_
  rw [← (rel.val k).isSome_eq,← l]
  exact h _ (I.tok _)
 ·subst ey
  cases (show u=Value.ref b from ry)
  obtain ⟨z,hd,xs,rel,dd⟩:=zbK I.hok e
  refine wpAny_notIn_heap (JK hu) (z6F I.hok eb) hd dd ?_
  have q:=(rel.val k).isSome_eq
  rw [Option.isSome_map] at q
  rw [← q,← l]
  exact h _ (I.tok _)
theorem z7u (I:Inv X pins σ H s) (mu:Mut (H a)) (hs:WW a s.heap h') (he:∃ q,h'.get? a=some q) (new:ObjOk X.prog X.w (upd H a ob) h' a ob) :
  Inv X pins σ (upd H a ob) { s with heap:=h',toks:=t' } :=
 I.write (x:=a) (e:=a) mu (.inl rfl) (fun b q hb z=>(hs.2 b hb).trans z) he new
theorem zcn (z:kvs.length≤W8) (hd:(a == Jm)=false) (rel:KV kvs vs) (dd:h'.DictOf (z1v P w) a vs) :
  ObjOk P w H' h' a (.dK kvs):=⟨z,hd,vs,rel,dd⟩
theorem zau (hu:A.units + 1 < Qt) (I:Inv X pins σ H s) (g:DPut H a y v H') (ry:RelV y u) (rv:RelV v r) (h:∀ s',Inv X pins σ H' s'→Q () s') :
  W5 (model X.prog X.w) A (setItem (.ref a) u r) Q E s:=by
 rcases g with ⟨kvs,k,e,ey,l,eH⟩ | ⟨kvs,k,b,e,ey,eb,l,eH⟩
 ·subst ey eH
  obtain ⟨z,hd,vs,rel,dd⟩:=zdK I.hok e
  have hz:vs.length≤W8:=by rw [← rel.length]; exact z
  have hl:(putK kvs k v).length≤W8:=by have:=z2z kvs k v; omega
  refine wpAny_setItem_pairs (hsz:=hz) (z8z ry) dd fun h' dd' hs=>h _ ?_
  have he:∃ q,h'.get? a=some q:=let ⟨q,_,_,hq,_⟩:=dd'; ⟨q,hq⟩
  exact z7u I (by rw [e]; exact True.intro) hs he (zcn hl hd (rel.put k rv) dd')
 ·subst ey eH
  cases (show u=Value.ref b from ry)
  obtain ⟨z,hd,xs,rel,dd⟩:=dt_of I.hok e
  have hz:xs.length≤W8:=by rw [← Paired.length rel]; exact z
  have hl:(putK kvs k v).length≤W8:=by have:=z2z kvs k v; omega
  refine wpAny_setItem_heap (hsz:=hz) (JK hu) (z6F I.hok eb) dd fun h' dd' hs=>h _ ?_
  obtain ⟨q,es,ep,hq,h2,h3,h4,_,h5⟩:=dd'
  refine z7u I (by rw [e]; exact True.intro) hs ⟨q,hq⟩ ⟨hl,hd,_,(rel.put k eb rv).keeps fun c ys ec=>?_,q,es,ep,hq,h2,h3,h4,h5⟩
  rw [z0i (ne_of ec e (fun z=>nomatch z))]
  exact ec
end
section
variable {X:Cx} {pins:List (Addr×Obj)} {σ:St} {H:Hp} {s:W1} {a:Addr} {kvs:List (Key×V)} {k:Key} {u:Value} {A:Wn} {E:Value→W1→Prop}
theorem d_len (I:Inv X pins σ H s) (e:Rd H a (.dK kvs)) (h:∀ t s',Inv X pins σ H s'→Q (.int kvs.length t) s'):W5 (model X.prog X.w) A (call (.builtin "len") [.ref a]) Q E s:=by
 obtain ⟨z,hd,vs,rel,dd⟩:=zar I.hok e
 refine call_len_dict hd dd (by rw [← rel.length]; rw [QE] at z; omega) ?_
 rw [← rel.length]
 exact h _ _ (I.tok _)
end
def sDPut (td ty tv:TE):TS:=fun D σ H=>tv σ H fun v H1=>td σ H1 fun x H2=>ty σ H2 fun y H3=>∃ a H4,x = .ref a∧DPut H3 a y v H4∧D.nx σ H4
section
variable {X:Cx} {o i e value:Expr} {pos pos' tpos:Pos} {td ty tv:TE}
theorem zd5 (hu:X.A.units + 1 < Qt) (ho:PE X o td) (hi:PE X i ty) (hv:PE X value tv) (hs:Jn value (some (.Subscript o i pos')) pos.line X.env=pure false) :
  PS X (.Assign [.Subscript o i pos'] value pos) (sDPut td ty tv):=by
 intro pins s σ H D I h
 refine wpAny_Assign_Subscript (thn (hv pins s σ H _ I h) fun r s1 ⟨v,H1,I1,rv,q1⟩=>thn (ho pins s1 σ H1 _ I1 q1) fun u s2 ⟨x,H2,I2,rx,q2⟩=>thn (hi pins s2 σ H2 _ I2 q2) fun iv s3 ⟨y,H3,I3,ry,a,H4,ex,g,q3⟩=>?_) hs
 subst ex
 obtain rfl:u=Value.ref a:=rx
 exact zau hu I3 g ry rv fun s4 I4=>⟨σ,H4,I4,q3⟩
end
theorem z8a (h:Heap) (hb:Jm < h.objs.size):ObjOk P w H (h.push { cls:=.type "dict",data:=.dict #[] }) h.objs.size (.dK []) :=
 ⟨QR _,beq_eq_false_iff_ne.mpr (Ne.symm (Wo hb)),[],.nil,Heap.DictOf.new h⟩
def zdW:TE:=fun _ H Q=>∀ p,H p=none→Q (.ref p) (upd H p (.dK []))
section
variable {X:Cx} {pos:Pos}
theorem zb9:PE X (.Dict [] [] pos) zdW:=fun pins s σ H Q I h =>
 wpAny_Dict_empty ⟨.ref s.heap.objs.size,_,I.laid (a:=s.heap.objs.size) (o:=.dK []) (t':=s.toks) (fun _ _ q=>W4 _ q) (Wd _) (z8a s.heap I.big),rfl,h _ (I.hok.fresh (Wd _))⟩
end
structure M1 (X:Cx) (o:Expr) (m:Str) (apos:Pos) (e:Expr) (cpos:Pos):Prop where
 base:Qy o m X.env (eval o X.env)=eval o X.env
 few:((WZ cpos (W6 [e] X.env)).all (fun x=>!x.1) && (backToKw cpos (JC [] X.env)).all (fun x=>x.1.isSome)
  && decide (([e]:List Expr).length + ([]:List Keyword).length + (if ([]:List Keyword).isEmpty then 0 else 1) < 30))=true
 line:(apos.endLine == cpos.line)=true
 trees:WZ cpos (W6 [e] X.env)=[(false,eval e X.env)]
structure M2 (X:Cx) (o:Expr) (m:Str) (apos:Pos) (e f:Expr) (cpos:Pos):Prop where
 base:Qy o m X.env (eval o X.env)=eval o X.env
 few:((WZ cpos (W6 [e,f] X.env)).all (fun x=>!x.1) && (backToKw cpos (JC [] X.env)).all (fun x=>x.1.isSome)
  && decide (([e,f]:List Expr).length + ([]:List Keyword).length + (if ([]:List Keyword).isEmpty then 0 else 1) < 30))=true
 line:(apos.endLine == cpos.line)=true
 trees:WZ cpos (W6 [e,f] X.env)=[(false,eval e X.env),(false,eval f X.env)]
section
variable {X:Cx} {pins:List (Addr×Obj)} {σ:St} {H:Hp} {s:W1} {a:Addr} {y d:V} {u r:Value} {o:Option V} {A:Wn} {E:Value→W1→Prop}
end
section
variable {X:Cx} {o e f:Expr} {apos cpos:Pos} {td ty tx:TE}
end
section
variable {X:Cx} {pins:List (Addr×Obj)} {σ:St} {H:Hp} {s:W1} {a:Addr} {kvs:List (Key×V)} {A:Wn} {E:Value→W1→Prop}
end
section
variable {X:Cx} {pins:List (Addr×Obj)} {σ:St} {H:Hp} {s:W1} {a:Addr} {y:V} {u:Value} {A:Wn} {E:Value→W1→Prop}
end
end L2
namespace Att
open PySem PySem.W PySem.Calls PyProof.Rows
theorem z4Z:∀ (ns:List Int) (vs:List Value),WellAll P h vs (ns.map WData.int)→IntsAre vs ns:=by
 intro ns
 induction ns with
 | nil =>
  intro vs w
  rw [List.map_nil] at w
  cases w
  exact .nil
 | cons n ns ih =>
  intro vs w
  rw [Wr] at w
  cases w with
  | cons a b =>
   cases a
   exact .cons _ _ (ih _ b)
theorem z99 {l:OpenLaw} {n:Nat} (hn:l.most=some n) {P:Params} {h:Heap} {args:List WData} {vals:List Value}
  (hpre:l.row.toRowW.claim.pre args=true) (hwl:WellAll P h vals args) :
  ∃ a vs ns,vals=[Value.ref a]∧args=[WData.list (ns.map WData.int)]∧h.get? a=some { cls:=.type "list",data:=.seq vs.toArray }∧IntsAre vs ns∧ns.length≤n:=by
 have hsh:WShape.hasAll [] args [.list .int]=true:=(pre_splitW hpre).1
 have hc:l.pre.holds [] { args:=args } = true:=(pre_splitW hpre).2
 obtain ⟨d,r,rfl,h1,h2⟩:=hasAllW_cons hsh
 obtain rfl:=hasAllW_nil h2
 obtain ⟨xs,rfl,h3⟩:=hasW_list h1
 obtain ⟨ns,rfl⟩:=items_int h3
 have hlen:ns.length≤n:=by
  unfold OpenLaw.pre at hc
  have h4:(WTm.not (.lt (.lit (.int (n:Int))) (.len (.arg 0)))).holds [] { args:=[.list (ns.map .int)] } = true:=by
   have h4:=(holds_andW hc).1
   rw [hn] at h4
   exact h4
  have h5:=condW_of h4 (w_not (w_lt w_lit (w_len_list (w_arg rfl))))
  rw [Ws] at h5
  refine Nat.le_of_not_lt fun q=>?_
  have q':(n:Int) < ((ns.length:Nat):Int):=by omega
  first
   | (rw [decide_eq_true q'] at h5; exact absurd h5 (by decide))
   | (simp at h5; omega)
 cases hwl with
 | cons w1 w2 =>
  cases w2
  cases w1 with
  | list ho hall=>exact ⟨_,_,ns,rfl,rfl,ho,z4Z ns _ hall,hlen⟩
theorem z9v (l:OpenLaw) (args:List WData):l.row.toRowW.claim.post args (.bool true) args=true :=
 postW_of (r:=l.row.toRowW) (X:=(true == true))
  (show WShape.has [] (.bool true) .bool=true by first | rfl | decide | simp [WShape.has,WShape.arms,WShape.armsAll])
  (show (WTm.eq .res (.lit (.bool true))).value [] { args:=args,res:=some (.bool true),after:=args } = some (.bool (true == true)) from w_eq_bool (w_res rfl) w_lit) rfl
theorem attach_call {l:OpenLaw} {n:Nat} {q:Wj} {loose:List Str} {XP:(Str→Option Value)→Heap→Prop} {YP:Wp→Heap→Prop} {d:DefRec}
  (hn:l.most=some n) (hdf:d.params.defaults=[])
  (call:∀ (w:Wp) (s₀ s₁:W1) (mg mb:Str→Option Value) (fa:Addr) (o:Obj) (pm cd doc:Value) (a:Addr) (vs:List Value) (ns:List Int),
   Ground q loose [] XP w s₀ mg mb s₁.heap→YP w s₁.heap →
   s₁.heap.get? fa=some o→o.data = .func (docDef d.name d.params d.body d.scope pm cd doc)→s₁.heap.CodeRec cd d.name→mg d.name=some (.ref fa) →
   s₁.heap.get? a=some { cls:=.type "list",data:=.seq vs.toArray }→IntsAre vs ns→ns.length≤n→s₁.gens = #[] →
   Q9 (model l.prog w) callerA (.call (.ref fa) ⟨[.ref a],[]⟩) (fun r s'=>r = .ok (.ret (.bool true))∧OldK s₁.heap s'.heap∧s'.os=s₁.os∧AllBare s'.gens) s₁) :
  WalkO q loose XP YP l.row.toRowW d [] (fun f vs=>PySem.call f vs):=by
 intro w s₀ s₁ mg mb G Y fa o pm cd doc dV kV ho hd hcd hD hmg hg args vals as hpre hlay hrd hwl hlo
 obtain rfl:dV = .none:=Dflts.none hD hdf
 obtain rfl:kV = .none:=Dflts.noKw hD
 obtain ⟨a,vs,ns,rfl,rfl,hobj,hints,hlen⟩:=z99 hn hpre hwl
 refine enter_call (QT (call w s₀ s₁ mg mb fa o pm cd doc a vs ns G Y ho (fd_plain hd) hcd hmg hobj hints hlen hg) fun r s' hq=>?_)
 obtain ⟨rfl,h2,h3,h4⟩:=hq
 exact ⟨.inl ⟨.bool true,.bool true,[],rfl,fun _=>rfl,.bool true,z9v l _,fun _=>⟨List.Pairwise.nil,fun _ hm=>(nomatch hm)⟩⟩,h2,h3,h4⟩
section
variable {prog:Wj} {w:Wp} {A:Wn} {E:Value→W1→Prop} {s:W1} {K:Frag}
end
end Att
namespace L2
open PySem PySem.Spec PyProof.Rows
theorem vals_ints:∀ {vs:List Value} {ns:List Int},IntsAre vs ns→Vals (ns.map V.int) vs
 | _,_,.nil=>.nil
 | _,_,.cons n t h=>.cons ⟨t,rfl⟩ (vals_ints h)
def Only (H:Hp):Prop:=∀ b,H b=none∨∃ o xs,H b=some (.frz o (.lst xs))
theorem zbv {P:Wj} {w:Wp} {K:W2} {mg mb:Str→Option Value} {CX:CXT} {k:Nat} {fa a:Addr} {fd:WM} {x:Str} {sp:Sp} {s₁:W1} {vs:List Value} {ns:List Int}
  (KX:K.In s₁.heap) (hns:s₁.heap.Ns Wq mg) (hb:s₁.heap.Ns builtinsNs mb) (hbb:∀ x:Str,x≠"__name__"→mb x=Qk x) (hlim:s₁.heap.NoLimit) (hg:s₁.gens = #[])
  (ha:s₁.heap.get? a=some { cls:=.type "list",data:=.seq vs.toArray }) (hi:IntsAre vs ns) (hl:ns.length≤W8) (hr:Room k callerA)
  (F:∀ base:Heap,K.In base→base.Ns Wq mg→FnOk P w K mg base CX k fa fd [x] sp) (hbind:∀ (s:W1) (u:Value),BindsTo s fd ⟨[u],[]⟩ [(x,u)])
  (hsp:∀ H:Hp,Only H→SqL K H a (ns.map V.int)→sp [.ref a] H (fun v _=>v = .bl true) fun _ _ _=>False)
  (hCX:∀ H e s',CX [] H s₁ (fun _ _ _=>False) e s'→False) :
  Q9 (model P w) callerA (.call (.ref fa) ⟨[.ref a],[]⟩) (fun r s'=>r = .ok (.ret (.bool true))∧OldK s₁.heap s'.heap∧s'.os=s₁.os∧AllBare s'.gens) s₁:=by
 have rv:=vals_ints hi
 have lenV:=hi.length
 -- from an abstract heap in which nothing but the script may be tracked
 have core:∀ H:Hp,Only H→SqL K H a (ns.map V.int)→HOk P w H s₁.heap→(∀ b,H b≠none→b=a)→(H a≠none→K.lookup a=none) →
   Q9 (model P w) callerA (.call (.ref fa) ⟨[.ref a],[]⟩) (fun r s'=>r = .ok (.ret (.bool true))∧OldK s₁.heap s'.heap∧s'.os=s₁.os∧AllBare s'.gens) s₁:=by
  intro H hO hS hok hA hK
  have base_of:∀ {b:Addr} {o:Obj},s₁.heap.get? b=some o→H b=none→(hidT s₁.heap H).get? b=some o:=fun e n=>zbz e n
  have noA:∀ {b:Addr} {o:Obj} {es:Array DictEntry} {ep:Nat},s₁.heap.get? b=some o→o.data = .dict es ep→H b=none:=fun {b o es ep} e d=>by
   cases q:H b with
   | none=>rfl
   | some u =>
    have e':b=a:=hA b (by rw [q]; simp)
    subst e'
    rw [ha] at e; cases e
    have d':Data.seq vs.toArray _=Data.dict es ep:=d
    cases d'
  have nsK:∀ {b:Addr} {m:Str→Option Value},s₁.heap.Ns b m→(hidT s₁.heap H).Ns b m:=fun {b m} ⟨o,es,ep,e,d,r⟩=>⟨o,es,ep,base_of e (noA e d),d,r⟩
  have hKb:K.In (hidT s₁.heap H):=fun b o e=>base_of (KX b o e) (by
   cases q:H b with
   | none=>rfl
   | some u =>
    have e':b=a:=hA b (by rw [q]; simp)
    subst e'
    rw [hK (by rw [q]; simp)] at e; cases e)
  have hM:Mod K mg (hidT s₁.heap H):=⟨hKb,nsK hns,⟨mb,nsK hb,hbb⟩,let ⟨mc,h1,h2⟩:=hlim; ⟨mc,nsK h1,h2⟩⟩
  have e0:Env0 P w K mg (hidT s₁.heap H) callerA [] s₁ H:=⟨rfl,hM,fun b o e=>zdl e,Nat.le_of_eq (za4 _ _),trivial,fun b hb=>absurd (show b ∈ ([]:List Addr) from hb) (by simp),hok,.of_eq hg⟩
  refine QT ((F _ hKb (nsK hns)).run callerA [] s₁ H ⟨[.ref a],[]⟩ [.ref a] [.ref a] _ _ hr e0 (hbind s₁ (.ref a)) (.cons rfl .nil) (hsp H hO hS)) fun r s' h=>?_
  cases r with
  | error e=>exact (hCX H e s' h).elim
  | ok fl =>
   cases fl with
   | next=>exact False.elim h
   | brk=>exact False.elim h
   | cont=>exact False.elim h
   | ret u =>
    obtain ⟨v,H',os,bare,un,hok',r',q⟩:=h
    have q':v = .bl true:=q
    subst q'
    obtain rfl:u=Value.bool true:=r'
    refine ⟨rfl,OldK.of_keep fun b o e=>?_,os,bare⟩
    cases q:H b with
    | none=>exact un.keep b o e q (by intro z; exact absurd (show b ∈ ([]:List Addr) from z) (by simp)) (by simp)
    | some u =>
     rcases hO b with z | ⟨ob,xs,z⟩
     ·rw [q] at z; cases z
     ·have z2:=un.frzs b ob _ z
      obtain ⟨e1,_⟩:=hok b _ z
      obtain ⟨e2,_⟩:=hok' b _ z2
      rw [e] at e1; cases e1
      exact e2
 cases hk:K.lookup a with
 | some o =>
  -- the script is one of the module's own objects
  have e:=KX a o hk
  rw [ha] at e
  cases e
  refine core (fun _=>none) (fun _=>.inl rfl) (.inr ⟨_,vs.toArray,_,hk,rfl,rfl,rfl,by rw [Wl,lenV]; exact hl,by simpa using rv⟩) (fun b u z=>by have z':(none:Option HO)=some u:=z; cases z') (fun b z=>absurd rfl z) fun z=>absurd rfl z
 | none =>
  refine core (fun b=>if b=a then some (.frz { cls:=.type "list",data:=.seq vs.toArray } (.lst (ns.map V.int))) else none) (fun b=>?_) (.inl (.inr ⟨{ cls:=.type "list",data:=.seq vs.toArray },if_pos rfl⟩)) (fun b u z=>?_) (fun b z=>?_) fun _=>hk
  ·by_cases hb:b=a
   ·exact .inr ⟨_,_,if_pos hb⟩
   ·exact .inl (if_neg hb)
  ·by_cases hb:b=a
   ·have z':=(if_pos hb).symm.trans z
    cases z'
    subst hb
    exact ⟨ha,by rw [Ws]; exact hl,vs,_,rv,ha⟩
   ·have z':=(if_neg hb).symm.trans z
    cases z'
  ·by_cases hb:b=a
   ·exact hb
   ·exact absurd (if_neg hb) z
abbrev KOf {K:W2} {h:Heap} (_:K.In h):W2:=K
theorem walk_of {l:PySem.W.OpenLaw} {n k:Nat} {q:Wj} {loose:List Str} {XP:(Str→Option Value)→Heap→Prop} {YP:Wp→Heap→Prop} {d:DefRec} {K:Params→W2} {CX:Wp→CXT} {sp:Wp→Sp} {x:Str}
  (hn:l.most=some n) (hn2:n≤W8) (hdf:d.params.defaults=[]) (hr:Room k callerA)
  (hY:∀ (w:Wp) (h:Heap),YP w h→(K w.params).In h)
  (F:∀ (w:Wp) (mg:Str→Option Value) (fa:Addr) (h:Heap),(K w.params).In h→h.Ns Wq mg→mg d.name=some (.ref fa) →
   ∃ fd:WM,(∀ (s:W1) (u:Value),BindsTo s fd ⟨[u],[]⟩ [(x,u)]) ∧
    ∀ base:Heap,(K w.params).In base→base.Ns Wq mg→FnOk l.prog w (K w.params) mg base (CX w) k fa fd [x] (sp w))
  (hsp:∀ (w:Wp) (H:Hp) (a:Addr) (ns:List Int),ns.length≤n→Only H→SqL (K w.params) H a (ns.map V.int)→sp w [.ref a] H (fun v _=>v = .bl true) fun _ _ _=>False)
  (hCX:∀ (w:Wp) (H:Hp) (s:W1) (e:Value) (s':W1),CX w [] H s (fun _ _ _=>False) e s'→False) :
  PySem.W.WalkO q loose XP YP l.row.toRowW d [] (fun f vs=>PySem.call f vs):=by
 refine Att.attach_call hn hdf fun w s₀ s₁ mg mb fa o pm cd doc a vs ns G Y ho hd hcd hmg hobj hints hlen hg=>?_
 have KX:=hY w _ Y
 obtain ⟨fd,hb,hF⟩:=F w mg fa _ KX G.T.g hmg
 exact zbv KX G.T.g G.T.b G.T.builtins G.T.nolimit hg hobj hints (WO hlen hn2) hr hF hb (fun H hO hS=>hsp w H a ns hlen hO hS) fun H e s'=>hCX w H s₁ e s'
def z2d (s:Stmt):Arguments:=match s with
 | .FunctionDef _ a _ _ _ _ _ _ _ _=>a
 | _=>{ posonlyargs:=[],args:=[],vararg:=none,kwonlyargs:=[],kw_defaults:=[],kwarg:=none,defaults:=[] }
def z13 (s:Stmt):List Stmt:=match s with
 | .FunctionDef _ _ b _ _ _ _ _ _ _=>b
 | _=>[]
def z02 (s:Stmt):Scope:=match s with
 | .FunctionDef _ _ _ _ _ _ sc _ _ _=>sc
 | _=>{ kind:=.function,names:=[],isGenerator:=false,isCoroutine:=false }
abbrev CX0:CXT:=fun _ _ _ _ _ _=>False
abbrev E0:XK:=fun _ _ _=>False
theorem pass0:zaN CX0 X E0:=fun _ _ _ _ _ _ _ h=>h.elim
structure Fun (K:W2) (x qual:Str) (st:Stmt) (f:Addr) (fd:WM):Prop where
 ex:∃ (oc:Value) (od:Option Addr) (kV doc pm:Value) (an:Option Addr) (cdv ct:Value) (osl:Array (Option Value)),
  fd=Qm x qual (z2d st) (z13 st) (z02 st) .none kV doc pm an cdv ct∧K.lookup f=some ⟨oc,od,.func fd,osl⟩∧PySem.W.codeIn K cdv qual=true
 kp:Qe K (.ref f)=true
section
variable {P:Wj} {w:Wp} {K:W2} {mg:Str→Option Value} {base:Heap}
theorem Fun.ok {x qual:Str} {st:Stmt} {f:Addr} {fd:WM} {N ps:List Str} {k:Nat} {sp:Sp} (F:Fun K x qual st f fd) (S:FnScope N ps (z02 st)) (len:∀ vs H Q E,sp vs H Q E→vs.length=ps.length)
  (hbody:∀ (cdv:Value) (A:Wn) (outer:List Env) (s:W1) (H:Hp) (vs:List V) (Q:VK) (E:XK),Room k (A.deeper (J5 qual (z02 st) s.heap.objs.size f cdv))→sp vs H Q E →
   ∃ t,PSs (cxOf CX0 P w K mg base N qual (z02 st) f cdv A outer s H E).nox (z13 st) t∧t { nx:=fun _ H'=>Q .non H',rt:=Q } (start N vs) H):FnOk P w K mg base CX0 (k + 1) f fd ps sp:=by
 obtain ⟨oc,od,kV,doc,pm,an,cdv,ct,osl,rfl,lk,hcd⟩:=F.ex
 refine zfo lk hcd S len fun A outer s H vs Q E hr hsp=>?_
 obtain ⟨t,h,q⟩:=hbody cdv A outer s H vs Q E hr hsp
 exact ⟨t,h.nox,q⟩
theorem Fun.binds {x qual:Str} {st:Stmt} {f:Addr} {fd:WM} {ps:List Str} (F:Fun K x qual st f fd)
  (h:∀ (kV doc pm:Value) (an:Option Addr) (cdv ct:Value) (us:List Value),us.length=ps.length→bindArgs (Qm x qual (z2d st) (z13 st) (z02 st) .none kV doc pm an cdv ct) ⟨us,[]⟩=pure (ps.zip us)):Binds K fd ps []:=by
 obtain ⟨oc,od,kV,doc,pm,an,cdv,ct,osl,rfl,lk,hcd⟩:=F.ex
 exact .all (h kV doc pm an cdv ct)
theorem z85 {x qual:Str} {st:Stmt} {f:Addr} {oc:Value} {od an:Option Addr} {osl:Array (Option Value)} {kV doc pm cdv ct:Value} (l:K.lookup f=some ⟨oc,od,.func (Qm x qual (z2d st) (z13 st) (z02 st) .none kV doc pm an cdv ct),osl⟩)
  (c:PySem.W.codeIn K cdv qual=true) (k:Qe K (.ref f)=true):Fun K x qual st f (Qm x qual (z2d st) (z13 st) (z02 st) .none kV doc pm an cdv ct):=⟨⟨oc,od,kV,doc,pm,an,cdv,ct,osl,rfl,l,c⟩,k⟩
end
theorem z95 (h:n≤1000):n < W8:=Nat.lt_of_le_of_lt h (by decide)
section
variable {X:Cx}
theorem pv (i:Nat) (hN:X.N[i]? = some x:=by rfl) (hv:Vis X.env.scope x:=by first | exact Or.inl rfl | exact Or.inr (Or.inl rfl) | exact Or.inr (Or.inr rfl)) (hd:(x == ("__debug__" : Str))=false:=by decide)
  (hcd:(x == ("__classdict__" : Str))=false:=by decide):PE X (.Name x pos) (tVar i):=zeE hN hv hd hcd
theorem zaG:CallR X (.builtin "len") (fun xs H Q=>∃ a kvs,xs=[V.ref a]∧H a=some (.dK kvs)∧Q (.int kvs.length) H):=by
 intro pins s σ H xs us Q I r h
 obtain ⟨a,kvs,rfl,ha,q⟩:=h
 obtain ⟨u,rfl,ru⟩:=z3R r
 cases ru
 exact d_len I (.inl ha) fun t s' I'=>⟨.int kvs.length,H,I',⟨t,rfl⟩,q⟩
end
section
variable {κ:Type} [DecidableEq κ]
end
def z1D (cells:List (Str×Addr)):List (Str×NameKind)→List (Str×Addr)→List (Str×Addr)
 | [],acc=>acc
 | (n,k) :: r,acc=>z1D cells r (if k == .free then (match cells.lookup n with | some a=>(n,a) :: acc | none=>acc) else acc)
theorem z3v (f:Str×NameKind→List (Str×Addr)→Sem (ForInStep (List (Str×Addr))))
  (hf:∀ name kind cs,f (name,kind) cs=if kind == .free then (do let a ← cellOf env name; pure (.yield ((name,a) :: cs))) else pure (.yield cs)) :
  ∀ (names:List (Str×NameKind)) (acc:List (Str×Addr)),(∀ x ∈ names,x.2=NameKind.free→∃ c,env.cells.lookup x.1=some c)→(forIn names acc f:Sem (List (Str×Addr)))=pure (z1D env.cells names acc)
 | [],acc,_=>by rw [List.forIn_nil]; rfl
 | (n,k) :: r,acc,h=>by
  rw [List.forIn_cons,hf]
  unfold z1D
  by_cases hk:(k == NameKind.free)=true
  ·obtain ⟨c,hc⟩:=h (n,k) Wm (by simpa using hk)
   have hc':env.cells.lookup n=some c:=hc
   have e:cellOf env n=pure c:=by unfold cellOf; rw [hc']
   rw [if_pos hk,if_pos hk,e,hc']
   exact z3v f hf r _ fun x hx=>h x (Wc _ hx)
  ·rw [if_neg hk,if_neg hk]
   exact z3v f hf r _ fun x hx=>h x (Wc _ hx)
theorem z8J (h:∀ x ∈ scope.names,x.2=NameKind.free→∃ c,env.cells.lookup x.1=some c):closureFor scope env=pure (z1D env.cells scope.names []):=by
 unfold closureFor
 dsimp only
 rw [z3v (env:=env) _ (fun name kind cs=>by cases hkc:kind == NameKind.free <;> simp [hkc]) scope.names [] h]
 rfl
theorem z5C:∀ (names:List (Str×NameKind)) (acc:List (Str×Addr)),(n,c) ∈ z1D cells names acc→(n,c) ∈ acc∨((n,NameKind.free) ∈ names∧cells.lookup n=some c)
 | [],acc,h=>.inl h
 | (y,k) :: r,acc,h=>by
  unfold z1D at h
  rcases z5C r _ h with q | ⟨q,e⟩
  ·by_cases hk:(k == NameKind.free)=true
   ·rw [if_pos hk] at q
    have hk':k=NameKind.free:=by simpa using hk
    cases e:cells.lookup y with
    | none=>rw [e] at q; exact .inl q
    | some a =>
     rw [e] at q
     rcases Wg.mp q with z | z
     ·cases z
      exact .inr ⟨by rw [hk']; exact Wm,e⟩
     ·exact .inl z
   ·rw [if_neg hk] at q; exact .inl q
  ·exact .inr ⟨Wc _ q,e⟩
theorem z57:∀ (names:List (Str×NameKind)) (acc:List (Str×Addr)),(acc.lookup n).isSome=true∨((n,NameKind.free) ∈ names∧(cells.lookup n).isSome=true)→((z1D cells names acc).lookup n).isSome=true
 | [],acc,h=>h.elim id fun z=>absurd z.1 (by simp)
 | (y,k) :: r,acc,h=>by
  unfold z1D
  apply z57 r
  by_cases hk:(k == NameKind.free)=true
  ·rw [if_pos hk]
   cases e:cells.lookup y with
   | none =>
    rcases h with h | ⟨h1,h2⟩
    ·exact .inl h
    ·rcases Wg.mp h1 with z | z
     ·cases z
      rw [e] at h2; cases h2
     ·exact .inr ⟨z,h2⟩
   | some a =>
    by_cases hn:(n == y)=true
    ·refine .inl ?_
     show (List.lookup n ((y,a) :: acc)).isSome=true
     rw [WJ,hn]
     rfl
    ·rcases h with h | ⟨h1,h2⟩
     ·refine .inl ?_
      show (List.lookup n ((y,a) :: acc)).isSome=true
      have hn':(n == y)=false:=by simpa using hn
      rw [WJ,hn']
      exact h
     ·rcases Wg.mp h1 with z | z
      ·cases z
       exact absurd (by simp) hn
      ·exact .inr ⟨z,h2⟩
  ·rw [if_neg hk]
   rcases h with h | ⟨h1,h2⟩
   ·exact .inl h
   ·rcases Wg.mp h1 with z | z
    ·cases z
     exact absurd rfl hk
    ·exact .inr ⟨z,h2⟩
theorem zaC:∀ (names:List (Str×NameKind)) (h:Heap) (acc:List (Str×Addr)),(n,c) ∈ Qu h.objs.size names acc →
  (n,c) ∈ acc∨((n,NameKind.cell) ∈ names∧h.objs.size≤c∧(JL h names).IsCell c none)
 | [],_,_,h=>.inl h
 | (y,k) :: r,h,acc,hm=>by
  unfold Qu at hm
  unfold JL
  by_cases hk:(k == NameKind.cell)=true
  ·rw [if_pos hk] at hm
   rw [if_pos hk]
   have hk':k=NameKind.cell:=by simpa using hk
   have sz:(h.push { cls:=.type "cell",data:=.cell none }).objs.size=h.objs.size + 1:=QP ..
   rw [← sz] at hm
   rcases zaC r _ _ hm with q | ⟨q1,q2,q3⟩
   ·rcases Wg.mp q with z | z
    ·cases z
     refine .inr ⟨by rw [hk']; exact Wm,Wd _,?_⟩
     exact Heap.IsCell.keeps ⟨_,Wi _ rfl,rfl⟩ (pushCells_keeps r _)
    ·exact .inl z
   ·exact .inr ⟨Wc _ q1,by rw [sz] at q2; omega,q3⟩
  ·rw [if_neg hk] at hm
   rw [if_neg hk]
   rcases zaC r _ _ hm with q | ⟨q1,q2,q3⟩
   ·exact .inl q
   ·exact .inr ⟨Wc _ q1,q2,q3⟩
theorem zaD:∀ (names:List (Str×NameKind)) (k:Nat) (acc:List (Str×Addr)),(∀ n n' c,(n,c) ∈ acc→(n',c) ∈ acc→n=n')→(∀ n c,(n,c) ∈ acc→c < k) →
  ∀ n n' c,(n,c) ∈ Qu k names acc→(n',c) ∈ Qu k names acc→n=n'
 | [],_,_,h,_=>h
 | (y,kd) :: r,k,acc,h,hb=>by
  unfold Qu
  by_cases hk:(kd == NameKind.cell)=true
  ·rw [if_pos hk]
   refine zaD r (k + 1) _ (fun n n' c h1 h2=>?_) fun n c hm=>?_
   ·rcases Wg.mp h1 with e | h1 <;> rcases Wg.mp h2 with e' | h2
    ·cases e; cases e'; rfl
    ·cases e; exact absurd (hb _ _ h2) (Qq _)
    ·cases e'; exact absurd (hb _ _ h1) (Qq _)
    ·exact h n n' c h1 h2
   ·rcases Wg.mp hm with e | hm
    ·cases e; exact JZ _
    ·exact Qf (hb _ _ hm)
  ·rw [if_neg hk]
   exact zaD r k acc h hb
theorem z0U {env:Env} {x:Str}:∀ {names:List (Str×NameKind)} {k:NameKind},
  (names.map fun (y:Str×NameKind)=>if (y.2 == NameKind.free && env.scope.kind == .function && env.kindOf y.1 == some .cell) then (y.1,NameKind.cell) else (y.1,y.2)).lookup x=some k →
  names.lookup x=some k∨(k=NameKind.cell∧names.lookup x=some .free)
 | [],_,h=>by simp at h
 | (n,kd) :: r,k,h=>by
  rw [Wr] at h
  have ih:=@z0U env x r k
  cases hx:x == n with
  | true =>
   by_cases hc:(kd == NameKind.free && env.scope.kind == .function && env.kindOf n == some .cell)=true
   ·rw [if_pos hc,WJ,hx] at h
    cases h
    simp only [Wh] at hc
    have:kd=NameKind.free:=by simpa using hc.1.1
    exact .inr ⟨rfl,by rw [WJ,hx,this]⟩
   ·rw [if_neg hc,WJ,hx] at h
    cases h
    exact .inl (by rw [WJ,hx])
  | false =>
   have h':(r.map fun (y:Str×NameKind)=>if (y.2 == NameKind.free && env.scope.kind == .function && env.kindOf y.1 == some .cell) then (y.1,NameKind.cell) else (y.1,y.2)).lookup x=some k:=by
    by_cases hc:(kd == NameKind.free && env.scope.kind == .function && env.kindOf n == some .cell)=true
    ·rw [if_pos hc,WJ,hx] at h; exact h
    ·rw [if_neg hc,WJ,hx] at h; exact h
   rw [WJ,hx]
   exact ih h'
def z2m (X:Cx) (scope:Scope) (s₀:W1) (H₀:Hp) (ex:List Addr):Cx :=
 { X with
  env:={ scope:=relabel scope X.env,locals:=s₀.heap.objs.size,globals:=X.env.globals,cells:=Qu (s₀.heap.objs.size + 1) scope.names (z1D X.env.cells scope.names []),qual:=X.env.qual,func:=none,code:=X.env.code,frame:=X.env.frame,builtins:=X.env.builtins }
  s₀:=s₀
  H₀:=H₀
  outer:=X.stack
  ex:=ex
  fn:=fun x=>scope.names.lookup x == some .cell
  pn:=[]
  xe:=fun _ _=>False }
structure CScope (X:Cx) (scope:Scope) (cs:List Nat):Prop where
 kind:scope.kind = .function
 names:∀ x ∈ scope.names,x.2 = .local→scope.names.lookup x.1=some .local
 free:∀ x ∈ scope.names,x.2 = .free→X.env.kindOf x.1=some .cell∨X.env.kindOf x.1=some .free
 nd:(scope.names.map (·.1)).Nodup
 own:∀ (i:Nat) x,X.N[i]? = some x→scope.names.lookup x=some .local∨scope.names.lookup x=some .cell→i ∈ cs
def clr (cs:List Nat) (σ:St):St:=cs.foldl (fun σ i=>σ.set i none) σ
theorem z65 (cs:List Nat):∀ σ:St,(clr cs σ).length=σ.length:=by
 induction cs with
 | nil=>intro σ; rfl
 | cons i r ih =>
  intro σ
  show (clr r (σ.set i none)).length=_
  rw [ih]; simp
theorem z30:∀ (cs:List Nat) (σ:St) (i:Nat) (v:V),(clr cs σ)[i]? = some (some v)→σ[i]? = some (some v)∧i ∉ cs:=by
 intro cs
 induction cs with
 | nil=>intro σ i v h; exact ⟨h,by simp⟩
 | cons j r ih =>
  intro σ i v h
  have h':(clr r (σ.set j none))[i]? = some (some v):=h
  obtain ⟨h1,h2⟩:=ih _ i v h'
  by_cases e:j=i
  ·subst e
   rw [WU] at h1
   simp at h1
  ·rw [W7 e] at h1
   exact ⟨h1,by simp only [Wg,not_or]; exact ⟨Ne.symm e,h2⟩⟩
theorem z4R:∀ {l:List (Str×α)},(l.map (·.1)).Nodup→(x,k) ∈ l→(x,k') ∈ l→k=k'
 | (y,j) :: r,nd,h1,h2=>by
  rw [Wr,List.nodup_cons] at nd
  rcases Wg.mp h1 with e | g1 <;> rcases Wg.mp h2 with e' | g2
  ·cases e; cases e'; rfl
  ·cases e; exact absurd (Q6 (f:=(·.1)) g2) nd.1
  ·cases e'; exact absurd (Q6 (f:=(·.1)) g1) nd.1
  ·exact z4R nd.2 g1 g2
section
variable {X:Cx} {pins:List (Addr×Obj)} {σ:St} {H:Hp} {s:W1} {scope:Scope} {cs:List Nat} {fp:List Addr}
theorem z8H (I:Inv X pins σ H s) (S:CScope X scope cs) (hf:∀ b ∈ fp,FpOk X pins H b) (hlt:∀ b ∈ fp,b < s.heap.objs.size) :
  Inv (z2m X scope s H fp) [] (clr cs σ) H { s with heap:=JL (s.heap.push { cls:=.type "dict",data:=.dict #[] }) scope.names }:=by
 have sz:(s.heap.push { cls:=.type "dict",data:=.dict #[] }).objs.size=s.heap.objs.size + 1:=QP ..
 have kp:∀ b o,s.heap.get? b=some o→(JL (s.heap.push { cls:=.type "dict",data:=.dict #[] }) scope.names).get? b=some o:=fun b o e=>pushCells_keeps _ _ b o (W4 _ e)
 have clo:∀ n c,(n,c) ∈ z1D X.env.cells scope.names []→(n,NameKind.free) ∈ scope.names∧X.env.cells.lookup n=some c:=fun n c h=>(z5C _ _ h).elim (fun z=>absurd z (by simp)) id
 have cltm:∀ n c,(n,c) ∈ z1D X.env.cells scope.names []→c < s.heap.objs.size:=fun n c h=>by
  obtain ⟨v,q⟩:=I.cell n c (clo n c h).2
  exact q.lt
 have cel:∀ n c,(n,c) ∈ Qu (s.heap.objs.size + 1) scope.names (z1D X.env.cells scope.names []) →
   ((n,NameKind.free) ∈ scope.names∧X.env.cells.lookup n=some c)∨((n,NameKind.cell) ∈ scope.names∧s.heap.objs.size + 1≤c∧(JL (s.heap.push { cls:=.type "dict",data:=.dict #[] }) scope.names).IsCell c none):=fun n c h=>by
  rw [← sz] at h
  rcases zaC _ _ _ h with q | q
  ·exact .inl (clo n c q)
  ·rw [sz] at q; exact .inr q
 have cinj:=zaD scope.names (s.heap.objs.size + 1) (z1D X.env.cells scope.names []) (fun n n' c h1 h2=>I.ok.inj n n' c (clo n c h1).2 (clo n' c h2).2) (fun n c h=>Qf (cltm n c h))
 have hasC:∀ x ∈ scope.names,x.2 = .free→∃ c,X.env.cells.lookup x.1=some c:=fun x hx hk=>I.ok.has x.1 (S.free x hx hk)
 have fpn:∀ b ∈ fp,b ∉ frs X.stack:=fun b hb z=>by
  obtain ⟨_,f1,f2,_⟩:=hf b hb
  rcases Wg.mp (I.stkSub b z) with e | e
  ·exact f1 e
  ·exact f2 e
 have kindC:∀ x,(z2m X scope s H fp).env.kindOf x=some .cell∨(z2m X scope s H fp).env.kindOf x=some .free→scope.names.lookup x=some .cell∨scope.names.lookup x=some .free:=fun x h=>by
  rcases h with h | h
  ·have h':(relabel scope X.env).names.lookup x=some .cell:=h
   rcases z0U (env:=X.env) (names:=scope.names) h' with q | ⟨_,q⟩
   ·exact .inl q
   ·exact .inr q
  ·have h':(relabel scope X.env).names.lookup x=some .free:=h
   rcases z0U (env:=X.env) (names:=scope.names) h' with q | ⟨q,_⟩
   ·exact .inr q
   ·cases q
 have hasIt:∀ x,scope.names.lookup x=some .cell∨scope.names.lookup x=some .free→∃ c,(Qu (s.heap.objs.size + 1) scope.names (z1D X.env.cells scope.names [])).lookup x=some c:=fun x h=>by
  refine QI.mp (Jr scope.names _ _ ?_)
  rcases h with h | h
  ·exact .inl h
  ·refine .inr (z57 _ _ (.inr ⟨Wy h,?_⟩))
   obtain ⟨c,hc⟩:=hasC _ (Wy h) rfl
   exact Option.isSome_iff_exists.mpr ⟨c,hc⟩
 have ns0:(JL (s.heap.push { cls:=.type "dict",data:=.dict #[] }) scope.names).Ns s.heap.objs.size fun _=>none:=(Heap.Ns.new s.heap (.type "dict")).keeps (pushCells_keeps _ _)
 refine ⟨⟨I.ok.mod,S.kind,I.ok.glob,I.ok.blt,Wd _,fun y z c h1 h2=>cinj y z c (Wy h1) (Wy h2),fun x hx=>hasIt x (kindC x hx),fun x c hfn h=>?_,I.ok.hd,I.ok.frames,.inl rfl,
  fun b hb=>⟨Wo (hlt b hb),fun x c h e=>?_⟩,I.bs,WO I.ok.bsz I.sz,fun b o e hb=>?_,fpn,I.stack,I.stkFree⟩,
  rfl,I.bare,Un.kept kp,⟨fun _=>none,ns0,fun i x v h1 h2 h3=>?_⟩,fun x c h=>?_,I.hok.fresh (Wd _),fun x c h=>?_,fun p hp=>absurd (show p ∈ ([]:List (Addr×Obj)) from hp) (by simp),I.hok.kept kp,(z65 cs σ).trans I.len⟩
 ·rcases cel x c (Wy h) with q | q
  ·have hfn':scope.names.lookup x=some .cell:=by
    have:(scope.names.lookup x == some .cell)=true:=hfn
    exact eq_of_beq this
   have:=z4R S.nd q.1 (Wy hfn')
   cases this
  ·exact Nat.le_of_succ_le q.2.1
 ·subst e
  rcases cel x c (Wy h) with q | q
  ·exact (hf c hb).2.2.2.2.1 x c q.2 rfl
  ·exact absurd (Wx (hlt c hb) (Nat.le_of_succ_le q.2.1)) (Qq _)
 ·obtain ⟨_,_,_,f3,_⟩:=hf b hb
  rcases f3 with z | z
  ·exact I.ok.noex b o e z
  ·exact absurd (Wx (We (I.ok.bs b o e).1) z) (Qq _)
 ·obtain ⟨h2',hni⟩:=z30 cs σ i v h2
  have hni':¬ (scope.names.lookup x=some .local∨scope.names.lookup x=some .cell):=fun z=>hni (S.own i x h1 z)
  have hfree:scope.names.lookup x=some .free:=by
   rcases h3 with h3 | h3 | h3
   ·rcases z0U (env:=X.env) (names:=scope.names) h3 with q | ⟨q,_⟩
    ·exact absurd (.inl q) hni'
    ·cases q
   ·rcases z0U (env:=X.env) (names:=scope.names) h3 with q | ⟨_,q⟩
    ·exact absurd (.inr q) hni'
    ·exact q
   ·rcases z0U (env:=X.env) (names:=scope.names) h3 with q | ⟨q,_⟩
    ·exact q
    ·cases q
  have hk:=S.free _ (Wy hfree) rfl
  obtain ⟨m,hn,hl⟩:=I.loc
  have hvis:Vis X.env.scope x:=by
   rcases hk with hk | hk
   ·exact .inr (.inl hk)
   ·exact .inr (.inr hk)
  obtain ⟨u,r,l⟩:=hl i x v h1 h2' hvis
  refine ⟨u,r,?_⟩
  rcases l with ⟨k,_⟩ | ⟨_,c,hc,hcell⟩
  ·have k':X.env.kindOf x=some .local:=k
   rcases hk with hk | hk
   ·rw [show X.env.kindOf x=some .cell from hk] at k'; cases k'
   ·rw [show X.env.kindOf x=some .free from hk] at k'; cases k'
  ·obtain ⟨c',hc'⟩:=hasIt x (.inr hfree)
   have e:c'=c:=by
    rcases cel x c' (Wy hc') with q | q
    ·have q2:=q.2
     rw [hc] at q2; exact (Ww q2).symm
    ·have:=z4R S.nd q.1 (Wy hfree)
     cases this
   subst e
   refine .inr ⟨?_,c',hc',hcell.keeps kp⟩
   rcases h3 with h3 | h3 | h3
   ·rcases z0U (env:=X.env) (names:=scope.names) h3 with q | ⟨q,_⟩
    ·rw [hfree] at q; cases q
    ·cases q
   ·exact .inl h3
   ·exact .inr h3
 ·rcases cel x c (Wy h) with q | q
  ·obtain ⟨v,z⟩:=I.cell x c q.2
   exact ⟨v,z.keeps kp⟩
  ·exact ⟨none,q.2.2⟩
 ·rcases cel x c (Wy h) with q | q
  ·exact I.freeC x c q.2
  ·exact I.hok.fresh (Nat.le_of_succ_le q.2.1)
end
abbrev NoX:Value→W1→Prop:=fun _ _=>False
def zcq (ifs:List Expr) (env:Env):Sem Bool:=forIn ifs true fun c r=>if r=true then do let ok ← isTrue c env (eval c env); pure (ForInStep.yield ok) else pure (ForInStep.yield r)
theorem z6T (I:Nat→W1→Prop)
  (turn:∀ n s,I n s→W5 (model prog w) A (Qr it) (fun r s₁=>match r with
   | none=>R (.ok .next) s₁
   | some v=>W5 (model prog w) A (letOwnedTupleGo target it v) (fun _ s₁'=>W5 (model prog w) A (assign target env v) (fun _ s₂ =>
     W5 (model prog w) A (zcq ifs env) (fun ok s₃ =>
      if ok=true then W5 (model prog w) A (eval elt env) (fun x s₄ =>
       W5 (model prog w) A (call (.builtin "list.append") [acc,x]) (fun _ s₅=>∃ m,m < n∧I m s₅) NoX s₄) NoX s₃
      else ∃ m,m < n∧I m s₃) NoX s₂) NoX s₁') NoX s₁) NoX s)
  (n:Nat) (h:I n s) :
  Q9 (model prog w) A (.compLoop (.ListComp elt [⟨target,iter,ifs,0⟩] scope pos) 0 it acc env) R s:=by
 refine codeAny_loop rfl I (fun n s hI=>?_) n h
 show W5 _ A ((compTurn (.ListComp elt [⟨target,iter,ifs,0⟩] scope pos) 0 it acc env).onRaise (fun x=>do JM x env; theTreesLotGoes x)) _ _ s
 refine wpAny_noted ?_
 rw [compTurn_list]
 refine W0 (wpAny_standAt (W0 (WE (turn n s hI) (fun r s₁ h₁=>?_) fun _ _ h'=>h'.elim)))
 cases r with
 | none=>exact W3 h₁
 | some v =>
  refine W0 (WE h₁ (fun _ s₁' h₁'=>?_) fun _ _ h'=>h'.elim)
  refine W0 (WE h₁' (fun _ s₂ h₂=>W0 (WE h₂ (fun ok s₃ h₃=>?_) fun _ _ h'=>h'.elim)) fun _ _ h'=>h'.elim)
  cases ok with
  | false=>exact W3 ⟨rfl,h₃⟩
  | true =>
   exact W0 (W0 (WE h₃ (fun x s₄ h₄=>W0 (WE h₄ (fun _ s₅ h₅=>W3 (W3 ⟨rfl,h₅⟩)) fun _ _ h'=>h'.elim)) fun _ _ h'=>h'.elim))
theorem z8t
  (h:Q { scope,locals:=s.heap.objs.size,globals,cells:=Qu (s.heap.objs.size + 1) scope.names cl,qual,func:=none,code:=env.code,frame:=env.frame,builtins:=env.builtins }
   { s with heap:=JL (s.heap.push { cls:=.type "dict",data:=.dict #[] }) scope.names }):W5 M A (newFunctionEnv scope globals cl [] qual none .none (some env)) Q E s:=by
 simp only [newFunctionEnv,Option.isSome_some,if_true]
 refine W0 (wpAny_alloc ?_)
 refine W0 (wpAny_layCells _ (fun name kind cells=>by cases hkc:kind == NameKind.cell <;> simp [hkc]) _ _ _ _ ?_)
 rw [show ({ s with heap:=s.heap.push { cls:=.type "dict",data:=.dict #[] } }:W1).heap.objs.size=s.heap.objs.size + 1 from QP ..]
 exact W0 (W3 (W3 h))
def PTs (X:Cx) (ifs:List Expr) (t:TT):Prop :=
 ∀ (pins:List (Addr×Obj)) (s:W1) (σ:St) (H:Hp) (Q:Bool→Hp→Prop),Inv X pins σ H s→t σ H Q→W5 (model X.prog X.w) X.A (zcq ifs X.env) (TP X pins σ Q) X.xe s
def tYes:TT:=fun _ H Q=>Q true H
theorem zd3:PTs X [] tYes:=fun pins s σ H Q I h=>wpAny_tests_nil ⟨H,I,h⟩
theorem zd2 (h:PT X c t):PTs X [c] t:=fun pins s σ H Q I q=>wpAny_tests_one (h pins s σ H Q I q)
def Le (σ σ':St):Prop:=σ'.length=σ.length∧∀ (i:Nat) (v:V),σ[i]? = some (some v)→σ'[i]? = some (some v)
def zcs (cs:List Nat) (g:TG) (tt:TT) (te:TE) (σ:St) (Q:VK) (J:It) (H1:Hp):Prop :=
 ∀ l,H1 l=none→∃ W:Nat→Nat→Hp→Prop,(∃ m,W 0 m (upd H1 l (.lst [])))∧∀ i m H2,W i m H2 →
  (J.stop i H2∧Q (.ref l) H2) ∨
  (J.go i H2∧∀ x H3,J.yld i H2 x H3→g x (clr cs σ) H3 fun σ4 H4=>Le (clr cs σ) σ4∧tt σ4 H4 fun b H5 =>
   if b=true then te σ4 H5 fun v H6=>∃ ys m',H6 l=some (.lst ys)∧ys.length < W8∧m' < m∧W (i + 1) m' (upd H6 l (.lst (ys ++ [v]))) else ∃ m',m' < m∧W (i + 1) m' H5)
def zdY (cs:List Nat) (wi:TI) (g:TG) (tt:TT) (te:TE):TE:=fun σ H Q=>wi σ H fun J H1=>zcs cs g tt te σ Q J H1
section
variable {X:Cx} {pins:List (Addr×Obj)} {σ:St} {H:Hp} {s:W1} {scope:Scope} {cs:List Nat} {elt tg iter:Expr} {ifs:List Expr} {pos:Pos} {g:TG} {tt:TT} {te:TE}
theorem z8I {it:Addr} {fp:List Addr} {tn:Nat→Heap→Prop} {J:It} {Q:VK} {E:Value→W1→Prop} {RR:Value→Addr→Result→W1→Prop} (hc:X.calm=true) (I:Inv X pins σ H s) (S:CScope X scope cs)
  (T:Turn X.prog X.w X.K tg J fp it tn) (st:tn 0 s.heap) (hf:∀ b ∈ fp,FpOk X pins H b)
  (hg:∀ s₀ H₀ ex,PG (z2m X scope s₀ H₀ ex) tg g) (ht:∀ s₀ H₀ ex,PTs (z2m X scope s₀ H₀ ex) ifs tt) (he:∀ s₀ H₀ ex,PE (z2m X scope s₀ H₀ ex) elt te) (q:zcs cs g tt te σ Q J H)
  (hRR:∀ l C s' H',Inv X pins σ H' s'→FpOk X pins H' C→(∃ m,s'.heap.Ns C m)→Q (.ref l) H'→RR (.ref l) C (.ok .next) s') :
  W5 (model X.prog X.w) X.A (newList []) (fun acc s₃=>W5 (model X.prog X.w) X.A (newFunctionEnv scope X.env.globals (z1D X.env.cells scope.names []) [] X.env.qual none .none (some X.env)) (fun cenv s₄ =>
   Q9 (model X.prog X.w) X.A (.compStart (.ListComp elt [⟨tg,iter,ifs,0⟩] scope pos) 0 (.ref it) acc { cenv with scope:=relabel scope X.env }) (RR acc cenv.locals) s₄) E s₃) E s:=by
 refine WT ?_
 have hfr:H s.heap.objs.size=none:=I.hok.fresh (Wd _)
 obtain ⟨W,⟨m0,w0⟩,turn⟩:=q s.heap.objs.size hfr
 generalize hl:s.heap.objs.size=l at *
 have I3:Inv X pins σ (upd H l (.lst [])) { s with heap:=s.heap.push { cls:=.type "list",dict:=none,data:=.seq ([]:List Value).toArray } } :=
  I.laid (t':=s.toks) (fun b u e=>W4 _ e) (Nat.le_of_eq hl) ⟨QR _,[],0,.nil,by rw [← hl]; exact Wi _ rfl⟩
 have kp3:∀ b o,s.heap.get? b=some o→(s.heap.push { cls:=.type "list",dict:=none,data:=.seq ([]:List Value).toArray }).get? b=some o:=fun b o e=>W4 _ e
 have hfl:∀ b ∈ fp,b≠l:=fun b hb e=>by
  obtain ⟨o,ho,_⟩:=T.obj 0 _ st b hb
  exact absurd (We ho) (by rw [e,hl]; exact Qq _)
 have hf3:∀ b ∈ fp,FpOk X pins (upd H l (.lst [])) b:=fun b hb=>⟨by rw [z0i (hfl b hb)]; exact (hf b hb).1,(hf b hb).2⟩
 have st3:tn 0 (s.heap.push { cls:=.type "list",dict:=none,data:=.seq ([]:List Value).toArray }):=T.keep 0 _ _ st fun b _ o e=>kp3 b o e
 generalize hs3:({ s with heap:=s.heap.push { cls:=.type "list",dict:=none,data:=.seq ([]:List Value).toArray } }:W1)=s3 at I3
 have st3':tn 0 s3.heap:=by rw [← hs3]; exact st3
 have hlt3:∀ b ∈ fp,b < s3.heap.objs.size:=fun b hb=>by
  obtain ⟨o,ho,_⟩:=T.obj 0 _ st3' b hb
  exact We ho
 refine z8t ?_
 have I4:=z8H I3 S hf3 hlt3
 generalize hX:z2m X scope s3 (upd H l (.lst [])) fp=X' at I4
 generalize hs4:({ s3 with heap:=JL (s3.heap.push { cls:=.type "dict",data:=.dict #[] }) scope.names }:W1)=s4 at I4 ⊢
 have hg':=hg s3 (upd H l (.lst [])) fp
 have ht':=ht s3 (upd H l (.lst [])) fp
 have he':=he s3 (upd H l (.lst [])) fp
 rw [hX] at hg' ht' he'
 have st4:tn 0 s4.heap:=T.keep 0 _ _ st3' fun b _ o e=>by rw [← hs4]; exact pushCells_keeps _ _ b o (W4 _ e)
 have hP:X'.prog=X.prog:=by rw [← hX]; rfl
 have hw:X'.w=X.w:=by rw [← hX]; rfl
 have hA:X'.A=X.A:=by rw [← hX]; rfl
 have hK:X'.K=X.K:=by rw [← hX]; rfl
 have hc':X'.calm=true:=by rw [← hX]; exact hc
 have hxe:X'.xe=NoX:=by rw [← hX]; rfl
 have hloc:X'.env.locals=s3.heap.objs.size:=by rw [← hX]; rfl
 have henv:({ scope:=relabel scope X.env,locals:=s3.heap.objs.size,globals:=X.env.globals,cells:=Qu (s3.heap.objs.size + 1) scope.names (z1D X.env.cells scope.names []),qual:=X.env.qual,func:=none,code:=X.env.code,frame:=X.env.frame,builtins:=X.env.builtins }:Env)=X'.env:=by rw [← hX]; rfl
 have fpx:∀ {H':Hp},(∀ b ∈ fp,H' b=none)→∀ b ∈ fp,FpOk X' [] H' b:=fun {H'} hn b hb=>by
  have ex:X'.ex=fp:=by rw [← hX]; rfl
  have pn:X'.pn=[]:=by rw [← hX]; rfl
  refine ⟨hn b hb,(I4.ok.exf b (by rw [ex]; exact hb)).1,I4.ok.exfs b (by rw [ex]; exact hb),.inl (by rw [ex]; exact hb),(I4.ok.exf b (by rw [ex]; exact hb)).2,fun p hp=>?_⟩
  rw [pn] at hp
  simp at hp
 show Q9 (model X.prog X.w) X.A (.compStart (.ListComp elt [⟨tg,iter,ifs,0⟩] scope pos) 0 (.ref it) (.ref l) ({ scope:=relabel scope X.env,locals:=s3.heap.objs.size,globals:=X.env.globals,cells:=Qu (s3.heap.objs.size + 1) scope.names (z1D X.env.cells scope.names []),qual:=X.env.qual,func:=none,code:=X.env.code,frame:=X.env.frame,builtins:=X.env.builtins }:Env)) (RR (.ref l) s3.heap.objs.size) s4
 rw [henv]
 have loop:Q9 (model X.prog X.w) X.A (.compLoop (.ListComp elt [⟨tg,iter,ifs,0⟩] scope pos) 0 (.ref it) (.ref l) X'.env) (RR (.ref l) s3.heap.objs.size) s4:=by
  refine z6T (fun n s'=>∃ i H',Inv X' [] (clr cs σ) H' s'∧tn i s'.heap∧(∀ b ∈ fp,H' b=none)∧W i n H') ?_ m0 ⟨0,_,I4,st4,fun b hb=>(hf3 b hb).1,w0⟩
  rintro n s5 ⟨i,H5,I5,st5,fr5,w5⟩
  rcases turn i n H5 w5 with ⟨stop,qn⟩ | ⟨go,step⟩
  ·have:=T.done X' hP hw hK hc' i [] s5 (clr cs σ) H5 NoX I5 (fpx fr5) st5 stop
   rw [hA] at this
   refine thn this fun r s6 ⟨hr,I6⟩=>?_
   subst hr
   have b6:=I6.base
   have e1:X'.fs=frs X.stack:=by rw [← hX]; rfl
   have e2:X'.ex=fp:=by rw [← hX]; rfl
   have e3:X'.H₀=upd H l (.lst []):=by rw [← hX]; rfl
   have e4:X'.s₀=s3:=by rw [← hX]; rfl
   rw [e1,e2,e3,e4] at b6
   have o6:s6.os=s3.os:=by rw [← e4]; exact I6.os
   have hok6:HOk X.prog X.w H5 s6.heap:=by rw [← hP,← hw]; exact I6.hok
   have J6:Inv X pins σ H5 s6:=I3.call' o6 b6 hok6 I6.bare fun b hb=>by
    obtain ⟨_,f1,_,f3,f4,f5⟩:=hf3 b hb
    exact ⟨f3,f1,f4,f5⟩
   obtain ⟨m6,n6,_⟩:=I6.loc
   rw [hloc] at n6
   refine hRR l s3.heap.objs.size s6 H5 J6 (I3.fpOk (Wd _) ?_) ⟨m6,n6⟩ qn
   rw [← hloc]
   exact I6.free
  ·have:=T.item X' hP hw hK hc' i [] s5 (clr cs σ) H5 NoX I5 (fpx fr5) st5 go
   rw [hA] at this
   refine thn this fun r s6 ⟨u,hr,h6⟩=>?_
   subst hr
   refine thn h6 fun _ s7 ⟨x,H7,I7,r7,y7,st7,fr7⟩=>?_
   have I7':=I7.pinned (fpx fr7) (T.obj _ _ st7)
   have a8:=hg' _ s7 (clr cs σ) H7 x u _ I7' r7 (step x H7 y7)
   rw [hP,hw,hA,hxe] at a8
   refine thn a8 fun _ s8 ⟨σ8,H8,I8,le8,q8⟩=>?_
   have a9:=ht' _ s8 σ8 H8 _ I8 q8
   rw [hP,hw,hA,hxe] at a9
   refine thn a9 fun ok s9 ⟨H9,I9,q9⟩=>?_
   have back:∀ {H':Hp} {s':W1},Inv X' ([] ++ z6o fp s7.heap) σ8 H' s'→Inv X' [] (clr cs σ) H' s'∧tn (i + 1) s'.heap∧∀ b ∈ fp,H' b=none:=fun {H' s'} J=>by
    refine ⟨J.unpinned.weak (le8.1.symm) le8.2,T.keep _ _ _ st7 fun b hb o e=>(J.pin (b,o) (WR _ (WR _ (z39 hb e)))).1,fun b hb=>?_⟩
    obtain ⟨o,e,d⟩:=T.obj _ _ st7 b hb
    exact (J.pin (b,o) (WR _ (WR _ (z39 hb e)))).2.1
   cases ok with
   | false =>
    rw [if_neg Ql] at q9 ⊢
    obtain ⟨m',hm,w9⟩:=q9
    obtain ⟨b1,b2,b3⟩:=back I9
    exact ⟨m',hm,i + 1,H9,b1,b2,b3,w9⟩
   | true =>
    rw [if_pos rfl] at q9 ⊢
    have a10:=he' _ s9 σ8 H9 _ I9 q9
    rw [hP,hw,hA,hxe] at a10
    refine thn a10 fun x10 s10 ⟨v,H10,I10,r10,ys,m',hy,hz,hm,w10⟩=>?_
    have a11:=z6B (X:=X') _ s10 σ8 H10 (.ref l) [v] (.ref l) [x10] (fun _ H'=>W (i + 1) m' H') I10 rfl (.cons r10 .nil) ⟨l,ys,v,rfl,rfl,hy,hz,w10⟩
    rw [hP,hw,hA,hxe] at a11
    refine thn a11 fun _ s11 ⟨_,H11,I11,_,w11⟩=>?_
    obtain ⟨b1,b2,b3⟩:=back I11
    exact ⟨m',hm,i + 1,H11,b1,b2,b3,w11⟩
 exact codeAny_compStart_list loop (T.self X.A 0 s4 _ _ st4 loop)
theorem zdb (hc:X.calm=true) (S:CScope X scope cs) (hi:PI X tg iter wi) (hg:∀ s₀ H₀ ex,PG (z2m X scope s₀ H₀ ex) tg g) (ht:∀ s₀ H₀ ex,PTs (z2m X scope s₀ H₀ ex) ifs tt) (he:∀ s₀ H₀ ex,PE (z2m X scope s₀ H₀ ex) elt te)
  (hs:∀ x,JU iter X.env x=pure x:=by intro _; rfl):PE X (.ListComp elt [⟨tg,iter,ifs,0⟩] scope pos) (zdY cs wi g tt te):=by
 intro pins s σ H Q I h
 have hasC:∀ x ∈ scope.names,x.2 = .free→∃ c,X.env.cells.lookup x.1=some c:=fun x hx hk=>I.ok.has x.1 (S.free x hx hk)
 rw [eval_ListComp]
 refine wpAny_comprehension_free (use:=none) rfl hs (z8J hasC) S.kind S.names (thn (hi pins s σ H _ I h) fun xv s1 h1=>thn h1 fun itv s2 h2=>?_)
 obtain ⟨it,fp,tn,J,H2,e,I2,T,st2,f2,q2⟩:=h2
 subst e
 refine z8I (RR:=fun acc C=>compPost (model X.prog X.w) X.A X.xe none (EP X pins σ Q) acc C) hc I2 S T st2 f2 hg ht he q2 ?_
 intro l C s' H' I' fC ⟨m,n⟩ q
 exact ⟨m,n,fun h' hs'=>⟨.ref l,H',I'.turned (t':=s'.toks) (fun b o hb e=>(hs'.2 b hb).trans e) fC.1 fC.2.1 fC.2.2.2.1 fC.2.2.2.2.1 fC.2.2.2.2.2,rfl,q⟩⟩
end
end L2
set_option maxHeartbeats 4000000
namespace DV
open PySem PySem.Spec PyProof.Rows L2
abbrev Tx:=List Nat
def toS (x:Tx):Str:=⟨x.toArray⟩
theorem z3h (x:Tx):(toS x).cps.toList=x:=by simp [toS]
theorem z28 (x:Tx):(toS x).length=x.length:=by simp [toS,Str.length]
theorem z3S (h:toS x=toS y):x=y:=by
 have:=congrArg (fun z:Str=>z.cps.toList) h
 simpa [toS] using this
theorem z7I (z:Str):z=toS z.cps.toList:=by simp [toS]
abbrev DKey:=Sum Int Tx
def kOf:DKey→Key
 | .inl i=>.inl i
 | .inr x=>.inr (toS x)
inductive D where
 | non | bl (b:Bool) | int (i:Int) | str (x:Tx) | tup (xs:List D) | lst (xs:List D) | dct (kvs:List (DKey×D)) | exc (n:Nat) (fl:D) | xd (fs:List (Tx×D))
def excAt (C:Addr) (v:V) (a:Addr):Heap→Prop:=fun h=>∃ o,h.get? a=some o∧o.cls = .ref C∧(∀ x,v = .ref x→o.dict=some x)∧∃ vs,o.data = .fields vs
def xdAt (fs:List (Str×V)) (x:Addr):Heap→Prop:=fun h=>∃ mA,h.Ns1 x mA∧∀ f,RelO (fs.lookup f) (mA f)
inductive S where
 | pure (d:D)
 | own (d:D)
def S.d:S→D
 | .pure d=>d
 | .own d=>d
abbrev Dl:=List (Option S)
abbrev St:=L2.St
inductive Rep (H:Hp) (O:Addr→Prop):V→D→Prop
 | non:Rep H O .non .non
 | bl (b:Bool):Rep H O (.bl b) (.bl b)
 | int (i:Int):Rep H O (.int i) (.int i)
 | str (x:Tx):Rep H O (.str (toS x)) (.str x)
 | tup {a:Addr} {vs:List V} {ds:List D}:¬ O a→H a=some (.tup vs)→vs.length=ds.length→(∀ (i:Nat) v d,vs[i]? = some v→ds[i]? = some d→Rep H O v d)→Rep H O (.ref a) (.tup ds)
 | lst {a:Addr} {vs:List V} {ds:List D}:¬ O a→Rd H a (.lst vs)→vs.length=ds.length→(∀ (i:Nat) v d,vs[i]? = some v→ds[i]? = some d→Rep H O v d)→Rep H O (.ref a) (.lst ds)
 | dct {a:Addr} {ws:List (Key×V)} {ds:List (DKey×D)}:¬ O a→H a=some (.dK ws)→ws.map (·.1)=ds.map (fun p=>kOf p.1)→(∀ (i:Nat) p q,ws[i]? = some p→ds[i]? = some q→Rep H O p.2 q.2)→Rep H O (.ref a) (.dct ds)
 | exc {a:Addr} {n:Nat} {v:V} {fl:D}:¬ O a→H a=some (.ext (excAt n v a))→Rep H O v fl→Rep H O (.ref a) (.exc n fl)
 | xd {x:Addr} {fs:List (Str×V)} {ds:List (Tx×D)}:¬ O x→H x=some (.ext (xdAt fs x))→fs.map (·.1)=ds.map (fun p=>toS p.1)→(∀ (i:Nat) p q,fs[i]? = some p→ds[i]? = some q→Rep H O p.2 q.2)→Rep H O (.ref x) (.xd ds)
abbrev Reps (H:Hp) (O:Addr→Prop) (vs:List V) (ds:List D):Prop:=vs.length=ds.length∧∀ (i:Nat) v d,vs[i]? = some v→ds[i]? = some d→Rep H O v d
def OwnAt (H:Hp) (O:Addr→Prop) (a:Addr):D→Prop
 | .lst ds=>∃ vs,H a=some (.lst vs)∧Reps H O vs ds
 | .dct ds=>∃ ws:List (Key×V),H a=some (.dK ws)∧ws.map (·.1)=ds.map (fun p=>kOf p.1)∧∀ (i:Nat) p q,ws[i]? = some p→ds[i]? = some q→Rep H O p.2 q.2
 | _=>False
section
variable {H H':Hp} {O O':Addr→Prop} {v:V} {d:D} {vs:List V} {ds:List D} {a:Addr}
theorem Rd.keep (h:Rd H a u) (k:∀ o,H a=some o→H' a=some o):Rd H' a u:=by
 rcases h with h | ⟨o,h⟩
 ·exact .inl (k _ h)
 ·exact .inr ⟨o,k _ h⟩
theorem Rd.some (h:Rd H a u):∃ o,H a=some o:=by
 rcases h with h | ⟨o,h⟩
 ·exact ⟨_,h⟩
 ·exact ⟨_,h⟩
theorem Rep.keep (h:Rep H O v d) (k:∀ a o,H a=some o→¬ O a→H' a=some o):Rep H' O v d:=by
 induction h with
 | non=>exact .non
 | bl b=>exact .bl b
 | int i=>exact .int i
 | str x=>exact .str x
 | tup h1 h2 h3 _ ih=>exact .tup h1 (k _ _ h2 h1) h3 ih
 | lst h1 h2 h3 _ ih=>exact .lst h1 (Rd.keep h2 fun o e=>k _ o e h1) h3 ih
 | dct h1 h2 h3 _ ih=>exact .dct h1 (k _ _ h2 h1) h3 ih
 | exc h1 h2 _ ih=>exact .exc h1 (k _ _ h2 h1) ih
 | xd h1 h2 h3 _ ih=>exact .xd h1 (k _ _ h2 h1) h3 ih
theorem Rep.anti (h:Rep H O v d) (k:∀ a,O' a→O a∨H a=none):Rep H O' v d:=by
 have no:∀ {a:Addr} {u:HO},¬ O a→Rd H a u→¬ O' a:=fun {a u} h1 h2 z=>by
  rcases k a z with q | q
  ·exact h1 q
  ·obtain ⟨o,e⟩:=Rd.some h2
   rw [q] at e; cases e
 induction h with
 | non=>exact .non
 | bl b=>exact .bl b
 | int i=>exact .int i
 | str x=>exact .str x
 | tup h1 h2 h3 _ ih=>exact .tup (no h1 (.inl h2)) h2 h3 ih
 | lst h1 h2 h3 _ ih=>exact .lst (no h1 h2) h2 h3 ih
 | dct h1 h2 h3 _ ih=>exact .dct (no h1 (.inl h2)) h2 h3 ih
 | exc h1 h2 _ ih=>exact .exc (no h1 (.inl h2)) h2 ih
 | xd h1 h2 h3 _ ih=>exact .xd (no h1 (.inl h2)) h2 h3 ih
theorem Reps.keep (h:Reps H O vs ds) (k:∀ a o,H a=some o→¬ O a→H' a=some o):Reps H' O vs ds:=⟨h.1,fun i v d e1 e2=>(h.2 i v d e1 e2).keep k⟩
theorem Reps.anti (h:Reps H O vs ds) (k:∀ a,O' a→O a∨H a=none):Reps H O' vs ds:=⟨h.1,fun i v d e1 e2=>(h.2 i v d e1 e2).anti k⟩
theorem Reps.nil:Reps H O [] []:=⟨rfl,fun i v d e _=>by simp at e⟩
theorem Reps.cons (h:Rep H O v d) (r:Reps H O vs ds):Reps H O (v :: vs) (d :: ds):=by
 refine ⟨by simp [r.1],fun i v' d' e1 e2=>?_⟩
 cases i with
 | zero=>simp at e1 e2; subst e1; subst e2; exact h
 | succ i=>exact r.2 i v' d' (by simpa using e1) (by simpa using e2)
theorem Reps.head (r:Reps H O (v :: vs) (d :: ds)):Rep H O v d:=r.2 0 v d rfl rfl
theorem Reps.tail (r:Reps H O (v :: vs) (d :: ds)):Reps H O vs ds:=⟨by simpa using r.1,fun i v' d' e1 e2=>r.2 (i + 1) v' d' (by simpa using e1) (by simpa using e2)⟩
theorem Reps.append (h:Reps H O vs ds) (h':Reps H O vs' ds'):Reps H O (vs ++ vs') (ds ++ ds'):=by
 induction vs generalizing ds with
 | nil =>
  cases ds with
  | nil=>exact h'
  | cons d r=>have:=h.1; simp at this
 | cons v r ih =>
  cases ds with
  | nil=>have:=h.1; simp at this
  | cons d q=>exact .cons h.head (ih h.tail)
theorem Reps.get {i:Nat} (h:Reps H O vs ds) (e:ds[i]? = some d):∃ v,vs[i]? = some v∧Rep H O v d:=by
 have hi:i < ds.length:=(Wb.mp e).1
 have hv:i < vs.length:=by rw [h.1]; exact hi
 exact ⟨vs[i],by simp [hv],h.2 i _ d (by simp [hv]) e⟩
theorem Reps.take (n:Nat) (h:Reps H O vs ds):Reps H O (vs.take n) (ds.take n):=by
 refine ⟨by simp [h.1],fun i v d e1 e2=>?_⟩
 by_cases hi:i < n
 ·rw [List.getElem?_take_of_lt hi] at e1 e2
  exact h.2 i v d e1 e2
 ·rw [List.getElem?_take_eq_none (by omega)] at e1; cases e1
theorem Reps.drop (n:Nat) (h:Reps H O vs ds):Reps H O (vs.drop n) (ds.drop n):=by
 refine ⟨by simp [h.1],fun i v d e1 e2=>?_⟩
 rw [List.getElem?_drop] at e1 e2
 exact h.2 (n + i) v d e1 e2
theorem Reps.set (h:Reps H O vs ds) (r:Rep H O v d) (j:Nat):Reps H O (vs.set j v) (ds.set j d):=by
 refine ⟨by simp [h.1],fun i v' d' e1 e2=>?_⟩
 by_cases hi:j=i
 ·subst hi
  rw [WU] at e1 e2
  simp at e1 e2
  obtain ⟨_,rfl⟩:=e1
  obtain ⟨_,rfl⟩:=e2
  exact r
 ·rw [W7 hi] at e1 e2
  exact h.2 i v' d' e1 e2
theorem OwnAt.keep (h:OwnAt H O a d) (hk:∀ b o,H b=some o→¬ O b→H' b=some o) (ha:∀ o,H a=some o→H' a=some o):OwnAt H' O a d:=by
 cases d <;> first
  | exact h.elim
  | (obtain ⟨vs,e,r⟩:=h; exact ⟨vs,ha _ e,Reps.keep r hk⟩)
  | (obtain ⟨ws,e,r,q⟩:=h; exact ⟨ws,ha _ e,r,fun i p p' e1 e2=>(q i p p' e1 e2).keep hk⟩)
theorem OwnAt.anti (h:OwnAt H O a d) (k:∀ a,O' a→O a∨H a=none):OwnAt H O' a d:=by
 cases d <;> first
  | exact h.elim
  | (obtain ⟨vs,e,r⟩:=h; exact ⟨vs,e,Reps.anti r k⟩)
  | (obtain ⟨ws,e,r,q⟩:=h; exact ⟨ws,e,r,fun i p p' e1 e2=>(q i p p' e1 e2).anti k⟩)
theorem OwnAt.some (h:OwnAt H O a d):∃ o,H a=some o:=by
 cases d <;> first
  | exact h.elim
  | (obtain ⟨vs,e,r⟩:=h; exact ⟨_,e⟩)
theorem OwnAt.rep (h:OwnAt H O a d) (ho:¬ O a):Rep H O (.ref a) d:=by
 cases d with
 | lst ds=>obtain ⟨vs,e,r⟩:=h; exact .lst ho (.inl e) r.1 r.2
 | dct ds=>obtain ⟨ws,e,r,q⟩:=h; exact .dct ho e r q
 | _=>exact h.elim
end
structure Xc where
 cls:Tx
 flds:D
structure Fc where
 H₀:Hp
 B:Addr→Prop
 pin:List (Nat×Addr)
 xc:Xc→Dl→Prop:=fun _ _=>False
def Fc.plus (c:Fc) (p:Addr):Fc:={ c with B:=fun a=>c.B a∨a=p }
def Fc.I (c:Fc) (a:Addr):Prop:=∃ i,(i,a) ∈ c.pin
def Own (σ:St) (δ:Dl) (a:Addr):Prop:=∃ (i:Nat) (d:D),δ[i]? = some (some (.own d))∧σ[i]? = some (some (.ref a))
def Av (c:Fc) (σ:St) (δ:Dl) (a:Addr):Prop:=c.B a∨Own σ δ a
structure Ok (c:Fc) (σ:St) (δ:Dl) (H:Hp):Prop where
 keep:∀ a o,c.H₀ a=some o→¬ c.I a→H a=some o
 bd:∀ a,c.B a→∃ o,H a=some o
 ith:∀ a,c.I a→∃ o,H a=some o
 len:δ.length=σ.length
 slot:∀ (i:Nat) d,δ[i]? = some (some (.pure d))→∃ v,σ[i]? = some (some v)∧Rep H (Av c σ δ) v d
 own:∀ (i:Nat) d,δ[i]? = some (some (.own d))→∃ a,σ[i]? = some (some (.ref a))∧OwnAt H (Av c σ δ) a d∧(c.I a∨c.H₀ a=none)∧¬ c.B a
 inj:∀ (i j:Nat) a d d',δ[i]? = some (some (.own d))→δ[j]? = some (some (.own d'))→σ[i]? = some (some (.ref a))→σ[j]? = some (some (.ref a))→i=j
 pinned:∀ p ∈ c.pin,σ[p.1]? = some (some (.ref p.2))
structure Aft (c:Fc) (σ:St) (δ:Dl) (H:Hp) (σ':St) (δ':Dl) (H':Hp):Prop where
 ok:Ok c σ' δ' H'
 keep:∀ a o,H a=some o→¬ Own σ δ a→H' a=some o
 own:∀ a,Own σ' δ' a→Own σ δ a∨H a=none
 there:∀ a o,H a=some o→∃ o',H' a=some o'
section
variable {c:Fc} {σ σ' σ'':St} {δ δ' δ'':Dl} {H H' H'':Hp} {v:V} {d:D} {a p:Addr}
theorem Ok.bthere (k:Ok c σ δ H) (h:c.B a):∃ o,H a=some o:=k.bd a h
theorem Ok.othere (k:Ok c σ δ H) (h:Own σ δ a):∃ o,H a=some o:=by
 obtain ⟨i,d,e1,e2⟩:=h
 obtain ⟨b,e3,q,_⟩:=k.own i d e1
 rw [e2] at e3; cases e3
 exact q.some
theorem Ok.avthere (k:Ok c σ δ H) (h:Av c σ δ a):∃ o,H a=some o:=h.elim k.bthere k.othere
theorem Ok.nav (k:Ok c σ δ H) (h:H a=none):¬ Av c σ δ a:=fun z=>by
 obtain ⟨o,e⟩:=k.avthere z
 rw [h] at e; cases e
theorem Aft.refl (k:Ok c σ δ H):Aft c σ δ H σ δ H:=⟨k,fun _ _ e _=>e,fun _ h=>.inl h,fun _ o e=>⟨o,e⟩⟩
theorem Aft.trans (x:Aft c σ δ H σ' δ' H') (y:Aft c σ' δ' H' σ'' δ'' H''):Aft c σ δ H σ'' δ'' H'':=by
 refine ⟨y.ok,fun a o e n=>?_,fun a h=>?_,fun a o e=>?_⟩
 ·refine y.keep a o (x.keep a o e n) fun z=>?_
  rcases x.own a z with q | q
  ·exact n q
  ·rw [q] at e; cases e
 ·rcases y.own a h with q | q
  ·exact x.own a q
  ·right
   cases e:H a with
   | none=>rfl
   | some o =>
    obtain ⟨o',e'⟩:=x.there a o e
    rw [q] at e'; cases e'
 ·obtain ⟨o',e'⟩:=x.there a o e
  exact y.there a o' e'
theorem Aft.av (x:Aft c σ δ H σ' δ' H'):∀ a,Av c σ' δ' a→Av c σ δ a∨H a=none:=fun a h=>by
 rcases h with h | h
 ·exact .inl (.inl h)
 ·rcases x.own a h with q | q
  ·exact .inl (.inr q)
  ·exact .inr q
theorem Rep.aft (h:Rep H (Av c σ δ) v d) (x:Aft c σ δ H σ' δ' H'):Rep H' (Av c σ' δ') v d:=by
 have h1:Rep H (fun a=>Av c σ δ a∨Av c σ' δ' a) v d:=Rep.anti h fun a z=>z.elim .inl (x.av a)
 exact (h1.keep fun a o e n=>x.keep a o e fun z=>n (.inl (.inr z))).anti fun a z=>.inl (.inr z)
theorem Reps.aft (h:Reps H (Av c σ δ) vs ds) (x:Aft c σ δ H σ' δ' H'):Reps H' (Av c σ' δ') vs ds:=⟨h.1,fun i v d e1 e2=>Rep.aft (h.2 i v d e1 e2) x⟩
def RepS (c:Fc) (σ:St) (δ:Dl) (Hs H:Hp) (v:V):S→Prop
 | .pure d=>Rep H (Av c σ δ) v d
 | .own d=>∃ a,v = .ref a∧OwnAt H (Av (c.plus a) σ δ) a d∧¬ c.B a∧c.H₀ a=none∧Ok (c.plus a) σ δ H∧Hs a=none
theorem z3F (k:Ok (c.plus a) σ δ H):¬ Own σ δ a:=fun ⟨i,d,e1,e2⟩=>by
 obtain ⟨b,e3,_,_,n⟩:=k.own i d e1
 rw [e2] at e3; cases e3
 exact n (.inr rfl)
theorem RepS.rep (h:RepS c σ δ Hs H v r):Rep H (Av c σ δ) v r.d:=by
 cases r with
 | pure d=>exact h
 | own d =>
  obtain ⟨a,rfl,o,n,f,k,_⟩:=h
  refine (o.anti fun b z=>.inl ?_).rep fun z=>z.elim n (z3F k)
  exact z.elim (fun z=>.inl (.inl z)) .inr
theorem RepS.back (h:RepS c σ δ Hs H v r) (x:Aft c σ₀ δ₀ H' σ' δ' Hs):RepS c σ δ H' H v r:=by
 cases r with
 | pure d=>exact h
 | own d =>
  obtain ⟨a,e,o,n,f,k,hs⟩:=h
  refine ⟨a,e,o,n,f,k,?_⟩
  cases q:H' a with
  | none=>rfl
  | some o =>
   obtain ⟨o',e'⟩:=x.there a o q
   rw [hs] at e'; cases e'
theorem RepS.home (h:RepS c σ δ Hs H v r):RepS c σ δ c.H₀ H v r:=by
 cases r with
 | pure d=>exact h
 | own d =>
  obtain ⟨a,e,o,n,f,k,hs⟩:=h
  exact ⟨a,e,o,n,f,k,f⟩
theorem Ok.alloc (k:Ok c σ δ H) (hp:H p=none) (o:HO):Ok c σ δ (upd H p o):=by
 have up:∀ a w,H a=some w→upd H p o a=some w:=fun a w e=>by
  rw [z0i (z0C e hp)]; exact e
 refine ⟨fun a w e n=>up a w (k.keep a w e n),fun a z=>(k.bd a z).elim fun w e=>⟨w,up a w e⟩,fun a z=>(k.ith a z).elim fun w e=>⟨w,up a w e⟩,k.len,fun i d e=>?_,fun i d e=>?_,k.inj,k.pinned⟩
 ·obtain ⟨v,e1,r⟩:=k.slot i d e
  exact ⟨v,e1,r.keep fun a w q _=>up a w q⟩
 ·obtain ⟨a,e1,r,q⟩:=k.own i d e
  exact ⟨a,e1,r.keep (fun b w q _=>up b w q) fun w q=>up a w q,q⟩
theorem Aft.alloc (k:Ok c σ δ H) (hp:H p=none) (o:HO):Aft c σ δ H σ δ (upd H p o):=by
 have up:∀ a w,H a=some w→upd H p o a=some w:=fun a w e=>by
  rw [z0i (z0C e hp)]; exact e
 exact ⟨k.alloc hp o,fun a w e _=>up a w e,fun a h=>.inl h,fun a w e=>⟨w,up a w e⟩⟩
theorem Ok.fresh₀ (k:Ok c σ δ H) (hp:H p=none):c.H₀ p=none:=by
 cases e:c.H₀ p with
 | none=>rfl
 | some o =>
  by_cases q:c.I p
  ·obtain ⟨w,e'⟩:=k.ith p q
   rw [hp] at e'; cases e'
  ·have:=k.keep p o e q
   rw [hp] at this; cases this
theorem Ok.plus (k:Ok c σ δ H) (hp:H p=none) (o:HO):Ok (c.plus p) σ δ (upd H p o):=by
 have k':=k.alloc hp o
 have sub:∀ b,Av (c.plus p) σ δ b→Av c σ δ b∨b=p:=fun b z=>by
  rcases z with (z | z) | z
  ·exact .inl (.inl z)
  ·exact .inr z
  ·exact .inl (.inr z)
 have sub2:∀ b,Av (c.plus p) σ δ b→Av c σ δ b∨H b=none:=fun b z=>(sub b z).elim .inl fun e=>.inr (by rw [e]; exact hp)
 have up:∀ a w,H a=some w→upd H p o a=some w:=fun a w e=>by
  rw [z0i (z0C e hp)]; exact e
 refine ⟨k'.keep,fun a z=>?_,k'.ith,k.len,fun i d e=>?_,fun i d e=>?_,k.inj,k.pinned⟩
 ·rcases z with z | z
  ·exact k'.bd a z
  ·exact ⟨o,by rw [z]; exact z0k⟩
 ·obtain ⟨v,e1,r⟩:=k.slot i d e
  exact ⟨v,e1,(r.anti sub2).keep fun a w q _=>up a w q⟩
 ·obtain ⟨a,e1,r,q,nb⟩:=k.own i d e
  refine ⟨a,e1,(r.anti sub2).keep (fun b w q _=>up b w q) (fun w q=>up a w q),q,fun z=>?_⟩
  rcases z with z | z
  ·exact nb z
  ·obtain ⟨w,ew⟩:=r.some
   rw [z,hp] at ew; cases ew
theorem RepS.newL (k:Ok c σ δ H) (r:Reps H (Av c σ δ) vs ds) (hp:H p=none):RepS c σ δ H (upd H p (.lst vs)) (.ref p) (.own (.lst ds)):=by
 have up:∀ a w,H a=some w→upd H p (.lst vs) a=some w:=fun a w e=>by
  rw [z0i (z0C e hp)]; exact e
 refine ⟨p,rfl,⟨vs,z0k,?_⟩,fun z=>k.nav hp (.inl z),k.fresh₀ hp,k.plus hp _,hp⟩
 have r1:Reps H (Av (c.plus p) σ δ) vs ds:=Reps.anti r fun b z=>by
  rcases z with (z | z) | z
  ·exact .inl (.inl z)
  ·exact .inr (by rw [z]; exact hp)
  ·exact .inl (.inr z)
 exact Reps.keep r1 fun b w e _=>up b w e
theorem RepS.newT (k:Ok c σ δ H) (r:Reps H (Av c σ δ) vs ds) (hp:H p=none):RepS c σ δ H (upd H p (.tup vs)) (.ref p) (.pure (.tup ds)):=by
 have up:∀ a w,H a=some w→upd H p (.tup vs) a=some w:=fun a w e=>by
  rw [z0i (z0C e hp)]; exact e
 have r1:=Reps.keep r (H':=upd H p (.tup vs)) fun b w e _=>up b w e
 exact .tup (k.nav hp) z0k r1.1 r1.2
end
inductive Rs (α:Type) where
 | ok (a:α) (δ:Dl)
 | exc (x:Xc) (δ:Dl)
 | stuck
def Rs.bind {α β:Type} (r:Rs α) (f:α→Dl→Rs β):Rs β:=match r with
 | .ok a δ=>f a δ
 | .exc x δ=>.exc x δ
 | .stuck=>.stuck
abbrev DE:=Dl→Rs S
def XC (c:Fc) (x:Xc) (δ:Dl):Prop:=c.xc x δ
def post {α:Type} (c:Fc) (r:Rs α) (k:α→Dl→Prop):Prop:=match r with
 | .ok a δ=>k a δ
 | .exc x δ=>XC c x δ
 | .stuck=>False
theorem z03:post c (r.bind f) k ↔ post c r fun a δ=>post c (f a δ) k:=by
 cases r <;> exact Iff.rfl
theorem z00 (h:post c r k) (m:∀ a δ,k a δ→k' a δ):post c r k':=by
 cases r with
 | ok a δ=>exact m a δ h
 | exc x δ=>exact h
 | stuck=>exact h
def tD (c:Fc) (f:DE):TE:=fun σ H Q=>∃ δ,Ok c σ δ H∧post c (f δ) fun r δ'=>∀ v H',Aft c σ δ H σ δ' H'→RepS c σ δ' H H' v r→Q v H'
abbrev SE (X:Cx) (c:Fc) (e:Expr) (f:DE):Prop:=PE X e (tD c f)
def RepB (c:Fc) (σ:St) (δ:Dl) (H:Hp) (v:V) (d:D):Prop:=Rep H (Av c σ δ) v d∨∃ a,v = .ref a∧OwnAt H (Av c σ δ) a d
abbrev BE:=Dl→Rs D
def tB (c:Fc) (f:BE):TE:=fun σ H Q=>∃ δ,Ok c σ δ H∧post c (f δ) fun d δ'=>∀ v H',Aft c σ δ H σ δ' H'→RepB c σ δ' H' v d→Q v H'
abbrev SB (X:Cx) (c:Fc) (e:Expr) (f:BE):Prop:=PE X e (tB c f)
theorem PE.weak (h:PE X e t) (w:∀ σ H Q,t' σ H Q→t σ H Q):PE X e t':=fun pins s σ H Q I q=>h pins s σ H Q I (w σ H Q q)
def bOf (f:DE):BE:=fun δ=>(f δ).bind fun r δ'=>.ok r.d δ'
theorem RepS.b (h:RepS c σ δ Hs H v r):RepB c σ δ H v r.d:=.inl h.rep
theorem z0c {X:Cx} {c:Fc} {e:Expr} {f:DE} (h:SE X c e f):SB X c e (bOf f):=PE.weak h fun σ H Q ⟨δ,k,p⟩=>⟨δ,k,by
 unfold bOf at p
 rw [z03] at p
 exact z00 p fun r δ' q v H' a s=>q v H' a s.b⟩
def bVar (i:Nat):BE:=fun δ=>match δ[i]? with
 | some (some r)=>.ok r.d δ
 | _=>.stuck
def eVar (i:Nat):DE:=fun δ=>match δ[i]? with
 | some (some (.pure d))=>.ok (.pure d) δ
 | some (some (.own d))=>.ok (.pure d) (δ.set i (some (.pure d)))
 | _=>.stuck
def eD (d:D):DE:=fun δ=>.ok (.pure d) δ
section
variable {X:Cx} {c:Fc}
theorem z0h {i:Nat} {e:Expr} (h:PE X e (tVar i)):SB X c e (bVar i):=PE.weak h fun σ H Q ⟨δ,k,p⟩=>by
 unfold bVar at p
 cases e:δ[i]? with
 | none=>rw [e] at p; exact p.elim
 | some o =>
  cases o with
  | none=>rw [e] at p; exact p.elim
  | some r =>
   rw [e] at p
   cases r with
   | pure d =>
    obtain ⟨v,e1,r⟩:=k.slot i d e
    exact ⟨v,e1,p v H (.refl k) (.inl r)⟩
   | own d =>
    obtain ⟨a,e1,r,_⟩:=k.own i d e
    exact ⟨.ref a,e1,p _ H (.refl k) (.inr ⟨a,rfl,r⟩)⟩
theorem Own.sub (h:Own σ (δ.set i (some (.pure d))) a):Own σ δ a:=by
 obtain ⟨j,d',e1,e2⟩:=h
 by_cases hj:i=j
 ·subst hj
  rw [WU] at e1
  simp at e1
 ·rw [W7 hj] at e1
  exact ⟨j,d',e1,e2⟩
theorem Ok.give (k:Ok c σ δ H) (e:δ[i]? = some (some (.own d))) :
  ∃ a,σ[i]? = some (some (.ref a))∧Aft c σ δ H σ (δ.set i (some (.pure d))) H∧Rep H (Av c σ (δ.set i (some (.pure d)))) (.ref a) d:=by
 obtain ⟨a,e1,r,q,nb⟩:=k.own i d e
 have hi:i < δ.length:=(Wb.mp e).1
 have sub:∀ b,Av c σ (δ.set i (some (.pure d))) b→Av c σ δ b:=fun b z=>z.elim .inl fun z=>.inr z.sub
 have na:¬ Av c σ (δ.set i (some (.pure d))) a:=by
  rintro (z | ⟨j,d',f1,f2⟩)
  ·exact nb z
  ·by_cases hj:i=j
   ·subst hj
    rw [WU] at f1
    simp at f1
   ·rw [W7 hj] at f1
    exact hj (k.inj i j a d d' e f1 e1 f2)
 have rep:Rep H (Av c σ (δ.set i (some (.pure d)))) (.ref a) d:=(r.anti fun b z=>.inl (sub b z)).rep na
 refine ⟨a,e1,⟨⟨k.keep,k.bd,k.ith,by rw [Jo]; exact k.len,fun j d' f=>?_,fun j d' f=>?_,fun j l b d1 d2 f1 f2=>?_,k.pinned⟩,fun _ _ w _=>w,fun b z=>.inl z.sub,fun _ o w=>⟨o,w⟩⟩,rep⟩
 ·by_cases hj:i=j
  ·subst hj
   rw [Wt hi] at f
   cases f
   exact ⟨.ref a,e1,rep⟩
  ·rw [W7 hj] at f
   obtain ⟨v,g1,g2⟩:=k.slot j d' f
   exact ⟨v,g1,g2.anti fun b z=>.inl (sub b z)⟩
 ·by_cases hj:i=j
  ·subst hj
   rw [Wt hi] at f
   cases f
  ·rw [W7 hj] at f
   obtain ⟨b,g1,g2,g3⟩:=k.own j d' f
   exact ⟨b,g1,g2.anti fun b z=>.inl (sub b z),g3⟩
 ·have h1:δ[j]? = some (some (.own d1)):=by
   by_cases hj:i=j
   ·subst hj; rw [Wt hi] at f1; cases f1
   ·rw [W7 hj] at f1; exact f1
  have h2:δ[l]? = some (some (.own d2)):=by
   by_cases hj:i=l
   ·subst hj; rw [Wt hi] at f2; cases f2
   ·rw [W7 hj] at f2; exact f2
  exact k.inj j l b d1 d2 h1 h2
theorem z07 {i:Nat} {e:Expr} (h:PE X e (tVar i)):SE X c e (eVar i):=PE.weak h fun σ H Q ⟨δ,k,p⟩=>by
 unfold eVar at p
 cases e:δ[i]? with
 | none=>rw [e] at p; exact p.elim
 | some o =>
  cases o with
  | none=>rw [e] at p; exact p.elim
  | some r =>
   rw [e] at p
   cases r with
   | pure d =>
    obtain ⟨v,e1,r⟩:=k.slot i d e
    exact ⟨v,e1,p v H (.refl k) r⟩
   | own d =>
    obtain ⟨a,e1,x,r⟩:=k.give e
    exact ⟨.ref a,e1,p _ H x r⟩
theorem z08 {i j pos}:SE X c (.Constant (.int i) j pos) (eD (.int i)):=PE.weak zeL fun σ H Q ⟨δ,k,p⟩=>p _ H (.refl k) (.int i)
theorem zcO {b j pos}:SE X c (.Constant (.bool b) j pos) (eD (.bl b)):=PE.weak zde fun σ H Q ⟨δ,k,p⟩=>p _ H (.refl k) (.bl b)
theorem zbZ {j pos}:SE X c (.Constant .none j pos) (eD .non):=PE.weak zeI fun σ H Q ⟨δ,k,p⟩=>p _ H (.refl k) .non
theorem z2L {x j pos} (y:Tx) (h:x=toS y:=by decide +kernel):SE X c (.Constant (.str x) j pos) (eD (.str y)):=by
 subst h
 exact PE.weak zc7 fun σ H Q ⟨δ,k,p⟩=>p _ H (.refl k) (.str y)
theorem z8l (hg:Gl X x) (hm:X.mg x=some (.int i t)) (hd:(x == ("__debug__" : Str))=false:=by decide):SE X c (.Name x pos) (eD (.int i)) :=
 PE.weak (zda (v:=.int i) hg hm ⟨t,rfl⟩ hd) fun σ H Q ⟨δ,k,p⟩=>p _ H (.refl k) (.int i)
end
open PySem PySem.Spec PyProof.Rows L2 PySem.SeqAt
mutual
def eqD:D→D→Bool
 | .non,.non=>true
 | .bl a,.bl b=>a == b
 | .int a,.int b=>a == b
 | .bl a,.int b=>(if a then 1 else 0) == b
 | .int a,.bl b=>a == (if b then 1 else 0)
 | .str a,.str b=>a == b
 | .tup xs,.tup ys=>eqDs xs ys
 | .lst xs,.lst ys=>eqDs xs ys
 | _,_=>false
def eqDs:List D→List D→Bool
 | [],[]=>true
 | x :: xs,y :: ys=>eqD x y && eqDs xs ys
 | _,_=>false
end
mutual
def flat:Nat→D→Bool
 | _,.non=>true
 | _,.bl _=>true
 | _,.int _=>true
 | _,.str _=>true
 | 0,.tup _=>false
 | n + 1,.tup xs=>z3t n xs
 | 0,.lst _=>false
 | n + 1,.lst xs=>z3t n xs
 | _,.dct _=>false
 | _,.exc _ _=>false
 | _,.xd _=>false
def z3t:Nat→List D→Bool
 | _,[]=>true
 | n,x :: xs=>flat n x && z3t n xs
end
example:eqD (.tup [.int 1,.str [2]]) (.tup [.int 1,.str [2]])=true:=by decide +kernel
theorem z1Y:∀ {xs:List D} {x:D},z3t n xs=true→x ∈ xs→flat n x=true
 | [],_,_,h=>by simp at h
 | y :: ys,x,h,hm=>by
  simp only [z3t,Wh] at h
  rcases Wg.mp hm with e | hm
  ·rw [e]; exact h.1
  ·exact z1Y h.2 hm
theorem z4s:∀ {xs ys:List D} {f:Nat→Bool},xs.length=ys.length→(∀ (j:Nat) x y,xs[j]? = some x→ys[j]? = some y→f j=eqD x y)→(Wz xs.length).all f=eqDs xs ys
 | [],[],f,_,_=>rfl
 | [],y :: ys,f,h,_=>by simp at h
 | x :: xs,[],f,h,_=>by simp at h
 | x :: xs,y :: ys,f,h,hf=>by
  simp only [eqDs]
  rw [WB,List.range_succ_eq_map,List.all_cons,hf 0 x y rfl rfl,List.all_map]
  rw [← z4s (f:=fun j=>f (j + 1)) (by simpa using h) (fun j a b e1 e2=>hf (j + 1) a b (by simpa using e1) (by simpa using e2))]
  rfl
theorem z4r:∀ {xs ys:List D},xs.length≠ys.length→eqDs xs ys=false
 | [],[],h=>absurd rfl h
 | [],y :: ys,_=>rfl
 | x :: xs,[],_=>rfl
 | x :: xs,y :: ys,h=>by
  simp only [eqDs]
  rw [z4r (xs:=xs) (ys:=ys) (by intro e; exact h (by simp [e]))]
  simp
mutual
theorem z4t:∀ {n:Nat} {d:D},flat n d=true→eqD d d=true
 | _,.non,_=>rfl
 | _,.bl b,_=>by simp [eqD]
 | _,.int i,_=>by simp [eqD]
 | _,.str x,_=>by simp [eqD]
 | 0,.tup xs,h=>by simp [flat] at h
 | n + 1,.tup xs,h=>by simp only [eqD]; exact z54 (n:=n) (by simpa [flat] using h)
 | 0,.lst xs,h=>by simp [flat] at h
 | n + 1,.lst xs,h=>by simp only [eqD]; exact z54 (n:=n) (by simpa [flat] using h)
 | _,.dct xs,h=>by simp [flat] at h
 | _,.exc n _,h=>by simp [flat] at h
 | _,.xd n,h=>by simp [flat] at h
theorem z54:∀ {n:Nat} {ds:List D},z3t n ds=true→eqDs ds ds=true
 | _,[],_=>rfl
 | n,x :: xs,h=>by
  simp only [z3t,Wh] at h
  simp only [eqDs]
  rw [z4t h.1,z54 h.2]
  rfl
end
abbrev NoO:Addr→Prop:=fun _=>False
theorem Rep.un (h:Rep H O v d):Rep H NoO v d:=Rep.anti h fun _ z=>z.elim
theorem RepB.un (h:RepB c σ δ H v d):Rep H NoO v d:=by
 rcases h with h | ⟨a,rfl,o⟩
 ·exact Rep.un h
 ·exact (o.anti (O':=NoO) fun _ z=>z.elim).rep fun z=>z
section
variable {X:Cx} {pins:List (Addr×Obj)} {σ:St} {H:Hp} {s:W1}
theorem Inv.rdL (I:Inv X pins σ H s) (h:Rd H a (.lst vs)):∃ its:List Value,Vals vs its∧s.heap.IsList a its.toArray:=by
 obtain ⟨its,r,p,_⟩:=I.list (.inl h)
 exact ⟨its,r,p.isList⟩
theorem Inv.rdT (I:Inv X pins σ H s) (h:H a=some (.tup vs)):∃ its:List Value,Vals vs its∧s.heap.IsTuple a its.toArray:=by
 obtain ⟨its,r,p,_⟩:=I.tuple (.of h)
 exact ⟨its,r,p⟩
theorem z75 (x y:Tx):((toS x:Str) == toS y)=(x == y):=by
 rw [U1]
 simp only [beq_iff_eq]
 exact ⟨z3S,fun e=>by rw [e]⟩
theorem za3 (A:Wn):A.in1.units=A.units + 1:=rfl
theorem Rd.inj (h:Rd H a u) (k:Rd H a w) (hu:∀ o z,u≠.frz o z) (hw:∀ o z,w≠.frz o z):u=w:=by
 rcases h with h | ⟨o,h⟩ <;> rcases k with k | ⟨o',k⟩
 ·rw [h] at k; exact Ww k
 ·rw [h] at k; exact absurd (Ww k) (hu _ _)
 ·rw [h] at k; exact absurd (Ww k).symm (hw _ _)
 ·rw [h] at k
  have:=Ww k
  injection this
theorem Reps.inj {vs:List V}:∀ {ds es:List D},vs.length=ds.length→vs.length=es.length→(∀ (i:Nat) v d e,vs[i]? = some v→ds[i]? = some d→es[i]? = some e→d=e)→ds=es:=by
 intro ds es h1 h2 h
 apply List.ext_getElem?
 intro i
 by_cases hi:i < vs.length
 ·have a1:i < ds.length:=by omega
  have a2:i < es.length:=by omega
  rw [Wk a1,Wk a2]
  rw [h i vs[i] ds[i] es[i] (by simp [hi]) (by simp [a1]) (by simp [a2])]
 ·rw [WS (by omega),WS (by omega)]
theorem Rep.inj {O:Addr→Prop} {v:V} {d:D} (h:Rep H O v d):∀ {n:Nat} {e:D},flat n d=true→flat n e=true→Rep H O v e→d=e:=by
 induction h with
 | non=>intro n e _ _ k; cases k; rfl
 | bl b=>intro n e _ _ k; cases k; rfl
 | int i=>intro n e _ _ k; cases k; rfl
 | str x =>
  intro n e _ _ k
  generalize hz:V.str (toS x)=z at k
  cases k with
  | str y=>injection hz with hz; rw [z3S hz]
  | _=>cases hz
 | @tup a vs ds h1 h2 h3 h4 ih =>
  intro n e fd fe k
  cases n with
  | zero=>simp [flat] at fd
  | succ n =>
   simp only [flat] at fd
   cases k with
   | @tup _ ws es k1 k2 k3 k4 =>
    simp only [flat] at fe
    have e1:=Rd.inj (.inl h2) (.inl k2) (fun _ _ z=>by cases z) (fun _ _ z=>by cases z)
    injection e1 with e1
    subst e1
    rw [Reps.inj h3 k3 fun i v d e q1 q2 q3=>ih i v d q1 q2 (z1Y fd (WI q2)) (z1Y fe (WI q3)) (k4 i v e q1 q3)]
   | lst k1 k2=>exact absurd (Rd.inj (.inl h2) k2 (fun _ _ z=>by cases z) (fun _ _ z=>by cases z)) (fun z=>by cases z)
   | dct k1 k2=>exact absurd (Rd.inj (.inl h2) (.inl k2) (fun _ _ z=>by cases z) (fun _ _ z=>by cases z)) (fun z=>by cases z)
   | exc k1 k2=>simp [flat] at fe
   | xd k1 k2=>simp [flat] at fe
 | @lst a vs ds h1 h2 h3 h4 ih =>
  intro n e fd fe k
  cases n with
  | zero=>simp [flat] at fd
  | succ n =>
   simp only [flat] at fd
   cases k with
   | @lst _ ws es k1 k2 k3 k4 =>
    simp only [flat] at fe
    have e1:=Rd.inj h2 k2 (fun _ _ z=>by cases z) (fun _ _ z=>by cases z)
    injection e1 with e1
    subst e1
    rw [Reps.inj h3 k3 fun i v d e q1 q2 q3=>ih i v d q1 q2 (z1Y fd (WI q2)) (z1Y fe (WI q3)) (k4 i v e q1 q3)]
   | tup k1 k2=>exact absurd (Rd.inj h2 (.inl k2) (fun _ _ z=>by cases z) (fun _ _ z=>by cases z)) (fun z=>by cases z)
   | dct k1 k2=>exact absurd (Rd.inj h2 (.inl k2) (fun _ _ z=>by cases z) (fun _ _ z=>by cases z)) (fun z=>by cases z)
   | exc k1 k2=>simp [flat] at fe
   | xd k1 k2=>simp [flat] at fe
 | dct h1 h2 h3 h4 ih =>
  intro n e fd _ _
  cases n <;> simp [flat] at fd
 | exc h1 h2 =>
  intro n e fd _ _
  cases n <;> simp [flat] at fd
 | xd h1 h2 =>
  intro n e fd _ _
  cases n <;> simp [flat] at fd
def EqIt (H:Hp) (s:W1) (n:Nat):Prop:=∀ (A:Wn) (x y:V) (u w:Value) (d e:D),A.units + n + 1 < Qt→flat n d=true→flat n e=true→Rep H NoO x d→Rep H NoO y e→RelV x u→RelV y w→EqAt A s u w (eqD d e)
def z7D (H:Hp) (s:W1) (A:Wn) (n:Nat):Prop:=match n with
 | 0=>True
 | m + 1=>A.units + m + 2 < Qt∧EqIt H s m
def itE (ds es:List D) (j:Nat):Bool:=match ds[j]?,es[j]? with
 | some p,some q=>eqD p q
 | _,_=>false
theorem z80 (j:Nat) (p q:D) (e1:ds[j]? = some p) (e2:es[j]? = some q):itE ds es j=eqD p q:=by unfold itE; rw [e1,e2]
theorem z4p {n:Nat} {A:Wn} {vs ws:List V} {ds es:List D} {its jts:List Value} (hu:A.units + n + 2 < Qt) (ih:EqIt H s n) (r1:Vals vs its) (r2:Vals ws jts) (l1:vs.length=ds.length) (l2:ws.length=es.length)
  (g1:∀ (i:Nat) v d,vs[i]? = some v→ds[i]? = some d→Rep H NoO v d) (g2:∀ (i:Nat) v d,ws[i]? = some v→es[i]? = some d→Rep H NoO v d) (f1:z3t n ds=true) (f2:z3t n es=true) :
  ∀ j (h1:j < its.toArray.size) (h2:j < jts.toArray.size),EqAt A.in1 s its.toArray[j] jts.toArray[j] (itE ds es j):=by
 intro j h1 h2
 have e1:=r1.length
 have e2:=r2.length
 simp at h1 h2
 have hd:j < ds.length:=by omega
 have he:j < es.length:=by omega
 have hv:j < vs.length:=by omega
 have hw:j < ws.length:=by omega
 obtain ⟨u',hu',ru'⟩:=r1.get (i:=j) (x:=vs[j]) (by simp [hv])
 obtain ⟨w',hw',rw''⟩:=r2.get (i:=j) (x:=ws[j]) (by simp [hw])
 have eu:its.toArray[j]=u':=by simpa [h1] using hu'
 have ew:jts.toArray[j]=w':=by simpa [h2] using hw'
 rw [eu,ew,z80 j ds[j] es[j] (by simp [hd]) (by simp [he])]
 exact ih A.in1 vs[j] ws[j] u' w' ds[j] es[j] (by rw [za3]; omega) (z1Y f1 (Jj hd)) (z1Y f2 (Jj he)) (g1 j _ _ (by simp [hv]) (by simp [hd])) (g2 j _ _ (by simp [hw]) (by simp [he])) ru' rw''
theorem zaM (h1:n=ds.length) (h2:m=es.length):((Wz (min n m)).all (itE ds es) && n == m)=eqDs ds es:=by
 subst h1 h2
 by_cases hl:ds.length=es.length
 ·rw [← hl,Nat.min_self,z4s hl z80]
  simp
 ·rw [z4r hl]
  simp [hl]
theorem rcT (I:Inv X pins σ H s) (n:Nat) (A:Wn) (hu0:A.units < Qt) (t1:s.heap.IsTuple a its.toArray) (t2:s.heap.IsTuple b jts.toArray) (r1:Vals vs its) (r2:Vals ws jts) (l1:vs.length=ds.length) (l2:ws.length=es.length)
  (g1:∀ (i:Nat) v d,vs[i]? = some v→ds[i]? = some d→Rep H NoO v d) (g2:∀ (i:Nat) v d,ws[i]? = some v→es[i]? = some d→Rep H NoO v d) (f1:flat n (.tup ds)=true) (f2:flat n (.tup es)=true) (ih:z7D H s A n) :
  RcAt A s (.ref a) (.ref b) (eqDs ds es):=by
 cases n with
 | zero=>simp [flat] at f1
 | succ n =>
  simp only [flat] at f1 f2
  obtain ⟨hu,ih⟩:=ih
  have q:=RcAt.tuples (A:=A) (s:=s) t1 t2 hu0 (z4p hu ih r1 r2 l1 l2 g1 g2 f1 f2)
  rw [zaM (by have:=r1.length; simp; omega) (by have:=r2.length; simp; omega)] at q
  exact q
theorem rnT (I:Inv X pins σ H s) (n:Nat) (A:Wn) (hu0:A.units < Qt) (t1:s.heap.IsTuple a its.toArray) (t2:s.heap.IsTuple b jts.toArray) (r1:Vals vs its) (r2:Vals ws jts) (l1:vs.length=ds.length) (l2:ws.length=es.length)
  (g1:∀ (i:Nat) v d,vs[i]? = some v→ds[i]? = some d→Rep H NoO v d) (g2:∀ (i:Nat) v d,ws[i]? = some v→es[i]? = some d→Rep H NoO v d) (f1:flat n (.tup ds)=true) (f2:flat n (.tup es)=true) (ih:z7D H s A n) :
  RcNeAt A s (.ref a) (.ref b) (!eqDs ds es):=by
 cases n with
 | zero=>simp [flat] at f1
 | succ n =>
  simp only [flat] at f1 f2
  obtain ⟨hu,ih⟩:=ih
  have q:=RcNeAt.tuples (A:=A) (s:=s) t1 t2 hu0 (z4p hu ih r1 r2 l1 l2 g1 g2 f1 f2)
  rw [zaM (by have:=r1.length; simp; omega) (by have:=r2.length; simp; omega)] at q
  exact q
theorem rcL (I:Inv X pins σ H s) (n:Nat) (A:Wn) (hu0:A.units < Qt) (t1:s.heap.IsList a its.toArray) (t2:s.heap.IsList b jts.toArray) (r1:Vals vs its) (r2:Vals ws jts) (l1:vs.length=ds.length) (l2:ws.length=es.length)
  (g1:∀ (i:Nat) v d,vs[i]? = some v→ds[i]? = some d→Rep H NoO v d) (g2:∀ (i:Nat) v d,ws[i]? = some v→es[i]? = some d→Rep H NoO v d) (f1:flat n (.lst ds)=true) (f2:flat n (.lst es)=true) (ih:z7D H s A n) :
  RcAt A s (.ref a) (.ref b) (eqDs ds es):=by
 cases n with
 | zero=>simp [flat] at f1
 | succ n =>
  simp only [flat] at f1 f2
  obtain ⟨hu,ih⟩:=ih
  have z1:its.toArray.size=ds.length:=by have:=r1.length; simp; omega
  have z2:jts.toArray.size=es.length:=by have:=r2.length; simp; omega
  by_cases hl:ds.length=es.length
  ·have q:=RcAt.lists (A:=A) (s:=s) t1 t2 (by rw [z1,z2]; exact hl) hu0 (z4p hu ih r1 r2 l1 l2 g1 g2 f1 f2)
   rw [z1,z4s hl z80] at q
   exact q
  ·rw [z4r hl]
   exact RcAt.lists_lengths (A:=A) (s:=s) t1 t2 (by rw [z1,z2]; simpa using hl) hu0
theorem rnL (I:Inv X pins σ H s) (n:Nat) (A:Wn) (hu0:A.units < Qt) (t1:s.heap.IsList a its.toArray) (t2:s.heap.IsList b jts.toArray) (r1:Vals vs its) (r2:Vals ws jts) (l1:vs.length=ds.length) (l2:ws.length=es.length)
  (g1:∀ (i:Nat) v d,vs[i]? = some v→ds[i]? = some d→Rep H NoO v d) (g2:∀ (i:Nat) v d,ws[i]? = some v→es[i]? = some d→Rep H NoO v d) (f1:flat n (.lst ds)=true) (f2:flat n (.lst es)=true) (ih:z7D H s A n) :
  RcNeAt A s (.ref a) (.ref b) (!eqDs ds es):=by
 cases n with
 | zero=>simp [flat] at f1
 | succ n =>
  simp only [flat] at f1 f2
  obtain ⟨hu,ih⟩:=ih
  have z1:its.toArray.size=ds.length:=by have:=r1.length; simp; omega
  have z2:jts.toArray.size=es.length:=by have:=r2.length; simp; omega
  by_cases hl:ds.length=es.length
  ·have q:=RcNeAt.lists (A:=A) (s:=s) t1 t2 (by rw [z1,z2]; exact hl) hu0 (z4p hu ih r1 r2 l1 l2 g1 g2 f1 f2)
   rw [z1,z4s hl z80] at q
   exact q
  ·rw [z4r hl]
   exact RcNeAt.lists_lengths (A:=A) (s:=s) t1 t2 (by rw [z1,z2]; simpa using hl) hu0
theorem rcD (I:Inv X pins σ H s) (n:Nat) (A:Wn) (x y:V) (u w:Value) (d e:D) (hu0:A.units < Qt) (fd:flat n d=true) (fe:flat n e=true) (ih:z7D H s A n) (rx:Rep H NoO x d) (ry:Rep H NoO y e) (ru:RelV x u) (rw':RelV y w):RcAt A s u w (eqD d e):=by
 cases rx with
 | non =>
  cases ru
  cases ry with
  | non =>
   cases rw'
   simp only [eqD]; exact RcAt.none_none
  | bl q =>
   cases rw'
   simp only [eqD]; exact RcAt.none_bool _
  | int q =>
   obtain ⟨t2,rfl⟩:=rw'
   simp only [eqD]; exact RcAt.none_int _ _
  | str q =>
   obtain ⟨t2,rfl⟩:=rw'
   simp only [eqD]; exact RcAt.none_str _ _
  | tup k1 k2 k3 k4 =>
   cases rw'; obtain ⟨its2,r2,t2⟩:=Inv.rdT I k2
   simp only [eqD]; exact RcAt.none_tuple t2 hu0
  | lst k1 k2 k3 k4 =>
   cases rw'; obtain ⟨its2,r2,t2⟩:=Inv.rdL I k2
   simp only [eqD]; exact RcAt.none_list t2 hu0
  | dct k1 k2 k3 k4=>(cases n <;> simp [flat] at fe)
  | exc k1 k2=>(cases n <;> simp [flat] at fe)
  | xd k1 k2=>(cases n <;> simp [flat] at fe)
 | bl p =>
  cases ru
  cases ry with
  | non =>
   cases rw'
   simp only [eqD]; exact RcAt.bool_none _
  | bl q =>
   cases rw'
   simp only [eqD]; exact RcAt.bool_bool _ _
  | int q =>
   obtain ⟨t2,rfl⟩:=rw'
   simp only [eqD]; exact RcAt.bool_int _ _ _
  | str q =>
   obtain ⟨t2,rfl⟩:=rw'
   simp only [eqD]; exact RcAt.bool_str _ _ _
  | tup k1 k2 k3 k4 =>
   cases rw'; obtain ⟨its2,r2,t2⟩:=Inv.rdT I k2
   simp only [eqD]; exact RcAt.bool_tuple _ t2 hu0
  | lst k1 k2 k3 k4 =>
   cases rw'; obtain ⟨its2,r2,t2⟩:=Inv.rdL I k2
   simp only [eqD]; exact RcAt.bool_list _ t2 hu0
  | dct k1 k2 k3 k4=>(cases n <;> simp [flat] at fe)
  | exc k1 k2=>(cases n <;> simp [flat] at fe)
  | xd k1 k2=>(cases n <;> simp [flat] at fe)
 | int p =>
  obtain ⟨t1,rfl⟩:=ru
  cases ry with
  | non =>
   cases rw'
   simp only [eqD]; exact RcAt.int_none _ _
  | bl q =>
   cases rw'
   simp only [eqD]; exact RcAt.int_bool _ _ _
  | int q =>
   obtain ⟨t2,rfl⟩:=rw'
   simp only [eqD]; exact RcAt.int_int _ _ _ _
  | str q =>
   obtain ⟨t2,rfl⟩:=rw'
   simp only [eqD]; exact RcAt.int_str _ _ _ _
  | tup k1 k2 k3 k4 =>
   cases rw'; obtain ⟨its2,r2,t2⟩:=Inv.rdT I k2
   simp only [eqD]; exact RcAt.int_tuple _ _ t2 hu0
  | lst k1 k2 k3 k4 =>
   cases rw'; obtain ⟨its2,r2,t2⟩:=Inv.rdL I k2
   simp only [eqD]; exact RcAt.int_list _ _ t2 hu0
  | dct k1 k2 k3 k4=>(cases n <;> simp [flat] at fe)
  | exc k1 k2=>(cases n <;> simp [flat] at fe)
  | xd k1 k2=>(cases n <;> simp [flat] at fe)
 | str p =>
  obtain ⟨t1,rfl⟩:=ru
  cases ry with
  | non =>
   cases rw'
   simp only [eqD]; exact RcAt.str_none _ _
  | bl q =>
   cases rw'
   simp only [eqD]; exact RcAt.str_bool _ _ _
  | int q =>
   obtain ⟨t2,rfl⟩:=rw'
   simp only [eqD]; exact RcAt.str_int _ _ _ _
  | str q =>
   obtain ⟨t2,rfl⟩:=rw'
   simp only [eqD]; rw [← z75]; exact RcAt.str_str _ _ _ _
  | tup k1 k2 k3 k4 =>
   cases rw'; obtain ⟨its2,r2,t2⟩:=Inv.rdT I k2
   simp only [eqD]; exact RcAt.str_tuple _ _ t2 hu0
  | lst k1 k2 k3 k4 =>
   cases rw'; obtain ⟨its2,r2,t2⟩:=Inv.rdL I k2
   simp only [eqD]; exact RcAt.str_list _ _ t2 hu0
  | dct k1 k2 k3 k4=>(cases n <;> simp [flat] at fe)
  | exc k1 k2=>(cases n <;> simp [flat] at fe)
  | xd k1 k2=>(cases n <;> simp [flat] at fe)
 | tup h1 h2 h3 h4 =>
  cases ru; obtain ⟨its1,r1,t1⟩:=Inv.rdT I h2
  cases ry with
  | non =>
   cases rw'
   simp only [eqD]; exact RcAt.tuple_none t1 hu0
  | bl q =>
   cases rw'
   simp only [eqD]; exact RcAt.tuple_bool _ t1 hu0
  | int q =>
   obtain ⟨t2,rfl⟩:=rw'
   simp only [eqD]; exact RcAt.tuple_int _ _ t1 hu0
  | str q =>
   obtain ⟨t2,rfl⟩:=rw'
   simp only [eqD]; exact RcAt.tuple_str _ _ t1 hu0
  | tup k1 k2 k3 k4 =>
   cases rw'; obtain ⟨its2,r2,t2⟩:=Inv.rdT I k2
   simp only [eqD]; exact rcT I n A hu0 t1 t2 r1 r2 h3 k3 h4 k4 fd fe ih
  | lst k1 k2 k3 k4 =>
   cases rw'; obtain ⟨its2,r2,t2⟩:=Inv.rdL I k2
   simp only [eqD]; exact RcAt.tuple_list t1 t2 hu0
  | dct k1 k2 k3 k4=>(cases n <;> simp [flat] at fe)
  | exc k1 k2=>(cases n <;> simp [flat] at fe)
  | xd k1 k2=>(cases n <;> simp [flat] at fe)
 | lst h1 h2 h3 h4 =>
  cases ru; obtain ⟨its1,r1,t1⟩:=Inv.rdL I h2
  cases ry with
  | non =>
   cases rw'
   simp only [eqD]; exact RcAt.list_none t1 hu0
  | bl q =>
   cases rw'
   simp only [eqD]; exact RcAt.list_bool _ t1 hu0
  | int q =>
   obtain ⟨t2,rfl⟩:=rw'
   simp only [eqD]; exact RcAt.list_int _ _ t1 hu0
  | str q =>
   obtain ⟨t2,rfl⟩:=rw'
   simp only [eqD]; exact RcAt.list_str _ _ t1 hu0
  | tup k1 k2 k3 k4 =>
   cases rw'; obtain ⟨its2,r2,t2⟩:=Inv.rdT I k2
   simp only [eqD]; exact RcAt.list_tuple t1 t2 hu0
  | lst k1 k2 k3 k4 =>
   cases rw'; obtain ⟨its2,r2,t2⟩:=Inv.rdL I k2
   simp only [eqD]; exact rcL I n A hu0 t1 t2 r1 r2 h3 k3 h4 k4 fd fe ih
  | dct k1 k2 k3 k4=>(cases n <;> simp [flat] at fe)
  | exc k1 k2=>(cases n <;> simp [flat] at fe)
  | xd k1 k2=>(cases n <;> simp [flat] at fe)
 | dct h1 h2 h3 h4=>(cases n <;> simp [flat] at fd)
 | exc h1 h2=>(cases n <;> simp [flat] at fd)
 | xd h1 h2=>(cases n <;> simp [flat] at fd)
theorem rnD (I:Inv X pins σ H s) (n:Nat) (A:Wn) (x y:V) (u w:Value) (d e:D) (hu0:A.units < Qt) (fd:flat n d=true) (fe:flat n e=true) (ih:z7D H s A n) (rx:Rep H NoO x d) (ry:Rep H NoO y e) (ru:RelV x u) (rw':RelV y w):RcNeAt A s u w (!eqD d e):=by
 cases rx with
 | non =>
  cases ru
  cases ry with
  | non =>
   cases rw'
   simp only [eqD]; exact RcNeAt.none_none
  | bl q =>
   cases rw'
   simp only [eqD]; exact RcNeAt.none_bool _
  | int q =>
   obtain ⟨t2,rfl⟩:=rw'
   simp only [eqD]; exact RcNeAt.none_int _ _
  | str q =>
   obtain ⟨t2,rfl⟩:=rw'
   simp only [eqD]; exact RcNeAt.none_str _ _
  | tup k1 k2 k3 k4 =>
   cases rw'; obtain ⟨its2,r2,t2⟩:=Inv.rdT I k2
   simp only [eqD]; exact RcNeAt.none_tuple t2 hu0
  | lst k1 k2 k3 k4 =>
   cases rw'; obtain ⟨its2,r2,t2⟩:=Inv.rdL I k2
   simp only [eqD]; exact RcNeAt.none_list t2 hu0
  | dct k1 k2 k3 k4=>(cases n <;> simp [flat] at fe)
  | exc k1 k2=>(cases n <;> simp [flat] at fe)
  | xd k1 k2=>(cases n <;> simp [flat] at fe)
 | bl p =>
  cases ru
  cases ry with
  | non =>
   cases rw'
   simp only [eqD]; exact RcNeAt.bool_none _
  | bl q =>
   cases rw'
   simp only [eqD]; exact RcNeAt.bool_bool _ _
  | int q =>
   obtain ⟨t2,rfl⟩:=rw'
   simp only [eqD]; exact RcNeAt.bool_int _ _ _
  | str q =>
   obtain ⟨t2,rfl⟩:=rw'
   simp only [eqD]; exact RcNeAt.bool_str _ _ _
  | tup k1 k2 k3 k4 =>
   cases rw'; obtain ⟨its2,r2,t2⟩:=Inv.rdT I k2
   simp only [eqD]; exact RcNeAt.bool_tuple _ t2 hu0
  | lst k1 k2 k3 k4 =>
   cases rw'; obtain ⟨its2,r2,t2⟩:=Inv.rdL I k2
   simp only [eqD]; exact RcNeAt.bool_list _ t2 hu0
  | dct k1 k2 k3 k4=>(cases n <;> simp [flat] at fe)
  | exc k1 k2=>(cases n <;> simp [flat] at fe)
  | xd k1 k2=>(cases n <;> simp [flat] at fe)
 | int p =>
  obtain ⟨t1,rfl⟩:=ru
  cases ry with
  | non =>
   cases rw'
   simp only [eqD]; exact RcNeAt.int_none _ _
  | bl q =>
   cases rw'
   simp only [eqD]; exact RcNeAt.int_bool _ _ _
  | int q =>
   obtain ⟨t2,rfl⟩:=rw'
   simp only [eqD]; exact RcNeAt.int_int _ _ _ _
  | str q =>
   obtain ⟨t2,rfl⟩:=rw'
   simp only [eqD]; exact RcNeAt.int_str _ _ _ _
  | tup k1 k2 k3 k4 =>
   cases rw'; obtain ⟨its2,r2,t2⟩:=Inv.rdT I k2
   simp only [eqD]; exact RcNeAt.int_tuple _ _ t2 hu0
  | lst k1 k2 k3 k4 =>
   cases rw'; obtain ⟨its2,r2,t2⟩:=Inv.rdL I k2
   simp only [eqD]; exact RcNeAt.int_list _ _ t2 hu0
  | dct k1 k2 k3 k4=>(cases n <;> simp [flat] at fe)
  | exc k1 k2=>(cases n <;> simp [flat] at fe)
  | xd k1 k2=>(cases n <;> simp [flat] at fe)
 | str p =>
  obtain ⟨t1,rfl⟩:=ru
  cases ry with
  | non =>
   cases rw'
   simp only [eqD]; exact RcNeAt.str_none _ _
  | bl q =>
   cases rw'
   simp only [eqD]; exact RcNeAt.str_bool _ _ _
  | int q =>
   obtain ⟨t2,rfl⟩:=rw'
   simp only [eqD]; exact RcNeAt.str_int _ _ _ _
  | str q =>
   obtain ⟨t2,rfl⟩:=rw'
   simp only [eqD]; rw [← z75]; exact RcNeAt.str_str _ _ _ _
  | tup k1 k2 k3 k4 =>
   cases rw'; obtain ⟨its2,r2,t2⟩:=Inv.rdT I k2
   simp only [eqD]; exact RcNeAt.str_tuple _ _ t2 hu0
  | lst k1 k2 k3 k4 =>
   cases rw'; obtain ⟨its2,r2,t2⟩:=Inv.rdL I k2
   simp only [eqD]; exact RcNeAt.str_list _ _ t2 hu0
  | dct k1 k2 k3 k4=>(cases n <;> simp [flat] at fe)
  | exc k1 k2=>(cases n <;> simp [flat] at fe)
  | xd k1 k2=>(cases n <;> simp [flat] at fe)
 | tup h1 h2 h3 h4 =>
  cases ru; obtain ⟨its1,r1,t1⟩:=Inv.rdT I h2
  cases ry with
  | non =>
   cases rw'
   simp only [eqD]; exact RcNeAt.tuple_none t1 hu0
  | bl q =>
   cases rw'
   simp only [eqD]; exact RcNeAt.tuple_bool _ t1 hu0
  | int q =>
   obtain ⟨t2,rfl⟩:=rw'
   simp only [eqD]; exact RcNeAt.tuple_int _ _ t1 hu0
  | str q =>
   obtain ⟨t2,rfl⟩:=rw'
   simp only [eqD]; exact RcNeAt.tuple_str _ _ t1 hu0
  | tup k1 k2 k3 k4 =>
   cases rw'; obtain ⟨its2,r2,t2⟩:=Inv.rdT I k2
   simp only [eqD]; exact rnT I n A hu0 t1 t2 r1 r2 h3 k3 h4 k4 fd fe ih
  | lst k1 k2 k3 k4 =>
   cases rw'; obtain ⟨its2,r2,t2⟩:=Inv.rdL I k2
   simp only [eqD]; exact RcNeAt.tuple_list t1 t2 hu0
  | dct k1 k2 k3 k4=>(cases n <;> simp [flat] at fe)
  | exc k1 k2=>(cases n <;> simp [flat] at fe)
  | xd k1 k2=>(cases n <;> simp [flat] at fe)
 | lst h1 h2 h3 h4 =>
  cases ru; obtain ⟨its1,r1,t1⟩:=Inv.rdL I h2
  cases ry with
  | non =>
   cases rw'
   simp only [eqD]; exact RcNeAt.list_none t1 hu0
  | bl q =>
   cases rw'
   simp only [eqD]; exact RcNeAt.list_bool _ t1 hu0
  | int q =>
   obtain ⟨t2,rfl⟩:=rw'
   simp only [eqD]; exact RcNeAt.list_int _ _ t1 hu0
  | str q =>
   obtain ⟨t2,rfl⟩:=rw'
   simp only [eqD]; exact RcNeAt.list_str _ _ t1 hu0
  | tup k1 k2 k3 k4 =>
   cases rw'; obtain ⟨its2,r2,t2⟩:=Inv.rdT I k2
   simp only [eqD]; exact RcNeAt.list_tuple t1 t2 hu0
  | lst k1 k2 k3 k4 =>
   cases rw'; obtain ⟨its2,r2,t2⟩:=Inv.rdL I k2
   simp only [eqD]; exact rnL I n A hu0 t1 t2 r1 r2 h3 k3 h4 k4 fd fe ih
  | dct k1 k2 k3 k4=>(cases n <;> simp [flat] at fe)
  | exc k1 k2=>(cases n <;> simp [flat] at fe)
  | xd k1 k2=>(cases n <;> simp [flat] at fe)
 | dct h1 h2 h3 h4=>(cases n <;> simp [flat] at fd)
 | exc h1 h2=>(cases n <;> simp [flat] at fd)
 | xd h1 h2=>(cases n <;> simp [flat] at fd)
theorem zam (h:RcAt A s u w k) (hs:u=w→k=true) (hf:∀ b t,u≠Value.float b t):EqAt A s u w k:=fun prog w' E Q hq=>by
 unfold eqBool
 refine WF ?_
 refine JF (fun hab=>?_) (fun _=>?_)
 ·have e:=eq_of_beq hab
  rw [hs e] at hq
  exact W0 (QL (W3 hq))
 ·cases u with
  | float b t=>exact absurd rfl (hf b t)
  | _=>exact W0 (h prog w' E _ (J3 hq))
theorem z9L (r:Rep H NoO x d) (ru:RelV x u) (b:UInt64) (t:Tok):u≠Value.float b t:=by
 intro e
 subst e
 cases r <;> first | (cases ru; done) | (obtain ⟨t',e⟩:=ru; cases e)
theorem eqAtD (I:Inv X pins σ H s) (n:Nat):EqIt H s n:=by
 induction n with
 | zero =>
  intro A x y u w d e hu fd fe rx ry ru rw'
  refine zam (rcD I 0 A x y u w d e (by omega) fd fe trivial rx ry ru rw') (fun h=>?_) (z9L rx ru)
  subst h
  have:=ru.inj rw'
  subst this
  rw [Rep.inj rx fd fe ry]
  exact z4t fe
 | succ n ih =>
  intro A x y u w d e hu fd fe rx ry ru rw'
  refine zam (rcD I (n + 1) A x y u w d e (by omega) fd fe ⟨by omega,ih⟩ rx ry ru rw') (fun h=>?_) (z9L rx ru)
  subst h
  have:=ru.inj rw'
  subst this
  rw [Rep.inj rx fd fe ry]
  exact z4t fe
theorem zfu (I:Inv X pins σ H s):∀ n:Nat,A.units + n + 1 < Qt→z7D H s A n
 | 0,_=>trivial
 | n + 1,h=>⟨by omega,eqAtD I n⟩
def rEqD:R2:=fun x y H Q=>∃ d e,Rep H NoO x d∧Rep H NoO y e∧flat 50 d=true∧flat 50 e=true∧Q (.bl (eqD d e)) H
def rNeD:R2:=fun x y H Q=>∃ d e,Rep H NoO x d∧Rep H NoO y e∧flat 50 d=true∧flat 50 e=true∧Q (.bl (!eqD d e)) H
theorem z3e (hu:X.A.units + 64 < Qt):OpR X (WP .Eq) rEqD:=by
 intro pins s σ H x y v u Q I rx ry h
 obtain ⟨d,e,r1,r2,f1,f2,q⟩:=h
 exact rcD I 50 X.A x y v u d e (by omega) f1 f2 (zfu I 50 (by omega)) r1 r2 rx ry X.prog X.w X.xe _ ⟨.bl _,H,I,rfl,q⟩
theorem z7V (hu:X.A.units + 64 < Qt):OpR X (WP .NotEq) rNeD:=by
 intro pins s σ H x y v u Q I rx ry h
 obtain ⟨d,e,r1,r2,f1,f2,q⟩:=h
 exact rnD I 50 X.A x y v u d e (by omega) f1 f2 (zfu I 50 (by omega)) r1 r2 rx ry X.prog X.w X.xe _ ⟨.bl _,H,I,rfl,q⟩
end
def cutL {α:Type} (xs:List α) (lo hi:Option Int):List α:=(xs.drop (HT.sIx xs.length 0 lo)).take (HT.sIx xs.length xs.length hi - HT.sIx xs.length 0 lo)
theorem zcp (xs:List V) (lo hi:Option Int):cutL xs lo hi=cutV xs lo hi:=rfl
theorem zbO (xs:List α) (lo hi:Option Int):(cutL xs lo hi).length≤xs.length:=by
 unfold cutL
 rw [Jh,List.length_drop]
 omega
theorem Reps.cut (lo hi:Option Int) (h:Reps H O vs ds):Reps H O (cutL vs lo hi) (cutL ds lo hi):=by
 unfold cutL
 rw [h.1]
 exact Reps.take _ (Reps.drop _ h)
theorem zax {α:Type} {xs:List α} {lo hi:Option Int} (h:HT.sIx xs.length 0 lo=0∧HT.sIx xs.length xs.length hi=xs.length):cutL xs lo hi=xs:=by
 unfold cutL
 rw [h.1,h.2]
 simp
section
variable {prog:Wj} {w:Wp} {A:Wn} {E:Value→W1→Prop} {s:W1}
theorem z3s {t sl:Addr} {items:Array Value} {vl vu:Value} {lo hi:Option Int} {Q:Value→W1→Prop} (ht:IsTup s.heap t items) (hs:s.heap.IsSliceOf sl vl vu .none) (pl:IsPart vl lo) (pu:IsPart vu hi)
  (hw:HT.sIx items.size 0 lo=0∧HT.sIx items.size items.size hi=items.size) (h:Q (.ref t) s):W5 (model prog w) A (getItem (.ref t) (.ref sl)) Q E s:=by
 obtain ⟨os,hos,hcs,hds⟩:=id hs
 have hTs:s.TypeIs (.ref sl) "slice":=⟨os,hos,hcs⟩
 unfold getItem
 try with_reducible refine WF ?_
 first | refine W0 (W3 ?_) | skip
 refine W0 (wpAny_sequenceKey ht.typeIs (by decide) ?_)
 refine W0 (Qs (name:=Str.ofString "__getitem__") ht.typeIs QD
  (Qn QD ht.typeIs entry_tuple_getitem ?_ (args_tuple_getitem _ _)))
 show W5 _ _ (Builtin.Tuple.tupleItemsOf (.ref t) >>= _) _ _ s
 refine W0 (tupleItemsOf_ ht ?_)
 refine W0 (QJ hTs ?_)
 rw [if_pos (by decide)]
 refine W0 (HT.sliceApplied_gen hs pl pu ?_)
 show W5 _ _ (if (((HT.sIx items.size 0 lo:Nat):Int) == 0 && (1:Int) == 1 && (HT.sIx items.size items.size hi - HT.sIx items.size 0 lo) == items.size)=true then _ else _) _ _ s
 rw [hw.1,hw.2]
 rw [if_pos (by simp)]
 refine W0 (m:=Builtin.Tuple.tupleIsExact (.ref t)) ?_
 unfold Builtin.Tuple.tupleIsExact
 refine W0 (QJ ht.typeIs (W3 ?_))
 rw [if_pos (by decide)]
 exact W0 (QL (W0 (W3 (W3 ⟨_,rfl,W3 h⟩))))
end
section
variable {X:Cx}
def zej (K:W2):V→Option Int→Option Int→Hp→VK→Prop:=fun x lo hi H Q=>∃ a xs,x = .ref a∧SqT K H a xs ∧
 ((HT.sIx xs.length 0 lo=0∧HT.sIx xs.length xs.length hi=xs.length)→Q (.ref a) H)∧(¬ (HT.sIx xs.length 0 lo=0∧HT.sIx xs.length xs.length hi=xs.length)→∀ p,H p=none→Q (.ref p) (upd H p (.tup (cutV xs lo hi))))
theorem sl_tup2:SlR X (zej X.K):=by
 intro pins s σ H x v vl vu lo hi sl Q I rx hs pl pu h
 obtain ⟨a,xs,rfl,hx,q1,q2⟩:=h
 by_cases hw:HT.sIx xs.length 0 lo=0∧HT.sIx xs.length xs.length hi=xs.length
 ·cases rx
  obtain ⟨its,r,ht,hz⟩:=I.tuple hx
  have hlen:its.toArray.size=xs.length:=by rw [Wl]; exact r.length.symm
  refine ⟨"tuple",_,PyProof.Rows.slot_tuple_getitem.lookup,ht.typeIs,?_⟩
  exact z3s ht hs pl pu (by rw [hlen]; exact hw) ⟨.ref a,H,I,rfl,q1 hw⟩
 ·exact ze4 pins s σ H (.ref a) v vl vu lo hi sl Q I rx hs pl pu ⟨a,xs,rfl,hx,hw,q2 hw⟩
theorem z9j (a b:Nat):sliceRange (a:Int) (b:Int) 1=(Wz (b - a)).map (fun k=>a + k):=by
 have h0:((1:Int) > 0)=True:=by simp
 unfold sliceRange
 simp only [h0,if_true]
 by_cases hlt:(a:Int) < (b:Int)
 ·rw [if_pos hlt]
  have e3:(((b:Int) - (a:Int) + 1 - 1) / 1).toNat=b - a:=by
   rw [Int.ediv_one]; omega
  rw [e3]
  refine List.map_congr_left fun k _=>?_
  omega
 ·rw [if_neg hlt]
  have:b - a=0:=by omega
  rw [this]
  rfl
theorem z5o (lo hi:Option Int) (n:Nat):Qv lo hi 1 n=(Wz (HT.sIx n n hi - HT.sIx n 0 lo)).map (fun k=>HT.sIx n 0 lo + k):=by
 have c:∀ (i:Int) (d:Nat),max 0 (min (if i < 0 then i + (n:Int) else i) (n:Int))=((HT.sIx n d (some i):Nat):Int):=by
  intro i d
  show max 0 (min (if i < 0 then i + (n:Int) else i) (n:Int))=(((if i < 0 then (i + (n:Int)).toNat else min i.toNat n):Nat):Int)
  by_cases hi:i < 0
  ·simp only [if_pos hi]; omega
  ·simp only [if_neg hi]; omega
 have h0:((1:Int) > 0)=True:=by simp
 rw [← z9j]
 unfold Qv
 simp only [h0,if_true]
 cases lo with
 | none =>
  cases hi with
  | none=>rfl
  | some j=>show sliceRange 0 (max 0 (min (if j < 0 then j + (n:Int) else j) (n:Int))) 1=_; rw [c j n]; rfl
 | some i =>
  cases hi with
  | none=>show sliceRange (max 0 (min (if i < 0 then i + (n:Int) else i) (n:Int))) (n:Int) 1=_; rw [c i 0]; rfl
  | some j=>show sliceRange (max 0 (min (if i < 0 then i + (n:Int) else i) (n:Int))) (max 0 (min (if j < 0 then j + (n:Int) else j) (n:Int))) 1=_; rw [c i 0,c j n]
theorem zcC (x:Tx) (lo hi:Option Int):(⟨((Qv lo hi 1 (toS x).length).filterMap ((toS x).cps[·]?)).toArray⟩:Str)=toS (cutL x lo hi):=by
 unfold toS
 congr 1
 rw [z5o]
 have:=pick_run (x.toArray) (HT.sIx x.length 0 lo) (HT.sIx x.length x.length hi - HT.sIx x.length 0 lo)
 have hl:({ cps:=x.toArray }:Str).length=x.length:=by simp [Str.length]
 rw [hl]
 rw [this]
 rfl
def rSlS:V→Option Int→Option Int→Hp→VK→Prop:=fun x lo hi H Q=>∃ z:Tx,x = .str (toS z)∧z.length≤W8∧Q (.str (toS (cutL z lo hi))) H
theorem z9A (p:IsPart v o):∃ q:Option (Int×Tok),v=partValue q∧q.map (·.1)=o:=by
 cases p with
 | none=>exact ⟨none,rfl,rfl⟩
 | int i t=>exact ⟨some (i,t),rfl,rfl⟩
theorem sl_str:SlR X rSlS:=by
 intro pins s σ H x v vl vu lo hi sl Q I rx hs pl pu h
 obtain ⟨z,rfl,hz,q⟩:=h
 obtain ⟨t,rfl⟩:=rx
 obtain ⟨l,rfl,el⟩:=z9A pl
 obtain ⟨u,rfl,eu⟩:=z9A pu
 obtain ⟨o,ho,hc,hd⟩:=hs
 refine ⟨"str",_,F.slot_str_getitem.lookup,typeIs_str s _ t,?_⟩
 refine wpAny_getItem_str_slice (l:=l) (u:=u) (st:=none) ⟨o,ho,hc,hd⟩ rfl ?_
 unfold sliceMade
 have e:(slicePicked (toS z) l u none)=Qv lo hi 1 (toS z).length:=by
  unfold slicePicked
  rw [el,eu]
  rfl
 rw [e]
 by_cases hw:(((none:Option (Int×Tok)).map (·.1)).getD 1 == 1 && (Qv lo hi 1 (toS z).length).length == (toS z).length)=true
 ·rw [if_pos hw]
  refine ⟨.str (toS (cutL z lo hi)),H,I,⟨t,?_⟩,q⟩
  congr 1
  rw [Wh] at hw
  have hw2:=eq_of_beq hw.2
  rw [z5o,Ws,Jt,z28] at hw2
  have h1:=HT.sIx_le z.length 0 (QR _) lo
  have h2:=HT.sIx_le z.length z.length (Wd _) hi
  unfold cutL
  congr 1
  by_cases h0:z.length=0
  ·have:z=[]:=Qj h0
   subst this
   simp
  ·have a1:HT.sIx z.length 0 lo=0:=by omega
   rw [a1] at hw2 ⊢
   rw [hw2]
   simp
 ·rw [if_neg hw]
  show Made.post (.str _) _ _
  rw [zcC]
  exact ⟨by rw [z28]; exact WO (zbO z lo hi) hz,.str (toS (cutL z lo hi)),H,I.tok _,⟨_,rfl⟩,q⟩
theorem op_catT0:OpR X (Qb .Add) (fun x y H Q=>∃ a b ys,x = .ref a∧y = .ref b∧SqT X.K H a []∧SqT X.K H b ys∧Q (.ref b) H):=by
 intro pins s σ H x y v u Q I rx ry h
 obtain ⟨a,b,ys,rfl,rfl,ha,hb,q⟩:=h
 cases rx
 cases ry
 obtain ⟨its,r1,p1,_⟩:=I.tuple ha
 obtain ⟨its2,r2,p2,_⟩:=I.tuple hb
 cases r1
 obtain ⟨⟨cls,dd,data,sl⟩,ho,hc,n,hd⟩:=id p1
 obtain ⟨⟨cls2,dd2,data2,sl2⟩,ho2,hc2,n2,hd2⟩:=id p2
 simp only at hc hd hc2 hd2
 subst hc hd hc2 hd2
 exact concat_meets ⟨_,ho,rfl⟩ ⟨_,ho2,rfl⟩ noFill_tuple_add seq_tuple_add PySem.F.slot_tuple_add PySem.F.entry_tuple_add (PySem.F.args_tuple_add_2 _ _)
   (tuple_addW0 a b #[] its2.toArray n n2 dd dd2 sl sl2 rfl) ⟨ho,ho2,.ref b,H,I,rfl,q⟩
def zeo (K:W2):R2:=fun x y H Q=>∃ l b xs zs,x = .ref l∧y = .ref b∧SqL K H l xs∧SqL K H b zs∧xs.length + zs.length≤W8∧∀ p,H p=none→Q (.ref p) (upd H p (.lst (xs ++ zs)))
theorem zdk:OpR X (Qb .Add) (zeo X.K):=by
 intro pins s σ H x y v u Q I rx ry h
 obtain ⟨l,b,xs,zs,rfl,rfl,hH,hB,hz,q⟩:=h
 cases rx
 cases ry
 obtain ⟨its,r,⟨⟨cls,dd,data,sl⟩,n,e,hc,hdd,hd⟩,z⟩:=I.list hH
 obtain ⟨its2,r2,⟨⟨cls2,dd2,data2,sl2⟩,n2,e2,hc2,hdd2,hd2⟩,z2⟩:=I.list hB
 simp only at hc hd hdd hc2 hd2 hdd2
 subst hc hd hdd hc2 hd2 hdd2
 have hl:=r.length
 have hl2:=r2.length
 refine concat_meets ⟨_,e,rfl⟩ ⟨_,e2,rfl⟩ noFill_list_add seq_list_add PySem.F.slot_list_add PySem.F.entry_list_add (PySem.F.args_list_add_2 _ _)
   (list_addW l b its.toArray its2.toArray n n2 none none sl sl2 (by rw [Wl,Wl]; omega)) ⟨e,e2,?_⟩
 have ea:its.toArray ++ its2.toArray=(its ++ its2).toArray:=by simp
 rw [ea]
 exact ⟨.ref _,_,I.lnew (t':=s.toks) (r.append r2) (by rw [Q1]; omega),rfl,q _ I.fresh⟩
theorem z36:∀ {ys:List Str} {us:List Value},Vals (ys.map V.str) us→StrsAre us ys
 | [],us,r=>by cases r; exact .nil
 | y :: ys,us,r=>by
  cases r with
  | cons r1 r2 =>
   obtain ⟨t,rfl⟩:=r1
   exact .cons y t (z36 r2)
theorem vals_strs:∀ {ys:List Str} {us:List Value},StrsAre us ys→Vals (ys.map V.str) us
 | _,_,.nil=>.nil
 | _,_,.cons y t h=>.cons ⟨t,rfl⟩ (vals_strs h)
def zb4 (K:W2):V→List V→Hp→VK→Prop:=fun x vs H Q=>∃ (z:Str) (a:Addr) (ys:List Str),x = .str z∧vs=[.ref a]∧(SqL K H a (ys.map V.str)∨SqT K H a (ys.map V.str)) ∧
 (ys.map (·.length)).sum + ys.length * z.length≤16777216∧Q (.str (Txt.join z ys)) H
theorem zdp:MtR X "str.join" (zb4 X.K):=by
 intro pins s σ H x vs v us Q I rx rv h
 obtain ⟨z,a,ys,rfl,rfl,hq,hz,q⟩:=h
 obtain ⟨t,rfl⟩:=rx
 obtain ⟨u,rfl,ru⟩:=rv.one
 cases ru
 rcases hq with hq | hq
 ·obtain ⟨its,r,p,_⟩:=I.list hq
  exact join_list p.isList (by simpa using z36 r) hz fun t' k=>⟨.str _,H,I.tok _,⟨t',rfl⟩,q⟩
 ·obtain ⟨its,r,p,_⟩:=I.tuple hq
  exact join_tuple p (by simpa using z36 r) hz fun t' k=>⟨.str _,H,I.tok _,⟨t',rfl⟩,q⟩
def insT (x:Tx):List Tx→List Tx
 | []=>[x]
 | y :: r=>if y < x then y :: insT x r else x :: y :: r
def z23:List Tx→List Tx
 | []=>[]
 | x :: r=>insT x (z23 r)
theorem z51 (x:Tx):∀ l:List Tx,(insT x l).Perm (x :: l)
 | []=>.refl _
 | y :: r=>by
  unfold insT
  split
  ·exact ((z51 x r).cons y).trans (.swap x y r)
  ·exact .refl _
theorem z2h:∀ l:List Tx,(z23 l).Perm l
 | []=>.refl _
 | x :: r=>(z51 x _).trans ((z2h r).cons x)
abbrev leT (a b:Tx):Prop:=¬ b < a
theorem z6E (h1:leT a b) (h2:leT b c):leT a c:=List.not_lt.mpr (List.le_trans (List.not_lt.mp h1) (List.not_lt.mp h2))
theorem zbu (h1:leT a b) (h2:leT b a):a=b:=List.le_antisymm (List.not_lt.mp h1) (List.not_lt.mp h2)
theorem z50 (x:Tx):∀ l:List Tx,l.Pairwise leT→(insT x l).Pairwise leT
 | [],_=>by simp [insT]
 | y :: r,h=>by
  unfold insT
  obtain ⟨h1,h2⟩:=List.pairwise_cons.mp h
  split
  ·rename_i hlt
   refine Qo.mpr ⟨fun z hz=>?_,z50 x r h2⟩
   rcases Wg.mp ((z51 x r).mem_iff.mp hz) with e | hz
   ·subst e
    intro q
    exact absurd (List.lt_trans hlt q) (List.lt_irrefl _)
   ·exact h1 z hz
  ·rename_i hge
   refine Qo.mpr ⟨fun z hz=>?_,h⟩
   rcases Wg.mp hz with e | hz
   ·subst e; exact hge
   ·exact z6E hge (h1 z hz)
theorem z2K:∀ l:List Tx,(z23 l).Pairwise leT
 | []=>.nil
 | x :: r=>z50 x _ (z2K r)
theorem z5F (hp:l'.Perm l) (hs:l'.Pairwise leT):l'=z23 l :=
 List.Perm.eq_of_pairwise (fun _ _ _ _ h1 h2=>zbu h1 h2) hs (z2K l) (hp.trans (z2h l).symm)
theorem z4H:∀ (x:Str) (r:List Str),risingS x r=true→((x :: r).map fun z:Str=>z.cps.toList).Pairwise leT
 | x,[],_=>by simp
 | x,y :: r,h=>by
  have h':(!ltCps y.cps.toList x.cps.toList && risingS y r)=true:=h
  rw [Wh] at h'
  have ih:=z4H y r h'.2
  have hxy:leT x.cps.toList y.cps.toList:=by
   have:=h'.1
   rw [ltCps_eq] at this
   simpa using this
  rw [Wr]
  refine Qo.mpr ⟨fun z hz=>?_,ih⟩
  rw [Wr] at hz ih
  rcases Wg.mp hz with e | hz
  ·subst e; exact hxy
  ·exact z6E hxy ((List.pairwise_cons.mp ih).1 z hz)
theorem z6V:CallR X (.builtin "sorted") (fun xs H Q=>∃ (a:Addr) (ts:List Tx),xs=[.ref a]∧SqL X.K H a (ts.map fun z=>V.str (toS z))∧ts.length < 64∧∀ p,H p=none→Q (.ref p) (upd H p (.lst ((z23 ts).map fun z=>V.str (toS z))))):=by
 intro pins s σ H xs us Q I r h
 obtain ⟨a,ts,rfl,hq,hz,q⟩:=h
 obtain ⟨u,rfl,ru⟩:=z3R r
 cases ru
 obtain ⟨its,r',p,_⟩:=I.list hq
 have r2:Vals ((ts.map toS).map V.str) its:=by rw [WH]; exact r'
 have hlen:=r'.length
 rw [Ws] at hlen
 refine sorted_strs p.isList (z36 r2) (by omega) fun out ss hS hp hs=>?_
 have e:ss=(z23 ts).map toS:=by
  have hpw:(ss.map fun z:Str=>z.cps.toList).Pairwise leT:=by
   cases ss with
   | nil=>simp
   | cons x r=>exact z4H x r hs
  have hpp:(ss.map fun z:Str=>z.cps.toList).Perm ts:=by
   have:=hp.map fun z:Str=>z.cps.toList
   rw [WH] at this
   have e2:ts.map ((fun z:Str=>z.cps.toList) ∘ toS)=ts:=by
    rw [show ((fun z:Str=>z.cps.toList) ∘ toS)=id from funext fun z=>z3h z,List.map_id]
   rw [e2] at this
   exact this
  rw [← z5F hpp hpw,WH]
  have:(toS ∘ fun z:Str=>z.cps.toList)=id:=funext fun z=>(z7I z).symm
  rw [this,List.map_id]
 obtain ⟨ep,he⟩:=sortedAll_at s.heap its out
 have hv:Vals ((z23 ts).map fun z=>V.str (toS z)) out.toList:=by
  have:=vals_strs hS
  rw [e,WH] at this
  exact this
 have hl2:((z23 ts).map fun z=>V.str (toS z)).length≤W8:=by
  rw [Ws,(z2h ts).length_eq]
  exact WO (JJ hz) (by rw [QE]; decide)
 refine ⟨.ref (s.heap.objs.size + 1),_,I.laid (a:=s.heap.objs.size + 1) (o:=.lst ((z23 ts).map fun z=>V.str (toS z))) (t':=s.toks) (fun b u e=>sortedAll_old e) (Nat.le_succ _) ?_,rfl,q _ (I.hok.fresh (Nat.le_succ _))⟩
 exact ⟨hl2,out.toList,ep,hv,by simpa [seqObj] using he⟩
end
def p2 (p:D→D→Option S) (x y:D) (δ:Dl):Rs S:=match p x y with
 | some s=>.ok s δ
 | none=>.stuck
def eOp (p:D→D→Option S) (fa:DE) (fb:BE):DE:=fun δ=>(fa δ).bind fun x δ1=>(fb δ1).bind fun y δ2=>p2 p x.d y δ2
def eOpN (p:D→D→Option S) (i:Nat) (fb:BE):DE:=fun δ=>(fb δ).bind fun y δ1=>(bVar i δ1).bind fun x δ2=>p2 p x y δ2
def Op2 (r:R2) (p:D→D→Option S):Prop:=∀ (c:Fc) (σ:St) (δ:Dl) (H:Hp) (x y:V) (d e:D) (s:S) (Q:VK),Ok c σ δ H→RepB c σ δ H x d→RepB c σ δ H y e→p d e=some s →
 (∀ v H',Aft c σ δ H σ δ H'→RepS c σ δ H H' v s→Q v H')→r x y H Q
section
variable {X:Cx} {c:Fc} {a b:Expr} {fa:DE} {fb:BE} {r:R2} {p:D→D→Option S} {pos:Pos}
theorem z9B (hp:Op2 r p) (k:Ok c σ δ H) (rx:RepB c σ δ H x d) (ry:RepB c σ δ H y e)
  (h:post c (p2 p d e δ) fun s δ'=>∀ v H',Aft c σ δ H σ δ' H'→RepS c σ δ' H H' v s→Q v H'):r x y H Q:=by
 unfold p2 at h
 cases e1:p d e with
 | none=>rw [e1] at h; exact h.elim
 | some s=>rw [e1] at h; exact hp c σ δ H x y d e s Q k rx ry e1 h
theorem z7h (hp:Op2 r p) (h:tD c (eOp p fa fb) σ H Q):tOp r (tD c fa) (tB c fb) σ H Q:=by
 obtain ⟨δ,k,q⟩:=h
 refine ⟨δ,k,?_⟩
 unfold eOp at q
 rw [z03] at q
 refine z00 q fun x δ1 q1 v H1 a1 r1=>⟨δ1,a1.ok,?_⟩
 rw [z03] at q1
 refine z00 q1 fun y δ2 q2 u H2 a2 r2=>?_
 exact z9B hp a2.ok (.inl (Rep.aft r1.rep a2)) r2 (z00 q2 fun s δ3 q3 v' H3 a3 r3=>q3 v' H3 (a1.trans (a2.trans a3)) (RepS.back r3 (a1.trans a2)))
theorem zbg (hp:Op2 r p) (h:tD c (eOpN p i fb) σ H Q) (hv:∀ δ,Ok c σ δ H→post c (fb δ) (fun _ _=>True)→∃ v,σ[i]? = some (some v)):tOp r (tVar i) (tB c fb) σ H Q:=by
 obtain ⟨δ,k,q⟩:=h
 unfold eOpN at q
 rw [z03] at q
 obtain ⟨v,ev⟩:=hv δ k (z00 q fun _ _ _=>trivial)
 refine ⟨v,ev,δ,k,z00 q fun y δ1 q1 u H1 a1 r1=>?_⟩
 rw [z03] at q1
 unfold bVar at q1
 cases e:δ1[i]? with
 | none=>rw [e] at q1; exact q1.elim
 | some o =>
  cases o with
  | none=>rw [e] at q1; exact q1.elim
  | some w =>
   rw [e] at q1
   have q1':post c (p2 p w.d y δ1) fun s δ'=>∀ v H',Aft c σ δ H σ δ' H'→RepS c σ δ' H H' v s→Q v H':=q1
   have rb:RepB c σ δ1 H1 v w.d:=by
    cases w with
    | pure d =>
     obtain ⟨v',e1,r⟩:=a1.ok.slot i d e
     rw [ev] at e1; cases e1
     exact .inl r
    | own d =>
     obtain ⟨a,e1,r,_⟩:=a1.ok.own i d e
     rw [ev] at e1; cases e1
     exact .inr ⟨a,rfl,r⟩
   exact z9B hp a1.ok rb r1 (z00 q1' fun s δ3 q3 v' H3 a3 r3=>q3 v' H3 (a1.trans a3) (RepS.back r3 a1))
theorem z2i {i:Nat} {σ:St} {δ:Dl} {H:Hp} (k:Ok c σ δ H) {w:S} (e:δ[i]? = some (some w)):∃ v,σ[i]? = some (some v):=by
 cases w with
 | pure d=>obtain ⟨v,e1,_⟩:=k.slot i d e; exact ⟨v,e1⟩
 | own d=>obtain ⟨a,e1,_⟩:=k.own i d e; exact ⟨_,e1⟩
end
def eOpF (p:D→D→Option S) (i:Nat) (fb:BE):DE:=fun δ=>match δ[i]? with
 | some (some _)=>eOpN p i fb δ
 | _=>.stuck
section
variable {X:Cx} {c:Fc} {a b:Expr} {fa:DE} {fb:BE} {r:R2} {p:D→D→Option S} {pos:Pos}
theorem z4n (hp:Op2 r p) {i:Nat} {σ:St} {H:Hp} {Q:VK} (h:tD c (eOpF p i fb) σ H Q):tOp r (tVar i) (tB c fb) σ H Q:=by
 obtain ⟨δ,k,q⟩:=h
 unfold eOpF at q
 cases e:δ[i]? with
 | none=>rw [e] at q; exact q.elim
 | some o =>
  cases o with
  | none=>rw [e] at q; exact q.elim
  | some w =>
   rw [e] at q
   obtain ⟨v,ev⟩:=z2i k e
   exact zbg hp (i:=i) ⟨δ,k,q⟩ fun _ _ _=>⟨v,ev⟩
theorem z1t {op:Operator} (ho:OpR X (Qb op) r) (hp:Op2 r p) (ha:SE X c a fa) (hb:SB X c b fb):SE X c (.BinOp a op b pos) (eOp p fa fb):=PE.weak (zd9 ho ha hb) fun _ _ _ h=>z7h hp h
theorem z3c {op:Operator} {i:Nat} (ho:OpR X (Qb op) r) (hp:Op2 r p) (ha:PE X a (tVar i)) (hb:SB X c b fb):SE X c (.BinOp a op b pos) (eOpF p i fb):=PE.weak (zd9 ho ha hb) fun _ _ _ h=>z4n hp h
theorem zcN {op:CmpOp} {i:Nat} (ho:OpR X (WP op) r) (hp:Op2 r p) (ha:PE X a (tVar i)) (hb:SB X c b fb) (hm:Qx op b=false):SE X c (.Compare a [op] [b] pos) (eOpF p i fb):=PE.weak (zdc ho ha hb hm) fun _ _ _ h=>z4n hp h
theorem zcL (hr:IxR X r) (hp:Op2 r p) (ha:SE X c a fa) (hb:SB X c b fb) (hs:z7C b):SE X c (.Subscript a b pos) (eOp p fa fb):=PE.weak (zeK hr ha hb hs) fun _ _ _ h=>z7h hp h
theorem z0s {i:Nat} (hr:IxR X r) (hp:Op2 r p) (ha:PE X a (tVar i)) (hb:SB X c b fb) (hs:z7C b):SE X c (.Subscript a b pos) (eOpF p i fb):=PE.weak (zeK hr ha hb hs) fun _ _ _ h=>z4n hp h
end
abbrev DT:=Dl→Rs Bool
def tT (c:Fc) (f:DT):TT:=fun σ H Q=>∃ δ,Ok c σ δ H∧post c (f δ) fun b δ'=>∀ H',Aft c σ δ H σ δ' H'→Q b H'
abbrev ST (X:Cx) (c:Fc) (e:Expr) (f:DT):Prop:=PT X e (tT c f)
theorem PT.weak (h:PT X e t) (w:∀ σ H Q,t' σ H Q→t σ H Q):PT X e t':=fun pins s σ H Q I q=>h pins s σ H Q I (w σ H Q q)
def dTr (f:DE):DT:=fun δ=>(f δ).bind fun r δ'=>match r with
 | .pure (.bl b)=>.ok b δ'
 | _=>.stuck
section
variable {X:Cx} {c:Fc} {a b:Expr} {fa f:DE} {fb:BE} {r:R2} {p:D→D→Option S} {pos:Pos}
theorem z73 (h:tT c (dTr f) σ H Q):tD c f σ H fun x H'=>∃ k,x = .bl k∧Q k H':=by
 obtain ⟨δ,k,q⟩:=h
 refine ⟨δ,k,?_⟩
 unfold dTr at q
 rw [z03] at q
 refine z00 q fun r δ1 q1 v H1 a1 r1=>?_
 cases r with
 | own d=>exact q1.elim
 | pure d =>
  cases d <;> first | exact q1.elim | skip
  rename_i b
  cases r1
  exact ⟨b,rfl,q1 H1 a1⟩
theorem z1O {op:CmpOp} (ho:OpR X (WP op) r) (hp:Op2 r p) (ha:SE X c a fa) (hb:SB X c b fb) (hm:Qx op b=false):ST X c (.Compare a [op] [b] pos) (dTr (eOp p fa fb)) :=
 PT.weak (z9q ho ha hb hm) fun σ H Q h=>z7h hp (z73 h)
theorem z1N {op:CmpOp} {i:Nat} (ho:OpR X (WP op) r) (hp:Op2 r p) (ha:PE X a (tVar i)) (hb:SB X c b fb) (hm:Qx op b=false):ST X c (.Compare a [op] [b] pos) (dTr (eOpF p i fb)) :=
 PT.weak (z9q ho ha hb hm) fun σ H Q h=>z4n hp (z73 h)
theorem z8W {e:Expr} (h:SE X c e f) (he:∀ whole,isTrue e X.env whole=(do let v ← whole; standAt e.pos; holding [v] (truthy v)):=by intro _; rfl):ST X c e (dTr f) :=
 PT.weak (zex h he) fun σ H Q h=>z73 h
def dAnd (t u:DT):DT:=fun δ=>(t δ).bind fun b δ1=>if b then u δ1 else .ok false δ1
def dOr (t u:DT):DT:=fun δ=>(t δ).bind fun b δ1=>if b then .ok true δ1 else u δ1
def dNot (t:DT):DT:=fun δ=>(t δ).bind fun b δ1=>.ok (!b) δ1
abbrev SW (X:Cx) (c:Fc) (e:Expr) (f:DT):Prop:=PW X e (tT c f)
theorem PW.weak (h:PW X e t) (w:∀ σ H Q,t' σ H Q→t σ H Q):PW X e t':=fun wh pins s σ H Q I q=>h wh pins s σ H Q I (w σ H Q q)
variable {t u:DT} {rest:List Expr}
theorem z76 (ha:ST X c a t):SW X c (.BoolOp .And [a] pos) t:=zd1 ha
theorem zbX (ha:ST X c a t):SW X c (.BoolOp .Or [a] pos) t:=zeu ha
theorem z7J (ha:ST X c a t) (hb:SW X c (.BoolOp .And (b :: rest) pos) u):SW X c (.BoolOp .And (a :: b :: rest) pos) (dAnd t u):=PW.weak (zev ha hb) fun σ H Q ⟨δ,k,q⟩=>by
 unfold dAnd at q
 rw [z03] at q
 refine ⟨δ,k,z00 q fun x δ1 q1 H1 a1=>?_⟩
 cases x with
 | true=>exact ⟨δ1,a1.ok,z00 q1 fun y δ2 q2 H2 a2=>q2 H2 (a1.trans a2)⟩
 | false=>exact q1 H1 a1
theorem ze1 (ha:ST X c a t) (hb:SW X c (.BoolOp .Or (b :: rest) pos) u):SW X c (.BoolOp .Or (a :: b :: rest) pos) (dOr t u):=PW.weak (pw_or ha hb) fun σ H Q ⟨δ,k,q⟩=>by
 unfold dOr at q
 rw [z03] at q
 refine ⟨δ,k,z00 q fun x δ1 q1 H1 a1=>?_⟩
 cases x with
 | false=>exact ⟨δ1,a1.ok,z00 q1 fun y δ2 q2 H2 a2=>q2 H2 (a1.trans a2)⟩
 | true=>exact q1 H1 a1
theorem z8X (h:SW X c a t):ST X c a t:=PW.pt h
theorem ze2 (ha:ST X c a t):ST X c (.UnaryOp .Not a pos) (dNot t):=PT.weak (zey ha) fun σ H Q ⟨δ,k,q⟩=>by
 unfold dNot at q
 rw [z03] at q
 exact ⟨δ,k,q⟩
def eAnd (f g:DE):DE:=fun δ=>(f δ).bind fun r δ1=>match r with
 | .pure (.bl true)=>g δ1
 | .pure (.bl false)=>.ok (.pure (.bl false)) δ1
 | _=>.stuck
def eNot (f:DE):DE:=fun δ=>(f δ).bind fun r δ1=>match r with
 | .pure (.bl b)=>.ok (.pure (.bl (!b))) δ1
 | _=>.stuck
def eIf (t:DT) (f g:DE):DE:=fun δ=>(t δ).bind fun b δ1=>if b then f δ1 else g δ1
variable {g:DE}
theorem ze5 {op} (h:SE X c a f):SE X c (.BoolOp op [a] pos) f:=zeG h
theorem ze9 (ha:SE X c a f) (hb:SE X c (.BoolOp .And (b :: rest) pos) g):SE X c (.BoolOp .And (a :: b :: rest) pos) (eAnd f g):=PE.weak (zeN ha hb) fun σ H Q ⟨δ,k,q⟩=>by
 unfold eAnd at q
 rw [z03] at q
 refine ⟨δ,k,z00 q fun r δ1 q1 v H1 a1 r1=>?_⟩
 cases r with
 | own d=>exact q1.elim
 | pure d =>
  cases d <;> first | exact q1.elim | skip
  rename_i b
  cases r1
  refine ⟨b,rfl,?_⟩
  cases b with
  | true=>exact ⟨δ1,a1.ok,z00 q1 fun y δ2 q2 v H2 a2 r2=>q2 v H2 (a1.trans a2) (RepS.back r2 a1)⟩
  | false=>exact q1 _ H1 a1 (.bl false)
theorem ze6 (ha:SE X c a f):SE X c (.UnaryOp .Not a pos) (eNot f):=PE.weak (zeH ha) fun σ H Q ⟨δ,k,q⟩=>by
 unfold eNot at q
 rw [z03] at q
 refine ⟨δ,k,z00 q fun r δ1 q1 v H1 a1 r1=>?_⟩
 cases r with
 | own d=>exact q1.elim
 | pure d =>
  cases d <;> first | exact q1.elim | skip
  rename_i b
  cases r1
  exact ⟨b,rfl,q1 _ H1 a1 (.bl _)⟩
end
section
variable {c:Fc} {σ:St} {δ:Dl} {H:Hp} {x:V}
theorem RepB.int (h:RepB c σ δ H x (.int i)):x = .int i:=by
 rcases h with h | ⟨_,_,h⟩
 ·cases h; rfl
 ·exact h.elim
theorem RepB.bl (h:RepB c σ δ H x (.bl b)):x = .bl b:=by
 rcases h with h | ⟨_,_,h⟩
 ·cases h; rfl
 ·exact h.elim
theorem RepB.str (h:RepB c σ δ H x (.str z)):x = .str (toS z):=by
 rcases h with h | ⟨_,_,h⟩
 ·cases h; rfl
 ·exact h.elim
theorem RepB.tup (h:RepB c σ δ H x (.tup ds)):∃ a vs,x = .ref a∧H a=some (.tup vs)∧Reps H (Av c σ δ) vs ds:=by
 rcases h with h | ⟨_,_,h⟩
 ·cases h with
  | tup h1 h2 h3 h4=>exact ⟨_,_,rfl,h2,h3,h4⟩
 ·exact h.elim
theorem RepB.lst (h:RepB c σ δ H x (.lst ds)):∃ a vs,x = .ref a∧Rd H a (.lst vs)∧Reps H (Av c σ δ) vs ds:=by
 rcases h with h | ⟨a,e,h⟩
 ·cases h with
  | lst h1 h2 h3 h4=>exact ⟨_,_,rfl,h2,h3,h4⟩
 ·obtain ⟨vs,h1,h2⟩:=h
  exact ⟨a,vs,e,.inl h1,h2⟩
theorem RepB.dct (h:RepB c σ δ H x (.dct ds)):∃ a ws,x = .ref a∧H a=some (.dK ws)∧ws.map (·.1)=ds.map (fun p=>kOf p.1)∧∀ (i:Nat) p q,ws[i]? = some p→ds[i]? = some q→Rep H (Av c σ δ) p.2 q.2:=by
 rcases h with h | ⟨a,e,h⟩
 ·cases h with
  | dct h1 h2 h3 h4=>exact ⟨_,_,rfl,h2,h3,h4⟩
 ·obtain ⟨ws,h1,h2,h3⟩:=h
  exact ⟨a,ws,e,h1,h2,h3⟩
end
theorem z5n (h:z.length≤W8):(toS z).length≤W8:=by rw [z28]; exact h
theorem zcw (x y:Tx):toS x ++ toS y=toS (x ++ y):=by
 show Str.append (toS x) (toS y)=_
 simp [toS,Str.append]
def pAdd:D→D→Option S
 | .int i,.int j=>some (.pure (.int (i + j)))
 | .str x,.str y=>if x.length + y.length≤W8 then some (.pure (.str (x ++ y))) else none
 | .tup xs,.tup ys=>if xs.length + ys.length≤W8 then some (.pure (.tup (xs ++ ys))) else none
 | .lst xs,.lst ys=>if xs.length + ys.length≤W8 then some (.own (.lst (xs ++ ys))) else none
 | _,_=>none
def zep (K:W2):R2:=fun x y H Q=>rI0 (fun i j=>V.int (i + j)) x y H Q∨(∃ i j,x = .str i∧y = .str j∧i.length + j.length≤W8∧Q (.str (i ++ j)) H) ∨
 (∃ a b ys,x = .ref a∧y = .ref b∧SqT K H a []∧SqT K H b ys∧Q (.ref b) H)∨zen K x y H Q∨zeo K x y H Q
theorem z1j:OpR X (Qb .Add) (zep X.K):=op_add.or (op_add_str.or (op_catT0.or (op_catT.or zdk)))
theorem z1T {K:W2}:Op2 (zep K) pAdd:=by
 intro c σ δ H x y d e s Q k rx ry hp q
 cases d <;> cases e <;> first
  | (simp [pAdd] at hp; done)
  | skip
 ·rename_i i j
  simp only [pAdd,W9] at hp
  subst hp
  exact .inl ⟨i,j,rx.int,ry.int,q _ H (.refl k) (.int _)⟩
 ·rename_i u w
  simp only [pAdd] at hp
  split at hp
  ·rename_i hz
   simp only [W9] at hp
   subst hp
   refine .inr (.inl ⟨toS u,toS w,rx.str,ry.str,by rw [z28,z28]; exact hz,?_⟩)
   rw [zcw]
   exact q _ H (.refl k) (.str _)
  ·cases hp
 ·rename_i us ws
  simp only [pAdd] at hp
  split at hp
  ·rename_i hz
   simp only [W9] at hp
   subst hp
   obtain ⟨a,vs,ea,ha,ra⟩:=rx.tup
   obtain ⟨b,zs,eb,hb,rb⟩:=ry.tup
   cases vs with
   | nil =>
    have:us=[]:=by have:=ra.1; simpa using this.symm
    subst this
    refine .inr (.inr (.inl ⟨a,b,zs,ea,eb,.of ha,.of hb,?_⟩))
    rw [eb] at ry
    rcases ry with ry | ⟨_,_,ry⟩
    ·exact q _ H (.refl k) ry
    ·exact ry.elim
   | cons v0 vr =>
    refine .inr (.inr (.inr (.inl ⟨a,b,_,zs,ea,eb,.of ha,.of hb,by simp,by rw [ra.1,rb.1]; exact hz,fun e0=>?_,fun _ p hp=>?_⟩)))
    ·subst e0
     have:ws=[]:=by have:=rb.1; simpa using this.symm
     subst this
     rw [ea] at rx
     rcases rx with rx | ⟨_,_,rx⟩
     ·rw [WN] at q
      exact q _ H (.refl k) rx
     ·exact rx.elim
    ·exact q _ _ (.alloc k hp _) (RepS.newT k (ra.append rb) hp)
  ·cases hp
 ·rename_i us ws
  simp only [pAdd] at hp
  split at hp
  ·rename_i hz
   simp only [W9] at hp
   subst hp
   obtain ⟨a,vs,ea,ha,ra⟩:=rx.lst
   obtain ⟨b,zs,eb,hb,rb⟩:=ry.lst
   exact .inr (.inr (.inr (.inr ⟨a,b,vs,zs,ea,eb,.inl ha,.inl hb,by rw [ra.1,rb.1]; exact hz,fun p hp=>q _ _ (.alloc k hp _) (RepS.newL k (ra.append rb) hp)⟩)))
  ·cases hp
def pII (C:Int→Int→Bool) (g:Int→Int→D):D→D→Option S
 | .int i,.int j=>if C i j then some (.pure (g i j)) else none
 | _,_=>none
theorem zbi (hC:∀ i j,C' i j=true→C i j) (hg:∀ i j H O,Rep H O (g i j) (g' i j)):Op2 (rI C g) (pII C' g'):=by
 intro c σ δ H x y d e s Q k rx ry hp q
 cases d <;> cases e <;> first
  | (simp [pII] at hp; done)
  | skip
 rename_i i j
 simp only [pII] at hp
 split at hp
 ·rename_i hc
  simp only [W9] at hp
  subst hp
  exact ⟨i,j,rx.int,ry.int,hC i j hc,q _ H (.refl k) (hg i j H _)⟩
 ·cases hp
theorem zeW (hg:∀ i j H O,Rep H O (g i j) (g' i j)):Op2 (rI0 g) (pII (fun _ _=>true) g'):=by
 intro c σ δ H x y d e s Q k rx ry hp q
 cases d <;> cases e <;> first
  | (simp [pII] at hp; done)
  | skip
 rename_i i j
 simp only [pII,if_true,W9] at hp
 subst hp
 exact ⟨i,j,rx.int,ry.int,q _ H (.refl k) (hg i j H _)⟩
def pSub:=pII (fun _ _=>true) fun i j=>.int (i - j)
theorem zeT:Op2 (rI0 fun i j=>V.int (i - j)) pSub:=zeW fun _ _ _ _=>.int _
def cMul (i j:Int):Bool:=(decide (-(2 ^ 64) < i) && decide (i < 2 ^ 64)) || (decide (-(2 ^ 64) < j) && decide (j < 2 ^ 64))
def pMul:=pII cMul fun i j=>.int (i * j)
theorem zeV:Op2 (rI CMul fun i j=>V.int (i * j)) pMul:=zbi (fun i j h=>by
 unfold cMul at h
 simp only [Bool.or_eq_true,Wh,decide_eq_true_eq] at h
 exact h) fun _ _ _ _=>.int _
def cDiv (_ j:Int):Bool:=decide (0 < j) && decide (j < 1073741824)
def pDiv:=pII cDiv fun i j=>.int (i / j)
theorem zc9:Op2 (rI CDiv fun i j=>V.int (i / j)) pDiv:=zbi (fun i j h=>by
 unfold cDiv at h
 simp only [Wh,decide_eq_true_eq] at h
 exact h) fun _ _ _ _=>.int _
def pMod:=pII (fun _ j=>decide (0 < j)) fun i j=>.int (i % j)
theorem z4Q:Op2 (rI (fun _ j=>0 < j) fun i j=>V.int (i % j)) pMod:=zbi (fun i j h=>by simpa using h) fun _ _ _ _=>.int _
def cPow (i j:Int):Bool:=decide (0≤j) && decide (j≤1000000) && decide (i.natAbs < 2 ^ 64)
def pPow:=pII cPow fun i j=>.int (i ^ j.toNat)
theorem zeU:Op2 (rI CPow fun i j=>V.int (i ^ j.toNat)) pPow:=zbi (fun i j h=>by
 unfold cPow at h
 simp only [Wh,decide_eq_true_eq] at h
 exact ⟨h.1.1,h.1.2,h.2⟩) fun _ _ _ _=>.int _
def pEq (d e:D):Option S:=if flat 50 d && flat 50 e then some (.pure (.bl (eqD d e))) else none
def pNe (d e:D):Option S:=if flat 50 d && flat 50 e then some (.pure (.bl (!eqD d e))) else none
theorem z5j:Op2 rEqD pEq:=by
 intro c σ δ H x y d e s Q k rx ry hp q
 unfold pEq at hp
 split at hp
 ·rename_i hf
  rw [Wh] at hf
  simp only [W9] at hp
  subst hp
  exact ⟨d,e,rx.un,ry.un,hf.1,hf.2,q _ H (.refl k) (.bl _)⟩
 ·cases hp
theorem zbh:Op2 rNeD pNe:=by
 intro c σ δ H x y d e s Q k rx ry hp q
 unfold pNe at hp
 split at hp
 ·rename_i hf
  rw [Wh] at hf
  simp only [W9] at hp
  subst hp
  exact ⟨d,e,rx.un,ry.un,hf.1,hf.2,q _ H (.refl k) (.bl _)⟩
 ·cases hp
def pCmp (f:Int→Int→Bool) (g:Tx→Tx→Bool):D→D→Option S
 | .int i,.int j=>some (.pure (.bl (f i j)))
 | .str x,.str y=>some (.pure (.bl (g x y)))
 | _,_=>none
def rCmp (f:Int→Int→Bool) (g:List Nat→List Nat→Bool):R2:=fun x y H Q=>rI0 (fun i j=>V.bl (f i j)) x y H Q∨∃ i j,x = .str i∧y = .str j∧Q (.bl (g i.cps.toList j.cps.toList)) H
theorem z3H:Op2 (rCmp f g) (pCmp f g):=by
 intro c σ δ H x y d e s Q k rx ry hp q
 cases d <;> cases e <;> first
  | (simp [pCmp] at hp; done)
  | skip
 ·rename_i i j
  simp only [pCmp,W9] at hp
  subst hp
  exact .inl ⟨i,j,rx.int,ry.int,q _ H (.refl k) (.bl _)⟩
 ·rename_i i j
  simp only [pCmp,W9] at hp
  subst hp
  refine .inr ⟨toS i,toS j,rx.str,ry.str,?_⟩
  rw [z3h,z3h]
  exact q _ H (.refl k) (.bl _)
theorem z9E {X:Cx} {op:CmpOp} {g:List Nat→List Nat→Bool} (rule:∀ (i j:Str) (t u:Tok) (Q:Value→W1→Prop) (s:W1),Q (.bool (g i.cps.toList j.cps.toList)) s→W5 (model X.prog X.w) X.A (WP op (.str i t) (.str j u)) Q X.xe s) :
  OpR X (WP op) (fun x y H Q=>∃ i j,x = .str i∧y = .str j∧Q (.bl (g i.cps.toList j.cps.toList)) H):=by
 intro pins s σ H x y v u Q I rx ry h
 obtain ⟨i,j,rfl,rfl,q⟩:=h
 obtain ⟨t,rfl⟩:=rx
 obtain ⟨t',rfl⟩:=ry
 exact rule i j t t' _ s ⟨.bl _,H,I,rfl,q⟩
def pLt:=pCmp (fun i j=>decide (i < j)) fun x y=>decide (x < y)
theorem zeQ:OpR X (WP .Lt) (rCmp (fun i j=>decide (i < j)) fun x y=>decide (x < y)):=op_lt.or z9G
theorem o2_lt:Op2 (rCmp (fun i j=>decide (i < j)) fun x y=>decide (x < y)) pLt:=z3H
def pIx:D→D→Option S
 | .lst ds,.int i=>(atI ds i).map .pure
 | .tup ds,.int i=>(atI ds i).map .pure
 | .str x,.int i=>if x.length≤W8 then (atI x i).map fun n=>.pure (.str [n]) else none
 | _,_=>none
theorem z7N (r:Reps H O vs ds) (h:atI ds i=some d):∃ v,atI vs i=some v∧Rep H O v d:=by
 unfold atI at h ⊢
 rw [r.1]
 cases e:ixN ds.length i with
 | none=>rw [e] at h; cases h
 | some j =>
  rw [e] at h
  exact r.get h
theorem z0M {K:W2}:Op2 (rIx K) pIx:=by
 intro c σ δ H x y d e s Q k rx ry hp q
 cases d <;> cases e <;> first
  | (simp [pIx] at hp; done)
  | skip
 ·rename_i z i
  simp only [pIx] at hp
  split at hp
  ·rename_i hz
   cases e1:atI z i with
   | none=>rw [e1] at hp; cases hp
   | some n =>
    rw [e1] at hp
    simp only [WV,W9] at hp
    subst hp
    refine .inr (.inr ⟨toS z,i,n,rx.str,ry.int,z5n hz,by rw [z3h]; exact e1,?_⟩)
    exact q (.str (toS [n])) H (.refl k) (.str [n])
  ·cases hp
 ·rename_i ds i
  simp only [pIx] at hp
  cases e1:atI ds i with
  | none=>rw [e1] at hp; cases hp
  | some n =>
   rw [e1] at hp
   simp only [WV,W9] at hp
   subst hp
   obtain ⟨a,vs,ea,ha,ra⟩:=rx.tup
   obtain ⟨v,e2,r2⟩:=z7N ra e1
   exact .inr (.inl ⟨a,vs,i,v,ea,ry.int,.of ha,e2,q v H (.refl k) r2⟩)
 ·rename_i ds i
  simp only [pIx] at hp
  cases e1:atI ds i with
  | none=>rw [e1] at hp; cases hp
  | some n =>
   rw [e1] at hp
   simp only [WV,W9] at hp
   subst hp
   obtain ⟨a,vs,ea,ha,ra⟩:=rx.lst
   obtain ⟨v,e2,r2⟩:=z7N ra e1
   exact .inl ⟨a,vs,i,v,ea,ry.int,.inl ha,e2,q v H (.refl k) r2⟩
def pGt:=pCmp (fun i j=>decide (j < i)) fun x y=>decide (y < x)
def pGe:=pCmp (fun i j=>decide (j≤i)) fun x y=>!decide (x < y)
theorem z4N:OpR X (WP .Gt) (rCmp (fun i j=>decide (j < i)) fun x y=>decide (y < x)):=op_gt.or (z9E (g:=fun x y=>decide (y < x)) fun _ _ _ _ _ _ h=>PySem.P.gt_str h)
theorem zeR:OpR X (WP .GtE) (rCmp (fun i j=>decide (j≤i)) fun x y=>!decide (x < y)):=op_ge.or (z9E (g:=fun x y=>!decide (x < y)) fun _ _ _ _ _ _ h=>PySem.P.ge_str h)
abbrev DA:=Dl→Rs (List D)
def tAD (c:Fc) (f:DA):TA:=fun σ H Q=>∃ δ,Ok c σ δ H∧post c (f δ) fun ds δ'=>∀ vs H',Aft c σ δ H σ δ' H'→Reps H' (Av c σ δ') vs ds→Q vs H'
structure SA (X:Cx) (c:Fc) (es:List Expr) (f:DA):Prop where
 pa:PA X es (tAD c f)
 len:∀ δ ds δ',f δ = .ok ds δ'→ds.length=es.length
theorem PA.weak (h:PA X es t) (w:∀ σ H Q,t' σ H Q→t σ H Q):PA X es t':=fun pos pins s σ H Q I q=>h pos pins s σ H Q I (w σ H Q q)
def aNil:DA:=fun δ=>.ok [] δ
def z04 (f:DE) (g:DA):DA:=fun δ=>(f δ).bind fun x δ1=>(g δ1).bind fun xs δ2=>.ok (x.d :: xs) δ2
section
variable {X:Cx} {c:Fc} {e:Expr} {es:List Expr} {f:DE} {g:DA} {pos:Pos}
theorem z0y:SA X c [] aNil:=⟨PA.weak z1K fun σ H Q ⟨δ,k,q⟩=>q [] H (.refl k) .nil,fun δ ds δ' h=>by cases h; rfl⟩
theorem z9a (ha:SE X c e f) (hr:SA X c es g) (hs:W6 (e :: es) X.env=(false,eval e X.env) :: W6 es X.env:=by rfl):SA X c (e :: es) (z04 f g):=by
 refine ⟨PA.weak (z0V ha hr.pa hs) fun σ H Q ⟨δ,k,q⟩=>?_,fun δ ds δ' h=>?_⟩
 ·unfold z04 at q
  rw [z03] at q
  refine ⟨δ,k,z00 q fun x δ1 q1 v H1 a1 r1=>⟨δ1,a1.ok,?_⟩⟩
  rw [z03] at q1
  exact z00 q1 fun xs δ2 q2 vs H2 a2 r2=>q2 (v :: vs) H2 (a1.trans a2) (.cons (Rep.aft r1.rep a2) r2)
 ·unfold z04 at h
  cases h1:f δ with
  | ok x δ1 =>
   rw [h1] at h
   cases h2:g δ1 with
   | ok xs δ2 =>
    simp only [Rs.bind,h2] at h
    cases h
    simp [hr.len _ _ _ h2]
   | exc x δx=>simp only [Rs.bind,h2] at h; cases h
   | stuck=>simp only [Rs.bind,h2] at h; cases h
  | exc x δx=>rw [h1] at h; cases h
  | stuck=>rw [h1] at h; cases h
def eTup (f:DA):DE:=fun δ=>(f δ).bind fun ds δ'=>.ok (.pure (.tup ds)) δ'
def eLst (f:DA):DE:=fun δ=>(f δ).bind fun ds δ'=>.ok (.own (.lst ds)) δ'
theorem z5q (h:n≤1000):n≤W8:=JJ (z95 h)
theorem z6n (h:post c r k):post c r fun a δ=>r = .ok a δ∧k a δ:=by
 cases r with
 | ok a δ=>exact ⟨rfl,h⟩
 | exc x δx=>exact h
 | stuck=>exact h
theorem z17 {x1} (h:SA X c es g) (hz:es.length≤1000:=by decide):SE X c (.Tuple es x1 pos) (eTup g):=PE.weak (zeF h.pa) fun σ H Q ⟨δ,k,q⟩=>by
 unfold eTup at q
 rw [z03] at q
 refine ⟨δ,k,z00 (z6n q) fun ds δ1 ⟨e1,q1⟩ vs H1 a1 r1=>?_⟩
 have hl:=h.len _ _ _ e1
 exact ⟨by rw [r1.1,hl]; exact z5q hz,fun p hp=>q1 _ _ (a1.trans (.alloc a1.ok hp _)) (RepS.back (RepS.newT a1.ok r1 hp) a1)⟩
theorem z2k (h:SA X c es g) (hz:es.length≤1000:=by decide):SE X c (.List es pos) (eLst g):=PE.weak (zeJ h.pa) fun σ H Q ⟨δ,k,q⟩=>by
 unfold eLst at q
 rw [z03] at q
 refine ⟨δ,k,z00 (z6n q) fun ds δ1 ⟨e1,q1⟩ vs H1 a1 r1=>?_⟩
 have hl:=h.len _ _ _ e1
 exact ⟨by rw [r1.1,hl]; exact z5q hz,fun p hp=>q1 _ _ (a1.trans (.alloc a1.ok hp _)) (RepS.back (RepS.newL a1.ok r1 hp) a1)⟩
end
def p1 (p:D→Option S) (x:D) (δ:Dl):Rs S:=match p x with
 | some s=>.ok s δ
 | none=>.stuck
def eC1 (p:D→Option S) (fb:BE):DE:=fun δ=>(fb δ).bind fun x δ1=>p1 p x δ1
def Op1 (r:V→Hp→VK→Prop) (p:D→Option S):Prop:=∀ (c:Fc) (σ:St) (δ:Dl) (H:Hp) (x:V) (d:D) (s:S) (Q:VK),Ok c σ δ H→RepB c σ δ H x d→p d=some s →
 (∀ v H',Aft c σ δ H σ δ H'→RepS c σ δ H H' v s→Q v H')→r x H Q
section
variable {X:Cx} {c:Fc} {e:Expr} {fb:BE} {r:V→Hp→VK→Prop} {p:D→Option S} {x:Str} {id T:String} {pp pos:Pos}
theorem z7g (hp:Op1 r p) (k:Ok c σ δ H) (rx:RepB c σ δ H v d)
  (h:post c (p1 p d δ) fun s δ'=>∀ v H',Aft c σ δ H σ δ' H'→RepS c σ δ' H H' v s→Q v H'):r v H Q:=by
 unfold p1 at h
 cases e1:p d with
 | none=>rw [e1] at h; exact h.elim
 | some s=>rw [e1] at h; exact hp c σ δ H v d s Q k rx e1 h
theorem z4w (hp:Op1 r p) (h:tD c (eC1 p fb) σ H Q):tUn r (tB c fb) σ H Q:=by
 obtain ⟨δ,k,q⟩:=h
 unfold eC1 at q
 rw [z03] at q
 exact ⟨δ,k,z00 q fun y δ1 q1 v H1 a1 r1=>z7g hp a1.ok r1 (z00 q1 fun s δ2 q2 w H2 a2 r2=>q2 w H2 (a1.trans a2) (RepS.back r2 a1))⟩
theorem z5L (hc:CallR X (.builtin id) rl) (hl:∀ v H Q,r v H Q→rl [v] H Q) (hp:Op1 r p) (hg:Gl X x) (hm:X.mg x=none) (hv:Qk x=some (.builtin id)) (he:SB X c e fb)
  (hn:x≠"__name__":=by decide) (hdb:(x == ("__debug__" : Str))=false:=by decide) (hs:W6 [e] X.env=(false,eval e X.env) :: W6 [] X.env:=by rfl) (hpl:(WZ pos (W6 [] X.env)).any (·.1)=false:=by rfl) :
  SE X c (.Call (.Name x pp) [e] [] pos) (eC1 p fb):=PE.weak (z37 hc hg hm hv (z0V he z1K hs) hn hdb hs hpl) fun σ H Q h=>by
 obtain ⟨δ,k,q⟩:=z4w hp h
 exact ⟨δ,k,z00 q fun y δ1 q1 v H1 a1 r1=>hl _ _ _ (q1 v H1 a1 r1)⟩
theorem z4D (hc:CallR X (.type T) rl) (hl:∀ v H Q,r v H Q→rl [v] H Q) (hp:Op1 r p) (hg:Gl X x) (hm:X.mg x=none) (hv:Qk x=some (.type T)) (he:SB X c e fb)
  (hn:x≠"__name__":=by decide) (hdb:(x == ("__debug__" : Str))=false:=by decide) (hs:W6 [e] X.env=(false,eval e X.env) :: W6 [] X.env:=by rfl) (hpl:(WZ pos (W6 [] X.env)).any (·.1)=false:=by rfl) :
  SE X c (.Call (.Name x pp) [e] [] pos) (eC1 p fb):=PE.weak (z4J hc hg hm hv (z0V he z1K hs) hn hdb hs hpl) fun σ H Q h=>by
 obtain ⟨δ,k,q⟩:=z4w hp h
 exact ⟨δ,k,z00 q fun y δ1 q1 v H1 a1 r1=>hl _ _ _ (q1 v H1 a1 r1)⟩
def pLen:D→Option S
 | .lst ds=>some (.pure (.int ds.length))
 | .tup ds=>some (.pure (.int ds.length))
 | .str z=>if z.length≤W8 then some (.pure (.int z.length)) else none
 | .dct ds=>some (.pure (.int ds.length))
 | _=>none
def rLen (K:W2):V→Hp→VK→Prop:=fun v H Q=>((∃ p ys,v = .ref p∧(SqL K H p ys∨SqT K H p ys)∧Q (.int ys.length) H)∨∃ z,v = .str z∧z.length≤W8∧Q (.int z.length) H)∨∃ a kvs,v=V.ref a∧H a=some (.dK kvs)∧Q (.int kvs.length) H
theorem zeY {K:W2}:Op1 (rLen K) pLen:=by
 intro c σ δ H x d s Q k rx hp q
 cases d with
 | lst ds =>
  simp only [pLen,W9] at hp
  subst hp
  obtain ⟨a,vs,ea,ha,ra⟩:=rx.lst
  exact .inl (.inl ⟨a,vs,ea,.inl (.inl ha),by rw [ra.1]; exact q _ H (.refl k) (.int _)⟩)
 | tup ds =>
  simp only [pLen,W9] at hp
  subst hp
  obtain ⟨a,vs,ea,ha,ra⟩:=rx.tup
  exact .inl (.inl ⟨a,vs,ea,.inr (.of ha),by rw [ra.1]; exact q _ H (.refl k) (.int _)⟩)
 | str z =>
  simp only [pLen] at hp
  split at hp
  ·rename_i hz
   simp only [W9] at hp
   subst hp
   exact .inl (.inr ⟨toS z,rx.str,z5n hz,by rw [z28]; exact q _ H (.refl k) (.int _)⟩)
  ·cases hp
 | dct ds =>
  simp only [pLen,W9] at hp
  subst hp
  obtain ⟨a,ws,ea,ha,h1,h2⟩:=rx.dct
  have hl:ws.length=ds.length:=by have:=congrArg QF h1; simpa using this
  exact .inr ⟨a,ws,ea,ha,by rw [hl]; exact q _ H (.refl k) (.int _)⟩
 | _=>simp [pLen] at hp
theorem z47 (hg:Gl X "len") (hm:X.mg "len" = none) (he:SB X c e fb) (hs:W6 [e] X.env=(false,eval e X.env) :: W6 [] X.env:=by rfl):SE X c (.Call (.Name "len" pp) [e] [] pos) (eC1 pLen fb) :=
 z5L ((call_len_seq.or z6X).or zaG) (fun v H Q h=>by
  rcases h with (⟨p,ys,e,h⟩ | ⟨z,e,h⟩) | ⟨a,kvs,e,h⟩
  ·exact .inl (.inl ⟨p,ys,by rw [e],h⟩)
  ·exact .inl (.inr ⟨z,by rw [e],h⟩)
  ·exact .inr ⟨a,kvs,by rw [e],h⟩) (zeY (K:=X.K)) hg hm PySem.boot_len he (by decide) (by decide) hs
def z15:D→Option S
 | .lst ds=>some (.pure (.tup ds))
 | .tup ds=>some (.pure (.tup ds))
 | _=>none
def zei (K:W2):V→Hp→VK→Prop:=fun v H Q=>∃ p ys,v = .ref p∧((SqL K H p ys∧∀ l,H l=none→Q (.ref l) (upd H l (.tup ys)))∨(SqT K H p ys∧Q (.ref p) H))
theorem zbj {K:W2}:Op1 (zei K) z15:=by
 intro c σ δ H x d s Q k rx hp q
 cases d with
 | lst ds =>
  simp only [z15,W9] at hp
  subst hp
  obtain ⟨a,vs,ea,ha,ra⟩:=rx.lst
  exact ⟨a,vs,ea,.inl ⟨.inl ha,fun l hl=>q _ _ (.alloc k hl _) (RepS.newT k ra hl)⟩⟩
 | tup ds =>
  simp only [z15,W9] at hp
  subst hp
  obtain ⟨a,vs,ea,ha,ra⟩:=rx.tup
  refine ⟨a,vs,ea,.inr ⟨.of ha,?_⟩⟩
  rw [ea] at rx
  rcases rx with rx | ⟨_,_,rx⟩
  ·exact q _ H (.refl k) rx
  ·exact rx.elim
 | _=>simp [z15] at hp
theorem z25 (hg:Gl X "tuple") (hm:X.mg "tuple" = none) (he:SB X c e fb) (hs:W6 [e] X.env=(false,eval e X.env) :: W6 [] X.env:=by rfl):SE X c (.Call (.Name "tuple" pp) [e] [] pos) (eC1 z15 fb) :=
 z4D z66 (fun v H Q ⟨p,ys,e,h⟩=>⟨p,ys,by rw [e],h⟩) (zbj (K:=X.K)) hg hm PyProof.Rows.boot_tuple he (by decide) (by decide) hs
def pInt:D→Option S
 | .int i=>some (.pure (.int i))
 | .bl b=>some (.pure (.int (if b then 1 else 0)))
 | _=>none
theorem zcM (hg:Gl X "int") (hm:X.mg "int" = none) (he:SB X c e fb) (hs:W6 [e] X.env=(false,eval e X.env) :: W6 [] X.env:=by rfl):SE X c (.Call (.Name "int" pp) [e] [] pos) (eC1 pInt fb) :=
 z4D (r:=fun v H Q=>(∃ i,v = .int i∧Q (.int i) H)∨∃ k,v = .bl k∧Q (.int (if k then 1 else 0)) H) zaH (fun v H Q h=>by
  rcases h with ⟨i,e,q⟩ | ⟨k,e,q⟩
  ·exact .inl ⟨i,by rw [e],q⟩
  ·exact .inr ⟨k,by rw [e],q⟩) (fun c σ δ H x d s Q k rx hp q=>by
  cases d with
  | int i =>
   simp only [pInt,W9] at hp
   subst hp
   exact .inl ⟨i,rx.int,q _ H (.refl k) (.int _)⟩
  | bl b =>
   simp only [pInt,W9] at hp
   subst hp
   exact .inr ⟨b,rx.bl,q _ H (.refl k) (.int _)⟩
  | _=>simp [pInt] at hp) hg hm PyProof.Rows.boot_int he (by decide) (by decide) hs
def z5a:List D→Option (List Bool)
 | []=>some []
 | .bl b :: r=>(z5a r).map (b :: ·)
 | _ :: _=>none
def z29:List D→Option (List Tx)
 | []=>some []
 | .str x :: r=>(z29 r).map (x :: ·)
 | _ :: _=>none
theorem z3V:∀ {ds:List D} {vs:List V} {bs:List Bool},z5a ds=some bs→Reps H O vs ds→vs=bs.map V.bl
 | [],vs,bs,h,r=>by
  simp only [z5a,W9] at h
  subst h
  have:=r.1
  simpa using this
 | d :: ds,[],bs,h,r=>by have:=r.1; simp at this
 | d :: ds,v :: vs,bs,h,r=>by
  cases d with
  | bl b =>
   simp only [z5a] at h
   cases e:z5a ds with
   | none=>rw [e] at h; cases h
   | some bs' =>
    rw [e] at h
    simp only [WV,W9] at h
    subst h
    have:=r.head
    cases this
    rw [z3V e r.tail]
    rfl
  | _=>simp [z5a] at h
theorem z1m:∀ {ds:List D} {vs:List V} {bs:List Tx},z29 ds=some bs→Reps H O vs ds→vs=bs.map fun z=>V.str (toS z)
 | [],vs,bs,h,r=>by
  simp only [z29,W9] at h
  subst h
  have:=r.1
  simpa using this
 | d :: ds,[],bs,h,r=>by have:=r.1; simp at this
 | d :: ds,v :: vs,bs,h,r=>by
  cases d with
  | str b =>
   simp only [z29] at h
   cases e:z29 ds with
   | none=>rw [e] at h; cases h
   | some bs' =>
    rw [e] at h
    simp only [WV,W9] at h
    subst h
    have:=r.head
    cases this
    rw [z1m e r.tail]
    rfl
  | _=>simp [z29] at h
theorem z2s:∀ ts:List Tx,Reps H O (ts.map fun z=>V.str (toS z)) (ts.map D.str)
 | []=>.nil
 | t :: ts=>.cons (.str t) (z2s ts)
def pAll:D→Option S
 | .lst ds=>(z5a ds).map fun bs=>.pure (.bl (bs.all (fun b=>b)))
 | _=>none
def z2v:D→Option S
 | .lst ds=>match z29 ds with
  | some ts=>if ts.length < 64 then some (.own (.lst ((z23 ts).map D.str))) else none
  | none=>none
 | _=>none
theorem z6c (hg:Gl X "sorted") (hm:X.mg "sorted" = none) (he:SB X c e fb) (hs:W6 [e] X.env=(false,eval e X.env) :: W6 [] X.env:=by rfl):SE X c (.Call (.Name "sorted" pp) [e] [] pos) (eC1 z2v fb) :=
 z5L (r:=fun v H Q=>∃ (a:Addr) (ts:List Tx),v = .ref a∧SqL X.K H a (ts.map fun z=>V.str (toS z))∧ts.length < 64∧∀ p,H p=none→Q (.ref p) (upd H p (.lst ((z23 ts).map fun z=>V.str (toS z))))) z6V (fun v H Q ⟨a,bs,e,h⟩=>⟨a,bs,by rw [e],h⟩) (fun c σ δ H x d s Q k rx hp q=>by
  cases d with
  | lst ds =>
   simp only [z2v] at hp
   cases e:z29 ds with
   | none=>rw [e] at hp; cases hp
   | some ts =>
    rw [e] at hp
    simp only at hp
    split at hp
    ·rename_i hz
     simp only [W9] at hp
     subst hp
     obtain ⟨a,vs,ea,ha,ra⟩:=rx.lst
     have:=z1m e ra
     subst this
     exact ⟨a,ts,ea,.inl ha,hz,fun p hp=>q _ _ (.alloc k hp _) (RepS.newL k (z2s _) hp)⟩
    ·cases hp
  | _=>simp [z2v] at hp) hg hm PyProof.Rows.boot_sorted he (by decide) (by decide) hs
def pMax:D→D→Option S
 | .int i,.int j=>some (.pure (.int (if j > i then j else i)))
 | _,_=>none
def eMax (f g:DE):DE:=fun δ=>(f δ).bind fun x δ1=>(g δ1).bind fun y δ2=>p2 pMax x.d y.d δ2
theorem ze7 {a b:Expr} {f g:DE} (hc:X.calm=true) (hg:Gl X "max") (hm:X.mg "max" = none) (ha:SE X c a f) (hb:SE X c b g) (hs:W6 [a,b] X.env=(false,eval a X.env) :: W6 [b] X.env:=by rfl)
  (hs2:W6 [b] X.env=(false,eval b X.env) :: W6 [] X.env:=by rfl) (hpl:(WZ pos (W6 [b] X.env)).any (·.1)=false:=by rfl):SE X c (.Call (.Name "max" pp) [a,b] [] pos) (eMax f g) :=
 PE.weak (z37 (zaF hc) hg hm PyProof.Rows.boot_max (z0V ha (z0V hb z1K hs2) hs) (by decide) (by decide) hs hpl) fun σ H Q ⟨δ,k,q⟩=>by
  unfold eMax at q
  rw [z03] at q
  refine ⟨δ,k,z00 q fun x δ1 q1 v H1 a1 r1=>⟨δ1,a1.ok,?_⟩⟩
  rw [z03] at q1
  refine z00 q1 fun y δ2 q2 u H2 a2 r2=>?_
  unfold p2 at q2
  have hx:RepB c σ δ2 H2 v x.d:=.inl (Rep.aft r1.rep a2)
  have hy:=r2.b
  generalize x.d=dx at q2 hx
  generalize y.d=dy at q2 hy
  cases dx <;> cases dy <;> first
   | exact q2.elim
   | skip
  rename_i i j
  exact ⟨i,j,by rw [hx.int,hy.int],q2 _ H2 (a1.trans a2) (.int _)⟩
def isTy (T:String):D→Option Bool
 | .non=>some (T == "NoneType")
 | .bl _=>some (T == "bool" || T == "int")
 | .int _=>some (T == "int")
 | .str _=>some (T == "str")
 | .tup _=>some (T == "tuple")
 | .lst _=>some (T == "list")
 | .dct _=>some (T == "dict")
 | .exc _ _=>none
 | .xd _=>none
structure TyK (K:W2) (T:String):Prop where
 non:Qz K (.type "NoneType") (.type T)=some (T == "NoneType")
 bl:Qz K (.type "bool") (.type T)=some (T == "bool" || T == "int")
 int:Qz K (.type "int") (.type T)=some (T == "int")
 str:Qz K (.type "str") (.type T)=some (T == "str")
 tup:Qz K (.type "tuple") (.type T)=some (T == "tuple")
 lst:Qz K (.type "list") (.type T)=some (T == "list")
 dct:Qz K (.type "dict") (.type T)=some (T == "dict")
def eIsi (T:String) (fb:BE):DE:=fun δ=>(fb δ).bind fun d δ'=>match isTy T d with
 | some b=>.ok (.pure (.bl b)) δ'
 | none=>.stuck
theorem zby (ty:TyK X.K T) (I:Inv X pins σ H s) (ru:RelV v u) (r:Rep H NoO v d) (e:isTy T d=some b) (q:Q (.bl b) H) :
  W5 (model X.prog X.w) X.A (call (.builtin "isinstance") [u,.type T]) (EP X pins σ Q) X.xe s:=by
 have fin:∀ tk,EP X pins σ Q (.bool b) { s with toks:=tk }:=fun tk=>⟨.bl b,H,I.tok tk,rfl,q⟩
 cases r with
 | non=>exact z1A I ru .non (ty.non.trans e) fin
 | bl x=>exact z1A I ru (.bl x) (ty.bl.trans e) fin
 | int x=>exact z1A I ru (.int x) (ty.int.trans e) fin
 | str x=>exact z1A I ru (.str _) (ty.str.trans e) fin
 | tup _ h2 _ _=>exact z1A I ru (.tup h2) (ty.tup.trans e) fin
 | lst _ h2 _ _ =>
  rcases h2 with h2 | ⟨o,h2⟩
  ·exact z1A I ru (.lst h2) (ty.lst.trans e) fin
  ·exact z1A I ru (.frz h2) (ty.lst.trans e) fin
 | dct _ h2 _ _=>exact z1A I ru (.dK h2) (ty.dct.trans e) fin
 | exc _ _=>cases e
 | xd _ _=>cases e
theorem zbS (ty:TyK X.K T):CallR X (.builtin "isinstance") (fun xs H Q=>∃ v d b,xs=[v,.ty T]∧Rep H NoO v d∧isTy T d=some b∧Q (.bl b) H):=by
 intro pins s σ H xs us Q I r h
 obtain ⟨v,d,b,rfl,rp,e,q⟩:=h
 obtain ⟨u,w',rfl,r1,r2⟩:=zcu r
 cases r2
 exact zby ty I r1 rp e q
theorem zc0 {y:Str} {py:Pos} (ty:TyK X.K T) (hg:Gl X "isinstance") (hm:X.mg "isinstance" = none) (hgy:Gl X y) (hmy:X.mg y=none) (hvy:Qk y=some (.type T)) (he:SB X c e fb)
  (hny:y≠"__name__":=by decide) (hdy:(y == ("__debug__" : Str))=false:=by decide)
  (hs:W6 [e,.Name y py] X.env=(false,eval e X.env) :: W6 [.Name y py] X.env:=by rfl) (hpl:(WZ pos (W6 [.Name y py] X.env)).any (·.1)=false:=by rfl) :
  SE X c (.Call (.Name "isinstance" pp) [e,.Name y py] [] pos) (eIsi T fb) :=
 PE.weak (z37 (zbS ty) hg hm PyProof.Rows.boot_isinstance (z0V he (z0V (z9z (v:=.ty T) hgy hmy hvy rfl hny hdy) z1K) hs) (by decide) (by decide) hs hpl) fun σ H Q ⟨δ,k,q⟩=>by
  unfold eIsi at q
  rw [z03] at q
  refine ⟨δ,k,z00 q fun d δ1 q1 v H1 a1 r1=>?_⟩
  cases e1:isTy T d with
  | none=>rw [e1] at q1; exact q1.elim
  | some b =>
   rw [e1] at q1
   exact ⟨v,d,b,rfl,r1.un,e1,q1 _ H1 a1 (.bl _)⟩
end
abbrev DOp:=Dl→Rs (Option Int)
def tOD (c:Fc) (f:DOp):TO:=fun σ H Q=>∃ δ,Ok c σ δ H∧post c (f δ) fun o δ'=>∀ H',Aft c σ δ H σ δ' H'→Q o H'
abbrev SO (X:Cx) (c:Fc) (e:Option Expr) (f:DOp):Prop:=PO X e (tOD c f)
theorem PO.weak (h:PO X e t) (w:∀ σ H Q,t' σ H Q→t σ H Q):PO X e t':=fun pins s σ H Q I q=>h pins s σ H Q I (w σ H Q q)
def z4h:DOp:=fun δ=>.ok none δ
def z2x (f:DE):DOp:=fun δ=>(f δ).bind fun r δ'=>match r with
 | .pure (.int i)=>.ok (some i) δ'
 | _=>.stuck
section
variable {X:Cx} {c:Fc} {e:Expr} {f:DE} {fb:BE} {fl fh:DOp} {lo hi:Option Expr} {pos p2:Pos}
theorem z93:SO X c none z4h:=PO.weak zd7 fun σ H Q ⟨δ,k,q⟩=>q H (.refl k)
theorem z5G (h:SE X c e f):SO X c (some e) (z2x f):=PO.weak (zd6 h) fun σ H Q ⟨δ,k,q⟩=>by
 unfold z2x at q
 rw [z03] at q
 refine ⟨δ,k,z00 q fun r δ1 q1 v H1 a1 r1=>?_⟩
 cases r with
 | own d=>exact q1.elim
 | pure d =>
  cases d <;> first | exact q1.elim | skip
  rename_i i
  cases r1
  exact ⟨i,rfl,q1 H1 a1⟩
def pSl (lo hi:Option Int):D→Option S
 | .str x=>if x.length≤W8 then some (.pure (.str (cutL x lo hi))) else none
 | .tup ds=>some (.pure (.tup (cutL ds lo hi)))
 | .lst ds=>some (.own (.lst (cutL ds lo hi)))
 | _=>none
def rSlD (K:W2):V→Option Int→Option Int→Hp→VK→Prop:=fun x lo hi H Q=>rSlS x lo hi H Q∨zej K x lo hi H Q∨rSlL K x lo hi H Q
theorem sl_D:SlR X (rSlD X.K):=sl_str.or (sl_tup2.or zcH)
theorem zeX {K:W2} (lo hi:Option Int):Op1 (fun x H Q=>rSlD K x lo hi H Q) (pSl lo hi):=by
 intro c σ δ H x d s Q k rx hp q
 cases d with
 | str z =>
  simp only [pSl] at hp
  split at hp
  ·rename_i hz
   simp only [W9] at hp
   subst hp
   exact .inl ⟨z,rx.str,hz,q _ H (.refl k) (.str _)⟩
  ·cases hp
 | tup ds =>
  simp only [pSl,W9] at hp
  subst hp
  obtain ⟨a,vs,ea,ha,ra⟩:=rx.tup
  refine .inr (.inl ⟨a,vs,ea,.of ha,fun hw=>?_,fun _ p hp=>?_⟩)
  ·rw [ra.1] at hw
   rw [zax hw] at q
   rw [ea] at rx
   rcases rx with rx | ⟨_,_,rx⟩
   ·exact q _ H (.refl k) rx
   ·exact rx.elim
  ·rw [← zcp]
   exact q _ _ (.alloc k hp _) (RepS.newT k (ra.cut lo hi) hp)
 | lst ds =>
  simp only [pSl,W9] at hp
  subst hp
  obtain ⟨a,vs,ea,ha,ra⟩:=rx.lst
  refine .inr (.inr ⟨a,vs,ea,.inl ha,fun p hp=>?_⟩)
  rw [← zcp]
  exact q _ _ (.alloc k hp _) (RepS.newL k (ra.cut lo hi) hp)
 | _=>simp [pSl] at hp
def eSl (f:DE) (fl fh:DOp):DE:=fun δ=>(f δ).bind fun x δ1=>(fl δ1).bind fun l δ2=>(fh δ2).bind fun h δ3=>p1 (pSl l h) x.d δ3
theorem se_sl (he:SE X c e f) (hl:SO X c lo fl) (hh:SO X c hi fh):SE X c (.Subscript e (.Slice lo hi none p2) pos) (eSl f fl fh):=PE.weak (z7S sl_D he hl hh) fun σ H Q ⟨δ,k,q⟩=>by
 unfold eSl at q
 rw [z03] at q
 refine ⟨δ,k,z00 q fun x δ1 q1 v H1 a1 r1=>⟨δ1,a1.ok,?_⟩⟩
 rw [z03] at q1
 refine z00 q1 fun l δ2 q2 H2 a2=>⟨δ2,a2.ok,?_⟩
 rw [z03] at q2
 refine z00 q2 fun h δ3 q3 H3 a3=>?_
 exact z7g (zeX l h) a3.ok (.inl (Rep.aft r1.rep (a2.trans a3))) (z00 q3 fun s δ4 q4 w H4 a4 r4=>q4 w H4 (a1.trans (a2.trans (a3.trans a4))) (RepS.back r4 (a1.trans (a2.trans a3))))
def eSlN (i:Nat) (fl fh:DOp):DE:=fun δ=>match δ[i]? with
 | some (some _)=>(fl δ).bind fun l δ2=>(fh δ2).bind fun h δ3=>(bVar i δ3).bind fun x δ4=>p1 (pSl l h) x δ4
 | _=>.stuck
theorem zcG {i:Nat} {σ:St} {δ:Dl} {H:Hp} {v:V} {w:S} (k:Ok c σ δ H) (e:δ[i]? = some (some w)) (ev:σ[i]? = some (some v)):RepB c σ δ H v w.d:=by
 cases w with
 | pure d =>
  obtain ⟨v',e1,r⟩:=k.slot i d e
  rw [ev] at e1; cases e1
  exact .inl r
 | own d =>
  obtain ⟨a,e1,r,_⟩:=k.own i d e
  rw [ev] at e1; cases e1
  exact .inr ⟨a,rfl,r⟩
theorem zaK (h:post c ((bVar i δ).bind g) kk):∃ w,δ[i]? = some (some w)∧post c (g w.d δ) kk:=by
 unfold bVar at h
 cases e:δ[i]? with
 | none=>rw [e] at h; exact h.elim
 | some o =>
  cases o with
  | none=>rw [e] at h; exact h.elim
  | some w=>rw [e] at h; exact ⟨w,rfl,h⟩
theorem zbY {i:Nat} (he:PE X e (tVar i)) (hl:SO X c lo fl) (hh:SO X c hi fh):SE X c (.Subscript e (.Slice lo hi none p2) pos) (eSlN i fl fh):=PE.weak (z7S sl_D he hl hh) fun σ H Q ⟨δ,k,q⟩=>by
 unfold eSlN at q
 cases e:δ[i]? with
 | none=>rw [e] at q; exact q.elim
 | some o =>
  cases o with
  | none=>rw [e] at q; exact q.elim
  | some w =>
   rw [e] at q
   obtain ⟨v,ev⟩:=z2i k e
   have q':post c ((fl δ).bind fun l δ2=>(fh δ2).bind fun h δ3=>(bVar i δ3).bind fun x δ4=>p1 (pSl l h) x δ4) fun r δ'=>∀ v H',Aft c σ δ H σ δ' H'→RepS c σ δ' H H' v r→Q v H':=q
   rw [z03] at q'
   refine ⟨v,ev,δ,k,z00 q' fun l δ2 q2 H2 a2=>⟨δ2,a2.ok,?_⟩⟩
   rw [z03] at q2
   refine z00 q2 fun h δ3 q3 H3 a3=>?_
   obtain ⟨w3,e3,q4⟩:=zaK q3
   exact z7g (zeX l h) a3.ok (zcG a3.ok e3 ev) (z00 q4 fun s δ4 q4 w H4 a4 r4=>q4 w H4 (a2.trans (a3.trans a4)) (RepS.back r4 (a2.trans a3)))
def z4X (z:Tx):List Tx→Tx
 | []=>[]
 | [x]=>x
 | x :: y :: r=>x ++ z ++ z4X z (y :: r)
theorem z84 (z:Tx):∀ (r:List Tx) (acc:Tx),((r.map toS).foldl (fun (acc:Array Nat) p=>acc ++ (toS z).cps ++ p.cps) acc.toArray)=(match r with | []=>acc | x :: r'=>acc ++ z ++ z4X z (x :: r')).toArray
 | [],acc=>rfl
 | x :: r,acc=>by
  rw [Wr,Qi]
  have e:acc.toArray ++ (toS z).cps ++ (toS x).cps=(acc ++ z ++ x).toArray:=by simp [toS]
  rw [e,z84 z r (acc ++ z ++ x)]
  cases r with
  | nil=>simp [z4X]
  | cons y r'=>simp [z4X]
theorem zdv (z:Tx) (ts:List Tx):Txt.join (toS z) (ts.map toS)=toS (z4X z ts):=by
 show Builtin.Str.glued _ _=_
 unfold Builtin.Str.glued
 cases ts with
 | nil=>rfl
 | cons x r =>
  rw [Wr]
  show (⟨(List.foldl _ (toS x).cps (r.map toS))⟩:Str)=_
  have:=z84 z r x
  have e:(toS x).cps=x.toArray:=rfl
  rw [e,this]
  cases r with
  | nil=>rfl
  | cons y r'=>rfl
def z2R (ts:List Tx):Nat:=(ts.map (·.length)).sum
def z1q (z:Tx):D→Option S
 | .lst ds=>match z29 ds with
  | some ts=>if z2R ts + ts.length * z.length≤16777216 then some (.pure (.str (z4X z ts))) else none
  | none=>none
 | .tup ds=>match z29 ds with
  | some ts=>if z2R ts + ts.length * z.length≤16777216 then some (.pure (.str (z4X z ts))) else none
  | none=>none
 | _=>none
theorem zdn {K:W2} (z:Tx):Op1 (fun x H Q=>zb4 K (.str (toS z)) [x] H Q) (z1q z):=by
 intro c σ δ H x d s Q k rx hp q
 have key:∀ (a:Addr) (vs:List V) (ds:List D),x = .ref a→(SqL K H a vs∨SqT K H a vs)→Reps H (Av c σ δ) vs ds→(match z29 ds with | some ts=>if z2R ts + ts.length * z.length≤16777216 then some (S.pure (.str (z4X z ts))) else none | none=>none)=some s→zb4 K (.str (toS z)) [x] H Q:=by
  intro a vs ds ea ha ra hp
  cases e:z29 ds with
  | none=>rw [e] at hp; cases hp
  | some ts =>
   rw [e] at hp
   simp only at hp
   split at hp
   ·rename_i hz
    simp only [W9] at hp
    subst hp
    have:=z1m e ra
    subst this
    refine ⟨toS z,a,ts.map toS,rfl,by rw [ea],?_,?_,?_⟩
    ·rw [WH]; exact ha
    ·rw [WH,Ws,z28]
     have:((fun x:Str=>x.length) ∘ toS)=fun x:Tx=>x.length:=funext fun x=>z28 x
     rw [this]
     exact hz
    ·rw [zdv]
     exact q _ H (.refl k) (.str _)
   ·cases hp
 cases d with
 | lst ds =>
  obtain ⟨a,vs,ea,ha,ra⟩:=rx.lst
  exact key a vs ds ea (.inl (.inl ha)) ra hp
 | tup ds =>
  obtain ⟨a,vs,ea,ha,ra⟩:=rx.tup
  exact key a vs ds ea (.inr (.of ha)) ra hp
 | _=>simp [z1q] at hp
theorem z4B {x:Str} {j} {p0 apos cpos:Pos} (z:Tx) (he:SB X c e fb) (hx:x=toS z:=by decide +kernel)
  (hbase:Qy (.Constant (.str x) j p0) "join" X.env (eval (.Constant (.str x) j p0) X.env)=eval (.Constant (.str x) j p0) X.env:=by rfl)
  (hfew:((WZ cpos (W6 [e] X.env)).all (fun x=>!x.1) && (backToKw cpos (JC [] X.env)).all (fun x=>x.1.isSome)
   && decide ([e].length + ([]:List Keyword).length + (if ([]:List Keyword).isEmpty then 0 else 1) < 30))=true:=by rfl)
  (hline:(apos.endLine == cpos.line)=true:=by rfl) (hs:W6 [e] X.env=(false,eval e X.env) :: W6 [] X.env:=by rfl) :
  SE X c (.Call (.Attribute (.Constant (.str x) j p0) "join" apos) [e] [] cpos) (eC1 (z1q z) fb):=by
 subst hx
 refine PE.weak (zbb PySem.F.plainAttrs_str PySem.F.slot_str_join PySem.F.type_str_join zdp zc7 (z0V he z1K hs) hbase hfew hline hs rfl) fun σ H Q h=>?_
 obtain ⟨δ,k,q⟩:=z4w (r:=fun x H Q=>zb4 X.K (.str (toS z)) [x] H Q) (zdn z) h
 refine ⟨?_,δ,k,q⟩
 show ("str" : String) = "str"
 rfl
end
inductive Fl where
 | next | ret (r:S) | brk | cont
abbrev DS:=Dl→Rs Fl
def fin (c:Fc) (D:Ends) (σ:St) (δ:Dl) (H:Hp):Fl→Prop
 | .next=>D.nx σ H
 | .ret r=>∀ v,RepS c σ δ c.H₀ H v r→D.rt v H
 | .brk=>D.bk σ H
 | .cont=>D.ct σ H
def z2r (c:Fc) (D:Ends) (σ:St) (δ:Dl) (H:Hp) (r:Rs Fl):Prop:=post c r fun fl δ'=>∀ σ' H',Aft c σ δ H σ' δ' H'→fin c D σ' δ' H' fl
def tDS (c:Fc) (f:DS):TS:=fun D σ H=>∃ δ,Ok c σ δ H∧z2r c D σ δ H (f δ)
abbrev SS (X:Cx) (c:Fc) (st:Stmt) (f:DS):Prop:=PS X st (tDS c f)
abbrev SSs (X:Cx) (c:Fc) (st:List Stmt) (f:DS):Prop:=PSs X st (tDS c f)
theorem PS.weak {X:Cx} {st:Stmt} {t t':TS} (h:PS X st t) (w:∀ D σ H,t' D σ H→t D σ H):PS X st t':=fun pins s σ H D I q=>h pins s σ H D I (w D σ H q)
theorem PSs.weak {X:Cx} {st:List Stmt} {t t':TS} (h:PSs X st t) (w:∀ D σ H,t' D σ H→t D σ H):PSs X st t':=fun pins s σ H D I q=>h pins s σ H D I (w D σ H q)
def z10:DS:=fun δ=>.ok .next δ
def dSeq (f g:DS):DS:=fun δ=>(f δ).bind fun fl δ1=>match fl with
 | .next=>g δ1
 | .ret r=>.ok (.ret r) δ1
 | .brk=>.ok .brk δ1
 | .cont=>.ok .cont δ1
def z45 (f:DE):DS:=fun δ=>(f δ).bind fun _ δ1=>.ok .next δ1
def dRet (f:DE):DS:=fun δ=>(f δ).bind fun r δ1=>.ok (.ret r) δ1
def dIf (t:DT) (f g:DS):DS:=fun δ=>(t δ).bind fun b δ1=>if b then f δ1 else g δ1
def zaw:DS:=fun _=>.stuck
def eRetN (np:List Nat) (i:Nat):DE:=fun δ=>match δ[i]? with
 | some (some (.own d))=>if np.contains i then .ok (.pure d) (δ.set i (some (.pure d))) else .ok (.own d) (δ.set i none)
 | some (some (.pure d))=>.ok (.pure d) δ
 | _=>.stuck
section
variable {X:Cx} {c:Fc} {st:Stmt} {sts:List Stmt} {e a:Expr} {f g:DS} {fe:DE} {t:DT} {pos pos':Pos}
theorem z1l:SSs X c [] z10:=PSs.weak zd4 fun D σ H ⟨δ,k,q⟩=>q σ H (.refl k)
theorem z06 (h1:SS X c st f) (h2:SSs X c sts g):SSs X c (st :: sts) (dSeq f g):=PSs.weak (z7Q h1 h2) fun D σ H ⟨δ,k,q⟩=>by
 unfold dSeq z2r at q
 rw [z03] at q
 refine ⟨δ,k,z00 q fun fl δ1 q1 σ1 H1 a1=>?_⟩
 cases fl with
 | next=>exact ⟨δ1,a1.ok,z00 q1 fun fl2 δ2 q2 σ2 H2 a2=>q2 σ2 H2 (a1.trans a2)⟩
 | ret r=>exact q1 σ1 H1 a1
 | brk=>exact q1 σ1 H1 a1
 | cont=>exact q1 σ1 H1 a1
theorem z0g (h1:SS X c st f):SSs X c [st] f:=PSs.weak (z7f h1) fun D σ H h=>h
theorem zaT:SS X c st zaw:=PS.weak zb6 fun D σ H ⟨δ,k,q⟩=>q
theorem z0I (he:SE X c e fe):SS X c (.Return (some e) pos) (dRet fe):=PS.weak (zeA he) fun D σ H ⟨δ,k,q⟩=>by
 unfold dRet z2r at q
 rw [z03] at q
 exact ⟨δ,k,z00 q fun r δ1 q1 v H1 a1 r1=>q1 σ H1 a1 v r1.home⟩
theorem z2g {b1 b2:List Stmt} (ht:ST X c e t) (h1:SSs X c b1 f) (h2:SSs X c b2 g):SS X c (.If e b1 b2 pos) (dIf t f g):=PS.weak (ps_if ht h1 h2) fun D σ H ⟨δ,k,q⟩=>by
 unfold dIf z2r at q
 rw [z03] at q
 refine ⟨δ,k,z00 q fun b δ1 q1 H1 a1=>?_⟩
 cases b with
 | true=>exact ⟨δ1,a1.ok,z00 q1 fun fl δ2 q2 σ2 H2 a2=>q2 σ2 H2 (a1.trans a2)⟩
 | false=>exact ⟨δ1,a1.ok,z00 q1 fun fl δ2 q2 σ2 H2 a2=>q2 σ2 H2 (a1.trans a2)⟩
theorem Own.of_set (h:Own (σ.set i (some v)) (δ.set i (some r)) b):Own σ δ b∨(v = .ref b∧∃ d,r = .own d):=by
 obtain ⟨j,d,e1,e2⟩:=h
 by_cases hj:i=j
 ·subst hj
  right
  rw [WU] at e1 e2
  simp at e1 e2
  obtain ⟨_,h1⟩:=e1
  obtain ⟨_,h2⟩:=e2
  exact ⟨h2,d,h1⟩
 ·rw [W7 hj] at e1 e2
  exact .inl ⟨j,d,e1,e2⟩
theorem Ok.set (x:Aft c σ₀ δ₀ H₁ σ δ H) (hr:RepS c σ δ H₁ H v r) (hp:∀ p ∈ c.pin,p.1≠i):Aft c σ₀ δ₀ H₁ (σ.set i (some v)) (δ.set i (some r)) H:=by
 have k:=x.ok
 -- all slots avoid the new address,too
 have all:∃ c':Fc,c'.H₀=c.H₀∧c'.pin=c.pin∧Ok c' σ δ H∧(∀ b,Av c (σ.set i (some v)) (δ.set i (some r)) b→Av c' σ δ b):=by
  cases r with
  | pure d =>
   refine ⟨c,rfl,rfl,k,fun b z=>?_⟩
   rcases z with z | z
   ·exact .inl z
   ·rcases z.of_set with z | ⟨_,d',e⟩
    ·exact .inr z
    ·cases e
  | own d =>
   obtain ⟨a,ea,o,n,f,k2,_⟩:=hr
   refine ⟨c.plus a,rfl,rfl,k2,fun b z=>?_⟩
   rcases z with z | z
   ·exact .inl (.inl z)
   ·rcases z.of_set with z | ⟨e,_⟩
    ·exact .inr z
    ·rw [ea] at e; cases e
     exact .inl (.inr rfl)
 obtain ⟨c',eH,eP,k2,sub⟩:=all
 have eI:∀ a,c'.I a ↔ c.I a:=fun a=>by unfold Fc.I; rw [eP]
 have hrep:Rep H (Av c (σ.set i (some v)) (δ.set i (some r))) v r.d∨∃ d,r = .own d:=by
  cases r with
  | pure d =>
   left
   refine Rep.anti hr fun b z=>?_
   rcases z with z | z
   ·exact .inl (.inl z)
   ·rcases z.of_set with z | ⟨_,d',e⟩
    ·exact .inl (.inr z)
    ·cases e
  | own d=>exact .inr ⟨d,rfl⟩
 refine ⟨⟨k.keep,k.bd,k.ith,by rw [Jo,Jo]; exact k.len,fun j d e=>?_,fun j d e=>?_,fun j l a d d' e1 e2 e3 e4=>?_,fun p hm=>?_⟩,x.keep,fun b z=>?_,x.there⟩
 ·by_cases hj:i=j
  ·subst hj
   rw [WU] at e
   simp at e
   obtain ⟨hi,rfl⟩:=e
   have hi':i < σ.length:=by rw [← k.len]; exact hi
   rcases hrep with h | ⟨_,h⟩
   ·exact ⟨v,by rw [Wt hi'],h⟩
   ·cases h
  ·rw [W7 hj] at e
   obtain ⟨w,e1,q⟩:=k2.slot j d e
   exact ⟨w,by rw [W7 hj]; exact e1,q.anti fun b z=>.inl (sub b z)⟩
 ·by_cases hj:i=j
  ·subst hj
   rw [WU] at e
   simp at e
   obtain ⟨hi,rfl⟩:=e
   have hi':i < σ.length:=by rw [← k.len]; exact hi
   obtain ⟨a,ea,o,n,f,k3,_⟩:=hr
   refine ⟨a,by rw [Wt hi',ea],o.anti fun b z=>.inl ?_,.inr f,n⟩
   rcases z with z | z
   ·exact .inl (.inl z)
   ·rcases z.of_set with z | ⟨e,_⟩
    ·exact .inr z
    ·rw [ea] at e; cases e
     exact .inl (.inr rfl)
  ·rw [W7 hj] at e
   obtain ⟨a,e1,q,q2,q3⟩:=k.own j d e
   obtain ⟨a',e1',q',_,_⟩:=k2.own j d e
   rw [e1] at e1'; cases e1'
   exact ⟨a,by rw [W7 hj]; exact e1,q'.anti fun b z=>.inl (sub b z),q2,q3⟩
 ·by_cases hj:i=j
  ·subst hj
   by_cases hl:i=l
   ·exact hl
   ·rw [W7 hl] at e2 e4
    rw [WU] at e1 e3
    simp at e1 e3
    obtain ⟨_,rfl⟩:=e1
    obtain ⟨_,rfl⟩:=e3
    obtain ⟨a',ea,o,n,f,k3,_⟩:=hr
    cases ea
    exact absurd ⟨l,d',e2,e4⟩ (z3F k3)
  ·rw [W7 hj] at e1 e3
   by_cases hl:i=l
   ·subst hl
    rw [WU] at e2 e4
    simp at e2 e4
    obtain ⟨_,rfl⟩:=e2
    obtain ⟨_,rfl⟩:=e4
    obtain ⟨a',ea,o,n,f,k3,_⟩:=hr
    cases ea
    exact absurd ⟨j,d,e1,e3⟩ (z3F k3)
   ·rw [W7 hl] at e2 e4
    exact k.inj j l a d d' e1 e2 e3 e4
 ·rw [W7 (Ne.symm (hp p hm))]
  exact k.pinned p hm
 ·rcases z.of_set with z | ⟨e,d,ed⟩
  ·exact x.own b z
  ·subst ed
   obtain ⟨a,ea,_,_,_,_,hs⟩:=hr
   rw [ea] at e; cases e
   exact .inr hs
abbrev DG:=S→Dl→Option Dl
def tGD (c:Fc) (g:DG):TG:=fun v σ H Q=>∃ σ₀ δ₀ H₁ δ r δ',Aft c σ₀ δ₀ H₁ σ δ H∧RepS c σ δ H₁ H v r∧g r δ=some δ'∧∀ σ',Aft c σ₀ δ₀ H₁ σ' δ' H→Q σ' H
abbrev SG (X:Cx) (c:Fc) (tg:Expr) (g:DG):Prop:=PG X tg (tGD c g)
def gNm (np:List Nat) (i:Nat):DG:=fun r δ=>if np.contains i then none else some (δ.set i (some r))
def Np (c:Fc) (np:List Nat):Prop:=∀ p ∈ c.pin,np.contains p.1=true
theorem z83 (hp:Np c np) (h:tGD c (gNm np i) v σ H Q):zdA i v σ H Q:=by
 obtain ⟨σ₀,δ₀,H₁,δ,r,δ',x,rr,e,q⟩:=h
 unfold gNm at e
 split at e
 ·cases e
 ·rename_i hn
  cases e
  exact q _ (Ok.set x rr fun p hm e=>hn (by rw [← e]; exact hp p hm))
theorem PG.weak {tg:Expr} {t t':TG} (h:PG X tg t) (w:∀ v σ H Q,t' v σ H Q→t v σ H Q):PG X tg t':=fun pins s σ H v u Q I r q=>h pins s σ H v u Q I r (w v σ H Q q)
theorem PGs.weak {tg:List Expr} {t t':TGs} (h:PGs X tg t) (w:∀ v σ H Q,t' v σ H Q→t v σ H Q):PGs X tg t':=fun pins s σ H v u Q I r q=>h pins s σ H v u Q I r (w v σ H Q q)
theorem z0G {np:List Nat} {i:Nat} {x:Str} (hp:Np c np) (hN:X.N.Nodup) (hi:X.N[i]? = some x) (hx:Loc X.env.scope x) (hf:X.fn x=true∨X.env.scope.names.lookup x=some .local):SG X c (.Name x pos) (gNm np i) :=
 PG.weak (z9y hN hi hx hf) fun v σ H Q h=>z83 hp h
abbrev DGs:=List D→Dl→Option Dl
def tGDs (c:Fc) (g:DGs):TGs:=fun vs σ H Q=>∃ δ ds δ',Ok c σ δ H∧Reps H (Av c σ δ) vs ds∧g ds δ=some δ'∧∀ σ',Aft c σ δ H σ' δ' H→Q σ' H
abbrev SGs (X:Cx) (c:Fc) (tg:List Expr) (g:DGs):Prop:=PGs X tg (tGDs c g)
def z1b:DGs:=fun ds δ=>match ds with
 | []=>some δ
 | _=>none
def z0f (g:DG) (gs:DGs):DGs:=fun ds δ=>match ds with
 | []=>none
 | d :: r=>(g (.pure d) δ).bind fun δ1=>gs r δ1
theorem z3T:SGs X c [] z1b:=PGs.weak z9x fun vs σ H Q ⟨δ,ds,δ',k,r,e,q⟩=>by
 cases ds with
 | nil =>
  cases e
  have:vs=[]:=by have:=r.1; simpa using this
  exact ⟨this,q σ (.refl k)⟩
 | cons d r=>cases e
theorem z1a {es:List Expr} {g:DG} {gs:DGs} (h1:SG X c e g) (h2:SGs X c es gs) (hs:(Qa (e :: es) X.env).map (·.2)=assign e X.env :: (Qa es X.env).map (·.2):=by rfl):SGs X c (e :: es) (z0f g gs) :=
 PGs.weak (z7R h1 h2 hs) fun vs σ H Q ⟨δ,ds,δ',k,r,e,q⟩=>by
  cases ds with
  | nil=>cases e
  | cons d ds =>
   cases vs with
   | nil=>have:=r.1; simp at this
   | cons v vs =>
    simp only [z0f] at e
    cases e1:g (.pure d) δ with
    | none=>rw [e1] at e; cases e
    | some δ1 =>
     rw [e1] at e
     refine ⟨v,vs,rfl,σ,δ,H,δ,.pure d,δ1,.refl k,r.head,e1,fun σ1 a1=>?_⟩
     exact ⟨δ1,ds,δ',a1.ok,Reps.aft r.tail a1,e,fun σ2 a2=>q σ2 (a1.trans a2)⟩
def gTp (n:Nat) (gs:DGs):DG:=fun r δ=>match r.d with
 | .tup ds=>if ds.length=n then gs ds δ else none
 | _=>none
theorem z5s {es:List Expr} {k:Nat} {gs:DGs} {n:Nat} (hc:X.calm=true) (h:SGs X c es gs) (hn:(Qa es X.env).length=n:=by rfl) (hst:(Qa es X.env).findIdx? (·.1)=none:=by rfl) :
  SG X c (.Tuple es k pos) (gTp n gs):=PG.weak (zc6 hc h hn hst) fun v σ H Q hw=>by
 obtain ⟨σ₀,δ₀,H₁,δ,r,δ',x,rr,e,q⟩:=hw
 have hb:=rr.b
 unfold gTp at e
 generalize r.d=d at e hb
 cases d <;> first | (cases e; done) | skip
 rename_i ds
 simp only at e
 split at e
 ·rename_i hl
  obtain ⟨a,vs,ea,ha,ra⟩:=hb.tup
  exact ⟨a,vs,ea,.of ha,by rw [ra.1]; exact hl,δ,ds,δ',x.ok,ra,e,fun σ' a1=>q σ' (x.trans a1)⟩
 ·cases e
def dAsg (f:DE) (g:DG):DS:=fun δ=>(f δ).bind fun r δ1=>match g r δ1 with
 | some δ2=>.ok .next δ2
 | none=>.stuck
theorem z8f {g:DG} {D:Ends} {σ:St} {H:Hp} {te:TE} {tg:TG} (he:∀ σ H Q,tD c fe σ H Q→te σ H Q) (hg:∀ v σ H Q,tGD c g v σ H Q→tg v σ H Q) (h:tDS c (dAsg fe g) D σ H):tAsg te tg D σ H:=by
 obtain ⟨δ,k,q⟩:=h
 unfold dAsg z2r at q
 rw [z03] at q
 refine he _ _ _ ⟨δ,k,z00 q fun r δ1 q1 v H1 a1 r1=>hg _ _ _ _ ?_⟩
 cases e:g r δ1 with
 | none=>rw [e] at q1; exact q1.elim
 | some δ2 =>
  rw [e] at q1
  exact ⟨σ,δ,H,δ1,r,δ2,a1,r1,e,fun σ' a2=>q1 σ' H1 a2⟩
theorem z7L {tg:Expr} {g:DG} (he:SE X c e fe) (hg:SG X c tg g) (hs:swapsWithSole [tg] e pos.line X.env=pure false:=by rfl) (hw:swappedStores [tg] e X.env=pure none:=by rfl)
  (h1:(Qa [tg] X.env).map (·.2)=[assign tg X.env]:=by rfl):SS X c (.Assign [tg] e pos) (dAsg fe g):=PS.weak (zc5 he hg hs hw h1) fun D σ H h=>z8f (fun _ _ _ h=>h) (fun _ _ _ _ h=>h) h
theorem z0x {np:List Nat} {i:Nat} {x:Str} (hp:Np c np) (hN:X.N.Nodup) (hi:X.N[i]? = some x) (hx:Loc X.env.scope x) (he:SE X c e fe) (hs:Jn e (some (.Name x pos')) pos.line X.env=pure false) (hf:X.fn x=true∨X.env.scope.names.lookup x=some .local) :
  SS X c (.Assign [.Name x pos'] e pos) (dAsg fe (gNm np i)):=PS.weak (zez hN hi hx he hs hf) fun D σ H h=>z8f (fun _ _ _ h=>h) (fun _ _ _ _ h=>z83 hp h) h
theorem zcE (he:SE X c e fe) (hs:∀ (x:Value),Jn e none pos.line X.env=pure false:=by intro _; rfl) (hd:True:=trivial) (h:PS X (.Expr e pos) (zcy (tD c fe))):SS X c (.Expr e pos) (z45 fe):=PS.weak h fun D σ H ⟨δ,k,q⟩=>by
 unfold z45 z2r at q
 rw [z03] at q
 exact ⟨δ,k,z00 q fun r δ1 q1 v H1 a1 r1=>q1 σ H1 a1⟩
theorem Ok.mutL {σ:St} {δ:Dl} {H:Hp} {i:Nat} {ds ds':List D} {a:Addr} {vs':List V} (k:Ok c σ δ H) (e:δ[i]? = some (some (.own (.lst ds)))) (ea:σ[i]? = some (some (.ref a))) (r:Reps H (Av c σ δ) vs' ds') :
  Aft c σ δ H σ (δ.set i (some (.own (.lst ds')))) (upd H a (.lst vs')):=by
 have hi:i < δ.length:=(Wb.mp e).1
 obtain ⟨a',ea',oa,ia,nb⟩:=k.own i _ e
 rw [ea] at ea'; cases ea'
 obtain ⟨vs,ha,_⟩:=oa
 have ownA:Own σ δ a:=⟨i,_,e,ea⟩
 have avA:Av c σ δ a:=.inr ownA
 have own_iff:∀ b,Own σ (δ.set i (some (.own (.lst ds')))) b ↔ Own σ δ b:=fun b=>by
  constructor
  ·rintro ⟨j,d,e1,e2⟩
   by_cases hj:i=j
   ·subst hj
    exact ⟨i,_,e,e2⟩
   ·rw [W7 hj] at e1
    exact ⟨j,d,e1,e2⟩
  ·rintro ⟨j,d,e1,e2⟩
   by_cases hj:i=j
   ·subst hj
    exact ⟨i,_,by rw [Wt hi],e2⟩
   ·exact ⟨j,d,by rw [W7 hj]; exact e1,e2⟩
 have av_iff:∀ b,Av c σ (δ.set i (some (.own (.lst ds')))) b→Av c σ δ b:=fun b z=>z.elim .inl fun z=>.inr ((own_iff b).mp z)
 have ne:∀ b,¬ Av c σ δ b→b≠a:=fun b n z=>n (by rw [z]; exact avA)
 have kp:∀ b o,H b=some o→¬ Av c σ δ b→upd H a (.lst vs') b=some o:=fun b o h n=>by rw [z0i (ne b n)]; exact h
 have hup:∀ b o,H b=some o→∃ o',upd H a (.lst vs') b=some o':=fun b o h=>by
  by_cases hb:b=a
  ·exact ⟨_,by rw [hb]; exact z0k⟩
  ·exact ⟨o,by rw [z0i hb]; exact h⟩
 refine ⟨⟨fun b o h n=>?_,fun b z=>?_,fun b z=>?_,by rw [Jo]; exact k.len,fun j d h=>?_,fun j d h=>?_,fun j l b d d' h1 h2 h3 h4=>?_,k.pinned⟩,fun b o h n=>?_,fun b z=>.inl ((own_iff b).mp z),hup⟩
 ·have hb:b≠a:=fun z=>by
   subst z
   rcases ia with z | z
   ·exact n z
   ·rw [z] at h; cases h
  rw [z0i hb]
  exact k.keep b o h n
 ·obtain ⟨o,h⟩:=k.bd b z
  exact hup b o h
 ·obtain ⟨o,h⟩:=k.ith b z
  exact hup b o h
 ·have hj:i≠j:=fun z=>by subst z; rw [Wt hi] at h; cases h
  rw [W7 hj] at h
  obtain ⟨v,h1,h2⟩:=k.slot j d h
  exact ⟨v,h1,(h2.keep kp).anti fun b z=>.inl (av_iff b z)⟩
 ·by_cases hj:i=j
  ·subst hj
   rw [Wt hi] at h
   cases h
   exact ⟨a,ea,⟨vs',z0k,Reps.anti (Reps.keep r kp) fun b z=>.inl (av_iff b z)⟩,ia,nb⟩
  ·rw [W7 hj] at h
   obtain ⟨b,h1,h2,h3,h4⟩:=k.own j d h
   have hb:b≠a:=fun z=>by subst z; exact hj (k.inj i j b _ d e h ea h1)
   exact ⟨b,h1,(h2.keep kp fun o q=>by rw [z0i hb]; exact q).anti fun b z=>.inl (av_iff b z),h3,h4⟩
 ·have f1:∃ d,δ[j]? = some (some (.own d)):=by
   by_cases hj:i=j
   ·subst hj; exact ⟨_,e⟩
   ·rw [W7 hj] at h1; exact ⟨d,h1⟩
  have f2:∃ d,δ[l]? = some (some (.own d)):=by
   by_cases hj:i=l
   ·subst hj; exact ⟨_,e⟩
   ·rw [W7 hj] at h2; exact ⟨d',h2⟩
  obtain ⟨_,f1⟩:=f1
  obtain ⟨_,f2⟩:=f2
  exact k.inj j l b _ _ f1 f2 h3 h4
 ·have hb:b≠a:=fun z=>n (by rw [z]; exact ownA)
  rw [z0i hb]; exact h
def z1W (δ:Dl) (i:Nat):Bool:=match δ[i]? with
 | some (some (.own (.lst _)))=>true
 | _=>false
def putL (δ:Dl) (i:Nat) (f:List D→Option (List D)):Rs Fl:=match δ[i]? with
 | some (some (.own (.lst ds)))=>match f ds with
  | some ds'=>.ok .next (δ.set i (some (.own (.lst ds'))))
  | none=>.stuck
 | _=>.stuck
theorem z6H (h:z1W δ i=true):∃ ds,δ[i]? = some (some (.own (.lst ds))):=by
 unfold z1W at h
 split at h
 ·rename_i ds e; exact ⟨ds,e⟩
 ·cases h
theorem z6l {δ:Dl} {i:Nat} {g:List D→Option (List D)} {kk:Fl→Dl→Prop} (h:post c (putL δ i g) kk):∃ ds ds',δ[i]? = some (some (.own (.lst ds)))∧g ds=some ds'∧kk .next (δ.set i (some (.own (.lst ds')))):=by
 unfold putL at h
 split at h
 ·rename_i ds e
  split at h
  ·rename_i ds' e2
   exact ⟨ds,ds',e,e2,h⟩
  ·exact h.elim
 ·exact h.elim
def z0o (i:Nat) (f:DE):DS:=fun δ=>if z1W δ i then (f δ).bind fun r δ1=>putL δ1 i fun ds=>if ds.length < W8 then some (ds ++ [r.d]) else none else .stuck
theorem z90 {i:Nat} {o:Expr} {p0 apos cpos:Pos} (ho:PE X o (tVar i)) (he:SE X c e fe)
  (h:PS X (.Expr (.Call (.Attribute o "append" apos) [e] [] cpos) pos) (zcy (tBM X.K "list" z9p (tVar i) (zdX (tD c fe) tNil)))):SS X c (.Expr (.Call (.Attribute o "append" apos) [e] [] cpos) pos) (z0o i fe) :=
 PS.weak h fun D σ H ⟨δ,k,q⟩=>by
  unfold z0o z2r at q
  split at q
  ·rename_i hown
   obtain ⟨ds0,e0⟩:=z6H hown
   rw [z03] at q
   obtain ⟨a,ea,oa,_⟩:=k.own i _ e0
   refine ⟨.ref a,ea,?_,δ,k,z00 q fun r δ1 q1 v H1 a1 r1=>?_⟩
   ·obtain ⟨vs,ha,_⟩:=oa
    exact .inl ⟨rfl,vs,.of ha⟩
   ·obtain ⟨ds,ds',e1,e2,q2⟩:=z6l q1
    split at e2
    ·rename_i hz
     cases e2
     obtain ⟨a',ea',oa1,_⟩:=a1.ok.own i _ e1
     rw [ea] at ea'; cases ea'
     obtain ⟨vs,ha,ra⟩:=id oa1
     refine ⟨a,vs,v,rfl,rfl,ha,by rw [ra.1]; exact hz,?_⟩
     exact q2 σ _ (a1.trans (Ok.mutL a1.ok e1 ea (ra.append (.cons r1.rep .nil))))
    ·cases e2
  ·exact q.elim
def z8E (i:Nat) (fi:DE) (fe:DE):DS:=fun δ=>if z1W δ i then (fe δ).bind fun r δ1=>(fi δ1).bind fun k δ2=>match k with
 | .pure (.int j)=>putL δ2 i fun ds=>(ixN ds.length j).map fun n=>ds.set n r.d
 | _=>.stuck else .stuck
theorem z8Y {i:Nat} {o ix:Expr} {fi:DE} {sp:Pos} (ho:PE X o (tVar i)) (hi:SE X c ix fi) (he:SE X c e fe)
  (ha:∀ v,assign (.Subscript o ix sp) X.env v=(do
   let ov ← holding [v] (eval o X.env)
   let iv ← holding [v,ov] (eval ix X.env)
   standAt sp
   holding [v,ov,iv] (setItem ov iv v)
   release [v,ov,iv] []):=by intro _; rfl)
  (hs:swapsWithSole [.Subscript o ix sp] e pos.line X.env=pure false:=by rfl) (hw:swappedStores [.Subscript o ix sp] e X.env=pure none:=by rfl)
  (h1:(Qa [.Subscript o ix sp] X.env).map (·.2)=[assign (.Subscript o ix sp) X.env]:=by rfl):SS X c (.Assign [.Subscript o ix sp] e pos) (z8E i fi fe) :=
 PS.weak (zc5 he (zeC ho hi zaU ha) hs hw h1) fun D σ H ⟨δ,k,q⟩=>by
  unfold z8E z2r at q
  split at q
  ·rename_i hown
   obtain ⟨ds0,e0⟩:=z6H hown
   rw [z03] at q
   obtain ⟨a,ea,_,_⟩:=k.own i _ e0
   refine ⟨δ,k,z00 q fun r δ1 q1 v H1 a1 r1=>⟨.ref a,ea,δ1,a1.ok,?_⟩⟩
   rw [z03] at q1
   refine z00 q1 fun kx δ2 q2 u H2 a2 r2=>?_
   cases kx with
   | own d=>exact q2.elim
   | pure d =>
    cases d <;> first | exact q2.elim | skip
    rename_i j
    cases r2
    obtain ⟨ds,ds',e1,e2,q3⟩:=z6l q2
    cases e3:ixN ds.length j with
    | none=>rw [e3] at e2; cases e2
    | some n =>
     rw [e3] at e2
     cases e2
     obtain ⟨a',ea',oa1,_⟩:=a2.ok.own i _ e1
     rw [ea] at ea'; cases ea'
     obtain ⟨vs,ha,ra⟩:=id oa1
     refine ⟨a,vs,j,n,rfl,rfl,ha,by rw [ra.1]; exact e3,?_⟩
     exact q3 σ _ (a1.trans (a2.trans (Ok.mutL a2.ok e1 ea (ra.set (Rep.aft r1.rep a2) n))))
  ·exact q.elim
end
abbrev DI:=Dl→Rs (List D)
def ItOk (c:Fc) (σ:St) (δ:Dl) (H:Hp) (J:It) (ds:List D):Prop:=∀ H2,(∀ a o,H a=some o→¬ Own σ δ a→H2 a=some o)→J.stop ds.length H2 ∧
 ∀ (i:Nat) d,ds[i]? = some d→J.go i H2∧∀ x H3,J.yld i H2 x H3→(H3=H2∧Rep H (Av c σ δ) x d) ∨
  ∃ p vs es,H2 p=none∧H3=upd H2 p (.tup vs)∧x = .ref p∧d = .tup es∧Reps H (Av c σ δ) vs es
def tI (c:Fc) (f:DI):TI:=fun σ H R=>∃ δ,Ok c σ δ H∧post c (f δ) fun ds δ'=>∀ J H',Aft c σ δ H σ δ' H'→ItOk c σ δ' H' J ds→R J H'
abbrev SI (X:Cx) (c:Fc) (tg iter:Expr) (f:DI):Prop:=PI X tg iter (tI c f)
theorem PI.weak (h:PI X tg iter t) (w:∀ σ H R,t' σ H R→t σ H R):PI X tg iter t':=fun pins s σ H R I q=>h pins s σ H R I (w σ H R q)
section
variable {X:Cx} {c:Fc} {tg e:Expr} {fe:DE} {pos pp:Pos}
theorem zfd (K:W2) (h:H a=some (.tup vs)) (n:¬ Own σ δ a) (r:Reps H (Av c σ δ) vs ds):ItOk c σ δ H (Itt K a) ds:=by
 intro H2 kp
 have h2:=kp a _ h n
 refine ⟨⟨vs,.of h2,by rw [r.1]; exact Wd _⟩,fun i d e=>?_⟩
 obtain ⟨v,ev,rv⟩:=r.get e
 refine ⟨⟨vs,v,.of h2,ev⟩,fun x H3 ⟨e3,y⟩=>.inl ⟨e3,?_⟩⟩
 have:=y vs (.of h2)
 rw [ev] at this
 cases this
 exact rv
def z0z (lo:Int) (n:Nat):List D:=(Wz n).map fun k:Nat=>D.int (lo + k)
theorem z8n {lo:Int} {n i:Nat} {d:D} (h:(z0z lo n)[i]? = some d):i < n∧d = .int (lo + i):=by
 unfold z0z at h
 rw [WK] at h
 by_cases hi:i < n
 ·rw [List.getElem?_range hi] at h
  simp at h
  exact ⟨hi,h.symm⟩
 ·rw [WS (by simpa using hi)] at h
  cases h
theorem zbx (lo:Int) (n:Nat):ItOk c σ δ H (Itr lo n) (z0z lo n):=by
 intro H2 kp
 refine ⟨by show n≤(z0z lo n).length; simp [z0z],fun i d e=>?_⟩
 obtain ⟨hi,rfl⟩:=z8n e
 exact ⟨hi,fun x H3 ⟨e3,ex⟩=>.inl ⟨e3,by rw [ex]; exact .int _⟩⟩
def z46 (j:Int):Bool:=decide (-(2 ^ 62)≤j) && decide (j < 2 ^ 62)
def z0B (f:DE):DI:=fun δ=>(f δ).bind fun r δ1=>match r with
 | .pure (.int j)=>if z46 j then .ok (z0z 0 j.toNat) δ1 else .stuck
 | _=>.stuck
theorem z1h (hg:Gl X "range") (hm:X.mg "range" = none) (he:SE X c e fe) (hs:W6 [e] X.env=[(false,eval e X.env)]:=by rfl):SI X c tg (.Call (.Name "range" pp) [e] [] pos) (z0B fe) :=
 PI.weak (z9w hg hm (z0V he z1K hs) hs) fun σ H R ⟨δ,k,q⟩=>by
  unfold z0B at q
  rw [z03] at q
  refine ⟨δ,k,z00 q fun r δ1 q1 v H1 a1 r1=>?_⟩
  cases r with
  | own d=>exact q1.elim
  | pure d =>
   cases d <;> first | exact q1.elim | skip
   rename_i j
   cases r1
   simp only at q1
   split at q1
   ·rename_i hj
    unfold z46 at hj
    simp only [Wh,decide_eq_true_eq] at hj
    exact ⟨j,rfl,hj.1,hj.2,q1 _ H1 a1 (zbx 0 j.toNat)⟩
   ·exact q1.elim
def forL (g:DG) (b:DS):List D→DS
 | [],δ=>.ok .next δ
 | d :: r,δ=>match g (.pure d) δ with
  | none=>.stuck
  | some δ1=>(b δ1).bind fun fl δ2=>match fl with
   | .next=>forL g b r δ2
   | .cont=>forL g b r δ2
   | .brk=>.ok .next δ2
   | .ret v=>.ok (.ret v) δ2
def dFor (it:DI) (g:DG) (b:DS):DS:=fun δ=>(it δ).bind fun ds δ1=>forL g b ds δ1
theorem z7H (io:ItOk c σ δ H J ds) (a:Aft c σ δ H σ2 δ2 H2) (e:ds[i]? = some d) (y:J.yld i H2 x H3):Aft c σ2 δ2 H2 σ2 δ2 H3∧Rep H3 (Av c σ2 δ2) x d:=by
 obtain ⟨_,t⟩:=io H2 a.keep
 rcases (t i d e).2 x H3 y with ⟨e3,r⟩ | ⟨p,vs,es,hp,e3,ex,ed,r⟩
 ·subst e3
  exact ⟨.refl a.ok,Rep.aft r a⟩
 ·subst e3 ex ed
  have:=RepS.newT a.ok (Reps.aft r a) hp
  exact ⟨.alloc a.ok hp _,this⟩
theorem z24 {iter:Expr} {body:List Stmt} {it:DI} {g:DG} {b:DS} (hp:PassesOwn (model X.prog X.w) X.A X.env X.xe) (hc:X.calm=true) (hi:SI X c tg iter it) (hg:SG X c tg g) (hb:SSs X c body b)
  (hs:∀ x,JU iter X.env x=pure x:=by intro _; rfl):SS X c (.For tg iter body [] pos) (dFor it g b):=PS.weak (zeB hp hc hi hg hb hs) fun D σ H ⟨δ,k,q⟩=>by
 unfold dFor z2r at q
 rw [z03] at q
 refine ⟨δ,k,z00 q fun ds δ1 q1 J H1 a1 io=>?_⟩
 refine ⟨fun i m σ2 H2=>∃ δ2,m=ds.length - i∧i≤ds.length∧Aft c σ δ1 H1 σ2 δ2 H2∧z2r c D σ2 δ2 H2 (forL g b (ds.drop i) δ2),⟨ds.length,δ1,by simp,QR _,.refl a1.ok,?_⟩,?_⟩
 ·rw [List.drop_zero]
  exact z00 q1 fun fl δ2 q2 σ2 H2 a2=>q2 σ2 H2 (a1.trans a2)
 ·rintro i m σ2 H2 ⟨δ2,rfl,hil,a2,p2⟩
  by_cases hlt:i < ds.length
  ·right
   have e:ds[i]? = some ds[i]:=by simp [hlt]
   rw [List.drop_eq_getElem_cons hlt] at p2
   refine ⟨((io H2 a2.keep).2 i _ e).1,fun σ4 H4=>∃ δ4,Aft c σ δ1 H1 σ4 δ4 H4∧z2r c D σ4 δ4 H4 (forL g b (ds.drop (i + 1)) δ4),fun σ4 H4 ⟨δ4,a4,p4⟩=>⟨ds.length - (i + 1),by omega,δ4,rfl,hlt,a4,p4⟩,fun x H3 y=>?_⟩
   obtain ⟨a3,r3⟩:=z7H io a2 e y
   simp only [forL,z2r] at p2
   cases eg:g (.pure ds[i]) δ2 with
   | none=>rw [eg] at p2; exact p2.elim
   | some δ3 =>
    rw [eg] at p2
    refine ⟨σ2,δ2,H3,δ2,.pure ds[i],δ3,.refl a3.ok,r3,eg,fun σ3 a3'=>?_⟩
    have p3:post c ((b δ3).bind fun fl δ2=>match fl with
     | .next=>forL g b (ds.drop (i + 1)) δ2
     | .cont=>forL g b (ds.drop (i + 1)) δ2
     | .brk=>.ok .next δ2
     | .ret v=>.ok (.ret v) δ2) fun fl δ'=>∀ σ' H',Aft c σ2 δ2 H2 σ' δ' H'→fin c D σ' δ' H' fl:=p2
    rw [z03] at p3
    have a23:Aft c σ2 δ2 H2 σ3 δ3 H3:=a3.trans a3'
    refine ⟨δ3,a3'.ok,z00 p3 fun fl δ4 p4 σ4 H4 a4=>?_⟩
    have a24:=a23.trans a4
    cases fl with
    | next=>exact ⟨δ4,a2.trans a24,z00 p4 fun fl δ5 p5 σ5 H5 a5=>p5 σ5 H5 (a24.trans a5)⟩
    | cont=>exact ⟨δ4,a2.trans a24,z00 p4 fun fl δ5 p5 σ5 H5 a5=>p5 σ5 H5 (a24.trans a5)⟩
    | brk=>exact p4 σ4 H4 a24
    | ret r=>exact p4 σ4 H4 a24
  ·left
   have hi2:i=ds.length:=by omega
   subst hi2
   rw [List.drop_length] at p2
   exact ⟨(io H2 a2.keep).1,p2 σ2 H2 (.refl a2.ok)⟩
end
def clrD (cs:List Nat) (δ:Dl):Dl:=cs.foldl (fun δ i=>δ.set i none) δ
def z1r (cs:List Nat) (δ₁ δ:Dl):Dl:=cs.foldl (fun δ i=>match δ₁[i]? with | some o=>δ.set i o | none=>δ) δ
def z0J (δ:Dl) (i:Nat):Bool:=match δ[i]? with
 | some (some (.own _))=>true
 | _=>false
theorem z8c (cs:List Nat):∀ δ:Dl,(clrD cs δ).length=δ.length:=by
 induction cs with
 | nil=>intro δ; rfl
 | cons i r ih =>
  intro δ
  show (clrD r (δ.set i none)).length=_
  rw [ih]; simp
theorem z1i:∀ (cs:List Nat) (δ:Dl) (i:Nat) (v:S),(clrD cs δ)[i]? = some (some v)→δ[i]? = some (some v)∧i ∉ cs:=by
 intro cs
 induction cs with
 | nil=>intro δ i v h; exact ⟨h,by simp⟩
 | cons j r ih =>
  intro δ i v h
  have h':(clrD r (δ.set j none))[i]? = some (some v):=h
  obtain ⟨h1,h2⟩:=ih _ i v h'
  by_cases e:j=i
  ·subst e
   rw [WU] at h1
   simp at h1
  ·rw [W7 e] at h1
   exact ⟨h1,by simp only [Wg,not_or]; exact ⟨Ne.symm e,h2⟩⟩
theorem z2B:∀ (cs:List Nat) (σ:St) (i:Nat),i ∉ cs→(clr cs σ)[i]? = σ[i]?:=by
 intro cs
 induction cs with
 | nil=>intro σ i _; rfl
 | cons j r ih =>
  intro σ i h
  simp only [Wg,not_or] at h
  show (clr r (σ.set j none))[i]? = _
  rw [ih _ _ h.2,W7 (Ne.symm h.1)]
theorem zbR:∀ (cs:List Nat) (δ:Dl) (i:Nat),i ∉ cs→(clrD cs δ)[i]? = δ[i]?:=by
 intro cs
 induction cs with
 | nil=>intro σ i _; rfl
 | cons j r ih =>
  intro σ i h
  simp only [Wg,not_or] at h
  show (clrD r (σ.set j none))[i]? = _
  rw [ih _ _ h.2,W7 (Ne.symm h.1)]
theorem zaL (cs:List Nat) (δ₁:Dl):∀ δ:Dl,(z1r cs δ₁ δ).length=δ.length:=by
 induction cs with
 | nil=>intro δ; rfl
 | cons i r ih =>
  intro δ
  unfold z1r
  rw [Qi]
  have:=ih (match δ₁[i]? with | some o=>δ.set i o | none=>δ)
  unfold z1r at this
  rw [this]
  cases δ₁[i]? <;> simp
theorem z3P:∀ (cs:List Nat) (δ₁ δ:Dl) (i:Nat),i ∉ cs→(z1r cs δ₁ δ)[i]? = δ[i]?:=by
 intro cs δ₁
 induction cs with
 | nil=>intro δ i _; rfl
 | cons j r ih =>
  intro δ i h
  simp only [Wg,not_or] at h
  unfold z1r
  rw [Qi]
  have:=ih (match δ₁[j]? with | some o=>δ.set j o | none=>δ) i h.2
  unfold z1r at this
  rw [this]
  cases δ₁[j]? with
  | none=>rfl
  | some o=>simp only; rw [W7 (Ne.symm h.1)]
theorem z67:∀ (cs:List Nat) (δ₁ δ:Dl) (i:Nat),δ₁.length=δ.length→i ∈ cs→(z1r cs δ₁ δ)[i]? = δ₁[i]?:=by
 intro cs δ₁
 induction cs with
 | nil=>intro δ i _ h; simp at h
 | cons j r ih =>
  intro δ i hl h
  unfold z1r
  rw [Qi]
  have hl2:δ₁.length=(match δ₁[j]? with | some o=>δ.set j o | none=>δ).length:=by cases δ₁[j]? <;> simp [hl]
  by_cases hr:i ∈ r
  ·have:=ih (match δ₁[j]? with | some o=>δ.set j o | none=>δ) i hl2 hr
   unfold z1r at this
   exact this
  ·have e:i=j:=by
    rcases Wg.mp h with e | e
    ·exact e
    ·exact absurd e hr
   subst e
   have:=z3P r δ₁ (match δ₁[i]? with | some o=>δ.set i o | none=>δ) i hr
   unfold z1r at this
   rw [this]
   cases e:δ₁[i]? with
   | none =>
    simp only
    have:=List.getElem?_eq_none_iff.mp e
    exact WS (by omega)
   | some o =>
    simp only
    have:=(Wb.mp e).1
    rw [Wt (by omega)]
section
variable {c:Fc} {σ:St} {δ δ':Dl} {H H':Hp} {l:Addr} {cs:List Nat}
theorem Ok.less (k:Ok (c.plus l) σ δ H):Ok c σ δ H:=by
 have sub:∀ b,Av c σ δ b→Av (c.plus l) σ δ b:=fun b z=>z.elim (fun z=>.inl (.inl z)) .inr
 refine ⟨k.keep,fun a z=>k.bd a (.inl z),k.ith,k.len,fun i d e=>?_,fun i d e=>?_,k.inj,k.pinned⟩
 ·obtain ⟨v,h1,h2⟩:=k.slot i d e
  exact ⟨v,h1,h2.anti fun b z=>.inl (sub b z)⟩
 ·obtain ⟨a,h1,h2,h3,h4⟩:=k.own i d e
  exact ⟨a,h1,h2.anti fun b z=>.inl (sub b z),h3,fun z=>h4 (.inl z)⟩
theorem Ok.updB (k:Ok c σ δ H) (hb:c.B l) (h0:c.H₀ l=none) (o:HO):Ok c σ δ (upd H l o):=by
 have kp:∀ b w,H b=some w→¬ Av c σ δ b→upd H l o b=some w:=fun b w e n=>by
  rw [z0i (fun z=>n (by rw [z]; exact .inl hb))]; exact e
 have hup:∀ b w,H b=some w→∃ w',upd H l o b=some w':=fun b w h=>by
  by_cases hb:b=l
  ·exact ⟨_,by rw [hb]; exact z0k⟩
  ·exact ⟨w,by rw [z0i hb]; exact h⟩
 refine ⟨fun a w e n=>?_,fun a z=>?_,fun a z=>?_,k.len,fun i d e=>?_,fun i d e=>?_,k.inj,k.pinned⟩
 ·have:a≠l:=fun z=>by rw [z,h0] at e; cases e
  rw [z0i this]; exact k.keep a w e n
 ·obtain ⟨w,e⟩:=k.bd a z; exact hup a w e
 ·obtain ⟨w,e⟩:=k.ith a z; exact hup a w e
 ·obtain ⟨v,h1,h2⟩:=k.slot i d e
  exact ⟨v,h1,h2.keep kp⟩
 ·obtain ⟨a,h1,h2,h3,h4⟩:=k.own i d e
  have:a≠l:=fun z=>h4 (by rw [z]; exact hb)
  exact ⟨a,h1,h2.keep kp fun w q=>by rw [z0i this]; exact q,h3,h4⟩
theorem Own.clr (h:Own (clr cs σ) (clrD cs δ) l):Own σ δ l:=by
 obtain ⟨i,d,e1,e2⟩:=h
 exact ⟨i,d,(z1i cs δ i _ e1).1,(z30 cs σ i _ e2).1⟩
theorem Ok.clr (k:Ok c σ δ H) (hp:∀ p ∈ c.pin,p.1 ∉ cs):Ok c (L2.clr cs σ) (clrD cs δ) H:=by
 have sub:∀ b,Av c (L2.clr cs σ) (clrD cs δ) b→Av c σ δ b:=fun b z=>z.elim .inl fun z=>.inr z.clr
 refine ⟨k.keep,k.bd,k.ith,by rw [z8c,z65]; exact k.len,fun i d e=>?_,fun i d e=>?_,fun i j a d d' e1 e2 e3 e4=>?_,fun p hm=>?_⟩
 ·obtain ⟨e',hi⟩:=z1i cs δ i _ e
  obtain ⟨v,h1,h2⟩:=k.slot i d e'
  exact ⟨v,by rw [z2B cs σ i hi]; exact h1,h2.anti fun b z=>.inl (sub b z)⟩
 ·obtain ⟨e',hi⟩:=z1i cs δ i _ e
  obtain ⟨a,h1,h2,h3⟩:=k.own i d e'
  exact ⟨a,by rw [z2B cs σ i hi]; exact h1,h2.anti fun b z=>.inl (sub b z),h3⟩
 ·exact k.inj i j a d d' (z1i cs δ i _ e1).1 (z1i cs δ j _ e2).1 (z30 cs σ i _ e3).1 (z30 cs σ j _ e4).1
 ·rw [z2B cs σ _ (hp p hm)]; exact k.pinned p hm
theorem Aft.back (k:Ok c₀ σ δ H) (hpin:c.pin=c₀.pin) (hB:∀ b,c.B b→c₀.B b∨H b=none) (hno:cs.any (z0J δ)=false) (x:Aft c (L2.clr cs σ) (clrD cs δ) H (L2.clr cs σ) δ' H'):Aft c σ δ H σ (z1r cs δ δ') H':=by
 have len:δ.length=δ'.length:=by
  have:=x.ok.len
  rw [z65] at this
  rw [this]; exact k.len
 have nown:∀ i d,i ∈ cs→δ[i]?≠some (some (.own d)):=fun i d hi e=>by
  have:=List.any_eq_false.mp hno i hi
  unfold z0J at this
  rw [e] at this
  simp at this
 have ownOut:∀ i d,(z1r cs δ δ')[i]? = some (some (.own d))→i ∉ cs∧δ'[i]? = some (some (.own d)):=fun i d e=>by
  by_cases hi:i ∈ cs
  ·rw [z67 cs δ δ' i len hi] at e
   exact absurd e (nown i d hi)
  ·rw [z3P cs δ δ' i hi] at e
   exact ⟨hi,e⟩
 have sub:∀ b,Own σ (z1r cs δ δ') b→Own (L2.clr cs σ) δ' b:=fun b ⟨i,d,e1,e2⟩=>by
  obtain ⟨hi,e⟩:=ownOut i d e1
  exact ⟨i,d,e,by rw [z2B cs σ i hi]; exact e2⟩
 have subA:∀ b,Av c σ (z1r cs δ δ') b→Av c (L2.clr cs σ) δ' b:=fun b z=>z.elim .inl fun z=>.inr (sub b z)
 have ownEq:∀ b,Own σ δ b→Own (L2.clr cs σ) (clrD cs δ) b:=fun b ⟨i,d,e1,e2⟩=>by
  have hi:i ∉ cs:=fun z=>nown i d z e1
  exact ⟨i,d,by rw [zbR cs δ i hi]; exact e1,by rw [z2B cs σ i hi]; exact e2⟩
 refine ⟨⟨x.ok.keep,x.ok.bd,x.ok.ith,by rw [zaL,← len]; exact k.len,fun i d e=>?_,fun i d e=>?_,fun i j a d d' e1 e2 e3 e4=>?_,by rw [hpin]; exact k.pinned⟩,fun a o e n=>?_,fun a z=>?_,x.there⟩
 ·by_cases hi:i ∈ cs
  ·rw [z67 cs δ δ' i len hi] at e
   obtain ⟨v,h1,h2⟩:=k.slot i d e
   have h3:Rep H (Av c (L2.clr cs σ) (clrD cs δ)) v d:=h2.anti fun b z=>by
    rcases z with z | z
    ·exact (hB b z).elim (fun z=>.inl (.inl z)) .inr
    ·exact .inl (.inr z.clr)
   exact ⟨v,h1,(Rep.aft h3 x).anti fun b z=>.inl (subA b z)⟩
  ·rw [z3P cs δ δ' i hi] at e
   obtain ⟨v,h1,h2⟩:=x.ok.slot i d e
   exact ⟨v,(z30 cs σ i v h1).1,h2.anti fun b z=>.inl (subA b z)⟩
 ·obtain ⟨hi,e'⟩:=ownOut i d e
  obtain ⟨a,h1,h2,h3⟩:=x.ok.own i d e'
  exact ⟨a,(z30 cs σ i _ h1).1,h2.anti fun b z=>.inl (subA b z),h3⟩
 ·obtain ⟨hi,f1⟩:=ownOut i d e1
  obtain ⟨hj,f2⟩:=ownOut j d' e2
  exact x.ok.inj i j a d d' f1 f2 (by rw [z2B cs σ i hi]; exact e3) (by rw [z2B cs σ j hj]; exact e4)
 ·exact x.keep a o e fun z=>n z.clr
 ·rcases x.own a (sub a z) with q | q
  ·exact .inl q.clr
  ·exact .inr q
end
def z1f (cs:List Nat) (g:DG) (t:DT) (el:DE):List D→Dl→List D→Rs (List D)
 | [],δ,acc=>.ok acc δ
 | d :: r,δ,acc=>match g (.pure d) δ with
  | none=>.stuck
  | some δ1=>(t δ1).bind fun b δ2=>if b then (el δ2).bind fun x δ3=>if acc.length < W8 then z1f cs g t el r (clrD cs δ3) (acc ++ [x.d]) else .stuck
   else z1f cs g t el r (clrD cs δ2) acc
def z0N (cs:List Nat) (it:DI) (g:DG) (t:DT) (el:DE):DE:=fun δ=>(it δ).bind fun ds δ1=>if cs.any (z0J δ1) then .stuck else
 (z1f cs g t el ds (clrD cs δ1) []).bind fun acc δ2=>.ok (.own (.lst acc)) (z1r cs δ1 δ2)
def dYes:DT:=fun δ=>.ok true δ
abbrev STs (X:Cx) (c:Fc) (ifs:List Expr) (t:DT):Prop:=PTs X ifs (tT c t)
theorem z1M {X:Cx} {c:Fc}:STs X c [] dYes:=fun pins s σ H Q I ⟨δ,k,q⟩=>zd3 pins s σ H Q I (q H (.refl k))
theorem z77 {X:Cx} {c:Fc} {e:Expr} {t:DT} (h:ST X c e t):STs X c [e] t:=zd2 h
section
variable {X:Cx} {c:Fc} {cs:List Nat} {tg iter elt:Expr} {ifs:List Expr} {scope:Scope} {pos:Pos} {it:DI} {g:DG} {t:DT} {el:DE}
theorem Aft.clear (x:Aft c (L2.clr cs σ) δ H σ4 δ4 H4) (le:Le (L2.clr cs σ) σ4) (hp:∀ p ∈ c.pin,p.1 ∉ cs) (hs:∀ (i:Nat) v,σ4[i]? = some (some v)→i ∉ cs→σ[i]? = some (some v)):Aft c (L2.clr cs σ) δ H (L2.clr cs σ) (clrD cs δ4) H4:=by
 have eq:∀ i,i ∉ cs→∀ v,σ4[i]? = some (some v)→(L2.clr cs σ)[i]? = some (some v):=fun i hi v e=>by rw [z2B cs σ i hi]; exact hs i v e hi
 have own:∀ b,Own (L2.clr cs σ) (clrD cs δ4) b→Own σ4 δ4 b:=fun b ⟨i,d,e1,e2⟩=>by
  exact ⟨i,d,(z1i cs δ4 i _ e1).1,le.2 i _ e2⟩
 have sub:∀ b,Av c (L2.clr cs σ) (clrD cs δ4) b→Av c σ4 δ4 b:=fun b z=>z.elim .inl fun z=>.inr (own b z)
 have k:=x.ok
 refine ⟨⟨k.keep,k.bd,k.ith,by rw [z8c,k.len]; exact le.1,fun i d e=>?_,fun i d e=>?_,fun i j a d d' e1 e2 e3 e4=>?_,fun p hm=>?_⟩,x.keep,fun a z=>x.own a (own a z),x.there⟩
 ·obtain ⟨e',hi⟩:=z1i cs δ4 i _ e
  obtain ⟨v,h1,h2⟩:=k.slot i d e'
  exact ⟨v,eq i hi v h1,h2.anti fun b z=>.inl (sub b z)⟩
 ·obtain ⟨e',hi⟩:=z1i cs δ4 i _ e
  obtain ⟨a,h1,h2,h3⟩:=k.own i d e'
  exact ⟨a,eq i hi _ h1,h2.anti fun b z=>.inl (sub b z),h3⟩
 ·exact k.inj i j a d d' (z1i cs δ4 i _ e1).1 (z1i cs δ4 j _ e2).1 (le.2 i _ e3) (le.2 j _ e4)
 ·exact eq p.1 (hp p hm) _ (k.pinned p hm)
def Out (cs:List Nat) (σ σ':St):Prop:=σ'.length=σ.length∧∀ i,i ∉ cs→σ'[i]? = σ[i]?
theorem Out.trans (a:Out cs σ σ') (b:Out cs σ' σ''):Out cs σ σ'':=⟨b.1.trans a.1,fun i h=>(b.2 i h).trans (a.2 i h)⟩
def tGC (cs:List Nat) (c:Fc) (g:DG):TG:=fun v σ H Q=>∃ σ₀ δ₀ H₁ δ r δ',Aft c σ₀ δ₀ H₁ σ δ H∧RepS c σ δ H₁ H v r∧g r δ=some δ'∧∀ σ',Aft c σ₀ δ₀ H₁ σ' δ' H→Out cs σ σ'→Q σ' H
abbrev SGC (X:Cx) (c:Fc) (cs:List Nat) (tg:Expr) (g:DG):Prop:=PG X tg (tGC cs c g)
theorem z0P {np:List Nat} {i:Nat} {x:Str} (hp:Np c np) (hN:X.N.Nodup) (hi:X.N[i]? = some x) (hx:Loc X.env.scope x) (hf:X.fn x=true∨X.env.scope.names.lookup x=some .local) (hc:i ∈ cs):SGC X c cs (.Name x pos) (gNm np i) :=
 PG.weak (z9y hN hi hx hf) fun v σ H Q ⟨σ₀,δ₀,H₁,δ,r,δ',x,rr,e,q⟩=>by
  unfold gNm at e
  split at e
  ·cases e
  ·rename_i hn
   cases e
   refine q _ (Ok.set x rr fun p hm e=>hn (by rw [← e]; exact hp p hm)) ⟨by simp,fun j hj=>?_⟩
   rw [W7 (fun z=>hj (by rw [← z]; exact hc))]
def tGCs (cs:List Nat) (c:Fc) (g:DGs):TGs:=fun vs σ H Q=>∃ δ ds δ',Ok c σ δ H∧Reps H (Av c σ δ) vs ds∧g ds δ=some δ'∧∀ σ',Aft c σ δ H σ' δ' H→Out cs σ σ'→Q σ' H
abbrev SGCs (X:Cx) (c:Fc) (cs:List Nat) (tg:List Expr) (g:DGs):Prop:=PGs X tg (tGCs cs c g)
theorem z5I:SGCs X c cs [] z1b:=PGs.weak z9x fun vs σ H Q ⟨δ,ds,δ',k,r,e,q⟩=>by
 cases ds with
 | nil =>
  cases e
  have:vs=[]:=by have:=r.1; simpa using this
  exact ⟨this,q σ (.refl k) ⟨rfl,fun _ _=>rfl⟩⟩
 | cons d r=>cases e
theorem z2j {e:Expr} {es:List Expr} {g:DG} {gs:DGs} (h1:SGC X c cs e g) (h2:SGCs X c cs es gs) (hs:(Qa (e :: es) X.env).map (·.2)=assign e X.env :: (Qa es X.env).map (·.2):=by rfl):SGCs X c cs (e :: es) (z0f g gs) :=
 PGs.weak (z7R h1 h2 hs) fun vs σ H Q ⟨δ,ds,δ',k,r,e,q⟩=>by
  cases ds with
  | nil=>cases e
  | cons d ds =>
   cases vs with
   | nil=>have:=r.1; simp at this
   | cons v vs =>
    simp only [z0f] at e
    cases e1:g (.pure d) δ with
    | none=>rw [e1] at e; cases e
    | some δ1 =>
     rw [e1] at e
     refine ⟨v,vs,rfl,σ,δ,H,δ,.pure d,δ1,.refl k,r.head,e1,fun σ1 a1 o1=>?_⟩
     exact ⟨δ1,ds,δ',a1.ok,Reps.aft r.tail a1,e,fun σ2 a2 o2=>q σ2 (a1.trans a2) (o1.trans o2)⟩
theorem z79 {es:List Expr} {k:Nat} {gs:DGs} {n:Nat} (hc:X.calm=true) (h:SGCs X c cs es gs) (hn:(Qa es X.env).length=n:=by rfl) (hst:(Qa es X.env).findIdx? (·.1)=none:=by rfl) :
  SGC X c cs (.Tuple es k pos) (gTp n gs):=PG.weak (zc6 hc h hn hst) fun v σ H Q hw=>by
 obtain ⟨σ₀,δ₀,H₁,δ,r,δ',x,rr,e,q⟩:=hw
 have hb:=rr.b
 unfold gTp at e
 generalize r.d=d at e hb
 cases d <;> first | (cases e; done) | skip
 rename_i ds
 simp only at e
 split at e
 ·rename_i hl
  obtain ⟨a,vs,ea,ha,ra⟩:=hb.tup
  exact ⟨a,vs,ea,.of ha,by rw [ra.1]; exact hl,δ,ds,δ',x.ok,ra,e,fun σ' a1 o1=>q σ' (x.trans a1) o1⟩
 ·cases e
theorem Aft.less (x:Aft (c.plus l) σ δ H σ' δ' H'):Aft c σ δ H σ' δ' H':=⟨x.ok.less,x.keep,x.own,x.there⟩
theorem zay (hwi:∀ σ H R,tI c it σ H R→wi σ H R) (hg:∀ l v σ H Q,tGC cs (c.plus l) g v σ H Q→gt v σ H Q) (ht:∀ l σ H Q,tT (c.plus l) t σ H Q→tt σ H Q) (he:∀ l σ H Q,tD (c.plus l) el σ H Q→te σ H Q)
  (hp:∀ p ∈ c.pin,p.1 ∉ cs) (h:tD c (z0N cs it g t el) σ H Q):zdY cs wi gt tt te σ H Q:=by
 obtain ⟨δ,k,q⟩:=h
 unfold z0N at q
 rw [z03] at q
 refine hwi _ _ _ ⟨δ,k,z00 q fun ds δ1 q1 J H1 a1 io=>?_⟩
 intro l hl
 split at q1
 ·exact q1.elim
 ·rename_i hno
  have hno':cs.any (z0J δ1)=false:=by simpa using hno
  rw [z03] at q1
  have k1:=a1.ok
  have kp:=k1.plus hl (.lst [])
  have k0:Ok (c.plus l) (L2.clr cs σ) (clrD cs δ1) (upd H1 l (.lst [])):=kp.clr hp
  have up:∀ a w,H1 a=some w→upd H1 l (.lst []) a=some w:=fun a w e=>by
   rw [z0i (z0C e hl)]; exact e
  have h0:c.H₀ l=none:=k1.fresh₀ hl
  -- the walked things,as the block sees them
  have io':ItOk (c.plus l) (L2.clr cs σ) (clrD cs δ1) H1 J ds:=by
   intro H2 kp2
   obtain ⟨s1,s2⟩:=io H2 fun a o e n=>kp2 a o e fun z=>n z.clr
   have cv:∀ {x:V} {d:D},Rep H1 (Av c σ δ1) x d→Rep H1 (Av (c.plus l) (L2.clr cs σ) (clrD cs δ1)) x d:=fun {x d} r =>
    r.anti fun b z=>by
     rcases z with (z | z) | z
     ·exact .inl (.inl z)
     ·exact .inr (by rw [z]; exact hl)
     ·exact .inl (.inr z.clr)
   refine ⟨s1,fun i d e=>⟨(s2 i d e).1,fun x H3 y=>?_⟩⟩
   rcases (s2 i d e).2 x H3 y with ⟨e3,r⟩ | ⟨p,vs,es,hp,e3,ex,ed,r⟩
   ·exact .inl ⟨e3,cv r⟩
   ·exact .inr ⟨p,vs,es,hp,e3,ex,ed,r.1,fun i v d e1 e2=>cv (r.2 i v d e1 e2)⟩
  let Fin:List D→Dl→Prop:=fun acc δ'=>∀ H' vs,Aft (c.plus l) (L2.clr cs σ) (clrD cs δ1) H1 (L2.clr cs σ) δ' H'→H' l=some (.lst vs)→Reps H' (Av (c.plus l) (L2.clr cs σ) δ') vs acc→Q (.ref l) H'
  have q2:post c (z1f cs g t el ds (clrD cs δ1) []) Fin:=z00 q1 fun acc δ2 q2 H' vs x hv r=>by
   have b1:Aft (c.plus l) σ δ1 H1 σ (z1r cs δ1 δ2) H':=Aft.back k1 rfl (fun b z=>z.elim .inl fun z=>.inr (by rw [z]; exact hl)) hno' x
   have b2:Aft c σ δ1 H1 σ (z1r cs δ1 δ2) H':=b1.less
   have len:δ1.length=δ2.length:=by
    have:=x.ok.len
    rw [z65] at this
    rw [this]; exact k1.len
   have hlH:H l=none:=by
    cases e:H l with
    | none=>rfl
    | some o =>
     obtain ⟨o',e'⟩:=a1.there l o e
     rw [hl] at e'; cases e'
   refine q2 _ H' (a1.trans b2) ⟨l,rfl,⟨vs,hv,Reps.anti r fun b z=>.inl ?_⟩,fun z=>k1.nav hl (.inl z),h0,b1.ok,hlH⟩
   rcases z with z | ⟨i,d,e1,e2⟩
   ·exact .inl z
   ·have hi:i ∉ cs:=fun hi=>by
     rw [z67 cs δ1 δ2 i len hi] at e1
     have:=List.any_eq_false.mp hno' i hi
     unfold z0J at this
     rw [e1] at this
     simp at this
    rw [z3P cs δ1 δ2 i hi] at e1
    exact .inr ⟨i,d,e1,by rw [z2B cs σ i hi]; exact e2⟩
  refine ⟨fun i m H2=>∃ δ2 acc vs,m=ds.length - i∧i≤ds.length∧Aft (c.plus l) (L2.clr cs σ) (clrD cs δ1) H1 (L2.clr cs σ) δ2 H2∧H2 l=some (.lst vs)∧Reps H2 (Av (c.plus l) (L2.clr cs σ) δ2) vs acc ∧
   post c (z1f cs g t el (ds.drop i) δ2 acc) Fin,⟨ds.length,clrD cs δ1,[],[],by simp,QR _,⟨k0,fun a w e _=>up a w e,fun a z=>.inl z,fun a w e=>⟨w,up a w e⟩⟩,z0k,.nil,by rw [List.drop_zero]; exact q2⟩,?_⟩
  rintro i m H2 ⟨δ2,acc,vs,rfl,hil,a2,hv,rv,p2⟩
  by_cases hlt:i < ds.length
  ·right
   have e:ds[i]? = some ds[i]:=by simp [hlt]
   rw [List.drop_eq_getElem_cons hlt] at p2
   refine ⟨((io' H2 a2.keep).2 i _ e).1,fun x H3 y=>hg l _ _ _ _ ?_⟩
   obtain ⟨a3,r3⟩:=z7H io' a2 e y
   simp only [z1f] at p2
   cases eg:g (.pure ds[i]) δ2 with
   | none=>rw [eg] at p2; exact p2.elim
   | some δ3 =>
    rw [eg] at p2
    have p3:post c ((t δ3).bind fun b δ2=>if b then (el δ2).bind fun x δ3=>if acc.length < W8 then z1f cs g t el (ds.drop (i + 1)) (clrD cs δ3) (acc ++ [x.d]) else .stuck
     else z1f cs g t el (ds.drop (i + 1)) (clrD cs δ2) acc) Fin:=p2
    refine ⟨L2.clr cs σ,δ2,H3,δ2,.pure ds[i],δ3,.refl a3.ok,r3,eg,fun σ4 a4 o4=>?_⟩
    have le:Le (L2.clr cs σ) σ4:=⟨o4.1,fun j v ej=>by
     rw [o4.2 j (z30 cs σ j v ej).2]; exact ej⟩
    have hs:∀ (j:Nat) v,σ4[j]? = some (some v)→j ∉ cs→σ[j]? = some (some v):=fun j v ej hj=>by
     rw [o4.2 j hj] at ej
     exact (z30 cs σ j v ej).1
    refine ⟨le,ht l _ _ _ ⟨δ3,a4.ok,?_⟩⟩
    rw [z03] at p3
    have pinp:∀ p ∈ (c.plus l).pin,p.1 ∉ cs:=hp
    have a24:=a2.trans (a3.trans a4)
    have ln:∀ {σ':St} {δ':Dl} {H':Hp},Ok (c.plus l) σ' δ' H'→¬ Own σ' δ' l:=fun {σ' δ' H'} k=>z3F k
    have p3':post (c.plus l) (t δ3) fun b δ5=>post c (if b then (el δ5).bind fun x δ3=>if acc.length < W8 then z1f cs g t el (ds.drop (i + 1)) (clrD cs δ3) (acc ++ [x.d]) else .stuck
     else z1f cs g t el (ds.drop (i + 1)) (clrD cs δ5) acc) Fin:=p3
    refine z00 p3' fun b δ5 p5 H5 a5=>?_
    have a25:=a24.trans a5
    have hv3:H3 l=some (.lst vs):=a3.keep l _ hv (ln a2.ok)
    have hv5:H5 l=some (.lst vs):=a5.keep l _ hv3 (ln a4.ok)
    have rv3:=Reps.aft (Reps.aft (Reps.aft rv a3) a4) a5
    cases b with
    | false =>
     have c5:=a25.clear le pinp hs
     refine ⟨ds.length - (i + 1),by omega,clrD cs δ5,acc,vs,rfl,hlt,c5,hv5,Reps.anti rv3 fun b z=>.inl ?_,p5⟩
     exact z.elim .inl fun ⟨j,d,e1,e2⟩=>.inr ⟨j,d,(z1i cs δ5 j _ e1).1,le.2 j _ e2⟩
    | true =>
     have p5':post c ((el δ5).bind fun x δ3=>if acc.length < W8 then z1f cs g t el (ds.drop (i + 1)) (clrD cs δ3) (acc ++ [x.d]) else .stuck) Fin:=p5
     rw [z03] at p5'
     refine he l _ _ _ ⟨δ5,a5.ok,?_⟩
     have p6:post (c.plus l) (el δ5) fun x δ6=>post c (if acc.length < W8 then z1f cs g t el (ds.drop (i + 1)) (clrD cs δ6) (acc ++ [x.d]) else .stuck) Fin:=p5'
     refine z00 p6 fun x δ6 p7 v H6 a6 r6=>?_
     split at p7
     ·rename_i hz
      have a26:=a25.trans a6
      have hv6:H6 l=some (.lst vs):=a6.keep l _ hv5 (ln a5.ok)
      have rv6:=Reps.aft rv3 a6
      have rr:Reps H6 (Av (c.plus l) σ4 δ6) (vs ++ [v]) (acc ++ [x.d]):=rv6.append (.cons r6.rep .nil)
      have c6:=a26.clear le pinp hs
      have kpl:∀ b o,H6 b=some o→¬ Av (c.plus l) σ4 δ6 b→upd H6 l (.lst (vs ++ [v])) b=some o:=fun b o e n=>by
       rw [z0i (fun z=>n (by rw [z]; exact .inl (.inr rfl)))]; exact e
      have sub6:∀ b,Av (c.plus l) (L2.clr cs σ) (clrD cs δ6) b→Av (c.plus l) σ4 δ6 b:=fun b z=>z.elim .inl fun ⟨j,d,e1,e2⟩=>.inr ⟨j,d,(z1i cs δ6 j _ e1).1,le.2 j _ e2⟩
      refine ⟨vs,ds.length - (i + 1),hv6,by rw [rv6.1]; exact hz,by omega,clrD cs δ6,acc ++ [x.d],vs ++ [v],rfl,hlt,?_,z0k,Reps.anti (Reps.keep rr kpl) fun b z=>.inl (sub6 b z),p7⟩
      -- the list that is built has grown
      refine ⟨c6.ok.updB (.inr rfl) h0 _,fun a o ea n=>?_,fun a z=>c6.own a z,fun a o ea=>?_⟩
      ·have hal:a≠l:=fun z=>by rw [z,hl] at ea; cases ea
       rw [z0i hal]; exact c6.keep a o ea n
      ·by_cases hal:a=l
       ·exact ⟨_,by rw [hal]; exact z0k⟩
       ·obtain ⟨o',e'⟩:=c6.there a o ea
        exact ⟨o',by rw [z0i hal]; exact e'⟩
     ·exact p7.elim
  ·left
   have hi2:i=ds.length:=by omega
   subst hi2
   rw [List.drop_length] at p2
   exact ⟨(io' H2 a2.keep).1,p2 H2 vs a2 hv rv⟩
theorem z1s (hc:X.calm=true) (S:CScope X scope cs) (hi:SI X c tg iter it) (hg:∀ l s₀ H₀ ex,SGC (z2m X scope s₀ H₀ ex) (c.plus l) cs tg g) (ht:∀ l s₀ H₀ ex,STs (z2m X scope s₀ H₀ ex) (c.plus l) ifs t)
  (he:∀ l s₀ H₀ ex,SE (z2m X scope s₀ H₀ ex) (c.plus l) elt el) (hp:∀ p ∈ c.pin,p.1 ∉ cs) (hs:∀ x,JU iter X.env x=pure x:=by intro _; rfl) :
  SE X c (.ListComp elt [⟨tg,iter,ifs,0⟩] scope pos) (z0N cs it g t el) :=
 PE.weak (zdb (g:=fun v σ H Q=>∃ l,tGC cs (c.plus l) g v σ H Q) (tt:=fun σ H Q=>∃ l,tT (c.plus l) t σ H Q) (te:=fun σ H Q=>∃ l,tD (c.plus l) el σ H Q) hc S hi
  (fun s₀ H₀ ex pins s σ H v u Q I r ⟨l,q⟩=>hg l s₀ H₀ ex pins s σ H v u Q I r q) (fun s₀ H₀ ex pins s σ H Q I ⟨l,q⟩=>ht l s₀ H₀ ex pins s σ H Q I q) (fun s₀ H₀ ex pins s σ H Q I ⟨l,q⟩=>he l s₀ H₀ ex pins s σ H Q I q) hs)
  fun σ H Q h=>zay (fun _ _ _ h=>h) (fun l _ _ _ _ h=>⟨l,h⟩) (fun l _ _ _ h=>⟨l,h⟩) (fun l _ _ _ h=>⟨l,h⟩) hp h
end
abbrev DF:=List S→Option (S×List S)
def z0t:Nat→List S→List V→List (Nat×Addr)
 | n,.own _ :: ss,.ref a :: vs=>(n,a) :: z0t (n + 1) ss vs
 | n,_ :: ss,_ :: vs=>z0t (n + 1) ss vs
 | _,_,_=>[]
theorem z1n:∀ {n:Nat} {ss:List S} {vs:List V} {i:Nat} {a:Addr},(i,a) ∈ z0t n ss vs→∃ j d,i=n + j∧ss[j]? = some (.own d)∧vs[j]? = some (.ref a)
 | n,[],vs,i,a,h=>by simp [z0t] at h
 | n,s :: ss,[],i,a,h=>by cases s <;> simp [z0t] at h
 | n,s :: ss,v :: vs,i,a,h=>by
  have rec':(i,a) ∈ z0t (n + 1) ss vs→∃ j d,i=n + j∧(s :: ss)[j]? = some (.own d)∧(v :: vs)[j]? = some (.ref a):=fun h=>by
   obtain ⟨j,d,e,h1,h2⟩:=z1n h
   exact ⟨j + 1,d,by omega,by simpa using h1,by simpa using h2⟩
  cases s with
  | pure d=>exact rec' h
  | own d =>
   cases v with
   | ref b =>
    rcases Wg.mp h with e | h
    ·cases e
     exact ⟨0,d,rfl,rfl,rfl⟩
    ·exact rec' h
   | _=>exact rec' h
theorem z3G:∀ {n:Nat} {ss:List S} {vs:List V} {j:Nat} {d:D} {a:Addr},ss[j]? = some (.own d)→vs[j]? = some (.ref a)→(n + j,a) ∈ z0t n ss vs
 | n,[],vs,j,d,a,h,_=>by simp at h
 | n,s :: ss,[],j,d,a,_,h=>by simp at h
 | n,s :: ss,v :: vs,0,d,a,h1,h2=>by
  simp at h1 h2
  subst h1 h2
  exact Wm
 | n,s :: ss,v :: vs,j + 1,d,a,h1,h2=>by
  have ih:=z3G (n:=n + 1) (ss:=ss) (vs:=vs) (j:=j) (d:=d) (a:=a) (by simpa using h1) (by simpa using h2)
  have e:n + 1 + j=n + (j + 1):=by omega
  rw [e] at ih
  cases s with
  | pure d=>exact ih
  | own d =>
   cases v with
   | ref b=>exact Wc _ ih
   | _=>exact ih
abbrev z0Z (vs:List V):St:=vs.map some
abbrev z11 (ss:List S):Dl:=ss.map some
theorem someS_get {ss:List S} {i:Nat} {r:S}:(z11 ss)[i]? = some (some r) ↔ ss[i]? = some r:=by
 rw [WK]
 cases ss[i]? <;> simp
theorem some'_get {vs:List V} {i:Nat} {v:V}:(z0Z vs)[i]? = some (some v) ↔ vs[i]? = some v:=by
 rw [WK]
 cases vs[i]? <;> simp
def spD (n:Nat) (G:DF):Sp:=fun vs H Q _=>∃ ss B,vs.length=n∧Ok ⟨H,B,z0t 0 ss vs,fun _ _=>False⟩ (z0Z vs) (z11 ss) H∧∃ r outs,G ss=some (r,outs) ∧
 ∀ v H',Aft ⟨H,B,z0t 0 ss vs,fun _ _=>False⟩ (z0Z vs) (z11 ss) H (z0Z vs) (z11 outs) H'→RepS ⟨H,B,z0t 0 ss vs,fun _ _=>False⟩ (z0Z vs) (z11 outs) H H' v r→Q v H'
def KFn (P:Wj) (w:Wp) (K:W2) (mg:Str→Option Value) (base:Heap) (k:Nat) (x:Str) (n:Nat) (G:DF):Prop :=
 ∃ (f:Addr) (fd:WM) (ps:List Str),mg x=some (.ref f)∧Qe K (.ref f)=true∧Binds K fd ps []∧FnOk P w K mg base CX0 k f fd ps (spD n G)
def z0j (n:Nat) (ss:List S):Dl:=z11 ss ++ Wa (n - ss.length) none
def z0d:Nat→List S→Dl→Option (List S)
 | _,[],_=>some []
 | n,.pure d :: ss,δ=>(z0d (n + 1) ss δ).map (.pure d :: ·)
 | n,.own _ :: ss,δ=>match δ[n]? with
  | some (some (.own d'))=>(z0d (n + 1) ss δ).map (.own d' :: ·)
  | _=>none
def z0T:Fl→Option S
 | .next=>some (.pure .non)
 | .ret r=>some r
 | _=>none
def runD (f:DS) (n:Nat) (ss:List S):Option (S×List S):=match f (z0j n ss) with
 | .ok fl δ=>(z0T fl).bind fun r=>(z0d 0 ss δ).map fun outs=>(r,outs)
 | _=>none
def ioOk (np:List Nat):Nat→List S→Bool
 | _,[]=>true
 | n,.own _ :: ss=>np.contains n && ioOk np (n + 1) ss
 | n,.pure _ :: ss=>ioOk np (n + 1) ss
theorem z5Z:∀ {n:Nat} {ss:List S} {j:Nat} {d:D},ioOk np n ss=true→ss[j]? = some (.own d)→np.contains (n + j)=true
 | n,[],j,d,_,h=>by simp at h
 | n,s :: ss,0,d,h,e=>by
  simp at e
  subst e
  simp only [ioOk,Wh] at h
  exact h.1
 | n,s :: ss,j + 1,d,h,e=>by
  have h':ioOk np (n + 1) ss=true:=by
   cases s with
   | pure d=>exact h
   | own d=>simp only [ioOk,Wh] at h; exact h.2
  have:=z5Z (n:=n + 1) (j:=j) h' (by simpa using e)
  rw [show n + (j + 1)=n + 1 + j by omega]
  exact this
theorem z4L:∀ {n:Nat} {ss outs:List S} {δ:Dl},z0d n ss δ=some outs→outs.length=ss.length∧∀ (i:Nat) s,ss[i]? = some s→(∃ d,s = .pure d∧outs[i]? = some (.pure d))∨∃ d d',s = .own d∧δ[n + i]? = some (some (.own d'))∧outs[i]? = some (.own d')
 | n,[],outs,δ,h=>by
  simp only [z0d,W9] at h
  subst h
  exact ⟨rfl,fun i s e=>by simp at e⟩
 | n,.pure d :: ss,outs,δ,h=>by
  simp only [z0d] at h
  cases e:z0d (n + 1) ss δ with
  | none=>rw [e] at h; cases h
  | some os =>
   rw [e] at h
   simp only [WV,W9] at h
   subst h
   obtain ⟨h1,h2⟩:=z4L e
   refine ⟨by simp [h1],fun i s es=>?_⟩
   cases i with
   | zero=>simp at es; subst es; exact .inl ⟨d,rfl,rfl⟩
   | succ i =>
    rcases h2 i s (by simpa using es) with ⟨d,z1,z2⟩ | ⟨d,d',z1,z2,z3⟩
    ·exact .inl ⟨d,z1,by simpa using z2⟩
    ·exact .inr ⟨d,d',z1,by rw [show n + (i + 1)=n + 1 + i by omega]; exact z2,by simpa using z3⟩
 | n,.own d :: ss,outs,δ,h=>by
  simp only [z0d] at h
  split at h
  ·rename_i d' ed
   cases e:z0d (n + 1) ss δ with
   | none=>rw [e] at h; cases h
   | some os =>
    rw [e] at h
    simp only [WV,W9] at h
    subst h
    obtain ⟨h1,h2⟩:=z4L e
    refine ⟨by simp [h1],fun i s es=>?_⟩
    cases i with
    | zero=>simp at es; subst es; exact .inr ⟨d,d',rfl,ed,rfl⟩
    | succ i =>
     rcases h2 i s (by simpa using es) with ⟨d,z1,z2⟩ | ⟨d,d',z1,z2,z3⟩
     ·exact .inl ⟨d,z1,by simpa using z2⟩
     ·exact .inr ⟨d,d',z1,by rw [show n + (i + 1)=n + 1 + i by omega]; exact z2,by simpa using z3⟩
  ·cases h
section
variable {c:Fc} {H H':Hp} {vs:List V} {ss outs:List S} {σ':St} {δ':Dl}
theorem z2Q {α:Type} {l:List (Option α)} {k i:Nat} {v:α} (h:(l ++ Wa k none)[i]? = some (some v)):l[i]? = some (some v):=by
 by_cases hi:i < l.length
 ·rw [List.getElem?_append_left hi] at h; exact h
 ·rw [List.getElem?_append_right (by omega),List.getElem?_replicate] at h
  split at h <;> cases h
theorem z2t {α:Type} {l:List (Option α)} {k i:Nat} {v:α} (h:l[i]? = some (some v)):(l ++ Wa k none)[i]? = some (some v):=by
 have hi:i < l.length:=(Wb.mp h).1
 rw [List.getElem?_append_left hi]; exact h
theorem Own.ext {σ:St} {δ:Dl} {k:Nat} {a:Addr}:Own (σ ++ Wa k none) (δ ++ Wa k none) a ↔ Own σ δ a :=
 ⟨fun ⟨i,d,e1,e2⟩=>⟨i,d,z2Q e1,z2Q e2⟩,fun ⟨i,d,e1,e2⟩=>⟨i,d,z2t e1,z2t e2⟩⟩
theorem Ok.ext {σ:St} {δ:Dl} (k:Ok c σ δ H) (n:Nat):Ok c (σ ++ Wa n none) (δ ++ Wa n none) H:=by
 have sub:∀ b,Av c (σ ++ Wa n none) (δ ++ Wa n none) b→Av c σ δ b:=fun b z=>z.elim .inl fun z=>.inr (Own.ext.mp z)
 refine ⟨k.keep,k.bd,k.ith,by simp [k.len],fun i d e=>?_,fun i d e=>?_,fun i j a d d' e1 e2 e3 e4=>k.inj i j a d d' (z2Q e1) (z2Q e2) (z2Q e3) (z2Q e4),fun p hm=>z2t (k.pinned p hm)⟩
 ·obtain ⟨v,h1,h2⟩:=k.slot i d (z2Q e)
  exact ⟨v,z2t h1,h2.anti fun b z=>.inl (sub b z)⟩
 ·obtain ⟨a,h1,h2,h3⟩:=k.own i d (z2Q e)
  exact ⟨a,z2t h1,h2.anti fun b z=>.inl (sub b z),h3⟩
theorem z6D {B:Addr→Prop} {n:Nat} (hc:c = ⟨H,B,z0t 0 ss vs,fun _ _=>False⟩) (k:Ok c (z0Z vs) (z11 ss) H) (x:Aft c (z0Z vs ++ Wa n none) (z11 ss ++ Wa n none) H σ' δ' H') (ho:z0d 0 ss δ'=some outs) :
  Aft c (z0Z vs) (z11 ss) H (z0Z vs) (z11 outs) H'∧∀ v r,RepS c σ' δ' H H' v r→RepS c (z0Z vs) (z11 outs) H H' v r:=by
 obtain ⟨hlen,hat⟩:=z4L ho
 have hvs:ss.length=vs.length:=by have:=k.len; simpa using this
 have pin:∀ (i:Nat) (a:Addr) (d:D),ss[i]? = some (.own d)→vs[i]? = some (.ref a)→σ'[i]? = some (some (.ref a)):=fun i a d h1 h2=>by
  have:=z3G (n:=0) h1 h2
  rw [WX] at this
  exact x.ok.pinned (i,a) (by rw [hc]; exact this)
 have ownS:∀ (i:Nat) (d:D),outs[i]? = some (.own d)→(∃ d₀,ss[i]? = some (.own d₀))∧δ'[i]? = some (some (.own d)):=fun i d e=>by
  have hi:i < ss.length:=by rw [← hlen]; exact (Wb.mp e).1
  rcases hat i ss[i] (by simp [hi]) with ⟨d₁,z1,z2⟩ | ⟨d₁,d',z1,z2,z3⟩
  ·rw [e] at z2; cases z2
  ·rw [e] at z3; cases z3
   rw [WX] at z2
   exact ⟨⟨d₁,by rw [Wk hi,z1]⟩,z2⟩
 have sub:∀ b,Own (z0Z vs) (z11 outs) b→Own σ' δ' b:=fun b ⟨i,d,e1,e2⟩=>by
  obtain ⟨⟨d₀,h0⟩,h1⟩:=ownS i d (someS_get.mp e1)
  exact ⟨i,d,h1,pin i b d₀ h0 (some'_get.mp e2)⟩
 have subA:∀ b,Av c (z0Z vs) (z11 outs) b→Av c σ' δ' b:=fun b z=>z.elim .inl fun z=>.inr (sub b z)
 have okO:∀ {c':Fc},c'.pin=c.pin→Ok c' σ' δ' H'→(∀ b,c.B b→c'.B b)→(∀ (i:Nat) d v,ss[i]? = some (.pure d)→vs[i]? = some v→Rep H' (Av c' σ' δ') v d)→Ok c' (z0Z vs) (z11 outs) H':=fun {c'} ep k' hB hsl=>by
  have subA':∀ b,Av c' (z0Z vs) (z11 outs) b→Av c' σ' δ' b:=fun b z=>z.elim .inl fun z=>.inr (sub b z)
  refine ⟨k'.keep,k'.bd,k'.ith,by simp [hlen,hvs],fun i d e=>?_,fun i d e=>?_,fun i j a d d' e1 e2 e3 e4=>?_,fun p hm=>?_⟩
  ·have e':=someS_get.mp e
   have hi:i < ss.length:=by rw [← hlen]; exact (Wb.mp e').1
   have hv:i < vs.length:=by omega
   rcases hat i ss[i] (by simp [hi]) with ⟨d₁,z1,z2⟩ | ⟨d₁,d',z1,z2,z3⟩
   ·rw [e'] at z2; cases z2
    exact ⟨vs[i],by simp [hv],(hsl i d vs[i] (by rw [Wk hi,z1]) (by simp [hv])).anti fun b z=>.inl (subA' b z)⟩
   ·rw [e'] at z3; cases z3
  ·have e':=someS_get.mp e
   obtain ⟨⟨d₀,h0⟩,h1⟩:=ownS i d e'
   obtain ⟨a₀,h2,_⟩:=k.own i d₀ (someS_get.mpr h0)
   obtain ⟨a,h3,h4,h5⟩:=k'.own i d h1
   rw [pin i a₀ d₀ h0 (some'_get.mp h2)] at h3
   cases h3
   exact ⟨a₀,h2,h4.anti fun b z=>.inl (subA' b z),h5⟩
  ·obtain ⟨⟨d₀,h0⟩,h1⟩:=ownS i d (someS_get.mp e1)
   obtain ⟨⟨d₁,h2⟩,h3⟩:=ownS j d' (someS_get.mp e2)
   exact k'.inj i j a d d' h1 h3 (pin i a d₀ h0 (some'_get.mp e3)) (pin j a d₁ h2 (some'_get.mp e4))
  ·exact k.pinned p (by rw [← ep]; exact hm)
 have slots:∀ (i:Nat) d v,ss[i]? = some (.pure d)→vs[i]? = some v→Rep H' (Av c σ' δ') v d:=fun i d v h1 h2=>by
  obtain ⟨w,e1,r⟩:=(k.ext n).slot i d (z2t (someS_get.mpr h1))
  rw [z2t (some'_get.mpr h2)] at e1
  cases e1
  exact Rep.aft r x
 refine ⟨⟨okO rfl x.ok (fun _ z=>z) slots,fun a o e m=>x.keep a o e fun z=>m (Own.ext.mp z),fun a z=>(x.own a (sub a z)).elim (fun z=>.inl (Own.ext.mp z)) .inr,x.there⟩,fun v r hr=>?_⟩
 cases r with
 | pure d=>exact Rep.anti hr fun b z=>.inl (subA b z)
 | own d =>
  obtain ⟨a,ea,o,nb,h0,kp,hs⟩:=hr
  refine ⟨a,ea,o.anti fun b z=>.inl (z.elim .inl fun z=>.inr (sub b z)),nb,h0,okO rfl kp (fun _ z=>.inl z) fun i d v h1 h2=>?_,hs⟩
  obtain ⟨w,e1,r⟩:=(k.ext n).slot i d (z2t (someS_get.mpr h1))
  rw [z2t (some'_get.mpr h2)] at e1
  cases e1
  have hHa:H a=none:=hs
  have r1:Rep H (Av c (z0Z vs ++ Wa n none) (z11 ss ++ Wa n none)) v d:=r
  have r2:Rep H (fun b=>Av c (z0Z vs ++ Wa n none) (z11 ss ++ Wa n none) b∨Av (c.plus a) σ' δ' b) v d:=r1.anti fun b z=>by
   rcases z with z | (z | z) | z
   ·exact .inl z
   ·exact .inl (.inl z)
   ·exact .inr (by rw [z]; exact hHa)
   ·rcases x.own b z with q | q
    ·exact .inl (.inr q)
    ·exact .inr q
  exact (r2.keep fun b o e m=>x.keep b o e fun z=>m (.inl (.inr z))).anti fun b z=>.inl (.inr z)
end
section
variable {P:Wj} {w:Wp} {K:W2} {mg:Str→Option Value} {base:Heap}
theorem zfm {x qual:Str} {st:Stmt} {f:Addr} {fd:WM} {N ps:List Str} {k:Nat} {np:List Nat} {fb:DS} {G:DF} (F:Fun K x qual st f fd) (S:FnScope N ps (z02 st))
  (hbody:∀ (c:Fc) (cdv:Value) (A:Wn) (outer:List Env) (s:W1) (H:Hp) (E:XK),Room k (A.deeper (J5 qual (z02 st) s.heap.objs.size f cdv))→Np c np→SSs (cxOf CX0 P w K mg base N qual (z02 st) f cdv A outer s H E).nox c (z13 st) fb)
  (hG:∀ ss y,G ss=some y→ioOk np 0 ss=true∧runD fb N.length ss=some y):FnOk P w K mg base CX0 (k + 1) f fd ps (spD ps.length G):=by
 refine F.ok S (fun vs H Q E h=>?_) fun cdv A outer s H vs Q E hr h=>?_
 ·obtain ⟨ss,B,hl,_⟩:=h
  exact hl
 ·obtain ⟨ss,B,hl,ok,r,outs,hg,q⟩:=h
  obtain ⟨hio,hrun⟩:=hG ss _ hg
  have hvs:ss.length=vs.length:=by have:=ok.len; simpa using this
  have np':Np ⟨H,B,z0t 0 ss vs,fun _ _=>False⟩ np:=fun p hp=>by
   obtain ⟨j,d,e,h1,_⟩:=z1n (i:=p.1) (a:=p.2) hp
   rw [e]
   exact z5Z hio h1
  refine ⟨tDS ⟨H,B,z0t 0 ss vs,fun _ _=>False⟩ fb,hbody ⟨H,B,z0t 0 ss vs,fun _ _=>False⟩ cdv A outer s H E hr np',?_⟩
  have hst:start N vs=z0Z vs ++ Wa (N.length - ss.length) none:=by rw [hvs]; rfl
  refine ⟨z0j N.length ss,by rw [hst]; exact ok.ext _,?_⟩
  unfold runD at hrun
  unfold z2r
  cases e:fb (z0j N.length ss) with
  | exc x δx=>rw [e] at hrun; cases hrun
  | stuck=>rw [e] at hrun; cases hrun
  | ok fl δ' =>
   rw [e] at hrun
   show ∀ σ' H',Aft _ (start N vs) (z0j N.length ss) H σ' δ' H'→fin _ _ σ' δ' H' fl
   intro σ' H' a
   rw [hst] at a
   simp only at hrun
   cases fl with
   | brk=>cases hrun
   | cont=>cases hrun
   | next =>
    simp only [z0T,WC] at hrun
    cases eo:z0d 0 ss δ' with
    | none=>rw [eo] at hrun; cases hrun
    | some os =>
     rw [eo] at hrun
     cases hrun
     obtain ⟨l1,l2⟩:=z6D rfl ok a eo
     exact q .non H' l1 .non
   | ret r' =>
    simp only [z0T,WC] at hrun
    cases eo:z0d 0 ss δ' with
    | none=>rw [eo] at hrun; cases hrun
    | some os =>
     rw [eo] at hrun
     cases hrun
     obtain ⟨l1,l2⟩:=z6D rfl ok a eo
     exact fun v rv=>q v H' l1 (l2 v _ rv)
theorem z1B {x qual:Str} {st:Stmt} {f:Addr} {fd:WM} {N ps:List Str} {k:Nat} {np:List Nat} {fb:DS} {G:DF} (F:Fun K x qual st f fd) (hm:mg x=some (.ref f)) (hb:Binds K fd ps []) (S:FnScope N ps (z02 st))
  (hbody:∀ (c:Fc) (cdv:Value) (A:Wn) (outer:List Env) (s:W1) (H:Hp) (E:XK),Room k (A.deeper (J5 qual (z02 st) s.heap.objs.size f cdv))→Np c np→SSs (cxOf CX0 P w K mg base N qual (z02 st) f cdv A outer s H E).nox c (z13 st) fb)
  (hG:∀ ss y,G ss=some y→ioOk np 0 ss=true∧runD fb N.length ss=some y):KFn P w K mg base (k + 1) x ps.length G:=⟨f,fd,ps,hm,F.kp,hb,zfm F S hbody hG⟩
end
inductive Ak where
 | val (f:DE)
 | io (i:Nat)
def evX:List Ak→Dl→Rs (List (Option D))
 | [],δ=>.ok [] δ
 | .val f :: r,δ=>(f δ).bind fun x δ1=>(evX r δ1).bind fun xs δ2=>.ok (some x.d :: xs) δ2
 | .io _ :: r,δ=>(evX r δ).bind fun xs δ2=>.ok (none :: xs) δ2
inductive ArgR (c:Fc) (σ:St) (δ:Dl) (H:Hp):List V→List Ak→List (Option D)→Prop
 | nil:ArgR c σ δ H [] [] []
 | val {v:V} {d:D} {f:DE} {vs:List V} {as:List Ak} {ds:List (Option D)}:Rep H (Av c σ δ) v d→ArgR c σ δ H vs as ds→ArgR c σ δ H (v :: vs) (.val f :: as) (some d :: ds)
 | io {v:V} {i:Nat} {vs:List V} {as:List Ak} {ds:List (Option D)}:σ[i]? = some (some v)→ArgR c σ δ H vs as ds→ArgR c σ δ H (v :: vs) (.io i :: as) (none :: ds)
def tX (c:Fc) (as:List Ak):TA:=fun σ H Q=>∃ δ,Ok c σ δ H∧(∀ i,Ak.io i ∈ as→∃ v,σ[i]? = some (some v))∧post c (evX as δ) fun ds δ'=>∀ vs H',Aft c σ δ H σ δ' H'→ArgR c σ δ' H' vs as ds→Q vs H'
abbrev SX (X:Cx) (c:Fc) (es:List Expr) (as:List Ak):Prop:=PA X es (tX c as)
section
variable {X:Cx} {c:Fc} {e:Expr} {es:List Expr} {fe:DE} {as:List Ak} {pos pp:Pos}
theorem z0w:SX X c [] []:=PA.weak z1K fun σ H Q ⟨δ,k,_,q⟩=>q [] H (.refl k) .nil
theorem ze0 (ha:SE X c e fe) (hr:SX X c es as) (hs:W6 (e :: es) X.env=(false,eval e X.env) :: W6 es X.env:=by rfl):SX X c (e :: es) (.val fe :: as):=PA.weak (z0V ha hr hs) fun σ H Q ⟨δ,k,hio,q⟩=>by
 unfold evX at q
 rw [z03] at q
 refine ⟨δ,k,z00 q fun x δ1 q1 v H1 a1 r1=>⟨δ1,a1.ok,fun i hi=>hio i (Wc _ hi),?_⟩⟩
 rw [z03] at q1
 exact z00 q1 fun xs δ2 q2 vs H2 a2 r2=>q2 (v :: vs) H2 (a1.trans a2) (.val (Rep.aft r1.rep a2) r2)
theorem sx_io (ha:PE X e (tVar i)) (hr:SX X c es as) (hs:W6 (e :: es) X.env=(false,eval e X.env) :: W6 es X.env:=by rfl):SX X c (e :: es) (.io i :: as):=PA.weak (z0V ha hr hs) fun σ H Q ⟨δ,k,hio,q⟩=>by
 obtain ⟨v,ev⟩:=hio i Wm
 unfold evX at q
 rw [z03] at q
 exact ⟨v,ev,δ,k,fun i hi=>hio i (Wc _ hi),z00 q fun xs δ2 q2 vs H2 a2 r2=>q2 (v :: vs) H2 a2 (.io ev r2)⟩
end
def mkA:List Ak→List (Option D)→Dl→Option (List S)
 | [],[],_=>some []
 | .val _ :: as,some d :: ds,δ=>(mkA as ds δ).map (.pure d :: ·)
 | .io i :: as,none :: ds,δ=>match δ[i]? with
  | some (some (.own d))=>(mkA as ds δ).map (.own d :: ·)
  | _=>none
 | _,_,_=>none
def ios:List Ak→List Nat
 | []=>[]
 | .val _ :: as=>ios as
 | .io i :: as=>i :: ios as
def putA:List Ak→List S→Dl→Dl
 | .io i :: as,r :: rs,δ=>putA as rs (δ.set i (some r))
 | .val _ :: as,_ :: rs,δ=>putA as rs δ
 | _,_,δ=>δ
def ndup:List Nat→Bool
 | []=>true
 | i :: r=>!r.contains i && ndup r
def z05 (G:DF) (as:List Ak):DE:=fun δ=>if (ios as).all (z0J δ) && ndup (ios as) then (evX as δ).bind fun ds δ1=>match mkA as ds δ1 with
  | none=>.stuck
  | some ss=>match G ss with
   | none=>.stuck
   | some (r,outs)=>.ok r (putA as outs δ1)
 else .stuck
theorem z38:∀ {l:List Nat},ndup l=true→l.Nodup
 | [],_=>.nil
 | i :: r,h=>by
  simp only [ndup,Wh,Qg] at h
  exact WD.mpr ⟨fun hm=>by have:=h.1; simp at this; exact this hm,z38 h.2⟩
theorem ios_mem:∀ {as:List Ak} {i:Nat},i ∈ ios as ↔ Ak.io i ∈ as
 | [],i=>by simp [ios]
 | .val f :: as,i=>by simp [ios,ios_mem (as:=as)]
 | .io j :: as,i=>by simp [ios,ios_mem (as:=as)]
theorem za0:∀ {as:List Ak} {i j k:Nat},(ios as).Nodup→as[j]? = some (.io i)→as[k]? = some (.io i)→j=k
 | [],i,j,k,_,h,_=>by simp at h
 | .val f :: as,i,j,k,nd,h1,h2=>by
  cases j with
  | zero=>simp at h1
  | succ j =>
   cases k with
   | zero=>simp at h2
   | succ k=>exact congrArg (· + 1) (za0 (as:=as) nd (by simpa using h1) (by simpa using h2))
 | .io n :: as,i,j,k,nd,h1,h2=>by
  have nd':=WD.mp nd
  cases j with
  | zero =>
   simp at h1
   subst h1
   cases k with
   | zero=>rfl
   | succ k=>exact absurd (ios_mem.mpr (WI (by simpa using h2))) nd'.1
  | succ j =>
   cases k with
   | zero =>
    simp at h2
    subst h2
    exact absurd (ios_mem.mpr (WI (by simpa using h1))) nd'.1
   | succ k=>exact congrArg (· + 1) (za0 (as:=as) nd'.2 (by simpa using h1) (by simpa using h2))
section
variable {c:Fc} {σ:St} {δ:Dl} {H:Hp} {vs:List V} {as:List Ak} {ds:List (Option D)} {ss:List S}
theorem z6C (h:ArgR c σ δ H vs as ds):∀ {ss:List S},mkA as ds δ=some ss→ss.length=vs.length∧as.length=vs.length∧∀ (j:Nat) s v,ss[j]? = some s→vs[j]? = some v →
  (∃ d f,s = .pure d∧as[j]? = some (.val f)∧Rep H (Av c σ δ) v d)∨∃ d i,s = .own d∧as[j]? = some (.io i)∧σ[i]? = some (some v)∧δ[i]? = some (some (.own d)):=by
 induction h with
 | nil =>
  intro ss h
  simp only [mkA,W9] at h
  subst h
  exact ⟨rfl,rfl,fun j s v e _=>by simp at e⟩
 | @val v d f vs as ds r _ ih =>
  intro ss h
  simp only [mkA] at h
  cases e:mkA as ds δ with
  | none=>rw [e] at h; cases h
  | some rs =>
   rw [e] at h
   simp only [WV,W9] at h
   subst h
   obtain ⟨h1,h2,h3⟩:=ih e
   refine ⟨by simp [h1],by simp [h2],fun j s v' e1 e2=>?_⟩
   cases j with
   | zero=>simp at e1 e2; subst e1 e2; exact .inl ⟨d,f,rfl,rfl,r⟩
   | succ j=>simpa using h3 j s v' (by simpa using e1) (by simpa using e2)
 | @io v i vs as ds ev _ ih =>
  intro ss h
  simp only [mkA] at h
  split at h
  ·rename_i d ed
   cases e:mkA as ds δ with
   | none=>rw [e] at h; cases h
   | some rs =>
    rw [e] at h
    simp only [WV,W9] at h
    subst h
    obtain ⟨h1,h2,h3⟩:=ih e
    refine ⟨by simp [h1],by simp [h2],fun j s v' e1 e2=>?_⟩
    cases j with
    | zero=>simp at e1 e2; subst e1 e2; exact .inr ⟨d,i,rfl,rfl,ev,ed⟩
    | succ j=>simpa using h3 j s v' (by simpa using e1) (by simpa using e2)
  ·cases h
theorem z5P:∀ (as:List Ak) (rs:List S) (δ:Dl),(putA as rs δ).length=δ.length
 | [],rs,δ=>by simp [putA]
 | .val f :: as,[],δ=>by simp [putA]
 | .io i :: as,[],δ=>by simp [putA]
 | .val f :: as,r :: rs,δ=>by simp [putA,z5P as rs δ]
 | .io i :: as,r :: rs,δ=>by simp [putA,z5P as rs]
theorem z3E:∀ (as:List Ak) (rs:List S) (δ:Dl) (i:Nat),i ∉ ios as→(putA as rs δ)[i]? = δ[i]?
 | [],rs,δ,i,_=>by simp [putA]
 | .val f :: as,[],δ,i,_=>by simp [putA]
 | .io j :: as,[],δ,i,_=>by simp [putA]
 | .val f :: as,r :: rs,δ,i,h=>by rw [putA]; exact z3E as rs δ i h
 | .io j :: as,r :: rs,δ,i,h=>by
  simp only [ios,Wg,not_or] at h
  rw [putA,z3E as rs _ i h.2,W7 (Ne.symm h.1)]
theorem z5Q:∀ (as:List Ak) (rs:List S) (δ:Dl) (i j:Nat) (r:S),(ios as).Nodup→as[j]? = some (.io i)→rs[j]? = some r→i < δ.length→(putA as rs δ)[i]? = some (some r)
 | [],rs,δ,i,j,r,_,h,_,_=>by simp at h
 | a :: as,[],δ,i,j,r,_,_,h,_=>by simp at h
 | .val f :: as,r0 :: rs,δ,i,j,r,nd,h1,h2,hi=>by
  cases j with
  | zero=>simp at h1
  | succ j=>rw [putA]; exact z5Q as rs δ i j r nd (by simpa using h1) (by simpa using h2) hi
 | .io k :: as,r0 :: rs,δ,i,j,r,nd,h1,h2,hi=>by
  have nd':=WD.mp nd
  cases j with
  | zero =>
   simp at h1 h2
   subst h1 h2
   rw [putA,z3E as rs _ k nd'.1,Wt hi]
  | succ j=>rw [putA]; exact z5Q as rs _ i j r nd'.2 (by simpa using h1) (by simpa using h2) (by simpa using hi)
theorem z7v (k:Ok c σ δ H) (hr:ArgR c σ δ H vs as ds) (hm:mkA as ds δ=some ss) (nd:(ios as).Nodup) :
  Ok ⟨H,fun a=>Av c σ δ a∧¬ ∃ (j:Nat) (d:D),ss[j]? = some (S.own d)∧vs[j]? = some (V.ref a),z0t 0 ss vs,fun _ _=>False⟩ (z0Z vs) (z11 ss) H:=by
 obtain ⟨h1,h2,h3⟩:=z6C hr hm
 have at':∀ (j:Nat) s,ss[j]? = some s→∃ v,vs[j]? = some v:=fun j s e=>by
  have:j < vs.length:=by rw [← h1]; exact (Wb.mp e).1
  exact ⟨vs[j],by simp [this]⟩
 have ownE:∀ a,Own (z0Z vs) (z11 ss) a ↔ ∃ (j:Nat) (d:D),ss[j]? = some (S.own d)∧vs[j]? = some (V.ref a):=fun a =>
  ⟨fun ⟨j,d,e1,e2⟩=>⟨j,d,someS_get.mp e1,some'_get.mp e2⟩,fun ⟨j,d,e1,e2⟩=>⟨j,d,someS_get.mpr e1,some'_get.mpr e2⟩⟩
 have own2:∀ a,Own (z0Z vs) (z11 ss) a→Own σ δ a:=fun a z=>by
  obtain ⟨j,d,e1,e2⟩:=(ownE a).mp z
  rcases h3 j _ _ e1 e2 with ⟨d',f,e,_⟩ | ⟨d',i,e,_,es,ed⟩
  ·cases e
  ·exact ⟨i,d',ed,es⟩
 have sub:∀ a,Av ⟨H,fun a=>Av c σ δ a∧¬ ∃ (j:Nat) (d:D),ss[j]? = some (S.own d)∧vs[j]? = some (V.ref a),z0t 0 ss vs,fun _ _=>False⟩ (z0Z vs) (z11 ss) a→Av c σ δ a:=fun a z=>z.elim (fun z=>z.1) fun z=>.inr (own2 a z)
 refine ⟨fun a o e _=>e,fun a z=>k.avthere z.1,fun a ⟨i,hi⟩=>?_,by simp [h1],fun j d e=>?_,fun j d e=>?_,fun i j a d d' e1 e2 e3 e4=>?_,fun p hp=>?_⟩
 ·obtain ⟨j,d,_,e1,e2⟩:=z1n hi
  exact k.othere (own2 a ((ownE a).mpr ⟨j,d,e1,e2⟩))
 ·have e':=someS_get.mp e
  obtain ⟨v,ev⟩:=at' j _ e'
  rcases h3 j _ v e' ev with ⟨d',f,e,_,r⟩ | ⟨d',i,e,_⟩
  ·cases e
   exact ⟨v,some'_get.mpr ev,r.anti fun b z=>.inl (sub b z)⟩
  ·cases e
 ·have e':=someS_get.mp e
  obtain ⟨v,ev⟩:=at' j _ e'
  rcases h3 j _ v e' ev with ⟨d',f,e,_,r⟩ | ⟨d',i,e,_,es,ed⟩
  ·cases e
  ·cases e
   obtain ⟨a,g1,g2,g3⟩:=k.own i d ed
   rw [es] at g1
   cases g1
   refine ⟨a,some'_get.mpr ev,g2.anti fun b z=>.inl (sub b z),.inl ⟨0 + j,z3G e' ev⟩,fun z=>z.2 ⟨j,d,e',ev⟩⟩
 ·have f1:=someS_get.mp e1
  have f2:=someS_get.mp e2
  rcases h3 i _ _ f1 (some'_get.mp e3) with ⟨_,_,e,_⟩ | ⟨d1,i1,e,a1,s1,x1⟩
  ·cases e
  ·rcases h3 j _ _ f2 (some'_get.mp e4) with ⟨_,_,e',_⟩ | ⟨d2,i2,e',a2,s2,x2⟩
   ·cases e'
   ·have:=k.inj i1 i2 a d1 d2 x1 x2 s1 s2
    subst this
    exact za0 nd a1 a2
 ·obtain ⟨j,d,e,e1,e2⟩:=z1n (i:=p.1) (a:=p.2) hp
  rw [WX] at e
  rw [e]
  exact some'_get.mpr e2
theorem z4u (k:Ok c σ δ H) (hr:ArgR c σ δ H vs as ds) (hm:mkA as ds δ=some ss) (nd:(ios as).Nodup) (hB:B=fun a=>Av c σ δ a∧¬ ∃ (j:Nat) (d:D),ss[j]? = some (S.own d)∧vs[j]? = some (V.ref a))
  (x:Aft ⟨H,B,z0t 0 ss vs,fun _ _=>False⟩ (z0Z vs) (z11 ss) H (z0Z vs) (z11 outs) H') (hio:∀ (j:Nat) d,ss[j]? = some (.own d)→∃ d',outs[j]? = some (.own d')) (hpo:∀ (j:Nat) d,ss[j]? = some (.pure d)→∃ d',outs[j]? = some (.pure d')) :
  Aft c σ δ H σ (putA as outs δ) H'∧∀ v r,RepS ⟨H,B,z0t 0 ss vs,fun _ _=>False⟩ (z0Z vs) (z11 outs) H H' v r→RepS c σ (putA as outs δ) H H' v r:=by
 obtain ⟨h1,h2,h3⟩:=z6C hr hm
 have inIdx:∀ i,i ∈ ios as→∃ (j:Nat) (d:D) (a:Addr),as[j]? = some (.io i)∧ss[j]? = some (.own d)∧vs[j]? = some (.ref a)∧σ[i]? = some (some (.ref a))∧δ[i]? = some (some (.own d)):=fun i hi=>by
  obtain ⟨j,hj,ej⟩:=List.mem_iff_getElem.mp (ios_mem.mp hi)
  have hv:j < vs.length:=by omega
  have hs:j < ss.length:=by omega
  have ej':as[j]? = some (.io i):=by rw [Wk hj,ej]
  rcases h3 j ss[j] vs[j] (by simp [hs]) (by simp [hv]) with ⟨d,f,e,a1,_⟩ | ⟨d,i',e,a1,s1,x1⟩
  ·rw [ej'] at a1; cases a1
  ·rw [ej'] at a1; cases a1
   obtain ⟨a,g1,_⟩:=k.own i d x1
   rw [s1] at g1
   have g2:vs[j] = .ref a:=by
    have:=Ww g1
    exact Ww this
   exact ⟨j,d,a,ej',by rw [Wk hs,e],by rw [Wk hv,g2],by rw [s1,g2],x1⟩
 have passed:∀ a,(∃ (j:Nat) (d:D),ss[j]? = some (S.own d)∧vs[j]? = some (V.ref a))→Own σ δ a:=fun a ⟨j,d,e1,e2⟩=>by
  rcases h3 j _ _ e1 e2 with ⟨d',f,e,_⟩ | ⟨d',i,e,_,es,ed⟩
  ·cases e
  ·exact ⟨i,d',ed,es⟩
 have Iiff:∀ a,(⟨H,B,z0t 0 ss vs,fun _ _=>False⟩:Fc).I a ↔ ∃ (j:Nat) (d:D),ss[j]? = some (S.own d)∧vs[j]? = some (V.ref a):=fun a =>
  ⟨fun ⟨i,hi⟩=>by obtain ⟨j,d,_,e1,e2⟩:=z1n hi; exact ⟨j,d,e1,e2⟩,fun ⟨j,d,e1,e2⟩=>⟨0 + j,z3G e1 e2⟩⟩
 have ownIn:∀ a,Own (z0Z vs) (z11 ss) a→∃ (j:Nat) (d:D),ss[j]? = some (S.own d)∧vs[j]? = some (V.ref a):=fun a ⟨j,d,e1,e2⟩=>⟨j,d,someS_get.mp e1,some'_get.mp e2⟩
 -- the owned addresses are the same
 have slotP:∀ (i:Nat) (d:D),(putA as outs δ)[i]? = some (some (.own d))→(i ∉ ios as∧δ[i]? = some (some (.own d)))∨(i ∈ ios as∧∃ (j:Nat) (d0:D) (a:Addr),as[j]? = some (.io i)∧ss[j]? = some (.own d0)∧vs[j]? = some (.ref a)∧σ[i]? = some (some (.ref a))∧outs[j]? = some (.own d)):=fun i d e=>by
  by_cases hi:i ∈ ios as
  ·right
   obtain ⟨j,d0,a,a1,a2,a3,a4,a5⟩:=inIdx i hi
   obtain ⟨d',ed'⟩:=hio j d0 a2
   have hlt:i < δ.length:=(Wb.mp a5).1
   have:=z5Q as outs δ i j (.own d') nd a1 ed' hlt
   rw [e] at this
   cases this
   exact ⟨hi,j,d0,a,a1,a2,a3,a4,ed'⟩
  ·rw [z3E as outs δ i hi] at e
   exact .inl ⟨hi,e⟩
 have own_sub:∀ b,Own σ (putA as outs δ) b→Own σ δ b:=fun b ⟨i,d,e1,e2⟩=>by
  rcases slotP i d e1 with ⟨_,e⟩ | ⟨hi,j,d0,a,_,a2,a3,a4,_⟩
  ·exact ⟨i,d,e,e2⟩
  ·rw [e2] at a4
   have:b=a:=by injection (Ww (Ww a4))
   subst this
   exact passed b ⟨j,d0,a2,a3⟩
 have pureP:∀ (i:Nat) (d:D),(putA as outs δ)[i]? = some (some (.pure d))→i ∉ ios as∧δ[i]? = some (some (.pure d)):=fun i d e=>by
  by_cases hi:i ∈ ios as
  ·obtain ⟨j,d0,a,a1,a2,a3,a4,a5⟩:=inIdx i hi
   obtain ⟨d',ed'⟩:=hio j d0 a2
   have hlt:i < δ.length:=(Wb.mp a5).1
   have:=z5Q as outs δ i j (.own d') nd a1 ed' hlt
   rw [e] at this
   cases this
  ·rw [z3E as outs δ i hi] at e
   exact ⟨hi,e⟩
 have kpAv:∀ a o,H a=some o→¬ Av c σ δ a→H' a=some o:=fun a o e n=>x.keep a o e fun z=>n (.inr (passed a (ownIn a z)))
 have subA:∀ b,Av c σ (putA as outs δ) b→Av c σ δ b:=fun b z=>z.elim .inl fun z=>.inr (own_sub b z)
 -- the callee's set holds ours
 have big:∀ {c':Fc},c'.B=B→∀ b,Av c σ δ b→Av c' (z0Z vs) (z11 outs) b:=fun {c'} hB' b z=>by
  by_cases hp:∃ (j:Nat) (d:D),ss[j]? = some (S.own d)∧vs[j]? = some (V.ref b)
  ·obtain ⟨j,d,e1,e2⟩:=hp
   obtain ⟨d',ed'⟩:=hio j d e1
   exact .inr ⟨j,d',someS_get.mpr ed',some'_get.mpr e2⟩
  ·exact .inl (by rw [hB',hB]; exact ⟨z,hp⟩)
 have okc:∀ (c1 c2:Fc),c1.H₀=c.H₀→c1.pin=c.pin→(∀ b,c1.B b→c.B b∨(c2.B b∧H b=none))→c2.pin=z0t 0 ss vs→(∀ b,B b→c2.B b)→Ok c2 (z0Z vs) (z11 outs) H'→(∀ b,c1.B b→∃ o,H' b=some o)→Ok c1 σ (putA as outs δ) H':=fun c1 c2 e0 e1 e2 e3 e4 k2 hex=>by
  have sub1:∀ b,Av c1 σ (putA as outs δ) b→Av c σ δ b∨H b=none:=fun b z=>by
   rcases z with z | z
   ·rcases e2 b z with z | ⟨_,z⟩
    ·exact .inl (.inl z)
    ·exact .inr z
   ·exact .inl (.inr (own_sub b z))
  have sub2:∀ b,Av c1 σ (putA as outs δ) b→Av c2 (z0Z vs) (z11 outs) b:=fun b z=>by
   have bg:∀ b,Av c σ δ b→Av c2 (z0Z vs) (z11 outs) b:=fun b z=>by
    by_cases hp:∃ (j:Nat) (d:D),ss[j]? = some (S.own d)∧vs[j]? = some (V.ref b)
    ·obtain ⟨j,d,e1,e2⟩:=hp
     obtain ⟨d',ed'⟩:=hio j d e1
     exact .inr ⟨j,d',someS_get.mpr ed',some'_get.mpr e2⟩
    ·exact .inl (e4 b (by rw [hB]; exact ⟨z,hp⟩))
   rcases z with z | z
   ·rcases e2 b z with z | ⟨z,_⟩
    ·exact bg b (.inl z)
    ·exact .inl z
   ·exact bg b (.inr (own_sub b z))
  have kp':∀ {v:V} {d:D},Rep H (Av c σ δ) v d→Rep H' (Av c1 σ (putA as outs δ)) v d:=fun {v d} r=>by
   have r1:Rep H (fun b=>Av c σ δ b∨Av c1 σ (putA as outs δ) b) v d:=r.anti fun b z=>z.elim .inl (sub1 b)
   exact (r1.keep fun b o e n=>kpAv b o e fun z=>n (.inl z)).anti fun b z=>.inl (.inr z)
  refine ⟨fun a o e n=>?_,hex,fun a z=>?_,by rw [z5P]; exact k.len,fun i d e=>?_,fun i d e=>?_,fun i j a d d' f1 f2 f3 f4=>?_,by rw [e1]; exact k.pinned⟩
  ·rw [e0] at e
   have n':¬ c.I a:=fun z=>n (by unfold Fc.I at z ⊢; rw [e1]; exact z)
   refine x.keep a o (k.keep a o e n') fun z=>?_
   obtain ⟨i,d,g1,g2⟩:=passed a (ownIn a z)
   obtain ⟨a',g3,_,g4,_⟩:=k.own i d g1
   rw [g2] at g3; cases g3
   rcases g4 with g4 | g4
   ·exact n' g4
   ·rw [g4] at e; cases e
  ·have z':c.I a:=by unfold Fc.I at z ⊢; rw [← e1]; exact z
   obtain ⟨o,e⟩:=k.ith a z'
   exact x.there a o e
  ·obtain ⟨hi,e'⟩:=pureP i d e
   obtain ⟨v,g1,g2⟩:=k.slot i d e'
   exact ⟨v,g1,kp' g2⟩
  ·rcases slotP i d e with ⟨hi,e'⟩ | ⟨hi,j,d0,a,b1,b2,b3,b4,b5⟩
   ·obtain ⟨a,g1,g2,g3,g4⟩:=k.own i d e'
    have na:¬ Own (z0Z vs) (z11 ss) a:=fun z=>by
     obtain ⟨j,d1,q1,q2⟩:=ownIn a z
     rcases h3 j _ _ q1 q2 with ⟨d',f,ee,_⟩ | ⟨d',i',ee,ai,es,ed⟩
     ·cases ee
     ·have:=k.inj i i' a d d' e' ed g1 es
      subst this
      exact hi (ios_mem.mpr (WI ai))
    have g2':OwnAt H' (Av c1 σ (putA as outs δ)) a d:=by
     have o1:OwnAt H (fun b=>Av c σ δ b∨Av c1 σ (putA as outs δ) b) a d:=g2.anti fun b z=>z.elim .inl (sub1 b)
     exact (o1.keep (fun b o e n=>kpAv b o e fun z=>n (.inl z)) fun o e=>x.keep a o e na).anti fun b z=>.inl (.inr z)
    refine ⟨a,g1,g2',by unfold Fc.I at g3 ⊢; rw [e0,e1]; exact g3,fun z=>?_⟩
    rcases e2 a z with z | ⟨_,z⟩
    ·exact g4 z
    ·obtain ⟨o,eo⟩:=g2.some
     rw [z] at eo; cases eo
   ·obtain ⟨a',g1,g2,g3,g4⟩:=k2.own j d (someS_get.mpr b5)
    rw [some'_get.mpr b3] at g1
    cases g1
    obtain ⟨i0,d1,q1,q2⟩:=passed a ⟨j,d0,b2,b3⟩
    obtain ⟨a'',q3,q4,q5,q6⟩:=k.own i0 d1 q1
    rw [q2] at q3; cases q3
    refine ⟨a,b4,g2.anti fun b z=>.inl (sub2 b z),by unfold Fc.I at q5 ⊢; rw [e0,e1]; exact q5,fun z=>?_⟩
    rcases e2 a z with z | ⟨_,z⟩
    ·exact q6 z
    ·obtain ⟨o,eo⟩:=q4.some
     rw [z] at eo; cases eo
  ·obtain ⟨d1,g1⟩:∃ d1,δ[i]? = some (some (.own d1)):=by
    rcases slotP i d f1 with ⟨_,e'⟩ | ⟨hi,_⟩
    ·exact ⟨d,e'⟩
    ·obtain ⟨_,d1,_,_,_,_,_,a5⟩:=inIdx i hi
     exact ⟨d1,a5⟩
   obtain ⟨d2,g2⟩:∃ d2,δ[j]? = some (some (.own d2)):=by
    rcases slotP j d' f2 with ⟨_,e'⟩ | ⟨hi,_⟩
    ·exact ⟨d',e'⟩
    ·obtain ⟨_,d1,_,_,_,_,_,a5⟩:=inIdx j hi
     exact ⟨d1,a5⟩
   exact k.inj i j a d1 d2 g1 g2 f3 f4
 have ok1:Ok c σ (putA as outs δ) H':=okc c ⟨H,B,z0t 0 ss vs,fun _ _=>False⟩ rfl rfl (fun b z=>.inl z) rfl (fun b z=>z) x.ok fun b z=>by
  obtain ⟨o,e⟩:=k.bd b z
  exact x.there b o e
 refine ⟨⟨ok1,fun a o e n=>x.keep a o e fun z=>n (passed a (ownIn a z)),fun a z=>.inl (own_sub a z),x.there⟩,fun v r hr=>?_⟩
 cases r with
 | pure d=>exact Rep.anti hr fun b z=>.inl (big rfl b (subA b z))
 | own d =>
  obtain ⟨a,ea,o,nb,h0,kp,hs⟩:=hr
  have hHa:H a=none:=hs
  have nav:¬ Av c σ δ a:=k.nav hHa
  refine ⟨a,ea,o.anti fun b z=>.inl ?_,fun z=>nav (.inl z),k.fresh₀ hHa,?_,hHa⟩
  ·rcases z with (z | z) | z
   ·exact (big rfl b (.inl z)).elim (fun z=>.inl (.inl z)) .inr
   ·exact .inl (.inr z)
   ·exact (big rfl b (.inr (own_sub b z))).elim (fun z=>.inl (.inl z)) .inr
  ·refine okc (c.plus a) (Fc.plus ⟨H,B,z0t 0 ss vs,fun _ _=>False⟩ a) rfl rfl (fun b z=>?_) rfl (fun b z=>.inl z) kp fun b z=>?_
   ·rcases z with z | z
    ·exact .inl z
    ·exact .inr ⟨.inr z,by rw [z]; exact hHa⟩
   ·rcases z with z | z
    ·obtain ⟨o,e⟩:=k.bd b z
     exact x.there b o e
    ·rw [z]; exact o.some
end
def z1J (G:DF):Prop:=∀ ss r outs,G ss=some (r,outs)→outs.length=ss.length∧∀ (j:Nat),(∀ d,ss[j]? = some (.own d)→∃ d',outs[j]? = some (.own d'))∧∀ d,ss[j]? = some (.pure d)→∃ d',outs[j]? = some (.pure d')
theorem z8m (hG:∀ ss y,G ss=some y→runD fb n ss=some y):z1J G:=fun ss r outs h=>by
 have:=hG ss _ h
 unfold runD at this
 cases e:fb (z0j n ss) with
 | exc x δx=>rw [e] at this; cases this
 | stuck=>rw [e] at this; cases this
 | ok fl δ =>
  rw [e] at this
  simp only at this
  cases e1:z0T fl with
  | none=>rw [e1] at this; cases this
  | some r' =>
   rw [e1] at this
   simp only [WC] at this
   cases e2:z0d 0 ss δ with
   | none=>rw [e2] at this; cases this
   | some os =>
    rw [e2] at this
    cases this
    obtain ⟨h1,h2⟩:=z4L e2
    refine ⟨h1,fun j=>⟨fun d ed=>?_,fun d ed=>?_⟩⟩
    ·rcases h2 j _ ed with ⟨d',z,_⟩ | ⟨d',d'',_,_,z⟩
     ·cases z
     ·exact ⟨d'',z⟩
    ·rcases h2 j _ ed with ⟨d',z,z'⟩ | ⟨d',d'',z,_⟩
     ·exact ⟨d',z'⟩
     ·cases z
section
variable {X:Cx} {c:Fc} {e:Expr} {es:List Expr} {as:List Ak} {k n:Nat} {x:Str} {G:DF} {pp pos:Pos}
theorem z6U {ps:List Str} (hK:z1J G) {σ:St} {H:Hp} {Q:VK} (hl:as.length=n) (h:tD c (z05 G as) σ H Q):zcz (spD n G) [] E0 (tX c as) σ H Q:=by
 obtain ⟨δ,kk,q⟩:=h
 unfold z05 at q
 split at q
 ·rename_i hc
  rw [Wh] at hc
  have nd:=z38 hc.2
  rw [z03] at q
  refine ⟨δ,kk,fun i hi=>?_,z00 q fun ds δ1 q1 vs H1 a1 r1=>?_⟩
  ·have:=Q3.mp hc.1 i (ios_mem.mpr hi)
   unfold z0J at this
   split at this
   ·rename_i d ed
    exact z2i kk ed
   ·cases this
  ·cases em:mkA as ds δ1 with
   | none=>rw [em] at q1; exact q1.elim
   | some ss =>
    rw [em] at q1
    simp only at q1
    cases eg:G ss with
    | none=>rw [eg] at q1; exact q1.elim
    | some y =>
     obtain ⟨r,outs⟩:=y
     rw [eg] at q1
     have hin:=z7v a1.ok r1 em nd
     obtain ⟨m1,m2,_⟩:=z6C r1 em
     obtain ⟨g1,g2⟩:=hK ss r outs eg
     refine ⟨ss,_,by rw [WN,← m2]; exact hl,by rw [WN]; exact hin,r,outs,eg,fun v H2 a2 r2=>?_⟩
     rw [WN] at a2 r2
     obtain ⟨o1,o2⟩:=z4u a1.ok r1 em nd rfl a2 (fun j d ed=>(g2 j).1 d ed) fun j d ed=>(g2 j).2 d ed
     exact q1 v H2 (a1.trans o1) (RepS.back (o2 v r r2) a1)
 ·exact q.elim
theorem z0r (F:KFn X.prog X.w X.K X.mg X.base k x n G) (hK:z1J G) (hr:Room k X.A) (hg:Gl X x) (ha:SX X c (e :: es) as) (hl:as.length=n) (hdb:(x == ("__debug__" : Str))=false:=by decide)
  (he:W6 (e :: es) X.env=(false,eval e X.env) :: W6 es X.env:=by rfl) (hpl:(WZ pos (W6 es X.env)).any (·.1)=false:=by rfl):SE X c (.Call (.Name x pp) (e :: es) [] pos) (z05 G as):=by
 obtain ⟨f,fd,ps,hm,hk,hb,ok⟩:=F
 exact PE.weak (zdd ok hr hg hm hk hb .nil pass0 ha hdb he hpl) fun σ H Q h=>z6U (ps:=ps) hK hl h
end
def gOf (np:List Nat) (n:Nat) (b:DS):DF:=fun ss=>if ioOk np 0 ss then runD b n ss else none
theorem z0W (h:gOf np n b ss=some y):ioOk np 0 ss=true∧runD b n ss=some y:=by
 unfold gOf at h
 split at h
 ·rename_i hi; exact ⟨hi,h⟩
 ·cases h
theorem z0u:z1J (gOf np n b):=z8m fun _ _ h=>(z0W h).2
theorem z2l (r:Room k A):A.units + 64 < Qt:=by have:=r.un; omega
theorem z26 {c:Fc} {np cs:List Nat} (h:Np c np) (hc:cs.all (fun i=>!np.contains i)=true):∀ p ∈ c.pin,p.1 ∉ cs:=fun p hp z=>by
 have h1:=h p hp
 have h2:=Q3.mp hc p.1 z
 rw [h1] at h2
 cases h2
def ndS:List Str→Bool
 | []=>true
 | x :: r=>!r.contains x && ndS r
theorem zcb:∀ {l:List Str},ndS l=true→l.Nodup
 | [],_=>.nil
 | x :: r,h=>by
  simp only [ndS,Wh,Qg] at h
  exact WD.mpr ⟨fun hm=>by have:=h.1; simp at this; exact this hm,zcb h.2⟩
def z3Z (names:List (Str×NameKind)) (x:Str) (k:NameKind):Bool:=match names.lookup x with
 | some j=>j == k
 | none=>false
theorem z5Y (h:z3Z names x k=true):names.lookup x=some k:=by
 unfold z3Z at h
 split at h
 ·rename_i j e; rw [e,eq_of_beq h]
 ·cases h
def cscB (names:List (Str×NameKind)) (N:List Str) (sc:List (Str×NameKind)) (cs:List Nat):Bool :=
 sc.all (fun x=>!(x.2 == .local) || z3Z sc x.1 .local) && sc.all (fun x=>!(x.2 == .free) || (z3Z names x.1 .cell || z3Z names x.1 .free)) && ndS (sc.map (·.1)) &&
 (Wz N.length).all fun i=>match N[i]? with
  | some x=>!(z3Z sc x .local || z3Z sc x .cell) || cs.contains i
  | none=>true
theorem z7Z (h:names.lookup x=some k):z3Z names x k=true:=by
 unfold z3Z; rw [h]; simp
theorem z0Q {X:Cx} {scope:Scope} {cs:List Nat} (hk:scope.kind = .function) (h:cscB X.env.scope.names X.N scope.names cs=true):CScope X scope cs:=by
 unfold cscB at h
 simp only [Wh] at h
 obtain ⟨⟨⟨h1,h2⟩,h3⟩,h4⟩:=h
 refine ⟨hk,fun x hx hl=>?_,fun x hx hf=>?_,zcb h3,fun i x hi hl=>?_⟩
 ·have:=Q3.mp h1 x hx
  rw [hl] at this
  exact z5Y (by simpa using this)
 ·have:=Q3.mp h2 x hx
  rw [hf] at this
  have:z3Z X.env.scope.names x.1 .cell=true∨z3Z X.env.scope.names x.1 .free=true:=by simpa using this
  exact this.elim (fun z=>.inl (z5Y z)) fun z=>.inr (z5Y z)
 ·have hil:i < X.N.length:=(Wb.mp hi).1
  have:=Q3.mp h4 i (Qd.mpr hil)
  rw [hi] at this
  have hl':(z3Z scope.names x .local || z3Z scope.names x .cell)=true:=by
   rcases hl with z | z
   ·rw [z7Z z]; rfl
   ·rw [z7Z z]; simp
  simp only [hl',Bool.not_true,Bool.false_or] at this
  simpa using this
theorem zcv {K:W2}:TyK K "int":=⟨rfl,rfl,rfl,rfl,rfl,rfl,rfl⟩
theorem zaP {K:W2}:TyK K "bool":=⟨rfl,rfl,rfl,rfl,rfl,rfl,rfl⟩
def z3Y:Expr→Bool
 | .Starred ..=>false
 | _=>true
theorem z4z (h:z3Y e=true):W6 (e :: es) env=(false,eval e env) :: W6 es env:=by
 cases e <;> first | (cases h; done) | rw [W6] | rfl
 all_goals (intros; contradiction)
section
variable {X:Cx} {c:Fc} {e:Expr} {es:List Expr} {f fe:DE} {g:DA} {as:List Ak}
theorem z01 (ha:SE X c e f) (hr:SA X c es g) (hs:z3Y e=true:=by rfl):SA X c (e :: es) (z04 f g):=z9a ha hr (z4z hs)
theorem z09 (ha:SE X c e fe) (hr:SX X c es as) (hs:z3Y e=true:=by rfl):SX X c (e :: es) (.val fe :: as):=ze0 ha hr (z4z hs)
theorem z1y {i:Nat} (ha:PE X e (tVar i)) (hr:SX X c es as) (hs:z3Y e=true:=by rfl):SX X c (e :: es) (.io i :: as):=sx_io ha hr (z4z hs)
end
mutual
def z3g:Nat→Expr→Option D
 | _,.Constant (.int i) _ _=>some (.int i)
 | _,.Constant (.bool b) _ _=>some (.bl b)
 | _,.Constant .none _ _=>some .non
 | _,.Constant (.str x) _ _=>some (.str x.cps.toList)
 | n + 1,.Tuple es _ _=>if es.length≤1000 then (z3u n es).map .tup else none
 | _,_=>none
def z3u:Nat→List Expr→Option (List D)
 | _,[]=>some []
 | n,e :: es=>match z3g n e,z3u n es with
  | some d,some ds=>some (d :: ds)
  | _,_=>none
end
theorem z8G:∀ {n:Nat} {e:Expr} {d:D},z3g n e=some d→z3Y e=true:=fun {n e d} h=>by
 cases e <;> first | rfl | (cases n <;> simp [z3g] at h)
mutual
theorem z98:∀ {n:Nat} {e:Expr} {d:D},z3g n e=some d→SE X c e (eD d)
 | _,.Constant (.int i) _ _,d,h=>by
  simp only [z3g,W9] at h; subst h; exact z08
 | _,.Constant (.bool b) _ _,d,h=>by
  simp only [z3g,W9] at h; subst h; exact zcO
 | _,.Constant .none _ _,d,h=>by
  simp only [z3g,W9] at h; subst h; exact zbZ
 | _,.Constant (.str x) _ _,d,h=>by
  simp only [z3g,W9] at h; subst h; exact z2L _ (z7I x)
 | 0,.Tuple es k pos,d,h=>by simp [z3g] at h
 | n + 1,.Tuple es k pos,d,h=>by
  simp only [z3g] at h
  split at h
  ·rename_i hl
   cases e:z3u n es with
   | none=>rw [e] at h; cases h
   | some ds =>
    rw [e] at h
    simp only [WV,W9] at h
    subst h
    exact z17 (z4G e) hl
  ·cases h
theorem z4G:∀ {n:Nat} {es:List Expr} {ds:List D},z3u n es=some ds→SA X c es (fun δ=>.ok ds δ)
 | _,[],ds,h=>by
  simp only [z3u,W9] at h; subst h; exact z0y
 | n,e :: es,ds,h=>by
  simp only [z3u] at h
  split at h
  ·rename_i d ds' h1 h2
   cases h
   exact z9a (z98 h1) (z4G h2) (z4z (z8G h1))
  ·cases h
end
def zbG (ds:List D):DE:=fun δ=>.ok (.own (.lst ds)) δ
theorem z6d {X:Cx} {c:Fc} {es:List Expr} {ds:List D} {pos:Pos} (h:z3u 9 es=some ds) (hl:es.length≤1000):SE X c (.List es pos) (zbG ds):=z2k (z4G h) hl
section
variable {X:Cx} {c:Fc} {e:Expr} {fe:DE} {pos:Pos} {tg:Expr}
theorem z4C {x:Str} {i:Int} (hg:Gl X x) (hm:∃ t,X.mg x=some (.int i t)) (hd:(x == ("__debug__" : Str))=false:=by decide):SE X c (.Name x pos) (eD (.int i)):=by
 obtain ⟨t,h⟩:=hm
 exact z8l hg h hd
theorem z5E (he:SE X c e fe) (hs:Jn e none pos.line X.env=pure false:=by rfl):SS X c (.Expr e pos) (z45 fe) :=
 zcE he (fun _=>hs) trivial (z9u he hs)
theorem z1u {i:Nat} {o:Expr} {apos cpos:Pos} (ho:PE X o (tVar i)) (he:SE X c e fe)
  (hbase:Qy o "append" X.env (eval o X.env)=eval o X.env:=by rfl)
  (hfew:((WZ cpos (W6 [e] X.env)).all (fun x=>!x.1) && (backToKw cpos (JC [] X.env)).all (fun x=>x.1.isSome)
   && decide ([e].length + ([]:List Keyword).length + (if ([]:List Keyword).isEmpty then 0 else 1) < 30))=true:=by rfl)
  (hline:(apos.endLine == cpos.line)=true:=by rfl) (hs:W6 [e] X.env=(false,eval e X.env) :: W6 [] X.env:=by rfl)
  (hsw:Jn (.Call (.Attribute o "append" apos) [e] [] cpos) none pos.line X.env=pure false:=by rfl):SS X c (.Expr (.Call (.Attribute o "append" apos) [e] [] cpos) pos) (z0o i fe) :=
 z90 (p0:=apos) ho he (z9u (zbb PySem.F.plainAttrs_list PySem.F.slot_list_append PySem.F.type_list_append z6B ho (z0V he z1K hs) hbase hfew hline hs rfl) hsw)
end
def noL (K:W2):Bool:=K.all fun p=>match p.2.cls with
 | .type t=>!(t == "list")
 | _=>true
theorem zcc [BEq α] [LawfulBEq α]:∀ {K:List (α×β)} {a:α} {o:β},K.lookup a=some o→(a,o) ∈ K
 | [],a,o,e=>by simp at e
 | (b,o') :: r,a,o,e=>by
  rw [WJ] at e
  cases hb:a == b with
  | true =>
   rw [hb] at e
   have h1:o'=o:=Ww e
   have h2:a=b:=eq_of_beq hb
   rw [h1,h2]
   exact Wm
  | false =>
   rw [hb] at e
   exact Wc _ (zcc e)
theorem zf0 {K:W2} {a:Addr} {o:Obj} (h:noL K=true) (e:K.lookup a=some o) (hc:o.cls = .type "list"):False:=by
 have hm:(a,o) ∈ (K:List (Addr×Obj)):=zcc e
 have h1:=Q3.mp h (a,o) hm
 have h2:(match o.cls with | .type t=>!(t == "list") | _=>true)=true:=h1
 rw [hc] at h2
 have h3:(!(("list" : String) == "list"))=true:=h2
 rw [beq_self_eq_true] at h3
 cases h3
theorem zf5 {K:W2} {G:DF} {H:Hp} {a:Addr} {ns:List Int} {E:XK} (hK:noL K=true) (hS:SqL K H a (ns.map V.int)) (hG:∃ outs,G [.pure (.lst (ns.map .int))]=some (.pure (.bl true),outs)) :
  spD 1 G [.ref a] H (fun v _=>v = .bl true) E:=by
 have hR:Rd H a (.lst (ns.map V.int)):=by
  rcases hS with h | ⟨o,its,n,e,hc,_⟩
  ·exact h
  ·exact (zf0 hK e hc).elim
 obtain ⟨outs,hg⟩:=hG
 have rep:∀ O:Addr→Prop,¬ O a→Rep H O (.ref a) (.lst (ns.map D.int)):=fun O hO=>.lst hO hR (by simp) fun i v d e1 e2=>by
  rw [WK] at e1 e2
  cases e:ns[i]? with
  | none=>rw [e] at e1; cases e1
  | some k=>rw [e] at e1 e2; cases e1; cases e2; exact .int k
 refine ⟨[.pure (.lst (ns.map .int))],fun _=>False,rfl,⟨fun b o e _=>e,fun b z=>z.elim,fun b ⟨i,z⟩=>?_,rfl,fun i d e=>?_,fun i d e=>?_,fun i j b d d' e1 e2 e3 e4=>?_,fun p z=>?_⟩,_,outs,hg,fun v H' x r=>?_⟩
 ·simp [z0t] at z
 ·cases i with
  | zero =>
   simp at e
   subst e
   refine ⟨.ref a,rfl,rep _ fun z=>?_⟩
   rcases z with z | ⟨j,d',z1,z2⟩
   ·exact z
   ·cases j with
    | zero=>simp at z1
    | succ j=>simp at z1
  | succ i=>simp at e
 ·cases i with
  | zero=>simp at e
  | succ i=>simp at e
 ·cases i with
  | zero=>simp at e1
  | succ i=>simp at e1
 ·simp [z0t] at z
 ·cases r
  rfl
theorem walkD {l:PySem.W.OpenLaw} {q:Wj} {loose:List Str} {XP:(Str→Option Value)→Heap→Prop} {YP:Wp→Heap→Prop} {d:DefRec} {K:Params→W2} {k:Nat} {G:DF} (hn:l.most=some 63) (hdf:d.params.defaults=[]) (hr:Room k callerA)
  (hY:∀ (w:Wp) (h:Heap),YP w h→(K w.params).In h) (hL:∀ p:Params,noL (K p)=true)
  (hG:∀ ns:List Int,ns.length≤63→∃ outs,G [.pure (.lst (ns.map .int))]=some (.pure (.bl true),outs))
  (F:∀ (w:Wp) (mg:Str→Option Value) (fa:Addr) (h:Heap),(K w.params).In h→h.Ns Wq mg→mg d.name=some (.ref fa) →
   ∃ fd:WM,(∀ (s:W1) (u:Value),BindsTo s fd ⟨[u],[]⟩ [("script",u)])∧∀ base:Heap,(K w.params).In base→base.Ns Wq mg→FnOk l.prog w (K w.params) mg base CX0 k fa fd ["script"] (spD 1 G)) :
  PySem.W.WalkO q loose XP YP l.row.toRowW d [] (fun f vs=>PySem.call f vs) :=
 L2.walk_of (n:=63) (k:=k) (x:="script") (CX:=fun _=>CX0) (sp:=fun _=>spD 1 G) hn (by decide) hdf hr hY F (fun w H a ns hl _ hS=>zf5 (hL w.params) hS (hG ns hl)) fun _ _ _ _ _ z=>z
end DV
set_option maxHeartbeats 400000
namespace L2
open PySem PySem.Spec PyProof.Rows
def Its (x:Str):It:=⟨fun i _=>i < x.cps.size,fun i H y H'=>H'=H∧∃ c,x.cps[i]? = some c∧y = .str ⟨#[c]⟩,fun i _=>i=x.cps.size⟩
theorem zaQ {P:Wj} {w:Wp} {K:W2} {tg:Expr} (x:Str) (t:Tok) (it:Addr) (T:String) (hT:T = "str_ascii_iterator"∨T = "str_iterator"):Turn P w K tg (Its x) [it] it (fun i h=>h.IsStrIter it T x t i):=by
 have W:∀ A:Wn,A.handled=none→Walks P w A it [it] [it] x.cps.size (SignAt x) (fun i h=>h.IsStrIter it T x t i):=fun A hh=>by
  rcases hT with rfl | rfl
  ·exact Walks.strAscii hh it x t
  ·exact Walks.strWide hh it x t
 refine ⟨by simp,fun i h st b hb=>?_,fun i h h' st k=>?_,?_,?_,fun A i s Q E st h=>?_⟩
 ·have e:b=it:=by simpa using hb
  subst e
  obtain ⟨o,e,c,d⟩:=st
  exact ⟨o,e,fun v z=>by rw [d] at z; cases z⟩
 ·obtain ⟨o,e,r⟩:=st
  exact ⟨o,k it (by simp) o e,r⟩
 ·intro X hP hw hK hc i pins s σ H E I hf st hg
  subst hP hw hK
  obtain ⟨f0,f1,f2,f3,f4,f5⟩:=hf it (by simp)
  refine (W X.A (I.ok.hd hc)).item i s _ _ hg st fun v h' tk hv st' kk=>?_
  obtain ⟨c,u,hx,rfl⟩:=hv
  have I1:Inv X pins σ H { s with heap:=h',toks:=tk }:=I.turned (fun b o hb e=>kk b o (by simpa using hb) e) f0 f1 f3 f4 f5
  obtain ⟨o,e,c',d⟩:=id st'
  refine ⟨_,rfl,zbA (s:={ s with heap:=h',toks:=tk }) e c' d (by rcases hT with rfl | rfl <;> decide) ⟨.str ⟨#[c]⟩,H,I1,⟨u,rfl⟩,⟨rfl,c,hx,rfl⟩,st',fun b hb=>(hf b hb).1⟩⟩
 ·intro X hP hw hK hc i pins s σ H E I hf st hg
  subst hP hw hK
  have hg':i=x.cps.size:=hg
  subst hg'
  obtain ⟨f0,f1,f2,f3,f4,f5⟩:=hf it (by simp)
  exact (W X.A (I.ok.hd hc)).done s _ _ st fun h' tk eb=>⟨rfl,I.turned (fun b o hb e=>eb b o (by simpa using hb) e) f0 f1 f3 f4 f5⟩
 ·rcases hT with rfl | rfl
  ·exact wpAny_pyIter_striter_ascii st h
  ·exact wpAny_pyIter_striter_wide st h
end L2
namespace DV
open PySem PySem.Spec PyProof.Rows L2
section
variable {X:Cx} {c:Fc} {tg e:Expr} {fe:DE} {pos pp:Pos}
def iSeqS (K:W2) (tl:TE):TI:=fun σ H R=>tl σ H fun x H1=>(∃ a,x = .ref a∧(∃ xs,SqL K H1 a xs)∧R (Itl K a) H1)∨(∃ a,x = .ref a∧(∃ xs,SqT K H1 a xs)∧R (Itt K a) H1)∨∃ z,x = .str z∧R (Its z) H1
theorem zd8 {l:Expr} {tl:TE} (hl:PE X l tl):PI X tg l (iSeqS X.K tl):=by
 intro pins s σ H R I h
 refine thn (hl pins s σ H _ I h) fun v s1 ⟨x,H1,I1,r1,q1⟩=>?_
 rcases q1 with q1 | q1 | ⟨z,e,q⟩
 ·obtain ⟨a,e,⟨xs,hq⟩,q⟩:=q1
  subst e
  cases r1
  obtain ⟨its,rv,p,hz⟩:=I1.list hq
  refine JV p.isList ?_
  refine ⟨s1.heap.objs.size,[s1.heap.objs.size],_,_,H1,rfl,I1.kept (t':=s1.toks) fun b o e=>W4 _ e,z8T a _,⟨_,Wi _ rfl,rfl,rfl⟩,fun b hb=>?_,q⟩
  have e:b=s1.heap.objs.size:=by simpa using hb
  subst e
  exact I1.fpOk (Wd _) (I1.hok.fresh (Wd _))
 ·obtain ⟨a,e,⟨xs,hq⟩,q⟩:=q1
  subst e
  cases r1
  obtain ⟨its,rv,p,hz⟩:=I1.tuple hq
  refine wpAny_pyIter_tuple (show s1.heap.IsTuple a its.toArray from p) ?_
  refine ⟨s1.heap.objs.size,[s1.heap.objs.size],_,_,H1,rfl,I1.kept (t':=s1.toks) fun b o e=>W4 _ e,z8h a _,⟨_,Wi _ rfl,rfl,rfl⟩,fun b hb=>?_,q⟩
  have e:b=s1.heap.objs.size:=by simpa using hb
  subst e
  exact I1.fpOk (Wd _) (I1.hok.fresh (Wd _))
 ·subst e
  obtain ⟨t,rfl⟩:=r1
  refine wpAny_pyIter_strU ?_
  have hT:strIterType z = "str_ascii_iterator"∨strIterType z = "str_iterator":=by
   unfold strIterType
   split
   ·exact .inl rfl
   ·exact .inr rfl
  refine ⟨s1.heap.objs.size,[s1.heap.objs.size],_,_,H1,rfl,I1.kept (t':=s1.toks) fun b o e=>W4 _ e,zaQ z t _ _ hT,⟨_,Wi _ rfl,rfl,rfl⟩,fun b hb=>?_,q⟩
  have e:b=s1.heap.objs.size:=by simpa using hb
  subst e
  exact I1.fpOk (Wd _) (I1.hok.fresh (Wd _))
theorem zfe (z:Tx):ItOk c σ δ H (Its (toS z)) (z.map fun n=>D.str [n]):=by
 intro H2 kp
 have hsz:(toS z).cps.size=z.length:=by simp [toS]
 refine ⟨by show (z.map _).length=_; rw [hsz]; simp,fun i d e=>?_⟩
 rw [WK] at e
 cases ez:z[i]? with
 | none=>rw [ez] at e; cases e
 | some n =>
  rw [ez] at e
  cases e
  have hi:i < z.length:=(Wb.mp ez).1
  refine ⟨by show i < _; rw [hsz]; exact hi,fun x H3 ⟨e3,cc,hc,hx⟩=>.inl ⟨e3,?_⟩⟩
  have:(toS z).cps[i]? = z[i]?:=by simp [toS]
  rw [this,ez] at hc
  cases hc
  rw [hx]
  exact .str [n]
def iSq (f:DE):DI:=fun δ=>(f δ).bind fun r δ1=>match r.d with
 | .lst ds=>.ok ds δ1
 | .tup ds=>.ok ds δ1
 | .str x=>.ok (x.map fun n=>.str [n]) δ1
 | _=>.stuck
theorem z2J (he:SE X c e fe):SI X c tg e (iSq fe):=PI.weak (zd8 he) fun σ H R ⟨δ,k,q⟩=>by
 unfold iSq at q
 rw [z03] at q
 refine ⟨δ,k,z00 q fun r δ1 q1 v H1 a1 r1=>?_⟩
 have rr:=r1.rep
 generalize r.d=d at q1 rr
 cases d <;> first | exact q1.elim | skip
 ·cases rr
  exact .inr (.inr ⟨_,rfl,q1 _ H1 a1 (zfe _)⟩)
 ·cases rr with
  | tup h1 h2 h3 h4=>exact .inr (.inl ⟨_,rfl,⟨_,.of h2⟩,q1 _ H1 a1 (zfd _ h2 (fun z=>h1 (.inr z)) ⟨h3,h4⟩)⟩)
 ·cases rr with
  | lst h1 h2 h3 h4 =>
   refine .inl ⟨_,rfl,⟨_,.inl h2⟩,q1 _ H1 a1 ?_⟩
   intro H2 kp
   rename_i a vs
   have h5:Rd H2 a (.lst vs):=Rd.keep h2 fun o e=>kp a o e fun z=>h1 (.inr z)
   have r':Reps H1 (Av c σ δ1) vs _:=⟨h3,h4⟩
   refine ⟨⟨vs,.inl h5,by rw [r'.1]; exact Wd _⟩,fun i d e=>?_⟩
   obtain ⟨v,ev,rv⟩:=r'.get e
   refine ⟨⟨vs,v,.inl h5,ev⟩,fun x H3 ⟨e3,y⟩=>.inl ⟨e3,?_⟩⟩
   have:=y vs (.inl h5)
   rw [ev] at this
   cases this
   exact rv
end
end DV
namespace L2
open PySem PySem.Spec PyProof.Rows
theorem z5m (a:Int) (t:Tok) (l:Addr) (dd:Option Addr) (items:Array Value) (n:Nat) (sl:Array (Option Value)) :
  Meets (Builtin.«int.__rmul__» ⟨[.int a t,.ref l],[]⟩) (fun _ R s=>s.heap.get? l=some { cls:=.type "tuple",dict:=dd,data:=.seq items n,slots:=sl }∧R (.ok (.ret Value.notImplemented)) s) :=
 .of_wp fun prog w A R s h=>by obtain ⟨hp,g,d,tk,os⟩:=s; obtain ⟨hl,h⟩:=h; wp_walk; exact ⟨_,rfl,h⟩
theorem z4i:fillsNumberSlot (.type "tuple") "mul" = pure false :=
 PySem.fillsNumberSlot_seq (id:="tuple.__mul__") (r:=some (.builtin "tuple.__rmul__")) F.slot_tuple_mul.lookup (by decide +kernel) F.slot_tuple_rmul.lookup (by decide +kernel)
theorem z6h:seqRepeat? (.type "tuple")=pure (some (.builtin "tuple.__mul__")):=by
 unfold seqRepeat?
 rw [PySem.seqSlot_of (T:="tuple") (name:="__mul__") (id:="tuple.__mul__") F.slot_tuple_mul.lookup (by decide +kernel),PySem.seqSlot_of (T:="tuple") (name:="__rmul__") (id:="tuple.__rmul__") F.slot_tuple_rmul.lookup (by decide +kernel)]
 rfl
theorem z5c (l:Addr) (dd:Option Addr) (items:Array Value) (n:Nat) (sl:Array (Option Value)) (x:Int) (u:Tok) (h1:¬ (decide (x < -(2 ^ 63)) || decide (x ≥ 2 ^ 63))=true) (h2:¬ (items.isEmpty || x == 1)=true) (h3:¬ (decide (x≤0) || items.isEmpty)=true) (h4:¬ items.size * x > (2 ^ 63 - 1) / 8) (h5:¬ Builtin.Tuple.tupleTooMany (items.size * x)=true) (h6:((Wa x.toNat items).foldl (· ++ ·) #[]).size≤W8) :
  Meets (Builtin.«tuple.__mul__» ⟨[.ref l,.int x u],[]⟩) (fun _ R s=>s.heap.get? l=some { cls:=.type "tuple",dict:=dd,data:=.seq items n,slots:=sl } ∧
   R (.ok (.ret (.ref s.heap.objs.size))) { s with heap:=s.heap.push { cls:=.type "tuple",data:=.seq ((Wa x.toNat items).foldl (· ++ ·) #[]) } }) :=
 .of_wp fun prog w A R s h=>by
  obtain ⟨hp,g,d,tk,os⟩:=s; obtain ⟨hl,h⟩:=h
  wp_walk
  rw [if_neg h1]
  wp_walk
  try rw [if_neg h2]
  try wp_walk
  try rw [if_neg h3]
  try wp_walk
  try rw [if_neg h4]
  try wp_walk
  try rw [if_neg h5]
  try wp_walk
  exact ⟨_,rfl,h⟩
theorem z62 (its:List α):∀ (k:Nat) (acc:List α),List.foldl (fun x1 x2:Array α=>x1 ++ x2) acc.toArray (Wa k its.toArray)=(acc ++ (Wa k its).flatten).toArray
 | 0,acc=>by simp
 | k + 1,acc=>by
  rw [Q5,Qi,show acc.toArray ++ its.toArray=(acc ++ its).toArray by simp,z62 its k]
  simp [Q5]
section
variable {X:Cx}
def zek (K:W2):R2:=fun x y H Q=>∃ l k xs,x = .ref l∧y = .int k∧SqT K H l xs∧xs≠[]∧2≤k∧k≤1000000∧xs.length * k.toNat≤W8∧∀ p,H p=none→Q (.ref p) (upd H p (.tup (Wa k.toNat xs).flatten))
theorem zdj:OpR X (Qb .Mult) (zek X.K):=by
 intro pins s σ H x y v u Q I rx ry h
 obtain ⟨l,k,xs,rfl,rfl,hH,hne,h1,h2,hz,q⟩:=h
 cases rx
 obtain ⟨t,rfl⟩:=ry
 obtain ⟨its,r,pl,hl⟩:=I.tuple hH
 obtain ⟨⟨cls,dd,data,sl⟩,ho,hc,n,hd⟩:=id pl
 simp only at hc hd
 subst hc hd
 have hlen:its.toArray.size=xs.length:=by rw [Wl]; exact r.length.symm
 have hem:its.toArray.isEmpty=false:=by
  cases its with
  | nil=>exact absurd (r.nil_iff.mp rfl) hne
  | cons a b=>rfl
 have hline:W8=16777216:=rfl
 have hk:(k.toNat:Int)=k:=by omega
 have hmul:((its.toArray.size:Nat):Int) * k=((xs.length * k.toNat:Nat):Int):=by rw [hlen,Int.natCast_mul,hk]
 have hfold:List.foldl (fun x1 x2=>x1 ++ x2) #[] (Wa k.toNat its.toArray)=(Wa k.toNat its).flatten.toArray:=by
  have:=z6N its k.toNat []
  rw [Q2] at this
  exact this
 refine wpAny_binaryOp_repeat_ref (T:="tuple") (U:="int") (by decide) ⟨_,ho,rfl⟩ (fun s'=>JQ s' k t) z4i F.fills_int_mul F.slot_int_rmul z6h F.slot_int_index.lookup
  (JR F.slot_int_rmul (JQ s k t) F.entry_int_rmul (F.args_int_rmul_2 _ _) (z5m k t l dd its.toArray n sl)
   ⟨ho,rfl,⟨_,ho,rfl⟩,JR F.slot_tuple_mul ⟨_,ho,rfl⟩ F.entry_tuple_mul (F.args_tuple_mul_2 _ _) (z5c l dd its.toArray n sl k t ?_ ?_ ?_ ?_ ?_ ?_) ⟨ho,?_⟩⟩)
 ·simp; omega
 ·rw [hem]; simp; omega
 ·rw [hem]; simp; omega
 ·rw [hmul]; omega
 ·rw [hmul]
  unfold Builtin.Tuple.tupleTooMany
  rw [hline] at hz
  generalize xs.length * k.toNat=m at hz
  simp only [hline,decide_eq_true_eq]
  omega
 ·rw [hfold,Wl,z7o,← r.length,U2]; exact hz
 ·rw [hfold]
  have I1:Inv X pins σ (upd H s.heap.objs.size (.tup (Wa k.toNat xs).flatten)) { s with heap:=s.heap.push { cls:=.type "tuple",data:=.seq (Wa k.toNat its).flatten.toArray } } :=
   I.laid (t':=s.toks) (fun b o e=>W4 _ e) (Wd _) (show ObjOk X.prog X.w _ _ _ (.tup (Wa k.toNat xs).flatten) from ⟨by rw [z7o,U2]; exact hz,(Wa k.toNat its).flatten,r.rep k.toNat,IsTupN.new _ _⟩)
  exact ⟨.ref _,_,I1,rfl,q _ (I.hok.fresh (Wd _))⟩
def zel:R2:=fun x y H Q=>∃ z k,x = .str z∧y = .int k∧2≤k∧k≤1000000∧0 < z.length∧z.length * k.toNat≤W8∧Q (.str ⟨(Wa k.toNat z.cps).foldl (· ++ ·) #[]⟩) H
theorem op_repS:OpR X (Qb .Mult) zel:=by
 intro pins s σ H x y v u Q I rx ry h
 obtain ⟨z,k,rfl,rfl,h1,h2,h0,hz,q⟩:=h
 obtain ⟨t,rfl⟩:=rx
 obtain ⟨t',rfl⟩:=ry
 have hline:W8=16777216:=rfl
 have c1:¬ k < 1:=by omega
 have c2:(k == 1 || z.length == 0)=false:=by
  simp
  omega
 refine PySem.P.mul_str (by simp; omega) (fun _ _=>?_) (fun _ _=>?_) ?_
 ·have hm:(z.length:Int) * k≤16777216:=by
   have:(z.length:Int) * k=((z.length * k.toNat:Nat):Int):=by rw [Int.natCast_mul,show (k.toNat:Int)=k by omega]
   rw [this]
   rw [hline] at hz
   omega
  have:(z.length:Int)≤(2 ^ 63 - 1) / k:=(Int.le_ediv_iff_mul_le (by omega)).mpr (by omega)
  omega
 ·unfold Builtin.Str.tooLong
  rw [hline] at hz
  generalize z.length * k.toNat=m at hz
  simp only [hline,decide_eq_false_iff_not]
  omega
 ·rw [if_neg c1,if_neg (by rw [c2]; simp)]
  have hsz:((Wa k.toNat z.cps).foldl (· ++ ·) #[]).size=k.toNat * z.length:=by
   have h:=z62 z.cps.toList k.toNat []
   simp only [Q2,Array.toArray_toList] at h
   rw [h,Wl,z7o]
   simp [Str.length]
  exact ⟨by show ((Wa k.toNat z.cps).foldl (· ++ ·) #[]).size≤_; rw [hsz,U2]; exact hz,.str _,H,I.tok _,⟨_,rfl⟩,q⟩
end
end L2
namespace DV
open PySem PySem.Spec PyProof.Rows L2
def z1S:D→D→Option S
 | .int i,.int j=>pMul (.int i) (.int j)
 | .str x,.int k=>if 2≤k∧k≤1000000∧0 < x.length∧x.length * k.toNat≤W8 then some (.pure (.str (Wa k.toNat x).flatten)) else none
 | .tup xs,.int k=>if 2≤k∧k≤1000000∧0 < xs.length∧xs.length * k.toNat≤W8 then some (.pure (.tup (Wa k.toNat xs).flatten)) else none
 | _,_=>none
def zem (K:W2):R2:=fun x y H Q=>rI CMul (fun i j=>V.int (i * j)) x y H Q∨zel x y H Q∨zek K x y H Q
theorem z1G:OpR X (Qb .Mult) (zem X.K):=op_mul.or (op_repS.or zdj)
theorem Reps.rep (h:Reps H O vs ds):∀ k:Nat,Reps H O (Wa k vs).flatten (Wa k ds).flatten
 | 0=>.nil
 | k + 1=>by rw [Q5,Q5,J9,J9]; exact h.append (Reps.rep h k)
theorem z1H {K:W2}:Op2 (zem K) z1S:=by
 intro c σ δ H x y d e s Q k rx ry hp q
 cases d <;> cases e <;> first | (simp [z1S] at hp; done) | skip
 ·exact .inl (zeV c σ δ H x y _ _ s Q k rx ry hp q)
 ·rename_i z n
  simp only [z1S] at hp
  split at hp
  ·rename_i h
   cases hp
   refine .inr (.inl ⟨toS z,n,rx.str,ry.int,h.1,h.2.1,by rw [z28]; exact h.2.2.1,by rw [z28]; exact h.2.2.2,?_⟩)
   have e:(⟨(Wa n.toNat (toS z).cps).foldl (· ++ ·) #[]⟩:Str)=toS (Wa n.toNat z).flatten:=by
    unfold toS
    congr 1
    have:=z62 z n.toNat []
    rw [Q2] at this
    exact this
   rw [e]
   exact q _ H (.refl k) (.str _)
  ·cases hp
 ·rename_i ds n
  simp only [z1S] at hp
  split at hp
  ·rename_i h
   cases hp
   obtain ⟨a,vs,ex,ha,r⟩:=rx.tup
   refine .inr (.inr ⟨a,n,vs,ex,ry.int,.of ha,?_,h.1,h.2.1,by rw [r.1]; exact h.2.2.2,fun p hp'=>?_⟩)
   ·intro z
    rw [z] at r
    have:=r.1
    simp at this
    omega
   ·exact q _ _ (.alloc k hp' _) (RepS.newT k (Reps.rep r _) hp')
  ·cases hp
theorem RepS.newD (k:Ok c σ δ H) (hp:H p=none):RepS c σ δ H (upd H p (.dK [])) (.ref p) (.own (.dct [])):=by
 refine ⟨p,rfl,⟨[],z0k,rfl,fun i p q e=>by simp at e⟩,fun z=>k.nav hp (.inl z),k.fresh₀ hp,k.plus hp _,hp⟩
def zao:DE:=fun δ=>.ok (.own (.dct [])) δ
theorem zaX {X:Cx} {c:Fc} {pos:Pos}:SE X c (.Dict [] [] pos) zao:=PE.weak zb9 fun σ H Q ⟨δ,k,q⟩=>fun p hp=>q _ _ (.alloc k hp _) (RepS.newD k hp)
section
variable {X:Cx} {c:Fc} {e a x y:Expr} {fb:BE} {f g fa:DE} {pos pp p p2:Pos}
def eInR (neg:Bool) (fa f g:DE):DE:=fun δ=>(fa δ).bind fun v δ1=>(f δ1).bind fun lo δ2=>(g δ2).bind fun hi δ3=>match v.d,lo.d,hi.d with
 | .int i,.int l,.int h=>.ok (.pure (.bl (if neg then !(decide (l≤i) && decide (i < h)) else (decide (l≤i) && decide (i < h))))) δ3
 | _,_,_=>.stuck
end
end DV
set_option maxHeartbeats 1000000
namespace L2
open PySem PySem.Spec PyProof.Rows
theorem z2Y:entryFor table "dict.update.loop" = some Builtin.«dict.update.loop»:=entryFor_of_tree (by kernel_rfl)
theorem z18:plainId "dict.update.loop" = true:=by decide +kernel
theorem z4S:typeLookup (.type "tuple") "keys" = pure none:=by rw [typeLookup_type,Jw]; kernel_rfl
theorem z5k:typeLookup (.type "list") "keys" = pure none:=by rw [typeLookup_type,Jw]; kernel_rfl
set_option maxRecDepth 8000 in
theorem z6w
  (hx:s.heap.get? a=some o) (hc:o.cls = .type "tuple") (hdat:o.data = .seq xs k) (hd:o.dict=none) (hA:A.handled=none)
  (h:∀ h' tk,(∀ b ob,s.heap.get? b=some ob→h'.get? b=some ob)→Q none { s with heap:=h',toks:=tk }) :
  W5 (model prog w) A (getAttr? (.ref a) "keys") Q E s:=by
 obtain ⟨c,dct,dat,sl⟩:=o
 simp only at hc hdat hd
 subst hc hdat hd
 obtain ⟨hp,g,d,tk,os⟩:=s
 have hT:∀ tk',(⟨hp,g,d,tk',os⟩:W1).TypeIs (.ref a) "tuple":=fun _=>⟨_,hx,rfl⟩
 have f1:=sub_AttributeError
 have f3:=F.slot_tuple_getattribute.lookup
 have f4:=F.slot_tuple_getattribute.bind (.ref a)
 have f5:=am_tuple_getattr_none
 have hmiss:=z4S
 unfold getAttr? getAttrBy? getAttrBy
 repeat (any_goals (first | assumption | exact hT _ | ((with_reducible show W5 _ _ (call (Value.builtin "tuple.__getattribute__") _ _) _ _ _); refine JR F.slot_tuple_getattribute (hT _) am_entry_tuple_getattribute (F.args_tuple_getattribute_2 _ _) (meets_getattribute_miss_tuple a xs k sl "keys" _ hmiss (by decide +kernel)) ⟨hx,hA,fun h' tk' e hx'=>?_⟩) | wp_step))
 obtain ⟨t',u',he⟩:=hx'.there
 show W5 _ _ (JN _ _ _ _ _ _ _) _ _ _
 unfold JN
 repeat (any_goals (first | assumption | wp_step))
 exact h _ _ hx'.keeps
set_option maxRecDepth 8000 in
theorem z7k
  (hx:s.heap.get? a=some o) (hc:o.cls = .type "list") (hdat:o.data = .seq xs k) (hd:o.dict=none) (hA:A.handled=none)
  (h:∀ h' tk,(∀ b ob,s.heap.get? b=some ob→h'.get? b=some ob)→Q none { s with heap:=h',toks:=tk }) :
  W5 (model prog w) A (getAttr? (.ref a) "keys") Q E s:=by
 obtain ⟨c,dct,dat,sl⟩:=o
 simp only at hc hdat hd
 subst hc hdat hd
 obtain ⟨hp,g,d,tk,os⟩:=s
 have hT:∀ tk',(⟨hp,g,d,tk',os⟩:W1).TypeIs (.ref a) "list":=fun _=>⟨_,hx,rfl⟩
 have f1:=sub_AttributeError
 have f3:=F.slot_list_getattribute.lookup
 have f4:=F.slot_list_getattribute.bind (.ref a)
 have f5:=am_list_getattr_none
 have hmiss:=z5k
 unfold getAttr? getAttrBy? getAttrBy
 repeat (any_goals (first | assumption | exact hT _ | ((with_reducible show W5 _ _ (call (Value.builtin "list.__getattribute__") _ _) _ _ _); refine JR F.slot_list_getattribute (hT _) am_entry_list_getattribute (F.args_list_getattribute_2 _ _) (meets_getattribute_miss_list a xs k sl "keys" _ hmiss (by decide +kernel)) ⟨hx,hA,fun h' tk' e hx'=>?_⟩) | wp_step))
 obtain ⟨t',u',he⟩:=hx'.there
 show W5 _ _ (JN _ _ _ _ _ _ _) _ _ _
 unfold JN
 repeat (any_goals (first | assumption | wp_step))
 exact h _ _ hx'.keeps
def z1z (kps:List (Key×V)) (acc:List (Key×V)):List (Key×V):=kps.foldl (fun a kv=>putK a kv.1 kv.2) acc
theorem zas {prog:Wj} {w:Wp} {A:Wn} {R:Result→W1→Prop} {s:W1} {dl it:Addr} {i:Int} {t0:Tok}
  (hn:W5 (model prog w) A.in1 (Qr (.ref it)) (fun r s1=>∃ (q:Addr) (k v:Value) (n:Nat),r=some (.ref q)∧s1.heap.get? q=some { cls:=.type "tuple",dict:=none,data:=.seq #[k,v] n,slots:=#[] } ∧
   W5 (model prog w) A.in1 (dictSet dl k v) (fun _ s2=>Q9 (model prog w) A (.builtin "dict.update.loop" ⟨[.ref dl,.ref it,Q4 (i + 1),.none],[]⟩) R s2) (fun _ _=>False) s1) (fun _ _=>False) s) :
  Q9 (model prog w) A (.builtin "dict.update.loop" ⟨[.ref dl,.ref it,.int i t0,.none],[]⟩) R s:=by
 refine Q8 z2Y ?_
 rw [Around.under_plainId z18 _]
 show W5 _ A.in1 (Qr (.ref it) >>= _) _ _ s
 refine W0 (WE hn (fun r s1 hr=>?_) fun _ _ z=>z.elim)
 obtain ⟨q,k,v,n,rfl,hq,hd⟩:=hr
 dsimp only
 refine W0 ?_
 try with_reducible refine WF ?_
 refine W0 (wpAny_tryCatch ?_)
 have hT:s1.TypeIs (.ref q) "tuple":=⟨_,hq,rfl⟩
 unfold Builtin.Dict.pairItems
 refine W0 (QJ hT ?_)
 rw [if_pos (by decide)]
 refine W0 ?_
 unfold seqItems?
 refine W0 (wpAny_load hq (W3 ?_))
 refine W3 ?_
 show W5 _ A.in1 (holding [k,v] (dictSet dl k v)) _ _ s1
 try with_reducible refine WF ?_
 refine WE hd (fun _ s2 h2=>?_) fun _ _ z=>z.elim
 exact W3 ⟨QN z18 _,h2⟩
theorem zat {prog:Wj} {w:Wp} {A:Wn} {R:Result→W1→Prop} {s:W1} {dl it:Addr} {i:Int} {t0:Tok}
  (hn:W5 (model prog w) A.in1 (Qr (.ref it)) (fun r s1=>r=none∧R (.ok (.ret .none)) s1) (fun _ _=>False) s) :
  Q9 (model prog w) A (.builtin "dict.update.loop" ⟨[.ref dl,.ref it,.int i t0,.none],[]⟩) R s:=by
 refine Q8 z2Y ?_
 rw [Around.under_plainId z18 _]
 show W5 _ A.in1 (Qr (.ref it) >>= _) _ _ s
 refine W0 (WE hn (fun r s1 hr=>?_) fun _ _ z=>z.elim)
 obtain ⟨rfl,hd⟩:=hr
 dsimp only
 show W5 _ A.in1 (Builtin.Dict.addKeywords dl [] >>= _) _ _ s1
 exact W0 (W3 (W3 hd))
section
variable {X:Cx} {pins:List (Addr×Obj)} {σ:St} {H:Hp}
theorem Rd.sub (h:Rd H a u) (k:∀ b o,H b=some o→H' b=some o):Rd H' a u:=by
 rcases h with h | ⟨o,h⟩
 ·exact .inl (k _ _ h)
 ·exact .inr ⟨o,k _ _ h⟩
def z69 (H:Hp) (ys:List V) (kps:List (Key×V)):Prop:=ys.length=kps.length∧∀ (i:Nat) y kv,ys[i]? = some y→kps[i]? = some kv→∃ q,y = .ref q∧H q=some (.tup [kV kv.1,kv.2])
theorem z3I:∀ (kps acc:List (Key×V)),(z1z kps acc).length≤acc.length + kps.length
 | [],acc=>Wd _
 | kv :: r,acc=>by
  have h1:=z3I r (putK acc kv.1 kv.2)
  have h2:=z2z acc kv.1 kv.2
  show (z1z r (putK acc kv.1 kv.2)).length≤_
  simp only [WB]
  omega
theorem z7e (kps:List (Key×V)) (kv:Key×V) (acc:List (Key×V)):z1z (kps ++ [kv]) acc=putK (z1z kps acc) kv.1 kv.2:=by
 unfold z1z
 rw [List.foldl_append]
 rfl
theorem z6S {A:Wn} {R:Result→W1→Prop} {dl it:Addr} {ys:List V} {kps:List (Key×V)} {tn:Nat→Heap→Prop} (hP:z69 H ys kps) (hdl:H dl=none) (hz:kps.length≤W8)
  (item:∀ (i:Nat) (y:V) (H':Hp) (s:W1) (Q:Option Value→W1→Prop),(∀ b o,H b=some o→H' b=some o)→H' it=none→Inv X pins σ H' s→tn i s.heap→ys[i]? = some y→(∀ u s',RelV y u→Inv X pins σ H' s'→tn (i + 1) s'.heap→Q (some u) s')→W5 (model X.prog X.w) A.in1 (Qr (.ref it)) Q (fun _ _=>False) s)
  (done:∀ (H':Hp) (s:W1) (Q:Option Value→W1→Prop),(∀ b o,H b=some o→H' b=some o)→H' it=none→Inv X pins σ H' s→tn ys.length s.heap→(∀ s',Inv X pins σ H' s'→Q none s')→W5 (model X.prog X.w) A.in1 (Qr (.ref it)) Q (fun _ _=>False) s)
  (keep:∀ (i:Nat) (h h':Heap),tn i h→(∀ o,h.get? it=some o→h'.get? it=some o)→tn i h') (hit:H it=none) (hne:it≠dl) (hR:∀ s',Inv X pins σ (upd H dl (.dK (z1z kps []))) s'→R (.ok (.ret .none)) s') :
  ∀ (k i:Nat) (s:W1) (j:Int) (t0:Tok),ys.length - i=k→i≤ys.length→Inv X pins σ (upd H dl (.dK (z1z (kps.take i) []))) s→tn i s.heap →
   Q9 (model X.prog X.w) A (.builtin "dict.update.loop" ⟨[.ref dl,.ref it,.int j t0,.none],[]⟩) R s:=by
 have up:∀ (acc:List (Key×V)) b o,H b=some o→upd H dl (.dK acc) b=some o:=fun acc b o e=>by rw [z0i (z0C e hdl)]; exact e
 have nit:∀ acc:List (Key×V),upd H dl (.dK acc) it=none:=fun acc=>by rw [z0i hne]; exact hit
 intro k
 induction k with
 | zero =>
  intro i s j t0 hk hi I st
  have e:i=ys.length:=by omega
  subst e
  rw [hP.1,Js (Wd _)] at I
  refine zat (done _ s _ (up _) (nit _) I st fun s' I'=>⟨rfl,hR s' I'⟩)
 | succ k ih =>
  intro i s j t0 hk hi I st
  have hlt:i < ys.length:=by omega
  have hlk:i < kps.length:=by rw [← hP.1]; exact hlt
  obtain ⟨q,ey,hq⟩:=hP.2 i ys[i] kps[i] (by simp [hlt]) (by simp [hlk])
  -- the item is a tuple of two
  have main:∀ s1,Inv X pins σ (upd H dl (.dK (z1z (kps.take i) []))) s1→tn (i + 1) s1.heap→∃ (kk vv:Value) (n:Nat),s1.heap.get? q=some { cls:=.type "tuple",dict:=none,data:=.seq #[kk,vv] n,slots:=#[] }∧RelV (kV kps[i].1) kk∧RelV kps[i].2 vv:=fun s1 I1 _=>by
   obtain ⟨_,its,r,n,e⟩:=(show ObjOk X.prog X.w _ s1.heap q (.tup [kV kps[i].1,kps[i].2]) from I1.hok q _ (up _ q _ hq))
   obtain ⟨u,v,rfl,r1,r2⟩:=Vals.two r
   exact ⟨u,v,n,e,r1,r2⟩
  refine zas (item i ys[i] _ s _ (up _) (nit _) I st (by simp [hlt]) fun u s' ru I' st'=>?_)
  rw [ey] at ru
  cases ru
  obtain ⟨kk,vv,n,e,r1,r2⟩:=main s' I' st'
  refine ⟨q,kk,vv,n,rfl,e,?_⟩
  obtain ⟨z,hd,vs,rel,dd⟩:=zdK I'.hok z0k
  have hvs:vs.length≤W8:=by rw [← rel.length]; exact z
  have hl:(putK (z1z (kps.take i) []) kps[i].1 kps[i].2).length≤W8:=by
   have h1:=z2z (z1z (kps.take i) []) kps[i].1 kps[i].2
   have h2:=z3I (kps.take i) []
   simp at h2
   omega
  refine wpAny_dictSet_pairs (hsz:=hvs) (z8z r1) dd fun h' dd' hs=>?_
  have he:∃ q,h'.get? dl=some q:=let ⟨q,_,_,hq,_⟩:=dd'; ⟨q,hq⟩
  have I2:=z7u (t':=s'.toks + 1) I' (by rw [z0k]; exact True.intro) hs he (zcn hl hd (rel.put kps[i].1 r2) dd')
  rw [z8S] at I2
  have et:kps.take (i + 1)=kps.take i ++ [kps[i]]:=by rw [Ja]; simp [hlk]
  rw [show putK (z1z (kps.take i) []) kps[i].1 kps[i].2=z1z (kps.take (i + 1)) [] by rw [et,z7e]] at I2
  exact ih (i + 1) _ (j + 1) _ (by omega) hlt I2 (keep (i + 1) _ _ st' fun o eo=>(hs.2 it hne).trans eo)
theorem z58 (hc:X.calm=true):CallR X (.type "dict") (fun xs H Q=>∃ p ys kps,xs=[.ref p]∧(H p=some (.tup ys)∨Rd H p (.lst ys))∧z69 H ys kps∧kps.length≤W8∧∀ l,H l=none→Q (.ref l) (upd H l (.dK (z1z kps [])))):=by
 intro pins s σ H xs us Q I r h
 obtain ⟨p,ys,kps,rfl,hp,hP,hz,q⟩:=h
 obtain ⟨u,rfl,rx⟩:=z3R r
 cases rx
 have hA:X.A.handled=none:=I.ok.hd hc
 refine callType_codes (Q₁:=fun obj s₁=>obj = .ref s.heap.objs.size∧s₁ = { s with heap:=s.heap.push { cls:=.type "dict",data:=.dict #[] } }) F.kt_called_dict (F.kt_typeCall_dict_1 _) F.entry_dict_init (kt_code_dict_new _ ⟨rfl,rfl⟩) ?_
 rintro obj s₁ ⟨rfl,rfl⟩
 have hdl:H s.heap.objs.size=none:=I.hok.fresh (Wd _)
 have I1:Inv X pins σ (upd H s.heap.objs.size (.dK [])) { s with heap:=s.heap.push { cls:=.type "dict",data:=.dict #[] } }:=I.laid (t':=s.toks) (fun _ _ q=>W4 _ q) (Wd _) (z8a s.heap I.big)
 generalize hdd:s.heap.objs.size=dl at hdl I1
 have up:∀ (acc:List (Key×V)) b o,H b=some o→upd H dl (.dK acc) b=some o:=fun acc b o e=>by rw [z0i (z0C e hdl)]; exact e
 have hTd:({ s with heap:=s.heap.push { cls:=.type "dict",data:=.dict #[] } }:W1).TypeIs (.ref dl) "dict":=⟨_,by rw [← hdd]; exact Wi _ rfl,rfl⟩
 refine ⟨hTd,F.args_dict_init_2 _ _,?_⟩
 unfold Builtin.«dict.__init__»
 refine W0 ?_
 unfold Builtin.Dict.selfAndRest
 refine W0 (wpAny_notOrdered_dict hTd ?_)
 show W5 _ _ (pure (dl,[Value.ref p])) _ _ _
 refine W3 ?_
 show W5 _ _ (Builtin.Dict.updateFrom "dict.__init__" dl (.ref p) [] .none) _ _ _
 unfold Builtin.Dict.updateFrom
 have fin:∀ s',Inv X pins σ (upd H dl (.dK (z1z kps []))) s'→EP X pins σ Q (.ref dl) s':=fun s' I'=>⟨.ref dl,_,I',rfl,q dl hdl⟩
 rcases hp with hp | hp
 ·obtain ⟨_,its,r,n,e⟩:=(show ObjOk X.prog X.w _ (s.heap.push { cls:=.type "dict",data:=.dict #[] }) p (.tup ys) from I1.hok p _ (up _ p _ hp))
  refine W0 (QJ ⟨_,e,rfl⟩ ?_)
  rw [if_pos (by decide)]
  refine W0 (z6w e rfl rfl rfl hA fun h' tk kp=>?_)
  rw [if_pos (show (none:Option Value).isNone=true from rfl)]
  refine W0 (QL ?_)
  have I2:Inv X pins σ (upd H dl (.dK [])) { s with heap:=h',toks:=tk }:=I1.kept kp
  have isT:h'.IsTuple p its.toArray:=⟨_,kp _ _ e,rfl,n,rfl⟩
  refine W0 (wpAny_pyIter_tuple (s:={ s with heap:=h',toks:=tk }) isT ?_)
  refine W3 ⟨QN z18 _,?_⟩
  have hfr:upd H dl (.dK []) h'.objs.size=none:=I2.hok.fresh (Wd _)
  have hne:h'.objs.size≠dl:=fun z=>by rw [z,z0k] at hfr; cases hfr
  have hit:H h'.objs.size=none:=by rw [z0i hne] at hfr; exact hfr
  have fp:∀ H':Hp,H' h'.objs.size=none→FpOk X pins H' h'.objs.size:=fun H' hn=>I2.fpOk (Wd _) hn
  refine z6S (X:=X) (pins:=pins) (σ:=σ) (H:=H) (dl:=dl) (it:=h'.objs.size) (ys:=ys) (kps:=kps) (tn:=fun i h=>h.IsTupleIter h'.objs.size p i) hP hdl hz ?_ ?_ (fun i h h2 st k=>st.at k) hit hne (fun s' I'=>⟨rfl,fin s' I'⟩) ys.length 0 _ 0 _ (Nat.sub_zero _) (QR _) ?_ ?_
  ·intro i y H' s' Q' sub hn I' st hy k
   obtain ⟨_,its2,r2,n2,e2⟩:=(show ObjOk X.prog X.w _ s'.heap p (.tup ys) from I'.hok p _ (sub p _ hp))
   obtain ⟨v,hv,rv⟩:=r2.get hy
   obtain ⟨f0,f1,f2,f3,f4,f5⟩:=fp H' hn
   refine wpAny_pyNext_tuple_item st (items:=its2.toArray) ⟨_,e2,rfl,n2,rfl⟩ (x:=v) (by simpa using hv) fun h3 st3 sb=>?_
   exact k v { s' with heap:=h3 } rv (I'.turned (t':=s'.toks) (fun b o hb e=>(sb.2 b hb).trans e) f0 f1 f3 f4 f5) st3
  ·intro H' s' Q' sub hn I' st k
   obtain ⟨_,its2,r2,n2,e2⟩:=(show ObjOk X.prog X.w _ s'.heap p (.tup ys) from I'.hok p _ (sub p _ hp))
   obtain ⟨f0,f1,f2,f3,f4,f5⟩:=fp H' hn
   have hl2:=r2.length
   exact wpAny_pyNext_tuple_end (show X.A.in1.in1.handled=none from hA) st (items:=its2.toArray) ⟨_,e2,rfl,n2,rfl⟩ (by simp; omega) fun h3 eb=>k { s' with heap:=h3 } (I'.turned (t':=s'.toks) (fun b o hb e=>eb b o hb e) f0 f1 f3 f4 f5)
  ·exact I2.kept (t':=tk) fun b o e=>W4 _ e
  ·exact ⟨_,Wi _ rfl,rfl,rfl⟩
 ·obtain ⟨_,its,n,r,e⟩:=(show ObjOk X.prog X.w _ (s.heap.push { cls:=.type "dict",data:=.dict #[] }) p (.lst ys) from (Rd.sub hp (up _)).ok I1.hok)
  refine W0 (QJ ⟨_,e,rfl⟩ ?_)
  rw [if_pos (by decide)]
  refine W0 (z7k e rfl rfl rfl hA fun h' tk kp=>?_)
  rw [if_pos (show (none:Option Value).isNone=true from rfl)]
  refine W0 (QL ?_)
  have I2:Inv X pins σ (upd H dl (.dK [])) { s with heap:=h',toks:=tk }:=I1.kept kp
  have isT:h'.IsList p its.toArray:=⟨_,kp _ _ e,rfl,n,rfl⟩
  refine W0 (JV (s:={ s with heap:=h',toks:=tk }) isT ?_)
  refine W3 ⟨QN z18 _,?_⟩
  have hfr:upd H dl (.dK []) h'.objs.size=none:=I2.hok.fresh (Wd _)
  have hne:h'.objs.size≠dl:=fun z=>by rw [z,z0k] at hfr; cases hfr
  have hit:H h'.objs.size=none:=by rw [z0i hne] at hfr; exact hfr
  have fp:∀ H':Hp,H' h'.objs.size=none→FpOk X pins H' h'.objs.size:=fun H' hn=>I2.fpOk (Wd _) hn
  refine z6S (X:=X) (pins:=pins) (σ:=σ) (H:=H) (dl:=dl) (it:=h'.objs.size) (ys:=ys) (kps:=kps) (tn:=fun i h=>h.IsListIter h'.objs.size p i) hP hdl hz ?_ ?_ (fun i h h2 st k=>st.at k) hit hne (fun s' I'=>⟨rfl,fin s' I'⟩) ys.length 0 _ 0 _ (Nat.sub_zero _) (QR _) ?_ ?_
  ·intro i y H' s' Q' sub hn I' st hy k
   obtain ⟨_,its2,n2,r2,e2⟩:=(show ObjOk X.prog X.w _ s'.heap p (.lst ys) from (Rd.sub hp sub).ok I'.hok)
   obtain ⟨v,hv,rv⟩:=r2.get hy
   obtain ⟨f0,f1,f2,f3,f4,f5⟩:=fp H' hn
   refine wpAny_pyNext_list_item st (items:=its2.toArray) ⟨_,e2,rfl,n2,rfl⟩ (x:=v) (by simpa using hv) fun h3 st3 sb=>?_
   exact k v { s' with heap:=h3 } rv (I'.turned (t':=s'.toks) (fun b o hb e=>(sb.2 b hb).trans e) f0 f1 f3 f4 f5) st3
  ·intro H' s' Q' sub hn I' st k
   obtain ⟨_,its2,n2,r2,e2⟩:=(show ObjOk X.prog X.w _ s'.heap p (.lst ys) from (Rd.sub hp sub).ok I'.hok)
   obtain ⟨f0,f1,f2,f3,f4,f5⟩:=fp H' hn
   have hl2:=r2.length
   exact wpAny_pyNext_list_end (show X.A.in1.in1.handled=none from hA) st (items:=its2.toArray) ⟨_,e2,rfl,n2,rfl⟩ (by simp; omega) fun h3 eb=>k { s' with heap:=h3 } (I'.turned (t':=s'.toks) (fun b o hb e=>eb b o hb e) f0 f1 f3 f4 f5)
  ·exact I2.kept (t':=tk) fun b o e=>W4 _ e
  ·exact ⟨_,Wi _ rfl,rfl,rfl⟩
end
end L2
set_option maxHeartbeats 400000
namespace DV
open PySem PySem.Spec PyProof.Rows L2
def valD (kvs:List (DKey×D)) (k:DKey):Option D:=(kvs.find? fun kv=>decide (kv.1=k)).map (·.2)
def putD (kvs:List (DKey×D)) (k:DKey) (v:D):List (DKey×D) :=
 if (kvs.any fun kv=>decide (kv.1=k))=true then kvs.map (fun kv=>if kv.1=k then (kv.1,v) else kv) else kvs ++ [(k,v)]
def z7d (kps acc:List (DKey×D)):List (DKey×D):=kps.foldl (fun a kv=>putD a kv.1 kv.2) acc
theorem zdu (h:kOf k=kOf j):k=j:=by
 cases k <;> cases j <;> simp [kOf] at h
 ·rw [h]
 ·rw [z3S h]
def DR (H:Hp) (O:Addr→Prop):List (Key×V)→List (DKey×D)→Prop
 | [],[]=>True
 | p :: ws,q :: ds=>p.1=kOf q.1∧Rep H O p.2 q.2∧DR H O ws ds
 | _,_=>False
section
variable {H H':Hp} {O O':Addr→Prop}
theorem DR.of:∀ {ws:List (Key×V)} {ds:List (DKey×D)},ws.map (·.1)=ds.map (fun p=>kOf p.1)→(∀ (i:Nat) p q,ws[i]? = some p→ds[i]? = some q→Rep H O p.2 q.2)→DR H O ws ds
 | [],[],_,_=>trivial
 | [],_ :: _,h,_=>by simp at h
 | _ :: _,[],h,_=>by simp at h
 | p :: ws,q :: ds,h,k=>by
  simp only [Wr,List.cons.injEq] at h
  exact ⟨h.1,k 0 p q rfl rfl,DR.of h.2 fun i p' q' e1 e2=>k (i + 1) p' q' (by simpa using e1) (by simpa using e2)⟩
theorem DR.keys:∀ {ws:List (Key×V)} {ds:List (DKey×D)},DR H O ws ds→ws.map (·.1)=ds.map (fun p=>kOf p.1)
 | [],[],_=>rfl
 | [],_ :: _,h=>h.elim
 | _ :: _,[],h=>h.elim
 | p :: ws,q :: ds,h=>by simp only [Wr,h.1,DR.keys h.2.2]
theorem DR.vals:∀ {ws:List (Key×V)} {ds:List (DKey×D)},DR H O ws ds→∀ (i:Nat) p q,ws[i]? = some p→ds[i]? = some q→Rep H O p.2 q.2
 | [],[],_,i,p,q,e,_=>by simp at e
 | [],_ :: _,h,_,_,_,_,_=>h.elim
 | _ :: _,[],h,_,_,_,_,_=>h.elim
 | p :: ws,q :: ds,h,i,p',q',e1,e2=>by
  cases i with
  | zero=>simp at e1 e2; subst e1 e2; exact h.2.1
  | succ i=>exact DR.vals h.2.2 i p' q' (by simpa using e1) (by simpa using e2)
theorem DR.map:∀ {ws:List (Key×V)} {ds:List (DKey×D)},DR H O ws ds→(∀ v d,Rep H O v d→Rep H' O' v d)→DR H' O' ws ds
 | [],[],_,_=>trivial
 | [],_ :: _,h,_=>h.elim
 | _ :: _,[],h,_=>h.elim
 | p :: ws,q :: ds,h,k=>⟨h.1,k _ _ h.2.1,DR.map h.2.2 k⟩
theorem z3q (h:p=kOf q):(p=kOf k) ↔ q=k:=⟨fun e=>zdu (by rw [← h]; exact e),fun e=>by rw [h,e]⟩
theorem DR.any:∀ {ws:List (Key×V)} {ds:List (DKey×D)} (k:DKey),DR H O ws ds→(ws.any fun kv=>decide (kv.1=kOf k))=ds.any fun kv=>decide (kv.1=k)
 | [],[],_,_=>rfl
 | [],_ :: _,_,h=>h.elim
 | _ :: _,[],_,h=>h.elim
 | p :: ws,q :: ds,k,h=>by
  rw [QY,QY,DR.any k h.2.2]
  congr 1
  exact decide_eq_decide.mpr (z3q h.1)
theorem DR.val:∀ {ws:List (Key×V)} {ds:List (DKey×D)} (k:DKey),DR H O ws ds→(valD ds k=none∧valV ws (kOf k)=none)∨∃ v d,valD ds k=some d∧valV ws (kOf k)=some v∧Rep H O v d
 | [],[],_,_=>.inl ⟨rfl,rfl⟩
 | [],_ :: _,_,h=>h.elim
 | _ :: _,[],_,h=>h.elim
 | p :: ws,q :: ds,k,h=>by
  by_cases e:q.1=k
  ·have e':=(z3q h.1).mpr e
   exact .inr ⟨p.2,q.2,by simp [valD,QK,e],z4l e',h.2.1⟩
  ·have e':¬ p.1=kOf k:=fun z=>e ((z3q h.1).mp z)
   have ev:valD (q :: ds) k=valD ds k:=by simp [valD,QK,e]
   rw [ev,z4m e']
   exact DR.val k h.2.2
theorem DR.append:∀ {ws ws':List (Key×V)} {ds ds':List (DKey×D)},DR H O ws ds→DR H O ws' ds'→DR H O (ws ++ ws') (ds ++ ds')
 | [],_,[],_,_,h'=>h'
 | [],_,_ :: _,_,h,_=>h.elim
 | _ :: _,_,[],_,h,_=>h.elim
 | p :: ws,_,q :: ds,_,h,h'=>⟨h.1,h.2.1,DR.append h.2.2 h'⟩
theorem DR.store:∀ {ws:List (Key×V)} {ds:List (DKey×D)} {k:DKey} {v:V} {d:D},DR H O ws ds→Rep H O v d→DR H O (ws.map fun kv=>if kv.1=kOf k then (kv.1,v) else kv) (ds.map fun kv=>if kv.1=k then (kv.1,d) else kv)
 | [],[],_,_,_,_,_=>trivial
 | [],_ :: _,_,_,_,h,_=>h.elim
 | _ :: _,[],_,_,_,h,_=>h.elim
 | p :: ws,q :: ds,k,v,d,h,r=>by
  refine ⟨?_,?_,DR.store h.2.2 r⟩
  ·by_cases e:q.1=k
   ·dsimp only; rw [if_pos ((z3q h.1).mpr e),if_pos e]; exact h.1
   ·dsimp only; rw [if_neg fun z=>e ((z3q h.1).mp z),if_neg e]; exact h.1
  ·by_cases e:q.1=k
   ·dsimp only; rw [if_pos ((z3q h.1).mpr e),if_pos e]; exact r
   ·dsimp only; rw [if_neg fun z=>e ((z3q h.1).mp z),if_neg e]; exact h.2.1
theorem DR.put (h:DR H O ws ds) (r:Rep H O v d):DR H O (putK ws (kOf k) v) (putD ds k d):=by
 unfold putK putD
 rw [DR.any k h]
 split
 ·exact DR.store h r
 ·exact DR.append h ⟨rfl,r,trivial⟩
theorem DR.puts:∀ {kps:List (Key×V)} {dps:List (DKey×D)} {ws:List (Key×V)} {ds:List (DKey×D)},DR H O kps dps→DR H O ws ds→DR H O (z1z kps ws) (z7d dps ds)
 | [],[],_,_,_,h=>h
 | [],_ :: _,_,_,h,_=>h.elim
 | _ :: _,[],_,_,h,_=>h.elim
 | p :: kps,q :: dps,ws,ds,h,h'=>by
  show DR H O (z1z kps (putK ws p.1 p.2)) (z7d dps (putD ds q.1 q.2))
  rw [h.1]
  exact DR.puts h.2.2 (DR.put h' h.2.1)
end
def keyD:D→Option DKey
 | .int i=>some (.inl i)
 | .str x=>some (.inr x)
 | _=>none
theorem z9e (h:keyD d=some k) (r:Rep H O v d):v=kV (kOf k):=by
 cases d <;> simp [keyD] at h <;> subst h <;> cases r <;> rfl
theorem z5O (h:keyD d=some k) (r:RepB c σ δ H v d):v=kV (kOf k):=by
 rcases r with r | ⟨a,rfl,r⟩
 ·exact z9e h r
 ·cases d <;> simp [keyD] at h <;> exact r.elim
def z3d:List D→Option (List (DKey×D))
 | []=>some []
 | .tup [k,v] :: r=>match keyD k,z3d r with
  | some k',some r'=>some ((k',v) :: r')
  | _,_=>none
 | _ :: _=>none
def z3o:D→Option S
 | .lst ds=>(z3d ds).bind fun ps=>if ps.length≤W8 then some (.own (.dct (z7d ps []))) else none
 | .tup ds=>(z3d ds).bind fun ps=>if ps.length≤W8 then some (.own (.dct (z7d ps []))) else none
 | _=>none
theorem z5R:∀ {ds:List D} {vs:List V} {ps:List (DKey×D)},z3d ds=some ps→Reps H O vs ds→∃ kps,z69 H vs kps∧DR H O kps ps∧kps.length=ps.length
 | [],[],ps,h,_=>by
  simp [z3d] at h
  subst h
  exact ⟨[],⟨rfl,fun i y kv e=>by simp at e⟩,trivial,rfl⟩
 | [],_ :: _,_,_,r=>by have:=r.1; simp at this
 | _ :: _,[],_,_,r=>by have:=r.1; simp at this
 | d :: ds,v :: vs,ps,h,r=>by
  unfold z3d at h
  split at h
  ·rename_i heq; cases heq
  ·rename_i k w r' heq
   cases heq
   split at h
   ·rename_i k' r'' hk hr
    cases h
    obtain ⟨kps,hP,hD,hL⟩:=z5R hr r.tail
    have rp:=r.head
    cases rp with
    | tup h1 h2 h3 h4 =>
     rename_i a us
     match us,h3,h4,h2 with
     | [x,y],_,h4,h2 =>
      have rk:=h4 0 x k rfl rfl
      have rv:=h4 1 y w rfl rfl
      have ek:=z9e hk rk
      subst ek
      refine ⟨(kOf k',y) :: kps,⟨by simp [hP.1],fun i z kv e1 e2=>?_⟩,⟨rfl,rv,hD⟩,by simp [hL]⟩
      cases i with
      | zero=>simp at e1 e2; subst e1 e2; exact ⟨a,rfl,h2⟩
      | succ i=>exact hP.2 i z kv (by simpa using e1) (by simpa using e2)
   ·cases h
  ·cases h
theorem RepS.newDk (k:Ok c σ δ H) (hp:H p=none) (r:DR H (Av c σ δ) ws ds):RepS c σ δ H (upd H p (.dK ws)) (.ref p) (.own (.dct ds)):=by
 have up:∀ a w,H a=some w→upd H p (.dK ws) a=some w:=fun a w e=>by rw [z0i (z0C e hp)]; exact e
 have r1:DR (upd H p (.dK ws)) (Av (c.plus p) σ δ) ws ds:=r.map fun v d h=>(h.anti fun b z=>by
  rcases z with (z | z) | z
  ·exact .inl (.inl z)
  ·exact .inr (by rw [z]; exact hp)
  ·exact .inl (.inr z)).keep fun b w e _=>up b w e
 exact ⟨p,rfl,⟨ws,z0k,r1.keys,r1.vals⟩,fun z=>k.nav hp (.inl z),k.fresh₀ hp,k.plus hp _,hp⟩
section
variable {X:Cx} {c:Fc} {e:Expr} {fb:BE} {pos pp:Pos}
theorem z8N:Qk "dict" = some (.type "dict"):=by decide +kernel
theorem z97 (hc:X.calm=true) (hg:Gl X "dict") (hm:X.mg "dict" = none) (he:SB X c e fb) (hs:z3Y e=true:=by rfl):SE X c (.Call (.Name "dict" pp) [e] [] pos) (eC1 z3o fb) :=
 z4D (r:=fun v H Q=>∃ p ys kps,v = .ref p∧(H p=some (.tup ys)∨Rd H p (.lst ys))∧z69 H ys kps∧kps.length≤W8∧∀ l,H l=none→Q (.ref l) (upd H l (.dK (z1z kps []))))
  (z58 hc) (fun v H Q ⟨p,ys,kps,e,h⟩=>⟨p,ys,kps,by rw [e],h⟩)
  (fun c σ δ H x d s Q k rx hp q=>by
   cases d with
   | lst ds =>
    simp only [z3o] at hp
    cases hps:z3d ds with
    | none=>rw [hps] at hp; cases hp
    | some ps =>
     rw [hps] at hp
     simp only [WC] at hp
     split at hp
     ·rename_i hz
      cases hp
      obtain ⟨a,vs,ex,ha,r⟩:=rx.lst
      obtain ⟨kps,hP,hD,hL⟩:=z5R hps r
      exact ⟨a,vs,kps,ex,.inr ha,hP,by rw [hL]; exact hz,fun l hl=>q _ _ (.alloc k hl _) (RepS.newDk k hl (DR.puts hD (ws:=[]) (ds:=[]) trivial))⟩
     ·cases hp
   | tup ds =>
    simp only [z3o] at hp
    cases hps:z3d ds with
    | none=>rw [hps] at hp; cases hp
    | some ps =>
     rw [hps] at hp
     simp only [WC] at hp
     split at hp
     ·rename_i hz
      cases hp
      obtain ⟨a,vs,ex,ha,r⟩:=rx.tup
      obtain ⟨kps,hP,hD,hL⟩:=z5R hps r
      exact ⟨a,vs,kps,ex,.inl ha,hP,by rw [hL]; exact hz,fun l hl=>q _ _ (.alloc k hl _) (RepS.newDk k hl (DR.puts hD (ws:=[]) (ds:=[]) trivial))⟩
     ·cases hp
   | _=>simp [z3o] at hp) hg hm z8N he (by decide) (by decide) (z4z hs)
end
theorem z7O (r:RepB c σ δ H v (.dct ds)):∃ a ws,v = .ref a∧H a=some (.dK ws)∧DR H (Av c σ δ) ws ds:=by
 obtain ⟨a,ws,e,h,k1,k2⟩:=r.dct
 exact ⟨a,ws,e,h,DR.of k1 k2⟩
def rInD (neg:Bool):R2:=fun x y H Q=>∃ a kvs k,y = .ref a∧H a=some (.dK kvs)∧x=kV k∧Q (.bl (if neg then !(valV kvs k).isSome else (valV kvs k).isSome)) H
theorem op_inD (hu:X.A.units + 64 < Qt):OpR X (WP .In) (rInD false):=by
 intro pins s σ H x y v u Q I rx ry h
 obtain ⟨a,kvs,k,rfl,ha,rfl,q⟩:=h
 cases ry
 exact d_in (by omega) I (DGet.k ha) rx fun s' I'=>⟨.bl _,H,I',rfl,q⟩
theorem z9F (hu:X.A.units + 64 < Qt):OpR X (WP .NotIn) (rInD true):=by
 intro pins s σ H x y v u Q I rx ry h
 obtain ⟨a,kvs,k,rfl,ha,rfl,q⟩:=h
 cases ry
 exact zdL (by omega) I (DGet.k ha) rx fun s' I'=>⟨.bl _,H,I',rfl,q⟩
def zc3 (K:W2) (neg:Bool):R2:=fun x y H Q=>rInD neg x y H Q∨rIn K neg x y H Q∨∃ i j,x = .str i∧y = .str j∧Q (.bl (if neg then !(!(Builtin.Str.occurrences j i 0 j.length 1).isEmpty) else !(Builtin.Str.occurrences j i 0 j.length 1).isEmpty)) H
theorem z2w {X:Cx} (hu:X.A.units + 64 < Qt):OpR X (WP .NotIn) (zc3 X.K true):=(z9F hu).or (op_notIn_seq.or z6q)
def pIn (neg:Bool) (x y:D):Option S:=match y with
 | .dct ds=>(keyD x).map fun k=>.pure (.bl (if neg then !(valD ds k).isSome else (valD ds k).isSome))
 | .str y=>match x with
  | .str [n]=>some (.pure (.bl (if neg then !decide (n ∈ y) else decide (n ∈ y))))
  | _=>none
 | .lst ds=>match x,z29 ds with
  | .str z,some ts=>some (.pure (.bl (if neg then !ts.contains z else ts.contains z)))
  | _,_=>none
 | .tup ds=>match x,z29 ds with
  | .str z,some ts=>some (.pure (.bl (if neg then !ts.contains z else ts.contains z)))
  | _,_=>none
 | _=>none
theorem z6K (z:Tx) (ts:List Tx):inV (V.str (toS z)) (ts.map fun z=>V.str (toS z))=ts.contains z:=by
 unfold inV
 rw [List.any_map]
 induction ts with
 | nil=>rfl
 | cons t r ih =>
  rw [QY,Jp,ih]
  congr 1
  show (toS t == toS z)=(z == t)
  rw [z75,Bool.beq_comm]
theorem z5z (ts:List Tx):(ts.map fun z=>V.str (toS z)).all z63=true:=by
 rw [List.all_map]
 exact List.all_eq_true.mpr fun _ _=>rfl
theorem z4o {K:W2} (neg:Bool):Op2 (zc3 K neg) (pIn neg):=by
 intro c σ δ H x y d e s Q k rx ry hp q
 cases e <;> first | (simp [pIn] at hp; done) | skip
 ·rename_i z
  simp only [pIn] at hp
  split at hp <;> first | (cases hp; done) | skip
  rename_i n
  cases hp
  refine .inr (.inr ⟨toS [n],toS z,rx.str,ry.str,?_⟩)
  rw [show toS [n] = ⟨#[n]⟩ from rfl,PySem.StrLaws.found_one,show (toS z).cps.toList=z by simp [toS]]
  exact q _ H (.refl k) (.bl _)
 ·rename_i ds
  simp only [pIn] at hp
  split at hp <;> first | (cases hp; done) | skip
  rename_i z ts ht
  cases hp
  obtain ⟨a,vs,ea,ha,r⟩:=ry.tup
  have ev:=z1m ht r
  refine .inr (.inl ⟨a,vs,ea,.inr (.of ha),by rw [rx.str]; rfl,by rw [ev]; exact z5z ts,?_⟩)
  rw [rx.str,ev,z6K]
  exact q _ H (.refl k) (.bl _)
 ·rename_i ds
  simp only [pIn] at hp
  split at hp <;> first | (cases hp; done) | skip
  rename_i z ts ht
  cases hp
  obtain ⟨a,vs,ea,ha,r⟩:=ry.lst
  have ev:=z1m ht r
  refine .inr (.inl ⟨a,vs,ea,.inl (.inl ha),by rw [rx.str]; rfl,by rw [ev]; exact z5z ts,?_⟩)
  rw [rx.str,ev,z6K]
  exact q _ H (.refl k) (.bl _)
 ·rename_i ds
  simp only [pIn] at hp
  cases hk:keyD d with
  | none=>rw [hk] at hp; cases hp
  | some kk =>
   rw [hk] at hp
   cases hp
   obtain ⟨a,ws,ea,ha,dr⟩:=z7O ry
   refine .inl ⟨a,ws,kOf kk,ea,ha,z5O hk rx,?_⟩
   have:(valV ws (kOf kk)).isSome=(valD ds kk).isSome:=by
    rcases dr.val kk with ⟨e1,e2⟩ | ⟨v,d,e1,e2,_⟩
    ·rw [e1,e2]; rfl
    ·rw [e1,e2]; rfl
   rw [this]
   exact q _ H (.refl k) (.bl _)
def rIxD:R2:=fun x y H Q=>∃ a kvs k v,x = .ref a∧H a=some (.dK kvs)∧y=kV k∧valV kvs k=some v∧Q v H
def pIxX:D→D→Option S
 | .dct ds,k=>(keyD k).bind fun k=>(valD ds k).map .pure
 | x,y=>pIx x y
theorem zdw (hu:X.A.units + 64 < Qt):IxR X rIxD:=by
 intro value slice pins s σ H x y v u Q I rx ry h hs
 obtain ⟨a,kvs,k,w,rfl,ha,rfl,hv,q⟩:=h
 cases rx
 obtain ⟨_,_,vs,_,dd⟩:=zdK I.hok ha
 have hT:s.TypeIs (.ref a) "dict":=dd.typeIs
 exact tail_any hT F.slot_dict_getitem.lookup (zav (v:=w) (by omega) I (by rw [← hv]; exact DGet.k ha) ry fun w' s' I' rw'=>⟨w,H,I',rw',q⟩) hs
theorem zc8 {K:W2}:Op2 (fun x y H Q=>rIxD x y H Q∨rIx K x y H Q) pIxX:=by
 intro c σ δ H x y d e s Q k rx ry hp q
 cases d with
 | dct ds =>
  simp only [pIxX] at hp
  cases hk:keyD e with
  | none=>rw [hk] at hp; cases hp
  | some kk =>
   rw [hk] at hp
   simp only [WC,QS] at hp
   obtain ⟨dv,hv,rfl⟩:=hp
   obtain ⟨a,ws,ea,ha,dr⟩:=z7O rx
   rcases dr.val kk with ⟨e1,e2⟩ | ⟨v,d',e1,e2,r⟩
   ·rw [e1] at hv; cases hv
   ·rw [e1] at hv; cases hv
    exact .inl ⟨a,ws,kOf kk,v,ea,ha,z5O hk ry,e2,q v H (.refl k) r⟩
 | _=>exact .inr (z0M c σ δ H x y _ e s Q k rx ry hp q)
end DV
namespace PySem
open Sem (wp)
open AutoSeq1 (wpAny_loadPart')
section
variable {prog:Wj} {w:Wp} {A:Wn} {E:Value→W1→Prop} {s:W1}
end
end PySem
namespace L2
open PySem PySem.Spec PyProof.Rows
section
variable {X:Cx} {pins:List (Addr×Obj)} {σ:St} {H:Hp} {s:W1} {h':Heap}
end
end L2
namespace DV
open PySem PySem.Spec PyProof.Rows L2
section
variable {X:Cx} {c:Fc} {tg e:Expr} {fe:DE} {pos pp:Pos}
end
end DV
namespace HT
open PySem PySem.Spec PyProof.Rows
section
variable {prog:Wj} {w:Wp} {A:Wn} {E:Value→W1→Prop} {s:W1}
end
end HT
namespace DV
open PySem PySem.Spec PyProof.Rows L2
section
variable {X:Cx} {c:Fc} {e:Expr} {fb:BE} {pos p2:Pos}
end
section
variable {c:Fc} {σ σ':St} {δ δ':Dl} {H H':Hp} {i:Nat} {a:Addr} {ds:List D}
end
section
variable {X:Cx} {c:Fc} {tg iter:Expr} {body:List Stmt} {g:DG} {b:DS} {i:Nat} {pos:Pos}
end
theorem ix_X (hu:X.A.units + 64 < Qt):IxR X (fun x y H Q=>rIxD x y H Q∨rIx X.K x y H Q):=(zdw hu).or z0p
end DV
namespace L2
open PySem PySem.Spec PyProof.Rows
section
variable {X:Cx}
end
end L2
namespace DV
open PySem PySem.Spec PyProof.Rows L2
section
variable {X:Cx} {c:Fc} {e:Expr} {fe:DE} {pos:Pos}
end
section
variable {c:Fc} {σ:St} {δ δ':Dl} {H H':Hp} {i:Nat} {a p:Addr} {ds:List D}
end
open Classical in
noncomputable def itAt (δ₀:Dl) (ds:List D):DI:=fun δ=>if δ=δ₀ then .ok ds δ else .stuck
section
variable {X:Cx} {c:Fc} {cs:List Nat} {tg iter elt:Expr} {ifs:List Expr} {scope:Scope} {pos:Pos} {g:DG} {t:DT} {el:DE} {i:Nat}
end
section
variable {X:Cx} {c:Fc} {e:Expr} {fe:DE} {pos pos':Pos}
end
section
variable {X:Cx} {c:Fc} {pp pos:Pos}
end
section
variable {c:Fc} {σ:St} {δ:Dl} {H:Hp} {a:Addr} {d:D}
end
section
variable {X:Cx} {c:Fc} {e:Expr} {es:List Expr} {as:List Ak} {f0:DE} {k n:Nat} {x:Str} {G:DF} {pp pos:Pos}
end
section
variable {X:Cx} {c:Fc} {e:Expr} {fe:DE} {pos:Pos}
theorem Ok.mutD (k:Ok c σ δ H) (e:δ[i]? = some (some (.own (.dct ds)))) (ea:σ[i]? = some (some (.ref a))) (r:DR H (Av c σ δ) vs' ds') :
  Aft c σ δ H σ (δ.set i (some (.own (.dct ds')))) (upd H a (.dK vs')):=by
 have hi:i < δ.length:=(Wb.mp e).1
 obtain ⟨a',ea',oa,ia,nb⟩:=k.own i _ e
 rw [ea] at ea'; cases ea'
 obtain ⟨vs,ha,_⟩:=oa
 have ownA:Own σ δ a:=⟨i,_,e,ea⟩
 have avA:Av c σ δ a:=.inr ownA
 have own_iff:∀ b,Own σ (δ.set i (some (.own (.dct ds')))) b ↔ Own σ δ b:=fun b=>by
  constructor
  ·rintro ⟨j,d,e1,e2⟩
   by_cases hj:i=j
   ·subst hj
    exact ⟨i,_,e,e2⟩
   ·rw [W7 hj] at e1
    exact ⟨j,d,e1,e2⟩
  ·rintro ⟨j,d,e1,e2⟩
   by_cases hj:i=j
   ·subst hj
    exact ⟨i,_,by rw [Wt hi],e2⟩
   ·exact ⟨j,d,by rw [W7 hj]; exact e1,e2⟩
 have av_iff:∀ b,Av c σ (δ.set i (some (.own (.dct ds')))) b→Av c σ δ b:=fun b z=>z.elim .inl fun z=>.inr ((own_iff b).mp z)
 have ne:∀ b,¬ Av c σ δ b→b≠a:=fun b n z=>n (by rw [z]; exact avA)
 have kp:∀ b o,H b=some o→¬ Av c σ δ b→upd H a (.dK vs') b=some o:=fun b o h n=>by rw [z0i (ne b n)]; exact h
 have hup:∀ b o,H b=some o→∃ o',upd H a (.dK vs') b=some o':=fun b o h=>by
  by_cases hb:b=a
  ·exact ⟨_,by rw [hb]; exact z0k⟩
  ·exact ⟨o,by rw [z0i hb]; exact h⟩
 refine ⟨⟨fun b o h n=>?_,fun b z=>?_,fun b z=>?_,by rw [Jo]; exact k.len,fun j d h=>?_,fun j d h=>?_,fun j l b d d' h1 h2 h3 h4=>?_,k.pinned⟩,fun b o h n=>?_,fun b z=>.inl ((own_iff b).mp z),hup⟩
 ·have hb:b≠a:=fun z=>by
   subst z
   rcases ia with z | z
   ·exact n z
   ·rw [z] at h; cases h
  rw [z0i hb]
  exact k.keep b o h n
 ·obtain ⟨o,h⟩:=k.bd b z
  exact hup b o h
 ·obtain ⟨o,h⟩:=k.ith b z
  exact hup b o h
 ·have hj:i≠j:=fun z=>by subst z; rw [Wt hi] at h; cases h
  rw [W7 hj] at h
  obtain ⟨v,h1,h2⟩:=k.slot j d h
  exact ⟨v,h1,(h2.keep kp).anti fun b z=>.inl (av_iff b z)⟩
 ·by_cases hj:i=j
  ·subst hj
   rw [Wt hi] at h
   cases h
   exact ⟨a,ea,(let r':=r.map fun v d h=>(Rep.keep h kp).anti fun b z=>.inl (av_iff b z); ⟨vs',z0k,r'.keys,r'.vals⟩),ia,nb⟩
  ·rw [W7 hj] at h
   obtain ⟨b,h1,h2,h3,h4⟩:=k.own j d h
   have hb:b≠a:=fun z=>by subst z; exact hj (k.inj i j b _ d e h ea h1)
   exact ⟨b,h1,(h2.keep kp fun o q=>by rw [z0i hb]; exact q).anti fun b z=>.inl (av_iff b z),h3,h4⟩
 ·have f1:∃ d,δ[j]? = some (some (.own d)):=by
   by_cases hj:i=j
   ·subst hj; exact ⟨_,e⟩
   ·rw [W7 hj] at h1; exact ⟨d,h1⟩
  have f2:∃ d,δ[l]? = some (some (.own d)):=by
   by_cases hj:i=l
   ·subst hj; exact ⟨_,e⟩
   ·rw [W7 hj] at h2; exact ⟨d',h2⟩
  obtain ⟨_,f1⟩:=f1
  obtain ⟨_,f2⟩:=f2
  exact k.inj j l b _ _ f1 f2 h3 h4
 ·have hb:b≠a:=fun z=>n (by rw [z]; exact ownA)
  rw [z0i hb]; exact h
def z6I (δ:Dl) (i:Nat):Bool:=match δ[i]? with
 | some (some (.own (.dct _)))=>true
 | _=>false
def z8F (i:Nat) (fi fe:DE):DS:=fun δ=>if z6I δ i then (fe δ).bind fun r δ1=>if z6I δ1 i then (fi δ1).bind fun k δ2=>match δ2[i]? with
  | some (some (.own (.dct ds)))=>match keyD k.d with
   | some kk=>if ds.length < W8 then .ok .next (δ2.set i (some (.own (.dct (putD ds kk r.d))))) else .stuck
   | none=>.stuck
  | _=>.stuck else .stuck else .stuck
theorem z9Z (h:z6I δ i=true):∃ ds,δ[i]? = some (some (.own (.dct ds))):=by
 unfold z6I at h
 split at h
 ·rename_i ds e; exact ⟨ds,e⟩
 ·cases h
theorem zcD {i:Nat} {o ix:Expr} {fi:DE} {sp:Pos} (hu:X.A.units + 64 < Qt) (ho:PE X o (tVar i)) (hi:SE X c ix fi) (he:SE X c e fe)
  (hs:Jn e (some (.Subscript o ix sp)) pos.line X.env=pure false:=by rfl):SS X c (.Assign [.Subscript o ix sp] e pos) (z8F i fi fe) :=
 PS.weak (zd5 (by omega) ho hi he hs) fun D σ H ⟨δ,k,q⟩=>by
  unfold z8F z2r at q
  split at q
  case isFalse=>exact q.elim
  rename_i hown
  rw [z03] at q
  refine ⟨δ,k,z00 q fun r δ1 q1 v H1 a1 r1=>?_⟩
  split at q1
  case isFalse=>exact q1.elim
  rename_i hown1
  obtain ⟨ds1,e1⟩:=z9Z hown1
  obtain ⟨a,ea,_,_⟩:=a1.ok.own i _ e1
  refine ⟨.ref a,ea,δ1,a1.ok,?_⟩
  rw [z03] at q1
  refine z00 q1 fun kx δ2 q2 u H2 a2 r2=>?_
  split at q2
  ·rename_i ds e2
   split at q2
   ·rename_i kk hk
    split at q2
    ·rename_i hz
     obtain ⟨a',ea',oa,_⟩:=a2.ok.own i _ e2
     rw [ea] at ea'; cases ea'
     obtain ⟨ws,ha,hk1,hk2⟩:=id oa
     have dr:DR H2 (Av c σ δ2) ws ds:=DR.of hk1 hk2
     have hu':=z5O hk r2.b
     subst hu'
     have hlen:ws.length=ds.length:=by have:=congrArg QF hk1; simpa using this
     have rv:Rep H2 (Av c σ δ2) v r.d:=Rep.aft r1.rep a2
     refine ⟨a,_,rfl,DPut.k ha (by rw [hlen]; exact hz),?_⟩
     exact q2 σ _ (a1.trans (a2.trans (Ok.mutD a2.ok e2 ea (dr.put rv))))
    ·exact q2.elim
   ·exact q2.elim
  ·exact q2.elim
end
section
variable {X:Cx} {c:Fc} {o e f:Expr} {fe ff:DE} {i:Nat} {apos cpos:Pos}
end
section
variable {X:Cx}
end
end DV
namespace L2
open PySem PySem.Spec PyProof.Rows
section
variable {X:Cx} {tg:Expr}
end
end L2
namespace DV
open PySem PySem.Spec PyProof.Rows L2
variable {X:Cx} {c:Fc} {tg e:Expr} {fe:DE} {pp pos:Pos}
section
variable {X:Cx}
end
theorem vals_ints:∀ {ns:List Int} {us:List Value},Vals (ns.map V.int) us→∃ ys:List (Int×Tok),us=(ys.map fun p=>Value.int p.1 p.2)∧ns=ys.map (·.1)
 | [],us,r=>by cases r; exact ⟨[],rfl,rfl⟩
 | n :: ns,us,r=>by
  cases r with
  | cons r1 r2 =>
   obtain ⟨ys,e1,e2⟩:=vals_ints r2
   obtain ⟨t,rfl⟩:=r1
   exact ⟨(n,t) :: ys,by rw [e1]; rfl,by rw [e2]; rfl⟩
section
variable {X:Cx}
end
def z5l:List D→Option (List Int)
 | []=>some []
 | .int i :: r=>(z5l r).map (i :: ·)
 | _ :: _=>none
theorem ints_map (ns:List Int):z5l (ns.map D.int)=some ns:=by
 induction ns with
 | nil=>rfl
 | cons n r ih=>simp [z5l,ih]
section
variable {X:Cx} {c:Fc} {e:Expr} {fb:BE} {pos pp:Pos}
end
end DV
namespace L2
open PySem PySem.Spec PyProof.Rows
section
variable {prog:Wj} {w:Wp} {A:Wn} {E:Value→W1→Prop} {s:W1}
end
section
variable {X:Cx} {pos:Pos}
end
end L2
namespace DV
open PySem PySem.Spec PyProof.Rows L2
section
variable {X:Cx} {c:Fc} {pos:Pos}
end
open PySem PySem.Builtin PySem.Builtin.Str PySem.StrLaws
section
variable {X:Cx}
end
section
variable {X:Cx} {c:Fc} {e:Expr} {fb:BE}
end
end DV
set_option maxHeartbeats 1000000
namespace PySem
open Sem (wp)
open AutoSeq1 (wpAny_loadPart')
section
variable {prog:Wj} {w:Wp} {A:Wn} {E:Value→W1→Prop} {s:W1}
end
end PySem
namespace PyProof.Rows
open PySem
section
variable {M:Model} {A:Wn} {E:Value→W1→Prop} {s:W1} {env:Env}
end
end PyProof.Rows
set_option maxHeartbeats 400000
namespace L2
open PySem PySem.Spec PyProof.Rows
end L2
namespace DV
open PySem PySem.Spec PyProof.Rows L2
section
variable {X:Cx} {c:Fc} {tg e:Expr} {fe:DE} {pos pp:Pos}
end
end DV
namespace L2
open PySem PySem.Spec PyProof.Rows
def Fly (h:Heap) (a C T:Addr) (dx:Option Addr) (fl:Value):Prop :=
 ∃ vs sl oT ts a0,h.get? a=some ⟨.ref C,dx,.fields vs,sl⟩∧vs[0]? = some a0∧vs[1]? = some (.ref T)∧T≠a∧h.get? T=some oT∧oT.data = .fields ts∧ts[3]? = some fl
structure Noted (h h':Heap) (fs:List Addr) (a T:Addr) (old:Value):Prop where
 new:h.get? T=none
 keep:∀ b o,h.get? b=some o→b≠a→old≠.ref b→b ∉ fs→h'.get? b=some o
 frame:∀ b o,h.get? b=some o→(∀ vs,o.data≠.fields vs)→∃ sl,h'.get? b=some { o with slots:=sl }
section
variable {M:Model} {A:Wn} {E:Value→W1→Prop} {s:W1}
theorem z6R
  (hfr:A.frames=some (env :: outer)) (hl:s.heap.FunFrames base (env :: outer)) (hf:env.frame=some L)
  (he:s.heap.get? a=some ⟨.ref C,dx,.fields vs,sl⟩) (h0:vs[0]? = some a0) (h1:1 < vs.size)
  (q:∀ h' T,Fly h' a C T dx (Q4 L)→Noted s.heap h' ((env :: outer).filterMap (·.frame)) a T .none→Q () { s with heap:=h' }) :
  W5 M A (do let x ← frameOf env; let pl ← entryPlaceOf L b0; let y ← EntryCells.newEntry head x .none (Q4 L) .none pl; setField (.ref a) 1 y) Q E s:=by
 have na:a ∉ (env :: outer).filterMap (·.frame):=fun z=>by
  obtain ⟨_,o,g1,g2⟩:=hl.mem z
  rw [he] at g1
  cases g1
  exact g2 vs rfl
 refine W0 (wpAny_frameOf_fun hfr hl hf fun hA k=>W0 (wpAny_entryPlaceOf fun pl hpl=>?_))
 unfold EntryCells.newEntry newFields
 refine W0 (WT ?_ (hpl.sizeOk5 _ _ _ _ _))
 have eA:hA.get? a=some ⟨.ref C,dx,.fields vs,sl⟩:=(k.2.1 a na).trans he
 generalize hts:([head,.ref L,.none,Q4 L,.none] ++ (if pl.isEmpty then Wa 6 Value.none else pl)).toArray=ts
 have t3:ts[3]? = some (Q4 L):=by
  rw [← hts]
  rcases hpl with rfl | ⟨_,_,_,_,_,_,_,rfl⟩ <;> simp
 have eB:=W4 (h:=hA) { cls:=.type "traceback",dict:=none,data:=.fields ts } eA
 have nT:hA.objs.size≠a:=QH (We eA)
 refine QQ eB rfl h1 (q _ hA.objs.size ⟨vs.setIfInBounds 1 (.ref hA.objs.size),sl,{ cls:=.type "traceback",dict:=none,data:=.fields ts },ts,a0,?_,?_,?_,nT,?_,rfl,t3⟩ ⟨?_,fun b o e n _ nf=>?_,fun b o e d=>?_⟩)
 ·exact (Wv _ eB rfl)
 ·rw [Array.getElem?_setIfInBounds_ne (by decide)]; exact h0
 ·simp [h1]
 ·rw [WA _ _ (Ne.symm nT)]; exact Wi hA rfl
 ·cases z:s.heap.get? hA.objs.size with
  | none=>rfl
  | some o =>
   obtain ⟨sl',z'⟩:=k.2.2 _ o z
   exact absurd (We z') (Qq _)
 ·rw [WA _ _ (Ne.symm n)]
  exact W4 _ ((k.2.1 b nf).trans e)
 ·have nb:b≠a:=fun z=>by
   rw [z,he] at e
   cases e
   exact d vs rfl
  obtain ⟨sl',z⟩:=k.2.2 b o e
  exact ⟨sl',by rw [WA _ _ (Ne.symm nb)]; exact W4 _ z⟩
theorem z8q
  (hfr:A.frames=some (env :: outer)) (hl:s.heap.FunFrames base (env :: outer)) (hf:env.frame=some L)
  (he:s.heap.get? a=some ⟨.ref C,dx,.fields vs,sl⟩) (h0:vs[0]? = some a0) (h1:vs[1]? = some .none)
  (q:∀ h' T,Fly h' a C T dx (Q4 L)→Noted s.heap h' ((env :: outer).filterMap (·.frame)) a T .none→Q () { s with heap:=h' }):W5 M A (JM (.ref a) env) Q E s:=by
 unfold JM
 simp only [hf]
 refine W0 (Jf he rfl h1 ?_)
 rw [if_neg (by decide)]
 exact z6R hfr hl hf he h0 (QZ.mp h1).1 q
theorem z9K
  (hfr:A.frames=some (env :: outer)) (hl:s.heap.FunFrames base (env :: outer)) (hf:env.frame=some L) (hx:Fly s.heap a C T₀ dx .none)
  (q:∀ h' T,Fly h' a C T dx (Q4 L)→Noted s.heap h' ((env :: outer).filterMap (·.frame)) a T (.ref T₀)→Q () { s with heap:=h' }):W5 M A (JM (.ref a) env) Q E s:=by
 obtain ⟨vs,sl,oT,ts,a0,e1,e2,e3,e4,e5,e6,e7⟩:=hx
 unfold JM
 simp only [hf]
 refine W0 (Jf e1 rfl e3 ?_)
 rw [if_pos (by simp)]
 refine W0 (Jf e5 e6 e7 ?_)
 rw [if_neg (by simp [Q4])]
 refine W0 (QQ e5 e6 (QZ.mp e7).1 ?_)
 have oth:∀ b,b≠T₀→(s.heap.update T₀ (Obj.mapFields (·.setIfInBounds 3 Value.none))).get? b=s.heap.get? b:=fun b n=>WA _ _ (Ne.symm n)
 have nrec:∀ b o,s.heap.get? b=some o→(∀ us,o.data≠.fields us)→b≠T₀:=fun b o e d z=>by
  rw [z,e5] at e
  cases e
  exact d ts e6
 refine z6R (s:={ s with heap:=s.heap.update T₀ (Obj.mapFields (·.setIfInBounds 3 Value.none)) }) hfr (hl.of_keeps fun b o e d=>⟨o,(oth b (nrec b o e d)).trans e,rfl⟩) hf ((oth a (Ne.symm e4)).trans e1) e2 (QZ.mp e3).1 fun h' T f n=>q h' T f ⟨?_,fun b o e n1 n2 n3=>?_,fun b o e d=>n.frame b o ((oth b (nrec b o e d)).trans e) d⟩
 ·have:=n.new
  by_cases z:T=T₀
  ·exfalso
   rw [z] at this
   have g:=Wv (h:=s.heap) (Obj.mapFields (·.setIfInBounds 3 Value.none)) e5 (Obj.isFreed_of_fields (Obj.data_mapFields e6 _))
   rw [this] at g
   cases g
  ·exact (oth T z).symm.trans this
 ·exact n.keep b o ((oth b fun z=>n2 (by rw [z])).trans e) n1 (by simp) n3
theorem z8r {env:Env} {L a C T:Addr} {dx:Option Addr} {Q:Unit→W1→Prop} (hf:env.frame=some L) (hx:Fly s.heap a C T dx (Q4 L)) (q:Q () s):W5 M A (JM (.ref a) env) Q E s:=by
 obtain ⟨vs,sl,oT,ts,a0,e1,e2,e3,e4,e5,e6,e7⟩:=hx
 unfold JM
 simp only [hf]
 refine W0 (Jf e1 rfl e3 ?_)
 rw [if_pos (by simp)]
 refine W0 (Jf e5 e6 e7 ?_)
 rw [if_pos (by simp)]
 exact W3 q
theorem z8A (hx:Fly s.heap a C T dx fl)
  (q:∀ h',Fly h' a C T dx (o.elim .none fun f=>Q4 f)→(∀ b,b≠T→h'.get? b=s.heap.get? b)→Q () { s with heap:=h' }):W5 M A (setFlight (.ref a) o) Q E s:=by
 obtain ⟨vs,sl,oT,ts,a0,e1,e2,e3,e4,e5,e6,e7⟩:=hx
 have hi:=(QZ.mp e7).1
 have oth:∀ b,b≠T→(s.heap.update T (Obj.mapFields (·.setIfInBounds 3 (o.elim Value.none fun f=>Q4 f)))).get? b=s.heap.get? b:=fun b n=>WA _ _ (Ne.symm n)
 unfold setFlight
 refine W0 (Jf e1 rfl e3 ?_)
 rw [if_pos (by simp)]
 exact QQ e5 e6 hi (q _ ⟨vs,sl,_,_,a0,(oth a (Ne.symm e4)).trans e1,e2,e3,e4,Wv _ e5 (Obj.isFreed_of_fields (Obj.data_mapFields e6 _)),Obj.data_mapFields e6 _,by simp [hi]⟩ oth)
end
abbrev vErr:List Value:=[.type "ValueError",.type "Exception",.type "BaseException",.type "object"]
def ExcC (K:W2) (C:Addr):Prop:=PySem.W.excIn K C vErr "ValueError.__new__" = true
theorem ExcC.obj {K:W2} {C:Addr} {h:Heap} (q:ExcC K C) (X:K.In h):∃ (bm:List Value) (N:Addr) (nm qn:Str) (bs:List Value) (hdct:Bool) (sn:List Str) (sub:List Value) (ab:Bool) (col:Option Bool) (dd:Option Addr) (k0 k1 k2 k3 k5:Option Value) (mN:Str→Option Value),
  h.get? C=some (excClassObj nm qn C N bs bm hdct sn sub ab col dd k0 k1 k2 k3 k5 "ValueError.__new__")∧h.Ns N mN∧mN "__init__" = none∧OwnTail h vErr bm:=by
 unfold ExcC PySem.W.excIn at q
 split at q
 next dd cd sl lk =>
  split at q
  next C' bm k0 k1 k2 k3 n k5 e1 e2 =>
   simp only [Wh,beq_iff_eq,Qg] at q
   obtain ⟨⟨⟨⟨⟨c1,c2⟩,c3⟩,c4⟩,c5⟩,c6⟩:=q
   subst c1; subst c2
   have e3:sl = #[k0,k1,k2,k3,some (.builtin "ValueError.__new__"),k5]:=by
    cases sl; simp only at e2; rw [e2]
   subst e3
   cases cd
   simp only at e1 c3 c4 c5 c6 lk
   subst e1; subst c3
   exact ⟨bm,_,_,_,_,_,_,_,_,_,dd,k0,k1,k2,k3,k5,_,X _ _ lk,.of_isNs (PySem.W.isNs_of_in X c5),PySem.W.nsMap_none_of_in X c5 c6,PySem.W.tail_of_in X c4⟩
  next=>cases q
 next=>cases q
def CXe (P:Wj) (w:Wp):CXT:=fun outer H s E v s' =>
 ∃ (a C T:Addr) (dx:Option Addr) (H':Hp),v = .ref a∧s'.os=s.os∧AllBare s'.gens∧Un (frs outer) [] H H' s.heap s'.heap∧HOk P w H' s'.heap∧Fly s'.heap a C T dx .none∧s.heap.get? a=none∧s.heap.get? T=none∧H' a=none∧H' T=none∧E (.ref C) dx H'
section
variable {X:Cx} {x:Str} {C:Addr} {np cpos pos:Pos}
end
section
variable {X:Cx} {pins:List (Addr×Obj)} {σ:St} {H:Hp} {s:W1} {h':Heap}
theorem Inv.gone (I:Inv X pins σ H s) (hx:X.ex=[]) (e:s.heap.get? b=none):H b=none∧X.s₀.heap.get? b=none:=by
 constructor
 ·cases q:H b with
  | none=>rfl
  | some o =>
   exfalso
   have:∃ u,s.heap.get? b=some u:=by
    have z:=I.hok b o q
    clear q
    induction o with
    | lst xs=>obtain ⟨_,_,_,_,e⟩:=z; exact ⟨_,e⟩
    | tup xs=>obtain ⟨_,_,_,_,e⟩:=z; exact ⟨_,e⟩
    | dK kvs=>obtain ⟨_,_,_,_,_,_,_,e,_⟩:=z; exact ⟨_,e⟩
    | dT kvs=>obtain ⟨_,_,_,_,_,_,_,e,_⟩:=z; exact ⟨_,e⟩
    | set S n=>obtain ⟨_,_,_,_,e,_⟩:=z; exact ⟨_,e⟩
    | ins C dx fs=>obtain ⟨_,_,_,e,_⟩:=z; exact ⟨_,e⟩
    | own y=>exact z
    | xd fs=>obtain ⟨_,⟨_,_,_,e,_⟩,_⟩:=z; exact ⟨_,e⟩
    | rng lo hi=>obtain ⟨_,_,_,e⟩:=z; exact ⟨_,e⟩
    | frz ob u ih=>exact ⟨_,z.1⟩
    | tbl ps=>exact ⟨_,z⟩
    | met f y=>exact ⟨_,z⟩
    | ext φ=>exact z.2.1
   obtain ⟨u,q⟩:=this
   rw [e] at q; cases q
 ·cases q:X.s₀.heap.get? b with
  | none=>rfl
  | some o =>
   obtain ⟨o',q'⟩:=I.base.there b o q (by rw [hx]; simp)
   rw [e] at q'; cases q'
end
structure Apart (X:Cx) (pins:List (Addr×Obj)) (H:Hp) (b:Addr):Prop where
 old:X.s₀.heap.get? b=none
 free:H b=none
 loc:b≠X.env.locals
 cel:∀ x c,X.env.cells.lookup x=some c→c≠b
 pin:∀ p ∈ X.pn ++ pins,p.1≠b
section
variable {X:Cx} {pins:List (Addr×Obj)} {σ:St} {H:Hp} {s:W1} {h':Heap} {a T:Addr}
theorem Inv.neL (I:Inv X pins σ H s) (e:X.s₀.heap.get? b=some o):b≠X.env.locals:=Wo (Wx (We e) I.ok.above)
theorem Inv.noted2 (I:Inv X pins σ H s) (ha:Apart X pins H a) (hT:Apart X pins H T) (k1:∀ b o,s.heap.get? b=some o→b ∉ frs X.stack→b≠a→b≠T→h'.get? b=some o)
  (k2:∀ b o,s.heap.get? b=some o→b ∈ frs X.stack→∃ sl,h'.get? b=some { o with slots:=sl }):Inv X pins σ H { s with heap:=h' }:=by
 have any:∀ b o,s.heap.get? b=some o→b≠a→b≠T→∃ sl,h'.get? b=some { o with slots:=sl }:=fun b o e n1 n2=>by
  by_cases hb:b ∈ frs X.stack
  ·exact k2 b o e hb
  ·exact ⟨o.slots,k1 b o e hb n1 n2⟩
 have ne:∀ b o,X.s₀.heap.get? b=some o→b≠a∧b≠T:=fun b o e=>⟨fun z=>(by rw [z,ha.old] at e; cases e),fun z=>(by rw [z,hT.old] at e; cases e)⟩
 have nst:∀ b,b≠X.env.locals→b ∉ X.fs→b ∉ frs X.stack:=fun b n1 n2 z=>(Wg.mp (I.stkSub b z)).elim n1 n2
 have cellK:∀ y c,X.env.cells.lookup y=some c→∀ v,s.heap.IsCell c v→h'.IsCell c v:=fun y c e v ⟨o,ho,hd⟩=>by
  obtain ⟨sl,q⟩:=any c o ho (ha.cel y c e) (hT.cel y c e)
  exact ⟨_,q,hd⟩
 refine ⟨I.ok,I.os,I.bare,⟨fun b o e n hb hx=>?_,fun b o e n hb hx=>?_,I.base.free,fun b o e hx=>?_,I.base.tups,I.base.frzs,I.base.tbls⟩,?_,fun y c e=>?_,I.free,I.freeC,fun p hp=>?_,fun b o e=>?_,I.len⟩
 ·exact k1 b o (I.base.keep b o e n hb hx) (nst b (I.neL e) hb) (ne b o e).1 (ne b o e).2
 ·obtain ⟨sl,q⟩:=I.base.slot b o e n hb hx
  obtain ⟨sl',q'⟩:=any b _ q (ne b o e).1 (ne b o e).2
  exact ⟨sl',q'⟩
 ·obtain ⟨o',q⟩:=I.base.there b o e hx
  obtain ⟨sl',q'⟩:=any b _ q (ne b o e).1 (ne b o e).2
  exact ⟨_,q'⟩
 ·obtain ⟨m,⟨o,es,ep,ho,hd,r⟩,hl⟩:=I.loc
  obtain ⟨sl,q⟩:=any _ o ho (fun z=>ha.loc z.symm) (fun z=>hT.loc z.symm)
  refine ⟨m,⟨_,es,ep,q,hd,r⟩,fun i y v e1 e2 e3=>?_⟩
  obtain ⟨u,ru,lk⟩:=hl i y v e1 e2 e3
  refine ⟨u,ru,lk.elim .inl fun ⟨k,c,e,z⟩=>.inr ⟨k,c,e,cellK y c e _ z⟩⟩
 ·obtain ⟨v,z⟩:=I.cell y c e
  exact ⟨v,cellK y c e v z⟩
 ·obtain ⟨e,n,nl,nf,d⟩:=I.pin p hp
  exact ⟨k1 p.1 p.2 e (nst _ nl nf) (ha.pin p hp) (hT.pin p hp),n,nl,nf,d⟩
 ·refine (I.hok b o e).stay (fun c u hc q=>k1 c u q (fun z=>?_) (fun z=>?_) (fun z=>?_)) (fun _ q=>q) fun _ _ q=>q
  ·have:=I.stkFree c z
   rcases hc with rfl | hc
   ·rw [e] at this; cases this
   ·rw [hc] at this; cases this
  ·subst z
   rcases hc with rfl | hc
   ·rw [ha.free] at e; cases e
   ·rw [ha.free] at hc; cases hc
  ·subst z
   rcases hc with rfl | hc
   ·rw [hT.free] at e; cases e
   ·rw [hT.free] at hc; cases hc
theorem Inv.track (I:Inv X pins σ H s) (ha:Apart X pins H a) (ob:ObjOk X.prog X.w (upd H a o) s.heap a o):Inv X pins σ (upd H a o) s:=by
 have ne:∀ {b:Addr} {u:HO},H b=some u→b≠a:=fun {b u} e z=>by rw [z,ha.free] at e; cases e
 have up:∀ {b:Addr} {u:HO},H b=some u→upd H a o b=some u:=fun {b u} e=>by rw [z0i (ne e)]; exact e
 have no:∀ {b:Addr},b≠a→H b=none→upd H a o b=none:=fun {b} n e=>by rw [z0i n]; exact e
 refine ⟨I.ok,I.os,I.bare,⟨I.base.keep,I.base.slot,fun b u e n hx=>no (fun z=>by rw [z,ha.old] at e; cases e) (I.base.free b u e n hx),I.base.there,fun b xs e=>up (I.base.tups b xs e),fun b u z e=>up (I.base.frzs b u z e),fun b ps e=>?_⟩,I.loc,I.cell,no (Ne.symm ha.loc) I.free,fun x c e=>no (ha.cel x c e) (I.freeC x c e),fun p hp=>?_,fun b u e=>?_,I.len⟩
 ·obtain ⟨m,q⟩:=I.base.tbls b ps e
  exact ⟨m,up q⟩
 ·obtain ⟨e,n,nl,nf,d⟩:=I.pin p hp
  exact ⟨e,no (ha.pin p hp) n,nl,nf,d⟩
 ·by_cases hb:b=a
  ·subst hb
   rw [z0k] at e
   cases e
   exact ob
  ·rw [z0i hb] at e
   exact (I.hok b u e).stay (fun _ _ _ q=>q) (fun c q=>up q) fun c xs q=>up q
theorem z8g (I:Inv X pins σ H s) (hN:X.N.Nodup) (hi:X.N[i]? = some x) (hk:X.env.scope.names.lookup x=some .local)
  (h:∀ s',Inv X pins (σ.set i none) H s'→Q () s'):W5 M A (do bindName X.env x .none; unbindBehindTheSuite X.env x pos) Q E s:=by
 have hiσ:i < σ.length:=by rw [I.len]; exact (Wb.mp hi).1
 refine W0 (wpAny_bindName (z4y (v:=.non) (u:=.none) I hN hi (.inl hk) rfl (fun s1 I1 _=>?_) (.inr hk)))
 obtain ⟨m,hn,hl⟩:=id I1.loc
 obtain ⟨u,ru,lk⟩:=hl i x .non hi (Wt hiσ) (.inl hk)
 have hv:m x=some u:=by
  rcases lk with ⟨_,e⟩ | ⟨z,_⟩
  ·exact e
  ·have:X.env.kindOf x=some .local:=hk
   rw [this] at z
   rcases z with z | z <;> cases z
 refine wpAny_onRaise (wpAny_unbindName_local hk hn hv (by rw [I.ok.kind]; rfl) fun h' w' hn' hs=>h _ ?_)
 obtain ⟨oL,_,_,hoL,_⟩:=id hn
 have cne:=I1.cne
 refine ⟨I1.ok,I1.os,I1.bare,⟨fun b o e n hb hx=>?_,fun b o e n hb hx=>?_,I1.base.free,fun b o e hx=>?_,I1.base.tups,I1.base.frzs,I1.base.tbls⟩,⟨_,hn',fun j y v' e1 e2 e3=>?_⟩,fun y c e=>?_,I1.free,I1.freeC,fun p hp=>?_,fun b ob e=>?_,by simpa using I.len⟩
 ·exact (hs.2 b (I1.neL e)).trans (I1.base.keep b o e n hb hx)
 ·obtain ⟨sl,q⟩:=I1.base.slot b o e n hb hx
  exact ⟨sl,(hs.2 b (I1.neL e)).trans q⟩
 ·obtain ⟨o',q⟩:=I1.base.there b o e hx
  exact ⟨o',(hs.2 b (I1.neL e)).trans q⟩
 ·by_cases hj:j=i
  ·subst hj
   rw [Wt hiσ] at e2
   cases e2
  ·rw [W7 (Ne.symm hj)] at e2
   obtain ⟨u',r',q⟩:=hl j y v' e1 (by rw [W7 (Ne.symm hj)]; exact e2) e3
   have hyx:y≠x:=fun z=>hj (z5V hN e1 (z ▸ hi))
   refine ⟨u',r',?_⟩
   rcases q with ⟨k,e⟩ | ⟨k,c,e,z⟩
   ·exact .inl ⟨k,by simp [hyx,e]⟩
   ·exact .inr ⟨k,c,e,z.sameBut hs (cne y c e)⟩
 ·obtain ⟨w2,z⟩:=I1.cell y c e
  exact ⟨w2,z.sameBut hs (cne y c e)⟩
 ·obtain ⟨e,n,nl,nf,d⟩:=I1.pin p hp
  exact ⟨(hs.2 p.1 nl).trans e,n,nl,nf,d⟩
 ·refine (I1.hok b ob e).stay (fun c u' hc q=>(hs.2 c fun z=>?_).trans q) (fun _ q=>q) fun _ _ q=>q
  subst z
  have:=I1.free
  rcases hc with rfl | hc
  ·rw [e] at this; cases this
  ·rw [hc] at this; cases this
end
section
variable {prog:Wj} {w:Wp} {A:Wn} {E:Value→W1→Prop} {K:W2}
theorem zah {C B e:Addr} {oe:Obj} {h:Heap} {g:Array GenState} {d:Drawn} {t:Nat} {os:OsState} {Q:Bool→W1→Prop} (X:K.In h) (qB:ExcC K B) (qm:PySem.W.mroIn K C (.ref B)=some true) (he:h.get? e=some oe) (hc:oe.cls = .ref C)
  (hq:Q true ⟨h,g,d,t,os⟩):W5 (model prog w) A (excMatches (.ref e) (.ref B)) Q E ⟨h,g,d,t,os⟩:=by
 obtain ⟨bm,N,nm,qn,bs,hdct,sn,sub,ab,col,dd,k0,k1,k2,k3,k5,mN,hB,_,_,hT⟩:=qB.obj X
 have cB:(Value.ref B :: bm).contains (.type "BaseException")=true:=by rw [Jp,hT.hasType (X:="BaseException") (b:=true) rfl,Bool.or_true]
 have lk:=PySem.W.looks_mroIn (M:=model prog w) X qm
 have f:=tc_notTuple
 unfold excMatches
 repeat (first | with_reducible refine PySem.W.Looks.at lk ?_ | (with_reducible refine Qh he ?_; rw [hc]) | with_reducible refine Qh hB ?_ | (with_reducible refine wpAny_isSubtype_exc hB ?_; rw [cB]) | wp_step)
 exact hq
end
def Cx.wt (X:Cx) (pn:List (Addr×Obj)) (xe:Value→W1→Prop):Cx:={ X with pn:=pn,xe:=xe }
def Cx.hand (X:Cx) (a:Addr):Cx:={ X with A:=X.A.mark (some (.ref a)),calm:=false,xe:=fun _ _=>False }
section
variable {X:Cx} {pins ps:List (Addr×Obj)} {σ:St} {H:Hp} {s:W1} {a:Addr} {xe:Value→W1→Prop} {pn:List (Addr×Obj)}
theorem Cx.Ok.wt (o:X.Ok):(X.wt pn xe).Ok:=⟨o.mod,o.kind,o.glob,o.blt,o.above,o.inj,o.has,o.cab,o.hd,o.frames,o.stk,o.exf,o.bs,o.bsz,o.noex,o.exfs,o.funs,o.frf⟩
theorem Cx.Ok.hand (o:X.Ok):(X.hand a).Ok:=⟨o.mod,o.kind,o.glob,o.blt,o.above,o.inj,o.has,o.cab,fun z=>(by cases z),o.frames,o.stk,o.exf,o.bs,o.bsz,o.noex,o.exfs,o.funs,o.frf⟩
theorem Inv.wt (I:Inv X pins σ H s):Inv (X.wt (X.pn ++ pins) xe) [] σ H s:=⟨I.ok.wt,I.os,I.bare,I.base,I.loc,I.cell,I.free,I.freeC,fun p hp=>I.pin p (by simpa [Cx.wt] using hp),I.hok,I.len⟩
theorem Inv.unwt (o:X.Ok) (J:Inv (X.wt (X.pn ++ pins) xe) ps σ H s):Inv X pins σ H s:=⟨o,J.os,J.bare,J.base,J.loc,J.cell,J.free,J.freeC,fun p hp=>J.pin p (Jz _ hp),J.hok,J.len⟩
theorem Inv.hand (I:Inv X pins σ H s):Inv (X.hand a) pins σ H s:=⟨I.ok.hand,I.os,I.bare,I.base,I.loc,I.cell,I.free,I.freeC,I.pin,I.hok,I.len⟩
theorem Inv.unhand (o:X.Ok) (J:Inv (X.hand a) pins σ H s):Inv X pins σ H s:=⟨o,J.os,J.bare,J.base,J.loc,J.cell,J.free,J.freeC,J.pin,J.hok,J.len⟩
theorem Apart.unwt (h:Apart (X.wt (X.pn ++ pins) xe) ps H a):Apart X pins H a:=⟨h.old,h.free,h.loc,h.cel,fun p hp=>h.pin p (Jz _ hp)⟩
theorem SP.unwt (o:X.Ok) (h:SP (X.wt (X.pn ++ pins) xe) ps D f s):SP X pins D f s:=by
 cases f with
 | next=>obtain ⟨σ',H',J,q⟩:=h; exact ⟨σ',H',Inv.unwt o J,q⟩
 | brk=>obtain ⟨σ',H',J,q⟩:=h; exact ⟨σ',H',Inv.unwt o J,q⟩
 | cont=>obtain ⟨σ',H',J,q⟩:=h; exact ⟨σ',H',Inv.unwt o J,q⟩
 | ret u=>obtain ⟨v,σ',H',J,r,q⟩:=h; exact ⟨v,σ',H',Inv.unwt o J,r,q⟩
def zaO (X:Cx) (pins:List (Addr×Obj)) (H:Hp) (s:W1) (a C:Addr) (dx:Option Addr):Prop:=∃ T fl,Fly s.heap a C T dx fl∧(fl = .none∨∃ L,X.env.frame=some L∧fl=Q4 L)∧Apart X pins H a∧Apart X pins H T
def zbT (X:Cx) (ps:List (Addr×Obj)) (H:Hp) (s:W1) (a C:Addr) (dx:Option Addr):Prop:=(∃ vs sl a0,s.heap.get? a=some ⟨.ref C,dx,.fields vs,sl⟩∧vs[0]? = some a0∧vs[1]? = some .none)∧Apart X ps H a
theorem Inv.apart (I:Inv X pins σ H s) (hx:X.ex=[]) (e:s.heap.get? b=none) (f:H' b=none):Apart X pins H' b:=by
 refine ⟨(I.gone hx e).2,f,fun z=>?_,fun x c hc z=>?_,fun p hp z=>?_⟩
 ·obtain ⟨m,⟨o,_,_,ho,_⟩,_⟩:=I.loc
  rw [← z,e] at ho; cases ho
 ·obtain ⟨v,o,ho,_⟩:=I.cell x c hc
  rw [z,e] at ho; cases ho
 ·have:=(I.pin p hp).1
  rw [z,e] at this; cases this
section
variable {M:Model} {E:Value→W1→Prop} {C L:Addr} {dx:Option Addr} {Q:Unit→W1→Prop}
theorem Inv.noting (I:Inv X pins σ H s) (hst:X.stack=X.env :: X.outer) (hf:X.env.frame=some L) (hex:X.ex=[]) (hc:zaO X pins H s a C dx∨zbT X pins H s a C dx)
  (q:∀ h' T,Inv X pins σ H { s with heap:=h' }→Fly h' a C T dx (Q4 L)→Apart X pins H a→Apart X pins H T→Q () { s with heap:=h' }):W5 M X.A (JM (.ref a) X.env) Q E s:=by
 have hfr:X.A.frames=some (X.env :: X.outer):=by rw [← hst]; exact I.ok.frames
 have hl:s.heap.FunFrames X.base (X.env :: X.outer):=by rw [← hst]; exact I.stack
 have mem:∀ {b},b ∈ frs X.stack→∃ o,s.heap.get? b=some o∧∀ vs,o.data≠.fields vs:=fun {b} z=>let ⟨_,o,g1,g2⟩:=I.stack.mem z; ⟨o,g1,g2⟩
 rcases hc with ⟨T,fl,f,hfl,pa,pT⟩ | ⟨⟨vs,sl,a0,e1,e2,e3⟩,pa⟩
 ·rcases hfl with rfl | ⟨L',e,rfl⟩
  ·refine z9K hfr hl hf f fun h' T' f' n=>?_
   refine q h' T' (I.noted2 pa pT (fun b o z m n1 n2=>n.keep b o z n1 (fun w=>n2 (by cases w; rfl)) (by rw [← hst]; exact m)) fun b o z m=>?_) f' pa (I.apart hex n.new (I.gone hex n.new).1)
   obtain ⟨o',g1,g2⟩:=mem m
   rw [z] at g1; cases g1
   exact n.frame b o z g2
  ·rw [hf] at e; cases e
   exact z8r hf f (q s.heap T I f pa pT)
 ·refine z8q hfr hl hf e1 e2 e3 fun h' T' f' n=>?_
  refine q h' T' (I.noted2 pa pa (fun b o z m n1 n2=>n.keep b o z n1 (fun w=>by cases w) (by rw [← hst]; exact m)) fun b o z m=>?_) f' pa (I.apart hex n.new (I.gone hex n.new).1)
  obtain ⟨o',g1,g2⟩:=mem m
  rw [z] at g1; cases g1
  exact n.frame b o z g2
theorem Inv.flight {A:Wn} {o:Option Addr} {fl:Value} (I:Inv X pins σ H s) (f:Fly s.heap a C T dx fl) (pT:Apart X pins H T)
  (q:∀ h',Inv X pins σ H { s with heap:=h' }→Fly h' a C T dx (o.elim .none fun f=>Q4 f)→Q () { s with heap:=h' }):W5 M A (setFlight (.ref a) o) Q E s :=
 z8A f fun h' f' k=>q h' (I.noted2 pT pT (fun b u z _ n _=>(k b n).trans z) fun b u z _=>by
  by_cases n:b=T
  ·subst n
   obtain ⟨vs,sl,oT,ts,a0,e1,e2,e3,e4,e5,e6,e7⟩:=f
   have:=I.stkFree b ‹_›
   obtain ⟨_,o',g1,g2⟩:=I.stack.mem ‹b ∈ frs X.stack›
   rw [e5] at g1; cases g1
   exact absurd e6 (g2 ts)
  ·exact ⟨u.slots,(k b n).trans z⟩) f'
end
def Ends.hand (D:Ends) (i:Nat):Ends where
 nx:=fun σ H=>D.nx (σ.set i none) H
 rt:=D.rt
 bk:=fun σ H=>D.bk (σ.set i none) H
 ct:=fun σ H=>D.ct (σ.set i none) H
theorem z9s {body:List Stmt} {x n:Str} {b₀:Stmt} {suite:List Stmt} {np hpos pos:Pos} {B:Addr} {i:Nat} {tb:(Addr→Option Addr→St→Hp→Prop)→TS} {th:Addr→Addr→TS} (hex:X.ex=[]) (hst:X.stack=X.env :: X.outer) (hf:X.env.frame=some X.env.locals)
  (hN:X.N.Nodup) (hi:X.N[i]? = some n) (hl:X.env.scope.names.lookup n=some .local) (hg:Gl X x) (hm:X.mg x=some (.ref B)) (qB:ExcC X.K B) (hdb:(x == ("__debug__" : Str))=false)
  (hbody:∀ (W:Addr→Option Addr→St→Hp→Prop) (pn:List (Addr×Obj)) (xe:Value→W1→Prop),(∀ ps σ H s a C dx,Inv (X.wt pn xe) ps σ H s→zaO (X.wt pn xe) ps H s a C dx∨zbT (X.wt pn xe) ps H s a C dx→W C dx σ H→xe (.ref a) s)→PSs (X.wt pn xe) body (tb W))
  (hhand:∀ C a,PSs (X.hand a) (b₀ :: suite) (th C a)) :
  PS X (.Try body [.ExceptHandler (some (.Name x np)) (some n) (b₀ :: suite) hpos] [] [] pos)
   (fun D σ H=>tb (fun C dx σ' H'=>PySem.W.mroIn X.K C (.ref B)=some true∧∃ v,(∀ x,v = .ref x→dx=some x)∧∀ a,H' a=none→th C a (D.hand i) (σ'.set i (some (.ref a))) (upd H' a (.ext (DV.excAt C v a)))) D σ H):=by
 intro pins s σ H D I hw
 refine wpAny_Try_except (WE (hbody _ (X.pn ++ pins) _ (fun ps σ1 H1 s1 a C dx J hc hW=>?_) [] s σ H D I.wt hw) (fun f s1 hs=>?_) fun e s1 he=>he)
 ·have J:Inv X pins σ1 H1 s1:=Inv.unwt I.ok J
  have hc:zaO X pins H1 s1 a C dx∨zbT X pins H1 s1 a C dx:=by
   rcases hc with ⟨T,fl,f,hfl,pa,pT⟩ | ⟨y,pa⟩
   ·exact .inl ⟨T,fl,f,hfl,pa.unwt,pT.unwt⟩
   ·exact .inr ⟨y,pa.unwt⟩
  refine J.noting hst hf hex hc fun h2 T J2 f2 pa pT=>?_
  refine J2.flight f2 pT fun h3 I3 f3=>?_
  obtain ⟨vs3,sl3,_,_,_,u3,_⟩:=id f3
  obtain ⟨qm,v,hv,qh⟩:=hW
  refine wpAny_handleBy_cons (codeAny_handlers_test ?_) (by intro z; cases z)
  have I3h:Inv (X.hand a) pins σ1 H1 { s1 with heap:=h3 }:=I3.hand
  refine z3p (X:=X.hand a) I3h hg hm ?_ hdb
  refine zah I3.kIn qB qm u3 rfl ?_
  refine codeAny_handlers_suite_as (I3.flight f3 pT fun h4 I4 f4=>?_)
  obtain ⟨vs4,sl4,_,_,_,u1,_⟩:=f4
  have I5:Inv X pins σ1 (upd H1 a (.ext (DV.excAt C v a))) { s1 with heap:=h4 }:=I4.track pa ⟨⟨_,u1,rfl,fun x z=>hv x z,vs4,rfl⟩,⟨_,u1⟩,fun h1 h2 ⟨o,e1,e2⟩ k=>⟨o,k o e1,e2⟩⟩
  refine z4y (v:=.ref a) (u:=.ref a) (X:=X.hand a) I5.hand hN hi (.inl hl) rfl (fun s6 I6 _=>?_) (.inr hl)
  refine WE (hhand C a pins s6 _ _ (D.hand i) I6 (qh a pa.free)) (fun f s7 hs=>?_) (fun e s7 he=>he.elim)
  have un:∀ {σ':St} {H':Hp} {Q:Flow→W1→Prop},Inv (X.hand a) pins σ' H' s7→(∀ s8,Inv X pins (σ'.set i none) H' s8→Q f s8)→W5 (model X.prog X.w) X.A (do bindName X.env n .none; unbindBehindTheSuite X.env n hpos) (fun _ s8=>Q f s8) X.xe s7 :=
   fun {σ' H' Q} J7 k=>z8g (Inv.unhand I.ok J7) hN hi hl fun s8 J8=>k s8 J8
  cases f with
  | next=>obtain ⟨σ',H',J7,q⟩:=hs; exact un J7 fun s8 J8=>⟨_,_,J8,q⟩
  | brk=>obtain ⟨σ',H',J7,q⟩:=hs; exact un J7 fun s8 J8=>⟨_,_,J8,q⟩
  | cont=>obtain ⟨σ',H',J7,q⟩:=hs; exact un J7 fun s8 J8=>⟨_,_,J8,q⟩
  | ret u=>obtain ⟨v,σ',H',J7,r,q⟩:=hs; exact un J7 fun s8 J8=>⟨v,_,_,J8,r,q⟩
 ·have hs:=SP.unwt I.ok hs
  cases f with
  | next=>exact wpAny_execs_nil hs
  | brk=>exact hs
  | cont=>exact hs
  | ret u=>exact hs
end
def XOk (X:Cx) (W:Addr→Option Addr→St→Hp→Prop):Prop:=∀ ps σ H s a C dx,Inv X ps σ H s→zaO X ps H s a C dx∨zbT X ps H s a C dx→W C dx σ H→X.xe (.ref a) s
section
variable {X:Cx} {pins:List (Addr×Obj)} {σ:St} {H:Hp} {s:W1} {b:Addr}
theorem Inv.afterX (I:Inv X pins σ H s) (hx:X.ex=[]) (h:CXe X.prog X.w X.stack H s E v s'):∃ a C dx H',v = .ref a∧Inv X pins σ H' s'∧zaO X pins H' s' a C dx∧E (.ref C) dx H':=by
 obtain ⟨a,C,T,dx,H',rfl,ho,hb,un,hok,fl,na,nT,fa,fT,q⟩:=h
 exact ⟨a,C,dx,H',rfl,I.call' (ch:=[]) ho un hok hb (fun b z=>absurd z (by simp)),⟨T,.none,fl,.inl rfl,I.apart hx na fa,I.apart hx nT fT⟩,q⟩
end
section
variable {X:Cx} {k:Nat} {f:Addr} {fd:WM} {ps:List Str} {sp:Sp} {x:Str} {p pos:Pos} {e:Expr} {es:List Expr} {t:TA} {W:Addr→Option Addr→St→Hp→Prop}
theorem z7T (F:FnOk X.prog X.w X.K X.mg X.base (CXe X.prog X.w) k f fd ps sp) (hr:Room k X.A) (hex:X.ex=[]) (hg:Gl X x) (hm:X.mg x=some (.ref f)) (hk:Qe X.K (.ref f)=true) (hb:Binds X.K fd ps []) (hx:XOk X W)
  (ha:PA X (e :: es) t) (hdb:(x == ("__debug__" : Str))=false:=by decide) (he:W6 (e :: es) X.env=(false,eval e X.env) :: W6 es X.env:=by rfl) (hpl:(WZ pos (W6 es X.env)).any (·.1)=false:=by rfl) :
  PE X (.Call (.Name x p) (e :: es) [] pos) (fun σ H Q=>t σ H fun vs H1=>sp vs H1 Q (fun c dx H'=>∃ C,c = .ref C∧W C dx σ H')):=by
 intro pins s σ H Q I h
 refine QU (z3p I hg hm ?_ hdb)
 refine PySem.W.callWith_K (h₀:=X.base) I.ok.mod.kin hk (thn (ha pos pins s σ H _ I h) fun us s1 ⟨vs,H1,I1,r,q⟩=>⟨I1.kIn,?_⟩) he hpl
 have hl:(us ++ []).length=ps.length:=by rw [WN,← r.length]; exact F.len _ _ _ _ q
 refine wpAny_call (QT (F.run X.A X.stack s1 H1 ⟨us,[]⟩ us vs Q _ hr I1.env0 (by have:=hb s1 us I1.kIn hl; rwa [WN] at this) r q) fun r s' hq=>?_)
 cases r with
 | error e =>
  obtain ⟨a,C,dx,H',ea,I2,co,C',hC,hW⟩:=I1.afterX (E:=fun c dx H'=>∃ C,c = .ref C∧W C dx σ H') (v:=e) (s':=s') hex hq
  cases hC
  subst ea
  exact hx pins σ H' s' a C dx I2 (.inl co) hW
 | ok fl =>
  cases fl with
  | ret u=>exact I1.after hq
  | next=>exact False.elim hq
  | brk=>exact False.elim hq
  | cont=>exact False.elim hq
end
section
variable {P:Wj} {w:Wp} {K:W2} {mg:Str→Option Value} {base:Heap} {N:List Str} {qual:Str} {scope:Scope} {f:Addr} {cd:Value} {A:Wn} {outer:List Env} {s₀:W1} {H₀:Hp} {E:XK}
theorem zct {W:Addr→Option Addr→St→Hp→Prop} (hW:∀ C dx σ H,W C dx σ H→E (.ref C) dx H):XOk (cxOf (CXe P w) P w K mg base N qual scope f cd A outer s₀ H₀ E) W:=fun ps σ H s a C dx I hc q=>by
 show W5 _ _ (leaving _ _) _ _ _
 unfold leaving
 refine W0 (I.noting rfl rfl rfl hc fun h2 T I2 f2 pa pT=>I2.flight f2 pT fun h3 I3 f3=>?_)
 exact ⟨a,C,T,dx,H,rfl,I3.os,I3.bare,I3.base,I3.hok,f3,pa.old,pT.old,pa.free,pT.free,hW C dx σ H q⟩
end
def Cx.loop (X:Cx):Cx:={ X with xe:=notedBy (model X.prog X.w) X.A X.env (cameBackBy (model X.prog X.w) X.A X.env X.xe) }
section
variable {X:Cx} {pins ps:List (Addr×Obj)} {σ:St} {H:Hp} {s:W1}
end
end L2
namespace DV
open PySem PySem.Spec PyProof.Rows L2
section
variable {c:Fc} {σ σ':St} {δ δ':Dl} {H H':Hp} {g:Xc→Dl→Prop}
theorem Ok.since (h0:c.H₀=H) (k:Ok c σ δ H) (hI:∀ a,c.I a→Own σ δ a) (k':Ok c σ' δ' H'):Aft c σ δ H σ' δ' H':=by
 refine ⟨k',fun a o e n=>k'.keep a o (by rw [h0]; exact e) fun z=>n (hI a z),fun a ⟨i,d,e1,e2⟩=>?_,fun a o e=>?_⟩
 ·obtain ⟨b,e3,_,q,_⟩:=k'.own i d e1
  rw [e2] at e3; cases e3
  rcases q with q | q
  ·exact .inl (hI a q)
  ·rw [h0] at q; exact .inr q
 ·by_cases z:c.I a
  ·exact k'.ith a z
  ·exact ⟨o,k'.keep a o (by rw [h0]; exact e) z⟩
end
def wD (mg:Str→Option Value) (c:Fc) (C:Addr) (dx:Option Addr) (σ:St) (H:Hp):Prop:=∃ (x:Xc) (δ:Dl) (v:V),mg (toS x.cls)=some (.ref C)∧Ok c σ δ H∧Rep H (Av c σ δ) v x.flds∧(∀ y,v = .ref y→dx=some y)∧c.xc x δ
abbrev DX:=List S→Option ((S×List S) ⊕ (Xc×List S))
def runX (f:DS) (n:Nat) (ss:List S):Option ((S×List S) ⊕ (Xc×List S)):=match f (z0j n ss) with
 | .ok fl δ=>(z0T fl).bind fun r=>(z0d 0 ss δ).map fun outs=>.inl (r,outs)
 | .exc x δ=>(z0d 0 ss δ).map fun outs=>.inr (x,outs)
 | .stuck=>none
def spX (mg:Str→Option Value) (n:Nat) (G:DX):Sp:=fun vs H Q E=>∃ ss B,vs.length=n∧Ok ⟨H,B,z0t 0 ss vs,fun _ _=>False⟩ (z0Z vs) (z11 ss) H∧∃ y,G ss=some y∧match y with
 | .inl (r,outs)=>∀ v H',Aft ⟨H,B,z0t 0 ss vs,fun _ _=>False⟩ (z0Z vs) (z11 ss) H (z0Z vs) (z11 outs) H'→RepS ⟨H,B,z0t 0 ss vs,fun _ _=>False⟩ (z0Z vs) (z11 outs) H H' v r→Q v H'
 | .inr (x,outs)=>∀ C dx v H',mg (toS x.cls)=some (.ref C)→Aft ⟨H,B,z0t 0 ss vs,fun _ _=>False⟩ (z0Z vs) (z11 ss) H (z0Z vs) (z11 outs) H'→Rep H' (Av ⟨H,B,z0t 0 ss vs,fun _ _=>False⟩ (z0Z vs) (z11 outs)) v x.flds→(∀ y,v = .ref y→dx=some y)→E (.ref C) dx H'
def KFnX (P:Wj) (w:Wp) (K:W2) (mg:Str→Option Value) (base:Heap) (k:Nat) (x:Str) (n:Nat) (G:DX):Prop :=
 ∃ (f:Addr) (fd:WM) (ps:List Str),mg x=some (.ref f)∧Qe K (.ref f)=true∧Binds K fd ps []∧FnOk P w K mg base (CXe P w) k f fd ps (spX mg n G)
theorem zbe (h:(⟨H,B,z0t 0 ss vs,g⟩:Fc).I a):Own (z0Z vs) (z11 ss) a:=by
 obtain ⟨i,hi⟩:=h
 obtain ⟨j,d,_,e1,e2⟩:=z1n hi
 exact ⟨j,d,someS_get.mpr e1,some'_get.mpr e2⟩
section
variable {P:Wj} {w:Wp} {K:W2} {mg:Str→Option Value} {base:Heap}
theorem RepS.unxc (h:RepS { c with xc:=g } σ δ Hs H v r):RepS c σ δ Hs H v r:=by
 cases r with
 | pure d=>exact h
 | own d =>
  obtain ⟨a,e,o,n,f,k,q⟩:=h
  exact ⟨a,e,o,n,f,⟨k.keep,k.bd,k.ith,k.len,k.slot,k.own,k.inj,k.pinned⟩,q⟩
theorem zfl {x qual:Str} {st:Stmt} {f:Addr} {fd:WM} {N ps:List Str} {k:Nat} {np:List Nat} {fb:DS} {G:DX} (F:Fun K x qual st f fd) (S:FnScope N ps (z02 st))
  (hbody:∀ (c:Fc) (cdv:Value) (A:Wn) (outer:List Env) (s:W1) (H:Hp) (E:XK),Room k (A.deeper (J5 qual (z02 st) s.heap.objs.size f cdv))→Np c np →
   XOk (cxOf (CXe P w) P w K mg base N qual (z02 st) f cdv A outer s H E) (wD mg c)→SSs (cxOf (CXe P w) P w K mg base N qual (z02 st) f cdv A outer s H E) c (z13 st) fb)
  (hG:∀ ss y,G ss=some y→ioOk np 0 ss=true∧runX fb N.length ss=some y):FnOk P w K mg base (CXe P w) (k + 1) f fd ps (spX mg ps.length G):=by
 obtain ⟨oc,od,kV,doc,pm,an,cdv,ct,osl,rfl,lk,hcd⟩:=F.ex
 refine zfo lk hcd S (fun vs H Q E h=>?_) fun A outer s H vs Q E hr h=>?_
 ·obtain ⟨ss,B,hl,_⟩:=h
  exact hl
 ·obtain ⟨ss,B,hl,ok,y,hg,q⟩:=h
  obtain ⟨hio,hrun⟩:=hG ss _ hg
  have hvs:ss.length=vs.length:=by have:=ok.len; simpa using this
  let g:Xc→Dl→Prop:=fun x δ'=>∃ outs,z0d 0 ss δ'=some outs∧y = .inr (x,outs)
  have np':Np ⟨H,B,z0t 0 ss vs,g⟩ np:=fun p hp=>by
   obtain ⟨j,d,e,h1,_⟩:=z1n (i:=p.1) (a:=p.2) hp
   rw [e]
   exact z5Z hio h1
  have hst:start N vs=z0Z vs ++ Wa (N.length - ss.length) none:=by rw [hvs]; rfl
  have ok0:Ok ⟨H,B,z0t 0 ss vs,fun _ _=>False⟩ (start N vs) (z0j N.length ss) H:=by rw [hst]; exact ok.ext _
  have wish:∀ C dx σ' H',wD mg ⟨H,B,z0t 0 ss vs,g⟩ C dx σ' H'→E (.ref C) dx H':=fun C dx σ' H' ⟨z,δ',v,hm,k',rv,hv,outs,ho,hy⟩=>by
   rw [hy] at q
   have k1:Ok ⟨H,B,z0t 0 ss vs,fun _ _=>False⟩ σ' δ' H':=⟨k'.keep,k'.bd,k'.ith,k'.len,k'.slot,k'.own,k'.inj,k'.pinned⟩
   have a:Aft ⟨H,B,z0t 0 ss vs,fun _ _=>False⟩ (z0Z vs ++ Wa (N.length - ss.length) none) (z11 ss ++ Wa (N.length - ss.length) none) H σ' δ' H' :=
    Ok.since rfl (by rw [hst] at ok0; exact ok0) (fun a z=>Own.ext.mpr (zbe z)) k1
   exact q C dx v H' hm (z6D rfl ok a ho).1 ((z6D rfl ok a ho).2 v (.pure z.flds) rv) hv
  refine ⟨tDS ⟨H,B,z0t 0 ss vs,g⟩ fb,hbody ⟨H,B,z0t 0 ss vs,g⟩ cdv A outer s H E hr np' (zct wish),z0j N.length ss,⟨ok0.keep,ok0.bd,ok0.ith,ok0.len,ok0.slot,ok0.own,ok0.inj,ok0.pinned⟩,?_⟩
  unfold runX at hrun
  unfold z2r
  cases e:fb (z0j N.length ss) with
  | stuck=>rw [e] at hrun; cases hrun
  | exc x δx =>
   rw [e] at hrun
   simp only at hrun
   cases eo:z0d 0 ss δx with
   | none=>rw [eo] at hrun; cases hrun
   | some os =>
    rw [eo] at hrun
    cases hrun
    exact ⟨os,eo,rfl⟩
  | ok fl δ' =>
   rw [e] at hrun
   show ∀ σ' H',Aft _ (start N vs) (z0j N.length ss) H σ' δ' H'→fin _ _ σ' δ' H' fl
   intro σ' H' a
   rw [hst] at a
   have k1:=a.ok
   have a1:Aft ⟨H,B,z0t 0 ss vs,fun _ _=>False⟩ (z0Z vs ++ Wa (N.length - ss.length) none) (z0j N.length ss) H σ' δ' H':=⟨⟨k1.keep,k1.bd,k1.ith,k1.len,k1.slot,k1.own,k1.inj,k1.pinned⟩,a.keep,a.own,a.there⟩
   simp only at hrun
   cases fl with
   | brk=>cases hrun
   | cont=>cases hrun
   | next =>
    simp only [z0T,WC] at hrun
    cases eo:z0d 0 ss δ' with
    | none=>rw [eo] at hrun; cases hrun
    | some os =>
     rw [eo] at hrun
     cases hrun
     obtain ⟨l1,l2⟩:=z6D rfl ok a1 eo
     exact q .non H' l1 .non
   | ret r' =>
    simp only [z0T,WC] at hrun
    cases eo:z0d 0 ss δ' with
    | none=>rw [eo] at hrun; cases hrun
    | some os =>
     rw [eo] at hrun
     cases hrun
     obtain ⟨l1,l2⟩:=z6D rfl ok a1 eo
     exact fun v rv=>q v H' l1 (l2 v _ (RepS.unxc (c:=⟨H,B,z0t 0 ss vs,fun _ _=>False⟩) (g:=g) rv))
theorem zab {x qual:Str} {st:Stmt} {f:Addr} {fd:WM} {N ps:List Str} {k:Nat} {np:List Nat} {fb:DS} {G:DX} (F:Fun K x qual st f fd) (hm:mg x=some (.ref f)) (hb:Binds K fd ps []) (S:FnScope N ps (z02 st))
  (hbody:∀ (c:Fc) (cdv:Value) (A:Wn) (outer:List Env) (s:W1) (H:Hp) (E:XK),Room k (A.deeper (J5 qual (z02 st) s.heap.objs.size f cdv))→Np c np →
   XOk (cxOf (CXe P w) P w K mg base N qual (z02 st) f cdv A outer s H E) (wD mg c)→SSs (cxOf (CXe P w) P w K mg base N qual (z02 st) f cdv A outer s H E) c (z13 st) fb)
  (hG:∀ ss y,G ss=some y→ioOk np 0 ss=true∧runX fb N.length ss=some y):KFnX P w K mg base (k + 1) x ps.length G:=⟨f,fd,ps,hm,F.kp,hb,zfl F S hbody hG⟩
end
def zdg:(S×List S) ⊕ (Xc×List S)→List S
 | .inl y=>y.2
 | .inr y=>y.2
def z5b (G:DX):Prop:=∀ ss y,G ss=some y→∀ (j:Nat),(∀ d,ss[j]? = some (.own d)→∃ d',(zdg y)[j]? = some (.own d'))∧∀ d,ss[j]? = some (.pure d)→∃ d',(zdg y)[j]? = some (.pure d')
theorem z9C {ss os:List S} {δ:Dl} (e:z0d 0 ss δ=some os) (j:Nat):(∀ d,ss[j]? = some (.own d)→∃ d',os[j]? = some (.own d'))∧∀ d,ss[j]? = some (.pure d)→∃ d',os[j]? = some (.pure d'):=by
 obtain ⟨h1,h2⟩:=z4L e
 refine ⟨fun d ed=>?_,fun d ed=>?_⟩
 ·rcases h2 j _ ed with ⟨d',z,_⟩ | ⟨d',d'',_,_,z⟩
  ·cases z
  ·exact ⟨d'',z⟩
 ·rcases h2 j _ ed with ⟨d',z,z'⟩ | ⟨d',d'',z,_⟩
  ·exact ⟨d',z'⟩
  ·cases z
theorem z9c (h:runX fb n ss=some y):∃ δ,z0d 0 ss δ=some (zdg y):=by
 unfold runX at h
 cases e:fb (z0j n ss) with
 | stuck=>rw [e] at h; cases h
 | exc x δ =>
  rw [e] at h
  simp only at h
  cases e2:z0d 0 ss δ with
  | none=>rw [e2] at h; cases h
  | some os=>rw [e2] at h; cases h; exact ⟨δ,e2⟩
 | ok fl δ =>
  rw [e] at h
  simp only at h
  cases e1:z0T fl with
  | none=>rw [e1] at h; cases h
  | some r =>
   rw [e1] at h
   simp only [WC] at h
   cases e2:z0d 0 ss δ with
   | none=>rw [e2] at h; cases h
   | some os=>rw [e2] at h; cases h; exact ⟨δ,e2⟩
def gOfX (np:List Nat) (n:Nat) (b:DS):DX:=fun ss=>if ioOk np 0 ss then runX b n ss else none
theorem z60 (h:gOfX np n b ss=some y):ioOk np 0 ss=true∧runX b n ss=some y:=by
 unfold gOfX at h
 split at h
 ·exact ⟨by assumption,h⟩
 ·cases h
theorem z5x {np:List Nat} {n:Nat} {b:DS}:z5b (gOfX np n b):=fun ss y h j=>by
 obtain ⟨δ,e⟩:=z9c (z60 h).2
 exact z9C e j
def z2Z (G:DX) (as:List Ak):DE:=fun δ=>if (ios as).all (z0J δ) && ndup (ios as) then (evX as δ).bind fun ds δ1=>match mkA as ds δ1 with
  | none=>.stuck
  | some ss=>match G ss with
   | none=>.stuck
   | some (.inl (r,outs))=>.ok r (putA as outs δ1)
   | some (.inr (x,outs))=>.exc x (putA as outs δ1)
 else .stuck
section
variable {X:Cx} {c:Fc} {e:Expr} {es:List Expr} {as:List Ak} {k n:Nat} {x:Str} {G:DX} {pp pos:Pos}
theorem z8L (hK:z5b G) (hl:as.length=n) (h:tD c (z2Z G as) σ H Q):tX c as σ H fun vs H1=>spX X.mg n G vs H1 Q (fun c' dx H'=>∃ C,c' = .ref C∧wD X.mg c C dx σ H'):=by
 obtain ⟨δ,kk,q⟩:=h
 unfold z2Z at q
 split at q
 ·rename_i hc
  rw [Wh] at hc
  have nd:=z38 hc.2
  rw [z03] at q
  refine ⟨δ,kk,fun i hi=>?_,z00 q fun ds δ1 q1 vs H1 a1 r1=>?_⟩
  ·have:=Q3.mp hc.1 i (ios_mem.mpr hi)
   unfold z0J at this
   split at this
   ·rename_i d ed
    exact z2i kk ed
   ·cases this
  ·cases em:mkA as ds δ1 with
   | none=>rw [em] at q1; exact q1.elim
   | some ss =>
    rw [em] at q1
    simp only at q1
    cases eg:G ss with
    | none=>rw [eg] at q1; exact q1.elim
    | some y =>
     rw [eg] at q1
     have hin:=z7v a1.ok r1 em nd
     obtain ⟨m1,m2,_⟩:=z6C r1 em
     have g2:=hK ss y eg
     refine ⟨ss,_,by rw [← m2]; exact hl,hin,y,eg,?_⟩
     cases y with
     | inl y =>
      obtain ⟨r,outs⟩:=y
      intro v H2 a2 r2
      obtain ⟨o1,o2⟩:=z4u a1.ok r1 em nd rfl a2 (fun j d ed=>(g2 j).1 d ed) fun j d ed=>(g2 j).2 d ed
      exact q1 v H2 (a1.trans o1) (RepS.back (o2 v r r2) a1)
     | inr y =>
      obtain ⟨z,outs⟩:=y
      intro C dx v H2 hm a2 rv hv
      obtain ⟨o1,o2⟩:=z4u a1.ok r1 em nd rfl a2 (fun j d ed=>(g2 j).1 d ed) fun j d ed=>(g2 j).2 d ed
      exact ⟨C,rfl,z,putA as outs δ1,v,hm,o1.ok,o2 v (.pure z.flds) rv,hv,q1⟩
 ·exact q.elim
theorem z7M (F:KFnX X.prog X.w X.K X.mg X.base k x n G) (hK:z5b G) (hr:Room k X.A) (hex:X.ex=[]) (hx:XOk X (wD X.mg c)) (hg:Gl X x) (ha:SX X c (e :: es) as) (hl:as.length=n) (hdb:(x == ("__debug__" : Str))=false:=by decide)
  (he:W6 (e :: es) X.env=(false,eval e X.env) :: W6 es X.env:=by rfl) (hpl:(WZ pos (W6 es X.env)).any (·.1)=false:=by rfl):SE X c (.Call (.Name x pp) (e :: es) [] pos) (z2Z G as):=by
 obtain ⟨f,fd,ps,hm,hk,hb,ok⟩:=F
 exact PE.weak (z7T ok hr hex hg hm hk hb hx ha hdb he hpl) fun σ H Q h=>z8L hK hl h
end
def zbn (δ:Dl):Bool:=δ.all fun
 | some (.own _)=>false
 | _=>true
def unset (i:Nat):Rs Fl→Rs Fl
 | .ok fl δ=>.ok fl (δ.set i none)
 | r=>r
def dTry (ce:Tx→Nat) (ys:List Tx) (i:Nat) (fb fh:DS):DS:=fun δ=>if zbn δ then match fb δ with
  | .exc x δ'=>if ys.contains x.cls && decide (i < δ'.length) then unset i (fh (δ'.set i (some (.pure (.exc (ce x.cls) x.flds))))) else .stuck
  | r=>r
 else .stuck
section
variable {c:Fc} {σ σ':St} {δ δ':Dl} {H H':Hp}
theorem zeZ (h:Np c []):c.pin=[]:=by
 cases e:c.pin with
 | nil=>rfl
 | cons p r =>
  have:=h p (by rw [e]; exact Wm)
  simp at this
theorem Aft.unset (x:Aft c σ₀ δ₀ H₀ σ δ H) (hp:c.pin=[]) (i:Nat):Aft c σ₀ δ₀ H₀ (σ.set i none) (δ.set i none) H:=by
 have k:=x.ok
 have back:∀ {α:Type} {l:List (Option α)} {j:Nat} {v:α},(l.set i none)[j]? = some (some v)→l[j]? = some (some v)∧i≠j:=fun {α l j v} e=>by
  by_cases hj:i=j
  ·subst hj
   rw [WU] at e
   simp at e
  ·rw [W7 hj] at e
   exact ⟨e,hj⟩
 have own:∀ a,Own (σ.set i none) (δ.set i none) a→Own σ δ a:=fun a ⟨j,d,e1,e2⟩=>⟨j,d,(back e1).1,(back e2).1⟩
 have av:∀ a,Av c (σ.set i none) (δ.set i none) a→Av c σ δ a:=fun a z=>z.elim .inl fun z=>.inr (own a z)
 refine ⟨⟨k.keep,k.bd,k.ith,by simp [k.len],fun j d e=>?_,fun j d e=>?_,fun j1 j2 a d d' e1 e2 e3 e4=>k.inj j1 j2 a d d' (back e1).1 (back e2).1 (back e3).1 (back e4).1,fun p hm=>by rw [hp] at hm; simp at hm⟩,x.keep,fun a z=>x.own a (own a z),x.there⟩
 ·obtain ⟨e',n⟩:=back e
  obtain ⟨v,e1,r⟩:=k.slot j d e'
  exact ⟨v,by rw [W7 n]; exact e1,r.anti fun a z=>.inl (av a z)⟩
 ·obtain ⟨e',n⟩:=back e
  obtain ⟨a,e1,r,q⟩:=k.own j d e'
  exact ⟨a,by rw [W7 n]; exact e1,r.anti fun a z=>.inl (av a z),q⟩
end
section
variable {c:Fc} {σ σ':St} {δ δ':Dl} {H H':Hp} {B':Addr→Prop} {g:Xc→Dl→Prop}
theorem Ok.inTry (k:Ok c σ δ H) (h:zbn δ=true):Ok ⟨H,c.B,[],g⟩ σ δ H :=
 ⟨fun _ _ e _=>e,k.bd,fun a ⟨i,z⟩=>(by simp at z),k.len,k.slot,fun i d e=>((by have:=Q3.mp h _ (WI e); cases this)),k.inj,fun p z=>(by simp at z)⟩
theorem Ok.outTry (k:Ok c σ δ H) (hp:c.pin=[]) (k':Ok ⟨H,B',[],g⟩ σ' δ' H'):Ok { c with B:=B' } σ' δ' H':=by
 have nI:∀ a,¬ c.I a:=fun a ⟨i,z⟩=>by rw [hp] at z; simp at z
 have nI':∀ a,¬ (⟨H,B',[],g⟩:Fc).I a:=fun a ⟨i,z⟩=>by simp at z
 refine ⟨fun a o e n=>k'.keep a o (k.keep a o e n) (nI' a),k'.bd,fun a z=>absurd z (nI a),k'.len,k'.slot,fun i d e=>?_,k'.inj,fun p z=>by rw [show ({ c with B:=B' }:Fc).pin=c.pin from rfl,hp] at z; simp at z⟩
 obtain ⟨a,e1,r,q,nb⟩:=k'.own i d e
 refine ⟨a,e1,r,.inr ?_,nb⟩
 rcases q with q | q
 ·exact absurd q (nI' a)
 ·exact k.fresh₀ q
theorem Aft.outTry (k:Ok c σ δ H) (hp:c.pin=[]) (x:Aft ⟨H,c.B,[],g⟩ σ δ H σ' δ' H'):Aft c σ δ H σ' δ' H':=⟨k.outTry hp x.ok,x.keep,x.own,x.there⟩
theorem RepS.outTry (k:Ok c σ δ H) (hp:c.pin=[]) (h:RepS ⟨H,c.B,[],g⟩ σ' δ' H H' v r):RepS c σ' δ' c.H₀ H' v r:=by
 cases r with
 | pure d=>exact h
 | own d =>
  obtain ⟨a,e,o,n,f,k',q⟩:=h
  exact ⟨a,e,o,n,k.fresh₀ f,k.outTry hp k',k.fresh₀ f⟩
theorem RepS.unset (hp:c.pin=[]) (i:Nat) (h:RepS c σ δ Hs H v r):RepS c (σ.set i none) (δ.set i none) Hs H v r:=by
 have own:∀ a,Own (σ.set i none) (δ.set i none) a→Own σ δ a:=fun a ⟨j,d,e1,e2⟩=>by
  have back:∀ {α:Type} {l:List (Option α)} {v:α},(l.set i none)[j]? = some (some v)→l[j]? = some (some v):=fun {α l v} e=>by
   by_cases hj:i=j
   ·subst hj; rw [WU] at e; simp at e
   ·rw [W7 hj] at e; exact e
  exact ⟨j,d,back e1,back e2⟩
 cases r with
 | pure d=>exact Rep.anti h fun a z=>.inl (z.elim .inl fun z=>.inr (own a z))
 | own d =>
  obtain ⟨a,e,o,n,f,k,q⟩:=h
  exact ⟨a,e,o.anti fun b z=>.inl (z.elim .inl fun z=>.inr (own b z)),n,f,(Aft.unset (Aft.refl k) hp i).ok,q⟩
end
theorem ze3 (hex:X.ex=[]) (hnp:Np c []) (hst:X.stack=X.env :: X.outer) (hf:X.env.frame=some X.env.locals)
  (hN:X.N.Nodup) (hi:X.N[i]? = some n) (hl:X.env.scope.names.lookup n=some .local) (hg:Gl X x) (hm:X.mg x=some (.ref B)) (qB:ExcC X.K B)
  (hys:∀ y ∈ ys,X.mg (toS y)=some (.ref (ce y))∧PySem.W.mroIn X.K (ce y) (.ref B)=some true)
  (hb:∀ (c':Fc) (pn:List (Addr×Obj)) (xe:Value→W1→Prop),Np c' []→XOk (X.wt pn xe) (wD X.mg c')→SSs (X.wt pn xe) c' body fb) (hh:∀ a,SSs (X.hand a) c (b₀ :: suite) fh) (hdb:(x == ("__debug__" : Str))=false:=by decide) :
  SS X c (.Try body [.ExceptHandler (some (.Name x np)) (some n) (b₀ :: suite) hpos] [] [] pos) (dTry ce ys i fb fh):=by
 have hp:=zeZ hnp
 refine PS.weak (z9s (i:=i) (B:=B) (th:=fun _ _=>tDS c fh)
  (tb:=fun W D σ H=>tDS ⟨H,c.B,[],fun z δ'=>∀ σ' H',Ok ⟨H,c.B,[],fun _ _=>False⟩ σ' δ' H'→∀ C dx v,X.mg (toS z.cls)=some (.ref C)→Rep H' (Av ⟨H,c.B,[],fun _ _=>False⟩ σ' δ') v z.flds→(∀ y,v = .ref y→dx=some y)→W C dx σ' H'⟩ fb D σ H) hex hst hf hN hi hl hg hm qB hdb
  (fun W pn xe acc pins s σ H D I hw=>hb _ pn xe (fun p z=>(by simp at z)) (fun ps σ' H' s' a C dx J co ⟨y,δ',v,hy,k',rv,hv,w'⟩=>acc ps σ' H' s' a C dx J co (w' σ' H' ⟨k'.keep,k'.bd,k'.ith,k'.len,k'.slot,k'.own,k'.inj,k'.pinned⟩ C dx v hy rv hv)) pins s σ H D I hw)
  (fun _ a=>hh a)) fun D σ H ⟨δ,k,q⟩=>?_
 unfold dTry at q
 split at q
 ·rename_i hno
  refine ⟨δ,k.inTry hno,?_⟩
  unfold z2r at q ⊢
  cases e:fb δ with
  | stuck=>rw [e] at q; exact q.elim
  | ok fl δ' =>
   rw [e] at q
   intro σ' H' a
   have f0:=q σ' H' (Aft.outTry k hp a)
   cases fl with
   | next=>exact f0
   | brk=>exact f0
   | cont=>exact f0
   | ret r=>exact fun v rv=>f0 v (RepS.outTry k hp rv)
  | exc z δ' =>
   rw [e] at q
   simp only at q
   split at q
   ·rename_i hc
    simp only [Wh,decide_eq_true_eq] at hc
    obtain ⟨hy,hlt⟩:=hc
    intro σ' H' k' C dx v hC rv hv
    obtain ⟨y1,y2⟩:=hys z.cls (by simpa using hy)
    rw [y1] at hC
    cases hC
    refine ⟨y2,v,hv,fun a ha=>?_⟩
    have A1:Aft c σ δ H σ' δ' H':=Aft.outTry k hp (Ok.since (c:=⟨H,c.B,[],fun _ _=>False⟩) rfl (k.inTry hno) (fun a ⟨j,z⟩=>by simp at z) k')
    have A2:=A1.trans (Aft.alloc A1.ok ha (.ext (excAt (ce z.cls) v a)))
    have A3:=Ok.set (i:=i) (v:=.ref a) (r:=.pure (.exc (ce z.cls) z.flds)) A2 (.exc (A1.ok.nav ha) z0k (Rep.aft rv (Aft.alloc A1.ok ha _))) (fun p zz=>by rw [hp] at zz; simp at zz)
    refine ⟨δ'.set i (some (.pure (.exc (ce z.cls) z.flds))),A3.ok,?_⟩
    unfold z2r
    generalize fh (δ'.set i (some (.pure (.exc (ce z.cls) z.flds))))=r at q
    cases r with
    | stuck=>exact q.elim
    | exc z' δ4=>exact q
    | ok fl δ4 =>
     intro σ4 H4 A4
     have f0:=q (σ4.set i none) H4 (Aft.unset (A3.trans A4) hp i)
     cases fl with
     | next=>exact f0
     | brk=>exact f0
     | cont=>exact f0
     | ret r=>exact fun v rv=>f0 v (RepS.unset hp i rv)
   ·exact q.elim
 ·exact q.elim
end DV
namespace L2
open PySem PySem.Spec PyProof.Rows PySem.W Builtin Builtin.ObjectAttr Builtin.Getset_descriptor
section
variable {prog:Wj} {w:Wp} {A:Wn} {E:Value→W1→Prop} {K:W2} {C e:Addr} {oe:Obj} {h:Heap} {g:Array GenState} {d:Drawn} {t:Nat} {os:OsState}
structure ExcK (K:W2) (C:Addr):Prop where
 ga:Qp K (.ref C) "__getattribute__" = some (some (.builtin "BaseException.__getattribute__"))
 gt:Qp K (.ref C) "__getattr__" = some none
 cl:Qp K (.ref C) "__class__" = some (some (.builtin "object.__class__"))
 sp:specialIn K (.builtin "object.__class__") "__get__" = some (some (.builtin "getset_descriptor.__get__"))
 tk:takesIn K (.builtin "object.__class__")=some true
 mo:mroIn K C (.type "object")=some true
 mb:mroIn K C (.type "BaseException")=some true
theorem zdF (X:K.In h) (k:ExcK K C) (he:h.get? e=some oe) (hc:oe.cls = .ref C) (q:R (.ok (.ret (.ref C))) ⟨h,g,d,t,os⟩) :
  Q9 (model prog w) A (.call (.builtin "getset_descriptor.__get__") ⟨[.builtin "object.__class__",.ref e,tp],[]⟩) R ⟨h,g,d,t,os⟩:=by
 have l1:Looks (model prog w) h (typeOf (.ref e)) (.ref C):=hc ▸ (Looks.ld he).andThen .now
 have l2:=looks_mroIn (M:=model prog w) X k.mo
 refine Jd
  KF.slot_gs.plain KF.entry_gs
  (KF.slot_gs.check _ _ _ _ _ _ _ _
   KF.type_class (KF.args_gs _ _ _) ?_)
 unfold Builtin.«getset_descriptor.__get__» descrGet; rw [dga_obj]
 refine W0 (W3 ?_)
 unfold descrGetter descrCheckInstance descrNameAndClass isInstance; simp only [KF.owner_class]
 repeat lk
 refine ⟨Code.quiet_builtin _ (by decide +kernel),
  Q8 KF.entry_class ?_⟩
 unfold Builtin.«object.__class__» shownTypeOf; repeat lk
 exact q
theorem zai (X:K.In h) (k:ExcK K C) (he:h.get? e=some oe) (hc:oe.cls = .ref C) (q:Q (.done (.ret (.ref C))) ⟨h,g,d,t,os⟩) :
  W5 (model prog w) A (Builtin.«object.__getattribute__» ⟨[.ref e,.str "__class__" tk],[]⟩) Q E ⟨h,g,d,t,os⟩:=by
 have l0:Looks (model prog w) h (typeOf (.ref e)) (.ref C):=hc ▸ (Looks.ld he).andThen .now
 have l1:=JO (M:=model prog w) X k.cl
 have l2:=KF.type_class
 have l3:=F.slot_gs_get.lookup
 have l4:=F.slot_gs_set.lookup
 repeat (any_goals (first | assumption | with_reducible refine Looks.at l0 ?_ | with_reducible refine Looks.at l1 ?_ | (with_reducible refine Qh he ?_; rw [hc]) | wp_step))
 refine zdF X k he hc ?_
 repeat (any_goals (first | assumption | wp_step))
theorem z6P (X:K.In h) (k:ExcK K C) (he:h.get? e=some oe) (hc:oe.cls = .ref C) (q:Q () ⟨h,g,d,t,os⟩) :
  W5 (model prog w) A (checkBuiltinCall "BaseException.__getattribute__" ⟨[.ref e,nv],[]⟩) Q E ⟨h,g,d,t,os⟩:=by
 have l0:Looks (model prog w) h (typeOf (.ref e)) (.ref C):=hc ▸ (Looks.ld he).andThen .now
 have l1:=looks_mroIn (M:=model prog w) X k.mb
 have b1:builtinKind "BaseException.__getattribute__" = some .slot:=by decide +kernel
 have b2:splitId "BaseException.__getattribute__" = some ("BaseException","__getattribute__"):=by decide +kernel
 have b3:=F.args_bexc_ga (.ref e) nv
 simp only [checkBuiltinCall,b1,b2]
 refine W0 ?_
 unfold isInstance
 repeat (first | with_reducible refine Looks.at l0 ?_ | with_reducible refine Looks.at l1 ?_ | (with_reducible refine Qh he ?_; rw [hc]) | wp_step)
 exact q
theorem zaj (X:K.In h) (k:ExcK K C) (he:h.get? e=some oe) (hc:oe.cls = .ref C) (q:Q (some (.ref C)) ⟨h,g,d,t + 1,os⟩):W5 (model prog w) A (getAttr? (.ref e) "__class__") Q E ⟨h,g,d,t,os⟩:=by
 have L0:Looks (model prog w) h (typeOf (.ref e)) (.ref C):=hc ▸ (Looks.ld he).andThen .now
 have L1:=JO (M:=model prog w) X k.ga
 have L2:=JO (M:=model prog w) X k.gt
 have L3:=looks_mroIn (M:=model prog w) X k.mb
 have hx0:(false && onTheHeap (Value.builtin "BaseException.__getattribute__"))=false:=rfl
 have hx2:(Value.builtin "BaseException.__getattribute__" == Value.builtin "object.__getattribute__")=false:=by decide +kernel
 have f3:=F.attrBase_ValueError.ga.bind (.ref e)
 unfold getAttr? getAttrBy? getAttrBy
 refine W0 (wpAny_mkText (W0 (wpAny_attempt (WF (W0 (L0.at (W0 (L1.at ?_))))))))
 dsimp only
 rw [hx2,Bool.and_false]
 simp only [WG,if_false]
 unfold getAttrByItsOwn hookBefore
 repeat (any_goals (first | assumption | with_reducible refine Looks.at L2 ?_ | wp_step))
 refine Jd F.attrBase_ValueError.ga.plain F.entry_bexc_ga (z6P X k he hc (zai X k he hc ?_))
 repeat (any_goals (first | assumption | wp_step))
theorem zbw {v:V} (k:ExcK K C) (hk:(clsIn K C).isSome=true):KitX K (.ref e) (.ref C) (DV.excAt C v e) where
 ty:=fun M h X ⟨o,h1,h2,_⟩=>h2 ▸ (Looks.ld h1).andThen .now
 it:=fun M h X _=>by
  obtain ⟨cd,hcd⟩:=QI.mp hk
  unfold clsIn at hcd
  split at hcd
  next c' d' cd' sl' ho=>exact fun A' Q' E' s' kk q=>by unfold isType loadHead; exact W0 (wpAny_loadPart (kk _ _ (X _ _ ho)) (W3 q))
  next=>cases hcd
 ne:=fun h tp dd its n sl X htp=>by
  obtain ⟨cd,hcd⟩:=QI.mp hk
  refine Bool.eq_false_iff.mpr fun q=>?_
  obtain rfl:C=tp:=Value.ref.inj (beq_iff_eq.mp q)
  unfold clsIn at hcd
  split at hcd
  next c' d' cd' sl' ho=>have z:=(X _ _ ho).symm.trans htp; cases z
  next=>cases hcd
 ca:=fun {prog w A E Q s} X ⟨o,h1,h2,_⟩ q=>by
  obtain ⟨hh,gg,dd,tt,oo⟩:=s
  exact zaj X k h1 h2 q
end
section
variable {X:Cx} {y:Str} {D:Addr} {pos:Pos}
theorem zeM (hg:Gl X y) (hm:X.mg y=some (.ref D)) (hd:(y == ("__debug__" : Str))=false:=by decide):PE X (.Name y pos) (fun σ H Q=>Q (.ref D) H):=fun pins s σ H Q I h=>z3p I hg hm ⟨.ref D,H,I,rfl,h⟩ hd
structure IsT (K:W2) (ce:DV.Tx→Nat) (ys:List DV.Tx) (cv:Value) (tab:DV.Tx→Bool):Prop where
 k:∀ z ∈ ys,ExcK K (ce z)
 c:∀ z ∈ ys,(PySem.W.clsIn K (ce z)).isSome=true
 one:∀ z ∈ ys,Qz K (.ref (ce z)) cv=some (tab z)
theorem z8e (hcv:∀ u,RelV cV u→u=cv) (T:IsT X.K ce ys cv tab) :
  CallR X (.builtin "isinstance") (fun xs H Q=>∃ (a:Addr) (z:DV.Tx) (v:V),xs=[.ref a,cV]∧H a=some (.ext (DV.excAt (ce z) v a))∧z ∈ ys∧Q (.bl (tab z)) H):=by
 intro pins s σ H xs us Q I r h
 obtain ⟨a,z,v,rfl,ha,hz,q⟩:=h
 obtain ⟨u,w',rfl,r1,r2⟩:=zcu r
 cases r1
 have e:=hcv _ r2
 subst e
 obtain ⟨p,_,_⟩:=I.hok a _ ha
 exact Q0 (zbw (T.k z hz) (T.c z hz)) I.kIn p (T.one z hz) (fun z=>nomatch z) fun tk=>⟨.bl (tab z),H,I.tok tk,rfl,q⟩
end
structure RoomH (k:Nat) (A:Wn):Prop where
 dp:A.depth + 3 * k + 5 < recursionLimit
 un:A.units + 16 * k + 200 < Qt
theorem RoomH.deeper (r:RoomH (k + 1) A) (env:Env):RoomH k (A.deeper env) :=
 ⟨by have:=r.dp; show A.depth + 1 + 3 * k + 5 < _; omega,by have:=r.un; show A.units + 3 + 16 * k + 200 < _; omega⟩
theorem Room.h (r:Room k A):RoomH k A:=⟨r.dp,r.un⟩
theorem RoomH.mono (r:RoomH k A) (h:j≤k):RoomH j A:=⟨by have:=r.dp; omega,by have:=r.un; omega⟩
theorem RoomH.mark (r:RoomH k A) (v:Option Value):RoomH k (A.mark v):=⟨r.dp,r.un⟩
def Cx.cold (X:Cx):Cx:={ X with calm:=false,xe:=fun _ _=>False }
structure FnOkH (P:Wj) (w:Wp) (K:W2) (mg:Str→Option Value) (base:Heap) (k:Nat) (f:Addr) (fd:WM) (ps:List Str) (sp:Sp):Prop where
 len:∀ vs H Q E,sp vs H Q E→vs.length=ps.length
 run:∀ (A:Wn) (outer:List Env) (s:W1) (H:Hp) (args:Args) (us:List Value) (vs:List V) (Q:VK),RoomH k A→Env0 P w K mg base A outer s H→BindsTo s fd args (ps.zip us)→Vals vs us→sp vs H Q E0 →
  Q9 (model P w) A (.call (.ref f) args) (CR CX0 outer P w H s Q E0) s
section
variable {P:Wj} {w:Wp} {K:W2} {mg:Str→Option Value} {base:Heap} {k:Nat} {f:Addr}
theorem zfn {x qual:Str} {st:Stmt} {fd:WM} {N ps:List Str} {sp:Sp} (F:Fun K x qual st f fd) (S:FnScope N ps (z02 st)) (len:∀ vs H Q E,sp vs H Q E→vs.length=ps.length)
  (hbody:∀ (cdv:Value) (A:Wn) (outer:List Env) (s:W1) (H:Hp) (vs:List V) (Q:VK),RoomH k (A.deeper (J5 qual (z02 st) s.heap.objs.size f cdv))→sp vs H Q E0 →
   ∃ t,PSs (cxOf CX0 P w K mg base N qual (z02 st) f cdv A outer s H E0).cold (z13 st) t∧t { nx:=fun _ H'=>Q .non H',rt:=Q } (start N vs) H):FnOkH P w K mg base (k + 1) f fd ps sp:=by
 obtain ⟨oc,od,kV,doc,pm,an,cdv,ct,osl,rfl,lk,hcd⟩:=F.ex
 refine ⟨len,fun A outer s H args us vs Q hr e0 hb r hsp=>?_⟩
 have hl:=len _ _ _ _ hsp
 have KX:K.In s.heap:=e0.mod.kin.keeps fun b o e=>(e0.bs b o e).1
 have lim:s.heap.NoLimit:=e0.mod.nolimit.keeps fun b o e=>(e0.bs b o e).1
 have hkind:∀ y ∈ ps.zip us,(z02 st).names.lookup y.1=some .local∨((z02 st).names.lookup y.1=some .cell∧((Qu (s.heap.objs.size + 1) (z02 st).names []).lookup y.1).isSome=true):=fun ⟨n,v⟩ hy=>by
  rcases S.par n (U0 hy).1 with q | q
  ·exact .inl q
  ·exact .inr ⟨q,Jr _ _ _ (.inl q)⟩
 have hdep:A.depth < recursionLimit:=by have:=hr.dp; omega
 refine codeAny_call_function hdep (KX _ _ lk) rfl S.co S.gen rfl (PySem.W.codeRec_of KX hcd) (hb _ _ _ _ ?_)
 refine wpAny_newFunctionEnv_cells S.kind hkind fun env he s1 x=>?_
 subst he
 refine ⟨lim.keeps x.toInCall.keep,codeAny_func ?_⟩
 obtain ⟨t,ht,hq⟩:=hbody cdv A outer s H vs Q (hr.deeper _) hsp
 have e1:Env0 P w K mg base { A with handled:=none } outer s H:=⟨e0.frames,e0.mod,e0.bs,e0.bsz,e0.funs,e0.frf,e0.hok,e0.bare⟩
 have J:=z6J (CX:=CX0) (E:=E0) (qual:=qual) (f:=f) (cd:=cdv) (A:={ A with handled:=none }) S rfl e1 hl r x
 have I:Inv (cxOf CX0 P w K mg base N qual (z02 st) f cdv A outer s H E0).cold [] (start N vs) H s1:=by
  have o:=J.ok
  exact ⟨⟨o.mod,o.kind,o.glob,o.blt,o.above,o.inj,o.has,o.cab,fun z=>(by cases z),Around.frames_deeper e0.frames,o.stk,o.exf,o.bs,o.bsz,o.noex,o.exfs,o.funs,o.frf⟩,J.os,J.bare,J.base,J.loc,J.cell,J.free,J.freeC,J.pin,J.hok,J.len⟩
 refine WE (ht [] s1 (start N vs) H _ I hq) (fun fl s' hs=>?_) fun e s' hs=>hs.elim
 cases fl with
 | ret u =>
  obtain ⟨v,σ',H',J2,rv,q⟩:=hs
  exact ⟨v,H',J2.os,J2.bare,J2.base,J2.hok,rv,q⟩
 | next =>
  obtain ⟨σ',H',J2,q⟩:=hs
  exact ⟨V.non,H',J2.os,J2.bare,J2.base,J2.hok,rfl,q⟩
 | brk =>
  obtain ⟨_,_,_,q⟩:=hs
  exact False.elim q
 | cont =>
  obtain ⟨_,_,_,q⟩:=hs
  exact False.elim q
end
section
variable {X:Cx} {k:Nat} {f:Addr} {fd:WM} {ps:List Str} {sp:Sp} {x:Str} {p pos:Pos} {e:Expr} {es:List Expr} {t:TA}
theorem zba (F:FnOkH X.prog X.w X.K X.mg X.base k f fd ps sp) (hr:RoomH k X.A) (hg:Gl X x) (hm:X.mg x=some (.ref f)) (hk:Qe X.K (.ref f)=true) (hb:Binds X.K fd ps [])
  (ha:PA X (e :: es) t) (hdb:(x == ("__debug__" : Str))=false:=by decide) (he:W6 (e :: es) X.env=(false,eval e X.env) :: W6 es X.env:=by rfl) (hpl:(WZ pos (W6 es X.env)).any (·.1)=false:=by rfl) :
  PE X (.Call (.Name x p) (e :: es) [] pos) (zcz sp [] E0 t):=by
 intro pins s σ H Q I h
 refine QU (z3p I hg hm ?_ hdb)
 refine PySem.W.callWith_K (h₀:=X.base) I.ok.mod.kin hk (thn (ha pos pins s σ H _ I h) fun us s1 ⟨vs,H1,I1,r,q⟩=>⟨I1.kIn,?_⟩) he hpl
 have q:sp vs H1 Q E0:=by have q':sp (vs ++ []) H1 Q E0:=q; rwa [WN] at q'
 have hl:(us ++ []).length=ps.length:=by rw [WN,← r.length]; exact F.len _ _ _ _ q
 refine wpAny_call (QT (F.run X.A X.stack s1 H1 ⟨us,[]⟩ us vs Q hr I1.env0 (by have:=hb s1 us I1.kIn hl; rwa [WN] at this) r q) fun r s' hq=>?_)
 cases r with
 | error e=>exact False.elim hq
 | ok fl =>
  cases fl with
  | ret u=>exact I1.after hq
  | next=>exact False.elim hq
  | brk=>exact False.elim hq
  | cont=>exact False.elim hq
end
end L2
namespace DV
open PySem PySem.Spec PyProof.Rows L2
def eIsC (ce:Tx→Nat) (ys:List Tx) (tab:Tx→Bool) (fb:BE):DE:=fun δ=>(fb δ).bind fun d δ'=>match d with
 | .exc n _=>match ys.find? fun z=>ce z == n with
  | some z=>.ok (.pure (.bl (tab z))) δ'
  | none=>.stuck
 | _=>.stuck
section
variable {X:Cx} {c:Fc} {e:Expr} {fb:BE} {pp py pos:Pos} {y:Str} {ce:Tx→Nat} {ys:List Tx} {tab:Tx→Bool}
theorem z81 (h:tD c (eIsC ce ys tab fb) σ H Q):tB c fb σ H fun v H1=>∃ (a:Addr) (z:Tx) (w:V),[v,cV]=[.ref a,cV]∧H1 a=some (.ext (excAt (ce z) w a))∧z ∈ ys∧Q (.bl (tab z)) H1:=by
 obtain ⟨δ,k,q⟩:=h
 unfold eIsC at q
 rw [z03] at q
 refine ⟨δ,k,z00 q fun d δ1 q1 v H1 a1 r1=>?_⟩
 cases d <;> first | exact q1.elim | skip
 rename_i n fl
 simp only at q1
 split at q1
 ·rename_i z hz
  have h1:=JG hz
  have h2:=Je hz
  have e:ce z=n:=by simpa using h1
  subst e
  rcases r1 with r1 | ⟨a,_,o⟩
  ·cases r1 with
   | exc _ ha _=>exact ⟨_,z,_,rfl,ha,h2,q1 _ H1 a1 (.bl _)⟩
  ·exact o.elim
 ·exact q1.elim
theorem z3D {D:Addr} (T:IsT X.K ce ys (.ref D) tab) (hg:Gl X "isinstance") (hm:X.mg "isinstance" = none) (hgy:Gl X y) (hmy:X.mg y=some (.ref D)) (he:SB X c e fb) (hdy:(y == ("__debug__" : Str))=false:=by decide)
  (hs:W6 [e,.Name y py] X.env=(false,eval e X.env) :: W6 [.Name y py] X.env:=by rfl) (hpl:(WZ pos (W6 [.Name y py] X.env)).any (·.1)=false:=by rfl) :
  SE X c (.Call (.Name "isinstance" pp) [e,.Name y py] [] pos) (eIsC ce ys tab fb) :=
 PE.weak (z37 (z8e (cV:=.ref D) (fun u r=>by cases r; rfl) T) hg hm PyProof.Rows.boot_isinstance (z0V he (z0V (zeM hgy hmy hdy) z1K) hs) (by decide) (by decide) hs hpl) fun σ H Q h=>z81 h
theorem ze8 {T':String} (T:IsT X.K ce ys (.type T') tab) (hg:Gl X "isinstance") (hm:X.mg "isinstance" = none) (hgy:Gl X y) (hmy:X.mg y=none) (hvy:Qk y=some (.type T')) (he:SB X c e fb)
  (hny:y≠"__name__":=by decide) (hdy:(y == ("__debug__" : Str))=false:=by decide)
  (hs:W6 [e,.Name y py] X.env=(false,eval e X.env) :: W6 [.Name y py] X.env:=by rfl) (hpl:(WZ pos (W6 [.Name y py] X.env)).any (·.1)=false:=by rfl) :
  SE X c (.Call (.Name "isinstance" pp) [e,.Name y py] [] pos) (eIsC ce ys tab fb) :=
 PE.weak (z37 (z8e (cV:=.ty T') (fun u r=>by cases r; rfl) T) hg hm PyProof.Rows.boot_isinstance (z0V he (z0V (z9z (v:=.ty T') hgy hmy hvy rfl hny hdy) z1K) hs) (by decide) (by decide) hs hpl) fun σ H Q h=>z81 h
end
def KFnH (P:Wj) (w:Wp) (K:W2) (mg:Str→Option Value) (base:Heap) (k:Nat) (x:Str) (n:Nat) (G:DF):Prop :=
 ∃ (f:Addr) (fd:WM) (ps:List Str),mg x=some (.ref f)∧Qe K (.ref f)=true∧Binds K fd ps []∧FnOkH P w K mg base k f fd ps (spD n G)
theorem zcf (r:RoomH k A):A.units + 64 < Qt:=by have:=r.un; omega
section
variable {P:Wj} {w:Wp} {K:W2} {mg:Str→Option Value} {base:Heap}
theorem zac {x qual:Str} {st:Stmt} {f:Addr} {fd:WM} {N ps:List Str} {k:Nat} {np:List Nat} {fb:DS} {G:DF} (F:Fun K x qual st f fd) (hm:mg x=some (.ref f)) (hb:Binds K fd ps []) (S:FnScope N ps (z02 st))
  (hbody:∀ (c:Fc) (cdv:Value) (A:Wn) (outer:List Env) (s:W1) (H:Hp) (E:XK),RoomH k (A.deeper (J5 qual (z02 st) s.heap.objs.size f cdv))→Np c np→SSs (cxOf CX0 P w K mg base N qual (z02 st) f cdv A outer s H E).cold c (z13 st) fb)
  (hG:∀ ss y,G ss=some y→ioOk np 0 ss=true∧runD fb N.length ss=some y):KFnH P w K mg base (k + 1) x ps.length G:=by
 refine ⟨f,fd,ps,hm,F.kp,hb,zfn F S (fun vs H Q E h=>?_) fun cdv A outer s H vs Q hr h=>?_⟩
 ·obtain ⟨ss,B,hl,_⟩:=h
  exact hl
 ·obtain ⟨ss,B,hl,ok,r,outs,hg,q⟩:=h
  obtain ⟨hio,hrun⟩:=hG ss _ hg
  have hvs:ss.length=vs.length:=by have:=ok.len; simpa using this
  have np':Np ⟨H,B,z0t 0 ss vs,fun _ _=>False⟩ np:=fun p hp=>by
   obtain ⟨j,d,e,h1,_⟩:=z1n (i:=p.1) (a:=p.2) hp
   rw [e]
   exact z5Z hio h1
  refine ⟨tDS ⟨H,B,z0t 0 ss vs,fun _ _=>False⟩ fb,hbody ⟨H,B,z0t 0 ss vs,fun _ _=>False⟩ cdv A outer s H E0 hr np',?_⟩
  have hst:start N vs=z0Z vs ++ Wa (N.length - ss.length) none:=by rw [hvs]; rfl
  refine ⟨z0j N.length ss,by rw [hst]; exact ok.ext _,?_⟩
  unfold runD at hrun
  unfold z2r
  cases e:fb (z0j N.length ss) with
  | exc x δx=>rw [e] at hrun; cases hrun
  | stuck=>rw [e] at hrun; cases hrun
  | ok fl δ' =>
   rw [e] at hrun
   show ∀ σ' H',Aft _ (start N vs) (z0j N.length ss) H σ' δ' H'→fin _ _ σ' δ' H' fl
   intro σ' H' a
   rw [hst] at a
   simp only at hrun
   cases fl with
   | brk=>cases hrun
   | cont=>cases hrun
   | next =>
    simp only [z0T,WC] at hrun
    cases eo:z0d 0 ss δ' with
    | none=>rw [eo] at hrun; cases hrun
    | some os =>
     rw [eo] at hrun
     cases hrun
     obtain ⟨l1,l2⟩:=z6D rfl ok a eo
     exact q .non H' l1 .non
   | ret r' =>
    simp only [z0T,WC] at hrun
    cases eo:z0d 0 ss δ' with
    | none=>rw [eo] at hrun; cases hrun
    | some os =>
     rw [eo] at hrun
     cases hrun
     obtain ⟨l1,l2⟩:=z6D rfl ok a eo
     exact fun v rv=>q v H' l1 (l2 v _ rv)
end
section
variable {X:Cx} {c:Fc} {e:Expr} {es:List Expr} {as:List Ak} {k n:Nat} {x:Str} {G:DF} {pp pos:Pos}
theorem z5K (F:KFnH X.prog X.w X.K X.mg X.base k x n G) (hK:z1J G) (hr:RoomH k X.A) (hg:Gl X x) (ha:SX X c (e :: es) as) (hl:as.length=n) (hdb:(x == ("__debug__" : Str))=false:=by decide)
  (he:W6 (e :: es) X.env=(false,eval e X.env) :: W6 es X.env:=by rfl) (hpl:(WZ pos (W6 es X.env)).any (·.1)=false:=by rfl):SE X c (.Call (.Name x pp) (e :: es) [] pos) (z05 G as):=by
 obtain ⟨f,fd,ps,hm,hk,hb,ok⟩:=F
 exact PE.weak (zba ok hr hg hm hk hb ha hdb he hpl) fun σ H Q h=>z6U (ps:=ps) hK hl h
end
end DV
namespace L2
open PySem PySem.Spec PyProof.Rows PySem.SeqAt
theorem z5D:∀ {bs:List Bool} {us:List Value},Vals (bs.map V.bl) us→us=bs.map Value.bool
 | [],us,r=>by cases r; rfl
 | b :: bs,us,r=>by
  cases r with
  | cons r1 r2 =>
   cases r1
   rw [z5D r2]
   rfl
def z4Y:Value→Bool
 | .bool b=>b
 | _=>false
theorem z56:∀ bs:List Bool,(bs.map Value.bool).countP z4Y=bs.count true
 | []=>rfl
 | b :: bs=>by
  rw [Wr,List.countP_cons,z56 bs,List.count_cons]
  cases b <;> rfl
def zc4 (K:W2):V→List V→Hp→VK→Prop:=fun x xs H Q=>∃ (a:Addr) (bs:List Bool),x = .ref a∧xs=[.bl true]∧SqL K H a (bs.map V.bl)∧Q (.int (bs.count true:Nat)) H
def zc2 (K:W2):V→List V→Hp→VK→Prop:=fun x xs H Q=>∃ (a:Addr) (bs:List Bool),x = .ref a∧xs=[.bl true]∧SqL K H a (bs.map V.bl)∧true ∈ bs∧bs.length≤1000∧Q (.int (bs.idxOf true:Nat)) H
section
variable {X:Cx}
theorem zbq:MtR X "list.count" (zc4 X.K):=by
 intro pins s σ H x xs v us Q I rx rs h
 obtain ⟨a,bs,rfl,rfl,hq,q⟩:=h
 obtain ⟨u,rfl,ru⟩:=z3R rs
 cases ru
 cases rx
 obtain ⟨its,r',p,_⟩:=I.list hq
 obtain rfl:=z5D r'
 obtain ⟨⟨cls,dd,data,sl⟩,ho,hc,n,hd⟩:=p.isList
 simp only at hc hd
 subst hc; subst hd
 refine JR PySem.F.slot_list_count ⟨_,ho,rfl⟩ PySem.F.entry_list_count (PySem.F.args_list_count_2 _ _) (list_countAt a _ n dd sl (.bool true) z4Y) ⟨ho,fun y hy=>?_,?_⟩
 ·have hy':y ∈ bs.map Value.bool:=by simpa using hy
  obtain ⟨b,_,rfl⟩:=Q7.mp hy'
  have:=EqAt.bool_bool (A:=X.A.in1) (s:=s) b true
  cases b <;> exact this
 ·rw [show (bs.map Value.bool).toArray.toList=bs.map Value.bool from rfl,z56]
  exact ⟨.int (bs.count true:Nat),H,I.tok _,⟨_,rfl⟩,q⟩
theorem zbp:MtR X "list.index" (zc2 X.K):=by
 intro pins s σ H x xs v us Q I rx rs h
 obtain ⟨a,bs,rfl,rfl,hq,hm,hl,q⟩:=h
 obtain ⟨u,rfl,ru⟩:=z3R rs
 cases ru
 cases rx
 obtain ⟨its,r',p,_⟩:=I.list hq
 obtain rfl:=z5D r'
 obtain ⟨⟨cls,dd,data,sl⟩,ho,hc,n,hd⟩:=p.isList
 simp only at hc hd
 subst hc; subst hd
 have hj:bs.idxOf true < bs.length:=List.idxOf_lt_length_iff.mpr hm
 refine JR PySem.F.slot_list_index ⟨_,ho,rfl⟩ PySem.F.entry_list_index (PySem.F.args_list_index_2 _ _) (list_indexAt a _ n dd sl (.bool true) z4Y (bs.idxOf true) (by simpa using hj) (by omega) ?_ ?_) ⟨ho,fun y hy=>?_,⟨.int (bs.idxOf true:Nat),H,I.tok _,⟨_,rfl⟩,q⟩⟩
 ·have:=List.getElem_idxOf hj
  simp [z4Y,this]
 ·intro m hm' hlt
  have hm2:m < bs.length:=by simpa using hm'
  have:bs[m]≠true:=fun z=>by
   have z2:=List.not_of_lt_findIdx (p:=(· == true)) (xs:=bs) (i:=m) hlt
   rw [z] at z2
   cases z2
  simp [z4Y,this]
 ·have hy':y ∈ bs.map Value.bool:=by simpa using hy
  obtain ⟨b,_,rfl⟩:=Q7.mp hy'
  have:=EqAt.bool_bool (A:=X.A.in1) (s:=s) b true
  cases b <;> exact this
end
end L2
namespace DV
open PySem PySem.Spec PyProof.Rows L2
def z4K:D→Option S
 | .lst ds=>(z5a ds).map fun bs=>.pure (.int (bs.count true:Nat))
 | _=>none
def z3n:D→Option S
 | .lst ds=>match z5a ds with
  | some bs=>if true ∈ bs∧bs.length≤1000 then some (.pure (.int (bs.idxOf true:Nat))) else none
  | none=>none
 | _=>none
section
variable {X:Cx} {c:Fc} {e:Expr} {fb:BE}
theorem zbl {K:W2}:Op1 (fun x H Q=>tyV K "list" x H∧zc4 K x [.bl true] H Q) z4K:=by
 intro c σ δ H x d s Q k rx hp q
 cases d with
 | lst ds =>
  simp only [z4K] at hp
  cases e:z5a ds with
  | none=>rw [e] at hp; cases hp
  | some bs =>
   rw [e] at hp
   cases hp
   obtain ⟨a,vs,ea,ha,ra⟩:=rx.lst
   obtain rfl:=z3V e ra
   subst ea
   exact ⟨.inl ⟨rfl,_,.inl ha⟩,a,bs,rfl,rfl,.inl ha,q _ H (.refl k) (.int _)⟩
 | _=>simp [z4K] at hp
theorem zbk {K:W2}:Op1 (fun x H Q=>tyV K "list" x H∧zc2 K x [.bl true] H Q) z3n:=by
 intro c σ δ H x d s Q k rx hp q
 cases d with
 | lst ds =>
  simp only [z3n] at hp
  cases e:z5a ds with
  | none=>rw [e] at hp; cases hp
  | some bs =>
   rw [e] at hp
   simp only at hp
   split at hp
   ·rename_i hz
    cases hp
    obtain ⟨a,vs,ea,ha,ra⟩:=rx.lst
    obtain rfl:=z3V e ra
    subst ea
    exact ⟨.inl ⟨rfl,_,.inl ha⟩,a,bs,rfl,rfl,.inl ha,hz.1,hz.2,q _ H (.refl k) (.int _)⟩
   ·cases hp
 | _=>simp [z3n] at hp
theorem zaY {j} {p0 apos cpos:Pos} (he:SB X c e fb)
  (hbase:Qy e "count" X.env (eval e X.env)=eval e X.env:=by rfl)
  (hfew:((WZ cpos (W6 [.Constant (.bool true) j p0] X.env)).all (fun x=>!x.1) && (backToKw cpos (JC [] X.env)).all (fun x=>x.1.isSome)
   && decide ([Expr.Constant (.bool true) j p0].length + ([]:List Keyword).length + (if ([]:List Keyword).isEmpty then 0 else 1) < 30))=true:=by rfl)
  (hline:(apos.endLine == cpos.line)=true:=by rfl) (hs:W6 [.Constant (.bool true) j p0] X.env=(false,eval (.Constant (.bool true) j p0) X.env) :: W6 [] X.env:=by rfl) :
  SE X c (.Call (.Attribute e "count" apos) [.Constant (.bool true) j p0] [] cpos) (eC1 z4K fb):=by
 refine PE.weak (zbb PySem.F.plainAttrs_list PySem.F.slot_list_count PySem.F.type_list_count zbq he (z0V zde z1K hs) hbase hfew hline hs rfl) fun σ H Q h=>?_
 obtain ⟨δ,k,q⟩:=z4w (zbl (K:=X.K)) h
 exact ⟨δ,k,z00 q fun y δ1 q1 v H1 a1 r1=>q1 v H1 a1 r1⟩
theorem zaW {j} {p0 apos cpos:Pos} (he:SB X c e fb)
  (hbase:Qy e "index" X.env (eval e X.env)=eval e X.env:=by rfl)
  (hfew:((WZ cpos (W6 [.Constant (.bool true) j p0] X.env)).all (fun x=>!x.1) && (backToKw cpos (JC [] X.env)).all (fun x=>x.1.isSome)
   && decide ([Expr.Constant (.bool true) j p0].length + ([]:List Keyword).length + (if ([]:List Keyword).isEmpty then 0 else 1) < 30))=true:=by rfl)
  (hline:(apos.endLine == cpos.line)=true:=by rfl) (hs:W6 [.Constant (.bool true) j p0] X.env=(false,eval (.Constant (.bool true) j p0) X.env) :: W6 [] X.env:=by rfl) :
  SE X c (.Call (.Attribute e "index" apos) [.Constant (.bool true) j p0] [] cpos) (eC1 z3n fb):=by
 refine PE.weak (zbb PySem.F.plainAttrs_list PySem.F.slot_list_index PySem.F.type_list_index zbp he (z0V zde z1K hs) hbase hfew hline hs rfl) fun σ H Q h=>?_
 obtain ⟨δ,k,q⟩:=z4w (zbk (K:=X.K)) h
 exact ⟨δ,k,z00 q fun y δ1 q1 v H1 a1 r1=>q1 v H1 a1 r1⟩
end
theorem z59:Qk "ValueError" = some (.type "ValueError"):=by decide +kernel
def ceOf:List (Tx×Nat)→Tx→Nat
 | [],_=>0
 | p :: r,x=>bif p.1 == x then p.2 else ceOf r x
end DV
namespace L2
open PySem PySem.Spec PyProof.Rows
section
variable {X:Cx}
end
end L2
namespace DV
open PySem PySem.Spec PyProof.Rows L2
end DV
namespace PySem
open Sem (wp)
structure ZA (z TI TO i1 i2:Addr) (f1 f2:List Addr):Prop where
 m1:i1 ∈ f1
 m2:i2 ∈ f2
 z1:z ∉ f1
 z2:z ∉ f2
 t1:TO ∉ f1
 t2:TO ∉ f2
 k1:i1 ∉ f2
 k2:i2 ∉ f1
 tz:TO≠z
 iz:TI≠z
 io:TI≠TO
 n1:TI≠i1
 n2:TI≠i2
section
variable {prog:Wj} {w:Wp} {A:Wn} {E:Value→W1→Prop} {s:W1}
end
def itO (b:Bool) (a:Addr):Obj:={ cls:=.type (match b with | true=>"list_iterator" | false=>"tuple_iterator"),data:=.fields #[.ref a,.int 0 0] }
end PySem
namespace L2
open PySem PySem.Spec PyProof.Rows
section
variable {X:Cx} {pins:List (Addr×Obj)} {σ:St} {H:Hp} {s:W1} {h':Heap}
end
end L2
namespace DV
open PySem PySem.Spec PyProof.Rows L2
section
variable {X:Cx} {c:Fc} {tg e:Expr} {fe:DE} {pos pp:Pos}
end
def z5B (G:DX) (as:List Ak):DE:=fun δ=>if (ios as).all (z0J δ) && ndup (ios as) then (evX as δ).bind fun ds δ1=>match mkA as ds δ1 with
  | none=>.stuck
  | some ss=>match G ss with
   | some (.inl (r,outs))=>.ok r (putA as outs δ1)
   | _=>.stuck
 else .stuck
section
variable {X:Cx} {c:Fc} {e:Expr} {es:List Expr} {as:List Ak} {k n:Nat} {x:Str} {G:DX} {pp pos:Pos}
theorem z8M (hK:z5b G) (hl:as.length=n) (h:tD c (z5B G as) σ H Q):tX c as σ H fun vs H1=>spX X.mg n G vs H1 Q (fun c' _ H'=>∃ C,c' = .ref C∧False):=by
 obtain ⟨δ,kk,q⟩:=h
 unfold z5B at q
 split at q
 ·rename_i hc
  rw [Wh] at hc
  have nd:=z38 hc.2
  rw [z03] at q
  refine ⟨δ,kk,fun i hi=>?_,z00 q fun ds δ1 q1 vs H1 a1 r1=>?_⟩
  ·have:=Q3.mp hc.1 i (ios_mem.mpr hi)
   unfold z0J at this
   split at this
   ·rename_i d ed
    exact z2i kk ed
   ·cases this
  ·cases em:mkA as ds δ1 with
   | none=>rw [em] at q1; exact q1.elim
   | some ss =>
    rw [em] at q1
    simp only at q1
    cases eg:G ss with
    | none=>rw [eg] at q1; exact q1.elim
    | some y =>
     rw [eg] at q1
     have hin:=z7v a1.ok r1 em nd
     obtain ⟨m1,m2,_⟩:=z6C r1 em
     have g2:=hK ss y eg
     cases y with
     | inl y =>
      refine ⟨ss,_,by rw [← m2]; exact hl,hin,.inl y,eg,?_⟩
      obtain ⟨r,outs⟩:=y
      intro v H2 a2 r2
      obtain ⟨o1,o2⟩:=z4u a1.ok r1 em nd rfl a2 (fun j d ed=>(g2 j).1 d ed) fun j d ed=>(g2 j).2 d ed
      exact q1 v H2 (a1.trans o1) (RepS.back (o2 v r r2) a1)
     | inr y=>exact q1.elim
 ·exact q.elim
theorem zaZ (F:KFnX X.prog X.w X.K X.mg X.base k x n G) (hK:z5b G) (hr:Room k X.A) (hex:X.ex=[]) (hg:Gl X x) (ha:SX X c (e :: es) as) (hl:as.length=n) (hdb:(x == ("__debug__" : Str))=false:=by decide)
  (he:W6 (e :: es) X.env=(false,eval e X.env) :: W6 es X.env:=by rfl) (hpl:(WZ pos (W6 es X.env)).any (·.1)=false:=by rfl):SE X c (.Call (.Name x pp) (e :: es) [] pos) (z5B G as):=by
 obtain ⟨f,fd,ps,hm,hk,hb,ok⟩:=F
 exact PE.weak (z7T (W:=fun _ _ _ _=>False) ok hr hex hg hm hk hb (fun _ _ _ _ _ _ _ _ _ h=>h.elim) ha hdb he hpl) fun σ H Q h=>z8M hK hl h
end
end DV
namespace PySem
open Sem (wp)
section
variable {prog:Wj} {w:Wp} {A:Wn} {E:Value→W1→Prop} {hp:Heap} {g:Array GenState} {d:Drawn} {t:Nat} {os:OsState}
variable {nm qn:Str} {C N:Addr} {bs bm bmB:List Value} {hdct:Bool} {sn:List Str} {sub:List Value} {ab:Bool} {col:Option Bool} {dd:Option Addr} {k0 k1 k2 k3 k5:Option Value} {B newId initId:String}
theorem z8j (F:ExcBaseFacts B newId initId bmB) (T:OwnTail hp bmB bm)
  (hC:hp.get? C=some (excClassObj nm qn C N bs bm hdct sn sub ab col dd k0 k1 k2 k3 k5 newId)) (hN:hp.Ns N mN) (hi:mN "__init__" = some (.ref f)) (hf:hp.get? f=some o) (hfc:o.cls = .type "function")
  (q:∀ h' e,Heap.MadeExcOf hp h' e (.ref C) vs→W5 (model prog w) A (call (.ref f) (.ref e :: vs)) (fun r s'=>r = .none∧Q (.done (.ret (.ref e))) s') E ⟨h',g,d,t,os⟩) (hl:vs.length≤W8) :
  W5 (model prog w) A (Builtin.«type.__call__» ⟨.ref C :: vs,[]⟩) Q E ⟨hp,g,d,t,os⟩:=by
 repeat (first | with_reducible refine Qh hC ?_ | with_reducible refine wpAny_madeBy_exc hC ?_ | wp_step)
 refine codeAny_call_builtin_code (Code.quiet_builtin _ F.quiet) (wpAny_check_new_subT F T hC (codeAny_exc_new_subT F T hC ?_ hl))
 show W5 _ _ _ _ _ _
 have up:∀ {o1 o2:Obj} {b:Addr} {u:Obj},hp.get? b=some u→((hp.push o1).push o2).get? b=some u:=fun e=>W4 _ (W4 _ e)
 have hC1:=up (o1:={ cls:=.type "tuple",data:=.seq vs.toArray }) (o2:={ cls:=.ref C,data:=.fields #[.ref hp.objs.size,.none,.none,.none,.bool false,.none] }) hC
 have hf1:=up (o1:={ cls:=.type "tuple",data:=.seq vs.toArray }) (o2:={ cls:=.ref C,data:=.fields #[.ref hp.objs.size,.none,.none,.none,.bool false,.none] }) hf
 have hN1:((hp.push { cls:=.type "tuple",data:=.seq vs.toArray }).push { cls:=.ref C,data:=.fields #[.ref hp.objs.size,.none,.none,.none,.bool false,.none] }).Ns N mN:=let ⟨o,es,ep,e,r⟩:=hN; ⟨o,es,ep,up e,r⟩
 have he:((hp.push { cls:=.type "tuple",data:=.seq vs.toArray }).push { cls:=.ref C,data:=.fields #[.ref hp.objs.size,.none,.none,.none,.bool false,.none] }).get? (hp.objs.size + 1)=some { cls:=.ref C,data:=.fields #[.ref hp.objs.size,.none,.none,.none,.bool false,.none] }:=by heap_get
 have hc:(Value.ref C :: bm).contains (.ref C)=true:=by simp
 have T1:=T.keeps (h':=(hp.push { cls:=.type "tuple",data:=.seq vs.toArray }).push { cls:=.ref C,data:=.fields #[.ref hp.objs.size,.none,.none,.none,.bool false,.none] }) fun b o e=>up e
 unfold isInstance
 repeat (first | with_reducible refine Qh he ?_ | (with_reducible refine wpAny_isSubtype_exc hC1 ?_; rw [hc]) | wp_step)
 show W5 _ _ (typeLookup (.ref C) _) _ _ _
 refine wpAny_typeLookup_tail hC1 hN1 T1 F.mroIs F.init.lookup ?_
 rw [hi]
 refine WF (W0 ?_)
 unfold bindSpecial
 refine W0 (QJ (T:="function") ⟨_,hf1,hfc⟩ ?_)
 rw [if_pos (by decide)]
 refine W3 (W0 (WE (q _ (hp.objs.size + 1) ⟨fun b o hb=>up hb,Jy (Nat.le_succ _),hp.objs.size,he,Jy (Wd _),W4 _ (Heap.get?_push_at rfl rfl)⟩) (fun r s' hr=>?_) fun _ _ x=>x))
 obtain ⟨rfl,hQ⟩:=hr
 wp_walk
 exact hQ
theorem zaI (F:ExcBaseFacts B newId initId bmB) (T:OwnTail hp bmB bm)
  (hC:hp.get? C=some (excClassObj nm qn C N bs bm hdct sn sub ab col dd k0 k1 k2 k3 k5 newId)) (hN:hp.Ns N mN) (hi:mN "__init__" = some (.ref f)) (hf:hp.get? f=some o) (hfc:o.cls = .type "function")
  (q:∀ h' e,Heap.MadeExcOf hp h' e (.ref C) vs→W5 (model prog w) (A.under (.builtin "type.__call__" ⟨.ref C :: vs,[]⟩)) (call (.ref f) (.ref e :: vs)) (fun r s'=>r = .none∧Q (.ref e) s') E ⟨h',g,d,t,os⟩) (hl:vs.length≤W8) :
  W5 (model prog w) A (call (.ref C) vs) Q E ⟨hp,g,d,t,os⟩:=by
 have f1:=tc_lookup
 have f2:=tc_bind (.ref C)
 have hT:(⟨hp,g,d,t,os⟩:W1).TypeIs (.ref C) "type":=⟨_,hC,rfl⟩
 refine wpAny_call (codeAny_of_tree ?_); show W5 _ _ (callAny (.ref C) _) _ _ _
 repeat (any_goals (first | assumption | with_reducible refine Qh hC ?_ | wp_step))
 exact ⟨rfl,codeAny_call_builtin_at (Code.quiet_builtin _ (by decide +kernel)) entry_typeCall (wpAny_check_type_call_sub hC (z8j F T hC hN hi hf hfc (fun h' e hm=>q h' e hm) hl))⟩
theorem zb1 (hh:A.handled=none)
  (h:W5 M A x (fun v s1=>∃ (e C N:Addr) (dx:Option Addr) (vs:Array Value) (sl:Array (Option Value)) (nm qn:Str) (bs bm:List Value) (hdct:Bool) (sn:List Str) (sub:List Value) (ab:Bool) (col:Option Bool) (dd:Option Addr) (k0 k1 k2 k3 k5:Option Value) (newId:String),
   v = .ref e∧bm.contains (.type "BaseException")=true∧s1.heap.get? C=some (excClassObj nm qn C N bs bm hdct sn sub ab col dd k0 k1 k2 k3 k5 newId)∧s1.heap.get? e=some ⟨.ref C,dx,.fields vs,sl⟩∧vs[1]? = some .none∧E (.ref e) s1) E s) :
  W5 M A (raiseStmt env (some x) none) Q E s:=by
 unfold raiseStmt
 refine W0 (WE h (fun v s1 h1=>?_) fun _ _ x=>x)
 obtain ⟨e,C,N,dx,vs,sl,nm,qn,bs,bm,hdct,sn,sub,ab,col,dd,k0,k1,k2,k3,k5,newId,rfl,hb,hC,he,hv,hE⟩:=h1
 have hc:(Value.ref C :: bm).contains (.type "BaseException")=true:=by rw [Jp,hb,Bool.or_true]
 obtain ⟨hp,g,d,tk,os⟩:=s1
 repeat (first | with_reducible refine Qh he ?_ | with_reducible refine Qh hC ?_ | (with_reducible refine wpAny_isSubtype_exc hC ?_; rw [hc]) | wp_step)
 rw [hv]
 repeat (first | wp_step)
 exact wpAny_raiseNew_none hh hE
end
end PySem
namespace L2
open PySem PySem.Spec PyProof.Rows PySem.W PySem.Builtin PySem.Builtin.ObjectAttr
def zbf:List Value→Bool
 | .ref _ :: r=>zbf r
 | l=>l == vErr
theorem z3W (self:Value):∀ {l:List Value},zbf l=true→refuseLoop self "__setattr__" l=pure ()
 | [],e=>by cases e
 | .ref c :: r,e=>by rw [refuseLoop_ref]; exact z3W self e
 | .none :: r,e=>by cases e
 | .type n :: r,e=>by
  have:(Value.type n :: r)=vErr:=beq_iff_eq.mp e
  rw [this]; exact PySem.F.store_ValueError.passes self
 | .bool b :: r,e=>by cases (beq_iff_eq.mp (show ((Value.bool b :: r) == vErr)=true from e))
 | v :: r,e=>by
  cases v <;> first
   | (rw [refuseLoop_ref]; exact z3W self e)
   | (rw [show _=vErr from beq_iff_eq.mp e]; exact PySem.F.store_ValueError.passes self)
theorem z6p:∀ {l:List Value},zbf l=true→l.contains (.type "object")=true
 | [],e=>by cases e
 | v :: r,e=>by
  cases v <;> first
   | (rw [Jp,z6p (l:=r) e,Bool.or_true])
   | (rw [show _=vErr from beq_iff_eq.mp e]; decide)
def z5t (K:W2) (C:Addr):Bool:=(clsIn K C).any fun cd=>zbf cd.mro
section
variable {prog:Wj} {w:Wp} {A:Wn} {E:Value→W1→Prop} {s:W1} {K:W2} {x C:Addr} {name:Str} {v:Value} {R:Result→W1→Prop}
theorem z9D (X:K.In s.heap) (I:InstAt s.heap x ox C od) (hp:z5t K C=true) (ht:takerIn K C name=some none)
  (q:∀ b,W5 (model prog w) A.in1 (storeInOwnDict (.ref x) (.ref C) (.str name tk) name v b) (fun fin s'=>match fin with | .done f=>R (.ok f) s' | .again c'=>c'.quiet=true∧Q9 (model prog w) A c' R s') (fun e s'=>R (.error e) s') s) :
  Q9 (model prog w) A (.call (.builtin "object.__setattr__") ⟨[.ref x,.str name tk,v],[]⟩) R s:=by
 have SF:=PySem.F.store_object
 obtain ⟨cd,hc,ho⟩:=any_some hp
 have ne:cd.mro.isEmpty=false:=by
  cases z:cd.mro with
  | nil=>rw [z] at ho; cases ho
  | cons _ _=>rfl
 have sub:Looks (model prog w) s.heap (isInstance (.ref x) (.type "object")) true:=I.type.andThen (looks_mroIn X (by unfold mroIn; rw [hc,WC,if_neg (by rw [ne]; decide),z6p ho]))
 refine Jd SF.slot.plain SF.entry (@check_slot (model prog w) _ _ s "object.__setattr__" "object" "__setattr__" (.ref x) [.str name tk,v] [] _ SF.kind SF.split sub (SF.args (.ref x) (.str name tk) v) ?_)
 obtain ⟨attr,ha,hr⟩:=Option.bind_eq_some_iff.mp ht
 have hm:Looks (model prog w) s.heap (mroOf (.ref C)) cd.mro:=(looks_clsIn X hc).andThen .now
 have L3:Looks (model prog w) s.heap (storeTaker? attr) none:=by
  cases attr with
  | none=>exact .now
  | some a =>
   obtain ⟨b,hb,hn⟩:=Option.map_eq_some_iff.mp hr
   refine (looks_takesIn X hb).andThen ?_
   cases b
   ·exact .now
   ·cases hn
 rw [osa_eq,refuse_eq]
 refine W0 (W0 (I.type.here (W0 (hm.here ?_))))
 rw [z3W _ ho]
 exact W3 (W0 (I.type.here (W0 ((JO X ha).here (W0 (L3.here (q _)))))))
theorem zcI (X:K.In s.heap) (hx:s.heap.get? x=some ⟨.ref C,none,.fields vs,sl⟩)
  (hs:Qp K (.ref C) "__setattr__" = some (some (.builtin "object.__setattr__"))) (hp:z5t K C=true) (ht:takerIn K C name=some none) (hh:hasDictIn K C=true)
  (q:∀ h' tk,h'.get? x=some ⟨.ref C,some s.heap.objs.size,.fields vs,sl⟩→(∀ b o,b≠x→s.heap.get? b=some o→h'.get? b=some o)→h'.Ns1 s.heap.objs.size (fun z=>if z=name then some v else none)→Q () { s with heap:=h',toks:=tk }) :
  W5 (model prog w) A (setAttr (.ref x) name v) Q E s:=by
 have J:InstAt s.heap x ⟨.ref C,none,.fields vs,sl⟩ C none:=⟨hx,rfl,rfl,trivial⟩
 refine set_plain X J hs (z9D (s:={ s with toks:=s.toks + 1 }) X J hp ht fun b=>?_)
 obtain ⟨cd,hc,hd'⟩:=any_some hh
 have hx1:(s.heap.push { cls:=.type "dict",data:=.dict #[] }).get? x=some ⟨.ref C,none,.fields vs,sl⟩:=W4 _ hx
 have hxs:x≠s.heap.objs.size:=Wo (We hx)
 refine W0 (W3 (W0 (W0 (wpAny_loadPart hx (W0 (PySem.W.Looks.here (s:={ s with toks:=s.toks + 1 }) (PySem.W.looks_clsIn X hc) ?_))))))
 rw [hd']
 show W5 _ _ (alloc { cls:=.type "dict",data:=.dict #[] } >>= fun d=>(update x fun o=>{ cls:=o.cls,dict:=some d,data:=o.data,slots:=o.slots }) >>= fun _=>dictMade (.ref C) x d) _ _ _
 refine W0 (wpAny_alloc' (W0 (wpAny_update' hx1 (W3 ?_))))
 have gd:((s.heap.push { cls:=.type "dict",data:=.dict #[] }).update x fun o=>{ cls:=o.cls,dict:=some s.heap.objs.size,data:=o.data,slots:=o.slots }).get? s.heap.objs.size=some { cls:=.type "dict",data:=.dict #[] }:=(Heap.get?_update_ne _ _ _ _ hxs.symm).trans (Heap.get?_push_at rfl rfl)
 have nd:((s.heap.push { cls:=.type "dict",data:=.dict #[] }).update x fun o=>{ cls:=o.cls,dict:=some s.heap.objs.size,data:=o.data,slots:=o.slots }).Ns s.heap.objs.size (fun _=>none):=⟨_,#[],_,gd,rfl,fun e he=>absurd he (by simp),fun _=>rfl⟩
 show W5 _ _ (storeInDict s.heap.objs.size (.str name _) name v) _ _ _
 unfold storeInDict newKeyGuard
 refine W0 (W3 (W0 (wpAny_nsSet1 (Heap.Ns1.of_empty nd) fun h' hn' sb=>?_)))
 obtain ⟨oD,esD,epD,hoD,hdD,hcD⟩:=hn'.count (Within.cons name v Within.nil)
 refine W0 (wpAny_lookBehind hoD (by rw [hdD]; exact pastItsLine_dict (WO hcD (by rw [WB,List.length_nil,QE]; omega))) ?_)
 refine W3 (q h' _ ((sb.2 x hxs).trans (Wv _ hx1 rfl)) (fun b o hb e=>?_) hn')
 exact (sb.2 b (Wo (We e))).trans ((Heap.get?_update_ne _ _ _ _ hb).trans (W4 _ e))
theorem zaV {vs:Array Value} {sl:Array (Option Value)} {dx:Addr} {mA:Str→Option Value} {ns:List Str} {Q:Unit→W1→Prop} (X:K.In s.heap) (hx:s.heap.get? x=some ⟨.ref C,some dx,.fields vs,sl⟩) (hd:s.heap.Ns1 dx mA) (ne:dx≠x)
  (hs:Qp K (.ref C) "__setattr__" = some (some (.builtin "object.__setattr__"))) (hp:z5t K C=true) (ht:takerIn K C name=some none) (hh:hasDictIn K C=true) (hw:PySem.Within mA ns) (hsz:ns.length < W8)
  (q:∀ h' tk,WW dx s.heap h'→h'.Ns1 dx (fun z=>if z=name then some v else mA z)→Q () { s with heap:=h',toks:=tk }) :
  W5 (model prog w) A (setAttr (.ref x) name v) Q E s:=by
 obtain ⟨od,ho,hl⟩:=z4T hd
 have J:InstAt s.heap x ⟨.ref C,some dx,.fields vs,sl⟩ C (some od):=⟨hx,rfl,rfl,ho⟩
 refine set_plain X J hs (z9D (s:={ s with toks:=s.toks + 1 }) X J hp ht fun b=>?_)
 obtain ⟨cd,hc,hd'⟩:=any_some hh
 refine W0 (W3 (W0 (W0 (wpAny_loadPart hx (W0 (PySem.W.Looks.here (s:={ s with toks:=s.toks + 1 }) (PySem.W.looks_clsIn X hc) ?_))))))
 rw [hd']
 refine W3 (a:=some dx) (W0 (W3 (W0 ?_)))
 refine wpAny_nsSet1 (s:={ s with toks:=s.toks + 1 }) hd fun h' h2 sb=>?_
 obtain ⟨oD,esD,epD,hoD,hdD,hcD⟩:=h2.count (PySem.Within.cons name v hw)
 refine W0 (wpAny_lookBehind hoD (by rw [hdD]; exact pastItsLine_dict (WO hcD (by rw [WB]; omega))) ?_)
 exact W3 (q h' _ sb h2)
theorem zdz {vs:Array Value} {sl:Array (Option Value)} {dx:Addr} {mA:Str→Option Value} {expr:Bool} {Q:Value→W1→Prop} (X:K.In s.heap) (hx:s.heap.get? x=some ⟨.ref C,some dx,.fields vs,sl⟩) (hd:s.heap.Ns1 dx mA)
  (k:ExcK K C) (hat:Qp K (.ref C) name=some none) (hh:hasDictIn K C=true)
  (hv:mA name=some v) (hin:handedIn v=true) (q:Q v { s with toks:=s.toks + 1 }):W5 (model prog w) A (getAttr (.ref x) name expr) Q E s:=by
 obtain ⟨od,ho,hl⟩:=z4T hd
 have J:InstAt s.heap x ⟨.ref C,some dx,.fields vs,sl⟩ C (some od):=⟨hx,rfl,rfl,ho⟩
 obtain ⟨h,g,d,t,os⟩:=s
 have L0:Looks (model prog w) h (typeOf (.ref x)) (.ref C):=J.type
 have L1:=JO (M:=model prog w) X k.ga
 have L2:=JO (M:=model prog w) X k.gt
 have L4:=looks_find (M:=model prog w) X J (findObj_own (v:=v) hh hat rfl (by rw [hl,hv]))
 have hx0:(expr && onTheHeap (Value.builtin "BaseException.__getattribute__"))=false:=by cases expr <;> rfl
 have hx2:(Value.builtin "BaseException.__getattribute__" == Value.builtin "object.__getattribute__")=false:=by decide +kernel
 have f3:=F.attrBase_ValueError.ga.bind (.ref x)
 unfold getAttr getAttrBy
 refine W0 (wpAny_mkText (WF (W0 (L0.at (W0 (L1.at ?_))))))
 dsimp only
 rw [hx2,Bool.and_false]
 simp only [WG,if_false]
 unfold getAttrByItsOwn hookBefore
 repeat (any_goals (first | assumption | with_reducible refine Looks.at L2 ?_ | wp_step))
 refine Jd F.attrBase_ValueError.ga.plain F.entry_bexc_ga (z6P X k hx rfl ?_)
 repeat (any_goals (first | assumption | with_reducible refine Looks.at L0 ?_ | with_reducible refine Looks.at L4 ?_ | wp_step))
 show W5 _ _ (handedOut v) _ _ _
 rw [handedOut_of hin]; exact W3 q
end
def excN (C a:Addr):Heap→Prop:=fun h=>∃ vs sl a0,h.get? a=some ⟨.ref C,none,.fields vs,sl⟩∧vs[0]? = some a0∧vs[1]? = some .none
def excD (C:Addr) (dx:Option Addr) (a:Addr):Heap→Prop:=fun h=>∃ vs sl a0,h.get? a=some ⟨.ref C,dx,.fields vs,sl⟩∧vs[0]? = some a0∧vs[1]? = some .none
section
variable {P:Wj} {w:Wp} {H:Hp} {h:Heap} {C a:Addr}
theorem zdG (q:excN C a h):ObjOk P w H h a (.ext (excN C a)):=by
 refine ⟨q,?_,?_⟩
 ·obtain ⟨vs,sl,a0,e,_⟩:=q
  exact ⟨_,e⟩
 ·rintro h1 h2 ⟨vs,sl,a0,e,r⟩ k
  exact ⟨vs,sl,a0,k _ e,r⟩
theorem zdH {dx:Option Addr} (q:excD C dx a h):ObjOk P w H h a (.ext (excD C dx a)):=by
 refine ⟨q,?_,?_⟩
 ·obtain ⟨vs,sl,a0,e,_⟩:=q
  exact ⟨_,e⟩
 ·rintro h1 h2 ⟨vs,sl,a0,e,r⟩ k
  exact ⟨vs,sl,a0,k _ e,r⟩
theorem zdR {fs:List (Str×V)} (q:DV.xdAt fs a h):ObjOk P w H h a (.ext (DV.xdAt fs a)):=by
 refine ⟨q,?_,?_⟩
 ·obtain ⟨mA,⟨o,_,_,e,_⟩,_⟩:=q
  exact ⟨_,e⟩
 ·rintro h1 h2 ⟨mA,⟨o,es,ep,e,c⟩,r⟩ k
  exact ⟨mA,⟨o,es,ep,k _ e,c⟩,r⟩
end
structure ExcS (K:W2) (C:Addr) (f:Str):Prop where
 set:Qp K (.ref C) "__setattr__" = some (some (.builtin "object.__setattr__"))
 over:z5t K C=true
 hd:hasDictIn K C=true
 tk:takerIn K C f=some none
section
variable {X:Cx} {o value:Expr} {f:Str} {ta tv:TE} {pos pos':Pos}
def zcP (K:W2) (ta tv:TE) (f:Str):TS:=fun D σ H=>tv σ H fun y H1=>ta σ H1 fun x H2=>∃ a C,x = .ref a∧H2 a=some (.ext (excN C a))∧ExcS K C f∧∀ dx,H2 dx=none→dx≠a→D.nx σ (upd (upd H2 a (.ext (excD C (some dx) a))) dx (.ext (DV.xdAt [(f,y)] dx)))
theorem zf4 {f g:Str} {y:V} {u:Value} (r:RelV y u):RelO (List.lookup g [(f,y)]) (if g=f then some u else none):=by
 by_cases z:g=f
 ·subst z; simp [RelO,r]
 ·rw [WJ,beq_eq_false_iff_ne.mpr z,if_neg z]; trivial
theorem z9r (hex:X.ex=[]) (ha:PE X o ta) (hv:PE X value tv) (hs:Jn value (some (.Attribute o f pos')) pos.line X.env=pure false):PS X (.Assign [.Attribute o f pos'] value pos) (zcP X.K ta tv f):=by
 intro pins s σ H D I h
 refine plainObj_wpAny_Assign_Attribute (thn (hv pins s σ H _ I h) fun u s1 ⟨y,H1,I1,ry,q⟩=>thn (ha pins s1 σ H1 _ I1 q) fun ov s2 ⟨x,H2,I2,rx,a,C,ex,ea,c,q2⟩=>?_) hs
 subst ex
 obtain rfl:ov=Value.ref a:=rx
 obtain ⟨⟨vs,sl,a0,e0,e1,e2⟩,_,_⟩:=(show ObjOk X.prog X.w H2 s2.heap a (.ext (excN C a)) from I2.hok a _ ea)
 have n0:=I2.hok.fresh (Wd s2.heap.objs.size)
 have ne:s2.heap.objs.size≠a:=QH (We e0)
 refine zcI I2.kIn e0 c.set c.over c.tk c.hd fun h' tk g1 g2 g3=>⟨σ,_,?_,q2 _ n0 ne⟩
 have Iw:=I2.write (x:=a) (e:=a) (t':=tk) (by rw [ea]; exact True.intro) (.inl rfl) (fun b u nb z=>g2 b u nb z) ⟨_,g1⟩ (zdH (P:=X.prog) (w:=X.w) (H:=upd H2 a (.ext (excD C (some s2.heap.objs.size) a))) ⟨vs,sl,a0,g1,e1,e2⟩)
 exact Iw.track (I2.apart hex (Jy (Wd _)) (by rw [z0i ne]; exact n0)) (zdR ⟨_,g3,fun g=>zf4 ry⟩)
def zc1 (K:W2) (ta tv:TE) (f:Str):TS:=fun D σ H=>tv σ H fun y H1=>ta σ H1 fun x H2=>∃ a C dx fs,x = .ref a∧H2 a=some (.ext (excD C (some dx) a))∧H2 dx=some (.ext (DV.xdAt fs dx))∧dx≠a∧fs.lookup f=none∧fs.length≤100∧ExcS K C f∧D.nx σ (upd H2 dx (.ext (DV.xdAt (fs ++ [(f,y)]) dx)))
theorem zb5 (ha:PE X o ta) (hv:PE X value tv) (hs:Jn value (some (.Attribute o f pos')) pos.line X.env=pure false):PS X (.Assign [.Attribute o f pos'] value pos) (zc1 X.K ta tv f):=by
 intro pins s σ H D I h
 refine plainObj_wpAny_Assign_Attribute (thn (hv pins s σ H _ I h) fun u s1 ⟨y,H1,I1,ry,q⟩=>thn (ha pins s1 σ H1 _ I1 q) fun ov s2 ⟨x,H2,I2,rx,a,C,dx,fs,ex,ea,ed,ne,lf,ln,c,q2⟩=>?_) hs
 subst ex
 obtain rfl:ov=Value.ref a:=rx
 obtain ⟨⟨vs,sl,a0,e0,e1,e2⟩,_,_⟩:=(show ObjOk X.prog X.w H2 s2.heap a (.ext (excD C (some dx) a)) from I2.hok a _ ea)
 obtain ⟨⟨mA,ns,rl⟩,_,_⟩:=(show ObjOk X.prog X.w H2 s2.heap dx (.ext (DV.xdAt fs dx)) from I2.hok dx _ ed)
 have wi:PySem.Within mA (fs.map (·.1)):=fun z hz=>by
  cases l:fs.lookup z with
  | none=>exact absurd (RelO.none_of (by rw [← l]; exact rl z)) hz
  | some w =>
   obtain ⟨l1,l2,e,_⟩:=List.lookup_eq_some_iff.mp l
   rw [e]; simp
 refine zaV I2.kIn e0 ns ne c.set c.over c.tk c.hd wi (by rw [Ws,QE]; omega) fun h' tk sb n2=>⟨σ,_,?_,q2⟩
 obtain ⟨od,es,ep,eo,_⟩:=id n2
 refine I2.write (x:=dx) (e:=dx) (t':=tk) (by rw [ed]; exact True.intro) (.inl rfl) (fun b u nb z=>(sb.2 b nb).trans z) ⟨_,eo⟩ (zdR ⟨_,n2,fun g=>?_⟩)
 rw [List.lookup_append]
 by_cases z:g=f
 ·subst z; rw [lf]; simpa [RelO] using ry
 ·rw [if_neg z]
  have:List.lookup g [(f,y)]=none:=by rw [WJ,beq_eq_false_iff_ne.mpr z]; rfl
  rw [this,Option.or_none]; exact rl g
end
def excI (K:W2) (C f:Addr):Bool:=match K.lookup C with
 | some ⟨.type "type",_,.cls c,ss⟩=>(match c.mro,ss.toList with
  | .ref C' :: bm,[_,_,_,_,some (.builtin n),_]=>C' == C && n == "ValueError.__new__" && !c.hasDel && tailIn K vErr bm && nsOkIn K c.ns && nsIn K c.ns "__init__" == some (some (.ref f))
  | _,_=>false)
 | _=>false
theorem zdo {K:W2} {h:Heap} {N:Addr} {m:Str→Option Value} {n:Str} {v:Value} (X:K.In h) (G:h.Ns N m) (e:nsIn K N n=some (some v)):m n=some v:=by
 obtain ⟨o,es,ep,ho,hd,_,hf⟩:=G
 unfold nsIn at e
 split at e
 next c d es' n' sl q =>
  have z:=X _ _ q
  rw [ho] at z
  cases z
  simp only at hd
  injection hd with h1 h2
  subst h1
  split at e
  next x hx =>
   cases e
   rw [← hf n]
   unfold nsFind findBy
   rw [← Array.find?_toList,hx]
   rfl
  next=>split at e <;> cases e
 next=>cases e
theorem z87 {K:W2} {C f:Addr} {h:Heap} (q:excI K C f=true) (X:K.In h):∃ (bm:List Value) (N:Addr) (nm qn:Str) (bs:List Value) (hdct:Bool) (sn:List Str) (sub:List Value) (ab:Bool) (col:Option Bool) (dd:Option Addr) (k0 k1 k2 k3 k5:Option Value) (mN:Str→Option Value),
  h.get? C=some (excClassObj nm qn C N bs bm hdct sn sub ab col dd k0 k1 k2 k3 k5 "ValueError.__new__")∧h.Ns N mN∧mN "__init__" = some (.ref f)∧OwnTail h vErr bm:=by
 unfold excI at q
 split at q
 next dd cd sl lk =>
  split at q
  next C' bm k0 k1 k2 k3 n k5 e1 e2 =>
   simp only [Wh,beq_iff_eq,Qg] at q
   obtain ⟨⟨⟨⟨⟨c1,c2⟩,c3⟩,c4⟩,c5⟩,c6⟩:=q
   subst c1; subst c2
   have e3:sl = #[k0,k1,k2,k3,some (.builtin "ValueError.__new__"),k5]:=by
    cases sl; simp only at e2; rw [e2]
   subst e3
   cases cd
   simp only at e1 c3 c4 c5 c6 lk
   subst e1; subst c3
   have hN:=Heap.Ns.of_isNs (isNs_of_in X c5)
   exact ⟨bm,_,_,_,_,_,_,_,_,_,dd,k0,k1,k2,k3,k5,_,X _ _ lk,hN,zdo X hN c6,tail_of_in X c4⟩
  next=>cases q
 next=>cases q
section
variable {X:Cx} {k:Nat} {f C:Addr} {fd:WM} {ps:List Str} {sp:Sp} {x:Str} {p pos:Pos} {e:Expr} {es:List Expr} {t:TA}
theorem fn_at {K:W2} {h:Heap} (X:K.In h) (q:isFn K (.ref f)=true):∃ o,h.get? f=some o∧o.cls = .type "function":=by
 have z:(K.lookup f).map (·.cls)=some (.type "function"):=beq_iff_eq.mp q
 obtain ⟨o,lk,e⟩:=Option.map_eq_some_iff.mp z
 exact ⟨o,X _ _ lk,e⟩
theorem z9b {pins:List (Addr×Obj)} {σ:St} {H:Hp} {s:W1} {Q:VK} {us:List Value} {vs:List V} (q:excI X.K C f=true) (hfn:isFn X.K (.ref f)=true) (F:FnOk X.prog X.w X.K X.mg X.base CX0 k f fd ps sp) (hr:Room (k + 1) X.A) (hb:Binds X.K fd ps []) (hex:X.ex=[])
  (I:Inv X pins σ H s) (r:Vals vs us) (hl:us.length≤W8)
  (h:∀ a,H a=none→X.s₀.heap.get? a=none→sp (.ref a :: vs) (upd H a (.ext (excN C a))) (fun v H2=>v = .non∧Q (.ref a) H2) E0) :
  W5 (model X.prog X.w) X.A (call (.ref C) us) (EP X pins σ Q) X.xe s:=by
 obtain ⟨bm,N,nm,qn,bs,hdct,sn,sub,ab,col,dd,k0,k1,k2,k3,k5,mN,hC,hN,hi,hT⟩:=z87 q I.kIn
 obtain ⟨o,hf,hfc⟩:=fn_at I.kIn hfn
 obtain ⟨hp,g,d,tk,os⟩:=s
 refine zaI PySem.F.excBase_ValueError hT hC hN hi hf hfc (fun h' a hm=>?_) hl
 obtain ⟨t0,ht,_,_⟩:=hm.there
 have I1:Inv X pins σ H ⟨h',g,d,tk,os⟩:=I.kept (t':=tk) hm.keeps
 have g1:=I.gone hex hm.new
 have ap:=I.apart hex hm.new g1.1
 have I2:Inv X pins σ (upd H a (.ext (excN C a))) ⟨h',g,d,tk,os⟩:=I1.track ap (zdG ⟨_,_,_,ht,rfl,rfl⟩)
 have hq:=h a g1.1 g1.2
 have r2:Vals (V.ref a :: vs) (Value.ref a :: us):=.cons rfl r
 have hln:(Value.ref a :: us ++ []).length=ps.length:=by
  rw [WN,← r2.length]; exact F.len _ _ _ _ hq
 refine wpAny_call (QT (F.run _ X.stack _ _ ⟨Value.ref a :: us,[]⟩ (Value.ref a :: us) _ _ E0 (hr.make C us []) (I2.env0.make C us []) (by have:=hb _ (Value.ref a :: us) I2.kIn hln; rwa [WN] at this) r2 hq) fun rr s' hq'=>?_)
 cases rr with
 | error z=>exact hq'.elim
 | ok fl =>
  cases fl with
  | ret u =>
   obtain ⟨v,H',I3,rv,ev,q3⟩:=I2.after hq'
   subst ev
   exact ⟨rv,⟨V.ref a,H',I3,rfl,q3⟩⟩
  | next=>exact False.elim hq'
  | brk=>exact False.elim hq'
  | cont=>exact False.elim hq'
theorem zb8 (q:excI X.K C f=true) (hfn:isFn X.K (.ref f)=true) (hk:keepIn X.K (.ref C)=true) (F:FnOk X.prog X.w X.K X.mg X.base CX0 k f fd ps sp) (hr:Room (k + 1) X.A) (hb:Binds X.K fd ps []) (hex:X.ex=[]) (hg:Gl X x) (hm:X.mg x=some (.ref C))
  (ha:PA X (e :: es) t) (hl:(e :: es).length≤100) (hdb:(x == ("__debug__" : Str))=false:=by decide) (he:W6 (e :: es) X.env=(false,eval e X.env) :: W6 es X.env:=by rfl) (hpl:(WZ pos (W6 es X.env)).any (·.1)=false:=by rfl) :
  PE X (.Call (.Name x p) (e :: es) [] pos) (fun σ H Q=>t σ H fun vs H1=>vs.length≤100∧∀ a,H1 a=none→X.s₀.heap.get? a=none→sp (.ref a :: vs) (upd H1 a (.ext (excN C a))) (fun v H2=>v = .non∧Q (.ref a) H2) E0):=by
 intro pins s σ H Q I h
 refine QU (z3p I hg hm ?_ hdb)
 refine callWith_K (h₀:=X.base) I.ok.mod.kin hk (thn (ha pos pins s σ H _ I h) fun us s1 ⟨vs,H1,I1,r,q1⟩=>⟨I1.kIn,?_⟩) he hpl
 exact z9b q hfn F hr hb hex I1 r (by rw [Q2,← r.length,QE]; have:=q1.1; omega) q1.2
end
def spX1 (K:W2) (fl:List Str):Sp:=fun vs H Q _=>∃ a C ys,vs = .ref a :: ys∧ys.length=fl.length∧H a=some (.ext (excN C a))∧(∀ f ∈ fl,ExcS K C f)∧∀ dx,H dx=none→dx≠a→Q .non (upd (upd H a (.ext (excD C (some dx) a))) dx (.ext (DV.xdAt (fl.zip ys) dx)))
section
variable {P:Wj} {w:Wp} {K:W2} {mg:Str→Option Value} {base:Heap} {x qual f1 f2:Str} {st:Stmt} {f:Addr} {fd:WM} {N ps:List Str} {k:Nat}
theorem zbC (F:Fun K x qual st f fd) (S:FnScope N ps (z02 st)) (hps:ps.length=2) (h0:∀ vs:List V,vs.length=2→start N vs=vs.map some)
  (hbody:∀ (cdv:Value) (A:Wn) (outer:List Env) (s:W1) (H:Hp) (E:XK),Room k (A.deeper (J5 qual (z02 st) s.heap.objs.size f cdv))→PSs (cxOf CX0 P w K mg base N qual (z02 st) f cdv A outer s H E).nox (z13 st) (zcP K (tVar 0) (tVar 1) f1)) :
  FnOk P w K mg base CX0 (k + 1) f fd ps (spX1 K [f1]):=by
 refine F.ok S (fun vs H Q E ⟨a,C,ys,e,l,_⟩=>by rw [e,hps,WB,l]; rfl) fun cdv A outer s H vs Q E hr ⟨a,C,ys,e,l,ea,c,q⟩=>⟨_,hbody cdv A outer s H E hr,?_⟩
 subst e
 obtain ⟨y,rfl⟩:=List.length_eq_one_iff.mp l
 rw [h0 _ rfl]
 exact ⟨y,rfl,.ref a,rfl,a,C,rfl,ea,c _ (by simp),q⟩
theorem zbB (F:Fun K x qual st f fd) (S:FnScope N ps (z02 st)) (hne:f2≠f1) (hps:ps.length=3) (h0:∀ vs:List V,vs.length=3→start N vs=vs.map some)
  (hbody:∀ (cdv:Value) (A:Wn) (outer:List Env) (s:W1) (H:Hp) (E:XK),Room k (A.deeper (J5 qual (z02 st) s.heap.objs.size f cdv))→PSs (cxOf CX0 P w K mg base N qual (z02 st) f cdv A outer s H E).nox (z13 st) (tSeq (zcP K (tVar 0) (tVar 1) f1) (zc1 K (tVar 0) (tVar 2) f2))) :
  FnOk P w K mg base CX0 (k + 1) f fd ps (spX1 K [f1,f2]):=by
 refine F.ok S (fun vs H Q E ⟨a,C,ys,e,l,_⟩=>by rw [e,hps,WB,l]; rfl) fun cdv A outer s H vs Q E hr ⟨a,C,ys,e,l,ea,c,q⟩=>⟨_,hbody cdv A outer s H E hr,?_⟩
 subst e
 match ys,l with
 | [y,z],_ =>
  rw [h0 _ rfl]
  refine ⟨y,rfl,.ref a,rfl,a,C,rfl,ea,c _ (by simp),fun dx n0 ne=>⟨z,rfl,.ref a,rfl,a,C,dx,_,rfl,?_,z0k,ne,?_,by simp,c _ (by simp),?_⟩⟩
  ·rw [z0i (Ne.symm ne),z0k]
  ·rw [WJ,beq_eq_false_iff_ne.mpr hne]; rfl
  ·have:=q dx n0 ne
   rw [z8S]
   exact this
end
theorem ObjOk.less:∀ {b:Addr} {o:HO},ObjOk P w (upd H a (.ext φ)) h b o→ObjOk P w H h b o:=by
 have dn:∀ {c:Addr} {u:HO},upd H a (.ext φ) c=some u→(∀ ψ,u≠.ext ψ)→H c=some u:=fun {c u} e n=>by
  by_cases hc:c=a
  ·subst hc; rw [z0k] at e; cases e; exact absurd rfl (n φ)
  ·rw [z0i hc] at e; exact e
 intro b o
 induction o generalizing b with
 | dT kvs =>
  rintro ⟨h1,h2,xs,h3,h4⟩
  refine ⟨h1,h2,xs,L2.Paired.mapP h3 (fun p q ⟨e1,e2,e3⟩=>⟨e1,dn e2 (fun ψ z=>by cases z),e3⟩),h4⟩
 | ins C dx fs =>
  rintro ⟨h1,h2⟩
  exact ⟨dn h1 (fun ψ z=>by cases z),h2⟩
 | frz ob u ih=>exact fun ⟨h1,h2⟩=>⟨h1,ih h2⟩
 | _=>exact fun x=>x
theorem Inv.untrack (I:Inv X pins σ (upd H a (.ext φ)) s) (hn:H a=none):Inv X pins σ H s:=by
 have dn:∀ {c:Addr} {u:HO},upd H a (.ext φ) c=some u→(∀ ψ,u≠.ext ψ)→H c=some u:=fun {c u} e n=>by
  by_cases hc:c=a
  ·subst hc; rw [z0k] at e; cases e; exact absurd rfl (n φ)
  ·rw [z0i hc] at e; exact e
 have no:∀ {c:Addr},upd H a (.ext φ) c=none→H c=none:=fun {c} e=>by
  by_cases hc:c=a
  ·subst hc; exact hn
  ·rw [z0i hc] at e; exact e
 refine ⟨I.ok,I.os,I.bare,⟨I.base.keep,I.base.slot,fun b o e n hx=>no (I.base.free b o e n hx),I.base.there,fun b xs e=>dn (I.base.tups b xs e) (fun ψ z=>by cases z),fun b o u e=>dn (I.base.frzs b o u e) (fun ψ z=>by cases z),fun b ps e=>?_⟩,I.loc,I.cell,no I.free,fun x c e=>no (I.freeC x c e),fun p hp=>?_,fun b o e=>?_,I.len⟩
 ·obtain ⟨m,q⟩:=I.base.tbls b ps e
  exact ⟨m,dn q (fun ψ z=>by cases z)⟩
 ·obtain ⟨e,n,r⟩:=I.pin p hp
  exact ⟨e,no n,r⟩
 ·have hb:b≠a:=fun z=>by rw [z,hn] at e; cases e
  exact (I.hok b o (by rw [z0i hb]; exact e)).less
section
variable {X:Cx} {C f:Addr} {call:Expr} {te:TE} {pos:Pos}
theorem z9t {W:Option Addr→St→Hp→Prop} (q:excI X.K C f=true) (hc:X.calm=true) (he:PE X call te)
  (hxe:∀ pins σ H s a dx,Inv X pins σ (upd H a (.ext (excD C dx a))) s→H a=none→X.s₀.heap.get? a=none→W dx σ H→X.xe (.ref a) s) :
  PS X (.Raise (some call) none pos) (fun _ σ H=>te σ H fun v H2=>∃ a H1 dx,v = .ref a∧H2=upd H1 a (.ext (excD C dx a))∧H1 a=none∧X.s₀.heap.get? a=none∧W dx σ H1):=by
 intro pins s σ H D I h
 rw [arm_exec_Raise]
 refine W0 (wpAny_standAt (zb1 (I.ok.hd hc) (W0 (thn (he pins s σ H _ I h) fun v s1 ⟨x,H2,I2,rx,a,H1,dx,ex,eH,n1,n2,w⟩=>W0 (wpAny_standAt (W3 ?_))))))
 subst ex eH
 obtain rfl:v=Value.ref a:=rx
 obtain ⟨bm,N,nm,qn,bs,hdct,sn,sub,ab,col,dd,k0,k1,k2,k3,k5,mN,hC,hN,hi,hT⟩:=z87 q I2.kIn
 obtain ⟨⟨vs,sl,a0,e0,e1,e2⟩,_,_⟩:=(show ObjOk X.prog X.w (upd H1 a (.ext (excD C dx a))) s1.heap a (.ext (excD C dx a)) from I2.hok a _ z0k)
 exact ⟨a,C,N,dx,vs,sl,nm,qn,bs,bm,hdct,sn,sub,ab,col,dd,k0,k1,k2,k3,k5,_,rfl,hT.hasType rfl,hC,e0,e2,hxe pins σ H1 s1 a dx I2 n1 n2 w⟩
end
end L2
namespace DV
open PySem PySem.Spec PyProof.Rows L2 PySem.W
def z2A (y:Tx) (fl:List Tx) (fs:DA):DS:=fun δ=>(fs δ).bind fun ds δ1=>if ds.length=fl.length then .exc ⟨y,.xd (fl.zip ds)⟩ δ1 else .stuck
theorem zec {c:Fc} {σ:St} {δ:Dl} {H:Hp} {dx:Addr} {vs:List V} {fl:List Tx} {ds:List D} (k:Ok c σ δ H) (n:H dx=none) (r:Reps H (Av c σ δ) vs ds) (hl:ds.length=fl.length) :
  Ok c σ δ (upd H dx (.ext (xdAt ((fl.map toS).zip vs) dx)))∧Rep (upd H dx (.ext (xdAt ((fl.map toS).zip vs) dx))) (Av c σ δ) (.ref dx) (.xd (fl.zip ds)):=by
 have r1:=Reps.aft r (Aft.alloc k n (.ext (xdAt ((fl.map toS).zip vs) dx)))
 refine ⟨k.alloc n _,.xd (k.nav n) z0k ?_ fun i p q e1 e2=>?_⟩
 ·rw [List.map_fst_zip (by rw [Ws,r.1,hl]; omega)]
  have z:(fl.zip ds).map (fun p=>toS p.1)=((fl.zip ds).map Prod.fst).map toS:=by rw [WH]; rfl
  rw [z,List.map_fst_zip (by omega)]
 ·rw [List.getElem?_zip_eq_some] at e1 e2
  exact r1.2 i _ _ e1.2 e2.2
theorem z8Z {X:Cx} {c:Fc} {x:Str} {fl:List Str} {C f:Addr} {fd:WM} {ps:List Str} {k:Nat} {e:Expr} {es:List Expr} {fe:DA} {np cpos pos:Pos} (y:Tx) (gl:List Tx) (q:excI X.K C f=true) (hfn:isFn X.K (.ref f)=true) (hk:keepIn X.K (.ref C)=true) (hS:∀ z ∈ fl,ExcS X.K C z)
  (F:FnOk X.prog X.w X.K X.mg X.base CX0 k f fd ps (spX1 X.K fl)) (hr:Room (k + 1) X.A) (hb:Binds X.K fd ps []) (hc:X.calm=true) (hg:Gl X x) (hm:X.mg x=some (.ref C)) (he:SA X c (e :: es) fe) (hx:XOk X (wD X.mg c)) (hl:(e :: es).length≤100) (hgl:fl=gl.map toS:=by decide +kernel) (hln:fl.length≤100:=by decide) (hy:x=toS y:=by decide +kernel) (hd:(x == ("__debug__" : Str))=false:=by decide) (hex:X.ex=[]:=by rfl)
  (hs:W6 (e :: es) X.env=(false,eval e X.env) :: W6 es X.env:=by rfl) (hpl:(WZ cpos (W6 es X.env)).any (·.1)=false:=by rfl):SS X c (.Raise (some (.Call (.Name x np) (e :: es) [] cpos)) none pos) (z2A y gl fe) :=
 PS.weak (z9t (W:=fun dx σ H=>wD X.mg c C dx σ H) q hc (zb8 (p:=np) (pos:=cpos) q hfn hk F hr hb hex hg hm he.pa hl hd hs hpl) fun pins σ H s a dx I n1 n2 w=>by
  obtain ⟨⟨vs,sl,a0,e0,e1,e2⟩,_,_⟩:=(show ObjOk X.prog X.w (upd H a (.ext (excD C dx a))) s.heap a (.ext (excD C dx a)) from I.hok a _ z0k)
  have ne:∀ {b:Addr},upd H a (.ext (excD C dx a)) b=none→a≠b:=fun {b} z e=>by rw [← e,z0k] at z; cases z
  exact hx pins σ H s a C dx (I.untrack n1) (.inr ⟨⟨vs,sl,a0,e0,e1,e2⟩,n2,n1,ne I.free,fun x c hc z=>ne (I.freeC x c hc) z.symm,fun p hp z=>ne (I.pin p hp).2.1 z.symm⟩) w) fun D σ H ⟨δ,k,q⟩=>by
  unfold z2A z2r at q
  rw [z03] at q
  refine ⟨δ,k,z00 q fun ds δ1 q1 vs H1 a1 r1=>?_⟩
  split at q1
  ·rename_i hlen
   have hvl:vs.length=fl.length:=by rw [r1.1,hlen,hgl,Ws]
   refine ⟨by omega,fun a n1 n2=>⟨a,C,vs,rfl,hvl,z0k,hS,fun dx d1 d2=>⟨rfl,a,upd H1 dx (.ext (xdAt (fl.zip vs) dx)),some dx,rfl,?_,?_,n2,?_⟩⟩⟩
   ·funext b
    unfold upd
    by_cases hb:b=a
    ·subst hb; simp [Ne.symm d2]
    ·simp [hb]
   ·rw [z0i (Ne.symm d2)]; exact n1
   ·have d1':H1 dx=none:=by rwa [z0i d2] at d1
    obtain ⟨k1,rx⟩:=zec (fl:=gl) a1.ok d1' r1 hlen
    rw [hgl]
    exact ⟨⟨y,.xd (gl.zip ds)⟩,δ1,.ref dx,by rw [← hy]; exact hm,k1,rx,fun z e=>by cases e; rfl,q1⟩
  ·exact q1.elim
def IniK (P:Wj) (w:Wp) (K:W2) (mg:Str→Option Value) (base:Heap) (C:Addr) (fl:List Str):Prop :=
 ∃ (f:Addr) (fd:WM) (ps:List Str),excI K C f=true∧isFn K (.ref f)=true∧keepIn K (.ref C)=true∧(∀ z ∈ fl,ExcS K C z)∧Binds K fd ps []∧FnOk P w K mg base CX0 1 f fd ps (spX1 K fl)
theorem z4A {X:Cx} {c:Fc} {x:Str} {fl:List Str} {C:Addr} {e:Expr} {es:List Expr} {fe:DA} {np cpos pos:Pos} (y:Tx) (gl:List Tx) (N:IniK X.prog X.w X.K X.mg X.base C fl) (hr:Room 2 X.A) (hc:X.calm=true) (hg:Gl X x) (hm:X.mg x=some (.ref C)) (he:SA X c (e :: es) fe) (hx:XOk X (wD X.mg c)) (hl:(e :: es).length≤100:=by decide) (hgl:fl=gl.map toS:=by decide +kernel) (hln:fl.length≤100:=by decide)
  (hy:x=toS y:=by decide +kernel) (hd:(x == ("__debug__" : Str))=false:=by decide) (hex:X.ex=[]:=by rfl) (hs:W6 (e :: es) X.env=(false,eval e X.env) :: W6 es X.env:=by rfl) (hpl:(WZ cpos (W6 es X.env)).any (·.1)=false:=by rfl):SS X c (.Raise (some (.Call (.Name x np) (e :: es) [] cpos)) none pos) (z2A y gl fe):=by
 obtain ⟨f,fd,ps,h1,h2,h3,h4,h5,h6⟩:=N
 exact z8Z y gl h1 h2 h3 h4 h6 hr h5 hc hg hm he hx hl hgl hln hy hd hex hs hpl
def zaA:Stmt→List Stmt
 | .ClassDef _ _ _ b _ _ _ _ _ _ _=>b
 | _=>[]
section
variable {X:Cx} {c:Fc} {e:Expr} {fb:BE}
end
end DV
namespace L2
open PySem PySem.Spec PyProof.Rows
section
variable {X:Cx} {tg:Expr}
end
end L2
namespace DV
open PySem PySem.Spec PyProof.Rows L2
section
variable {X:Cx} {c:Fc} {tg e:Expr} {fe:DE} {pos pp:Pos}
end
end DV
namespace PySem.SeqAt
open AutoSeq1 (wpAny_loadPart')
open MeetsSeq
section
variable {A:Wn} {s:W1}
end
end PySem.SeqAt
namespace DV
open PySem PySem.Spec PyProof.Rows L2
end DV
namespace PySem.SeqAt
open AutoSeq1 (wpAny_loadPart')
open MeetsSeq
abbrev prO (dd:Option Addr) (a1 a2:Int) (t1 t2:Tok) (n:Nat) (sl:Array (Option Value)):Obj:={ cls:=.type "tuple",dict:=dd,data:=.seq #[.int a1 t1,.int a2 t2] n,slots:=sl }
def ltP (a1 a2 b1 b2:Int):Bool:=if a1 == b1 then decide (a2 < b2) else decide (a1 < b1)
theorem z8U (l b:Addr) (a1 a2 b1 b2:Int) (t1 t2 u1 u2:Tok) (n n2:Nat) (dd dd2:Option Addr) (sl sl2:Array (Option Value)) :
  Meets (Builtin.«tuple.__lt__» ⟨[.ref l,.ref b],[]⟩)
   (fun _ R s=>s.heap.get? l=some (prO dd a1 a2 t1 t2 n sl)∧s.heap.get? b=some (prO dd2 b1 b2 u1 u2 n2 sl2)∧R (.ok (.ret (.bool (ltP a1 a2 b1 b2)))) s) :=
 .of_wp fun prog w A R s h=>by
  obtain ⟨hp,g,d,tk,os⟩:=s; obtain ⟨hl,hb,h⟩:=h
  have f2:=AutoSeq1.sub_tuple_tuple
  wp_walk using QW hl,QW hb,wpAny_forIn_list _ (fun rest c s'=>c.1=none∧s' = ⟨hp,g,d,tk,os⟩ ∧
   (rest=[(.int a1 t1,.int b1 u1),(.int a2 t2,.int b2 u2)]∨(rest=[(.int a2 t2,.int b2 u2)]∧a1=b1)∨(rest=[]∧a1=b1∧a2=b2))) _
  case turn =>
   rintro ⟨y,x⟩ rest c s' ⟨hc,rfl,hz⟩
   rcases hz with hz | ⟨hz,e1⟩ | ⟨hz,_⟩
   ·injection hz with hyx hrest
    cases hyx
    refine W0 (EqAt.int_int a1 t1 b1 u1 prog w _ _ ?_)
    by_cases e:a1=b1
    ·rw [show (a1 == b1)=true by simp [e]]
     wp_walk
     exact ⟨rfl,rfl,.inr (.inl ⟨hrest,e⟩)⟩
    ·rw [show (a1 == b1)=false by simp [e]]
     have hlt:ltP a1 a2 b1 b2=decide (a1 < b1):=by simp [ltP,e]
     rw [hlt] at h
     simp only [Bool.not_false,if_true]
     refine W0 (QL ?_)
     refine W0 (richCompare_gives (op:=.Lt) (JQ _ _ t1) (JQ _ _ u1) F.slot_int_lt F.entry_int_lt (F.args_int_lt_2 _ _) (gives_int_lt _ _ t1 u1) (fun x=>nomatch x) ?_)
     refine W0 (W3 ?_)
     exact W3 (W3 ⟨_,rfl,h⟩)
   ·injection hz with hyx hrest
    cases hyx
    refine W0 (EqAt.int_int a2 t2 b2 u2 prog w _ _ ?_)
    by_cases e:a2=b2
    ·rw [show (a2 == b2)=true by simp [e]]
     wp_walk
     exact ⟨rfl,rfl,.inr (.inr ⟨hrest,e1,e⟩)⟩
    ·rw [show (a2 == b2)=false by simp [e]]
     have hlt:ltP a1 a2 b1 b2=decide (a2 < b2):=by simp [ltP,e1]
     rw [hlt] at h
     simp only [Bool.not_false,if_true]
     refine W0 (QL ?_)
     refine W0 (richCompare_gives (op:=.Lt) (JQ _ _ t2) (JQ _ _ u2) F.slot_int_lt F.entry_int_lt (F.args_int_lt_2 _ _) (gives_int_lt _ _ t2 u2) (fun x=>nomatch x) ?_)
     refine W0 (W3 ?_)
     exact W3 (W3 ⟨_,rfl,h⟩)
   ·cases hz
  case fin =>
   rintro ⟨c1,c2⟩ s' ⟨hc,rfl,hz⟩
   simp only at hc
   subst hc
   rcases hz with hz | ⟨hz,e1⟩ | ⟨_,e1,e2⟩
   ·cases hz
   ·cases hz
   ·have hlt:ltP a1 a2 b1 b2=false:=by simp [ltP,e1,e2]
    rw [hlt] at h
    wp_walk
    exact ⟨_,rfl,h⟩
  case h=>exact ⟨rfl,rfl,.inl rfl⟩
end PySem.SeqAt
namespace PySem
open SeqAt (prO ltP z8U)
section
variable {prog:Wj} {w:Wp} {A:Wn} {R:Result→W1→Prop} {I:Addr} {fp wr:List Addr} {n:Nat} {P:Nat→Value→Prop} {St:Nat→Heap→Prop}
end
section
variable {prog:Wj} {w:Wp} {A:Wn} {E:Value→W1→Prop} {s:W1}
end
end PySem
namespace DV
open PySem PySem.Spec PyProof.Rows L2
open PySem.SeqAt (prO ltP)
section
variable {X:Cx} {c:Fc} {e:Expr} {fb:BE} {pos pp:Pos}
end
section
variable {c:Fc} {σ:St} {δ δ':Dl} {H H':Hp} {p:Addr}
end
end DV
namespace L2
open PySem PySem.Spec PyProof.Rows
end L2
namespace DV
open PySem PySem.Spec PyProof.Rows L2
section
variable {X:Cx} {c:Fc} {tg e:Expr} {fe:DE} {pos pp:Pos}
end
section
variable {K:W2} {h:Heap} {mg:Str→Option Value} {x q:Str} {st:Stmt} {f:Addr} {fd:WM}
abbrev FnH (K:W2) (x:Str) (st:Stmt):Prop:=∃ (f:Addr) (oc:Value) (od:Option Addr) (kV dc pm:Value) (an:Option Addr) (cd ct:Value) (sl:Array (Option Value)),
 PySem.W.nsIn K Wq x=some (some (.ref f))∧K.lookup f=some ⟨oc,od,.func (Qm x x (z2d st) (z13 st) (z02 st) .none kV dc pm an cd ct),sl⟩∧PySem.W.codeIn K cd x=true∧Qe K (.ref f)=true
theorem fnH (X:K.In h) (G:h.Ns Wq mg) (d:FnH K x st):∃ f fd,Fun K x x st f fd∧mg x=some (.ref f):=by
 obtain ⟨f,oc,od,kV,dc,pm,an,cd,ct,sl,a,l,c,k⟩:=d
 exact ⟨f,_,z85 l c k,PySem.W.mg_of X G a⟩
abbrev Bd (x q:Str) (st:Stmt) (ps:List Str) (us:List Value):Prop:=∀ (kV doc pm:Value) (an:Option Addr) (cdv ct:Value),bindArgs (Qm x q (z2d st) (z13 st) (z02 st) .none kV doc pm an cdv ct) ⟨us,[]⟩=pure (ps.zip us)
variable {p1 p2 p3 p4 p5 p6:Str}
theorem bd1 (F:Fun K x q st f fd) (h:∀ a,Bd x q st [p1] [a]):Binds K fd [p1] []:=F.binds fun _ _ _ _ _ _ us hl=>match us,hl with
 | [a],_=>h a _ _ _ _ _ _
theorem bd2 (F:Fun K x q st f fd) (h:∀ a b,Bd x q st [p1,p2] [a,b]):Binds K fd [p1,p2] []:=F.binds fun _ _ _ _ _ _ us hl=>match us,hl with
 | [a,b],_=>h a b _ _ _ _ _ _
theorem bd3 (F:Fun K x q st f fd) (h:∀ a b c,Bd x q st [p1,p2,p3] [a,b,c]):Binds K fd [p1,p2,p3] []:=F.binds fun _ _ _ _ _ _ us hl=>match us,hl with
 | [a,b,c],_=>h a b c _ _ _ _ _ _
theorem bd4 (F:Fun K x q st f fd) (h:∀ a b c d,Bd x q st [p1,p2,p3,p4] [a,b,c,d]):Binds K fd [p1,p2,p3,p4] []:=F.binds fun _ _ _ _ _ _ us hl=>match us,hl with
 | [a,b,c,d],_=>h a b c d _ _ _ _ _ _
end
theorem fm1 {α:Type} {P:α→Prop} {a:α} (x:P a):∀ z ∈ [a],P z:=fun _ h=>by cases h with | head=>exact x | tail _ h=>cases h
theorem fm2 {α:Type} {P:α→Prop} {a b:α} (x:P a) (y:P b):∀ z ∈ [a,b],P z:=fun _ h=>by cases h with | head=>exact x | tail _ h=>exact fm1 y _ h
end DV
namespace L2
open PySem PySem.Spec PyProof.Rows
section
variable {X:Cx} {tg:Expr}
end
section
variable {X:Cx} {e:Expr} {ta:TE} {f:Str} {pos:Pos}
structure AtT (K:W2) (ce:DV.Tx→Nat) (ys:List DV.Tx) (f:Str):Prop where
 k:∀ z ∈ ys,ExcK K (ce z)
 no:∀ z ∈ ys,Jv K (.ref (ce z)) f=some none
 hd:∀ z ∈ ys,J4 K (ce z)=true
theorem zeD (T:AtT X.K ce ys f) (he:PE X e ta) (hb:Qy e f X.env (eval e X.env)=eval e X.env) :
  PE X (.Attribute e f pos) (fun σ H Q=>ta σ H fun x H1=>∃ (a dx:Addr) (z:DV.Tx) (fs:List (Str×V)) (v:V),x = .ref a∧z ∈ ys∧H1 a=some (.ext (DV.excAt (ce z) (.ref dx) a))∧H1 dx=some (.ext (DV.xdAt fs dx))∧fs.lookup f=some v∧Q v H1):=by
 intro pins s σ H Q I h
 refine zdN hb (thn (he pins s σ H _ I h) fun u s1 ⟨x,H1,I1,rx,a,dx,z,fs,v,ex,hz,ea,ed,l,q⟩=>?_)
 subst ex
 obtain rfl:u=Value.ref a:=rx
 obtain ⟨⟨⟨cls,dd,data,sl⟩,o1,o2,o3,vs,o4⟩,_,_⟩:=(show ObjOk X.prog X.w H1 s1.heap a (.ext (DV.excAt (ce z) (.ref dx) a)) from I1.hok a _ ea)
 obtain ⟨⟨mA,ns,rl⟩,_,_⟩:=(show ObjOk X.prog X.w H1 s1.heap dx (.ext (DV.xdAt fs dx)) from I1.hok dx _ ed)
 have o5:dd=some dx:=o3 dx rfl
 have o6:cls = .ref (ce z):=o2
 have o7:data = .fields vs:=o4
 subst o5; subst o6; subst o7
 obtain ⟨w,hw,rw'⟩:=RelO.some_of (by rw [← l]; exact rl f)
 exact zdz I1.kIn o1 ns (T.k z hz) (T.no z hz) (T.hd z hz) hw (za5 rw') ⟨v,H1,I1.tok _,rw',q⟩
end
end L2
namespace DV
open PySem PySem.Spec PyProof.Rows L2
section
variable {X:Cx} {c:Fc} {tg e:Expr} {fe:DE} {pos pp:Pos}
def z1Z (ce:Tx→Nat) (ys:List Tx) (f:Tx) (fb:BE):DE:=fun δ=>(fb δ).bind fun d δ'=>match d with
 | .exc n (.xd fs)=>match ys.find? (fun z=>ce z == n),fs.lookup f with
  | some _,some d=>.ok (.pure d) δ'
  | _,_=>.stuck
 | _=>.stuck
theorem z5u:∀ {fs:List (Str×V)} {ds:List (Tx×D)} {d:D},fs.map (·.1)=ds.map (fun p=>toS p.1)→(∀ (i:Nat) p q,fs[i]? = some p→ds[i]? = some q→Rep H O p.2 q.2)→ds.lookup f=some d→∃ v,fs.lookup (toS f)=some v∧Rep H O v d
 | _,[],_,_,_,h=>by simp at h
 | [],_ :: _,_,h,_,_=>by simp at h
 | p :: fs,q :: ds,d,h1,h2,h=>by
  obtain ⟨n,v⟩:=p
  obtain ⟨g,e⟩:=q
  simp only [Wr,List.cons.injEq] at h1
  obtain ⟨rfl,h1⟩:=h1
  by_cases z:f=g
  ·subst z
   simp only [WJ,beq_self_eq_true,W9] at h
   subst h
   exact ⟨v,by simp,h2 0 _ _ rfl rfl⟩
  ·have zs:toS f≠toS g:=fun w=>z (z3S w)
   rw [WJ,beq_eq_false_iff_ne.mpr z] at h
   rw [WJ,beq_eq_false_iff_ne.mpr zs]
   exact z5u h1 (fun i p q e1 e2=>h2 (i + 1) p q (by simpa using e1) (by simpa using e2)) h
theorem z4E (f:Tx) (T:AtT X.K ce ys x) (he:SB X c e fb) (hx:x=toS f:=by decide +kernel) (hb:Qy e x X.env (eval e X.env)=eval e X.env:=by rfl):SE X c (.Attribute e x pos) (z1Z ce ys f fb) :=
 PE.weak (zeD T he hb) fun σ H Q ⟨δ,k,q⟩=>by
  unfold z1Z at q
  rw [z03] at q
  refine ⟨δ,k,z00 q fun d δ1 q1 v H1 a1 r1=>?_⟩
  cases d <;> first | exact q1.elim | skip
  rename_i n fl
  cases fl <;> first | exact q1.elim | skip
  rename_i ds
  simp only at q1
  split at q1
  ·rename_i z d hz hd
   have h1:=JG hz
   have h2:=Je hz
   have e:ce z=n:=by simpa using h1
   subst e
   rcases r1 with r1 | ⟨a,_,o⟩
   ·cases r1 with
    | exc _ ha r2 =>
     cases r2 with
     | xd _ hx2 h3 h4 =>
      obtain ⟨v,l,rv⟩:=z5u h3 h4 hd
      exact ⟨_,_,z,_,v,rfl,h2,ha,hx2,by rw [hx]; exact l,q1 _ H1 a1 rv⟩
   ·exact o.elim
  ·exact q1.elim
end
end DV
namespace L2
open PySem PySem.Spec PyProof.Rows
section
variable {X:Cx}
end
end L2
namespace DV
open PySem PySem.Spec PyProof.Rows L2
end DV
namespace L2
open PySem PySem.Spec PyProof.Rows PySem.SeqAt DV
section
variable {X:Cx}
end
end L2
namespace DV
open PySem PySem.Spec PyProof.Rows L2
section
variable {X:Cx} {c:Fc} {o e:Expr} {fa fb:DE}
end
end DV
namespace L2
open PySem PySem.Spec PyProof.Rows PySem.W DV
section
variable {α β:Type} {n:Nat}
end
section
variable {n:Nat} {p:Array Nat}
end
structure TupK (h:Heap) (vs:List Value) (ks:List Tx):Prop where
 len:ks.length=vs.length
 at':∀ i v,vs[i]? = some v→∃ b o xs m t,v = .ref b∧h.get? b=some o∧o.cls = .type "tuple"∧o.data = .seq xs m∧xs[0]? = some (.str (toS (ks.getD i [])) t)
section
variable {prog:Wj} {w:Wp} {A:Wn} {E:Value→W1→Prop} {s:W1} {vs:List Value} {ks:List Tx}
end
theorem Vals.at2 {vs:List V} {its:List Value} {i:Nat} {v:V} {u:Value} (r:Vals vs its) (e1:vs[i]? = some v) (e2:its[i]? = some u):RelV v u:=by
 obtain ⟨u',e,q⟩:=Vals.get r e1
 rw [e2] at e; cases e; exact q
section
variable {X:Cx}
end
end L2
namespace DV
open PySem PySem.Spec PyProof.Rows L2
def ndT:List Tx→Bool
 | []=>true
 | x :: r=>!r.contains x && ndT r
theorem z9O:∀ {ks:List Tx},ndT ks=true→ks.Nodup
 | [],_=>.nil
 | x :: r,h=>by
  simp only [ndT,Wh,Qg,QX,← Jk] at h
  exact WD.mpr ⟨by simpa using h.1,z9O h.2⟩
section
variable {X:Cx} {c:Fc} {e:Expr} {fb:BE} {pp pos:Pos}
end
section
variable {X:Cx} {c:Fc} {e:Expr} {fe:DE} {fb:BE} {pos:Pos}
end
section
variable {X:Cx}
end
section
variable {X:Cx} {c:Fc} {e:Expr} {fb:BE}
end
section
variable {X:Cx} {c:Fc} {e:Expr} {fe:DE}
end
section
variable {H H':Hp} {O:Addr→Prop} {v:V} {a:Addr} {us:List V}
end
section
variable {c:Fc} {σ:St} {δ δ1:Dl} {H H1:Hp} {i:Nat} {ds:List D} {g:Xc→Dl→Prop}
end
section
variable {X:Cx} {c:Fc} {e:Expr} {es:List Expr} {as:List Ak} {k n i:Nat} {x:Str} {G:DX} {pp pos:Pos}
end
section
variable {c:Fc} {σ σ':St} {δ δ':Dl} {H H':Hp} {B':Addr→Prop} {g:Xc→Dl→Prop} {i0:Nat} {a:Addr} {ds:List D}
end
end DV
namespace L2
open PySem PySem.Spec PyProof.Rows PySem.W DV
section
variable {prog:Wj} {w:Wp} {A:Wn} {E:Value→W1→Prop} {s:W1} {vs:List Value}
end
section
variable {lt:Nat→Nat→Bool} {r:Nat→Nat} {n:Nat} {α β:Type}
structure Lt (lt:Nat→Nat→Bool) (r:Nat→Nat) (n:Nat):Prop where
 lt:∀ i j,i < n→j < n→lt i j=decide (r i < r j)
 inj:∀ i j,i < n→j < n→i≠j→r i≠r j
end
end L2
namespace DV
open PySem PySem.Spec PyProof.Rows L2
section
variable {X:Cx} {c:Fc} {e:Expr} {fb:BE} {pp pos:Pos}
end
end DV
set_option maxHeartbeats 1000000
namespace SU
open PySem PyProof.Rows
def bt (w:Wp):Bool:=w.params.followText "set-order"
def elE (prog:Wj) (w:Wp) (x:Str×Tok):Int×Value:=((strKind prog w).hash x.1,.str x.1 x.2)
structure SetX (prog:Wj) (w:Wp) (h:Heap) (a:Addr) (ks:List Str) (o:Obj) (es:Array (Int×Value)) (ep:Nat) (t:SetTable) (xs:List (Str×Tok)):Prop where
 g:h.get? a=some o
 ex:o.ExactSet
 d:o.data = .set es ep t
 e:es.toList=xs.map (elE prog w)
 p:(xs.map (·.1)).Perm ks
 nd:ks.Nodup
 f:t.fits es.size=true
 b:es.size < Jg
 l:bt w=false→t.led=true
 q:t.plain=true→ks=[]
def SetL (prog:Wj) (w:Wp) (h:Heap) (a:Addr) (ks:List Str):Prop:=∃ o es ep t xs,SetX prog w h a ks o es ep t xs
def dd (σ:List Str) (v:Str):List Str:=if v ∈ σ then σ else σ ++ [v]
def fm (val:Nat→Str) (i:Nat):List Str:=((Wz i).map val).foldl dd []
theorem zad (val:Nat→Str) (i:Nat):fm val (i + 1)=dd (fm val i) (val i):=by
 unfold fm
 simp [JH,List.foldl_append]
theorem z8b {σ:List Str} (v:Str) (h:σ.Nodup):(dd σ v).Nodup:=by
 unfold dd
 split
 ·exact h
 ·rename_i hv
  exact JW.mpr ⟨h,by simp,fun x hx y hy e=>hv (by simp at hy; rw [← hy,← e]; exact hx)⟩
theorem zco (σ:List Str) (v:Str):(dd σ v).length≤σ.length + 1:=by
 unfold dd
 split
 ·omega
 ·simp
theorem zci (val:Nat→Str):∀ i,(fm val i).length≤i
 | 0=>Wd _
 | i + 1=>by
  rw [zad]
  have:=zci val i
  have:=zco (fm val i) (val i)
  omega
section
variable {prog:Wj} {w:Wp} {A:Wn} {E:Value→W1→Prop} {s:W1}
theorem z9Y {k:Str} {v:Value} (h:(strKind prog w).is k v=true):∃ t,v = .str k t:=by
 cases v <;> simp [PySem.strKind,Value.isStrOf] at h
 rename_i y t
 exact ⟨t,by rw [h]⟩
theorem z7F (xs:List (Str×Tok)):ElemsOf (strKind prog w) (xs.map (elE prog w)):=fun e he=>by
 obtain ⟨x,_,rfl⟩:=Q7.mp he
 exact ⟨⟨x.1,strKind_is _ _ _ _,rfl⟩,rfl⟩
theorem z89:∀ (l:List (Int×Value)),ElemsOf (strKind prog w) l→∃ xs:List (Str×Tok),l=xs.map (elE prog w)
 | [],_=>⟨[],rfl⟩
 | e :: l,h=>by
  obtain ⟨xs,e1⟩:=z89 l h.tail
  obtain ⟨⟨k,q,r⟩,_⟩:=h.head
  obtain ⟨t,et⟩:=z9Y q
  obtain ⟨e0,ev⟩:=e
  simp only at r et
  subst r; subst et
  exact ⟨(k,t) :: xs,by rw [Wr,← e1]; rfl⟩
theorem z4v {l:List (Int×Value)} {xs:List (Str×Tok)} (p:l.Perm (xs.map (elE prog w))):∃ zs:List (Str×Tok),l=zs.map (elE prog w)∧(zs.map (·.1)).Perm (xs.map (·.1)):=by
 obtain ⟨zs,ez⟩:=z89 l fun e he=>z7F xs e (p.mem_iff.mp he)
 refine ⟨zs,ez,?_⟩
 have q1:=p.map fun e:Int×Value=>match e.2 with | .str k _=>k | _=>default
 rw [ez,WH,WH] at q1
 exact q1
theorem z7E (xs:List (Str×Tok)) (k:Str):(∃ e ∈ xs.map (elE prog w),(strKind prog w).is k e.2=true) ↔ k ∈ xs.map (·.1):=by
 constructor
 ·rintro ⟨e,he,q⟩
  obtain ⟨x,hx,rfl⟩:=Q7.mp he
  obtain ⟨t,et⟩:=z9Y q
  have:x.1=k:=by injection et
  exact List.mem_map.mpr ⟨x,hx,this⟩
 ·intro h
  obtain ⟨x,hx,rfl⟩:=Q7.mp h
  exact ⟨elE prog w x,Q6 hx,strKind_is _ _ _ _⟩
section
variable {h:Heap} {a:Addr} {ks:List Str} {o:Obj} {es:Array (Int×Value)} {ep:Nat} {t:SetTable} {xs:List (Str×Tok)}
theorem SetX.sz (x:SetX prog w h a ks o es ep t xs):es.size=ks.length:=by
 rw [← x.p.length_eq,Ws,← Wu,x.e,Ws]
theorem SetX.el (x:SetX prog w h a ks o es ep t xs):ElemsOf (strKind prog w) es.toList:=by
 rw [x.e]; exact z7F _
theorem SetX.so (x:SetX prog w h a ks o es ep t xs):h.SetOf (strKind prog w) a (fun k=>decide (k ∈ ks)) ks.length :=
 ⟨o,es,ep,t,x.g,x.ex,x.d,x.el,fun k=>by rw [x.e,z7E,x.p.mem_iff]; simp,x.b,x.f,x.sz⟩
theorem SetL.so (x:SetL prog w h a ks):h.SetOf (strKind prog w) a (fun k=>decide (k ∈ ks)) ks.length:=by
 obtain ⟨o,es,ep,t,xs,x⟩:=x
 exact x.so
theorem SetL.lt (x:SetL prog w h a ks):a < h.objs.size:=by
 obtain ⟨o,es,ep,t,xs,x⟩:=x
 exact We x.g
theorem SetL.at' {h':Heap} (x:SetL prog w h a ks) (k:∀ o,h.get? a=some o→h'.get? a=some o):SetL prog w h' a ks:=by
 obtain ⟨o,es,ep,t,xs,x⟩:=x
 exact ⟨o,es,ep,t,xs,{ x with g:=k o x.g }⟩
end
theorem z5p {a:Addr} {o:Obj} {es0:Array (Int×Value)} {ep:Nat} {t0:SetTable} {ks:List Str} {es':Array (Int×Value)} {t':SetTable} {xs:List (Str×Tok)} {Q:Unit→W1→Prop} (ho:s.heap.get? a=some o) (hex:o.ExactSet) (hd:o.data = .set es0 ep t0)
  (he:es'.toList=xs.map (elE prog w)) (hp:(xs.map (·.1)).Perm ks) (nd:ks.Nodup) (hf:t'.fits es'.size=true) (hb:es'.size < Jg) (hl:bt w=false→t'.led=true) (hq:t'.plain=true→ks=[])
  (h:∀ h',WW a s.heap h'→SetX prog w h' a ks { o with data:=.set es' (ep + 1) t' } es' (ep + 1) t' xs→Q () { s with heap:=h' }) :
  W5 (model prog w) A (storeSet a es' t') Q E s:=by
 refine wpAny_storeSet_of ho hd ?_ (fits_of_scanBound hb)
 have g2:=Wv (Obj.putSet es' t') ho (by rw [putSet_of _ _ hd]; rfl)
 rw [putSet_of _ _ hd] at g2
 exact h _ (.update _ _ _) ⟨g2,hex,rfl,he,hp,nd,hf,hb,hl,hq⟩
theorem zdt (t:SetTable) (es:Array (Int×Value)) (h:Int) (x:Value):(layNew t es h x).2.1.led=t.led:=by
 unfold layNew
 split
 ·unfold SetTable.orStandIn
  simp only
  split <;> rfl
 ·rfl
theorem z9f (t:SetTable) (es:Array (Int×Value)) (n:Nat):(relayAll t es n).2.1.led=t.led∧((relayAll t es n).2.1.plain=true→t.plain=true):=by
 unfold relayAll
 split
 ·rename_i t' order e
  have hl:t'.led=t.led∧t'.plain=t.plain:=by
   unfold SetTable.relaid SetTable.laid at e
   cases e1:SetTable.layClean (SetTable.sizeAbove n - 1) (es.map (·.1)) with
   | none=>rw [e1] at e; cases e
   | some ow =>
    rw [e1] at e
    simp only [Option.bind_eq_bind,WC,Option.pure_def,W9,Prod.mk.injEq] at e
    rw [← e.1]
    exact ⟨rfl,rfl⟩
  simp only
  split
  ·exact ⟨hl.1,fun z=>hl.2 ▸ z⟩
  ·exact ⟨rfl,fun z=>by cases z⟩
 ·exact ⟨rfl,fun z=>by cases z⟩
theorem addL {a:Addr} {ks:List Str} {k:Str} {tk:Tok} {Q:Bool→W1→Prop} (hS:SetL prog w s.heap a ks) (hb:ks.length + 1 < Jg)
  (h:∀ h',WW a s.heap h'→SetL prog w h' a (dd ks k)→Q (!decide (k ∈ ks)) { s with heap:=h' }) :
  W5 (model prog w) A (setAddHashed a (.str k tk) ((strKind prog w).hash k)) Q E s:=by
 obtain ⟨o,es,ep,t,xs,x⟩:=hS
 have kk:(strKind prog w).is k (.str k tk)=true:=strKind_is _ _ _ _
 have hz:=x.sz
 unfold setAddHashed setAddHashedIn
 refine WF (W0 (WL x.g x.d x.f ?_))
 dsimp only
 rw [byScan_of (knd:=strKind prog w) (x:=.str k tk) rfl x.b x.el,if_pos rfl]
 unfold setAddByScan
 refine W0 (W0 (QL (W0 (wpAny_setScan_of kk x.g x.d x.f x.el ?_))))
 cases hr:List.findIdx? (fun e=>(strKind prog w).is k e.2) es.toList with
 | some j =>
  dsimp only
  obtain ⟨hj,hp,_⟩:=List.findIdx?_eq_some_iff_getElem.mp hr
  have hk:k ∈ ks:=x.p.mem_iff.mp ((z7E (prog:=prog) (w:=w) xs k).mp ⟨_,by rw [← x.e]; exact Jj hj,hp⟩)
  have e:dd ks k=ks:=by unfold dd; rw [if_pos hk]
  have:=h s.heap (.refl _ _) (by rw [e]; exact ⟨o,es,ep,t,xs,x⟩)
  rw [decide_eq_true hk] at this
  exact W3 (W3 this)
 | none =>
  dsimp only
  have hk:k ∉ ks:=fun hk=>by
   obtain ⟨e,he,q⟩:=(z7E (prog:=prog) (w:=w) xs k).mpr (x.p.mem_iff.mpr hk)
   have:=List.findIdx?_eq_none_iff.mp hr e (by rw [x.e]; exact he)
   rw [q] at this
   cases this
  have e:dd ks k=ks ++ [k]:=by unfold dd; rw [if_neg hk]
  have nd:=z8b k x.nd
  rw [decide_eq_false hk] at h
  rw [e] at h nd
  have hperm:=layNew_perm t es ((strKind prog w).hash k) (.str k tk)
  have hfits:=layNew_fits t es ((strKind prog w).hash k) (.str k tk)
  have hled:=zdt t es ((strKind prog w).hash k) (.str k tk)
  generalize layNew t es ((strKind prog w).hash k) (.str k tk)=L at hperm hfits hled ⊢
  obtain ⟨es1,t1,wd,gave⟩:=L
  dsimp only at hperm hfits hled ⊢
  rw [JX,x.e] at hperm
  have hp2:es1.toList.Perm ((xs ++ [(k,tk)]).map (elE prog w)):=by rw [Qw]; exact hperm
  obtain ⟨zs,ez,pz⟩:=z4v hp2
  have pz2:(zs.map (·.1)).Perm (ks ++ [k]):=pz.trans (by rw [Qw]; exact x.p.append_right _)
  have hb1:es1.size < Jg:=by rw [← Wu,hperm.length_eq,Q1,Ws]; have:=x.p.length_eq; simp at this ⊢; omega
  have gw:∀ (b:Bool) (s₁:W1) (Q':Unit→W1→Prop),Q' () s₁→W5 (model prog w) A (match b with | true=>rule "set.scan.the-table-gave-way" | false=>pure ()) Q' E s₁ :=
   fun b s₁ Q' hq=>by cases b <;> first | exact W3 hq | exact QL hq
  refine W0 (gw _ _ _ ?_)
  have tail:∀ t2:SetTable,t2.fits es1.size=true→t2.led=t1.led→t2.plain=false→W5 (model prog w) A (do
    storeSet a es1 t2
    if (!wd && t2.tooFull)=true then do
      (match (relayAll t2 es1 (SetTable.grown es1.size)).2.2 with | true=>rule "set.scan.the-table-gave-way" | false=>pure ())
      storeSet a (relayAll t2 es1 (SetTable.grown es1.size)).1 (relayAll t2 es1 (SetTable.grown es1.size)).2.1
      pure (some true)
     else pure (some true)) (fun r s'=>W5 (model prog w) A (match r with | some added=>pure added | none=>setAddHashedIn a (.str k tk) ((strKind prog w).hash k) 99999) Q E s') E s:=fun t2 f2 l2 p2=>by
   refine W0 (z5p x.g x.ex x.d ez pz2 nd f2 hb1 (fun z=>by rw [l2,hled]; exact x.l z) (fun z=>by rw [p2] at z; cases z) fun h1 sb1 x1=>?_)
   split
   ·have rp:=relayAll_perm t2 es1 (SetTable.grown es1.size)
    have rf:=relayAll_fits t2 es1 (SetTable.grown es1.size)
    obtain ⟨rl,rq⟩:=z9f t2 es1 (SetTable.grown es1.size)
    generalize relayAll t2 es1 (SetTable.grown es1.size)=Rl at rp rf rl rq ⊢
    obtain ⟨es2,t3,gave2⟩:=Rl
    dsimp only at rp rf rl rq ⊢
    rw [ez] at rp
    obtain ⟨ys,ey,py⟩:=z4v rp
    have hb2:es2.size < Jg:=by rw [← Wu,rp.length_eq,← ez,Wu]; exact hb1
    refine W0 (gw _ _ _ ?_)
    refine W0 (z5p (s:={ s with heap:=h1 }) x1.g x1.ex x1.d ey (py.trans pz2) nd rf hb2 (fun z=>by rw [rl,l2,hled]; exact x.l z) (fun z=>by have:=rq z; rw [p2] at this; cases this) fun h2 sb2 x2=>?_)
    exact W3 (W3 (h h2 (sb1.trans sb2) ⟨_,_,_,_,_,x2⟩))
   ·exact W3 (W3 (h h1 sb1 ⟨_,_,_,_,_,x1⟩))
  split
  ·refine W0 ?_
   rw [hashByValue_scannable 8 (x:=.str k tk) rfl]
   refine W3 ?_
   exact tail _ (SetTable.fits_plain_off hfits) rfl rfl
  ·rename_i hpl
   refine W0 (W3 ?_)
   simp only [if_true]
   exact tail _ hfits rfl (by simpa using hpl)
end
section
variable {prog:Wj} {w:Wp} {A:Wn} {R:Result→W1→Prop} {I:Addr} {fp wr:List Addr} {G:Array GenState→Array GenState→Prop} {n:Nat} {P:Nat→Value→Prop} {St:Nat→W1→Prop}
theorem loopL (W:WalksS prog w A.in1 I fp wr G n P St) (S:Addr) (hSf:S ∉ fp) (val:Nat→Str) (hval:∀ i v,P i v→∃ t,v = .str (val i) t) (hb:n + 1 < Jg) :
  ∀ (k i:Nat) (s:W1),n - i=k→i≤n→St i s→SetL prog w s.heap S (fm val i) →
   (∀ s',Moved (S :: wr) G s s'→SetL prog w s'.heap S (fm val n)→R (.ok (.ret .none)) s') →
   Q9 (model prog w) A (.builtin "set.update.loop" ⟨[.ref S,.ref I],[]⟩) R s:=by
 have nw:S ∉ wr:=fun z=>hSf (W.sub _ z)
 have up:∀ b ∈ wr,b ∈ S :: wr:=fun b z=>Wc _ z
 intro k
 induction k with
 | zero =>
  intro i s e1 e2 st x fin
  obtain rfl:i=n:=by omega
  refine Q8 PyProof.Rows.F.entry_set_update_loop ?_
  rw [Around.under_plainId PyProof.Rows.F.plain_set_update_loop _]
  show W5 _ A.in1 (Qr (.ref I) >>= _) _ _ s
  refine W0 (W.done s _ _ st fun s' mv=>?_)
  show W5 _ A.in1 (ret Value.none) _ _ s'
  exact W3 (fin s' (mv.mono up) (x.at' fun o e=>mv.heap S _ nw e))
 | succ k ih =>
  intro i s e1 e2 st x fin
  have lt:i < n:=by omega
  refine Q8 PyProof.Rows.F.entry_set_update_loop ?_
  rw [Around.under_plainId PyProof.Rows.F.plain_set_update_loop _]
  show W5 _ A.in1 (Qr (.ref I) >>= _) _ _ s
  refine W0 (W.item i s _ _ lt st fun v s' pv st' mv=>?_)
  obtain ⟨t,rfl⟩:=hval i v pv
  have x':SetL prog w s'.heap S (fm val i):=x.at' fun o e=>mv.heap S _ nw e
  show W5 _ A.in1 (holding [Value.str (val i) t] (setAdd S (.str (val i) t)) >>= _) _ _ s'
  refine W0 (WF ?_)
  unfold setAdd
  refine WF ?_
  refine W0 ((strKind prog w).pyHash (k:=val i) (strKind_is _ _ _ _) ?_)
  refine addL (s:={ s' with toks:=s'.toks + 1 }) x' (by have:=zci val i; omega) fun h' sb y=>?_
  rw [← zad] at y
  refine W3 ⟨QN PyProof.Rows.F.plain_set_update_loop _,ih (i + 1) _ (by omega) lt (W.frame _ s' _ _ st' (Nat.le_succ _) fun b z o e=>?_) y fun s'' mv' z=>?_⟩
  ·rw [sb.2 b (fun q:b=S=>hSf (by rw [← q]; exact z))]; exact e
  ·refine fin s'' (Moved.trans W.gtrans ((mv.mono up).then_heap (Nat.le_succ _) fun b o z e=>?_) mv') z
   rw [sb.2 b (fun q:b=S=>z (by rw [q]; exact Wm))]; exact e
end
abbrev so0 (w:Wp):Obj:={ cls:=.type "set",dict:=none,data:=.set #[] 0 (.fresh 0 0 (!bt w)) }
section
variable {prog:Wj} {w:Wp} {A:Wn} {E:Value→W1→Prop} {s:W1}
theorem za8 (h:Heap):SetX prog w (h.push (so0 w)) h.objs.size [] (so0 w) #[] 0 (.fresh 0 0 (!bt w)) [] :=
 ⟨Wi _ rfl,⟨rfl,rfl,rfl⟩,rfl,rfl,.refl _,List.nodup_nil,rfl,by decide,fun z=>by rw [z]; rfl,fun _=>rfl⟩
theorem zdB (h:Heap):SetL prog w (h.push (so0 w)) h.objs.size []:=⟨_,_,_,_,_,za8 h⟩
theorem new1 (a:Value) {Q₁:Value→W1→Prop} (h:Q₁ (.ref s.heap.objs.size) { s with heap:=s.heap.push (so0 w) }) :
  Q9 (model prog w) A (.call (.builtin "set.__new__") ⟨[.type "set",a],[]⟩) (wants Q₁ E) s:=by
 refine codeAny_of_tree ?_
 show W5 _ A.in1 (do checkBuiltinCall "set.__new__" ⟨[.type "set",a],[]⟩; again (.builtin "set.__new__" ⟨[.type "set",a],[]⟩)) _ _ s
 refine W0 (wpAny_of_eq (PySem.F.newCall_set_1 a) (W3 ⟨QN PySem.F.plain_set_new _,Q8 PySem.F.entry_set_new ?_⟩))
 rw [Around.under_plainId PySem.F.plain_set_new _]
 unfold Builtin.«set.__new__» Builtin.Frozenset.newClass
 have e:=sub_set_self
 obtain ⟨hp,g,d,tk,os⟩:=s
 dsimp only
 wp_walk
 refine Qc (W3 ?_)
 dsimp only
 simp only [newObj]
 refine W0 (wpAny_alloc (W3 ?_))
 exact W3 h
theorem newS {Q:Value→W1→Prop} (h:Q (.ref s.heap.objs.size) { s with heap:=s.heap.push (so0 w) }):W5 (model prog w) A (newSet (.type "set")) Q E s:=by
 unfold newSet JS
 refine W0 (W0 (Qc (W3 ?_)))
 dsimp only
 simp only [newObj]
 exact W0 (wpAny_alloc (W3 h))
theorem callS {v:Value} {Q:Value→W1→Prop}
  (hi:W5 (model prog w) A.in1.in1 (Builtin.«set.__init__» ⟨[.ref s.heap.objs.size,v],[]⟩)
   (fun fin s'=>match fin with | .done f=>wants (fun r s₂=>r = .none∧Q (.ref s.heap.objs.size) s₂) E (.ok f) s' | .again c'=>c'.quiet=true∧Q9 (model prog w) A.in1 c' (wants (fun r s₂=>r = .none∧Q (.ref s.heap.objs.size) s₂) E) s')
   (fun e s'=>wants (fun r s₂=>r = .none∧Q (.ref s.heap.objs.size) s₂) E (.error e) s') { s with heap:=s.heap.push (so0 w) }) :
  W5 (model prog w) A (call (.type "set") [v]) Q E s:=by
 obtain ⟨c,tl,hmro⟩:=PySem.F.called_set.mro
 have g1:=PySem.F.called_set.made
 have g2:=PySem.F.called_set.sub
 refine wpAny_call (codeAny_of_tree ?_)
 show W5 _ _ (callAny (.type "set") _) _ _ _
 refine W3 ⟨Code.quiet_builtin _ (by decide +kernel),Q8 PySem.F.entry_type_call ?_⟩
 rw [Around.under_plain (weight_type_call_type "set" [v] []) rfl]
 have g3:=PySem.F.called_set.notType
 have g4:=PySem.F.called_set.canCreate
 have g5:=PySem.F.typeCall_set_1 v
 repeat (any_goals (first | assumption | wp_step))
 refine QT (new1 v (E:=E) (Q₁:=fun obj s₁=>obj = .ref s.heap.objs.size∧s₁ = { s with heap:=s.heap.push (so0 w) }) ⟨rfl,rfl⟩) fun r s₁ x=>?_
 cases r with
 | error e=>exact x
 | ok fl =>
  cases fl with
  | ret obj =>
   obtain ⟨rfl,rfl⟩:=x
   have hT:Shared.TypeIs { s with heap:=s.heap.push (so0 w) } (.ref s.heap.objs.size) "set":=⟨_,Wi _ rfl,rfl⟩
   have g6:=PySem.F.called_set.init.lookup
   have g7:=PySem.F.called_set.init.bind (.ref s.heap.objs.size)
   repeat (any_goals (first | assumption | wp_step))
   refine QT (Jd (R:=wants (fun r s₂=>r = .none∧Q (.ref s.heap.objs.size) s₂) E) PySem.F.called_set.init.plain PySem.F.entry_set_init (check_set_init_1 hT hi)) fun r₂ s₂ y=>?_
   cases r₂ with
   | error e=>exact y
   | ok f2 =>
    cases f2 with
    | ret r =>
     obtain ⟨rfl,q⟩:=y
     repeat (any_goals (first | assumption | wp_step))
    | _=>exact y.elim
  | _=>exact x.elim
theorem callL {l:Addr} {items:Array Value} (val:Nat→Str) {Q:Value→W1→Prop} (hh:A.handled=none) (hl:s.heap.IsList l items) (hval:∀ (i:Nat) (v:Value),items[i]? = some v→∃ t,v = .str (val i) t) (hb:items.size + 1 < Jg)
  (h:∀ (h':Heap) (tk:Nat),SetL prog w h' s.heap.objs.size (fm val items.size)→(∀ b o,s.heap.get? b=some o→h'.get? b=some o)→Q (.ref s.heap.objs.size) { s with heap:=h',toks:=tk }) :
  W5 (model prog w) A (call (.type "set") [.ref l]) Q E s:=by
 refine callS ?_
 obtain ⟨ol,g,hc,nl,hd⟩:=hl
 obtain ⟨ocls,odict,odata,oslots⟩:=ol
 simp only at hc hd
 subst hc; subst hd
 have g':(s.heap.push (so0 w)).get? l=some { cls:=.type "list",dict:=odict,data:=.seq items nl,slots:=oslots }:=W4 _ g
 have e1:=PySem.F.sub_list_set
 have e2:=PySem.F.sub_list_frozenset
 have e3:(Value.type "list" == Value.type "dict")=false:=by decide
 have l1:(s.heap.push (so0 w)).IsList l items:=⟨_,g',rfl,nl,rfl⟩
 unfold Builtin.«set.__init__» noKeywords Builtin.Frozenset.updateFrom
 generalize hPI:pyIter=PI
 wp_walk
 subst hPI
 refine JV l1 ?_
 refine W0 (wpAny_runValue ?_)
 have lt:l < s.heap.objs.size:=We g
 have hh3:A.in1.in1.in1.handled=none:=by simp [hh]
 have ne:l≠(s.heap.push (so0 w)).objs.size:=by
  rw [QP]; exact Wo (Qf lt)
 have nin:s.heap.objs.size ∉ [(s.heap.push (so0 w)).objs.size,l]:=by
  rw [QP]; simp only [Wg,List.not_mem_nil,or_false,not_or]
  exact ⟨Wo (JZ _),QH lt⟩
 refine loopL ((Walks.list hh3 _ l ne items).toS) s.heap.objs.size nin val hval hb (items.size - 0) 0 _ (by omega) (QR _) ⟨⟨_,Wi _ rfl,rfl,rfl⟩,(l1.push _)⟩ ((zdB s.heap).at' fun o e=>W4 _ e) fun s' mv x=>?_
 obtain ⟨h',g',d',tk',os'⟩:=s'
 have q1:g'=s.gens:=mv.gens
 have q2:d'=s.drawn:=mv.drawn
 have q3:os'=s.os:=mv.os
 subst q1; subst q2; subst q3
 show W5 _ _ _ _ _ _
 refine W3 ?_
 show W5 _ _ (ret Value.none) _ _ _
 refine W3 ⟨rfl,h h' tk' x fun b o e=>?_⟩
 have hb:=We e
 refine mv.heap b o ?_ (W4 _ (W4 _ e))
 rw [QP]
 simp only [Wg,List.not_mem_nil,or_false,not_or]
 exact ⟨Wo hb,Wo (Qf hb)⟩
end
def nxM (M:Nat) (q:Nat×Nat):Nat×Nat:=((q.1 * 5 + 1 + q.2 / 32) % M,q.2 / 32)
def itM (M:Nat):Nat→Nat×Nat→Nat×Nat
 | 0,q=>q
 | n + 1,q=>itM M n (nxM M q)
theorem z9W (M:Nat):∀ (n:Nat) (q:Nat×Nat),(itM M n q).2=q.2 / 32 ^ n
 | 0,q=>by simp [itM]
 | n + 1,q=>by
  unfold itM
  rw [z9W M n (nxM M q)]
  show q.2 / 32 / 32 ^ n=q.2 / 32 ^ (n + 1)
  rw [Nat.div_div_eq_div_mul,Nat.pow_succ,U2]
theorem z9X (M:Nat):∀ (n m:Nat) (q:Nat×Nat),itM M (n + m) q=itM M m (itM M n q)
 | 0,m,q=>by simp [itM]
 | n + 1,m,q=>by
  rw [show n + 1 + m=(n + m) + 1 by omega]
  show itM M (n + m) (nxM M q)=itM M m (itM M n (nxM M q))
  exact z9X M n m (nxM M q)
theorem zcd {M:Nat} (h0:0 < M):∀ (n:Nat) (q:Nat×Nat),q.1 < M→(itM M n q).1 < M
 | 0,q,h=>h
 | n + 1,q,h=>zcd h0 n (nxM M q) (U3 _ h0)
def cyc (M:Nat):Bool:=(Wz M).all fun i=>(Wz M).all fun j=>(Wz M).any fun m=>(itM M m (i,0)).1 == j
theorem zfx {M:Nat} (h:cyc M=true) {i j:Nat} (hi:i < M) (hj:j < M):∃ m,m < M∧(itM M m (i,0)).1=j:=by
 have h1:=Q3.mp h i (Qd.mpr hi)
 have h2:=Q3.mp h1 j (Qd.mpr hj)
 obtain ⟨m,hm,e⟩:=List.any_eq_true.mp h2
 exact ⟨m,Qd.mp hm,by simpa using e⟩
theorem zf3 {M:Nat} (c:cyc M=true) {i p:Nat} (hi:i < M) (hp:p < 2 ^ 64) {j:Nat} (hj:j < M):∃ m,m < 13 + M∧(itM M m (i,p)).1=j:=by
 have h0:(itM M 13 (i,p)).2=0:=by
  rw [z9W]
  exact Nat.div_eq_of_lt (Wx hp (by decide))
 obtain ⟨m,hm,e⟩:=zfx c (zcd (by omega) 13 (i,p) hi) hj
 refine ⟨13 + m,by omega,?_⟩
 rw [z9X]
 have:itM M 13 (i,p)=((itM M 13 (i,p)).1,0):=by rw [← h0]
 rw [this]
 exact e
theorem zfA (h:Int):SetTable.bits h < 2 ^ 64:=by
 unfold SetTable.bits
 have h1:h % (2 ^ 64:Int) < 2 ^ 64:=JP _ (by decide)
 have h2:0≤h % (2 ^ 64:Int):=U4 _ (by decide)
 omega
section
variable {mask:Nat} {owner:Array (Option Nat)}
theorem zaa:∀ (f i p:Nat) {j:Nat},SetTable.layClean.free mask owner f i p=some j→(owner.getD j (some 0)).isNone=true
 | 0,i,p,j,h=>by unfold SetTable.layClean.free at h; cases h
 | f + 1,i,p,j,h=>by
  unfold SetTable.layClean.free at h
  split at h
  ·rename_i k e
   cases h
   have:=JG e
   exact this
  ·exact zaa f _ _ h
theorem za9:∀ (m f i p:Nat),m < f→(owner.getD (itM (mask + 1) m (i,p)).1 (some 0)).isNone=true→∃ j,SetTable.layClean.free mask owner f i p=some j
 | m,0,i,p,h,_=>by omega
 | m,f + 1,i,p,h,e=>by
  unfold SetTable.layClean.free
  split
  ·exact ⟨_,rfl⟩
  ·rename_i hn
   cases m with
   | zero =>
    exfalso
    have:=List.find?_eq_none.mp hn 0 (Qd.mpr (by unfold SetTable.runEnd; split <;> omega))
    exact this (by simpa [itM] using e)
   | succ m=>exact za9 m f _ _ (by omega) e
end
def live (mask:Nat) (owner:Array (Option Nat)):List (Nat×Nat):=(Wz (mask + 1)).filterMap fun j=>(owner.getD j none).map (j,·)
theorem zch {f g:Nat→Option (Nat×Nat)} {j:Nat} {y:Nat×Nat} (hf:f j=none) (hg:g j=some y) (hs:∀ i,i≠j→g i=f i):∀ l:List Nat,l.Nodup→(j ∈ l→(l.filterMap g).Perm (y :: l.filterMap f))∧(j ∉ l→l.filterMap g=l.filterMap f)
 | [],_=>⟨fun h=>by simp at h,fun _=>rfl⟩
 | i :: l,nd=>by
  have nd':=WD.mp nd
  obtain ⟨h1,h2⟩:=zch hf hg hs l nd'.2
  by_cases e:i=j
  ·subst e
   refine ⟨fun _=>?_,fun h=>absurd Wm h⟩
   rw [QM hg,List.filterMap_cons_none hf,h2 nd'.1]
  ·refine ⟨fun h=>?_,fun h=>?_⟩
   ·have hj:j ∈ l:=(Wg.mp h).resolve_left (Ne.symm e)
    have:=h1 hj
    cases hh:f i with
    | none=>rw [List.filterMap_cons_none hh,List.filterMap_cons_none ((hs i e).trans hh)]; exact this
    | some z =>
     rw [QM hh,QM ((hs i e).trans hh)]
     exact (this.cons z).trans (.swap _ _ _)
   ·have hj:j ∉ l:=fun z=>h (Wc _ z)
    rw [Jl,Jl,hs i e,h2 hj]
theorem zbs {mask:Nat} {owner:Array (Option Nat)} {j k:Nat} (hs:owner.size=mask + 1) (h:(owner.getD j (some 0)).isNone=true):(live mask (owner.setIfInBounds j (some k))).Perm ((j,k) :: live mask owner):=by
 have hj:j < owner.size:=by
  refine Classical.byContradiction fun hn=>?_
  rw [WY,Array.getElem?_eq_none (by omega)] at h
  cases h
 have e0:owner.getD j none=none:=by
  rw [WY,Array.getElem?_eq_getElem hj] at h ⊢
  simpa using h
 refine (zch (f:=fun j=>(owner.getD j none).map (j,·)) (g:=fun i=>((owner.setIfInBounds j (some k)).getD i none).map (i,·)) (j:=j) (y:=(j,k)) (by show (owner.getD j none).map (j,·)=none; rw [e0]; rfl) ?_ (fun i hi=>?_) (Wz (mask + 1)) List.nodup_range).1 (Qd.mpr (by omega))
 ·show ((owner.setIfInBounds j (some k)).getD j none).map (j,·)=_
  rw [WY,Array.getElem?_setIfInBounds,if_pos rfl,if_pos hj]
  rfl
 ·show ((owner.setIfInBounds j (some k)).getD i none).map (i,·)=(owner.getD i none).map (i,·)
  rw [WY,WY,Array.getElem?_setIfInBounds,if_neg (Ne.symm hi)]
theorem z92 {mask:Nat} {owner:Array (Option Nat)} (hs:owner.size=mask + 1) (h:(live mask owner).length≤mask):∃ j,j < mask + 1∧(owner.getD j (some 0)).isNone=true:=by
 refine Classical.byContradiction fun hn=>?_
 have:∀ j ∈ Wz (mask + 1),((owner.getD j none).map fun k=>(j,k)).isSome=true:=fun j hj=>by
  have hj:=Qd.mp hj
  cases e:owner.getD j none with
  | some k=>rfl
  | none =>
   refine absurd ⟨j,hj,?_⟩ hn
   rw [WY,Array.getElem?_eq_getElem (by omega)] at e ⊢
   simp at e ⊢
   exact e
 have l:∀ l:List Nat,(∀ j ∈ l,((owner.getD j none).map fun k=>(j,k)).isSome=true)→(l.filterMap fun j=>(owner.getD j none).map fun k=>(j,k)).length=l.length:=fun l=>by
  induction l with
  | nil=>intro _; rfl
  | cons x l ih =>
   intro hx
   obtain ⟨z,ez⟩:=QI.mp (hx x Wm)
   rw [QM (f:=fun j=>(owner.getD j none).map fun k=>(j,k)) ez,WB,WB,ih fun j hj=>hx j (Wc _ hj)]
 have:=l _ this
 unfold live at h
 rw [this,Jt] at h
 omega
theorem z9R {mask:Nat} (c:cyc (mask + 1)=true) (f mv:Nat) (led pl:Bool) (hs:List Int) (hn:hs.length≤mask) :
  ∃ t order,SetTable.laid mask f mv led pl hs.toArray=some (t,order)∧order.toList.Perm (Wz hs.length)∧t.fits hs.length=true∧t.mask=mask∧t.led=led∧t.plain=pl∧t.dummies = #[]:=by
 have go:∀ (hs:List Int) (owner:Array (Option Nat)) (k:Nat),owner.size=mask + 1→((live mask owner).map (·.2)).Perm (Wz k)→k + hs.length≤mask →
   ∃ owner',hs.foldl (fun (acc:Option (Array (Option Nat)×Nat)) h=>do
    let (owner,k) ← acc
    let j ← SetTable.layClean.free mask owner (SetTable.turns mask) (SetTable.bits h % (mask + 1)) (SetTable.bits h)
    pure (owner.setIfInBounds j (some k),k + 1)) (some (owner,k))=some (owner',k + hs.length)∧owner'.size=mask + 1∧((live mask owner').map (·.2)).Perm (Wz (k + hs.length)):=by
  intro hs
  induction hs with
  | nil=>intro owner k h1 h2 _; exact ⟨owner,rfl,h1,h2⟩
  | cons h hs ih =>
   intro owner k h1 h2 h3
   have hlen:(live mask owner).length=k:=by
    have:=h2.length_eq
    simpa using this
   simp only [WB] at h3
   obtain ⟨j0,hj0,e0⟩:=z92 h1 (by omega)
   obtain ⟨m,hm,em⟩:=zf3 c (i:=SetTable.bits h % (mask + 1)) (U3 _ (by omega)) (zfA h) hj0
   obtain ⟨j,ej⟩:=za9 (mask:=mask) (owner:=owner) m (SetTable.turns mask) _ (SetTable.bits h) (by unfold SetTable.turns; omega) (by rw [em]; exact e0)
   have ea:=zaa _ _ _ ej
   have hp:=zbs (k:=k) h1 ea
   have hp2:((live mask (owner.setIfInBounds j (some k))).map (·.2)).Perm (Wz (k + 1)):=by
    refine (hp.map (·.2)).trans ?_
    rw [JH,Wr]
    exact (h2.cons k).trans (List.perm_append_singleton _ _).symm
   obtain ⟨o',q1,q2,q3⟩:=ih (owner.setIfInBounds j (some k)) (k + 1) (by simpa using h1) hp2 (by omega)
   refine ⟨o',?_,q2,?_⟩
   ·rw [Qi]
    simp only [Option.bind_eq_bind,WC,ej,Option.pure_def]
    simp only [Option.bind_eq_bind,WC,Option.pure_def] at q1
    rw [q1]
    simp; omega
   ·rw [WB,show k + (hs.length + 1)=k + 1 + hs.length by omega]; exact q3
 have l0:live mask (Array.replicate (mask + 1) none)=[]:=by
  unfold live
  rw [List.filterMap_eq_nil_iff]
  intro j hj
  have:=Qd.mp hj
  simp [WY,this]
 obtain ⟨o',q1,q2,q3⟩:=go hs (Array.replicate (mask + 1) none) 0 (by simp) (by rw [l0]; exact .nil) (by omega)
 rw [WX] at q1 q3
 refine ⟨{ mask,place:=((live mask o').map (·.1)).toArray,dummies:=#[],finger:=f,led,moves:=mv,plain:=pl },((live mask o').map (·.2)).toArray,?_,q3,?_,rfl,rfl,rfl,rfl⟩
 ·unfold SetTable.laid SetTable.layClean
  rw [List.foldl_toArray,q1]
  rfl
 ·unfold SetTable.fits SetTable.fill
  have:=q3.length_eq
  simp at this
  simp [this]
  omega
theorem cyc8:cyc 8=true:=by decide +kernel
theorem zfy:cyc 16=true:=by decide +kernel
section
variable {prog:Wj} {w:Wp} {A:Wn} {E:Value→W1→Prop} {s:W1}
theorem zdh {es:Array (Int×Value)} {order:Array Nat} (h:order.toList.Perm (Wz es.size)):(order.filterMap (es[·]?)).toList.Perm es.toList:=by
 rw [Array.toList_filterMap]
 exact (h.filterMap _).trans (by rw [filterMap_getElem?_range])
theorem roomX {a:Addr} {n:Nat} {o:Obj} {ep:Nat} {Q:Unit→W1→Prop} (x:SetX prog w s.heap a [] o #[] ep (.fresh 0 0 (!bt w)) []) (hn:n≤7)
  (h:∀ h' o' ep' t',WW a s.heap h'→SetX prog w h' a [] o' #[] ep' t' []→t'.fill=0→cyc (t'.mask + 1)=true→n≤t'.mask→t'.led=(!bt w)→t'.plain=true→Q () { s with heap:=h' }) :
  W5 (model prog w) A (setRoomFor a n) Q E s:=by
 unfold setRoomFor
 refine W0 (WL x.g x.d x.f ?_)
 dsimp only
 by_cases h5:n≤4
 ·have hr:(SetTable.fresh 0 0 (!bt w)).roomFor n=none:=by
   unfold SetTable.roomFor SetTable.fresh SetTable.fill
   simp; omega
  rw [hr]
  exact W3 (h s.heap o ep _ (.refl _ _) x rfl cyc8 hn rfl rfl)
 ·have hr:(SetTable.fresh 0 0 (!bt w)).roomFor n=some (n * 2):=by
   unfold SetTable.roomFor SetTable.fresh SetTable.fill
   simp; omega
  rw [hr]
  dsimp only
  unfold setRelay
  refine W0 (WL x.g x.d x.f ?_)
  dsimp only
  have ha:SetTable.sizeAbove (n * 2)=16:=by
   have:n=5∨n=6∨n=7:=by omega
   rcases this with rfl | rfl | rfl <;> rfl
  rw [ha]
  rw [if_neg (by rw [QE]; decide)]
  obtain ⟨t',order,e1,e2,e3,e4,e5,e6,e7⟩:=z9R (mask:=15) zfy 0 ((SetTable.fresh 0 0 (!bt w)).movedTo 15) (!bt w) true [] (by decide)
  have e1':(SetTable.fresh 0 0 (!bt w)).relaid ((#[]:Array (Int×Value)).map (·.1)) (n * 2)=some (t',order):=by
   unfold SetTable.relaid
   rw [ha,← e1,show (#[]:Array (Int×Value)).map (·.1) = #[] by simp]
   rfl
  rw [e1']
  have eo:order = #[]:=by
   have:=e2.length_eq
   simpa using this
  subst eo
  refine W0 (wpAny_of_eq (a:=((#[]:Array (Int×Value)),t')) rfl ?_)
  dsimp only
  refine z5p (xs:=[]) x.g x.ex x.d rfl (.refl _) List.nodup_nil (by simpa using e3) (by decide) (fun z=>by rw [e5,z]; rfl) (fun _=>rfl) fun h' sb x'=>?_
  have f0:t'.fill=0:=by
   unfold SetTable.fits at e3
   simp at e3
   unfold SetTable.fill
   rw [e7,e3.1]
   rfl
  exact h h' _ _ t' sb x' f0 (by rw [e4]; exact zfy) (by omega) e5 e6
theorem zf2 {a b:Addr} {js:List Str} {o:Obj} {ep:Nat} {each:Sem Unit} {Q:Unit→W1→Prop} (hne:a≠b) (x:SetX prog w s.heap a [] o #[] ep (.fresh 0 0 (!bt w)) []) (hB:SetL prog w s.heap b js) (hn:js.length≤7)
  (h:∀ h',WW a s.heap h'→SetL prog w h' a js→Q () { s with heap:=h' }) :
  W5 (model prog w) A (setMerge a b each) Q E s:=by
 obtain ⟨ob,es,ep',t,xs,y⟩:=hB
 have hsz:=y.sz
 unfold setMerge
 have hab:(a == b)=false:=by simpa using hne
 rw [hab]
 simp only [WG,if_false]
 refine W0 (WL y.g y.d y.f ?_)
 dsimp only
 by_cases he:es.isEmpty=true
 ·rw [if_pos he]
  have es0:es = #[]:=by simpa using he
  subst es0
  have:js=[]:=Qj hsz.symm
  subst this
  exact W3 (h s.heap (.refl _ _) ⟨_,_,_,_,_,x⟩)
 ·rw [if_neg he]
  have jn:js≠[]:=fun z=>he (by rw [z] at hsz; simpa using hsz)
  refine W0 (roomX x (by omega) fun h1 o1 ep1 ts sb1 x1 f0 cy hm hl hp=>?_)
  have y1:SetX prog w h1 b js ob es ep' t xs:={ y with g:=(sb1.2 b (Ne.symm hne)).trans y.g }
  refine W0 (WL (s:={ s with heap:=h1 }) x1.g x1.d x1.f ?_)
  dsimp only
  have led2:bt w=false→(ts.led && t.led)=true:=fun z=>by rw [hl,y.l z,z]; rfl
  have pl2:(ts.plain && t.plain)=true→js=[]:=fun z=>by
   rw [Wh] at z
   exact y.q z.2
  unfold SetTable.road
  rw [f0]
  simp only [bne_self_eq_false,WG,if_false]
  split
  ·exact z5p (s:={ s with heap:=h1 }) x1.g x1.ex x1.d y.e y.p y.nd (by cases t; exact y.f) y.b led2 pl2 fun h' sb z=>h h' (sb1.trans sb) ⟨_,_,_,_,_,z⟩
  ·obtain ⟨t',order,e1,e2,e3,e4,e5,e6,e7⟩:=z9R (mask:=ts.mask) cy ts.finger ts.moves (ts.led && t.led) (ts.plain && t.plain) (es.toList.map (·.1)) (by simp; omega)
   rw [show (es.toList.map (·.1)).toArray=es.map (·.1) by rw [← Array.toList_map,Array.toArray_toList]] at e1
   rw [e1]
   rw [Ws,Wu] at e2 e3
   have op:=zdh e2
   have osz:(order.filterMap (es[·]?)).size=es.size:=by rw [← Wu,op.length_eq,Wu]
   refine W0 ?_
   show W5 _ _ (if ((order.filterMap (es[·]?)).size != es.size)=true then _ else _) _ _ _
   rw [osz,if_neg (by simp)]
   refine W3 ?_
   rw [y.e] at op
   obtain ⟨zs,ez,pz⟩:=z4v op
   exact z5p (s:={ s with heap:=h1 }) x1.g x1.ex x1.d ez (pz.trans y.p) y.nd (by rw [osz]; exact e3) (by rw [osz]; exact y.b) (fun z=>by rw [e5]; exact led2 z) (fun z=>by rw [e6] at z; exact pl2 z) fun h' sb z=>h h' (sb1.trans sb) ⟨_,_,_,_,_,z⟩
  ·rename_i hq
   split at hq <;> cases hq
theorem z2X {α:Type} (xs:Array α) (i:Nat) (h:i < xs.size):(SetTable.eraseAt xs i).toList=xs.toList.eraseIdx i:=by
 unfold SetTable.eraseAt
 rw [Array.toList_append,Array.toList_extract,Array.toList_extract,List.eraseIdx_eq_take_drop_succ]
 simp [List.extract]
 rw [Js]
 simp
theorem z7q {α:Type} (xs:Array α) (p:Nat) (x:α):(SetTable.insertAt xs p x).size=xs.size + 1:=by
 rw [← Wu,(SetTable.insertAt_perm xs p x).length_eq,JX]
 simp
theorem zap {t:SetTable} {n i:Nat} (h:t.fits n=true) (hi:i < n):(t.drop i).fits (n - 1)=true:=by
 unfold SetTable.fits SetTable.fill at *
 simp only [Wh,beq_iff_eq,decide_eq_true_eq] at h ⊢
 obtain ⟨h1,h2⟩:=h
 have hs:t.place[i]? = some t.place[i]:=Array.getElem?_eq_getElem (by omega)
 unfold SetTable.drop
 rw [hs]
 simp only
 have e1:(SetTable.eraseAt t.place i).size=n - 1:=by
  rw [← Wu,z2X _ _ (by omega),J0 (by rw [Wu]; omega),Wu,h1]
 have e2:=z7q t.dummies (SetTable.below t.dummies t.place[i]) t.place[i]
 rw [e1,e2]
 exact ⟨rfl,by omega⟩
theorem z2y {α β:Type} (f:α→β):∀ (l:List α) (i:Nat),(l.eraseIdx i).map f=(l.map f).eraseIdx i
 | [],i=>rfl
 | x :: l,0=>rfl
 | x :: l,i + 1=>by simp [List.eraseIdx,z2y f l i]
theorem z4q {α:Type}:∀ (l:List α) (i:Nat) (h:i < l.length),l.Perm (l[i] :: l.eraseIdx i)
 | [],i,h=>by simp at h
 | x :: l,0,h=>.refl _
 | x :: l,i + 1,h=>by
  have:=z4q l i (by simpa using h)
  exact (this.cons x).trans (.swap _ _ _)
theorem zbL (t:SetTable) (i:Nat):(t.drop i).led=t.led:=by
 unfold SetTable.drop
 split <;> rfl
theorem z8D (t:SetTable) (i:Nat):(t.drop i).plain=t.plain:=by
 unfold SetTable.drop
 split <;> rfl
theorem zbM {a:Addr} {ks:List Str} {k:Str} {tk:Tok} {Q:Bool→W1→Prop} (hS:SetL prog w s.heap a ks) (hk:k ∈ ks)
  (h:∀ h',WW a s.heap h'→SetL prog w h' a (ks.erase k)→Q true { s with heap:=h' }) :
  W5 (model prog w) A (setDiscardHashed a (.str k tk) ((strKind prog w).hash k)) Q E s:=by
 obtain ⟨o,es,ep,t,xs,x⟩:=hS
 have kk:(strKind prog w).is k (.str k tk)=true:=strKind_is _ _ _ _
 unfold setDiscardHashed setFind setFindIn
 refine W0 (W0 (WL x.g x.d x.f ?_))
 dsimp only
 rw [byScan_of (knd:=strKind prog w) (x:=.str k tk) rfl x.b x.el,if_pos rfl]
 refine W0 (QL (W0 (wpAny_setScan_of kk x.g x.d x.f x.el ?_)))
 cases hr:List.findIdx? (fun e=>(strKind prog w).is k e.2) es.toList with
 | none =>
  exfalso
  obtain ⟨e,he,q⟩:=(z7E (prog:=prog) (w:=w) xs k).mpr (x.p.mem_iff.mpr hk)
  have:=List.findIdx?_eq_none_iff.mp hr e (by rw [x.e]; exact he)
  rw [q] at this
  cases this
 | some j =>
  dsimp only
  obtain ⟨hj,hp,_⟩:=List.findIdx?_eq_some_iff_getElem.mp hr
  have hj':j < es.size:=by rwa [Wu] at hj
  rw [WX]
  refine W3 (W0 (WL x.g x.d x.f ?_))
  dsimp only
  have esz:(SetTable.eraseAt es j).size=es.size - 1:=by
   rw [← Wu,z2X _ _ hj',J0 hj,Wu]
  refine W0 (wpAny_storeSet_of x.g x.d ?_ (by have:=fits_of_scanBound x.b; omega))
  have g2:=Wv (Obj.putSet (SetTable.eraseAt es j) (t.drop j)) x.g (by rw [putSet_of _ _ x.d]; rfl)
  rw [putSet_of _ _ x.d] at g2
  have hjx:j < xs.length:=by have:=congrArg QF x.e; simp at this; omega
  have kj:(xs.map (·.1))[j]? = some k:=by
   have e1:es.toList[j]'hj=elE prog w (xs[j]'hjx):=by
    have:es.toList[j]? = (xs.map (elE prog w))[j]?:=by rw [x.e]
    rw [Wk hj,Wk (by simpa using hjx),List.getElem_map] at this
    exact Ww this
   rw [e1] at hp
   obtain ⟨t',et⟩:=z9Y hp
   have:(xs[j]'hjx).1=k:=by injection et
   simp [hjx,this]
  have X:SetX prog w (s.heap.update a (Obj.putSet (SetTable.eraseAt es j) (t.drop j))) a (ks.erase k) { o with data:=.set (SetTable.eraseAt es j) (ep + 1) (t.drop j) } (SetTable.eraseAt es j) (ep + 1) (t.drop j) (xs.eraseIdx j) :=
   ⟨g2,x.ex,rfl,by rw [z2X _ _ hj',x.e,z2y],by
    rw [z2y]
    have hl:j < (xs.map (·.1)).length:=by simpa using hjx
    have gk:(xs.map (·.1))[j]'hl=k:=by rw [Wk hl] at kj; exact Ww kj
    have p1:(xs.map (·.1)).Perm (k :: (xs.map (·.1)).eraseIdx j):=by
     have:=z4q (xs.map (·.1)) j hl
     rw [gk] at this
     exact this
    have p2:=(p1.symm.trans x.p).erase k
    rwa [List.erase_cons_head] at p2,x.nd.erase _,by rw [esz]; exact zap x.f hj',by rw [esz]; have:=x.b; omega,fun z=>by rw [zbL]; exact x.l z,fun z=>by rw [z8D] at z; have:=x.q z; rw [this] at hk; cases hk⟩
  refine W0 (wpAny_point ?_)
  exact W3 (h _ (.update _ _ _) ⟨_,_,_,_,_,X⟩)
theorem zbN {a:Addr} {ks:List Str} {k:Str} {tk:Tok} {Q:Bool→W1→Prop} (hS:SetL prog w s.heap a ks) (hk:k ∉ ks) (h:Q false s) :
  W5 (model prog w) A (setDiscardHashed a (.str k tk) ((strKind prog w).hash k)) Q E s:=by
 unfold setDiscardHashed
 refine W0 (wpAny_setFind_of (strKind_is _ _ _ _) rfl hS.so fun r hr=>?_)
 have:r=none:=by cases r with
  | none=>rfl
  | some _=>simp [hk] at hr
 subst this
 exact W3 h
theorem z72 {α β:Type} {f:α→β→Sem (ForInStep β)} {Q:β→W1→Prop} (J:List α→β→W1→Prop)
  (step:∀ x r b s,J (x :: r) b s→W5 (model prog w) A (f x b) (fun st s'=>∃ b',st = .yield b'∧J r b' s') E s):∀ (l:List α) (b:β) (s:W1),J l b s→(∀ b' s',J [] b' s'→Q b' s')→W5 (model prog w) A (forIn l b f) Q E s
 | [],b,s,h,q=>by
  rw [List.forIn_nil]
  exact W3 (q b s h)
 | x :: l,b,s,h,q=>by
  rw [List.forIn_cons]
  refine W0 (WE (step x l b s h) (fun st s' ⟨b',e,h'⟩=>?_) fun _ _ e=>e)
  subst e
  exact z72 J step l b' s' h' q
theorem z8R {α β:Type} {f:α→β→Sem (ForInStep β)} {Q:β→W1→Prop} (J:List α→β→W1→Prop)
  (step:∀ x r b s,J (x :: r) b s→W5 (model prog w) A (f x b) (fun st s'=>∃ b',st = .yield b'∧J r b' s') E s) (l:Array α) (b:β) (s:W1) (h:J l.toList b s) (q:∀ b' s',J [] b' s'→Q b' s'):W5 (model prog w) A (forIn l b f) Q E s:=by
 rw [← Array.forIn_toList]
 exact z72 J step l.toList b s h q
theorem quiet {l:List Addr} {Q:Bool→W1→Prop} (hl:∀ a ∈ l,∃ ks,SetL prog w s.heap a ks) (h:Q true s):W5 (model prog w) A (setsQuiet l) Q E s:=by
 unfold setsQuiet
 refine W0 (z72 (fun r b s'=>b=(none,())∧s'=s∧∀ a ∈ r,∃ ks,SetL prog w s.heap a ks) ?st l _ s ⟨rfl,rfl,hl⟩ ?fin)
 case fin =>
  rintro b s' ⟨rfl,rfl,_⟩
  exact W3 h
 case st =>
  rintro a r b s' ⟨rfl,rfl,e3⟩
  obtain ⟨ks,x⟩:=e3 a Wm
  obtain ⟨o,es,ep,t,xs,x⟩:=x
  refine W0 (QO x.g x.d x.f ?_)
  refine W0 (z8R (fun r b s''=>b=(none,())∧s''=s'∧∀ e ∈ r,∃ z,e=elE prog w z) ?st es _ s' ⟨rfl,rfl,fun e he=>?el⟩ ?fin)
  case st =>
   rintro e r b s'' ⟨rfl,rfl,q3⟩
   obtain ⟨z,rfl⟩:=q3 e Wm
   exact W3 ⟨_,rfl,rfl,rfl,fun e he=>q3 e (Wc _ he)⟩
  case el =>
   rw [x.e] at he
   obtain ⟨z,_,rfl⟩:=Q7.mp he
   exact ⟨z,rfl⟩
  case fin =>
   rintro b s'' ⟨rfl,rfl,_⟩
   exact W3 ⟨_,rfl,rfl,rfl,fun a ha=>e3 a (Wc _ ha)⟩
theorem z4I {α:Type} (next:Nat→Nat) (xs:Array α):(pickOrder next xs).toList.Perm xs.toList:=by
 have go:∀ (f k:Nat) (left:List α) (out:Array α),left.length=f→(pickOrder.go next f k left out).toList.Perm (out.toList ++ left):=by
  intro f
  induction f with
  | zero =>
   intro k left out h
   rw [Qj h]
   unfold pickOrder.go
   simp
  | succ f ih =>
   intro k left out h
   unfold pickOrder.go
   have hi:next k % left.length < left.length:=U3 _ (by omega)
   rw [Wk hi]
   simp only
   refine (ih _ _ _ (by rw [J0 hi]; omega)).trans ?_
   rw [JX,List.append_assoc]
   exact List.Perm.append_left _ (z4q _ _ hi).symm
 have:=go xs.size 0 xs.toList #[] (by simp)
 simpa [pickOrder] using this
theorem walkU {a b:Addr} {ks js:List Str} {ob:Obj} {es:Array (Int×Value)} {ep:Nat} {t:SetTable} {xs:List (Str×Tok)} {Q:Array (Int×Value)→W1→Prop} (hne:a≠b) (x:SetX prog w s.heap b ks ob es ep t xs) (hA:SetL prog w s.heap a js)
  (h:∀ arr h',arr.toList.Perm es.toList→WW a s.heap h'→SetL prog w h' a js→Q arr { s with heap:=h' }):W5 (model prog w) A (setWalkUnseen b [a] (some a)) Q E s:=by
 unfold setWalkUnseen
 refine W0 (WL x.g x.d x.f ?_)
 dsimp only
 unfold JS
 refine W0 (W0 (Qc (W3 ?_)))
 dsimp only
 split
 ·rename_i hc
  unfold setWalk JS
  refine W0 (WL x.g x.d x.f ?_)
  dsimp only
  refine W0 (W0 (Qc (W3 ?_)))
  dsimp only
  split
  ·refine W0 (Qc ?_)
   exact W3 (h _ s.heap (z4I _ _) (.refl _ _) hA)
  ·rename_i hb
   rw [Jk] at hb
   rw [hb] at hc
   simp only [Bool.false_or,Bool.or_eq_true,Wh,decide_eq_true_eq] at hc
   show W5 _ _ (if (!t.plain && decide (es.size > 1))=true then _ else _) _ _ _
   have h1:(!t.plain && decide (es.size > 1))=false:=by
    rcases hc with ⟨_,h2⟩ | h2
    ·simp [h2]
    ·simp; omega
   rw [h1]
   simp only [WG,if_false]
   refine W0 ?_
   show W5 _ _ (if (!t.led && decide (es.size > 1))=true then _ else _) _ _ _
   have h2:(!t.led && decide (es.size > 1))=false:=by
    rcases hc with ⟨h2,_⟩ | h2
    ·simp [h2]
    ·simp; omega
   rw [h2]
   simp only [WG,if_false]
   refine W3 ?_
   exact W3 (h _ s.heap .rfl (.refl _ _) hA)
 ·refine W0 (quiet (fun c hc=>?_) ?_)
  ·rcases Wg.mp hc with rfl | hc
   ·exact ⟨_,_,_,_,_,_,x⟩
   ·rw [QV.mp hc]; exact ⟨_,hA⟩
  ·simp only [Bool.not_true,WG,if_false]
   refine W0 (QL ?_)
   obtain ⟨o,es',ep',t',xs',y⟩:=id hA
   refine W0 (WL y.g y.d y.f ?_)
   dsimp only
   split
   ·refine W0 (z5p y.g y.ex y.d y.e y.p y.nd (by cases t'; exact y.f) y.b (fun z=>by show (t'.led && t.led)=true; rw [y.l z,x.l z]; rfl) (fun z=>y.q (by have z:(t'.plain && t.plain)=true:=z; rw [Wh] at z; exact z.1)) fun h' sb z=>?_)
    exact W3 (h _ h' .rfl sb ⟨_,_,_,_,_,z⟩)
   ·exact W3 (h _ s.heap .rfl (.refl _ _) hA)
def flp (cur:List Str) (x:Str):List Str:=if x ∈ cur then cur.erase x else dd cur x
theorem z68 {a:Addr} {ks:List Str} {Q:Bool→W1→Prop} (x:SetL prog w s.heap a ks) (h:Q true s):W5 (model prog w) A (J1 (.ref a)) Q E s:=by
 unfold J1
 refine W0 (wpAny_isInstance x.so.typeIs sub_set_self ?_)
 exact W3 h
theorem zdC (cur:List Str) (x:Str):(flp cur x).length≤cur.length + 1:=by
 unfold flp
 split
 ·rename_i h
  rw [List.length_erase_of_mem h]; omega
 ·exact zco _ _
theorem symUp {a b:Addr} {ks js:List Str} {id:String} {Q:Unit→W1→Prop} (hne:a≠b) (hA:SetL prog w s.heap a js) (hB:SetL prog w s.heap b ks) (hb:js.length + ks.length + 1 < Jg)
  (h:∀ (h':Heap) (ls:List Str),ls.Perm ks→WW a s.heap h'→SetL prog w h' a (ls.foldl flp js)→Q () { s with heap:=h' }):W5 (model prog w) A (Builtin.Frozenset.symmetricDifferenceUpdate id a (.ref b)) Q E s:=by
 obtain ⟨ob,es,ep,t,xs,x⟩:=hB
 unfold Builtin.Frozenset.symmetricDifferenceUpdate
 have e0:(Value.ref b == Value.ref a)=false:=by
  show (Value.ref b == Value.ref a)=false
  rw [beq_eq_false_iff_ne]
  intro q
  injection q with q
  exact hne q.symm
 rw [e0]
 simp only [WG,if_false]
 refine W0 (QJ x.so.typeIs ?_)
 rw [show (Value.type "set" == Value.type "dict")=false by decide]
 simp only [WG,if_false]
 refine W0 (z68 ⟨_,_,_,_,_,x⟩ ?_)
 simp only [if_true]
 refine W0 (W3 ?_)
 refine W0 (W3 ?_)
 refine W0 (Ju x.g x.d x.f ?_)
 refine WF ?_
 refine W0 (walkU hne x hA fun arr h1 p1 sb1 z1=>?_)
 have hxs:∀ e ∈ arr.toList,∃ z,e=elE prog w z:=fun e he=>by
  have:=p1.mem_iff.mp he
  rw [x.e] at this
  obtain ⟨z,_,rfl⟩:=Q7.mp this
  exact ⟨z,rfl⟩
 obtain ⟨zs,ez,pz0⟩:=z4v (prog:=prog) (w:=w) (l:=arr.toList) (xs:=xs) (by rw [← x.e]; exact p1)
 have pz:(zs.map (·.1)).Perm ks:=pz0.trans x.p
 refine W0 (z8R (fun r _ s'=>∃ (rs:List (Str×Tok)) (h':Heap) (cur:List Str),r=rs.map (elE prog w)∧s' = { s with heap:=h' }∧WW a s.heap h'∧SetL prog w h' a cur∧(rs.map (·.1)).foldl flp cur=(zs.map (·.1)).foldl flp js∧cur.length + rs.length≤js.length + ks.length)
  ?st arr _ _ ⟨zs,h1,js,ez,rfl,sb1,z1,rfl,by have:=pz.length_eq; simp at this; omega⟩ ?fin)
 case st =>
  rintro e r u s' ⟨rs,h',cur,q1,q2,q3,q4,q5,q6⟩
  cases rs with
  | nil=>cases q1
  | cons z rs =>
   rw [Wr] at q1
   cases q1
   subst q2
   simp only [WB] at q6
   have xb:SetX prog w h' b ks ob es ep t xs:={ x with g:=(q3.2 b (Ne.symm hne)).trans x.g }
   have fin:∀ (h2:Heap),WW a h' h2→SetL prog w h2 a (flp cur z.1)→W5 (model prog w) A (do
     Builtin.Frozenset.unchanged id b ep
     pure (ForInStep.yield PUnit.unit)) (fun st s'=>∃ b',st = .yield b'∧∃ (rs':List (Str×Tok)) (h':Heap) (cur:List Str),rs.map (elE prog w)=rs'.map (elE prog w)∧s' = { s with heap:=h' }∧WW a s.heap h'∧SetL prog w h' a cur∧(rs'.map (·.1)).foldl flp cur=(zs.map (·.1)).foldl flp js∧cur.length + rs'.length≤js.length + ks.length) E { s with heap:=h2 }:=fun h2 sb2 z2=>by
    have xb2:SetX prog w h2 b ks ob es ep t xs:={ xb with g:=(sb2.2 b (Ne.symm hne)).trans xb.g }
    refine W0 ?_
    unfold Builtin.Frozenset.unchanged
    refine W0 (Ju xb2.g xb2.d xb2.f ?_)
    simp only [bne_self_eq_false,WG,if_false]
    refine W3 (W3 ⟨_,rfl,rs,h2,_,rfl,rfl,q3.trans sb2,z2,q5,?_⟩)
    have:=zdC cur z.1
    omega
   refine W0 (WF ?_)
   by_cases hm:z.1 ∈ cur
   ·refine W0 (zbM (s:={ s with heap:=h' }) q4 hm fun h2 sb2 z2=>?_)
    refine W3 (fin h2 sb2 ?_)
    unfold flp; rw [if_pos hm]; exact z2
   ·refine W0 (zbN (s:={ s with heap:=h' }) q4 hm ?_)
    simp only [Bool.not_false,if_true]
    refine W0 (addL (s:={ s with heap:=h' }) q4 (by omega) fun h2 sb2 z2=>?_)
    refine W3 (fin h2 sb2 ?_)
    unfold flp; rw [if_neg hm]; exact z2
 case fin =>
  rintro u s' ⟨rs,h',cur,q1,q2,q3,q4,q5,q6⟩
  cases rs with
  | cons z rs=>cases q1
  | nil =>
   subst q2
   rw [List.map_nil,List.foldl_nil] at q5
   rw [q5] at q4
   exact W3 (h h' _ pz q3 q4)
theorem zbo {b:Addr} {js:List Str} {id:String} {Q:Value→W1→Prop} (hB:SetL prog w s.heap b js) (hn:js.length≤7)
  (h:∀ h',SetL prog w h' s.heap.objs.size js→(∀ c o,s.heap.get? c=some o→h'.get? c=some o)→Q (.ref s.heap.objs.size) { s with heap:=h' }) :
  W5 (model prog w) A (Builtin.Frozenset.newFrom id (.type "set") (.ref b)) Q E s:=by
 have hlt:=hB.lt
 unfold Builtin.Frozenset.newFrom
 refine W0 (newS ?_)
 refine W0 (W3 ?_)
 have hB':SetL prog w (s.heap.push (so0 w)) b js:=hB.at' fun o e=>W4 _ e
 refine W0 (WF ?_)
 unfold Builtin.Frozenset.updateFrom
 refine W0 (z68 (s:={ s with heap:=s.heap.push (so0 w) }) hB' ?_)
 simp only [if_true]
 refine W0 (W3 ?_)
 unfold Builtin.Frozenset.merge
 have hB2:=hB'
 obtain ⟨o,es,ep,t,xs,x⟩:=hB2
 refine W0 (Ju x.g x.d x.f ?_)
 refine zf2 (s:={ s with heap:=s.heap.push (so0 w) }) (QH hlt) (za8 _) hB' hn fun h' sb z=>?_
 refine W3 (h h' z fun c o e=>?_)
 rw [sb.2 c (Wo (We e))]
 exact W4 _ e
end
theorem zan:entryFor table "set.__xor__" = some Builtin.«frozenset.__xor__» :=
 entryFor_alias (id':="frozenset.__xor__") (by kernel_rfl) rfl (by decide +kernel) (by kernel_rfl)
section
variable {prog:Wj} {w:Wp} {A:Wn} {E:Value→W1→Prop} {s:W1}
theorem xorL {a b:Addr} {ks js:List Str} {Q:Value→W1→Prop} (hA:SetL prog w s.heap a ks) (hB:SetL prog w s.heap b js) (hn:js.length≤7) (hb:js.length + ks.length + 1 < Jg)
  (h:∀ (h':Heap) (ls:List Str),ls.Perm ks→SetL prog w h' s.heap.objs.size (ls.foldl flp js)→(∀ c o,s.heap.get? c=some o→h'.get? c=some o)→Q (.ref s.heap.objs.size) { s with heap:=h' }) :
  W5 (model prog w) A (Qb .BitXor (.ref a) (.ref b)) Q E s:=by
 have hlt:=hA.lt
 refine wpAny_binaryOp_same (op:=.BitXor) hA.so.typeIs hB.so.typeIs PySem.F.fills_set_xor PySem.F.slot_set_xor (Qn PySem.F.slot_set_xor hA.so.typeIs zan ?_ (PySem.F.args_set_xor_2 _ _))
 show W5 _ _ (do
  let (self,other) ← Builtin.Frozenset.slot1 "__xor__" ⟨[.ref a,.ref b],[]⟩
  let (l,r):=if false then (other,self) else (self,other)
  if !(← J1 l <&&> J1 r) then rule s!"frozenset.{"__xor__"}.declined"; return ← ret .notImplemented
  ret (← (do
   let result ← Builtin.Frozenset.newFrom s!"frozenset.{"__xor__"}" (← Builtin.Frozenset.baseOf (← Builtin.Frozenset.addrOf l)) r
   holding [result] (Builtin.Frozenset.symmetricDifferenceUpdate s!"frozenset.{"__xor__"}" (← Builtin.Frozenset.addrOf result) (.ref (← Builtin.Frozenset.addrOf l)))
   return result))) _ _ _
 refine W0 (W3 ?_)
 simp only [WG,if_false]
 refine W0 (W0 (z68 hA ?_))
 simp only [toBool]
 refine z68 hB ?_
 simp only [Bool.not_true,WG,if_false]
 refine W0 ?_
 refine W0 (W3 ?_)
 unfold Builtin.Frozenset.baseOf
 refine W0 (W0 (wpAny_isInstance hA.so.typeIs sub_set_self (W3 ?_)))
 simp only [if_true]
 refine W0 (zbo hB hn fun h1 z1 k1=>?_)
 refine W0 (W3 ?_)
 refine W0 (W3 ?_)
 refine W0 (WF ?_)
 have hA1:SetL prog w h1 a ks:=hA.at' fun o e=>k1 _ _ e
 refine symUp (s:={ s with heap:=h1 }) (QH hlt) z1 hA1 hb fun h2 ls pl sb2 z2=>?_
 refine W3 ?_
 refine W3 ⟨_,rfl,(fun q=>by cases q),h h2 ls pl z2 fun c o e=>?_⟩
 rw [sb2.2 c (Wo (We e))]
 exact k1 c o e
end
theorem z8C:entryFor table "set.__iter__" = some Builtin.«frozenset.__iter__» :=
 entryFor_alias (id':="frozenset.__iter__") (by kernel_rfl) rfl (by decide +kernel) (by kernel_rfl)
theorem slot_next:Slot "set_iterator" "__next__" "set_iterator.__next__" :=
 .of (owner:="set_iterator") (n:="__next__") (by rw [typeLookup_type,Jw]; kernel_rfl) (by decide +kernel) (by decide +kernel) (by decide +kernel)
  (by first | exact .inl (by decide +kernel) | exact .inr (by decide +kernel)) (by rw [isSubtype_type]; kernel_rfl)
theorem z3a:entryFor table "set_iterator.__next__" = some Builtin.«set_iterator.__next__»:=entryFor_of_tree (by kernel_rfl)
theorem z3Q (a:Value):argsOk "set_iterator.__next__" ⟨[a],[]⟩:=by
 unfold argsOk; rw [signature?_of (id:="set_iterator.__next__") (n:="__txen__".toList) (o:="rotareti_tes".toList) (by kernel_rfl) (show Manifest.owners.lookup (String.ofList "rotareti_tes".toList.reverse)=some Manifest.sig_set_iterator by kernel_rfl)]; kernel_rfl
theorem zds:typeLookup (.type "set") "__len__" = pure (some (.builtin "set.__len__")):=by rw [typeLookup_type,Jw]; kernel_rfl
abbrev itO (f:Value) (i:Nat) (a:Addr) (n ep:Nat):Obj:={ cls:=.type "set_iterator",data:=.fields #[f,.int i 0,.ref a,.int n 0,.int ep 0] }
section
variable {prog:Wj} {w:Wp} {A:Wn} {E:Value→W1→Prop} {s:W1}
theorem z6a {src:Source} {n:Nat} {Q:Nat→W1→Prop} (h0:n≠0) (h:∀ i d,i < n→Q i { s with drawn:=d }):W5 (model prog w) A (choose src n) Q E s:=fun Γ p hΓ=>by
 show Sem.wp _ Γ (.choose src n .pure) _ _ p s
 rw [Sem.wp_choose]
 refine ⟨h0,?_⟩
 exact h _ _ (U3 _ (by omega))
theorem zfw {α:Type}:∀ (n:Nat) (l:List α) (s:W1) (Q:List α→W1→Prop),l.length=n→(∀ l' d,l'.Perm l→Q l' { s with drawn:=d })→W5 (model prog w) A (drawOrder n l) Q E s
 | 0,l,s,Q,hn,h=>by
  rw [Qj hn] at h
  exact W3 (h [] s.drawn (.refl _))
 | n + 1,l,s,Q,hn,h=>by
  have e:drawOrder (n + 1) l=(do
    let i ← choose .order l.length
    match l[i]? with
    | some x=>return x :: (← drawOrder n (l.eraseIdx i))
    | none=>unsupported "internal:drawOrder"):=by
   cases l with
   | nil=>simp at hn
   | cons=>rfl
  rw [e]
  refine W0 (z6a (by omega) fun i d hi=>?_)
  rw [Wk hi]
  refine W0 (zfw n (l.eraseIdx i) _ _ (by rw [J0 hi]; omega) fun l' d' pl=>?_)
  exact W3 (h _ d' ((pl.cons _).trans (z4q l i hi).symm))
section
variable {a it:Addr} {ks:List Str} {o:Obj} {es:Array (Int×Value)} {ep:Nat} {t:SetTable} {xs:List (Str×Tok)} {i:Nat}
theorem z6x {sl nx:Nat} {v:Value} {Q:Option Value→W1→Prop} (x:SetX prog w s.heap a ks o es ep t xs) (hi:s.heap.get? it=some (itO (.int sl 0) i a es.size ep))
  (hn:∀ E':Value→W1→Prop,W5 (model prog w) A.in1 (setNext a sl i ep) (fun r s'=>r=some (v,nx)∧s'=s) E' s)
  (h:∀ h',WW it s.heap h'→h'.get? it=some (itO (.int nx 0) (i + 1) a es.size ep)→Q (some v) { s with heap:=h' }):W5 (model prog w) A (Qr (.ref it)) Q E s:=by
 have hT:s.TypeIs (.ref it) "set_iterator":=⟨_,hi,rfl⟩
 unfold Qr
 refine W0 (wpAny_attempt (Qs (name:=Str.ofString "__next__") hT slot_next (Qn slot_next hT z3a ?_ (z3Q _))))
 unfold Builtin.«set_iterator.__next__»
 refine W0 (m:=slotArgs "__next__" 0 _) (W3 ?_)
 refine W0 (wpAny_fieldsOf hi rfl ?_)
 dsimp only
 refine W0 (QO x.g x.d x.f ?_)
 rw [if_neg (by simp)]
 simp only [Jb]
 refine W0 (WE (hn _) (fun r s' ⟨e1,e2⟩=>?_) fun _ _ e=>e)
 subst e1; subst e2
 dsimp only
 refine W0 (QQ hi rfl (by simp) ?_)
 have g1:=Wv (Obj.mapFields (·.setIfInBounds 0 (Q4 (nx:Int)))) hi (by rfl)
 refine W0 (QQ (s:={ s' with heap:=_ }) g1 rfl (by simp) ?_)
 have g2:=Wv (Obj.mapFields (·.setIfInBounds 1 (Q4 ((i:Int) + 1)))) g1 (by rfl)
 refine W3 ⟨_,rfl,W3 (h _ ((JD ..).trans (JD ..)) ?_)⟩
 rw [g2]
 rfl
theorem z8V {Q:Option Value→W1→Prop} {f:Value} {n' j:Nat} {v:Value} (hh:A.handled=none) (hi:s.heap.get? it=some (itO f i a n' ep)) (hj:j < 5)
  (h:∀ h',Heap.ExtBut it s.heap h'→Q none { s with heap:=h' }) :
  W5 (model prog w) A.in1 (do
   setField (.ref it) j v
   raiseNew (← newExc (.type "StopIteration") [])) (fun (_:PySem.Fin) _=>False) (fun e s'=>W5 (model prog w) A (do
    if ← isInstance e (.type "StopIteration") then pure none else throw e) Q E s') s:=by
 refine W0 (QQ hi rfl (by simpa using hj) ?_)
 refine W0 ?_
 simp only [newExc,newTuple]
 refine W0 (WT ?_ (by size_fits))
 refine W0 (m:=firstArgMember _ _) (wpAny_of_eq (a:=Value.none) (by first | rfl | (simp only [firstArgMember]; rfl)) ?_)
 refine WT ?_ (by size_fits)
 simp only [raiseNew]
 refine W0 (wpAny_handled ?_)
 rw [show A.in1.handled=none from hh]
 refine W0 (W3 (wpAny_throw ?_))
 refine W0 (wpAny_isInstance (T:="StopIteration") (b:=true) ⟨_,Wi _ rfl,rfl⟩ isSubtype_stop ?_)
 exact W3 (h _ (((JD ..).extBut.push _).push _))
end
end
section
variable {prog:Wj} {w:Wp} {A:Wn} {E:Value→W1→Prop} {s:W1}
variable {a it:Addr} {ks:List Str} {o:Obj} {es:Array (Int×Value)} {ep:Nat} {t:SetTable} {xs:List (Str×Tok)} {i:Nat}
theorem z5W {sl:Nat} {Q:Option Value→W1→Prop} (hh:A.handled=none) (x:SetX prog w s.heap a ks o es ep t xs) (hi:s.heap.get? it=some (itO (.int sl 0) i a es.size ep))
  (hn:∀ E':Value→W1→Prop,W5 (model prog w) A.in1 (setNext a sl i ep) (fun r s'=>r=none∧s'=s) E' s)
  (h:∀ h',Heap.ExtBut it s.heap h'→Q none { s with heap:=h' }):W5 (model prog w) A (Qr (.ref it)) Q E s:=by
 have hT:s.TypeIs (.ref it) "set_iterator":=⟨_,hi,rfl⟩
 unfold Qr
 refine W0 (wpAny_attempt (Qs (name:=Str.ofString "__next__") hT slot_next (Qn slot_next hT z3a ?_ (z3Q _))))
 unfold Builtin.«set_iterator.__next__»
 refine W0 (m:=slotArgs "__next__" 0 _) (W3 ?_)
 refine W0 (wpAny_fieldsOf hi rfl ?_)
 dsimp only
 refine W0 (QO x.g x.d x.f ?_)
 rw [if_neg (by simp)]
 simp only [Jb]
 refine W0 (WE (hn _) (fun r s' ⟨e1,e2⟩=>?_) fun _ _ e=>e)
 subst e1; subst e2
 dsimp only
 exact WE (z8V hh hi (by decide) h) (fun _ _ e=>e.elim) fun _ _ e=>e
theorem z8s {T:Addr} {ps:List Nat} {oT:Obj} {nT p:Nat} {hv:Int} {v:Value} {Q:Option Value→W1→Prop} (x:SetX prog w s.heap a ks o es ep t xs) (hi:s.heap.get? it=some (itO (.ref T) i a es.size ep))
  (gT:s.heap.get? T=some oT) (dT:oT.data = .seq (ps.map fun j:Nat=>Q4 j).toArray nT) (hp:ps[i]? = some p) (hv':es[p]? = some (hv,v))
  (h:∀ h',WW it s.heap h'→h'.get? it=some (itO (.ref T) (i + 1) a es.size ep)→Q (some v) { s with heap:=h' }):W5 (model prog w) A (Qr (.ref it)) Q E s:=by
 have hT:s.TypeIs (.ref it) "set_iterator":=⟨_,hi,rfl⟩
 unfold Qr
 refine W0 (wpAny_attempt (Qs (name:=Str.ofString "__next__") hT slot_next (Qn slot_next hT z3a ?_ (z3Q _))))
 unfold Builtin.«set_iterator.__next__»
 refine W0 (m:=slotArgs "__next__" 0 _) (W3 ?_)
 refine W0 (wpAny_fieldsOf hi rfl ?_)
 dsimp only
 refine W0 (QO x.g x.d x.f ?_)
 rw [if_neg (by simp)]
 refine W0 (wpAny_seqItems gT dT ?_)
 dsimp only
 have e1:(ps.map fun j:Nat=>Q4 j).toArray[i]? = some (.int (p:Int) 0):=by simp [hp,Q4]
 rw [Jb,e1]
 dsimp only
 refine W0 ?_
 unfold setNextDrawn
 refine W0 (WL x.g x.d x.f ?_)
 simp only [Jb,bne_self_eq_false,WG,if_false]
 rw [hv']
 refine W3 ?_
 refine W0 (QQ hi rfl (by simp) ?_)
 have g2:=Wv (Obj.mapFields (·.setIfInBounds 1 (Q4 ((i:Int) + 1)))) hi (by rfl)
 refine W3 ⟨_,rfl,W3 (h _ (JD ..) ?_)⟩
 rw [g2]
 rfl
theorem zaq {T:Addr} {ps:List Nat} {oT:Obj} {nT:Nat} {Q:Option Value→W1→Prop} (hh:A.handled=none) (x:SetX prog w s.heap a ks o es ep t xs) (hi:s.heap.get? it=some (itO (.ref T) i a es.size ep))
  (gT:s.heap.get? T=some oT) (dT:oT.data = .seq (ps.map fun j:Nat=>Q4 j).toArray nT) (hp:ps[i]? = none)
  (h:∀ h',Heap.ExtBut it s.heap h'→Q none { s with heap:=h' }):W5 (model prog w) A (Qr (.ref it)) Q E s:=by
 have hT:s.TypeIs (.ref it) "set_iterator":=⟨_,hi,rfl⟩
 unfold Qr
 refine W0 (wpAny_attempt (Qs (name:=Str.ofString "__next__") hT slot_next (Qn slot_next hT z3a ?_ (z3Q _))))
 unfold Builtin.«set_iterator.__next__»
 refine W0 (m:=slotArgs "__next__" 0 _) (W3 ?_)
 refine W0 (wpAny_fieldsOf hi rfl ?_)
 dsimp only
 refine W0 (QO x.g x.d x.f ?_)
 rw [if_neg (by simp)]
 refine W0 (wpAny_seqItems gT dT ?_)
 dsimp only
 have e1:(ps.map fun j:Nat=>Q4 j).toArray[i]? = none:=by simpa using hp
 rw [Jb,e1]
 dsimp only
 refine W0 (QQ hi rfl (by simp) ?_)
 have g1:(s.heap.update it (Obj.mapFields (·.setIfInBounds 0 (Q4 0)))).get? it=some (itO (Q4 0) i a es.size ep):=by
  rw [Wv (Obj.mapFields (·.setIfInBounds 0 (Q4 0))) hi (by rfl)]
  rfl
 refine WE (z8V (s:={ s with heap:=s.heap.update it (Obj.mapFields (·.setIfInBounds 0 (Q4 0))) }) (j:=2) hh g1 (by decide) fun h' eb=>h h' fun b ob hb e=>?_) (fun _ _ e=>e.elim) fun _ _ e=>e
 exact eb b ob hb ((WA _ _ (Ne.symm hb)).trans e)
theorem z5w (hb:bt w=true) (x:SetX prog w s.heap a ks o es ep t xs) (E':Value→W1→Prop) :
  W5 (model prog w) A (setNext a 0 i ep) (fun r s'=>r=((pickOrder (w.params.setOrder a ep) es)[i]?).map (fun e=>(e.2,0))∧s'=s) E' s:=by
 unfold setNext JS
 refine W0 (WL x.g x.d x.f ?_)
 dsimp only
 refine W0 (W0 (Qc (W3 ?_)))
 have hb':Params.followText w.params "set-order" = true:=hb
 show W5 _ _ (if Params.followText w.params "set-order" = true then _ else _) _ _ _
 rw [if_pos hb']
 simp only [bne_self_eq_false,WG,if_false]
 refine W0 ?_
 unfold setWalk JS
 refine W0 (WL x.g x.d x.f ?_)
 dsimp only
 refine W0 (W0 (Qc (W3 ?_)))
 show W5 _ _ (if Params.followText w.params "set-order" = true then _ else _) _ _ _
 rw [if_pos hb']
 refine W0 (Qc ?_)
 exact W3 (W3 ⟨rfl,rfl⟩)
theorem z52 (hb:bt w=false) (x:SetX prog w s.heap a ks o es ep t xs) (h1:es.size≤1) (sl:Nat) (E':Value→W1→Prop) :
  W5 (model prog w) A (setNext a sl i ep) (fun r s'=>r=(match es[SetTable.below t.place sl]?,t.place[SetTable.below t.place sl]? with | some (_,v),some j=>some (v,j + 1) | _,_=>none)∧s'=s) E' s:=by
 unfold setNext JS
 refine W0 (WL x.g x.d x.f ?_)
 dsimp only
 refine W0 (W0 (Qc (W3 ?_)))
 have hb':¬ Params.followText w.params "set-order" = true:=by rw [show Params.followText w.params "set-order" = false from hb]; decide
 show W5 _ _ (if Params.followText w.params "set-order" = true then _ else _) _ _ _
 rw [if_neg hb']
 show W5 _ _ (if (!t.plain && decide (es.size > 1))=true then _ else _) _ _ _
 rw [if_neg (by simp; omega)]
 refine W0 ?_
 show W5 _ _ (if (!t.led && !es.isEmpty)=true then _ else _) _ _ _
 rw [if_neg (by rw [x.l hb]; simp)]
 exact W3 (W3 ⟨rfl,rfl⟩)
theorem zbr {St:Nat→Heap→Prop} {n:Nat} {val:Nat→Value} {S:Addr} {res:Value} {R:Result→W1→Prop} (hne:S≠it) (hn:n≤1000)
  (fr:∀ i h h',St i h→(∀ b ob,b≠S→h.get? b=some ob→h'.get? b=some ob)→St i h')
  (item:∀ (i:Nat) (s:W1) (Q:Option Value→W1→Prop) (E:Value→W1→Prop),i < n→St i s.heap→(∀ h',(∀ b ob,b≠it→s.heap.get? b=some ob→h'.get? b=some ob)→St (i + 1) h'→Q (some (val i)) { s with heap:=h' })→W5 (model prog w) A.in1 (Qr (.ref it)) Q E s)
  (done:∀ (s:W1) (Q:Option Value→W1→Prop) (E:Value→W1→Prop),St n s.heap→(∀ h',(∀ b ob,b≠it→s.heap.get? b=some ob→h'.get? b=some ob)→Q none { s with heap:=h' })→W5 (model prog w) A.in1 (Qr (.ref it)) Q E s) :
  ∀ (k i:Nat) (s:W1) (acc:Array Value) (c:Nat),n - i=k→i≤n→St i s.heap→s.heap.get? S=some { cls:=.type "list",data:=.seq acc c }→acc.toList=(Wz i).map val →
   (∀ h' acc' c',(∀ b ob,b≠S→b≠it→s.heap.get? b=some ob→h'.get? b=some ob)→h'.get? S=some { cls:=.type "list",data:=.seq acc' c' }→acc'.toList=(Wz n).map val→R (.ok (.ret res)) { s with heap:=h' }) →
   Q9 (model prog w) A (.builtin "list.extend.loop" ⟨[.ref S,.ref it,res],[]⟩) R s:=by
 intro k
 induction k with
 | zero =>
  intro i s acc c e1 e2 st g ea fin
  obtain rfl:i=n:=by omega
  refine Q8 PySem.F.entry_extend_loop ?_
  rw [Around.under_plainId QC _]
  show W5 _ A.in1 (Qr (.ref it) >>= _) _ _ _
  refine W0 (done s _ _ st fun h' kp=>?_)
  exact W3 (fin h' acc c (fun b ob _ hb e=>kp b ob hb e) (kp S _ hne g) ea)
 | succ k ih =>
  intro i s acc c e1 e2 st g ea fin
  refine Q8 PySem.F.entry_extend_loop ?_
  rw [Around.under_plainId QC _]
  show W5 _ A.in1 (Qr (.ref it) >>= _) _ _ _
  refine W0 (item i s _ _ (by omega) st fun h' kp st'=>?_)
  have g':=kp S _ hne g
  have za:acc.size=i:=by rw [← Wu,ea]; simp
  show W5 _ A.in1 (updateSeq S (·.push (val i)) >>= _) _ _ _
  refine W0 (JI (hz:=by rw [za,QE]; omega) g' rfl ?_)
  have g2:=Wv (Obj.mapSeq (·.push (val i))) g' rfl
  refine W3 ⟨QN QC _,ih (i + 1) _ (acc.push (val i)) _ (by omega) (by omega) (fr _ _ _ st' fun b ob hb e=>(WA _ _ (Ne.symm hb)).trans e) g2 (by rw [JX,ea,JH,Qw]; rfl) fun h2 acc' c' kp2 g3 ea'=>?_⟩
  exact fin h2 acc' c' (fun b ob hb hi e=>kp2 b ob hb hi ((WA _ _ (Ne.symm hb)).trans (kp b ob hi e))) g3 ea'
end
section
variable {prog:Wj} {w:Wp} {A:Wn} {E:Value→W1→Prop} {s:W1}
variable {a it:Addr} {ks:List Str} {o:Obj} {es:Array (Int×Value)} {ep:Nat} {t:SetTable} {xs:List (Str×Tok)} {i:Nat}
abbrev tupO (ps:List Nat):Obj:={ cls:=.type "tuple",data:=.seq (ps.map fun j:Nat=>Q4 j).toArray }
theorem iterL {Q:Value→W1→Prop} (x:SetX prog w s.heap a ks o es ep t xs) (hz:es.size≤1000)
  (hI:(bt w=true∨es.size≤1)→Q (.ref s.heap.objs.size) { s with heap:=s.heap.push (itO (.int 0 0) 0 a es.size ep) })
  (hD:∀ ps d,ps.Perm (Wz es.size)→Q (.ref (s.heap.push (tupO ps)).objs.size) { s with heap:=(s.heap.push (tupO ps)).push (itO (.ref s.heap.objs.size) 0 a es.size ep),drawn:=d }):W5 (model prog w) A (pyIter (.ref a)) Q E s:=by
 refine wpAny_pyIter_slot x.so.typeIs PySem.F.slot_set_iter (Qn PySem.F.slot_set_iter x.so.typeIs z8C ?_ (PySem.F.args_set_iter_1 _))
 unfold Builtin.«frozenset.__iter__»
 refine W0 (m:=Builtin.Frozenset.slot0 "__iter__" _) (W3 ?_)
 unfold Builtin.Frozenset.sizeOf
 refine W0 (W0 (QO x.g x.d x.f (W3 ?_)))
 unfold setDrawn JS
 refine W0 (W0 (WL x.g x.d x.f ?_))
 dsimp only
 refine W0 (W0 (Qc (W3 ?_)))
 refine W3 ?_
 show W5 _ _ (if (!bt w && (!t.plain && decide (es.size > 1)))=true then _ else _) _ _ _
 by_cases hc:(!bt w && (!t.plain && decide (es.size > 1)))=true
 ·rw [if_pos hc]
  refine W0 (zfw es.size (Wz es.size) s _ (by simp) fun ps d pp=>?_)
  have hl:ps.length=es.size:=by rw [pp.length_eq,Jt]
  unfold newTuple
  refine W0 (WT ?_ (by show (ps.map fun j:Nat=>Q4 j).toArray.size≤W8; rw [Wl,Ws,hl,QE]; omega))
  have x1:SetX prog w (s.heap.push (tupO ps)) a ks o es ep t xs:={ x with g:=W4 _ x.g }
  refine W0 (Ju (s:={ s with heap:=s.heap.push (tupO ps),drawn:=d }) x1.g x1.d x1.f ?_)
  refine W0 (WT (W3 ⟨_,rfl,"set_iterator",_,⟨_,Wi _ rfl,rfl⟩,slot_next.lookup,?_⟩))
  exact hD ps d pp
 ·rw [if_neg hc]
  refine W0 (W3 ?_)
  refine W0 (Ju x.g x.d x.f ?_)
  refine W0 (WT (W3 ⟨_,rfl,"set_iterator",_,⟨_,Wi _ rfl,rfl⟩,slot_next.lookup,?_⟩))
  refine hI ?_
  cases hb:bt w with
  | true=>exact .inl rfl
  | false =>
   right
   rw [hb] at hc
   refine Nat.le_of_not_lt fun hgt=>hc ?_
   have hp:t.plain=false:=by
    cases e:t.plain with
    | false=>rfl
    | true =>
     have hs:es.size=0:=by rw [x.sz,x.q e]; rfl
     omega
   rw [hp]
   simpa using hgt
theorem zfi {Q:Bool→W1→Prop} (x:SetL prog w s.heap a ks) (h:Q false s):W5 (model prog w) A (Builtin.List.listLengthHint (.ref a)) Q E s:=by
 have hT:=x.so.typeIs
 unfold Builtin.List.listLengthHint
 refine W0 (wpAny_specialOf hT zds ?_)
 generalize hid:("set.__len__" : String)=id0
 wp_delta
 rw [show splitId id0=some ("set","__len__") from by subst hid; decide +kernel]
 subst hid
 refine W0 (wpAny_isInstance (T:="set") (b:=true) hT (by rw [isSubtype_type]; kernel_rfl) ?_)
 refine JF (fun hab=>absurd hab (by decide)) (fun _=>?_)
 refine JF (fun _=>?_) (fun hab=>absurd (by decide +kernel) hab)
 refine W0 (QJ hT ?_)
 exact W3 h
theorem walkI {S:Addr} {res:Value} {R:Result→W1→Prop} {acc:Array Value} {c:Nat} (hh:A.handled=none) (x:SetX prog w s.heap a ks o es ep t xs) (hz:es.size≤1000) (hS:S≠it) (hSa:S≠a) (hai:a≠it) (hc:bt w=true∨es.size≤1)
  (hi:s.heap.get? it=some (itO (.int 0 0) 0 a es.size ep)) (gS:s.heap.get? S=some { cls:=.type "list",data:=.seq #[] c })
  (fin:∀ h' acc' c' (zs:List (Str×Tok)),(∀ b ob,b≠S→b≠it→s.heap.get? b=some ob→h'.get? b=some ob)→h'.get? S=some { cls:=.type "list",data:=.seq acc' c' }→acc'.toList=zs.map (fun z=>Value.str z.1 z.2)→(zs.map (·.1)).Perm ks→R (.ok (.ret res)) { s with heap:=h' }) :
  Q9 (model prog w) A (.builtin "list.extend.loop" ⟨[.ref S,.ref it,res],[]⟩) R s:=by
 have fr:∀ (F:Nat→Value) (i:Nat) (h h':Heap),(h.get? it=some (itO (F i) i a es.size ep)∧SetX prog w h a ks o es ep t xs)→(∀ b ob,b≠S→h.get? b=some ob→h'.get? b=some ob)→(h'.get? it=some (itO (F i) i a es.size ep)∧SetX prog w h' a ks o es ep t xs) :=
  fun F i h h' ⟨q1,q2⟩ k=>⟨k _ _ (Ne.symm hS) q1,{ q2 with g:=k _ _ (Ne.symm hSa) q2.g }⟩
 cases hb:bt w with
 | true =>
  have pp:=z4I (w.params.setOrder a ep) es
  rw [x.e] at pp
  obtain ⟨zs,ez,pz⟩:=z4v pp
  have hl:zs.length=es.size:=by
   have:=congrArg QF ez
   have q:=(z4I (w.params.setOrder a ep) es).length_eq
   simp at this q
   omega
  have gt:∀ i,(pickOrder (w.params.setOrder a ep) es)[i]? = (zs[i]?).map (elE prog w):=fun i=>by
   rw [← Array.getElem?_toList,ez,WK]
  refine zbr (it:=it) (St:=fun i h=>h.get? it=some (itO (.int 0 0) i a es.size ep)∧SetX prog w h a ks o es ep t xs) (n:=es.size) (val:=fun i=>((zs[i]?).map fun z=>Value.str z.1 z.2).getD .none) hS hz (fr fun _=>.int 0 0) ?item ?done es.size 0 s #[] c (by omega) (QR _) ⟨hi,x⟩ gS rfl ?fin
  case item =>
   rintro i s Q E' hlt ⟨q1,q2⟩ k
   have hi':i < zs.length:=by omega
   refine z6x (A:=A.in1) (sl:=0) (nx:=0) (v:=Value.str zs[i].1 zs[i].2) q2 q1 (fun E2=>WE (z5w (i:=i) hb q2 E2) (fun r s' ⟨e1,e2⟩=>⟨by rw [e1,gt i,Wk hi']; rfl,e2⟩) fun _ _ e=>e) fun h' sb g=>?_
   have:((zs[i]?).map fun z=>Value.str z.1 z.2).getD .none=Value.str zs[i].1 zs[i].2:=by rw [Wk hi']; rfl
   rw [← this]
   exact k h' (fun b ob hb' e=>(sb.2 b hb').trans e) ⟨g,{ q2 with g:=(sb.2 a hai).trans q2.g }⟩
  case done =>
   rintro s Q E' ⟨q1,q2⟩ k
   refine z5W (A:=A.in1) (sl:=0) hh q2 q1 (fun E2=>WE (z5w hb q2 E2) (fun r s' ⟨e1,e2⟩=>⟨by rw [e1,gt,WS (by omega)]; rfl,e2⟩) fun _ _ e=>e) fun h' eb=>k h' fun b ob hb' e=>eb b ob hb' e
  case fin =>
   intro h' acc' c' k g ea
   refine fin h' acc' c' zs k g ?_ (pz.trans x.p)
   rw [ea,← hl]
   refine List.ext_getElem (by simp) fun i h1 h2=>?_
   simp at h1 h2
   simp [h2]
 | false =>
  have h1:es.size≤1:=hc.resolve_left (by rw [hb]; decide)
  have hps:t.place.size=es.size:=by
   have:=x.f
   unfold SetTable.fits at this
   simp at this
   exact this.1
  have hxl:xs.length=es.size:=by
   have:=congrArg QF x.e
   simp at this
   omega
  by_cases h0:es.size=0
  ·refine zbr (it:=it) (St:=fun i h=>h.get? it=some (itO (.int 0 0) i a es.size ep)∧SetX prog w h a ks o es ep t xs) (n:=0) (val:=fun i=>.none) hS (by decide) (fr fun _=>.int 0 0) (fun i s Q E' hlt=>by omega) ?done 0 0 s #[] c rfl (Wd _) ⟨hi,x⟩ gS rfl ?fin
   case done =>
    rintro s Q E' ⟨q1,q2⟩ k
    refine z5W (A:=A.in1) (sl:=0) hh q2 q1 (fun E2=>WE (z52 hb q2 h1 0 E2) (fun r s' ⟨e1,e2⟩=>⟨by
     rw [e1,Array.getElem?_eq_none (by omega)],e2⟩) fun _ _ e=>e) fun h' eb=>k h' fun b ob hb' e=>eb b ob hb' e
   case fin =>
    intro h' acc' c' k g ea
    have:xs=[]:=Qj (by omega)
    refine fin h' acc' c' xs k g ?_ x.p
    rw [ea,this]; rfl
  ·have hone:es.size=1:=by omega
   obtain ⟨z,ez⟩:∃ z,xs=[z]:=by
    match xs,hxl with
    | [z],_=>exact ⟨z,rfl⟩
    | [],h=>simp at h; omega
    | _ :: _ :: _,h=>simp at h; omega
   obtain ⟨j,ej⟩:∃ j,t.place = #[j]:=by
    have:t.place.toList.length=1:=by simp; omega
    match hp:t.place.toList,this with
    | [j],_=>exact ⟨j,by rw [← Array.toArray_toList (xs:=t.place),hp]⟩
   have e0:es[0]? = some (elE prog w z):=by rw [← Array.getElem?_toList,x.e,ez]; rfl
   have b0:SetTable.below t.place 0=0:=by rw [ej]; simp [SetTable.below,SetTable.below.go]
   have b1:SetTable.below t.place (j + 1)=1:=by rw [ej]; simp [SetTable.below,SetTable.below.go]
   refine zbr (it:=it) (St:=fun i h=>h.get? it=some (itO (.int ((if i=0 then 0 else j + 1:Nat):Int) 0) i a es.size ep)∧SetX prog w h a ks o es ep t xs) (n:=1) (val:=fun i=>Value.str z.1 z.2) hS (by decide) (fr fun i=>.int ((if i=0 then 0 else j + 1:Nat):Int) 0) ?item ?done 1 0 s #[] c rfl (by decide) ⟨hi,x⟩ gS rfl ?fin
   case item =>
    rintro i s Q E' hlt ⟨q1,q2⟩ k
    obtain rfl:i=0:=by omega
    refine z6x (A:=A.in1) (sl:=0) (nx:=j + 1) (v:=Value.str z.1 z.2) q2 q1 (fun E2=>WE (z52 (i:=0) hb q2 h1 0 E2) (fun r s' ⟨e1,e2⟩=>⟨by
     rw [e1,b0,e0,ej]; rfl,e2⟩) fun _ _ e=>e) fun h' sb g=>?_
    exact k h' (fun b ob hb' e=>(sb.2 b hb').trans e) ⟨g,{ q2 with g:=(sb.2 a hai).trans q2.g }⟩
   case done =>
    rintro s Q E' ⟨q1,q2⟩ k
    refine z5W (A:=A.in1) (sl:=j + 1) hh q2 q1 (fun E2=>WE (z52 hb q2 h1 (j + 1) E2) (fun r s' ⟨e1,e2⟩=>⟨by
     rw [e1,b1,Array.getElem?_eq_none (by omega)],e2⟩) fun _ _ e=>e) fun h' eb=>k h' fun b ob hb' e=>eb b ob hb' e
   case fin =>
    intro h' acc' c' k g ea
    refine fin h' acc' c' xs k g ?_ x.p
    rw [ea,ez]; rfl
theorem walkD {S T:Addr} {res:Value} {R:Result→W1→Prop} {c:Nat} {ps:List Nat} (hh:A.handled=none) (x:SetX prog w s.heap a ks o es ep t xs) (hz:es.size≤1000) (hS:S≠it) (hSa:S≠a) (hai:a≠it) (hST:S≠T) (hTi:T≠it) (pp:ps.Perm (Wz es.size))
  (hi:s.heap.get? it=some (itO (.ref T) 0 a es.size ep)) (gT:s.heap.get? T=some (tupO ps)) (gS:s.heap.get? S=some { cls:=.type "list",data:=.seq #[] c })
  (fin:∀ h' acc' c' (zs:List (Str×Tok)),(∀ b ob,b≠S→b≠it→s.heap.get? b=some ob→h'.get? b=some ob)→h'.get? S=some { cls:=.type "list",data:=.seq acc' c' }→acc'.toList=zs.map (fun z=>Value.str z.1 z.2)→(zs.map (·.1)).Perm ks→R (.ok (.ret res)) { s with heap:=h' }) :
  Q9 (model prog w) A (.builtin "list.extend.loop" ⟨[.ref S,.ref it,res],[]⟩) R s:=by
 have hl:ps.length=es.size:=by rw [pp.length_eq,Jt]
 have hxl:xs.length=es.size:=by
  have:=congrArg QF x.e
  simp at this
  omega
 have hin:∀ i (h:i < ps.length),ps[i] < xs.length:=fun i h=>by
  have:=Qd.mp (pp.mem_iff.mp (Jj h))
  omega
 have ge:∀ p (h:p < xs.length),es[p]? = some (elE prog w xs[p]):=fun p h=>by
  rw [← Array.getElem?_toList,x.e,WK,Wk h]; rfl
 refine zbr (it:=it) (St:=fun i h=>h.get? it=some (itO (.ref T) i a es.size ep)∧SetX prog w h a ks o es ep t xs∧h.get? T=some (tupO ps)) (n:=es.size) (val:=fun i=>((ps[i]?).bind fun p=>(xs[p]?).map fun z=>Value.str z.1 z.2).getD .none) hS hz (fun i h h' ⟨q1,q2,q3⟩ k=>⟨k _ _ (Ne.symm hS) q1,{ q2 with g:=k _ _ (Ne.symm hSa) q2.g },k _ _ (Ne.symm hST) q3⟩) ?item ?done es.size 0 s #[] c (by omega) (QR _) ⟨hi,x,gT⟩ gS rfl ?fin
 case item =>
  rintro i s Q E' hlt ⟨q1,q2,q3⟩ k
  have hi':i < ps.length:=by omega
  have hp:=hin i hi'
  refine z8s (A:=A.in1) (T:=T) (ps:=ps) (p:=ps[i]) q2 q1 q3 rfl (Wk hi') (ge _ hp) fun h' sb g=>?_
  have:((ps[i]?).bind fun p=>(xs[p]?).map fun z=>Value.str z.1 z.2).getD .none=Value.str (xs[ps[i]]).1 (xs[ps[i]]).2:=by
   rw [Wk hi',WC,Wk hp]; rfl
  have k2:=k h' (fun b ob hb' e=>(sb.2 b hb').trans e) ⟨g,{ q2 with g:=(sb.2 a hai).trans q2.g },(sb.2 T hTi).trans q3⟩
  rw [this] at k2
  exact k2
 case done =>
  rintro s Q E' ⟨q1,q2,q3⟩ k
  exact zaq (A:=A.in1) (T:=T) (ps:=ps) hh q2 q1 q3 rfl (WS (by omega)) fun h' eb=>k h' fun b ob hb' e=>eb b ob hb' e
 case fin =>
  intro h' acc' c' k g ea
  refine fin h' acc' c' (ps.filterMap (xs[·]?)) k g ?_ ?_
  ·rw [ea,← hl]
   have all:∀ p ∈ ps,p < xs.length:=fun p hp=>by have:=Qd.mp (pp.mem_iff.mp hp); omega
   clear pp fin ea g k hl hin ge hi gT
   have:∀ ps:List Nat,(∀ p ∈ ps,p < xs.length)→(Wz ps.length).map (fun i=>((ps[i]?).bind fun p=>(xs[p]?).map fun z=>Value.str z.1 z.2).getD .none)=(ps.filterMap (xs[·]?)).map fun z=>Value.str z.1 z.2:=fun ps=>by
    induction ps with
    | nil=>intro _; rfl
    | cons p ps ih =>
     intro all
     have hp:=all p Wm
     rw [WB,List.range_succ_eq_map,Wr,WH]
     have ih':=ih fun q hq=>all q (Wc _ hq)
     have e1:(p :: ps).filterMap (xs[·]?)=xs[p] :: ps.filterMap (xs[·]?):=QM (Wk hp)
     rw [e1,Wr,← ih']
     simp [Wk hp,Function.comp_def]
   exact this ps all
  ·have p1:(ps.filterMap (xs[·]?)).Perm xs:=(pp.filterMap _).trans (by rw [← hxl,List.filterMap_getElem?_range_length])
   exact (p1.map (·.1)).trans x.p
end
section
variable {prog:Wj} {w:Wp} {A:Wn} {E:Value→W1→Prop} {s:W1}
theorem zdE {a S:Addr} {ks:List Str} {o:Obj} {es:Array (Int×Value)} {ep:Nat} {t:SetTable} {xs:List (Str×Tok)} {c0:Nat} {res:Value} {R:Result→W1→Prop} (hh:A.handled=none) (x:SetX prog w s.heap a ks o es ep t xs) (hz:es.size≤1000) (hSa:S≠a) (gS:s.heap.get? S=some { cls:=.type "list",data:=.seq #[] c0 })
  (fin:∀ (h3:Heap) (d:Drawn) (acc:Array Value) (c:Nat) (ys:List (Str×Tok)),(∀ b ob,b≠S→s.heap.get? b=some ob→h3.get? b=some ob)→h3.get? S=some { cls:=.type "list",data:=.seq acc c }→acc.toList=ys.map (fun z=>Value.str z.1 z.2)→(ys.map (·.1)).Perm ks→R (.ok (.ret res)) { s with heap:=h3,drawn:=d }) :
  W5 (model prog w) A.in1 (Builtin.List.listExtendWith (.ref S) (.ref a) res) (fun fin s'=>match fin with | .done f=>R (.ok f) s' | .again c'=>c'.quiet=true∧Q9 (model prog w) A c' R s') (fun e s'=>R (.error e) s') s:=by
 have lt:=We x.g
 have lS:=We gS
 unfold Builtin.List.listExtendWith
 refine W0 (QJ (T:="set") x.so.typeIs ?_)
 have n1:Builtin.List.listSameRef (.ref S) (.ref a)=false:=by simp only [Builtin.List.listSameRef]; exact beq_eq_false_iff_ne.mpr hSa
 have n2:(Value.type "set" == Value.type "list")=false:=by decide
 have n3:(Value.type "set" == Value.type "tuple")=false:=by decide
 simp only [n1,n2,n3,Bool.or_false,WG,if_false]
 refine W0 (iterL x hz (fun hc=>?_) (fun ps d pp=>?_))
 ·have x2:SetX prog w (s.heap.push (itO (.int 0 0) 0 a es.size ep)) a ks o es ep t xs:={ x with g:=W4 _ x.g }
  have g1:(s.heap.push (itO (.int 0 0) 0 a es.size ep)).get? S=some { cls:=.type "list",data:=.seq #[] c0 }:=W4 _ gS
  have g2:(s.heap.push (itO (.int 0 0) 0 a es.size ep)).get? s.heap.objs.size=some (itO (.int 0 0) 0 a es.size ep):=Wi _ rfl
  refine W0 (WF (zfi (s:={ s with heap:=s.heap.push (itO (.int 0 0) 0 a es.size ep) }) ⟨_,_,_,_,_,x2⟩ ?_))
  refine JF (fun _=>?_) (fun hn=>absurd (by decide) hn)
  refine W0 (QL ?_)
  refine W0 ?_
  show W5 _ _ (updateSeq S (·.push .none) >>= fun _=>updateSeq S (·.pop)) _ _ _
  refine W0 (JI (s:={ s with heap:=s.heap.push (itO (.int 0 0) 0 a es.size ep) }) g1 rfl ?_)
  have g4:=Wv (Obj.mapSeq (·.push Value.none)) g1 rfl
  refine JI (hz:=by seq_fits) g4 rfl ?_
  have g5:=Wv (Obj.mapSeq (·.pop)) g4 rfl
  have k2:∀ b ob,b≠S→(s.heap.push (itO (.int 0 0) 0 a es.size ep)).get? b=some ob→(((s.heap.push (itO (.int 0 0) 0 a es.size ep)).update S (Obj.mapSeq (·.push Value.none))).update S (Obj.mapSeq (·.pop))).get? b=some ob:=fun b ob hb e =>
   (WA _ _ (Ne.symm hb)).trans ((WA _ _ (Ne.symm hb)).trans e)
  refine W3 ⟨QN QC _,?_⟩
  refine walkI (s:={ s with heap:=_ }) (acc:=#[]) hh { x2 with g:=k2 a _ (Ne.symm hSa) x2.g } hz (Wo lS) hSa (Wo lt) hc (k2 _ _ (QH lS) g2) g5 fun h3 acc c' ys k3 g6 ea pp=>fin h3 s.drawn acc c' ys (fun b ob hb e=>?_) g6 ea pp
  have lb:=We e
  exact k3 b ob hb (Wo lb) (k2 b ob hb (W4 _ e))
 ·have zT:(s.heap.push (tupO ps)).objs.size=s.heap.objs.size + 1:=QP _ _
  have x2:SetX prog w ((s.heap.push (tupO ps)).push (itO (.ref s.heap.objs.size) 0 a es.size ep)) a ks o es ep t xs:={ x with g:=W4 _ (W4 _ x.g) }
  have g1:((s.heap.push (tupO ps)).push (itO (.ref s.heap.objs.size) 0 a es.size ep)).get? S=some { cls:=.type "list",data:=.seq #[] c0 }:=W4 _ (W4 _ gS)
  have g2:((s.heap.push (tupO ps)).push (itO (.ref s.heap.objs.size) 0 a es.size ep)).get? (s.heap.push (tupO ps)).objs.size=some (itO (.ref s.heap.objs.size) 0 a es.size ep):=Wi _ rfl
  have gT:((s.heap.push (tupO ps)).push (itO (.ref s.heap.objs.size) 0 a es.size ep)).get? s.heap.objs.size=some (tupO ps):=W4 _ (Wi _ rfl)
  have lI:S < (s.heap.push (tupO ps)).objs.size:=by rw [zT]; exact Qf lS
  refine W0 (WF (zfi (s:={ s with heap:=(s.heap.push (tupO ps)).push (itO (.ref s.heap.objs.size) 0 a es.size ep),drawn:=d }) ⟨_,_,_,_,_,x2⟩ ?_))
  refine JF (fun _=>?_) (fun hn=>absurd (by decide) hn)
  refine W0 (QL ?_)
  refine W0 ?_
  show W5 _ _ (updateSeq S (·.push .none) >>= fun _=>updateSeq S (·.pop)) _ _ _
  refine W0 (JI (s:={ s with heap:=(s.heap.push (tupO ps)).push (itO (.ref s.heap.objs.size) 0 a es.size ep),drawn:=d }) g1 rfl ?_)
  have g4:=Wv (Obj.mapSeq (·.push Value.none)) g1 rfl
  refine JI (hz:=by seq_fits) g4 rfl ?_
  have g5:=Wv (Obj.mapSeq (·.pop)) g4 rfl
  have k2:∀ b ob,b≠S→((s.heap.push (tupO ps)).push (itO (.ref s.heap.objs.size) 0 a es.size ep)).get? b=some ob→((((s.heap.push (tupO ps)).push (itO (.ref s.heap.objs.size) 0 a es.size ep)).update S (Obj.mapSeq (·.push Value.none))).update S (Obj.mapSeq (·.pop))).get? b=some ob:=fun b ob hb e =>
   (WA _ _ (Ne.symm hb)).trans ((WA _ _ (Ne.symm hb)).trans e)
  refine W3 ⟨QN QC _,?_⟩
  refine walkD (s:={ s with heap:=_,drawn:=d }) (T:=s.heap.objs.size) (ps:=ps) hh { x2 with g:=k2 a _ (Ne.symm hSa) x2.g } hz (Wo lI) hSa (Wo (by rw [zT]; exact Qf lt)) (Wo lS) (by rw [zT]; exact Wo (JZ _)) pp (k2 _ _ (QH lI) g2) (k2 _ _ (QH lS) gT) g5 fun h3 acc c' ys k3 g6 ea pp=>fin h3 d acc c' ys (fun b ob hb e=>?_) g6 ea pp
  have lb:=We e
  exact k3 b ob hb (Wo (by rw [zT]; exact Qf lb)) (k2 b ob hb (W4 _ (W4 _ e)))
theorem zbP {a:Addr} {ks:List Str} {Q:List Value→W1→Prop} (hh:A.handled=none) (hA:SetL prog w s.heap a ks) (hn:ks.length≤1000)
  (h:∀ (h':Heap) (d:Drawn) (zs:List (Str×Tok)),(zs.map (·.1)).Perm ks→(∀ b o,s.heap.get? b=some o→h'.get? b=some o)→s.heap.objs.size < h'.objs.size→Q (zs.map fun z=>Value.str z.1 z.2) { s with heap:=h',drawn:=d }):W5 (model prog w) A (collect (.ref a)) Q E s:=by
 obtain ⟨o,es,ep,t,xs,x⟩:=hA
 have hz:es.size≤1000:=by rw [x.sz]; exact hn
 have lt:=We x.g
 unfold collect
 refine W0 (wpAny_runValue (Q8 PySem.F.entry_proto_collect ?_))
 rw [Around.under_plainId PySem.F.plain_proto_collect _]
 show W5 _ A.in1 (newList [] >>= fun l=>again (.builtin "list.__iadd__" ⟨[l,.ref a],[]⟩)) _ _ s
 refine W0 (WT ?_)
 refine W3 ⟨QN PySem.F.plain_list_iadd _,Q8 PySem.F.entry_list_iadd ?_⟩
 rw [Around.under_plainId PySem.F.plain_list_iadd _]
 generalize hL:({ cls:=.type "list",data:=.seq ([]:List Value).toArray }:Obj)=L0
 have g0:(s.heap.push L0).get? s.heap.objs.size=some { cls:=.type "list",data:=.seq #[] }:=by rw [← hL]; exact Wi _ rfl
 have x1:SetX prog w (s.heap.push L0) a ks o es ep t xs:={ x with g:=W4 _ x.g }
 show W5 _ A.in1 (Builtin.List.listExtendWith (.ref s.heap.objs.size) (.ref a) (.ref s.heap.objs.size)) _ _ _
 have key:=zdE (A:=A) (s:={ s with heap:=s.heap.push L0 }) (res:=.ref s.heap.objs.size) (R:=fun q s'=>∃ (h3:Heap) (d:Drawn) (acc:Array Value) (c:Nat) (ys:List (Str×Tok)),q = .ok (.ret (.ref s.heap.objs.size))∧s' = { s with heap:=h3,drawn:=d }∧(∀ b ob,s.heap.get? b=some ob→h3.get? b=some ob)∧h3.get? s.heap.objs.size=some { cls:=.type "list",data:=.seq acc c }∧acc.toList=ys.map (fun z=>Value.str z.1 z.2)∧(ys.map (·.1)).Perm ks) hh x1 hz (QH lt) g0 fun h3 d acc c ys k3 g3 ea pp =>
  ⟨h3,d,acc,c,ys,rfl,rfl,fun b ob e=>k3 b ob (Wo (We e)) (W4 _ e),g3,ea,pp⟩
 have last:∀ (h3:Heap) (d:Drawn) (acc:Array Value) (c:Nat) (ys:List (Str×Tok)),(∀ b ob,s.heap.get? b=some ob→h3.get? b=some ob)→h3.get? s.heap.objs.size=some { cls:=.type "list",data:=.seq acc c }→acc.toList=ys.map (fun z=>Value.str z.1 z.2)→(ys.map (·.1)).Perm ks →
   W5 (model prog w) A (do
    match (← load s.heap.objs.size).data with
    | .seq xs _=>pure xs.toList
    | _=>unsupported "internal:collect") Q E { s with heap:=h3,drawn:=d }:=fun h3 d acc c ys k3 g3 ea pp=>by
  refine W0 (wpAny_load g3 ?_)
  refine W3 ?_
  show Q acc.toList _
  rw [ea]
  exact h h3 d ys pp k3 (We g3)
 refine WE key (fun fin s' z=>?_) fun e s' z=>?_
 ·cases fin with
  | done f =>
   obtain ⟨h3,d,acc,c,ys,e,rfl,k3,g3,ea,pp⟩:=z
   cases e
   exact last h3 d acc c ys k3 g3 ea pp
  | again c₁ =>
   refine ⟨z.1,QT z.2 fun q s₂ y=>?_⟩
   obtain ⟨h3,d,acc,c,ys,rfl,rfl,k3,g3,ea,pp⟩:=y
   exact last h3 d acc c ys k3 g3 ea pp
 ·obtain ⟨_,_,_,_,_,e',_⟩:=z
  cases e'
theorem zcB (zs:List (Str×Tok)):StrsAre (zs.map fun z=>Value.str z.1 z.2) (zs.map (·.1)):=by
 induction zs with
 | nil=>exact .nil
 | cons z zs ih=>exact .cons _ _ ih
theorem zcF {a:Addr} {ks:List Str} {Q:Value→W1→Prop} (hh:A.handled=none) (hA:SetL prog w s.heap a ks) (hn:ks.length < 64)
  (h:∀ (h':Heap) (d:Drawn) (p:Addr) (e:Nat) (out:Array Value) (ss:List Str),StrsAre out.toList ss→ss.Perm ks→sortedS ss=true→(∀ b o,s.heap.get? b=some o→h'.get? b=some o)→s.heap.objs.size≤p→h'.get? p=some (seqObj "list" out e)→Q (.ref p) { s with heap:=h',drawn:=d }) :
  W5 (model prog w) A (call (.builtin "sorted") [.ref a]) Q E s:=by
 refine Calls.call_function_entry kind_sorted plain_sorted entry_sorted (args_sorted1 _) ?_
 unfold Builtin.«sorted»
 refine W0 (m:=checkCount "sorted" 1 1 _) (W3 (W0 (zbP (A:=A.in1) hh hA (by omega) fun h1 d zs pz k1 hz=>?_)))
 have hl:(zs.map fun z=>Value.str z.1 z.2).length < 64:=by have:=pz.length_eq; simp at this ⊢; omega
 refine W0 (wpAny_newList ?_ (by rw [QE]; omega))
 have hS:=zcB zs
 generalize (zs.map fun z=>Value.str z.1 z.2)=vs at hl hS ⊢
 have ho:(h1.push (seqObj "list" vs.toArray 0)).get? h1.objs.size=some (seqObj "list" vs.toArray 0):=Wi _ rfl
 refine W0 (WF (Qn slot_list_sort ⟨_,ho,rfl⟩ entry_list_sort (list_sort_treeK (s:={ s with heap:=h1.push (seqObj "list" vs.toArray 0),drawn:=d }) strKind_oneLt ho hS.keysOf (fun v₁ v₂ rest e=>keyKind_strs (by rw [← e]; exact hS)) hl fun st' hp hs=>⟨_,rfl,?_⟩) (args_list_sort _)))
 obtain ⟨ss',q1,q2,q3⟩:=sorted_out_str hS hp hs
 obtain ⟨e,he⟩:=sortedHeap_at (out:=(arrOf st').map (·.2)) ho
 refine W3 ⟨_,rfl,h _ d h1.objs.size e _ ss' q1 (q2.trans pz) q3 (fun b o q=>?_) (JJ hz) he⟩
 have r1:=k1 b o q
 have lb:=We r1
 rw [sortedHeap_old (Wo lb) (by rw [size_push']; exact Qf lb)]
 exact W4 _ r1
end
end SU
set_option maxHeartbeats 400000
namespace L2
open PySem PySem.Spec PyProof.Rows PySem.W DV SU
def setO (X:Cx) (a:Addr) (ks:List Str):HO:=.ext fun h=>SetL X.prog X.w h a ks
theorem z96 {X:Cx} {H:Hp} {h:Heap} {a:Addr} {ks:List Str} (x:SetL X.prog X.w h a ks):ObjOk X.prog X.w H h a (setO X a ks):=by
 refine ⟨x,?_,fun h1 h2 y k=>y.at' k⟩
 obtain ⟨o,es,ep,t,xs,z⟩:=x
 exact ⟨o,z.g⟩
theorem z5J {X:Cx} {H:Hp} {h:Heap} {a:Addr} {ks:List Str} (ok:HOk X.prog X.w H h) (e:H a=some (setO X a ks)):SetL X.prog X.w h a ks :=
 (show ObjOk X.prog X.w H h a (setO X a ks) from ok a _ e).1
section
variable {X:Cx}
theorem z6W (hc:X.calm=true):CallR X (.type "set") (fun xs H Q=>∃ (a:Addr) (ts:List Str),xs=[.ref a]∧SqL X.K H a (ts.map V.str)∧ts.length < 1000∧∀ p,H p=none→Q (.ref p) (upd H p (setO X p (ts.foldl dd [])))):=by
 intro pins s σ H xs us Q I r h
 obtain ⟨a,ts,rfl,hq,hz,q⟩:=h
 obtain ⟨u,rfl,ru⟩:=z3R r
 cases ru
 obtain ⟨its,r',p,_⟩:=I.list hq
 have hl:=r'.length
 rw [Ws] at hl
 refine callL (fun i=>ts.getD i default) (I.ok.hd hc) p.isList (fun i v e=>?_) (by rw [Wl]; unfold Jg; omega) fun h' tk z k=>?_
 ·have hi:i < its.length:=(Wb.mp (by simpa using e)).1
  have hv:(ts.map V.str)[i]? = some (V.str (ts[i]'(by omega))):=by simp [show i < ts.length by omega]
  have rv:=Vals.at2 r' hv (by simpa using e)
  obtain ⟨t,et⟩:=(show ∃ t,v=Value.str (ts[i]'(by omega)) t from rv)
  exact ⟨t,by rw [et]; simp [show i < ts.length by omega]⟩
 ·have e:fm (fun i=>ts.getD i default) its.toArray.size=ts.foldl dd []:=by
   unfold fm
   congr 1
   rw [Wl,← hl]
   refine List.ext_getElem (by simp) fun i h1 h2=>?_
   simp at h1 h2
   simp [h2]
  rw [e] at z
  exact ⟨.ref _,_,I.laid (t':=tk) k (Wd _) (z96 z),rfl,q _ (I.hok.fresh (Wd _))⟩
theorem zdi:OpR X (Qb .BitXor) (fun x y H Q=>∃ (a b:Addr) (ks js:List Str),x = .ref a∧y = .ref b∧H a=some (setO X a ks)∧H b=some (setO X b js)∧js.length≤7∧ks.length≤1000 ∧
  ∀ (p:Addr) (ls:List Str),H p=none→ls.Perm ks→Q (.ref p) (upd H p (setO X p (ls.foldl flp js)))):=by
 intro pins s σ H x y v u Q I rx ry h
 obtain ⟨a,b,ks,js,rfl,rfl,ha,hb,h4,hk,q⟩:=h
 cases rx
 cases ry
 refine xorL (z5J I.hok ha) (z5J I.hok hb) h4 (by unfold Jg; omega) fun h' ls pl z k=>?_
 exact ⟨.ref _,_,I.laid (t':=s.toks) k (Wd _) (z96 z),rfl,q _ ls (I.hok.fresh (Wd _)) pl⟩
theorem Inv.drawn {pins:List (Addr×Obj)} {σ:List (Option V)} {H:Hp} {s:W1} (I:Inv X pins σ H s) (d:Drawn):Inv X pins σ H { s with drawn:=d } :=
 ⟨I.ok,I.os,I.bare,I.base,I.loc,I.cell,I.free,I.freeC,I.pin,I.hok,I.len⟩
theorem vals_strs:∀ {vs:List Value} {ss:List Str},StrsAre vs ss→Vals (ss.map V.str) vs
 | _,_,.nil=>.nil
 | _,_,.cons x t h=>.cons ⟨t,rfl⟩ (vals_strs h)
theorem z8K (hc:X.calm=true):CallR X (.builtin "sorted") (fun xs H Q=>∃ (a:Addr) (ts:List Tx),xs=[.ref a]∧H a=some (setO X a (ts.map toS))∧ts.length < 64∧∀ p,H p=none→Q (.ref p) (upd H p (.lst ((z23 ts).map fun z=>V.str (toS z))))):=by
 intro pins s σ H xs us Q I r h
 obtain ⟨a,ts,rfl,ha,hz,q⟩:=h
 obtain ⟨u,rfl,ru⟩:=z3R r
 cases ru
 refine zcF (I.ok.hd hc) (z5J I.hok ha) (by simpa using hz) fun h' d p e out ss hS hp hs k hpz g=>?_
 have e2:ss=(z23 ts).map toS:=by
  have hpw:(ss.map fun z:Str=>z.cps.toList).Pairwise leT:=by
   cases ss with
   | nil=>simp
   | cons x r=>exact z4H x r hs
  have hpp:(ss.map fun z:Str=>z.cps.toList).Perm ts:=by
   have:=hp.map fun z:Str=>z.cps.toList
   rw [WH] at this
   have e2:ts.map ((fun z:Str=>z.cps.toList) ∘ toS)=ts:=by
    rw [show ((fun z:Str=>z.cps.toList) ∘ toS)=id from funext fun z=>z3h z,List.map_id]
   rw [e2] at this
   exact this
  rw [← z5F hpp hpw,WH]
  rw [show (toS ∘ fun z:Str=>z.cps.toList)=id from funext fun z=>(z7I z).symm,List.map_id]
 have rv:Vals ((z23 ts).map fun z=>V.str (toS z)) out.toList:=by
  have:=vals_strs hS
  rw [e2,WH] at this
  exact this
 have hl:(z23 ts).length=ts.length:=(z2h ts).length_eq
 have I1:=(I.drawn d).laid (h':=h') (t':=s.toks) (o:=.lst ((z23 ts).map fun z=>V.str (toS z))) k hpz (show ObjOk X.prog X.w _ _ _ (.lst _) from ⟨by rw [Ws,hl,QE]; omega,out.toList,e,rv,g⟩)
 exact ⟨.ref _,_,I1,rfl,q _ (I.hok.fresh hpz)⟩
end
end L2
namespace DV
open PySem PySem.Spec PyProof.Rows L2 SU
theorem z7t:∀ (ks σ:List Str),(σ ++ ks).Nodup→ks.foldl dd σ=σ ++ ks
 | [],σ,_=>by simp
 | k :: ks,σ,nd=>by
  rw [Qi]
  have hk:k ∉ σ:=fun h=>(List.nodup_append.mp nd).2.2 k h k Wm rfl
  have e:dd σ k=σ ++ [k]:=by unfold dd; rw [if_neg hk]
  rw [e,z7t ks (σ ++ [k]) (by simpa using nd)]
  simp
theorem zae {js:List Str} (nd:js.Nodup) (x k:Str):(flp js x).Nodup∧(k ∈ flp js x ↔ if k=x then x ∉ js else k ∈ js):=by
 unfold flp
 by_cases h:x ∈ js
 ·rw [if_pos h]
  refine ⟨nd.erase _,?_⟩
  rw [nd.mem_erase_iff]
  by_cases e:k=x
  ·simp [e,h]
  ·simp [e]
 ·rw [if_neg h]
  refine ⟨z8b _ nd,?_⟩
  unfold dd
  rw [if_neg h]
  by_cases e:k=x
  ·simp [e,h]
  ·simp [e]
theorem zaf:∀ (ls js:List Str),ls.Nodup→js.Nodup→(ls.foldl flp js).Nodup∧∀ k,k ∈ ls.foldl flp js ↔ ((k ∈ js∧k ∉ ls)∨(k ∉ js∧k ∈ ls))
 | [],js,_,nd=>⟨nd,fun k=>by simp⟩
 | x :: ls,js,n1,n2=>by
  have n1':=WD.mp n1
  rw [Qi]
  obtain ⟨h1,h2⟩:=zaf ls (flp js x) n1'.2 (zae n2 x x).1
  refine ⟨h1,fun k=>?_⟩
  rw [h2,(zae n2 x k).2]
  by_cases e:k=x
  ·subst e
   simp [n1'.1]
  ·simp [e]
theorem z4x:∀ {xs:List Tx},xs.Nodup→(xs.map toS).Nodup
 | [],_=>.nil
 | x :: xs,h=>by
  have h':=WD.mp h
  rw [Wr]
  refine WD.mpr ⟨fun z=>?_,z4x h'.2⟩
  obtain ⟨y,hy,e⟩:=Q7.mp z
  exact h'.1 (z3S e ▸ hy)
theorem z74 {xs:List Tx} {x:Tx}:toS x ∈ xs.map toS ↔ x ∈ xs :=
 ⟨fun z=>by obtain ⟨y,hy,e⟩:=Q7.mp z; exact z3S e ▸ hy,fun z=>Q6 z⟩
theorem z6A {α β:Type} {f:α→β}:∀ {l:List α},(l.map f).Nodup→l.Nodup
 | [],_=>.nil
 | x :: l,h=>by
  rw [Wr] at h
  have h':=WD.mp h
  exact WD.mpr ⟨fun z=>h'.1 (Q6 z),z6A h'.2⟩
def symU (xs ys:List Tx):List Tx:=ys.filter (fun t=>!xs.contains t) ++ xs.filter fun t=>!ys.contains t
theorem zaS (xs ys:List Tx) (t:Tx):t ∈ symU xs ys ↔ ((t ∈ ys∧t ∉ xs)∨(t ∉ ys∧t ∈ xs)):=by
 unfold symU
 simp only [List.mem_append,List.mem_filter,Qg,← Jk,QX]
 constructor
 ·rintro (⟨h1,h2⟩ | ⟨h1,h2⟩)
  ·exact .inl ⟨h1,h2⟩
  ·exact .inr ⟨h2,h1⟩
 ·rintro (⟨h1,h2⟩ | ⟨h1,h2⟩)
  ·exact .inl ⟨h1,h2⟩
  ·exact .inr ⟨h2,h1⟩
theorem zcA {xs ys:List Tx} (h1:xs.Nodup) (h2:ys.Nodup):(symU xs ys).Nodup:=by
 unfold symU
 refine JW.mpr ⟨h2.filter _,h1.filter _,fun a ha b hb e=>?_⟩
 subst e
 simp only [List.mem_filter,Qg,← Jk,QX] at ha hb
 exact ha.2 hb.1
theorem z8k {a b:List Tx} (h:a.Perm b):z23 a=z23 b:=z5F ((z2h a).trans h) (z2K a)
def tL:D→Option (List Tx)
 | .lst ds=>z29 ds
 | _=>none
theorem zbW {d:D} {xs:List Tx} (h:tL d=some xs):∃ ds,d = .lst ds∧z29 ds=some xs:=by
 cases d <;> first | exact ⟨_,rfl,h⟩ | cases h
def pSym (xs:List Tx) (y:D):Option S:=match tL y with
 | some ys=>if ys.length≤7∧ndT ys=true then some (.own (.lst ((z23 (symU xs ys)).map .str))) else none
 | none=>none
def z7s (f g:DE):DE:=fun δ=>(f δ).bind fun x δ1=>match tL x.d with
 | none=>.stuck
 | some xs=>if xs.length≤40∧ndT xs=true then (g δ1).bind fun y δ2=>(match pSym xs y.d with | some s=>.ok s δ2 | none=>.stuck) else .stuck
section
variable {X:Cx} {c:Fc} {a b:Expr} {f g:DE} {pp pos p1 p2' p3 p4 p5:Pos}
theorem zcJ (hc:X.calm=true) (hg:Gl X "sorted") (hm:X.mg "sorted" = none) (hg':Gl X "set") (hm':X.mg "set" = none) (ha:SE X c a f) (hb:SE X c b g)
  (h1:W6 [a] X.env=(false,eval a X.env) :: W6 [] X.env:=by rfl) (h2:W6 [b] X.env=(false,eval b X.env) :: W6 [] X.env:=by rfl)
  (h3:W6 [.BinOp (.Call (.Name "set" p1) [a] [] p2') .BitXor (.Call (.Name "set" p3) [b] [] p4) p5] X.env=(false,eval (.BinOp (.Call (.Name "set" p1) [a] [] p2') .BitXor (.Call (.Name "set" p3) [b] [] p4) p5) X.env) :: W6 [] X.env:=by rfl) :
  SE X c (.Call (.Name "sorted" pp) [.BinOp (.Call (.Name "set" p1) [a] [] p2') .BitXor (.Call (.Name "set" p3) [b] [] p4) p5] [] pos) (z7s f g) :=
 PE.weak (z37 (z8K hc) hg hm PyProof.Rows.boot_sorted (z0V (zd9 zdi (z4J (z6W hc) hg' hm' PyProof.Rows.boot_set (z0V ha z1K h1) (by decide) (by decide) h1) (z4J (z6W hc) hg' hm' PyProof.Rows.boot_set (z0V hb z1K h2) (by decide) (by decide) h2)) z1K h3) (by decide) (by decide) h3) fun σ H Q ⟨δ,k,q⟩=>by
  unfold z7s at q
  rw [z03] at q
  refine ⟨δ,k,z00 q fun x δ1 q1 v H1 a1 r1=>?_⟩
  cases ex:tL x.d with
  | none=>rw [ex] at q1; exact q1.elim
  | some xs =>
   rw [ex] at q1
   simp only at q1
   split at q1
   ·rename_i hx
    rw [z03] at q1
    obtain ⟨ds,ed,et⟩:=zbW ex
    have hr:=r1.rep
    rw [ed] at hr
    obtain ⟨l1,vs,ea,hl1,rl1⟩:=(show RepB c σ δ1 H1 v (.lst ds) from .inl hr).lst
    have ev:=z1m et rl1
    have nd0:=z9O hx.2
    have nd:=z4x nd0
    have n4:(xs.map toS).length≤40:=by rw [Ws]; exact hx.1
    have es:(xs.map toS).foldl dd []=xs.map toS:=z7t _ _ (by simpa using nd)
    refine ⟨l1,xs.map toS,by rw [ea],.inl (by rw [ev] at hl1; rw [WH]; exact hl1),by omega,fun p hp=>?_⟩
    rw [es]
    have b1:=Aft.alloc a1.ok hp (setO X p (xs.map toS))
    have np:¬ Own σ δ1 p:=fun z=>by
     obtain ⟨o,e⟩:=a1.ok.othere z
     rw [hp] at e; cases e
    refine ⟨δ1,b1.ok,z00 q1 fun y δ2 q2 u H2 a2 r2=>?_⟩
    unfold pSym at q2
    cases ey:tL y.d with
    | none=>rw [ey] at q2; exact q2.elim
    | some ys =>
     rw [ey] at q2
     simp only at q2
     by_cases hy:ys.length≤7∧ndT ys=true
     ·rw [if_pos hy] at q2
      obtain ⟨ds2,ed2,et2⟩:=zbW ey
      have hr2:=r2.rep
      rw [ed2] at hr2
      obtain ⟨l2,vs2,ea2,hl2,rl2⟩:=(show RepB c σ δ2 H2 u (.lst ds2) from .inl hr2).lst
      have ev2:=z1m et2 rl2
      have ndy0:=z9O hy.2
      have ndy:=z4x ndy0
      have ny:(ys.map toS).length≤7:=by rw [Ws]; exact hy.1
      have esy:(ys.map toS).foldl dd []=ys.map toS:=z7t _ _ (by simpa using ndy)
      refine ⟨l2,ys.map toS,by rw [ea2],.inl (by rw [ev2] at hl2; rw [WH]; exact hl2),by omega,fun p2 hp2=>?_⟩
      rw [esy]
      have b2:=Aft.alloc a2.ok hp2 (setO X p2 (ys.map toS))
      have g1:H2 p=some (setO X p (xs.map toS)):=a2.keep p _ z0k np
      refine ⟨p,p2,xs.map toS,ys.map toS,rfl,rfl,by rw [z0i (z0C g1 hp2)]; exact g1,z0k,ny,by omega,fun p3 ls hp3 pl=>?_⟩
      obtain ⟨f1,f2⟩:=zaf ls (ys.map toS) (pl.nodup_iff.mpr nd) ndy
      generalize ls.foldl flp (ys.map toS)=K at f1 f2 ⊢
      have eK:(K.map fun z:Str=>z.cps.toList).map toS=K:=by
       rw [WH,show (toS ∘ fun z:Str=>z.cps.toList)=id from funext fun z=>(z7I z).symm,List.map_id]
      have pK:(K.map fun z:Str=>z.cps.toList).Perm (symU xs ys):=by
       refine (List.perm_ext_iff_of_nodup ?_ (zcA nd0 ndy0)).mpr fun t=>?_
       ·rw [← eK] at f1
        exact z6A f1
       ·rw [zaS,← z74 (xs:=K.map fun z:Str=>z.cps.toList),eK,f2,pl.mem_iff,z74,z74]
      have b3:=Aft.alloc b2.ok hp3 (setO X p3 K)
      have lK:(K.map fun z:Str=>z.cps.toList).length < 64:=by
       rw [pK.length_eq]
       unfold symU
       rw [Q1]
       have l1:=Jx (fun t=>!xs.contains t) ys
       have l2:=Jx (fun t=>!ys.contains t) xs
       omega
      refine ⟨p3,K.map fun z:Str=>z.cps.toList,rfl,by rw [eK]; exact z0k,lK,fun p4 hp4=>?_⟩
      rw [z8k pK]
      exact q2 _ _ ((((a1.trans b1).trans a2).trans b2).trans (b3.trans (.alloc b3.ok hp4 _))) (RepS.back (RepS.newL b3.ok (z2s _) hp4) ((((a1.trans b1).trans a2).trans b2).trans b3))
     ·rw [if_neg hy] at q2; exact q2.elim
   ·exact q1.elim
end
end DV
namespace L2
open PySem PySem.Spec PyProof.Rows PySem.W DV
def mnI (val:Nat→Tx):Nat→Tx
 | 0=>val 0
 | k + 1=>if val (k + 1) < mnI val k then val (k + 1) else mnI val k
theorem z7W (val:Nat→Tx):∀ k,val (argBest (fun i j=>decide (val i < val j)) k)=mnI val k∧argBest (fun i j=>decide (val i < val j)) k≤k
 | 0=>⟨rfl,Wd _⟩
 | k + 1=>by
  obtain ⟨h1,h2⟩:=z7W val k
  unfold argBest mnI
  rw [← h1]
  by_cases c:val (k + 1) < val (argBest (fun i j=>decide (val i < val j)) k)
  ·rw [if_pos (by simpa using c),if_pos c]
   exact ⟨rfl,Wd _⟩
  ·rw [if_neg (by simpa using c),if_neg c]
   exact ⟨rfl,by omega⟩
theorem zbQ {prog:Wj} {w:Wp} {A:Wn} {P:Nat→Value→Prop} (val:Nat→Tx) (hval:∀ i v,P i v→∃ t,v = .str (toS (val i)) t):CmpOf prog w A .Lt P (fun i j=>decide (val i < val j)):=fun i j vi vj s Q E hi hj h=>by
 obtain ⟨t,rfl⟩:=hval i vi hi
 obtain ⟨u,rfl⟩:=hval j vj hj
 have:=PyProof.Rows.lt_str (prog:=prog) (w:=w) (A:=A) (E:=E) (s:=s) (x:=toS (val i)) (y:=toS (val j)) (t:=t) (u:=u) (Q:=Q) (by rw [z3h,z3h]; exact h)
 exact this
section
variable {X:Cx}
theorem zaE (hc:X.calm=true):CallR X (.builtin "min") (fun xs H Q=>∃ (a:Addr) (ts:List Tx),xs=[.ref a]∧SqL X.K H a (ts.map fun z=>V.str (toS z))∧ts≠[]∧Q (.str (toS (mnI (fun i=>ts.getD i []) (ts.length - 1)))) H):=by
 intro pins s σ H xs us Q I r h
 obtain ⟨a,ts,rfl,hq,hne,q⟩:=h
 obtain ⟨u,rfl,ru⟩:=z3R r
 cases ru
 obtain ⟨its,r',p,_⟩:=I.list hq
 have hl:=r'.length
 rw [Ws] at hl
 have h0:0 < its.length:=by rw [← hl]; exact List.length_pos_iff.mpr hne
 have hlt:a < s.heap.objs.size:=by obtain ⟨_,e,_⟩:=p.isList; exact We e
 have hval:∀ (i:Nat) (v:Value),its.toArray[i]? = some v→∃ t,v = .str (toS (ts.getD i [])) t:=fun i v e=>by
  have hi:i < its.length:=(Wb.mp (by simpa using e)).1
  have hv:(ts.map fun z=>V.str (toS z))[i]? = some (V.str (toS (ts[i]'(by omega)))):=by simp [show i < ts.length by omega]
  have rv:=Vals.at2 r' hv (by simpa using e)
  obtain ⟨t,et⟩:=(show ∃ t,v=Value.str (toS (ts[i]'(by omega))) t from rv)
  exact ⟨t,by rw [et]; simp [show i < ts.length by omega]⟩
 refine call_min_walk (JV p.isList ?_)
 refine ⟨_,_,_,_,_,_,_,rfl,Walks.list (A:=X.A.in1) (I.ok.hd hc) _ a (Wo hlt) its.toArray,⟨⟨_,Wi _ rfl,rfl,rfl⟩,p.isList.push _⟩,fun b hb=>?_,by simpa using h0,zbQ (fun i=>ts.getD i []) hval,fun v h' tk hP hk=>?_⟩
 ·show b < (s.heap.push _).objs.size
  rw [QP]
  rcases Wg.mp hb with rfl | hb
  ·exact JZ _
  ·rw [QV.mp hb]; exact Qf hlt
 ·obtain ⟨e1,e2⟩:=z7W (fun i=>ts.getD i []) (its.toArray.size - 1)
  obtain ⟨t,et⟩:=hval _ _ hP
  refine ⟨.str (toS (mnI (fun i=>ts.getD i []) (ts.length - 1))),H,I.kept (old_kept hk),⟨t,?_⟩,q⟩
  rw [et]
  have e3:its.toArray.size - 1=ts.length - 1:=by simp; omega
  rw [e3] at e1
  congr 2
  rw [← e1]
  simp [hl]
end
end L2
namespace DV
open PySem PySem.Spec PyProof.Rows L2
def zbd:D→Option S
 | .lst ds=>match z29 ds with
  | some ts=>if ts=[] then none else some (.pure (.str (mnI (fun i=>ts.getD i []) (ts.length - 1))))
  | none=>none
 | _=>none
section
variable {X:Cx} {c:Fc} {e:Expr} {fb:BE} {pp pos:Pos}
theorem zcK (hc:X.calm=true) (hg:Gl X "min") (hm:X.mg "min" = none) (he:SB X c e fb) (hs:W6 [e] X.env=(false,eval e X.env) :: W6 [] X.env:=by rfl):SE X c (.Call (.Name "min" pp) [e] [] pos) (eC1 zbd fb) :=
 z5L (r:=fun v H Q=>∃ (a:Addr) (ts:List Tx),v = .ref a∧SqL X.K H a (ts.map fun z=>V.str (toS z))∧ts≠[]∧Q (.str (toS (mnI (fun i=>ts.getD i []) (ts.length - 1)))) H) (zaE hc) (fun v H Q ⟨a,ts,e,h⟩=>⟨a,ts,by rw [e],h⟩) (fun c σ δ H x d s Q k rx hp q=>by
  cases d with
  | lst ds =>
   simp only [zbd] at hp
   cases e:z29 ds with
   | none=>rw [e] at hp; cases hp
   | some ts =>
    rw [e] at hp
    simp only at hp
    split at hp
    ·cases hp
    ·rename_i hz
     cases hp
     obtain ⟨a,vs,ea,ha,ra⟩:=rx.lst
     have:=z1m e ra
     subst this
     exact ⟨a,ts,ea,.inl ha,hz,q _ H (.refl k) (.str _)⟩
  | _=>cases hp) hg hm PyProof.Rows.boot_min he (by decide) (by decide) hs
end
open PySem (sizeLine)
section
variable {α β:Type}
@[simp] theorem z16 (a:α) (δ:Dl) (f:α→Dl→Rs β):(Rs.ok a δ).bind f=f a δ:=id rfl
@[simp] theorem zbF (f:α→Dl→Rs β):(Rs.stuck:Rs α).bind f = .stuck:=id rfl
@[simp] theorem zft (d:D):(S.pure d).d=d:=id rfl
@[simp] theorem ev_d2 (d:D):(S.own d).d=d:=id rfl
end
section
variable (δ:Dl) (i:Nat) (d e:D) (f g:DE) (fb:BE) (t u:DT) (p:D→D→Option S)
@[simp] theorem zfs:eD d δ = .ok (.pure d) δ:=id rfl
@[simp] theorem zck:bOf f δ=(f δ).bind fun r δ'=>.ok r.d δ':=id rfl
@[simp] theorem zfr:eOp p f fb δ=(f δ).bind fun x δ1=>(fb δ1).bind fun y δ2=>p2 p x.d y δ2:=id rfl
@[simp] theorem ev_dAnd:dAnd t u δ=(t δ).bind fun b δ1=>if b then u δ1 else .ok false δ1:=id rfl
@[simp] theorem ev_dOr:dOr t u δ=(t δ).bind fun b δ1=>if b then .ok true δ1 else u δ1:=id rfl
@[simp] theorem ev_dNot:dNot t δ=(t δ).bind fun b δ1=>.ok (!b) δ1:=id rfl
@[simp] theorem ev_eIf:eIf t f g δ=(t δ).bind fun b δ1=>if b then f δ1 else g δ1:=id rfl
@[simp] theorem ev_dNext:z10 δ = .ok .next δ:=id rfl
@[simp] theorem ev_dYes:dYes δ = .ok true δ:=id rfl
@[simp] theorem ev_dDrop:z45 f δ=(f δ).bind fun _ δ1=>.ok .next δ1:=id rfl
@[simp] theorem ev_dRet:dRet f δ=(f δ).bind fun r δ1=>.ok (.ret r) δ1:=id rfl
@[simp] theorem ev_dIf (a b:DS):dIf t a b δ=(t δ).bind fun x δ1=>if x then a δ1 else b δ1:=id rfl
@[simp] theorem zal (it:DI) (gg:DG) (b:DS):dFor it gg b δ=(it δ).bind fun ds δ1=>forL gg b ds δ1:=id rfl
@[simp] theorem ev_eTup (a:DA):eTup a δ=(a δ).bind fun ds δ'=>.ok (.pure (.tup ds)) δ':=id rfl
@[simp] theorem ev_eLst (a:DA):eLst a δ=(a δ).bind fun ds δ'=>.ok (.own (.lst ds)) δ':=id rfl
@[simp] theorem ev_eLstC (ds:List D):zbG ds δ = .ok (.own (.lst ds)) δ:=id rfl
@[simp] theorem ev_aNil:aNil δ = .ok [] δ:=id rfl
@[simp] theorem ev_aCons (a:DA):z04 f a δ=(f δ).bind fun x δ1=>(a δ1).bind fun xs δ2=>.ok (x.d :: xs) δ2:=id rfl
@[simp] theorem ev_eC1 (q:D→Option S):eC1 q fb δ=(fb δ).bind fun x δ1=>p1 q x δ1:=id rfl
@[simp] theorem ev_eMax:eMax f g δ=(f δ).bind fun x δ1=>(g δ1).bind fun y δ2=>p2 pMax x.d y.d δ2:=id rfl
@[simp] theorem ev_eSl (fl fh:DOp):eSl f fl fh δ=(f δ).bind fun x δ1=>(fl δ1).bind fun l δ2=>(fh δ2).bind fun h δ3=>p1 (pSl l h) x.d δ3:=id rfl
@[simp] theorem ev_oNone:z4h δ = .ok none δ:=id rfl
@[simp] theorem zbE (cs:List Nat) (it:DI) (gg:DG) (el:DE):z0N cs it gg t el δ=(it δ).bind fun ds δ1=>if cs.any (z0J δ1) then .stuck else
 (z1f cs gg t el ds (clrD cs δ1) []).bind fun acc δ2=>.ok (.own (.lst acc)) (z1r cs δ1 δ2):=id rfl
@[simp] theorem ev_gNm (np:List Nat) (r:S):gNm np i r δ=if np.contains i then none else some (δ.set i (some r)):=id rfl
@[simp] theorem zdI (gg:DG) (b:DS):forL gg b [] δ = .ok .next δ:=id rfl
end
section
variable (δ:Dl) (i:Nat) (d e:D) (f g:DE) (fb:BE) (p:D→D→Option S) (s:S)
@[simp] theorem zfq (x y:D):p2 p x y δ=match p x y with | some s=>.ok s δ | none=>.stuck:=id rfl
@[simp] theorem ev_p1 (q:D→Option S) (x:D):p1 q x δ=match q x with | some s=>.ok s δ | none=>.stuck:=id rfl
@[simp] theorem ev_dSeq (a b:DS):dSeq a b δ=(a δ).bind fun fl δ1=>match fl with | .next=>b δ1 | .ret r=>.ok (.ret r) δ1 | .brk=>.ok .brk δ1 | .cont=>.ok .cont δ1:=id rfl
@[simp] theorem zdQ {α β:Type} (c:Prop) [Decidable c] (x y:Rs α) (k:α→Dl→Rs β):(if c then x else y).bind k=if c then x.bind k else y.bind k:=by split <;> rfl
end
theorem z0K:W8=16777216:=rfl
theorem z1x (xs:List α) (i:Nat):atI xs (i:Int)=xs[i]?:=by
 unfold atI ixN
 by_cases h:i < xs.length
 ·rw [if_pos (by omega),if_pos (by omega)]
  simp
 ·rw [if_pos (by omega),if_neg (by omega)]
  simp [WS (Nat.le_of_not_lt h)]
theorem z7y (xs:List α):atI xs 2=xs[2]?:=z1x xs 2
theorem z27 (xs:List α):atI xs 0=xs[0]?:=z1x xs 0
theorem z7z (xs:List α):atI xs 1=xs[1]?:=z1x xs 1
theorem z3O (I:Dl→Prop) (R:D→D→Prop) :
  ∀ (ds:List D) (δ:Dl) (acc:List D),I δ→acc.length + ds.length≤W8 →
   (∀ d ∈ ds,∀ δ,I δ→∃ δ1 δ2 x δ3,g (.pure d) δ=some δ1∧t δ1 = .ok true δ2∧el δ2 = .ok x δ3∧I (clrD cs δ3)∧R d x.d) →
   ∃ xs δ',z1f cs g t el ds δ acc = .ok (acc ++ xs) δ'∧I δ'∧xs.length=ds.length∧∀ (i:Nat) d x,ds[i]? = some d→xs[i]? = some x→R d x
 | [],δ,acc,h,_,_=>⟨[],δ,by simp [z1f],h,rfl,fun i d x e=>by simp at e⟩
 | d :: r,δ,acc,h,hl,hs=>by
  obtain ⟨δ1,δ2,x,δ3,e1,e2,e3,h3,hr⟩:=hs d Wm δ h
  have hl':acc.length < W8:=by simp at hl; omega
  obtain ⟨xs,δ',e4,h4,hn,hf⟩:=z3O (g:=g) (t:=t) (el:=el) I R r (clrD cs δ3) (acc ++ [x.d]) h3 (by simp at hl ⊢; omega) (fun d hd=>hs d (Wc _ hd))
  refine ⟨x.d :: xs,δ',?_,h4,by simp [hn],fun i d' x' f1 f2=>?_⟩
  ·unfold z1f
   rw [e1]
   simp only [e2,z16,if_true,e3,if_pos hl',e4]
   simp
  ·cases i with
   | zero=>simp at f1 f2; subst f1 f2; exact hr
   | succ i=>exact hf i d' x' (by simpa using f1) (by simpa using f2)
theorem zaz (F:D→D) (δ:Dl) :
  ∀ (ds:List D) (acc:List D),acc.length + ds.length≤W8 →
   (∀ d ∈ ds,∃ δ1 δ2 x δ3,g (.pure d) δ=some δ1∧t δ1 = .ok true δ2∧el δ2 = .ok x δ3∧clrD cs δ3=δ∧x.d=F d) →
   z1f cs g t el ds δ acc = .ok (acc ++ ds.map F) δ:=by
 intro ds acc hl hs
 obtain ⟨xs,δ',e,h,hn,hf⟩:=z3O (cs:=cs) (g:=g) (t:=t) (el:=el) (fun δ'=>δ'=δ) (fun d x=>x=F d) ds δ acc rfl hl (fun d hd δ' h=>by
  subst h
  obtain ⟨δ1,δ2,x,δ3,a,b,c,d,e⟩:=hs d hd
  exact ⟨δ1,δ2,x,δ3,a,b,c,d,e⟩)
 subst h
 rw [e]
 congr 2
 apply List.ext_getElem?
 intro i
 by_cases hi:i < ds.length
 ·have:=hf i ds[i] (xs[i]'(by omega)) (by simp [hi]) (by simp [hn,hi])
  simp [hn,hi,this]
 ·rw [WS (by omega),WS (by simp; omega)]
theorem z1c (I:Nat→Dl→Prop) :
  ∀ (ds:List D) (n:Nat) (δ:Dl),I n δ →
   (∀ (i:Nat) d δ,ds[i]? = some d→I (n + i) δ→∃ δ1 δ2,g (.pure d) δ=some δ1∧b δ1 = .ok .next δ2∧I (n + i + 1) δ2) →
   ∃ δ',forL g b ds δ = .ok .next δ'∧I (n + ds.length) δ'
 | [],n,δ,h,_=>⟨δ,rfl,h⟩
 | d :: r,n,δ,h,hs=>by
  obtain ⟨δ1,δ2,e1,e2,h2⟩:=hs 0 d δ rfl h
  obtain ⟨δ',e3,h3⟩:=z1c (g:=g) (b:=b) I r (n + 1) δ2 h2 (fun i d' δ' e hi=>by
   have:=hs (i + 1) d' δ' (by simpa using e) (by rw [show n + (i + 1)=n + 1 + i by omega]; exact hi)
   rw [show n + (i + 1) + 1=n + 1 + i + 1 by omega] at this
   exact this)
  refine ⟨δ',?_,by rw [WB,show n + (r.length + 1)=n + 1 + r.length by omega]; exact h3⟩
  unfold forL
  rw [e1]
  simp only [e2,z16,e3]
theorem z3N (xs:List Tx):z29 (xs.map .str)=some xs:=by
 induction xs with
 | nil=>rfl
 | cons x r ih=>simp [z29,ih]
theorem z2W:∀ ts:List Tx,z4X [] ts=ts.flatten
 | []=>rfl
 | [x]=>by simp [z4X]
 | x :: y :: r=>by rw [z4X,z2W (y :: r)]; simp
theorem z8B (xs:List Nat):z2R (xs.map fun n=>[n])=xs.length:=by
 unfold z2R
 induction xs with
 | nil=>rfl
 | cons x r ih=>simp at ih ⊢; omega
theorem zbD (xs:List Nat):(xs.map fun n=>[n]).flatten=xs:=by
 induction xs with
 | nil=>rfl
 | cons x r ih=>simp [ih]
theorem z88 (xs:List Nat) (h:xs.length≤16777216):z1q [] (.lst (xs.map fun n=>.str [n]))=some (.pure (.str xs)):=by
 have e:(xs.map fun n=>D.str [n])=(xs.map fun n=>[n]).map D.str:=by simp
 unfold z1q
 simp only [e,z3N,z8B,z2W,zbD]
 rw [if_pos (by simpa using h)]
theorem zak (r:Tx) (c:Nat) (h:c < r.length) (hl:r.length≤64):pIx (.str r) (.int c)=some (.pure (.str [r.getD c 0])):=by
 unfold pIx
 have:W8=16777216:=rfl
 simp only
 rw [if_pos (by omega),z1x]
 simp [h]
abbrev flD (fl:List Tx):D:=.tup (fl.map .str)
structure Rect (w:Nat) (fl:List Tx):Prop where
 h0:0 < fl.length
 h1:fl.length≤64
 w0:0 < w
 w1:w≤64
 all:∀ r ∈ fl,r.length=w
def turn (w:Nat) (fl:List Tx):List Tx:=(Wz w).map fun c=>fl.map fun r=>r.getD c 0
def back (fl:List Tx):List Tx:=fl.map List.reverse
theorem zdD (n:Nat) (fl:List Tx):flat (n + 1) (flD fl)=true:=by
 unfold flat
 induction fl with
 | nil=>rfl
 | cons x r ih=>simp [z3t,flat] at ih ⊢; exact ih
def rng (r:S) (δ1:Dl):Rs (List D):=match r with
 | .pure (.int j)=>if z46 j then .ok (z0z 0 j.toNat) δ1 else .stuck
 | _=>.stuck
@[simp] theorem z6Q (f:DE) (δ:Dl):z0B f δ=(f δ).bind fun r δ1=>rng r δ1:=id rfl
theorem z94 (w:Nat) (hw:w≤1000000):z46 (w:Int)=true:=by
 have h1 : -(4611686018427387904:Int)≤(w:Int):=by omega
 have h2:(w:Int) < 4611686018427387904:=by omega
 unfold z46
 rw [Wh]
 exact ⟨decide_eq_true h1,decide_eq_true h2⟩
theorem zeb (j:Int) (hs:z46 j=true) (δ:Dl):rng (.pure (.int j)) δ = .ok (z0z 0 j.toNat) δ:=by unfold rng; simp only [hs,if_true]
theorem z48 (w:Nat) (hw:w≤1000000) (δ:Dl):rng (.pure (.int w)) δ = .ok (z0z 0 w) δ:=by
 have:=zeb (w:Int) (z94 w hw) δ
 rwa [Jb] at this
theorem z1o (h:(z0z 0 n)[i]? = some d):i < n∧d = .int (i:Int):=by
 unfold z0z at h
 rw [WK] at h
 by_cases hi:i < n
 ·rw [List.getElem?_range hi] at h
  simp at h
  exact ⟨hi,h.symm⟩
 ·rw [WS (by simpa using hi)] at h
  cases h
theorem z2V (h:d ∈ z0z 0 n):∃ i:Nat,i < n∧d = .int (i:Int):=by
 obtain ⟨i,hi⟩:=List.getElem?_of_mem h
 exact ⟨i,z1o hi⟩
@[simp] theorem z49 (lo:Int) (n:Nat):(z0z lo n).length=n:=by simp [z0z]
def insN (x:Nat):List Nat→List Nat
 | []=>[x]
 | y :: r=>if y < x then y :: insN x r else x :: y :: r
def z1g:List Nat→List Nat
 | []=>[]
 | x :: r=>insN x (z1g r)
theorem lt1 (a b:Nat):(([a]:Tx) < [b]) ↔ a < b:=by
 constructor
 ·intro h
  cases h with
  | cons h=>cases h
  | rel h=>exact h
 ·intro h; exact List.Lex.rel h
theorem zff (x:Nat):∀ xs:List Nat,insT [x] (xs.map fun n=>[n])=(insN x xs).map fun n=>[n]
 | []=>rfl
 | y :: r=>by
  simp only [Wr,insT,insN]
  by_cases h:y < x
  ·rw [if_pos ((lt1 y x).mpr h),if_pos h,zff x r]; rfl
  ·rw [if_neg fun z=>h ((lt1 y x).mp z),if_neg h]; rfl
theorem z91:∀ xs:List Nat,z23 (xs.map fun n=>[n])=(z1g xs).map fun n=>[n]
 | []=>rfl
 | x :: r=>by rw [Wr,z23,z91 r,zff]; rfl
theorem insN_mem:∀ {xs:List Nat},y ∈ insN x xs ↔ y=x∨y ∈ xs
 | []=>by simp [insN]
 | z :: r=>by
  unfold insN
  split
  ·simp [insN_mem (xs:=r)]; constructor <;> (rintro (h | h | h) <;> simp [h])
  ·simp
theorem sortN_mem:∀ {xs:List Nat},y ∈ z1g xs ↔ y ∈ xs
 | []=>by simp [z1g]
 | x :: r=>by rw [z1g,insN_mem,sortN_mem (xs:=r)]; simp
theorem z82 (x:Nat):∀ xs:List Nat,(insN x xs).length=xs.length + 1
 | []=>rfl
 | y :: r=>by unfold insN; split <;> simp [z82 x r]
theorem z3C:∀ xs:List Nat,(z1g xs).length=xs.length
 | []=>rfl
 | x :: r=>by rw [z1g,z82,z3C r]; rfl
theorem za2:∀ {xs:List Nat},xs.Pairwise (· < ·)→x ∉ xs→(insN x xs).Pairwise (· < ·)
 | [],_,_=>by simp [insN]
 | y :: r,h,hx=>by
  rw [Qo] at h
  simp at hx
  unfold insN
  split
  ·rename_i hl
   rw [Qo]
   refine ⟨fun z hz=>?_,za2 h.2 hx.2⟩
   rcases insN_mem.mp hz with rfl | hz
   ·exact hl
   ·exact h.1 z hz
  ·rename_i hl
   rw [Qo]
   refine ⟨fun z hz=>?_,Qo.mpr h⟩
   rcases Wg.mp hz with rfl | hz
   ·omega
   ·have:=h.1 z hz; omega
theorem z3B:∀ {xs:List Nat},xs.Nodup→(z1g xs).Pairwise (· < ·)
 | [],_=>by simp [z1g]
 | x :: r,h=>by
  rw [List.nodup_cons] at h
  exact za2 (z3B h.2) fun z=>h.1 (sortN_mem.mp z)
theorem z78 {P:Nat→Prop}:∀ {xs:List D},(∀ x ∈ xs,∃ n,P n∧x = .str [n])→∃ row:List Nat,xs=row.map (fun n=>.str [n])∧∀ n ∈ row,P n
 | [],_=>⟨[],rfl,by simp⟩
 | x :: r,h=>by
  obtain ⟨n,hn,rfl⟩:=h x Wm
  obtain ⟨row,rfl,hr⟩:=z78 (xs:=r) fun y hy=>h y (Wc _ hy)
  exact ⟨n :: row,rfl,by simpa using ⟨hn,hr⟩⟩
theorem z9g {R:D→D→Prop} {ds xs:List D} {Q:D→Prop} (hn:xs.length=ds.length) (hf:∀ (i:Nat) d x,ds[i]? = some d→xs[i]? = some x→R d x) (hq:∀ d x,d ∈ ds→R d x→Q x):∀ x ∈ xs,Q x:=fun x hx=>by
 obtain ⟨i,hi⟩:=List.getElem?_of_mem hx
 have h1:=(Wb.mp hi).1
 have h2:ds[i]? = some (ds[i]'(by omega)):=by simp [show i < ds.length by omega]
 exact hq _ x (Jj _) (hf i _ x h2 hi)
theorem z9d (w:Nat) (hw:w≤100000) (δ:Dl):rng (.pure (.int (1 + (w:Int)))) δ = .ok (z0z 0 (1 + w)) δ:=by
 have:=z48 (1 + w) (by omega) δ
 rwa [show (((1 + w:Nat):Int))=1 + (w:Int) by omega] at this
abbrev blD (b:Nat×List Tx):D:=.tup [.str [b.1],flD b.2]
abbrev ruD (h w:Nat) (bs:List (Nat×List Tx)):D:=.tup [.int h,.int w,.tup (bs.map blD)]
structure Rul (h w:Nat) (bs:List (Nat×List Tx)):Prop where
 h0:0 < h
 h1:h≤4
 w0:0 < w
 w1:w≤4
 hw:2 < h + w
 n0:0 < bs.length
 n1:bs.length≤26
 up:(bs.map (·.1)).Pairwise (· < ·)
 let':∀ b ∈ bs,97≤b.1∧b.1≤122
 blk:∀ b ∈ bs,b.2.length=h∧∀ r ∈ b.2,r.length=w∧∀ n ∈ r,n ∈ bs.map (·.1)
theorem z1p (f F:A→D) (δ:Dl):∀ (as:List A) (acc:List D),acc.length + as.length≤W8 →
  (∀ a ∈ as,∃ δ1 δ2 x δ3,g (.pure (f a)) δ=some δ1∧t δ1 = .ok true δ2∧el δ2 = .ok x δ3∧clrD cs δ3=δ∧x.d=F a)→z1f cs g t el (as.map f) δ acc = .ok (acc ++ as.map F) δ
 | [],acc,_,_=>by simp [z1f]
 | a :: r,acc,hl,hs=>by
  obtain ⟨δ1,δ2,x,δ3,e1,e2,e3,e4,e5⟩:=hs a Wm
  have hl':acc.length < W8:=by simp at hl; omega
  have ih:=z1p (cs:=cs) (g:=g) (t:=t) (el:=el) f F δ r (acc ++ [x.d]) (by simp at hl ⊢; omega) (fun a ha=>hs a (Wc _ ha))
  rw [Wr]
  unfold z1f
  rw [e1]
  rw [e5] at ih
  simp only [e2,z16,if_true,e3,if_pos hl',e4,e5,ih]
  simp
end DV
namespace K06
open PySem.W (nsIn keepIn codeIn findIn mroIn kitOne mg_of)
open PySem PySem.Spec PyProof.Rows L2 DV
def top (i:Nat):Stmt:=PySem.Challenge.pw_tilegrow_k06_rules_joined.main.body.getD i (.Pass ⟨0,0,0,0⟩)
abbrev z2c:Stmt:=top 23
abbrev z2q:Stmt:=top 25
abbrev z3k:Stmt:=top 24
abbrev z3m:Stmt:=top 26
abbrev z1Q:Stmt:=top 29
abbrev z3j:Stmt:=top 28
abbrev z2a:Stmt:=top 30
abbrev z1R:Stmt:=top 34
abbrev z3l:Stmt:=top 32
abbrev z3U:Stmt:=top 35
abbrev z2M:Stmt:=top 20
abbrev z1P:Stmt:=top 15
abbrev z1F:Stmt:=top 14
abbrev z2O:Stmt:=top 16
abbrev z2N:Stmt:=top 17
abbrev z2o:Stmt:=top 18
abbrev z2p:Stmt:=top 19
abbrev z2n:Stmt:=top 21
abbrev z2b:Stmt:=top 31
abbrev z2P:Stmt:=top 27
abbrev z3i:Stmt:=top 36
abbrev z5N:Stmt:=top 37
abbrev si_f:Stmt:=(zaA (top 7)).getD 0 (.Pass ⟨0,0,0,0⟩)
theorem sci_f:FnScope ["self","tile"] ["self","tile"] (z02 si_f):=⟨rfl,rfl,rfl,by decide +kernel,rfl,by decide +kernel,by decide +kernel⟩
abbrev si_i:Stmt:=(zaA (top 10)).getD 0 (.Pass ⟨0,0,0,0⟩)
theorem sci_i:FnScope ["self","many","most"] ["self","many","most"] (z02 si_i):=⟨rfl,rfl,rfl,by decide +kernel,rfl,by decide +kernel,by decide +kernel⟩
abbrev ys:List Tx:=[[78,111,84,105,108,101],[84,111,111,71,114,101,97,116]]
def InjC (ce:Tx→Nat):Prop:=∀ x ∈ ys,∀ y ∈ ys,ce x=ce y→x=y
section
variable (ce:Tx→Nat)
structure Txt (K:W2) (mg:Str→Option Value):Prop where
 z_ValueError:mg "ValueError" = none
 z_bool:mg "bool" = none
 z_dict:mg "dict" = none
 z_int:mg "int" = none
 z_isinstance:mg "isinstance" = none
 z_len:mg "len" = none
 z_max:mg "max" = none
 z_min:mg "min" = none
 z_range:mg "range" = none
 z_set:mg "set" = none
 z_sorted:mg "sorted" = none
 z_tuple:mg "tuple" = none
 ty_bool:TyK K "bool"
 ty_int:TyK K "int"
 g_MOST_SIZE:∃ t,mg "MOST_SIZE" = some (.int 4 t)
 g_MOST_TILES:∃ t,mg "MOST_TILES" = some (.int 64 t)
 c_j:mg "FloorError" = some (.ref (ce [70,108,111,111,114,69,114,114,111,114]))
 c_a:mg "NoFloor" = some (.ref (ce [78,111,70,108,111,111,114]))
 c_b:mg "NoPlace" = some (.ref (ce [78,111,80,108,97,99,101]))
 c_c:mg "NoNumber" = some (.ref (ce [78,111,78,117,109,98,101,114]))
 c_d:mg "NoRow" = some (.ref (ce [78,111,82,111,119]))
 c_e:mg "Unlike" = some (.ref (ce [85,110,108,105,107,101]))
 c_f:mg "NoTile" = some (.ref (ce [78,111,84,105,108,101]))
 c_g:mg "NoRule" = some (.ref (ce [78,111,82,117,108,101]))
 c_h:mg "NoText" = some (.ref (ce [78,111,84,101,120,116]))
 c_i:mg "TooGreat" = some (.ref (ce [84,111,111,71,114,101,97,116]))
 q_j:ExcC K (ce [70,108,111,111,114,69,114,114,111,114])
 i_a:IsT K ce ys (.ref (ce [78,111,70,108,111,111,114])) (fun z=>z == [78,111,70,108,111,111,114])
 i_b:IsT K ce ys (.ref (ce [78,111,80,108,97,99,101])) (fun z=>z == [78,111,80,108,97,99,101])
 i_c:IsT K ce ys (.ref (ce [78,111,78,117,109,98,101,114])) (fun z=>z == [78,111,78,117,109,98,101,114])
 i_d:IsT K ce ys (.ref (ce [78,111,82,111,119])) (fun z=>z == [78,111,82,111,119])
 i_e:IsT K ce ys (.ref (ce [85,110,108,105,107,101])) (fun z=>z == [85,110,108,105,107,101])
 i_f:IsT K ce ys (.ref (ce [78,111,84,105,108,101])) (fun z=>z == [78,111,84,105,108,101])
 i_g:IsT K ce ys (.ref (ce [78,111,82,117,108,101])) (fun z=>z == [78,111,82,117,108,101])
 i_h:IsT K ce ys (.ref (ce [78,111,84,101,120,116])) (fun z=>z == [78,111,84,101,120,116])
 i_i:IsT K ce ys (.ref (ce [84,111,111,71,114,101,97,116])) (fun z=>z == [84,111,111,71,114,101,97,116])
 at_many:AtT K ce ys "many"
 at_most:AtT K ce ys "most"
 at_tile:AtT K ce ys "tile"
 i_ValueError:IsT K ce ys (.type "ValueError") (fun _=>true)
 m_j:∀ y ∈ ys,mg (toS y)=some (.ref (ce y))∧mroIn K (ce y) (.ref (ce [70,108,111,111,114,69,114,114,111,114]))=some true
end
def z2f:DS:=(dSeq (dIf (dTr (eOpF pLt 1 (bOf (eC1 pLen (bVar 0))))) (dRet (eOpF pIx 0 (bVar 1))) z10) (dRet (eD (.int 0))))
def z0Y:DF:=gOf [] 2 z2f
theorem z3L:z1J z0Y:=z0u
theorem z4F:FnScope ["script","k"] ["script","k"] (z02 z2c):=⟨rfl,rfl,rfl,by decide +kernel,rfl,by decide +kernel,by decide +kernel⟩
theorem z4P {K:W2} (F:Fun K "_law_cell_at" "_law_cell_at" z2c f fd) (hm:mg "_law_cell_at" = some (.ref f)) (hb:Binds K fd ["script","k"] []) (T:Txt ce K mg):KFn P w K mg base 1 "_law_cell_at" 2 z0Y :=
 z1B (np:=[]) (fb:=z2f) F hm hb z4F (fun c cdv A outer s H E hr hnp=>by
  have hq:=z2l hr
  refine (z06 ?_ ?_)
  ·refine (z2g ?_ ?_ ?_)
   ·exact (z1N zeQ o2_lt (pv 1) (z0c (z47 rfl T.z_len (z0h (pv 0)) (by rfl))) (z19 _))
   ·refine (z0g ?_)
    refine (z0I ?_)
    exact (z0s z0p z0M (pv 0) (z0h (pv 1)) (fun _ _=>rfl))
   ·exact z1l
  refine (z0g ?_)
  refine (z0I ?_)
  exact z08) fun ss y h=>z0W h
def z2F:DS:=(dSeq (dAsg (eMax (eVar 0) (eOp pSub (eD (.int 0)) (bVar 0))) (gNm [] 1)) (dRet (eLst (z04 (eVar 1) (z04 (eC1 pInt (bOf (eOpF pGe 1 (bOf (eOp pPow (eD (.int 10)) (bOf (eD (.int 18)))))))) (z04 (eOpF pMod 1 (bOf (eD (.int 1000003)))) aNil))))))
def z0S:DF:=gOf [] 2 z2F
theorem z43:z1J z0S:=z0u
theorem sc__law_pen_of:FnScope ["cell","left"] ["cell"] (z02 z2q):=⟨rfl,rfl,rfl,by decide +kernel,rfl,by decide +kernel,by decide +kernel⟩
theorem z5i {K:W2} (F:Fun K "_law_pen_of" "_law_pen_of" z2q f fd) (hm:mg "_law_pen_of" = some (.ref f)) (hb:Binds K fd ["cell"] []) (T:Txt ce K mg):KFn P w K mg base 1 "_law_pen_of" 1 z0S :=
 z1B (np:=[]) (fb:=z2F) F hm hb sc__law_pen_of (fun c cdv A outer s H E hr hnp=>by
  have hq:=z2l hr
  refine (z06 ?_ ?_)
  ·exact (@z0x _ _ _ _ _ _ ([]) (1) _ hnp sc__law_pen_of.nd rfl (Or.inl rfl) (ze7 rfl rfl T.z_max (z07 (pv 0)) (z1t zeO zeT z08 (z0h (pv 0))) (by rfl) (by rfl) (by rfl)) rfl (Or.inl rfl))
  refine (z0g ?_)
  refine (z0I ?_)
  exact (z2k (z01 (z07 (pv 1)) (z01 (zcM rfl T.z_int (z0c (zcN zeR z3H (pv 1) (z0c (z1t zeP zeU z08 (z0c z08))) (z19 _))) (by rfl)) (z01 (z3c z4M z4Q (pv 1) (z0c z08)) z0y (by rfl)) (by rfl)) (by rfl)) (by decide))) fun ss y h=>z0W h
def z3y:DS:=(dSeq (dAsg (eOp pMod (eOpF pAdd 0 (bOf (eD (.int 7919)))) (bOf (eD (.int 2147483647)))) (gNm [] 0)) (dRet (eOp pMod (eOp pAdd (eOp pAdd (eOpF z1S 0 (bVar 0)) (bOf (eOp z1S (eD (.int 48271)) (bVar 0)))) (bOf (eD (.int 12345)))) (bOf (eD (.int 2147483629))))))
def z1k:DF:=gOf [] 1 z3y
theorem z2T:z1J z1k:=z0u
theorem sc__law_next:FnScope ["seed"] ["seed"] (z02 z3k):=⟨rfl,rfl,rfl,by decide +kernel,rfl,by decide +kernel,by decide +kernel⟩
theorem z6t {K:W2} (F:Fun K "_law_next" "_law_next" z3k f fd) (hm:mg "_law_next" = some (.ref f)) (hb:Binds K fd ["seed"] []) (T:Txt ce K mg):KFn P w K mg base 1 "_law_next" 1 z1k :=
 z1B (np:=[]) (fb:=z3y) F hm hb sc__law_next (fun c cdv A outer s H E hr hnp=>by
  have hq:=z2l hr
  refine (z06 ?_ ?_)
  ·exact (@z0x _ _ _ _ _ _ ([]) (0) _ hnp sc__law_next.nd rfl (Or.inl rfl) (z1t z4M z4Q (z3c z1j z1T (pv 0) (z0c z08)) (z0c z08)) rfl (Or.inl rfl))
  refine (z0g ?_)
  refine (z0I ?_)
  exact (z1t z4M z4Q (z1t z1j z1T (z1t z1j z1T (z3c z1G z1H (pv 0) (z0h (pv 0))) (z0c (z1t z1G z1H z08 (z0h (pv 0))))) (z0c z08)) (z0c z08))) fun ss y h=>z0W h
def z3A:DS:=(dSeq (dIf (dTr (eOp pEq (eOpF pIx 0 (bOf (eD (.int 1)))) (bOf (eD (.int 1))))) (dSeq (dAsg (eOp pMod (eOpF pIx 0 (bOf (eD (.int 0)))) (bVar 1)) (gNm [0] 2)) (dSeq (z8E 0 (eD (.int 0)) (eOp pDiv (eOpF pIx 0 (bOf (eD (.int 0)))) (bVar 1))) (dRet (eVar 2)))) z10) (dSeq (z8E 0 (eD (.int 2)) (z05 z1k [.val (eOp pAdd (z05 z1k [.val (eOpF pIx 0 (bOf (eD (.int 2))))]) (bOf (eD (.int 7))))])) (dRet (eOp pMod (eOp pDiv (eOpF pIx 0 (bOf (eD (.int 2)))) (bOf (eD (.int 64)))) (bVar 1)))))
def z0a:DF:=gOf [0] 3 z3A
theorem z0n:z1J z0a:=z0u
theorem sc__law_draw:FnScope ["pen","many","found"] ["pen","many"] (z02 z3m):=⟨rfl,rfl,rfl,by decide +kernel,rfl,by decide +kernel,by decide +kernel⟩
theorem z6v {K:W2} (F:Fun K "_law_draw" "_law_draw" z3m f fd) (hm:mg "_law_draw" = some (.ref f)) (hb:Binds K fd ["pen","many"] []) (T:Txt ce K mg) (k__law_next:KFn P w K mg base 1 "_law_next" 1 z1k):KFn P w K mg base 2 "_law_draw" 2 z0a :=
 z1B (np:=[0]) (fb:=z3A) F hm hb sc__law_draw (fun c cdv A outer s H E hr hnp=>by
  have hq:=z2l hr
  refine (z06 ?_ ?_)
  ·refine (z2g ?_ ?_ ?_)
   ·exact (z1O (z3e hq) z5j (z0s z0p z0M (pv 0) (z0c z08) (fun _ _=>rfl)) (z0c z08) (z19 _))
   ·refine (z06 ?_ ?_)
    ·exact (@z0x _ _ _ _ _ _ ([0]) (2) _ hnp sc__law_draw.nd rfl (Or.inl rfl) (z1t z4M z4Q (z0s z0p z0M (pv 0) (z0c z08) (fun _ _=>rfl)) (z0h (pv 1))) rfl (Or.inl rfl))
    refine (z06 ?_ ?_)
    ·exact (z8Y (pv 0) z08 (z1t z9H zc9 (z0s z0p z0M (pv 0) (z0c z08) (fun _ _=>rfl)) (z0h (pv 1))) (by intro _; rfl) (by rfl) (by rfl) (by rfl))
    refine (z0g ?_)
    refine (z0I ?_)
    exact (z07 (pv 2))
   ·exact z1l
  refine (z06 ?_ ?_)
  ·exact (z8Y (pv 0) z08 (@z0r _ _ _ _ _ (1) _ _ _ _ _ k__law_next z2T (hr.mono (by decide)) rfl (z09 (z1t z1j z1T (@z0r _ _ _ _ _ (1) _ _ _ _ _ k__law_next z2T (hr.mono (by decide)) rfl (z09 (z0s z0p z0M (pv 0) (z0c z08) (fun _ _=>rfl)) z0w (by rfl)) rfl (by decide) (by rfl) (by rfl)) (z0c z08)) z0w (by rfl)) rfl (by decide) (by rfl) (by rfl)) (by intro _; rfl) (by rfl) (by rfl) (by rfl))
  refine (z0g ?_)
  refine (z0I ?_)
  exact (z1t z4M z4Q (z1t z9H zc9 (z0s z0p z0M (pv 0) (z0c z08) (fun _ _=>rfl)) (z0c z08)) (z0h (pv 1)))) fun ss y h=>z0W h
def z21:DS:=(dSeq (dAsg (eOp pAdd (eD (.int 1)) (bOf (z05 z0a [.io 0,.val (eD (.int 3))]))) (gNm [0] 1)) (dSeq (dAsg (eOp pAdd (eD (.int 1)) (bOf (z05 z0a [.io 0,.val (eD (.int 3))]))) (gNm [0] 2)) (dSeq (dIf (dTr (eOp pEq (z05 z0a [.io 0,.val (eD (.int 8))]) (bOf (eD (.int 0))))) (dAsg (eOp pIx (zbG [.tup [.int 4,.int 1],.tup [.int 1,.int 4],.tup [.int 4,.int 4],.tup [.int 4,.int 3],.tup [.int 1,.int 2],.tup [.int 2,.int 1]]) (bOf (z05 z0a [.io 0,.val (eD (.int 6))]))) (gTp 2 (z0f (gNm [0] 1) (z0f (gNm [0] 2) z1b)))) z10) (dSeq (dIf (dTr (eOp pEq (eOpF pAdd 1 (bVar 2)) (bOf (eD (.int 2))))) (dAsg (eD (.int 2)) (gNm [0] 2)) z10) (dRet (eTup (z04 (eVar 1) (z04 (eVar 2) aNil))))))))
def z0A:DF:=gOf [0] 3 z21
theorem z1V:z1J z0A:=z0u
theorem sc__law_sizes_by:FnScope ["pen","high","wide"] ["pen"] (z02 z1Q):=⟨rfl,rfl,rfl,by decide +kernel,rfl,by decide +kernel,by decide +kernel⟩
theorem z4f {K:W2} (F:Fun K "_law_sizes_by" "_law_sizes_by" z1Q f fd) (hm:mg "_law_sizes_by" = some (.ref f)) (hb:Binds K fd ["pen"] []) (T:Txt ce K mg) (k__law_draw:KFn P w K mg base 2 "_law_draw" 2 z0a):KFn P w K mg base 3 "_law_sizes_by" 1 z0A :=
 z1B (np:=[0]) (fb:=z21) F hm hb sc__law_sizes_by (fun c cdv A outer s H E hr hnp=>by
  have hq:=z2l hr
  refine (@z06 _ _ _ _ _ _ ?_ ?_)
  ·exact (@z0x _ _ _ _ _ _ ([0]) (1) _ hnp sc__law_sizes_by.nd rfl (Or.inl rfl) (@z1t _ _ _ _ _ _ _ _ _ _ z1j z1T (@z08 _ _ _ _ _) (@z0c _ _ _ _ (@z0r _ _ _ _ _ (2) _ _ _ _ _ k__law_draw z0n (hr.mono (by decide)) rfl (@z1y _ _ _ _ _ _ (pv 0) (@z09 _ _ _ _ _ _ (@z08 _ _ _ _ _) (@z0w _ _) (by rfl)) (by rfl)) rfl (by decide) (by rfl) (by rfl)))) rfl (Or.inl rfl))
  refine (@z06 _ _ _ _ _ _ ?_ ?_)
  ·exact (@z0x _ _ _ _ _ _ ([0]) (2) _ hnp sc__law_sizes_by.nd rfl (Or.inl rfl) (@z1t _ _ _ _ _ _ _ _ _ _ z1j z1T (@z08 _ _ _ _ _) (@z0c _ _ _ _ (@z0r _ _ _ _ _ (2) _ _ _ _ _ k__law_draw z0n (hr.mono (by decide)) rfl (@z1y _ _ _ _ _ _ (pv 0) (@z09 _ _ _ _ _ _ (@z08 _ _ _ _ _) (@z0w _ _) (by rfl)) (by rfl)) rfl (by decide) (by rfl) (by rfl)))) rfl (Or.inl rfl))
  refine (@z06 _ _ _ _ _ _ ?_ ?_)
  ·refine (@z2g _ _ _ _ _ _ _ _ _ ?_ ?_ ?_)
   ·exact (@z1O _ _ _ _ _ _ _ _ _ _ (z3e hq) z5j (@z0r _ _ _ _ _ (2) _ _ _ _ _ k__law_draw z0n (hr.mono (by decide)) rfl (@z1y _ _ _ _ _ _ (pv 0) (@z09 _ _ _ _ _ _ (@z08 _ _ _ _ _) (@z0w _ _) (by rfl)) (by rfl)) rfl (by decide) (by rfl) (by rfl)) (@z0c _ _ _ _ (@z08 _ _ _ _ _)) (z19 _))
   ·refine (@z0g _ _ _ _ ?_)
    refine (@z7L _ _ _ _ _ _ _ ?_ ?_ (by rfl) (by rfl) (by rfl))
    ·exact (@zcL _ _ _ _ _ _ _ _ _ z0p z0M (@z6d _ _ _ _ _ (by rfl) (by decide)) (@z0c _ _ _ _ (@z0r _ _ _ _ _ (2) _ _ _ _ _ k__law_draw z0n (hr.mono (by decide)) rfl (@z1y _ _ _ _ _ _ (pv 0) (@z09 _ _ _ _ _ _ (@z08 _ _ _ _ _) (@z0w _ _) (by rfl)) (by rfl)) rfl (by decide) (by rfl) (by rfl))) (fun _ _=>rfl))
    ·exact (@z5s _ _ _ _ _ _ _ rfl (@z1a _ _ _ _ _ _ (@z0G _ _ _ ([0]) (1) _ hnp sc__law_sizes_by.nd rfl (Or.inl rfl) (Or.inl rfl)) (@z1a _ _ _ _ _ _ (@z0G _ _ _ ([0]) (2) _ hnp sc__law_sizes_by.nd rfl (Or.inl rfl) (Or.inl rfl)) (@z3T _ _) (by rfl)) (by rfl)) (by rfl) (by rfl))
   ·exact z1l
  refine (@z06 _ _ _ _ _ _ ?_ ?_)
  ·refine (@z2g _ _ _ _ _ _ _ _ _ ?_ ?_ ?_)
   ·exact (@z1O _ _ _ _ _ _ _ _ _ _ (z3e hq) z5j (@z3c _ _ _ _ _ _ _ _ _ _ z1j z1T (pv 1) (@z0h _ _ _ _ (pv 2))) (@z0c _ _ _ _ (@z08 _ _ _ _ _)) (z19 _))
   ·refine (@z0g _ _ _ _ ?_)
    exact (@z0x _ _ _ _ _ _ ([0]) (2) _ hnp sc__law_sizes_by.nd rfl (Or.inl rfl) (@z08 _ _ _ _ _) rfl (Or.inl rfl))
   ·exact z1l
  refine (@z0g _ _ _ _ ?_)
  refine (@z0I _ _ _ _ _ ?_)
  exact (@z17 _ _ _ _ _ _ (@z01 _ _ _ _ _ _ (@z07 _ _ _ _ (pv 1)) (@z01 _ _ _ _ _ _ (@z07 _ _ _ _ (pv 2)) (@z0y _ _) (by rfl)) (by rfl)) (by decide))) fun ss y h=>z0W h
def z3x:DS:=(dSeq (dIf (dTr (eOpF pEq 3 (bOf (eD (.int 1))))) (dRet (eOpF pIx 1 (bOf (z05 z0a [.io 0,.val (eOpF pAdd 2 (bOf (eD (.int 1))))])))) z10) (dSeq (dIf (dTr (eOpF pEq 3 (bOf (eD (.int 2))))) (dRet (eOpF pIx 1 (bOf (eOp pMod (eOpF pAdd 2 (bOf (eD (.int 1)))) (bOf (eC1 pLen (bVar 1))))))) z10) (dSeq (dIf (dAnd (dTr (eOpF pEq 3 (bOf (eD (.int 3))))) (dTr (eOp pGt (z05 z0a [.io 0,.val (eD (.int 4))]) (bOf (eD (.int 0)))))) (dRet (eOpF pIx 1 (bVar 2))) z10) (dRet (eOpF pIx 1 (bOf (z05 z0a [.io 0,.val (eC1 pLen (bVar 1))])))))))
def z0H:DF:=gOf [0] 4 z3x
theorem z4V:z1J z0H:=z0u
theorem z6e:FnScope ["pen","tiles","place","way"] ["pen","tiles","place","way"] (z02 z3j):=⟨rfl,rfl,rfl,by decide +kernel,rfl,by decide +kernel,by decide +kernel⟩
theorem z6s {K:W2} (F:Fun K "_law_pick" "_law_pick" z3j f fd) (hm:mg "_law_pick" = some (.ref f)) (hb:Binds K fd ["pen","tiles","place","way"] []) (T:Txt ce K mg) (k__law_draw:KFn P w K mg base 2 "_law_draw" 2 z0a):KFn P w K mg base 3 "_law_pick" 4 z0H :=
 z1B (np:=[0]) (fb:=z3x) F hm hb z6e (fun c cdv A outer s H E hr hnp=>by
  have hq:=z2l hr
  refine (z06 ?_ ?_)
  ·refine (z2g ?_ ?_ ?_)
   ·exact (z1N (z3e hq) z5j (pv 3) (z0c z08) (z19 _))
   ·refine (z0g ?_)
    refine (z0I ?_)
    exact (z0s z0p z0M (pv 1) (z0c (@z0r _ _ _ _ _ (2) _ _ _ _ _ k__law_draw z0n (hr.mono (by decide)) rfl (z1y (pv 0) (z09 (z3c z1j z1T (pv 2) (z0c z08)) z0w (by rfl)) (by rfl)) rfl (by decide) (by rfl) (by rfl))) (fun _ _=>rfl))
   ·exact z1l
  refine (z06 ?_ ?_)
  ·refine (z2g ?_ ?_ ?_)
   ·exact (z1N (z3e hq) z5j (pv 3) (z0c z08) (z19 _))
   ·refine (z0g ?_)
    refine (z0I ?_)
    exact (z0s z0p z0M (pv 1) (z0c (z1t z4M z4Q (z3c z1j z1T (pv 2) (z0c z08)) (z0c (z47 rfl T.z_len (z0h (pv 1)) (by rfl))))) (fun _ _=>rfl))
   ·exact z1l
  refine (z06 ?_ ?_)
  ·refine (z2g ?_ ?_ ?_)
   ·exact (z8X (z7J (z1N (z3e hq) z5j (pv 3) (z0c z08) (z19 _)) (z76 (z1O z4N z3H (@z0r _ _ _ _ _ (2) _ _ _ _ _ k__law_draw z0n (hr.mono (by decide)) rfl (z1y (pv 0) (z09 z08 z0w (by rfl)) (by rfl)) rfl (by decide) (by rfl) (by rfl)) (z0c z08) (z19 _)))))
   ·refine (z0g ?_)
    refine (z0I ?_)
    exact (z0s z0p z0M (pv 1) (z0h (pv 2)) (fun _ _=>rfl))
   ·exact z1l
  refine (z0g ?_)
  refine (z0I ?_)
  exact (z0s z0p z0M (pv 1) (z0c (@z0r _ _ _ _ _ (2) _ _ _ _ _ k__law_draw z0n (hr.mono (by decide)) rfl (z1y (pv 0) (z09 (z47 rfl T.z_len (z0h (pv 1)) (by rfl)) z0w (by rfl)) (by rfl)) rfl (by decide) (by rfl) (by rfl))) (fun _ _=>rfl))) fun ss y h=>z0W h
def z2e:DS:=(dSeq (dAsg (z05 z0A [.io 0]) (gTp 2 (z0f (gNm [0] 2) (z0f (gNm [0] 3) z1b)))) (dSeq (dAsg (eOp pAdd (eD (.int 1)) (bOf (z05 z0a [.io 0,.val (eVar 1)]))) (gNm [0] 4)) (dSeq (dAsg (z05 z0a [.io 0,.val (eD (.int 26))]) (gNm [0] 5)) (dSeq (dAsg (eD (.str [97,98,99,100,101,102,103,104,105,106,107,108,109,110,111,112,113,114,115,116,117,118,119,120,121,122])) (gNm [0] 6)) (dSeq (dAsg (eC1 z2v (bOf (z0N [13] (z0B (eVar 4)) (gNm [0] 13) dYes (eOpF pIx 6 (bOf (eOp pMod (eOpF pAdd 5 (bOf (eOp z1S (eD (.int 5)) (bVar 13)))) (bOf (eD (.int 26))))))))) (gNm [0] 7)) (dSeq (dAsg (z05 z0a [.io 0,.val (eD (.int 5))]) (gNm [0] 8)) (dSeq (dAsg (eLst aNil) (gNm [0] 9)) (dSeq (dFor (z0B (eVar 4)) (gNm [0] 10) (dSeq (dAsg (eLst aNil) (gNm [0] 11)) (dSeq (dFor (z0B (eVar 2)) (gNm [0] 12) (z0o 11 (eC1 (z1q []) (bOf (z0N [14] (z0B (eVar 3)) (gNm [0] 14) dYes (z05 z0H [.io 0,.val (eVar 7),.val (eVar 10),.val (eVar 8)])))))) (z0o 9 (eTup (z04 (eOpF pIx 7 (bVar 10)) (z04 (eC1 z15 (bVar 11)) aNil))))))) (dRet (eTup (z04 (eVar 2) (z04 (eVar 3) (z04 (eC1 z15 (bVar 9)) aNil)))))))))))))
def z0E:DF:=gOf [0] 15 z2e
theorem z3J:z1J z0E:=z0u
theorem sc__law_rule_by:FnScope ["pen","most","high","wide","size","first","letters","tiles","way","blocks","place","block","row","k","column"] ["pen","most"] (z02 z2a):=⟨rfl,rfl,rfl,by decide +kernel,rfl,by decide +kernel,by decide +kernel⟩
theorem z4O {K:W2} (F:Fun K "_law_rule_by" "_law_rule_by" z2a f fd) (hm:mg "_law_rule_by" = some (.ref f)) (hb:Binds K fd ["pen","most"] []) (T:Txt ce K mg) (k__law_draw:KFn P w K mg base 2 "_law_draw" 2 z0a) (k__law_sizes_by:KFn P w K mg base 3 "_law_sizes_by" 1 z0A) (k__law_pick:KFn P w K mg base 3 "_law_pick" 4 z0H):KFn P w K mg base 4 "_law_rule_by" 2 z0E :=
 z1B (np:=[0]) (fb:=z2e) F hm hb sc__law_rule_by (fun c cdv A outer s H E hr hnp=>by
  have hq:=z2l hr
  refine (@z06 _ _ _ _ _ _ ?_ ?_)
  ·refine (@z7L _ _ _ _ _ _ _ ?_ ?_ (by rfl) (by rfl) (by rfl))
   ·exact (@z0r _ _ _ _ _ (3) _ _ _ _ _ k__law_sizes_by z1V (hr.mono (by decide)) rfl (@z1y _ _ _ _ _ _ (pv 0) (@z0w _ _) (by rfl)) rfl (by decide) (by rfl) (by rfl))
   ·exact (@z5s _ _ _ _ _ _ _ rfl (@z1a _ _ _ _ _ _ (@z0G _ _ _ ([0]) (2) _ hnp sc__law_rule_by.nd rfl (by first | exact Or.inl rfl | exact Or.inr rfl) (Or.inl rfl)) (@z1a _ _ _ _ _ _ (@z0G _ _ _ ([0]) (3) _ hnp sc__law_rule_by.nd rfl (by first | exact Or.inl rfl | exact Or.inr rfl) (Or.inl rfl)) (@z3T _ _) (by rfl)) (by rfl)) (by rfl) (by rfl))
  refine (@z06 _ _ _ _ _ _ ?_ ?_)
  ·exact (@z0x _ _ _ _ _ _ ([0]) (4) _ hnp sc__law_rule_by.nd rfl (by first | exact Or.inl rfl | exact Or.inr rfl) (@z1t _ _ _ _ _ _ _ _ _ _ z1j z1T (@z08 _ _ _ _ _) (@z0c _ _ _ _ (@z0r _ _ _ _ _ (2) _ _ _ _ _ k__law_draw z0n (hr.mono (by decide)) rfl (@z1y _ _ _ _ _ _ (pv 0) (@z09 _ _ _ _ _ _ (@z07 _ _ _ _ (pv 1)) (@z0w _ _) (by rfl)) (by rfl)) rfl (by decide) (by rfl) (by rfl)))) rfl (Or.inl rfl))
  refine (@z06 _ _ _ _ _ _ ?_ ?_)
  ·exact (@z0x _ _ _ _ _ _ ([0]) (5) _ hnp sc__law_rule_by.nd rfl (by first | exact Or.inl rfl | exact Or.inr rfl) (@z0r _ _ _ _ _ (2) _ _ _ _ _ k__law_draw z0n (hr.mono (by decide)) rfl (@z1y _ _ _ _ _ _ (pv 0) (@z09 _ _ _ _ _ _ (@z08 _ _ _ _ _) (@z0w _ _) (by rfl)) (by rfl)) rfl (by decide) (by rfl) (by rfl)) rfl (Or.inl rfl))
  refine (@z06 _ _ _ _ _ _ ?_ ?_)
  ·exact (@z0x _ _ _ _ _ _ ([0]) (6) _ hnp sc__law_rule_by.nd rfl (by first | exact Or.inl rfl | exact Or.inr rfl) (@z2L _ _ _ _ _ [97,98,99,100,101,102,103,104,105,106,107,108,109,110,111,112,113,114,115,116,117,118,119,120,121,122] (by decide +kernel)) rfl (Or.inl rfl))
  refine (@z06 _ _ _ _ _ _ ?_ ?_)
  ·exact (@z0x _ _ _ _ _ _ ([0]) (7) _ hnp sc__law_rule_by.nd rfl (by first | exact Or.inl rfl | exact Or.inr rfl) (@z6c _ _ _ _ _ _ rfl T.z_sorted (@z0c _ _ _ _ (@z1s _ _ ([13]) _ _ _ _ _ _ _ _ _ _ rfl (@z0Q _ _ _ rfl rfl) (@z1h _ _ _ _ _ _ _ rfl T.z_range (@z07 _ _ _ _ (pv 4)) (by rfl)) (fun l s0 H0 ex=>(@z0P _ _ _ _ ([0]) (13) _ hnp sc__law_rule_by.nd rfl (by first | exact Or.inl rfl | exact Or.inr rfl) (by first | exact Or.inl rfl | exact Or.inr rfl) (by decide))) (fun l s0 H0 ex=>(@z1M _ _)) (fun l s0 H0 ex=>(@z0s _ _ _ _ _ _ _ _ _ z0p z0M (pv 6) (@z0c _ _ _ _ (@z1t _ _ _ _ _ _ _ _ _ _ z4M z4Q (@z3c _ _ _ _ _ _ _ _ _ _ z1j z1T (pv 5) (@z0c _ _ _ _ (@z1t _ _ _ _ _ _ _ _ _ _ z1G z1H (@z08 _ _ _ _ _) (@z0h _ _ _ _ (pv 13))))) (@z0c _ _ _ _ (@z08 _ _ _ _ _)))) (fun _ _=>rfl))) (z26 hnp rfl) (by intro _; rfl))) (by rfl)) rfl (Or.inl rfl))
  refine (@z06 _ _ _ _ _ _ ?_ ?_)
  ·exact (@z0x _ _ _ _ _ _ ([0]) (8) _ hnp sc__law_rule_by.nd rfl (by first | exact Or.inl rfl | exact Or.inr rfl) (@z0r _ _ _ _ _ (2) _ _ _ _ _ k__law_draw z0n (hr.mono (by decide)) rfl (@z1y _ _ _ _ _ _ (pv 0) (@z09 _ _ _ _ _ _ (@z08 _ _ _ _ _) (@z0w _ _) (by rfl)) (by rfl)) rfl (by decide) (by rfl) (by rfl)) rfl (Or.inl rfl))
  refine (@z06 _ _ _ _ _ _ ?_ ?_)
  ·exact (@z0x _ _ _ _ _ _ ([0]) (9) _ hnp sc__law_rule_by.nd rfl (by first | exact Or.inl rfl | exact Or.inr rfl) (@z2k _ _ _ _ _ (@z0y _ _) (by decide)) rfl (Or.inl rfl))
  refine (@z06 _ _ _ _ _ _ ?_ ?_)
  ·refine (@z24 _ _ _ _ _ _ _ _ _ PassesOwn.never rfl ?_ ?_ ?_ (by intro _; rfl))
   ·exact (@z1h _ _ _ _ _ _ _ rfl T.z_range (@z07 _ _ _ _ (pv 4)) (by rfl))
   ·exact (@z0G _ _ _ ([0]) (10) _ hnp sc__law_rule_by.nd rfl (by first | exact Or.inl rfl | exact Or.inr rfl) (Or.inl rfl))
   ·refine (@z06 _ _ _ _ _ _ ?_ ?_)
    ·exact (@z0x _ _ _ _ _ _ ([0]) (11) _ hnp sc__law_rule_by.nd rfl (by first | exact Or.inl rfl | exact Or.inr rfl) (@z2k _ _ _ _ _ (@z0y _ _) (by decide)) rfl (Or.inl rfl))
    refine (@z06 _ _ _ _ _ _ ?_ ?_)
    ·refine (@z24 _ _ _ _ _ _ _ _ _ PassesOwn.never rfl ?_ ?_ ?_ (by intro _; rfl))
     ·exact (@z1h _ _ _ _ _ _ _ rfl T.z_range (@z07 _ _ _ _ (pv 2)) (by rfl))
     ·exact (@z0G _ _ _ ([0]) (12) _ hnp sc__law_rule_by.nd rfl (by first | exact Or.inl rfl | exact Or.inr rfl) (Or.inl rfl))
     ·refine (@z0g _ _ _ _ ?_)
      exact (@z1u _ _ _ _ _ _ _ _ _ (pv 11) (@z4B _ _ _ _ _ _ _ _ _ [] (@z0c _ _ _ _ (@z1s _ _ ([14]) _ _ _ _ _ _ _ _ _ _ rfl (@z0Q _ _ _ rfl rfl) (@z1h _ _ _ _ _ _ _ rfl T.z_range (@z07 _ _ _ _ (pv 3)) (by rfl)) (fun l s0 H0 ex=>(@z0P _ _ _ _ ([0]) (14) _ hnp sc__law_rule_by.nd rfl (by first | exact Or.inl rfl | exact Or.inr rfl) (by first | exact Or.inl rfl | exact Or.inr rfl) (by decide))) (fun l s0 H0 ex=>(@z1M _ _)) (fun l s0 H0 ex=>(@z0r _ _ _ _ _ (3) _ _ _ _ _ k__law_pick z4V (hr.mono (by decide)) rfl (@z1y _ _ _ _ _ _ (pv 0) (@z09 _ _ _ _ _ _ (@z07 _ _ _ _ (pv 7)) (@z09 _ _ _ _ _ _ (@z07 _ _ _ _ (pv 10)) (@z09 _ _ _ _ _ _ (@z07 _ _ _ _ (pv 8)) (@z0w _ _) (by rfl)) (by rfl)) (by rfl)) (by rfl)) rfl (by decide) (by rfl) (by rfl))) (z26 hnp rfl) (by intro _; rfl))) (by decide +kernel) (by rfl) (by rfl) (by rfl) (by rfl)) (by rfl) (by rfl) (by rfl) (by rfl) (by rfl))
    refine (@z0g _ _ _ _ ?_)
    exact (@z1u _ _ _ _ _ _ _ _ _ (pv 9) (@z17 _ _ _ _ _ _ (@z01 _ _ _ _ _ _ (@z0s _ _ _ _ _ _ _ _ _ z0p z0M (pv 7) (@z0h _ _ _ _ (pv 10)) (fun _ _=>rfl)) (@z01 _ _ _ _ _ _ (@z25 _ _ _ _ _ _ rfl T.z_tuple (@z0h _ _ _ _ (pv 11)) (by rfl)) (@z0y _ _) (by rfl)) (by rfl)) (by decide)) (by rfl) (by rfl) (by rfl) (by rfl) (by rfl))
  refine (@z0g _ _ _ _ ?_)
  refine (@z0I _ _ _ _ _ ?_)
  exact (@z17 _ _ _ _ _ _ (@z01 _ _ _ _ _ _ (@z07 _ _ _ _ (pv 2)) (@z01 _ _ _ _ _ _ (@z07 _ _ _ _ (pv 3)) (@z01 _ _ _ _ _ _ (@z25 _ _ _ _ _ _ rfl T.z_tuple (@z0h _ _ _ _ (pv 9)) (by rfl)) (@z0y _ _) (by rfl)) (by rfl)) (by rfl)) (by decide))) fun ss y h=>z0W h
def z22:DS:=(dSeq (dAsg (z05 z0A [.io 0]) (gTp 2 (z0f (gNm [0] 2) (z0f (gNm [0] 3) z1b)))) (dSeq (dAsg (eLst aNil) (gNm [0] 4)) (dSeq (dFor (iSq (eC1 z2v (bVar 1))) (gNm [0] 5) (dSeq (dAsg (eLst aNil) (gNm [0] 6)) (dSeq (dFor (z0B (eVar 2)) (gNm [0] 7) (z0o 6 (eC1 (z1q []) (bOf (z0N [8] (z0B (eVar 3)) (gNm [0] 8) dYes (eOpF pIx 1 (bOf (z05 z0a [.io 0,.val (eC1 pLen (bVar 1))])))))))) (z0o 4 (eTup (z04 (eVar 5) (z04 (eC1 z15 (bVar 6)) aNil))))))) (dRet (eTup (z04 (eVar 2) (z04 (eVar 3) (z04 (eC1 z15 (bVar 4)) aNil))))))))
def z0F:DF:=gOf [0] 9 z22
theorem z3r:z1J z0F:=z0u
theorem sc__law_other_by:FnScope ["pen","tiles","high","wide","blocks","tile","block","row","column"] ["pen","tiles"] (z02 z1R):=⟨rfl,rfl,rfl,by decide +kernel,rfl,by decide +kernel,by decide +kernel⟩
theorem z4g {K:W2} (F:Fun K "_law_other_by" "_law_other_by" z1R f fd) (hm:mg "_law_other_by" = some (.ref f)) (hb:Binds K fd ["pen","tiles"] []) (T:Txt ce K mg) (k__law_draw:KFn P w K mg base 2 "_law_draw" 2 z0a) (k__law_sizes_by:KFn P w K mg base 3 "_law_sizes_by" 1 z0A):KFn P w K mg base 4 "_law_other_by" 2 z0F :=
 z1B (np:=[0]) (fb:=z22) F hm hb sc__law_other_by (fun c cdv A outer s H E hr hnp=>by
  have hq:=z2l hr
  refine (z06 ?_ ?_)
  ·refine (z7L ?_ ?_ (by rfl) (by rfl) (by rfl))
   ·exact (@z0r _ _ _ _ _ (3) _ _ _ _ _ k__law_sizes_by z1V (hr.mono (by decide)) rfl (z1y (pv 0) z0w (by rfl)) rfl (by decide) (by rfl) (by rfl))
   ·exact (z5s rfl (z1a (@z0G _ _ _ ([0]) (2) _ hnp sc__law_other_by.nd rfl (by first | exact Or.inl rfl | exact Or.inr rfl) (Or.inl rfl)) (z1a (@z0G _ _ _ ([0]) (3) _ hnp sc__law_other_by.nd rfl (by first | exact Or.inl rfl | exact Or.inr rfl) (Or.inl rfl)) z3T (by rfl)) (by rfl)) (by rfl) (by rfl))
  refine (z06 ?_ ?_)
  ·exact (@z0x _ _ _ _ _ _ ([0]) (4) _ hnp sc__law_other_by.nd rfl (by first | exact Or.inl rfl | exact Or.inr rfl) (z2k z0y (by decide)) rfl (Or.inl rfl))
  refine (z06 ?_ ?_)
  ·refine (z24 PassesOwn.never rfl ?_ ?_ ?_ (by intro _; rfl))
   ·exact (z2J (z6c rfl T.z_sorted (z0h (pv 1)) (by rfl)))
   ·exact (@z0G _ _ _ ([0]) (5) _ hnp sc__law_other_by.nd rfl (by first | exact Or.inl rfl | exact Or.inr rfl) (Or.inl rfl))
   ·refine (z06 ?_ ?_)
    ·exact (@z0x _ _ _ _ _ _ ([0]) (6) _ hnp sc__law_other_by.nd rfl (by first | exact Or.inl rfl | exact Or.inr rfl) (z2k z0y (by decide)) rfl (Or.inl rfl))
    refine (z06 ?_ ?_)
    ·refine (z24 PassesOwn.never rfl ?_ ?_ ?_ (by intro _; rfl))
     ·exact (z1h rfl T.z_range (z07 (pv 2)) (by rfl))
     ·exact (@z0G _ _ _ ([0]) (7) _ hnp sc__law_other_by.nd rfl (by first | exact Or.inl rfl | exact Or.inr rfl) (Or.inl rfl))
     ·refine (z0g ?_)
      exact (z1u (pv 6) (z4B [] (z0c (@z1s _ _ ([8]) _ _ _ _ _ _ _ _ _ _ rfl (z0Q rfl rfl) (z1h rfl T.z_range (z07 (pv 3)) (by rfl)) (fun l s0 H0 ex=>(@z0P _ _ _ _ ([0]) (8) _ hnp sc__law_other_by.nd rfl (by first | exact Or.inl rfl | exact Or.inr rfl) (by first | exact Or.inl rfl | exact Or.inr rfl) (by decide))) (fun l s0 H0 ex=>z1M) (fun l s0 H0 ex=>(z0s z0p z0M (pv 1) (z0c (@z0r _ _ _ _ _ (2) _ _ _ _ _ k__law_draw z0n (hr.mono (by decide)) rfl (z1y (pv 0) (z09 (z47 rfl T.z_len (z0h (pv 1)) (by rfl)) z0w (by rfl)) (by rfl)) rfl (by decide) (by rfl) (by rfl))) (fun _ _=>rfl))) (z26 hnp rfl) (by intro _; rfl))) (by decide +kernel) (by rfl) (by rfl) (by rfl) (by rfl)) (by rfl) (by rfl) (by rfl) (by rfl) (by rfl))
    refine (z0g ?_)
    exact (z1u (pv 4) (z17 (z01 (z07 (pv 5)) (z01 (z25 rfl T.z_tuple (z0h (pv 6)) (by rfl)) z0y (by rfl)) (by rfl)) (by decide)) (by rfl) (by rfl) (by rfl) (by rfl) (by rfl))
  refine (z0g ?_)
  refine (z0I ?_)
  exact (z17 (z01 (z07 (pv 2)) (z01 (z07 (pv 3)) (z01 (z25 rfl T.z_tuple (z0h (pv 4)) (by rfl)) z0y (by rfl)) (by rfl)) (by rfl)) (by decide))) fun ss y h=>z0W h
abbrev z32 :DS:=(dSeq (dAsg zao (gNm [] 2)) (dSeq (dFor (iSq (eOpF pIx 0 (bOf (eD (.int 2))))) (gTp 2 (z0f (gNm [] 3) (z0f (gNm [] 4) z1b))) (z8F 2 (eVar 3) (eVar 4))) (dSeq (dAsg (eLst aNil) (gNm [] 5)) (dSeq (dFor (iSq (eVar 1)) (gNm [] 6) (dFor (z0B (eOpF pIx 0 (bOf (eD (.int 0))))) (gNm [] 7) (z0o 5 (eC1 (z1q []) (bOf (z0N [3] (iSq (eVar 6)) (gNm [] 3) dYes (eOp pIx (eOpF pIxX 2 (bVar 3)) (bVar 7)))))))) (dRet (eC1 z15 (bVar 5)))))))
def z3z:DS:=z32
def z0X:DF:=gOf [] 8 z3z
theorem z4W:z1J z0X:=z0u
theorem sc__law_grow:FnScope ["rule","floor","blocks","tile","block","rows","row","line"] ["rule","floor"] (z02 z3l):=⟨rfl,rfl,rfl,by decide +kernel,rfl,by decide +kernel,by decide +kernel⟩
theorem z6u {K:W2} (F:Fun K "_law_grow" "_law_grow" z3l f fd) (hm:mg "_law_grow" = some (.ref f)) (hb:Binds K fd ["rule","floor"] []) (T:Txt ce K mg):KFn P w K mg base 1 "_law_grow" 2 z0X :=
 z1B (np:=[]) (fb:=z3z) F hm hb sc__law_grow (fun c cdv A outer s H E hr hnp=>by
  have hq:=z2l hr
  refine (z06 ?_ ?_)
  ·exact (@z0x _ _ _ _ _ _ ([]) (2) _ hnp sc__law_grow.nd rfl (by first | exact Or.inl rfl | exact Or.inr rfl) zaX rfl (Or.inl rfl))
  refine (z06 ?_ ?_)
  ·refine (z24 PassesOwn.never rfl ?_ ?_ ?_ (by intro _; rfl))
   ·exact (z2J (z0s z0p z0M (pv 0) (z0c z08) (fun _ _=>rfl)))
   ·exact (z5s rfl (z1a (@z0G _ _ _ ([]) (3) _ hnp sc__law_grow.nd rfl (by first | exact Or.inl rfl | exact Or.inr rfl) (Or.inl rfl)) (z1a (@z0G _ _ _ ([]) (4) _ hnp sc__law_grow.nd rfl (by first | exact Or.inl rfl | exact Or.inr rfl) (Or.inl rfl)) z3T (by rfl)) (by rfl)) (by rfl) (by rfl))
   ·refine (z0g ?_)
    exact (zcD hq (pv 2) (z07 (pv 3)) (z07 (pv 4)) (by rfl))
  refine (z06 ?_ ?_)
  ·exact (@z0x _ _ _ _ _ _ ([]) (5) _ hnp sc__law_grow.nd rfl (by first | exact Or.inl rfl | exact Or.inr rfl) (z2k z0y (by decide)) rfl (Or.inl rfl))
  refine (z06 ?_ ?_)
  ·refine (z24 PassesOwn.never rfl ?_ ?_ ?_ (by intro _; rfl))
   ·exact (z2J (z07 (pv 1)))
   ·exact (@z0G _ _ _ ([]) (6) _ hnp sc__law_grow.nd rfl (by first | exact Or.inl rfl | exact Or.inr rfl) (Or.inl rfl))
   ·refine (z0g ?_)
    refine (z24 PassesOwn.never rfl ?_ ?_ ?_ (by intro _; rfl))
    ·exact (z1h rfl T.z_range (z0s z0p z0M (pv 0) (z0c z08) (fun _ _=>rfl)) (by rfl))
    ·exact (@z0G _ _ _ ([]) (7) _ hnp sc__law_grow.nd rfl (by first | exact Or.inl rfl | exact Or.inr rfl) (Or.inl rfl))
    ·refine (z0g ?_)
     exact (z1u (pv 5) (z4B [] (z0c (@z1s _ _ ([3]) _ _ _ _ _ _ _ _ _ _ rfl (z0Q rfl rfl) (z2J (z07 (pv 6))) (fun l s0 H0 ex=>(@z0P _ _ _ _ ([]) (3) _ hnp sc__law_grow.nd rfl (by first | exact Or.inl rfl | exact Or.inr rfl) (by first | exact Or.inl rfl | exact Or.inr rfl) (by decide))) (fun l s0 H0 ex=>z1M) (fun l s0 H0 ex=>(zcL z0p z0M (z0s (ix_X hq) zc8 (pv 2) (z0h (pv 3)) (fun _ _=>rfl)) (z0h (pv 7)) (fun _ _=>rfl))) (z26 hnp rfl) (by intro _; rfl))) (by decide +kernel) (by rfl) (by rfl) (by rfl) (by rfl)) (by rfl) (by rfl) (by rfl) (by rfl) (by rfl))
  refine (z0g ?_)
  refine (z0I ?_)
  exact (z25 rfl T.z_tuple (z0h (pv 5)) (by rfl))) fun ss y h=>z0W h
def z1L:DS:=(dSeq (dAsg (z0N [6] (iSq (eOpF pIx 0 (bOf (eD (.int 2))))) (gNm [] 6) dYes (eOpF pIx 6 (bOf (eD (.int 0))))) (gNm [] 2)) (dSeq (dAsg (z0N [6] (iSq (eOpF pIx 1 (bOf (eD (.int 2))))) (gNm [] 6) dYes (eOpF pIx 6 (bOf (eD (.int 0))))) (gNm [] 3)) (dSeq (dAsg (eOp pAdd (z0N [7] (iSq (eVar 2)) (gNm [] 7) (dTr (eOp (pIn true) (eVar 7) (bVar 3))) (eVar 7)) (bOf (z0N [7] (iSq (eVar 3)) (gNm [] 7) (dTr (eOp (pIn true) (eVar 7) (bVar 2))) (eVar 7)))) (gNm [] 4)) (dSeq (dIf (dTr (eOpF pNe 4 (bOf (eLst aNil)))) (dRet (eTup (z04 (eD (.str [116,105,108,101])) (z04 (eC1 zbd (bVar 4)) aNil)))) z10) (dSeq (dIf (dTr (eOp pGt (eOp z1S (eOpF pIx 0 (bOf (eD (.int 0)))) (bOf (eOpF pIx 1 (bOf (eD (.int 0)))))) (bOf (eD (.int 4))))) (dRet (eTup (z04 (eD (.str [103,114,101,97,116])) (z04 (eTup (z04 (eOp z1S (eOpF pIx 0 (bOf (eD (.int 0)))) (bOf (eOpF pIx 1 (bOf (eD (.int 0)))))) (z04 (eD (.int 4)) aNil))) aNil)))) z10) (dSeq (dIf (dTr (eOp pGt (eOp z1S (eOpF pIx 0 (bOf (eD (.int 1)))) (bOf (eOpF pIx 1 (bOf (eD (.int 1)))))) (bOf (eD (.int 4))))) (dRet (eTup (z04 (eD (.str [103,114,101,97,116])) (z04 (eTup (z04 (eOp z1S (eOpF pIx 0 (bOf (eD (.int 1)))) (bOf (eOpF pIx 1 (bOf (eD (.int 1)))))) (z04 (eD (.int 4)) aNil))) aNil)))) z10) (dSeq (dAsg (eC1 z15 (bOf (z0N [7,8] (iSq (eOpF pIx 0 (bOf (eD (.int 2))))) (gTp 2 (z0f (gNm [] 7) (z0f (gNm [] 8) z1b))) dYes (eTup (z04 (eVar 7) (z04 (z05 z0X [.val (eVar 1),.val (eVar 8)]) aNil)))))) (gNm [] 5)) (dRet (eTup (z04 (eD (.str [116,111,108,100])) (z04 (eTup (z04 (eOp z1S (eOpF pIx 0 (bOf (eD (.int 0)))) (bOf (eOpF pIx 1 (bOf (eD (.int 0)))))) (z04 (eOp z1S (eOpF pIx 0 (bOf (eD (.int 1)))) (bOf (eOpF pIx 1 (bOf (eD (.int 1)))))) (z04 (eVar 5) aNil)))) aNil)))))))))))
def z0m:DF:=gOf [] 9 z1L
theorem z3f:z1J z0m:=z0u
theorem sc__law_due:FnScope ["rule","other","tiles","others","odd","blocks","pair","tile","block"] ["rule","other"] (z02 z3U):=⟨rfl,rfl,rfl,by decide +kernel,rfl,by decide +kernel,by decide +kernel⟩
theorem z7i {K:W2} (F:Fun K "_law_due" "_law_due" z3U f fd) (hm:mg "_law_due" = some (.ref f)) (hb:Binds K fd ["rule","other"] []) (T:Txt ce K mg) (k__law_grow:KFn P w K mg base 1 "_law_grow" 2 z0X):KFn P w K mg base 2 "_law_due" 2 z0m :=
 z1B (np:=[]) (fb:=z1L) F hm hb sc__law_due (fun c cdv A outer s H E hr hnp=>by
  have hq:=z2l hr
  refine (z06 ?_ ?_)
  ·exact (@z0x _ _ _ _ _ _ ([]) (2) _ hnp sc__law_due.nd rfl (by first | exact Or.inl rfl | exact Or.inr rfl) (@z1s _ _ ([6]) _ _ _ _ _ _ _ _ _ _ rfl (z0Q rfl rfl) (z2J (z0s z0p z0M (pv 0) (z0c z08) (fun _ _=>rfl))) (fun l s0 H0 ex=>(@z0P _ _ _ _ ([]) (6) _ hnp sc__law_due.nd rfl (by first | exact Or.inl rfl | exact Or.inr rfl) (by first | exact Or.inl rfl | exact Or.inr rfl) (by decide))) (fun l s0 H0 ex=>z1M) (fun l s0 H0 ex=>(z0s z0p z0M (pv 6) (z0c z08) (fun _ _=>rfl))) (z26 hnp rfl) (by intro _; rfl)) rfl (Or.inl rfl))
  refine (z06 ?_ ?_)
  ·exact (@z0x _ _ _ _ _ _ ([]) (3) _ hnp sc__law_due.nd rfl (by first | exact Or.inl rfl | exact Or.inr rfl) (@z1s _ _ ([6]) _ _ _ _ _ _ _ _ _ _ rfl (z0Q rfl rfl) (z2J (z0s z0p z0M (pv 1) (z0c z08) (fun _ _=>rfl))) (fun l s0 H0 ex=>(@z0P _ _ _ _ ([]) (6) _ hnp sc__law_due.nd rfl (by first | exact Or.inl rfl | exact Or.inr rfl) (by first | exact Or.inl rfl | exact Or.inr rfl) (by decide))) (fun l s0 H0 ex=>z1M) (fun l s0 H0 ex=>(z0s z0p z0M (pv 6) (z0c z08) (fun _ _=>rfl))) (z26 hnp rfl) (by intro _; rfl)) rfl (Or.inl rfl))
  refine (z06 ?_ ?_)
  ·exact (@z0x _ _ _ _ _ _ ([]) (4) _ hnp sc__law_due.nd rfl (by first | exact Or.inl rfl | exact Or.inr rfl) (z1t z1j z1T (@z1s _ _ ([7]) _ _ _ _ _ _ _ _ _ _ rfl (z0Q rfl rfl) (z2J (z07 (pv 2))) (fun l s0 H0 ex=>(@z0P _ _ _ _ ([]) (7) _ hnp sc__law_due.nd rfl (by first | exact Or.inl rfl | exact Or.inr rfl) (by first | exact Or.inl rfl | exact Or.inr rfl) (by decide))) (fun l s0 H0 ex=>(z77 (z1O (z2w hq) (z4o true) (z07 (pv 7)) (z0h (pv 3)) rfl))) (fun l s0 H0 ex=>(z07 (pv 7))) (z26 hnp rfl) (by intro _; rfl)) (z0c (@z1s _ _ ([7]) _ _ _ _ _ _ _ _ _ _ rfl (z0Q rfl rfl) (z2J (z07 (pv 3))) (fun l s0 H0 ex=>(@z0P _ _ _ _ ([]) (7) _ hnp sc__law_due.nd rfl (by first | exact Or.inl rfl | exact Or.inr rfl) (by first | exact Or.inl rfl | exact Or.inr rfl) (by decide))) (fun l s0 H0 ex=>(z77 (z1O (z2w hq) (z4o true) (z07 (pv 7)) (z0h (pv 2)) rfl))) (fun l s0 H0 ex=>(z07 (pv 7))) (z26 hnp rfl) (by intro _; rfl)))) rfl (Or.inl rfl))
  refine (z06 ?_ ?_)
  ·refine (z2g ?_ ?_ ?_)
   ·exact (z1N (z7V hq) zbh (pv 4) (z0c (z2k z0y (by decide))) (z19 _))
   ·refine (z0g ?_)
    refine (z0I ?_)
    exact (z17 (z01 (z2L [116,105,108,101] (by decide +kernel)) (z01 (zcK rfl rfl T.z_min (z0h (pv 4))) z0y (by rfl)) (by rfl)) (by decide))
   ·exact z1l
  refine (z06 ?_ ?_)
  ·refine (z2g ?_ ?_ ?_)
   ·exact (z1O z4N z3H (z1t z1G z1H (z0s z0p z0M (pv 0) (z0c z08) (fun _ _=>rfl)) (z0c (z0s z0p z0M (pv 1) (z0c z08) (fun _ _=>rfl)))) (z0c z08) (z19 _))
   ·refine (z0g ?_)
    refine (z0I ?_)
    exact (z17 (z01 (z2L [103,114,101,97,116] (by decide +kernel)) (z01 (z17 (z01 (z1t z1G z1H (z0s z0p z0M (pv 0) (z0c z08) (fun _ _=>rfl)) (z0c (z0s z0p z0M (pv 1) (z0c z08) (fun _ _=>rfl)))) (z01 z08 z0y (by rfl)) (by rfl)) (by decide)) z0y (by rfl)) (by rfl)) (by decide))
   ·exact z1l
  refine (z06 ?_ ?_)
  ·refine (z2g ?_ ?_ ?_)
   ·exact (z1O z4N z3H (z1t z1G z1H (z0s z0p z0M (pv 0) (z0c z08) (fun _ _=>rfl)) (z0c (z0s z0p z0M (pv 1) (z0c z08) (fun _ _=>rfl)))) (z0c z08) (z19 _))
   ·refine (z0g ?_)
    refine (z0I ?_)
    exact (z17 (z01 (z2L [103,114,101,97,116] (by decide +kernel)) (z01 (z17 (z01 (z1t z1G z1H (z0s z0p z0M (pv 0) (z0c z08) (fun _ _=>rfl)) (z0c (z0s z0p z0M (pv 1) (z0c z08) (fun _ _=>rfl)))) (z01 z08 z0y (by rfl)) (by rfl)) (by decide)) z0y (by rfl)) (by rfl)) (by decide))
   ·exact z1l
  refine (z06 ?_ ?_)
  ·exact (@z0x _ _ _ _ _ _ ([]) (5) _ hnp sc__law_due.nd rfl (by first | exact Or.inl rfl | exact Or.inr rfl) (z25 rfl T.z_tuple (z0c (@z1s _ _ ([7,8]) _ _ _ _ _ _ _ _ _ _ rfl (z0Q rfl rfl) (z2J (z0s z0p z0M (pv 0) (z0c z08) (fun _ _=>rfl))) (fun l s0 H0 ex=>(z79 rfl (z2j (@z0P _ _ _ _ ([]) (7) _ hnp sc__law_due.nd rfl (by first | exact Or.inl rfl | exact Or.inr rfl) (by first | exact Or.inl rfl | exact Or.inr rfl) (by decide)) (z2j (@z0P _ _ _ _ ([]) (8) _ hnp sc__law_due.nd rfl (by first | exact Or.inl rfl | exact Or.inr rfl) (by first | exact Or.inl rfl | exact Or.inr rfl) (by decide)) z5I (by rfl)) (by rfl)) (by rfl) (by rfl))) (fun l s0 H0 ex=>z1M) (fun l s0 H0 ex=>(z17 (z01 (z07 (pv 7)) (z01 (@z0r _ _ _ _ _ (1) _ _ _ _ _ k__law_grow z4W (hr.mono (by decide)) rfl (z09 (z07 (pv 1)) (z09 (z07 (pv 8)) z0w (by rfl)) (by rfl)) rfl (by decide) (by rfl) (by rfl)) z0y (by rfl)) (by rfl)) (by decide))) (z26 hnp rfl) (by intro _; rfl))) (by rfl)) rfl (Or.inl rfl))
  refine (z0g ?_)
  refine (z0I ?_)
  exact (z17 (z01 (z2L [116,111,108,100] (by decide +kernel)) (z01 (z17 (z01 (z1t z1G z1H (z0s z0p z0M (pv 0) (z0c z08) (fun _ _=>rfl)) (z0c (z0s z0p z0M (pv 1) (z0c z08) (fun _ _=>rfl)))) (z01 (z1t z1G z1H (z0s z0p z0M (pv 0) (z0c z08) (fun _ _=>rfl)) (z0c (z0s z0p z0M (pv 1) (z0c z08) (fun _ _=>rfl)))) (z01 (z07 (pv 5)) z0y (by rfl)) (by rfl)) (by rfl)) (by decide)) z0y (by rfl)) (by rfl)) (by decide))) fun ss y h=>z0W h
def z33:DS:=(dRet (z0N [1,2] (iSq (eOpF pIx 0 (bOf (eD (.int 2))))) (gTp 2 (z0f (gNm [] 1) (z0f (gNm [] 2) z1b))) dYes (eVar 1)))
def z0q:DF:=gOf [] 3 z33
theorem z2G:z1J z0q:=z0u
theorem sc_rule_tiles:FnScope ["rule","tile","block"] ["rule"] (z02 z2M):=⟨rfl,rfl,rfl,by decide +kernel,rfl,by decide +kernel,by decide +kernel⟩
theorem z5S {K:W2} (F:Fun K "rule_tiles" "rule_tiles" z2M f fd) (hm:mg "rule_tiles" = some (.ref f)) (hb:Binds K fd ["rule"] []) (T:Txt ce K mg):KFn P w K mg base 1 "rule_tiles" 1 z0q :=
 z1B (np:=[]) (fb:=z33) F hm hb sc_rule_tiles (fun c cdv A outer s H E hr hnp=>by
  have hq:=z2l hr
  refine (z0g ?_)
  refine (z0I ?_)
  exact (@z1s _ _ ([1,2]) _ _ _ _ _ _ _ _ _ _ rfl (z0Q rfl rfl) (z2J (z0s z0p z0M (pv 0) (z0c z08) (fun _ _=>rfl))) (fun l s0 H0 ex=>(z79 rfl (z2j (@z0P _ _ _ _ ([]) (1) _ hnp sc_rule_tiles.nd rfl (by first | exact Or.inl rfl | exact Or.inr rfl) (by first | exact Or.inl rfl | exact Or.inr rfl) (by decide)) (z2j (@z0P _ _ _ _ ([]) (2) _ hnp sc_rule_tiles.nd rfl (by first | exact Or.inl rfl | exact Or.inr rfl) (by first | exact Or.inl rfl | exact Or.inr rfl) (by decide)) z5I (by rfl)) (by rfl)) (by rfl) (by rfl))) (fun l s0 H0 ex=>z1M) (fun l s0 H0 ex=>(z07 (pv 1))) (z26 hnp rfl) (by intro _; rfl))) fun ss y h=>z0W h
def z20:DS:=(dSeq (dIf (dTr (eOpF pGt 0 (bVar 2))) (z2A [84,111,111,71,114,101,97,116] [[109,97,110,121],[109,111,115,116]] (z04 (eVar 0) (z04 (eVar 2) aNil))) z10) (dIf (dTr (eOpF pGt 1 (bVar 2))) (z2A [84,111,111,71,114,101,97,116] [[109,97,110,121],[109,111,115,116]] (z04 (eVar 1) (z04 (eVar 2) aNil))) z10))
def z0l:DX:=gOfX [] 3 z20
theorem z1U:z5b z0l:=z5x
theorem z4c:FnScope ["rows","columns","most"] ["rows","columns","most"] (z02 z1P):=⟨rfl,rfl,rfl,by decide +kernel,rfl,by decide +kernel,by decide +kernel⟩
theorem z4e {K:W2} (F:Fun K "refuse_beyond" "refuse_beyond" z1P f fd) (hm:mg "refuse_beyond" = some (.ref f)) (hb:Binds K fd ["rows","columns","most"] []) (T:Txt ce K mg) (n_i:IniK P w K mg base (ce [84,111,111,71,114,101,97,116]) ["many","most"]):KFnX P w K mg base 3 "refuse_beyond" 3 z0l :=
 zab (np:=[]) (fb:=z20) F hm hb z4c (fun c cdv A outer s H E hr hnp hxo=>by
  have hq:=z2l hr
  refine (z06 ?_ ?_)
  ·refine (z2g ?_ ?_ ?_)
   ·exact (z1N z4N z3H (pv 0) (z0h (pv 2)) (z19 _))
   ·refine (z0g ?_)
    exact (z4A [84,111,111,71,114,101,97,116] [[109,97,110,121],[109,111,115,116]] n_i (hr.mono (by decide)) rfl rfl T.c_i (z01 (z07 (pv 0)) (z01 (z07 (pv 2)) z0y (by rfl)) (by rfl)) hxo (by decide) (by decide +kernel) (by decide) (by decide +kernel) (by decide) (by rfl) (by rfl) (by rfl))
   ·exact z1l
  refine (z0g ?_)
  refine (z2g ?_ ?_ ?_)
  ·exact (z1N z4N z3H (pv 1) (z0h (pv 2)) (z19 _))
  ·refine (z0g ?_)
   exact (z4A [84,111,111,71,114,101,97,116] [[109,97,110,121],[109,111,115,116]] n_i (hr.mono (by decide)) rfl rfl T.c_i (z01 (z07 (pv 1)) (z01 (z07 (pv 2)) z0y (by rfl)) (by rfl)) hxo (by decide) (by decide +kernel) (by decide) (by decide +kernel) (by decide) (by rfl) (by rfl) (by rfl))
  ·exact z1l) fun ss y h=>z60 h
def z1I:DS:=(dFor (iSq (eC1 (z1q []) (bVar 1))) (gNm [] 2) (dIf (dTr (eOp (pIn true) (eVar 2) (bVar 0))) zaw z10))
def z0O:DF:=gOf [] 3 z1I
theorem z3b:z1J z0O:=z0u
theorem sc_refuse_strange:FnScope ["block_of","floor","tile"] ["block_of","floor"] (z02 z1F):=⟨rfl,rfl,rfl,by decide +kernel,rfl,by decide +kernel,by decide +kernel⟩
theorem z3X {K:W2} (F:Fun K "refuse_strange" "refuse_strange" z1F f fd) (hm:mg "refuse_strange" = some (.ref f)) (hb:Binds K fd ["block_of","floor"] []) (T:Txt ce K mg):KFn P w K mg base 1 "refuse_strange" 2 z0O :=
 z1B (np:=[]) (fb:=z1I) F hm hb sc_refuse_strange (fun c cdv A outer s H E hr hnp=>by
  have hq:=z2l hr
  refine (z0g ?_)
  refine (z24 PassesOwn.never rfl ?_ ?_ ?_ (by intro _; rfl))
  ·exact (z2J (z4B [] (z0h (pv 1)) (by decide +kernel) (by rfl) (by rfl) (by rfl) (by rfl)))
  ·exact (@z0G _ _ _ ([]) (2) _ hnp sc_refuse_strange.nd rfl (Or.inl rfl) (Or.inl rfl))
  ·refine (z0g ?_)
   refine (z2g ?_ ?_ ?_)
   ·exact (z1O (z2w hq) (z4o true) (z07 (pv 2)) (z0h (pv 0)) rfl)
   ·refine (z0g ?_)
    exact zaT
   ·exact z1l) fun ss y h=>z0W h
def z35:DS:=(dSeq (dFor (z0B (eVar 2)) (gNm [] 3) (dAsg (eOpF z1S 0 (bVar 1)) (gNm [] 0))) (dRet (eVar 0)))
def z0v:DF:=gOf [] 4 z35
theorem z2H:z1J z0v:=z0u
theorem sc_grown_size:FnScope ["size","factor","often","growing"] ["size","factor","often"] (z02 z2O):=⟨rfl,rfl,rfl,by decide +kernel,rfl,by decide +kernel,by decide +kernel⟩
theorem z5U {K:W2} (F:Fun K "grown_size" "grown_size" z2O f fd) (hm:mg "grown_size" = some (.ref f)) (hb:Binds K fd ["size","factor","often"] []) (T:Txt ce K mg):KFn P w K mg base 1 "grown_size" 3 z0v :=
 z1B (np:=[]) (fb:=z35) F hm hb sc_grown_size (fun c cdv A outer s H E hr hnp=>by
  have hq:=z2l hr
  refine (z06 ?_ ?_)
  ·refine (z24 PassesOwn.never rfl ?_ ?_ ?_ (by intro _; rfl))
   ·exact (z1h rfl T.z_range (z07 (pv 2)) (by rfl))
   ·exact (@z0G _ _ _ ([]) (3) _ hnp sc_grown_size.nd rfl (Or.inl rfl) (Or.inl rfl))
   ·refine (z0g ?_)
    exact (@z0x _ _ _ _ _ _ ([]) (0) _ hnp sc_grown_size.nd rfl (Or.inl rfl) (z3c z1G z1H (pv 0) (z0h (pv 1))) rfl (Or.inl rfl))
  refine (z0g ?_)
  refine (z0I ?_)
  exact (z07 (pv 0))) fun ss y h=>z0W h
abbrev z2C :DS:=(dSeq (dAsg (eLst aNil) (gNm [] 3)) (dSeq (dFor (iSq (eVar 2)) (gNm [] 4) (dFor (z0B (eVar 1)) (gNm [] 5) (z0o 3 (eC1 (z1q []) (bOf (z0N [6] (iSq (eVar 4)) (gNm [] 6) dYes (eOp pIx (eOpF pIxX 0 (bVar 6)) (bVar 5)))))))) (dRet (eC1 z15 (bVar 3)))))
def z34:DS:=z2C
def z0R:DF:=gOf [] 7 z34
theorem z4j:z1J z0R:=z0u
theorem sc_laid_floor:FnScope ["block_of","high","floor","rows","row","line","tile"] ["block_of","high","floor"] (z02 z2N):=⟨rfl,rfl,rfl,by decide +kernel,rfl,by decide +kernel,by decide +kernel⟩
theorem z5T {K:W2} (F:Fun K "laid_floor" "laid_floor" z2N f fd) (hm:mg "laid_floor" = some (.ref f)) (hb:Binds K fd ["block_of","high","floor"] []) (T:Txt ce K mg):KFn P w K mg base 1 "laid_floor" 3 z0R :=
 z1B (np:=[]) (fb:=z34) F hm hb sc_laid_floor (fun c cdv A outer s H E hr hnp=>by
  have hq:=z2l hr
  refine (z06 ?_ ?_)
  ·exact (@z0x _ _ _ _ _ _ ([]) (3) _ hnp sc_laid_floor.nd rfl (by first | exact Or.inl rfl | exact Or.inr rfl) (z2k z0y (by decide)) rfl (Or.inl rfl))
  refine (z06 ?_ ?_)
  ·refine (z24 PassesOwn.never rfl ?_ ?_ ?_ (by intro _; rfl))
   ·exact (z2J (z07 (pv 2)))
   ·exact (@z0G _ _ _ ([]) (4) _ hnp sc_laid_floor.nd rfl (by first | exact Or.inl rfl | exact Or.inr rfl) (Or.inl rfl))
   ·refine (z0g ?_)
    refine (z24 PassesOwn.never rfl ?_ ?_ ?_ (by intro _; rfl))
    ·exact (z1h rfl T.z_range (z07 (pv 1)) (by rfl))
    ·exact (@z0G _ _ _ ([]) (5) _ hnp sc_laid_floor.nd rfl (by first | exact Or.inl rfl | exact Or.inr rfl) (Or.inl rfl))
    ·refine (z0g ?_)
     exact (z1u (pv 3) (z4B [] (z0c (@z1s _ _ ([6]) _ _ _ _ _ _ _ _ _ _ rfl (z0Q rfl rfl) (z2J (z07 (pv 4))) (fun l s0 H0 ex=>(@z0P _ _ _ _ ([]) (6) _ hnp sc_laid_floor.nd rfl (by first | exact Or.inl rfl | exact Or.inr rfl) (by first | exact Or.inl rfl | exact Or.inr rfl) (by decide))) (fun l s0 H0 ex=>z1M) (fun l s0 H0 ex=>(zcL z0p z0M (z0s (ix_X hq) zc8 (pv 0) (z0h (pv 6)) (fun _ _=>rfl)) (z0h (pv 5)) (fun _ _=>rfl))) (z26 hnp rfl) (by intro _; rfl))) (by decide +kernel) (by rfl) (by rfl) (by rfl) (by rfl)) (by rfl) (by rfl) (by rfl) (by rfl) (by rfl))
  refine (z0g ?_)
  refine (z0I ?_)
  exact (z25 rfl T.z_tuple (z0h (pv 3)) (by rfl))) fun ss y h=>z0W h
def z2D:DS:=(dSeq (dAsg (eVar 0) (gTp 3 (z0f (gNm [] 3) (z0f (gNm [] 4) (z0f (gNm [] 5) z1b))))) (dSeq (dAsg (eC1 z3o (bVar 5)) (gNm [] 6)) (dSeq (z45 (z05 z0O [.val (eVar 6),.val (eVar 1)])) (dSeq (z45 (z5B z0l [.val (z05 z0v [.val (eC1 pLen (bVar 1)),.val (eVar 3),.val (eVar 2)]),.val (z05 z0v [.val (eC1 pLen (bOf (eOpF pIx 1 (bOf (eD (.int 0)))))),.val (eVar 4),.val (eVar 2)]),.val (eD (.int 64))])) (dSeq (dAsg (eVar 1) (gNm [] 7)) (dSeq (dFor (z0B (eVar 2)) (gNm [] 8) (dAsg (z05 z0R [.val (eVar 6),.val (eVar 3),.val (eVar 7)]) (gNm [] 7))) (dRet (eVar 7))))))))
def z14:DF:=gOf [] 9 z2D
theorem z41:z1J z14:=z0u
theorem sc_grown_often:FnScope ["rule","floor","often","high","wide","blocks","block_of","grown","growing"] ["rule","floor","often"] (z02 z2o):=⟨rfl,rfl,rfl,by decide +kernel,rfl,by decide +kernel,by decide +kernel⟩
theorem z5g {K:W2} (F:Fun K "grown_often" "grown_often" z2o f fd) (hm:mg "grown_often" = some (.ref f)) (hb:Binds K fd ["rule","floor","often"] []) (T:Txt ce K mg) (k_refuse_beyond:KFnX P w K mg base 3 "refuse_beyond" 3 z0l) (k_refuse_strange:KFn P w K mg base 1 "refuse_strange" 2 z0O) (k_grown_size:KFn P w K mg base 1 "grown_size" 3 z0v) (k_laid_floor:KFn P w K mg base 1 "laid_floor" 3 z0R):KFn P w K mg base 4 "grown_often" 3 z14 :=
 z1B (np:=[]) (fb:=z2D) F hm hb sc_grown_often (fun c cdv A outer s H E hr hnp=>by
  have hq:=z2l hr
  refine (z06 ?_ ?_)
  ·refine (z7L ?_ ?_ (by rfl) (by rfl) (by rfl))
   ·exact (z07 (pv 0))
   ·exact (z5s rfl (z1a (@z0G _ _ _ ([]) (3) _ hnp sc_grown_often.nd rfl (Or.inl rfl) (Or.inl rfl)) (z1a (@z0G _ _ _ ([]) (4) _ hnp sc_grown_often.nd rfl (Or.inl rfl) (Or.inl rfl)) (z1a (@z0G _ _ _ ([]) (5) _ hnp sc_grown_often.nd rfl (Or.inl rfl) (Or.inl rfl)) z3T (by rfl)) (by rfl)) (by rfl)) (by rfl) (by rfl))
  refine (z06 ?_ ?_)
  ·exact (@z0x _ _ _ _ _ _ ([]) (6) _ hnp sc_grown_often.nd rfl (Or.inl rfl) (z97 rfl rfl T.z_dict (z0h (pv 5)) (by rfl)) rfl (Or.inl rfl))
  refine (z06 ?_ ?_)
  ·exact (z5E (@z0r _ _ _ _ _ (1) _ _ _ _ _ k_refuse_strange z3b (hr.mono (by decide)) rfl (z09 (z07 (pv 6)) (z09 (z07 (pv 1)) z0w (by rfl)) (by rfl)) rfl (by decide) (by rfl) (by rfl)) (by rfl))
  refine (z06 ?_ ?_)
  ·exact (z5E (@zaZ _ _ _ _ _ (3) _ _ _ _ _ k_refuse_beyond z1U (hr.mono (by decide)) rfl rfl (z09 (@z0r _ _ _ _ _ (1) _ _ _ _ _ k_grown_size z2H (hr.mono (by decide)) rfl (z09 (z47 rfl T.z_len (z0h (pv 1)) (by rfl)) (z09 (z07 (pv 3)) (z09 (z07 (pv 2)) z0w (by rfl)) (by rfl)) (by rfl)) rfl (by decide) (by rfl) (by rfl)) (z09 (@z0r _ _ _ _ _ (1) _ _ _ _ _ k_grown_size z2H (hr.mono (by decide)) rfl (z09 (z47 rfl T.z_len (z0c (z0s z0p z0M (pv 1) (z0c z08) (fun _ _=>rfl))) (by rfl)) (z09 (z07 (pv 4)) (z09 (z07 (pv 2)) z0w (by rfl)) (by rfl)) (by rfl)) rfl (by decide) (by rfl) (by rfl)) (z09 (z4C rfl T.g_MOST_TILES (by decide)) z0w (by rfl)) (by rfl)) (by rfl)) rfl (by decide) (by rfl) (by rfl)) (by rfl))
  refine (z06 ?_ ?_)
  ·exact (@z0x _ _ _ _ _ _ ([]) (7) _ hnp sc_grown_often.nd rfl (Or.inl rfl) (z07 (pv 1)) rfl (Or.inl rfl))
  refine (z06 ?_ ?_)
  ·refine (z24 PassesOwn.never rfl ?_ ?_ ?_ (by intro _; rfl))
   ·exact (z1h rfl T.z_range (z07 (pv 2)) (by rfl))
   ·exact (@z0G _ _ _ ([]) (8) _ hnp sc_grown_often.nd rfl (Or.inl rfl) (Or.inl rfl))
   ·refine (z0g ?_)
    exact (@z0x _ _ _ _ _ _ ([]) (7) _ hnp sc_grown_often.nd rfl (Or.inl rfl) (@z0r _ _ _ _ _ (1) _ _ _ _ _ k_laid_floor z4j (hr.mono (by decide)) rfl (z09 (z07 (pv 6)) (z09 (z07 (pv 3)) (z09 (z07 (pv 7)) z0w (by rfl)) (by rfl)) (by rfl)) rfl (by decide) (by rfl) (by rfl)) rfl (Or.inl rfl))
  refine (z0g ?_)
  refine (z0I ?_)
  exact (z07 (pv 7))) fun ss y h=>z0W h
def z2E:DS:=(dRet (z05 z14 [.val (eVar 0),.val (eVar 1),.val (eD (.int 1))]))
def z0D:DF:=gOf [] 2 z2E
theorem z42:z1J z0D:=z0u
theorem z5d:FnScope ["rule","floor"] ["rule","floor"] (z02 z2p):=⟨rfl,rfl,rfl,by decide +kernel,rfl,by decide +kernel,by decide +kernel⟩
theorem z5h {K:W2} (F:Fun K "grown_floor" "grown_floor" z2p f fd) (hm:mg "grown_floor" = some (.ref f)) (hb:Binds K fd ["rule","floor"] []) (T:Txt ce K mg) (k_grown_often:KFn P w K mg base 4 "grown_often" 3 z14):KFn P w K mg base 5 "grown_floor" 2 z0D :=
 z1B (np:=[]) (fb:=z2E) F hm hb z5d (fun c cdv A outer s H E hr hnp=>by
  have hq:=z2l hr
  refine (z0g ?_)
  refine (z0I ?_)
  exact (@z0r _ _ _ _ _ (4) _ _ _ _ _ k_grown_often z41 (hr.mono (by decide)) rfl (z09 (z07 (pv 0)) (z09 (z07 (pv 1)) (z09 z08 z0w (by rfl)) (by rfl)) (by rfl)) rfl (by decide) (by rfl) (by rfl))) fun ss y h=>z0W h
def z1d:DS:=(dSeq (dAsg (z7s (z05 z0q [.val (eVar 0)]) (z05 z0q [.val (eVar 1)])) (gNm [] 2)) (dSeq (dIf (dTr (eOp pGt (eC1 pLen (bVar 2)) (bOf (eD (.int 0))))) (z2A [78,111,84,105,108,101] [[116,105,108,101]] (z04 (eOpF pIx 2 (bOf (eD (.int 0)))) aNil)) z10) (dSeq (dAsg (eOp z1S (eOpF pIx 0 (bOf (eD (.int 0)))) (bOf (eOpF pIx 1 (bOf (eD (.int 0)))))) (gNm [] 3)) (dSeq (dAsg (eOp z1S (eOpF pIx 0 (bOf (eD (.int 1)))) (bOf (eOpF pIx 1 (bOf (eD (.int 1)))))) (gNm [] 4)) (dSeq (z45 (z2Z z0l [.val (eVar 3),.val (eVar 4),.val (eD (.int 4))])) (dRet (eTup (z04 (eVar 3) (z04 (eVar 4) (z04 (eC1 z15 (bOf (z0N [5,6] (iSq (eOpF pIx 0 (bOf (eD (.int 2))))) (gTp 2 (z0f (gNm [] 5) (z0f (gNm [] 6) z1b))) dYes (eTup (z04 (eVar 5) (z04 (z05 z0D [.val (eVar 1),.val (eVar 6)]) aNil)))))) aNil))))))))))
def z1e:DX:=gOfX [] 7 z1d
theorem z40:z5b z1e:=z5x
theorem sc_joined_rule:FnScope ["rule","other","lone","high","wide","tile","block"] ["rule","other"] (z02 z2n):=⟨rfl,rfl,rfl,by decide +kernel,rfl,by decide +kernel,by decide +kernel⟩
theorem z5f {K:W2} (F:Fun K "joined_rule" "joined_rule" z2n f fd) (hm:mg "joined_rule" = some (.ref f)) (hb:Binds K fd ["rule","other"] []) (T:Txt ce K mg) (k_rule_tiles:KFn P w K mg base 1 "rule_tiles" 1 z0q) (k_refuse_beyond:KFnX P w K mg base 3 "refuse_beyond" 3 z0l) (k_grown_floor:KFn P w K mg base 5 "grown_floor" 2 z0D) (n_f:IniK P w K mg base (ce [78,111,84,105,108,101]) ["tile"]):KFnX P w K mg base 6 "joined_rule" 2 z1e :=
 zab (np:=[]) (fb:=z1d) F hm hb sc_joined_rule (fun c cdv A outer s H E hr hnp hxo=>by
  have hq:=z2l hr
  refine (z06 ?_ ?_)
  ·exact (@z0x _ _ _ _ _ _ ([]) (2) _ hnp sc_joined_rule.nd rfl (by first | exact Or.inl rfl | exact Or.inr rfl) (zcJ rfl rfl T.z_sorted rfl T.z_set (@z0r _ _ _ _ _ (1) _ _ _ _ _ k_rule_tiles z2G (hr.mono (by decide)) rfl (z09 (z07 (pv 0)) z0w (by rfl)) rfl (by decide) (by rfl) (by rfl)) (@z0r _ _ _ _ _ (1) _ _ _ _ _ k_rule_tiles z2G (hr.mono (by decide)) rfl (z09 (z07 (pv 1)) z0w (by rfl)) rfl (by decide) (by rfl) (by rfl))) rfl (Or.inl rfl))
  refine (z06 ?_ ?_)
  ·refine (z2g ?_ ?_ ?_)
   ·exact (z1O z4N z3H (z47 rfl T.z_len (z0h (pv 2)) (by rfl)) (z0c z08) (z19 _))
   ·refine (z0g ?_)
    exact (z4A [78,111,84,105,108,101] [[116,105,108,101]] n_f (hr.mono (by decide)) rfl rfl T.c_f (z01 (z0s z0p z0M (pv 2) (z0c z08) (fun _ _=>rfl)) z0y (by rfl)) hxo (by decide) (by decide +kernel) (by decide) (by decide +kernel) (by decide) (by rfl) (by rfl) (by rfl))
   ·exact z1l
  refine (z06 ?_ ?_)
  ·exact (@z0x _ _ _ _ _ _ ([]) (3) _ hnp sc_joined_rule.nd rfl (by first | exact Or.inl rfl | exact Or.inr rfl) (z1t z1G z1H (z0s z0p z0M (pv 0) (z0c z08) (fun _ _=>rfl)) (z0c (z0s z0p z0M (pv 1) (z0c z08) (fun _ _=>rfl)))) rfl (Or.inl rfl))
  refine (z06 ?_ ?_)
  ·exact (@z0x _ _ _ _ _ _ ([]) (4) _ hnp sc_joined_rule.nd rfl (by first | exact Or.inl rfl | exact Or.inr rfl) (z1t z1G z1H (z0s z0p z0M (pv 0) (z0c z08) (fun _ _=>rfl)) (z0c (z0s z0p z0M (pv 1) (z0c z08) (fun _ _=>rfl)))) rfl (Or.inl rfl))
  refine (z06 ?_ ?_)
  ·exact (z5E (@z7M _ _ _ _ _ (3) _ _ _ _ _ k_refuse_beyond z1U (hr.mono (by decide)) rfl hxo rfl (z09 (z07 (pv 3)) (z09 (z07 (pv 4)) (z09 (z4C rfl T.g_MOST_SIZE (by decide)) z0w (by rfl)) (by rfl)) (by rfl)) rfl (by decide) (by rfl) (by rfl)) (by rfl))
  refine (z0g ?_)
  refine (z0I ?_)
  exact (z17 (z01 (z07 (pv 3)) (z01 (z07 (pv 4)) (z01 (z25 rfl T.z_tuple (z0c (@z1s _ _ ([5,6]) _ _ _ _ _ _ _ _ _ _ rfl (z0Q rfl rfl) (z2J (z0s z0p z0M (pv 0) (z0c z08) (fun _ _=>rfl))) (fun l s0 H0 ex=>(z79 rfl (z2j (@z0P _ _ _ _ ([]) (5) _ hnp sc_joined_rule.nd rfl (by first | exact Or.inl rfl | exact Or.inr rfl) (by first | exact Or.inl rfl | exact Or.inr rfl) (by decide)) (z2j (@z0P _ _ _ _ ([]) (6) _ hnp sc_joined_rule.nd rfl (by first | exact Or.inl rfl | exact Or.inr rfl) (by first | exact Or.inl rfl | exact Or.inr rfl) (by decide)) z5I (by rfl)) (by rfl)) (by rfl) (by rfl))) (fun l s0 H0 ex=>z1M) (fun l s0 H0 ex=>(z17 (z01 (z07 (pv 5)) (z01 (@z0r _ _ _ _ _ (5) _ _ _ _ _ k_grown_floor z42 (hr.mono (by decide)) rfl (z09 (z07 (pv 1)) (z09 (z07 (pv 6)) z0w (by rfl)) (by rfl)) rfl (by decide) (by rfl) (by rfl)) z0y (by rfl)) (by rfl)) (by decide))) (z26 hnp rfl) (by intro _; rfl))) (by rfl)) z0y (by rfl)) (by rfl)) (by rfl)) (by decide))) fun ss y h=>z60 h
def z1w (ce:Tx→Nat):DS:=(dSeq (dAsg (eLst (z04 (eIsC ce ys (fun z=>z == [78,111,70,108,111,111,114]) (bVar 0)) (z04 (eIsC ce ys (fun z=>z == [78,111,80,108,97,99,101]) (bVar 0)) (z04 (eIsC ce ys (fun z=>z == [78,111,78,117,109,98,101,114]) (bVar 0)) (z04 (eIsC ce ys (fun z=>z == [78,111,82,111,119]) (bVar 0)) aNil))))) (gNm [] 1)) (dSeq (dAsg (eOpF pAdd 1 (bOf (eLst (z04 (eIsC ce ys (fun z=>z == [85,110,108,105,107,101]) (bVar 0)) (z04 (eIsC ce ys (fun z=>z == [78,111,84,105,108,101]) (bVar 0)) (z04 (eIsC ce ys (fun z=>z == [78,111,82,117,108,101]) (bVar 0)) (z04 (eIsC ce ys (fun z=>z == [78,111,84,101,120,116]) (bVar 0)) aNil))))))) (gNm [] 1)) (dSeq (z0o 1 (eIsC ce ys (fun z=>z == [84,111,111,71,114,101,97,116]) (bVar 0))) (dSeq (dIf (dOr (dNot (dTr (eIsC ce ys (fun _=>true) (bVar 0)))) (dTr (eOp pNe (eC1 z4K (bVar 1)) (bOf (eD (.int 1)))))) (dRet (eD (.str [111,116,104,101,114]))) z10) (dSeq (dAsg (zbG [.str [102,108,111,111,114],.str [112,108,97,99,101],.str [110,117,109,98,101,114],.str [114,111,119],.str [117,110,108,105,107,101],.str [116,105,108,101],.str [114,117,108,101],.str [116,101,120,116],.str [103,114,101,97,116]]) (gNm [] 2)) (dRet (eOpF pIx 2 (bOf (eC1 z3n (bVar 1))))))))))
def z0L (ce:Tx→Nat):DF:=gOf [] 3 (z1w ce)
theorem z3K {ce:Tx→Nat}:z1J (z0L ce):=z0u
theorem sc__law_kind_of:FnScope ["e","marks","words"] ["e"] (z02 z2b):=⟨rfl,rfl,rfl,by decide +kernel,rfl,by decide +kernel,by decide +kernel⟩
theorem z4d {K:W2} (F:Fun K "_law_kind_of" "_law_kind_of" z2b f fd) (hm:mg "_law_kind_of" = some (.ref f)) (hb:Binds K fd ["e"] []) (T:Txt ce K mg):KFnH P w K mg base 1 "_law_kind_of" 1 (z0L ce) :=
 zac (np:=[]) (fb:=(z1w ce)) F hm hb sc__law_kind_of (fun c cdv A outer s H E hr hnp=>by
  have hq:=zcf hr
  refine (z06 ?_ ?_)
  ·exact (@z0x _ _ _ _ _ _ ([]) (1) _ hnp sc__law_kind_of.nd rfl (Or.inl rfl) (z2k (z01 (z3D T.i_a rfl T.z_isinstance rfl T.c_a (z0h (pv 0)) (by decide) (by rfl) (by rfl)) (z01 (z3D T.i_b rfl T.z_isinstance rfl T.c_b (z0h (pv 0)) (by decide) (by rfl) (by rfl)) (z01 (z3D T.i_c rfl T.z_isinstance rfl T.c_c (z0h (pv 0)) (by decide) (by rfl) (by rfl)) (z01 (z3D T.i_d rfl T.z_isinstance rfl T.c_d (z0h (pv 0)) (by decide) (by rfl) (by rfl)) z0y (by rfl)) (by rfl)) (by rfl)) (by rfl)) (by decide)) rfl (Or.inl rfl))
  refine (z06 ?_ ?_)
  ·exact (@z0x _ _ _ _ _ _ ([]) (1) _ hnp sc__law_kind_of.nd rfl (Or.inl rfl) (z3c z1j z1T (pv 1) (z0c (z2k (z01 (z3D T.i_e rfl T.z_isinstance rfl T.c_e (z0h (pv 0)) (by decide) (by rfl) (by rfl)) (z01 (z3D T.i_f rfl T.z_isinstance rfl T.c_f (z0h (pv 0)) (by decide) (by rfl) (by rfl)) (z01 (z3D T.i_g rfl T.z_isinstance rfl T.c_g (z0h (pv 0)) (by decide) (by rfl) (by rfl)) (z01 (z3D T.i_h rfl T.z_isinstance rfl T.c_h (z0h (pv 0)) (by decide) (by rfl) (by rfl)) z0y (by rfl)) (by rfl)) (by rfl)) (by rfl)) (by decide)))) rfl (Or.inl rfl))
  refine (z06 ?_ ?_)
  ·exact (z1u (pv 1) (z3D T.i_i rfl T.z_isinstance rfl T.c_i (z0h (pv 0)) (by decide) (by rfl) (by rfl)) (by rfl) (by rfl) (by rfl) (by rfl) (by rfl))
  refine (z06 ?_ ?_)
  ·refine (z2g ?_ ?_ ?_)
   ·exact (z8X (ze1 (ze2 (z8W (ze8 T.i_ValueError rfl T.z_isinstance rfl T.z_ValueError z59 (z0h (pv 0)) (by decide) (by decide) (by rfl) (by rfl)) (by intro _; rfl))) (zbX (z1O (z7V hq) zbh (zaY (z0h (pv 1)) (by rfl) (by rfl) (by rfl) (by rfl)) (z0c z08) (z19 _)))))
   ·refine (z0g ?_)
    refine (z0I ?_)
    exact (z2L [111,116,104,101,114] (by decide +kernel))
   ·exact z1l
  refine (z06 ?_ ?_)
  ·exact (@z0x _ _ _ _ _ _ ([]) (2) _ hnp sc__law_kind_of.nd rfl (Or.inl rfl) (z6d (by rfl) (by decide)) rfl (Or.inl rfl))
  refine (z0g ?_)
  refine (z0I ?_)
  exact (z0s z0p z0M (pv 2) (z0c (zaW (z0h (pv 1)) (by rfl) (by rfl) (by rfl) (by rfl))) (fun _ _=>rfl))) fun ss y h=>z0W h
def z4a:DS:=(dRet (eAnd (eIsi "int" (bVar 0)) (eNot (eIsi "bool" (bVar 0)))))
def z1E:DF:=gOf [] 1 z4a
theorem z2I:z1J z1E:=z0u
theorem z5M:FnScope ["found"] ["found"] (z02 z2P):=⟨rfl,rfl,rfl,by decide +kernel,rfl,by decide +kernel,by decide +kernel⟩
theorem z5e {K:W2} (F:Fun K "_law_whole" "_law_whole" z2P f fd) (hm:mg "_law_whole" = some (.ref f)) (hb:Binds K fd ["found"] []) (T:Txt ce K mg):KFnH P w K mg base 1 "_law_whole" 1 z1E :=
 zac (np:=[]) (fb:=z4a) F hm hb z5M (fun c cdv A outer s H E hr hnp=>by
  have hq:=zcf hr
  refine (z0g ?_)
  refine (z0I ?_)
  exact (ze9 (zc0 T.ty_int rfl T.z_isinstance rfl T.z_int boot_int (z0h (pv 0)) (by decide) (by decide) (by rfl) (by rfl)) (ze5 (ze6 (zc0 T.ty_bool rfl T.z_isinstance rfl T.z_bool boot_bool (z0h (pv 0)) (by decide) (by decide) (by rfl) (by rfl)))))) fun ss y h=>z0W h
abbrev z31 (ce:Tx→Nat)(G0:DX)(G1:DF)(G2:DF):DS:=(dTry ce ys 2 (dRet (eTup (z04 (eD (.str [116,111,108,100])) (z04 (z2Z G0 [.val (eVar 0),.val (eVar 1)]) aNil)))) (dSeq (dAsg (z05 G1 [.val (eVar 2)]) (gNm [] 3)) (dSeq (dIf (dTr (eOpF pEq 3 (bOf (eD (.str [116,105,108,101]))))) (dRet (eTup (z04 (eVar 3) (z04 (z1Z ce ys [116,105,108,101] (bVar 2)) aNil)))) z10) (dSeq (dIf (dAnd (dTr (eOpF pEq 3 (bOf (eD (.str [103,114,101,97,116]))))) (dAnd (dTr (z05 G2 [.val (z1Z ce ys [109,97,110,121] (bVar 2))])) (dTr (z05 G2 [.val (z1Z ce ys [109,111,115,116] (bVar 2))])))) (dRet (eTup (z04 (eVar 3) (z04 (eTup (z04 (z1Z ce ys [109,97,110,121] (bVar 2)) (z04 (z1Z ce ys [109,111,115,116] (bVar 2)) aNil))) aNil)))) z10) (dRet (eTup (z04 (eVar 3) (z04 (eD .non) aNil))))))))
def z3w (ce:Tx→Nat):DS:=z31 ce z1e (z0L ce) z1E
def z0e (ce:Tx→Nat):DF:=gOf [] 4 (z3w ce)
theorem z2S {ce:Tx→Nat}:z1J (z0e ce):=z0u
theorem sc__law_told:FnScope ["rule","other","e","word"] ["rule","other"] (z02 z3i):=⟨rfl,rfl,rfl,by decide +kernel,rfl,by decide +kernel,by decide +kernel⟩
theorem z6r {K:W2} (F:Fun K "_law_told" "_law_told" z3i f fd) (hm:mg "_law_told" = some (.ref f)) (hb:Binds K fd ["rule","other"] []) (T:Txt ce K mg) (k_joined_rule:KFnX P w K mg base 6 "joined_rule" 2 z1e) (h__law_kind_of:KFnH P w K mg base 1 "_law_kind_of" 1 (z0L ce)) (h__law_whole:KFnH P w K mg base 1 "_law_whole" 1 z1E):KFn P w K mg base 7 "_law_told" 2 (z0e ce) :=
 z1B (np:=[]) (fb:=(z3w ce)) F hm hb sc__law_told (fun c cdv A outer s H E hr hnp=>by
  have hq:=z2l hr
  refine (z0g ?_)
  refine ze3 (ce:=ce) (ys:=ys) (i:=2) rfl hnp rfl rfl sc__law_told.nd rfl rfl rfl T.c_j T.q_j (fun y hy=>T.m_j y hy) ?_ ?_
  ·intro c pn xe hnp hxo
   refine (z0g ?_)
   refine (z0I ?_)
   exact (z17 (z01 (z2L [116,111,108,100] (by decide +kernel)) (z01 (@z7M _ _ _ _ _ (6) _ _ _ _ _ k_joined_rule z40 (hr.mono (by decide)) rfl hxo rfl (z09 (z07 (pv 0)) (z09 (z07 (pv 1)) z0w (by rfl)) (by rfl)) rfl (by decide) (by rfl) (by rfl)) z0y (by rfl)) (by rfl)) (by decide))
  ·intro ea
   refine (z06 ?_ ?_)
   ·exact (@z0x _ _ _ _ _ _ ([]) (3) _ hnp sc__law_told.nd rfl (Or.inl rfl) (@z5K _ _ _ _ _ (1) _ _ _ _ _ h__law_kind_of z3K ((hr.h.mono (by decide)).mark _) rfl (z09 (z07 (pv 2)) z0w (by rfl)) rfl (by decide) (by rfl) (by rfl)) rfl (Or.inl rfl))
   refine (z06 ?_ ?_)
   ·refine (z2g ?_ ?_ ?_)
    ·exact (z1N (z3e hq) z5j (pv 3) (z0c (z2L [116,105,108,101] (by decide +kernel))) (z19 _))
    ·refine (z0g ?_)
     refine (z0I ?_)
     exact (z17 (z01 (z07 (pv 3)) (z01 (z4E [116,105,108,101] T.at_tile (z0h (pv 2)) (by decide +kernel) (by rfl)) z0y (by rfl)) (by rfl)) (by decide))
    ·exact z1l
   refine (z06 ?_ ?_)
   ·refine (z2g ?_ ?_ ?_)
    ·exact (z8X (z7J (z1N (z3e hq) z5j (pv 3) (z0c (z2L [103,114,101,97,116] (by decide +kernel))) (z19 _)) (z7J (z8W (@z5K _ _ _ _ _ (1) _ _ _ _ _ h__law_whole z2I ((hr.h.mono (by decide)).mark _) rfl (z09 (z4E [109,97,110,121] T.at_many (z0h (pv 2)) (by decide +kernel) (by rfl)) z0w (by rfl)) rfl (by decide) (by rfl) (by rfl)) (by intro _; rfl)) (z76 (z8W (@z5K _ _ _ _ _ (1) _ _ _ _ _ h__law_whole z2I ((hr.h.mono (by decide)).mark _) rfl (z09 (z4E [109,111,115,116] T.at_most (z0h (pv 2)) (by decide +kernel) (by rfl)) z0w (by rfl)) rfl (by decide) (by rfl) (by rfl)) (by intro _; rfl))))))
    ·refine (z0g ?_)
     refine (z0I ?_)
     exact (z17 (z01 (z07 (pv 3)) (z01 (z17 (z01 (z4E [109,97,110,121] T.at_many (z0h (pv 2)) (by decide +kernel) (by rfl)) (z01 (z4E [109,111,115,116] T.at_most (z0h (pv 2)) (by decide +kernel) (by rfl)) z0y (by rfl)) (by rfl)) (by decide)) z0y (by rfl)) (by rfl)) (by decide))
    ·exact z1l
   refine (z0g ?_)
   refine (z0I ?_)
   exact (z17 (z01 (z07 (pv 3)) (z01 zbZ z0y (by rfl)) (by rfl)) (by decide))) fun ss y h=>z0W h
def zdM (ce:Tx→Nat):DS:=(dSeq (dFor (iSq (eOp pAdd (eLst (z04 (z05 z0Y [.val (eVar 0),.val (eD (.int 0))]) aNil)) (bOf (eSlN 0 (z2x (eD (.int 1))) (z2x (eD (.int 6))))))) (gNm [] 1) (dSeq (dAsg (z05 z0S [.val (eVar 1)]) (gNm [] 2)) (dSeq (dAsg (z05 z0E [.io 2,.val (eD (.int 4))]) (gNm [] 3)) (dSeq (dAsg (z0N [9] (iSq (eOpF pIx 3 (bOf (eD (.int 2))))) (gNm [] 9) dYes (eOpF pIx 9 (bOf (eD (.int 0))))) (gNm [] 4)) (dSeq (dAsg (z05 z0a [.io 2,.val (eD (.int 4))]) (gNm [] 5)) (dSeq (dIf (dTr (eOpF pEq 5 (bOf (eD (.int 0))))) (dAsg (eOpF pAdd 4 (bOf (eSl (z0N [10] (iSq (eD (.str [109,122]))) (gNm [] 10) (dTr (eOp (pIn true) (eVar 10) (bVar 4))) (eVar 10)) z4h (z2x (eD (.int 1)))))) (gNm [] 4)) z10) (dSeq (dIf (dAnd (dTr (eOpF pEq 5 (bOf (eD (.int 1))))) (dTr (eOp pGt (eC1 pLen (bVar 4)) (bOf (eD (.int 1)))))) (dAsg (eSlN 4 (z2x (eD (.int 1))) z4h) (gNm [] 4)) z10) (dSeq (dAsg (z05 z0F [.io 2,.val (eVar 4)]) (gNm [] 6)) (dFor (iSq (eLst (z04 (eTup (z04 (eVar 3) (z04 (eVar 6) aNil))) (z04 (eTup (z04 (eVar 6) (z04 (eVar 3) aNil))) (z04 (eTup (z04 (eVar 3) (z04 (eVar 3) aNil))) aNil))))) (gTp 2 (z0f (gNm [] 7) (z0f (gNm [] 8) z1b))) (dIf (dOr (dTr (eOp pNe (z05 (z0e ce) [.val (eVar 7),.val (eVar 8)]) (bOf (z05 z0m [.val (eVar 7),.val (eVar 8)])))) (dTr (eOp pNe (z05 (z0e ce) [.val (eVar 7),.val (eVar 8)]) (bOf (z05 z0m [.val (eVar 7),.val (eVar 8)]))))) (dRet (eD (.bl false))) z10)))))))))) (dRet (eD (.bl true))))
def z8P (ce:Tx→Nat):DF:=gOf [] 11 (zdM ce)
theorem zfa {ce:Tx→Nat}:z1J (z8P ce):=z0u
theorem sc_law:FnScope ["script","cell","pen","rule","tiles","way","other","one","two","pair","tile"] ["script"] (z02 z5N):=⟨rfl,rfl,rfl,by decide +kernel,rfl,by decide +kernel,by decide +kernel⟩
theorem zeS {K:W2} (F:Fun K "law" "law" z5N f fd) (T:Txt ce K mg) (k__law_cell_at:KFn P w K mg base 1 "_law_cell_at" 2 z0Y) (k__law_pen_of:KFn P w K mg base 1 "_law_pen_of" 1 z0S) (k__law_draw:KFn P w K mg base 2 "_law_draw" 2 z0a) (k__law_rule_by:KFn P w K mg base 4 "_law_rule_by" 2 z0E) (k__law_other_by:KFn P w K mg base 4 "_law_other_by" 2 z0F) (k__law_due:KFn P w K mg base 2 "_law_due" 2 z0m) (k__law_told:KFn P w K mg base 7 "_law_told" 2 (z0e ce)) {Gt:DF} (hGt:∀ ss y,Gt ss=some y→z8P ce ss=some y):FnOk P w K mg base CX0 8 f fd ["script"] (spD 1 Gt) :=
 zfm (np:=[]) (fb:=(zdM ce)) F sc_law (fun c cdv A outer s H E hr hnp=>by
  have hq:=z2l hr
  refine (@z06 _ _ _ _ _ _ ?_ ?_)
  ·refine (@z24 _ _ _ _ _ _ _ _ _ PassesOwn.never rfl ?_ ?_ ?_ (by intro _; rfl))
   ·exact (@z2J _ _ _ _ _ (@z1t _ _ _ _ _ _ _ _ _ _ z1j z1T (@z2k _ _ _ _ _ (@z01 _ _ _ _ _ _ (@z0r _ _ _ _ _ (1) _ _ _ _ _ k__law_cell_at z3L (hr.mono (by decide)) rfl (@z09 _ _ _ _ _ _ (@z07 _ _ _ _ (pv 0)) (@z09 _ _ _ _ _ _ (@z08 _ _ _ _ _) (@z0w _ _) (by rfl)) (by rfl)) rfl (by decide) (by rfl) (by rfl)) (@z0y _ _) (by rfl)) (by decide)) (@z0c _ _ _ _ (@zbY _ _ _ _ _ _ _ _ _ _ (pv 0) (@z5G _ _ _ _ (@z08 _ _ _ _ _)) (@z5G _ _ _ _ (@z08 _ _ _ _ _))))))
   ·exact (@z0G _ _ _ ([]) (1) _ hnp sc_law.nd rfl (by first | exact Or.inl rfl | exact Or.inr rfl) (Or.inl rfl))
   ·refine (@z06 _ _ _ _ _ _ ?_ ?_)
    ·exact (@z0x _ _ _ _ _ _ ([]) (2) _ hnp sc_law.nd rfl (by first | exact Or.inl rfl | exact Or.inr rfl) (@z0r _ _ _ _ _ (1) _ _ _ _ _ k__law_pen_of z43 (hr.mono (by decide)) rfl (@z09 _ _ _ _ _ _ (@z07 _ _ _ _ (pv 1)) (@z0w _ _) (by rfl)) rfl (by decide) (by rfl) (by rfl)) rfl (Or.inl rfl))
    refine (@z06 _ _ _ _ _ _ ?_ ?_)
    ·exact (@z0x _ _ _ _ _ _ ([]) (3) _ hnp sc_law.nd rfl (by first | exact Or.inl rfl | exact Or.inr rfl) (@z0r _ _ _ _ _ (4) _ _ _ _ _ k__law_rule_by z3J (hr.mono (by decide)) rfl (@z1y _ _ _ _ _ _ (pv 2) (@z09 _ _ _ _ _ _ (@z08 _ _ _ _ _) (@z0w _ _) (by rfl)) (by rfl)) rfl (by decide) (by rfl) (by rfl)) rfl (Or.inl rfl))
    refine (@z06 _ _ _ _ _ _ ?_ ?_)
    ·exact (@z0x _ _ _ _ _ _ ([]) (4) _ hnp sc_law.nd rfl (by first | exact Or.inl rfl | exact Or.inr rfl) (@z1s _ _ ([9]) _ _ _ _ _ _ _ _ _ _ rfl (@z0Q _ _ _ rfl rfl) (@z2J _ _ _ _ _ (@z0s _ _ _ _ _ _ _ _ _ z0p z0M (pv 3) (@z0c _ _ _ _ (@z08 _ _ _ _ _)) (fun _ _=>rfl))) (fun l s0 H0 ex=>(@z0P _ _ _ _ ([]) (9) _ hnp sc_law.nd rfl (by first | exact Or.inl rfl | exact Or.inr rfl) (by first | exact Or.inl rfl | exact Or.inr rfl) (by decide))) (fun l s0 H0 ex=>(@z1M _ _)) (fun l s0 H0 ex=>(@z0s _ _ _ _ _ _ _ _ _ z0p z0M (pv 9) (@z0c _ _ _ _ (@z08 _ _ _ _ _)) (fun _ _=>rfl))) (z26 hnp rfl) (by intro _; rfl)) rfl (Or.inl rfl))
    refine (@z06 _ _ _ _ _ _ ?_ ?_)
    ·exact (@z0x _ _ _ _ _ _ ([]) (5) _ hnp sc_law.nd rfl (by first | exact Or.inl rfl | exact Or.inr rfl) (@z0r _ _ _ _ _ (2) _ _ _ _ _ k__law_draw z0n (hr.mono (by decide)) rfl (@z1y _ _ _ _ _ _ (pv 2) (@z09 _ _ _ _ _ _ (@z08 _ _ _ _ _) (@z0w _ _) (by rfl)) (by rfl)) rfl (by decide) (by rfl) (by rfl)) rfl (Or.inl rfl))
    refine (@z06 _ _ _ _ _ _ ?_ ?_)
    ·refine (@z2g _ _ _ _ _ _ _ _ _ ?_ ?_ ?_)
     ·exact (@z1N _ _ _ _ _ _ _ _ _ _ (z3e hq) z5j (pv 5) (@z0c _ _ _ _ (@z08 _ _ _ _ _)) (z19 _))
     ·refine (@z0g _ _ _ _ ?_)
      exact (@z0x _ _ _ _ _ _ ([]) (4) _ hnp sc_law.nd rfl (by first | exact Or.inl rfl | exact Or.inr rfl) (@z3c _ _ _ _ _ _ _ _ _ _ z1j z1T (pv 4) (@z0c _ _ _ _ (@se_sl _ _ _ _ _ _ _ _ _ _ (@z1s _ _ ([10]) _ _ _ _ _ _ _ _ _ _ rfl (@z0Q _ _ _ rfl rfl) (@z2J _ _ _ _ _ (@z2L _ _ _ _ _ [109,122] (by decide +kernel))) (fun l s0 H0 ex=>(@z0P _ _ _ _ ([]) (10) _ hnp sc_law.nd rfl (by first | exact Or.inl rfl | exact Or.inr rfl) (by first | exact Or.inl rfl | exact Or.inr rfl) (by decide))) (fun l s0 H0 ex=>(@z77 _ _ _ _ (@z1O _ _ _ _ _ _ _ _ _ _ (@z2w _ hq) (@z4o _ true) (@z07 _ _ _ _ (pv 10)) (@z0h _ _ _ _ (pv 4)) rfl))) (fun l s0 H0 ex=>(@z07 _ _ _ _ (pv 10))) (z26 hnp rfl) (by intro _; rfl)) (@z93 _ _) (@z5G _ _ _ _ (@z08 _ _ _ _ _))))) rfl (Or.inl rfl))
     ·exact z1l
    refine (@z06 _ _ _ _ _ _ ?_ ?_)
    ·refine (@z2g _ _ _ _ _ _ _ _ _ ?_ ?_ ?_)
     ·exact (@z8X _ _ _ _ (@z7J _ _ _ _ _ _ _ _ (@z1N _ _ _ _ _ _ _ _ _ _ (z3e hq) z5j (pv 5) (@z0c _ _ _ _ (@z08 _ _ _ _ _)) (z19 _)) (@z76 _ _ _ _ _ (@z1O _ _ _ _ _ _ _ _ _ _ z4N z3H (@z47 _ _ _ _ _ _ rfl T.z_len (@z0h _ _ _ _ (pv 4)) (by rfl)) (@z0c _ _ _ _ (@z08 _ _ _ _ _)) (z19 _)))))
     ·refine (@z0g _ _ _ _ ?_)
      exact (@z0x _ _ _ _ _ _ ([]) (4) _ hnp sc_law.nd rfl (by first | exact Or.inl rfl | exact Or.inr rfl) (@zbY _ _ _ _ _ _ _ _ _ _ (pv 4) (@z5G _ _ _ _ (@z08 _ _ _ _ _)) (@z93 _ _)) rfl (Or.inl rfl))
     ·exact z1l
    refine (@z06 _ _ _ _ _ _ ?_ ?_)
    ·exact (@z0x _ _ _ _ _ _ ([]) (6) _ hnp sc_law.nd rfl (by first | exact Or.inl rfl | exact Or.inr rfl) (@z0r _ _ _ _ _ (4) _ _ _ _ _ k__law_other_by z3r (hr.mono (by decide)) rfl (@z1y _ _ _ _ _ _ (pv 2) (@z09 _ _ _ _ _ _ (@z07 _ _ _ _ (pv 4)) (@z0w _ _) (by rfl)) (by rfl)) rfl (by decide) (by rfl) (by rfl)) rfl (Or.inl rfl))
    refine (@z0g _ _ _ _ ?_)
    refine (@z24 _ _ _ _ _ _ _ _ _ PassesOwn.never rfl ?_ ?_ ?_ (by intro _; rfl))
    ·exact (@z2J _ _ _ _ _ (@z2k _ _ _ _ _ (@z01 _ _ _ _ _ _ (@z17 _ _ _ _ _ _ (@z01 _ _ _ _ _ _ (@z07 _ _ _ _ (pv 3)) (@z01 _ _ _ _ _ _ (@z07 _ _ _ _ (pv 6)) (@z0y _ _) (by rfl)) (by rfl)) (by decide)) (@z01 _ _ _ _ _ _ (@z17 _ _ _ _ _ _ (@z01 _ _ _ _ _ _ (@z07 _ _ _ _ (pv 6)) (@z01 _ _ _ _ _ _ (@z07 _ _ _ _ (pv 3)) (@z0y _ _) (by rfl)) (by rfl)) (by decide)) (@z01 _ _ _ _ _ _ (@z17 _ _ _ _ _ _ (@z01 _ _ _ _ _ _ (@z07 _ _ _ _ (pv 3)) (@z01 _ _ _ _ _ _ (@z07 _ _ _ _ (pv 3)) (@z0y _ _) (by rfl)) (by rfl)) (by decide)) (@z0y _ _) (by rfl)) (by rfl)) (by rfl)) (by decide)))
    ·exact (@z5s _ _ _ _ _ _ _ rfl (@z1a _ _ _ _ _ _ (@z0G _ _ _ ([]) (7) _ hnp sc_law.nd rfl (by first | exact Or.inl rfl | exact Or.inr rfl) (Or.inl rfl)) (@z1a _ _ _ _ _ _ (@z0G _ _ _ ([]) (8) _ hnp sc_law.nd rfl (by first | exact Or.inl rfl | exact Or.inr rfl) (Or.inl rfl)) (@z3T _ _) (by rfl)) (by rfl)) (by rfl) (by rfl))
    ·refine (@z0g _ _ _ _ ?_)
     refine (@z2g _ _ _ _ _ _ _ _ _ ?_ ?_ ?_)
     ·exact (@z8X _ _ _ _ (@ze1 _ _ _ _ _ _ _ _ (@z1O _ _ _ _ _ _ _ _ _ _ (z7V hq) zbh (@z0r _ _ _ _ _ (7) _ _ _ _ _ k__law_told z2S (hr.mono (by decide)) rfl (@z09 _ _ _ _ _ _ (@z07 _ _ _ _ (pv 7)) (@z09 _ _ _ _ _ _ (@z07 _ _ _ _ (pv 8)) (@z0w _ _) (by rfl)) (by rfl)) rfl (by decide) (by rfl) (by rfl)) (@z0c _ _ _ _ (@z0r _ _ _ _ _ (2) _ _ _ _ _ k__law_due z3f (hr.mono (by decide)) rfl (@z09 _ _ _ _ _ _ (@z07 _ _ _ _ (pv 7)) (@z09 _ _ _ _ _ _ (@z07 _ _ _ _ (pv 8)) (@z0w _ _) (by rfl)) (by rfl)) rfl (by decide) (by rfl) (by rfl))) (z19 _)) (@zbX _ _ _ _ _ (@z1O _ _ _ _ _ _ _ _ _ _ (z7V hq) zbh (@z0r _ _ _ _ _ (7) _ _ _ _ _ k__law_told z2S (hr.mono (by decide)) rfl (@z09 _ _ _ _ _ _ (@z07 _ _ _ _ (pv 7)) (@z09 _ _ _ _ _ _ (@z07 _ _ _ _ (pv 8)) (@z0w _ _) (by rfl)) (by rfl)) rfl (by decide) (by rfl) (by rfl)) (@z0c _ _ _ _ (@z0r _ _ _ _ _ (2) _ _ _ _ _ k__law_due z3f (hr.mono (by decide)) rfl (@z09 _ _ _ _ _ _ (@z07 _ _ _ _ (pv 7)) (@z09 _ _ _ _ _ _ (@z07 _ _ _ _ (pv 8)) (@z0w _ _) (by rfl)) (by rfl)) rfl (by decide) (by rfl) (by rfl))) (z19 _)))))
     ·refine (@z0g _ _ _ _ ?_)
      refine (@z0I _ _ _ _ _ ?_)
      exact (@zcO _ _ _ _ _)
     ·exact z1l
  refine (@z0g _ _ _ _ ?_)
  refine (@z0I _ _ _ _ _ ?_)
  exact (@zcO _ _ _ _ _)) fun ss y h=>z0W (hGt ss y h)
theorem all_mk {l:PySem.W.OpenLaw} {w:Wp} {K:W2} {h:Heap} {mg:Str→Option Value} {fa:Addr} {Gt:DF} (hGt:∀ ce,InjC ce→∀ ss y,Gt ss=some y→z8P ce ss=some y) (X:K.In h) (G:h.Ns Wq mg) (hfa:mg "law" = some (.ref fa))
  (d0:FnH K "_law_cell_at" z2c)
  (d1:FnH K "_law_pen_of" z2q)
  (d2:FnH K "_law_next" z3k)
  (d3:FnH K "_law_draw" z3m)
  (d4:FnH K "_law_sizes_by" z1Q)
  (d5:FnH K "_law_pick" z3j)
  (d6:FnH K "_law_rule_by" z2a)
  (d7:FnH K "_law_other_by" z1R)
  (d8:FnH K "_law_grow" z3l)
  (d9:FnH K "_law_due" z3U)
  (d10:FnH K "rule_tiles" z2M)
  (d11:FnH K "refuse_beyond" z1P)
  (d12:FnH K "refuse_strange" z1F)
  (d13:FnH K "grown_size" z2O)
  (d14:FnH K "laid_floor" z2N)
  (d15:FnH K "grown_often" z2o)
  (d16:FnH K "grown_floor" z2p)
  (d17:FnH K "joined_rule" z2n)
  (d18:FnH K "_law_kind_of" z2b)
  (d19:FnH K "_law_whole" z2P)
  (d20:FnH K "_law_told" z3i)
  (a21:nsIn K Wq "law" = some (some (.ref f21)))
  (l21:K.lookup f21=some ⟨oc21,od21,.func (Qm "law" "law" (z2d z5N) (z13 z5N) (z02 z5N) .none kV21 dc21 pm21 an21 cd21 ct21),sl21⟩)
  (c21:codeIn K cd21 "law" = true)
  (k21:keepIn K (.ref f21)=true)
  (z_ValueError:nsIn K Wq "ValueError" = some none)
  (z_bool:nsIn K Wq "bool" = some none)
  (z_dict:nsIn K Wq "dict" = some none)
  (z_int:nsIn K Wq "int" = some none)
  (z_isinstance:nsIn K Wq "isinstance" = some none)
  (z_len:nsIn K Wq "len" = some none)
  (z_max:nsIn K Wq "max" = some none)
  (z_min:nsIn K Wq "min" = some none)
  (z_range:nsIn K Wq "range" = some none)
  (z_set:nsIn K Wq "set" = some none)
  (z_sorted:nsIn K Wq "sorted" = some none)
  (z_tuple:nsIn K Wq "tuple" = some none)
  (g_MOST_SIZE:nsIn K Wq "MOST_SIZE" = some (some (.int 4 t_MOST_SIZE)))
  (g_MOST_TILES:nsIn K Wq "MOST_TILES" = some (some (.int 64 t_MOST_TILES)))
  (ac_j:nsIn K Wq "FloorError" = some (some (.ref C_j)))
  (ac_a:nsIn K Wq "NoFloor" = some (some (.ref C_a)))
  (ac_b:nsIn K Wq "NoPlace" = some (some (.ref C_b)))
  (ac_c:nsIn K Wq "NoNumber" = some (some (.ref C_c)))
  (ac_d:nsIn K Wq "NoRow" = some (some (.ref C_d)))
  (ac_e:nsIn K Wq "Unlike" = some (some (.ref C_e)))
  (ac_f:nsIn K Wq "NoTile" = some (some (.ref C_f)))
  (ac_g:nsIn K Wq "NoRule" = some (some (.ref C_g)))
  (ac_h:nsIn K Wq "NoText" = some (some (.ref C_h)))
  (ac_i:nsIn K Wq "TooGreat" = some (some (.ref C_i)))
  (ia_f:Qp K (.ref C_f) "__init__" = some (some (.ref fi_f)))
  (li_f:K.lookup fi_f=some ⟨oci_f,odi_f,.func (Qm "__init__" "NoTile.__init__" (z2d si_f) (z13 si_f) (z02 si_f) .none kVi_f dci_f pmi_f ani_f cdi_f cti_f),sli_f⟩)
  (cci_f:codeIn K cdi_f "NoTile.__init__" = true)
  (kfi_f:keepIn K (.ref fi_f)=true)
  (qi_f:excI K C_f fi_f=true)
  (fni_f:PySem.W.isFn K (.ref fi_f)=true)
  (kci_f:keepIn K (.ref C_f)=true)
  (sai_f:Qp K (.ref C_f) "__setattr__" = some (some (.builtin "object.__setattr__")))
  (ovi_f:z5t K C_f=true)
  (hdi_f:J4 K C_f=true)
  (tki_f_tile:PySem.W.takerIn K C_f "tile" = some none)
  (ia_i:Qp K (.ref C_i) "__init__" = some (some (.ref fi_i)))
  (li_i:K.lookup fi_i=some ⟨oci_i,odi_i,.func (Qm "__init__" "TooGreat.__init__" (z2d si_i) (z13 si_i) (z02 si_i) .none kVi_i dci_i pmi_i ani_i cdi_i cti_i),sli_i⟩)
  (cci_i:codeIn K cdi_i "TooGreat.__init__" = true)
  (kfi_i:keepIn K (.ref fi_i)=true)
  (qi_i:excI K C_i fi_i=true)
  (fni_i:PySem.W.isFn K (.ref fi_i)=true)
  (kci_i:keepIn K (.ref C_i)=true)
  (sai_i:Qp K (.ref C_i) "__setattr__" = some (some (.builtin "object.__setattr__")))
  (ovi_i:z5t K C_i=true)
  (hdi_i:J4 K C_i=true)
  (tki_i_many:PySem.W.takerIn K C_i "many" = some none)
  (tki_i_most:PySem.W.takerIn K C_i "most" = some none)
  (qc_j:PySem.W.excIn K C_j vErr "ValueError.__new__" = true)
  (spc:PySem.W.specialIn K (.builtin "object.__class__") "__get__" = some (some (.builtin "getset_descriptor.__get__")))
  (tkc:PySem.W.takesIn K (.builtin "object.__class__")=some true)
  (ga_f:Qp K (.ref C_f) "__getattribute__" = some (some (.builtin "BaseException.__getattribute__")))
  (gt_f:Qp K (.ref C_f) "__getattr__" = some none)
  (cl_f:Qp K (.ref C_f) "__class__" = some (some (.builtin "object.__class__")))
  (mo_f:mroIn K C_f (.type "object")=some true)
  (mb_f:mroIn K C_f (.type "BaseException")=some true)
  (ci_f:PySem.W.isClsIn K C_f=true)
  (kv_f:QA K (.ref C_f) (.type "ValueError")=some true)
  (no_f_many:Qp K (.ref C_f) "many" = some none)
  (no_f_most:Qp K (.ref C_f) "most" = some none)
  (no_f_tile:Qp K (.ref C_f) "tile" = some none)
  (hx_f:J4 K C_f=true)
  (ki_f_a:QA K (.ref C_f) (.ref C_a)=some false)
  (ki_f_b:QA K (.ref C_f) (.ref C_b)=some false)
  (ki_f_c:QA K (.ref C_f) (.ref C_c)=some false)
  (ki_f_d:QA K (.ref C_f) (.ref C_d)=some false)
  (ki_f_e:QA K (.ref C_f) (.ref C_e)=some false)
  (ki_f_f:QA K (.ref C_f) (.ref C_f)=some true)
  (ki_f_g:QA K (.ref C_f) (.ref C_g)=some false)
  (ki_f_h:QA K (.ref C_f) (.ref C_h)=some false)
  (ki_f_i:QA K (.ref C_f) (.ref C_i)=some false)
  (mr_f_j:mroIn K C_f (.ref C_j)=some true)
  (ga_i:Qp K (.ref C_i) "__getattribute__" = some (some (.builtin "BaseException.__getattribute__")))
  (gt_i:Qp K (.ref C_i) "__getattr__" = some none)
  (cl_i:Qp K (.ref C_i) "__class__" = some (some (.builtin "object.__class__")))
  (mo_i:mroIn K C_i (.type "object")=some true)
  (mb_i:mroIn K C_i (.type "BaseException")=some true)
  (ci_i:PySem.W.isClsIn K C_i=true)
  (kv_i:QA K (.ref C_i) (.type "ValueError")=some true)
  (no_i_many:Qp K (.ref C_i) "many" = some none)
  (no_i_most:Qp K (.ref C_i) "most" = some none)
  (no_i_tile:Qp K (.ref C_i) "tile" = some none)
  (hx_i:J4 K C_i=true)
  (ki_i_a:QA K (.ref C_i) (.ref C_a)=some false)
  (ki_i_b:QA K (.ref C_i) (.ref C_b)=some false)
  (ki_i_c:QA K (.ref C_i) (.ref C_c)=some false)
  (ki_i_d:QA K (.ref C_i) (.ref C_d)=some false)
  (ki_i_e:QA K (.ref C_i) (.ref C_e)=some false)
  (ki_i_f:QA K (.ref C_i) (.ref C_f)=some false)
  (ki_i_g:QA K (.ref C_i) (.ref C_g)=some false)
  (ki_i_h:QA K (.ref C_i) (.ref C_h)=some false)
  (ki_i_i:QA K (.ref C_i) (.ref C_i)=some true)
  (mr_i_j:mroIn K C_i (.ref C_j)=some true)
  : ∃ fd:WM,(∀ (s:W1) (v:Value),BindsTo s fd ⟨[v],[]⟩ [("script",v)])∧∀ base:Heap,K.In base→base.Ns Wq mg→FnOk l.prog w K mg base CX0 8 fa fd ["script"] (spD 1 Gt):=by
 have e:=hfa.symm.trans (mg_of X G a21)
 cases e
 have E_f:ExcK K C_f:=⟨ga_f,gt_f,cl_f,spc,tkc,mo_f,mb_f⟩
 have E_i:ExcK K C_i:=⟨ga_i,gt_i,cl_i,spc,tkc,mo_i,mb_i⟩
 have T:Txt (ceOf [([70,108,111,111,114,69,114,114,111,114],C_j),([78,111,70,108,111,111,114],C_a),([78,111,80,108,97,99,101],C_b),([78,111,78,117,109,98,101,114],C_c),([78,111,82,111,119],C_d),([85,110,108,105,107,101],C_e),([78,111,84,105,108,101],C_f),([78,111,82,117,108,101],C_g),([78,111,84,101,120,116],C_h),([84,111,111,71,114,101,97,116],C_i)]) K mg:=⟨WQ X G z_ValueError,WQ X G z_bool,WQ X G z_dict,WQ X G z_int,WQ X G z_isinstance,WQ X G z_len,WQ X G z_max,WQ X G z_min,WQ X G z_range,WQ X G z_set,WQ X G z_sorted,WQ X G z_tuple,zaP,zcv,⟨_,mg_of X G g_MOST_SIZE⟩,⟨_,mg_of X G g_MOST_TILES⟩,mg_of X G ac_j,mg_of X G ac_a,mg_of X G ac_b,mg_of X G ac_c,mg_of X G ac_d,mg_of X G ac_e,mg_of X G ac_f,mg_of X G ac_g,mg_of X G ac_h,mg_of X G ac_i,qc_j,⟨(fm2 E_f E_i),(fm2 ci_f ci_i),(fm2 ki_f_a ki_i_a)⟩,⟨(fm2 E_f E_i),(fm2 ci_f ci_i),(fm2 ki_f_b ki_i_b)⟩,⟨(fm2 E_f E_i),(fm2 ci_f ci_i),(fm2 ki_f_c ki_i_c)⟩,⟨(fm2 E_f E_i),(fm2 ci_f ci_i),(fm2 ki_f_d ki_i_d)⟩,⟨(fm2 E_f E_i),(fm2 ci_f ci_i),(fm2 ki_f_e ki_i_e)⟩,⟨(fm2 E_f E_i),(fm2 ci_f ci_i),(fm2 ki_f_f ki_i_f)⟩,⟨(fm2 E_f E_i),(fm2 ci_f ci_i),(fm2 ki_f_g ki_i_g)⟩,⟨(fm2 E_f E_i),(fm2 ci_f ci_i),(fm2 ki_f_h ki_i_h)⟩,⟨(fm2 E_f E_i),(fm2 ci_f ci_i),(fm2 ki_f_i ki_i_i)⟩,⟨(fm2 E_f E_i),(fm2 no_f_many no_i_many),(fm2 hx_f hx_i)⟩,⟨(fm2 E_f E_i),(fm2 no_f_most no_i_most),(fm2 hx_f hx_i)⟩,⟨(fm2 E_f E_i),(fm2 no_f_tile no_i_tile),(fm2 hx_f hx_i)⟩,⟨(fm2 E_f E_i),(fm2 ci_f ci_i),(fm2 kv_f kv_i)⟩,(fm2 ⟨(by rw [show toS [78,111,84,105,108,101]=("NoTile" : Str) from by decide +kernel]; exact mg_of X G ac_f),mr_f_j⟩ ⟨(by rw [show toS [84,111,111,71,114,101,97,116]=("TooGreat" : Str) from by decide +kernel]; exact mg_of X G ac_i),mr_i_j⟩)⟩
 have ne_f_i:C_f≠C_i:=fun q=>by rw [q] at ki_f_i; cases ki_f_i.symm.trans ki_i_i
 have ne_i_f:C_i≠C_f:=fun q=>by rw [q] at ki_i_f; cases ki_i_f.symm.trans ki_f_f
 have hinj:InjC (ceOf [([70,108,111,111,114,69,114,114,111,114],C_j),([78,111,70,108,111,111,114],C_a),([78,111,80,108,97,99,101],C_b),([78,111,78,117,109,98,101,114],C_c),([78,111,82,111,119],C_d),([85,110,108,105,107,101],C_e),([78,111,84,105,108,101],C_f),([78,111,82,117,108,101],C_g),([78,111,84,101,120,116],C_h),([84,111,111,71,114,101,97,116],C_i)]):=by
  intro x hx y hy e
  simp only [ys,Wg,List.not_mem_nil,or_false] at hx hy
  rcases hx with rfl | rfl <;> rcases hy with rfl | rfl <;> first | rfl | exact absurd e ne_f_i | exact absurd e ne_i_f
 obtain ⟨f0,fd0,F0,m0⟩:=fnH X G d0
 obtain ⟨f1,fd1,F1,m1⟩:=fnH X G d1
 obtain ⟨f2,fd2,F2,m2⟩:=fnH X G d2
 obtain ⟨f3,fd3,F3,m3⟩:=fnH X G d3
 obtain ⟨f4,fd4,F4,m4⟩:=fnH X G d4
 obtain ⟨f5,fd5,F5,m5⟩:=fnH X G d5
 obtain ⟨f6,fd6,F6,m6⟩:=fnH X G d6
 obtain ⟨f7,fd7,F7,m7⟩:=fnH X G d7
 obtain ⟨f8,fd8,F8,m8⟩:=fnH X G d8
 obtain ⟨f9,fd9,F9,m9⟩:=fnH X G d9
 obtain ⟨f10,fd10,F10,m10⟩:=fnH X G d10
 obtain ⟨f11,fd11,F11,m11⟩:=fnH X G d11
 obtain ⟨f12,fd12,F12,m12⟩:=fnH X G d12
 obtain ⟨f13,fd13,F13,m13⟩:=fnH X G d13
 obtain ⟨f14,fd14,F14,m14⟩:=fnH X G d14
 obtain ⟨f15,fd15,F15,m15⟩:=fnH X G d15
 obtain ⟨f16,fd16,F16,m16⟩:=fnH X G d16
 obtain ⟨f17,fd17,F17,m17⟩:=fnH X G d17
 obtain ⟨f18,fd18,F18,m18⟩:=fnH X G d18
 obtain ⟨f19,fd19,F19,m19⟩:=fnH X G d19
 obtain ⟨f20,fd20,F20,m20⟩:=fnH X G d20
 have F21:=z85 (st:=z5N) l21 c21 k21
 have Fi_f:=z85 (st:=si_f) li_f cci_f kfi_f
 have bi_f:Binds K _ ["self","tile"] []:=bd2 Fi_f fun _ _ _ _ _ _ _ _=>rfl
 have Fi_i:=z85 (st:=si_i) li_i cci_i kfi_i
 have bi_i:Binds K _ ["self","many","most"] []:=bd3 Fi_i fun _ _ _ _ _ _ _ _ _=>rfl
 refine ⟨Qm "law" "law" (z2d z5N) (z13 z5N) (z02 z5N) .none kV21 dc21 pm21 an21 cd21 ct21,fun s v=>.of_eq rfl,fun base _ _=>?_⟩
 have n_f:IniK l.prog w K mg base C_f ["tile"]:=⟨fi_f,_,["self","tile"],qi_f,fni_f,kci_f,(List.forall_mem_cons.mpr ⟨⟨sai_f,ovi_f,hdi_f,tki_f_tile⟩,(fun _ h=>nomatch h)⟩),bi_f,zbC Fi_f sci_f rfl (fun vs h=>by unfold L2.start; simp [h]) fun cdv A outer s H E hr=>z7f (z9r rfl (pv 0) (pv 1) rfl)⟩
 have n_i:IniK l.prog w K mg base C_i ["many","most"]:=⟨fi_i,_,["self","many","most"],qi_i,fni_i,kci_i,(List.forall_mem_cons.mpr ⟨⟨sai_i,ovi_i,hdi_i,tki_i_many⟩,(List.forall_mem_cons.mpr ⟨⟨sai_i,ovi_i,hdi_i,tki_i_most⟩,(fun _ h=>nomatch h)⟩)⟩),bi_i,zbB Fi_i sci_i (by decide) rfl (fun vs h=>by unfold L2.start; simp [h]) fun cdv A outer s H E hr=>z7Q (z9r rfl (pv 0) (pv 1) rfl) (z7f (zb5 (pv 0) (pv 2) rfl))⟩
 have k__law_cell_at:=z4P (P:=l.prog) (w:=w) (base:=base) F0 m0 (bd2 F0 fun _ _ _ _ _ _ _ _=>rfl) T
 have k__law_pen_of:=z5i (P:=l.prog) (w:=w) (base:=base) F1 m1 (bd1 F1 fun _ _ _ _ _ _ _=>rfl) T
 have k__law_next:=z6t (P:=l.prog) (w:=w) (base:=base) F2 m2 (bd1 F2 fun _ _ _ _ _ _ _=>rfl) T
 have k__law_draw:=z6v F3 m3 (bd2 F3 fun _ _ _ _ _ _ _ _=>rfl) T k__law_next
 have k__law_sizes_by:=z4f F4 m4 (bd1 F4 fun _ _ _ _ _ _ _=>rfl) T k__law_draw
 have k__law_pick:=z6s F5 m5 (bd4 F5 fun _ _ _ _ _ _ _ _ _ _=>rfl) T k__law_draw
 have k__law_rule_by:=z4O F6 m6 (bd2 F6 fun _ _ _ _ _ _ _ _=>rfl) T k__law_draw k__law_sizes_by k__law_pick
 have k__law_other_by:=z4g F7 m7 (bd2 F7 fun _ _ _ _ _ _ _ _=>rfl) T k__law_draw k__law_sizes_by
 have k__law_grow:=z6u (P:=l.prog) (w:=w) (base:=base) F8 m8 (bd2 F8 fun _ _ _ _ _ _ _ _=>rfl) T
 have k__law_due:=z7i F9 m9 (bd2 F9 fun _ _ _ _ _ _ _ _=>rfl) T k__law_grow
 have k_rule_tiles:=z5S (P:=l.prog) (w:=w) (base:=base) F10 m10 (bd1 F10 fun _ _ _ _ _ _ _=>rfl) T
 have k_refuse_beyond:=z4e F11 m11 (bd3 F11 fun _ _ _ _ _ _ _ _ _=>rfl) T n_i
 have k_refuse_strange:=z3X (P:=l.prog) (w:=w) (base:=base) F12 m12 (bd2 F12 fun _ _ _ _ _ _ _ _=>rfl) T
 have k_grown_size:=z5U (P:=l.prog) (w:=w) (base:=base) F13 m13 (bd3 F13 fun _ _ _ _ _ _ _ _ _=>rfl) T
 have k_laid_floor:=z5T (P:=l.prog) (w:=w) (base:=base) F14 m14 (bd3 F14 fun _ _ _ _ _ _ _ _ _=>rfl) T
 have k_grown_often:=z5g F15 m15 (bd3 F15 fun _ _ _ _ _ _ _ _ _=>rfl) T k_refuse_beyond k_refuse_strange k_grown_size k_laid_floor
 have k_grown_floor:=z5h F16 m16 (bd2 F16 fun _ _ _ _ _ _ _ _=>rfl) T k_grown_often
 have k_joined_rule:=z5f F17 m17 (bd2 F17 fun _ _ _ _ _ _ _ _=>rfl) T k_rule_tiles k_refuse_beyond k_grown_floor n_f
 have h__law_kind_of:=z4d (P:=l.prog) (w:=w) (base:=base) F18 m18 (bd1 F18 fun _ _ _ _ _ _ _=>rfl) T
 have h__law_whole:=z5e (P:=l.prog) (w:=w) (base:=base) F19 m19 (bd1 F19 fun _ _ _ _ _ _ _=>rfl) T
 have k__law_told:=z6r F20 m20 (bd2 F20 fun _ _ _ _ _ _ _ _=>rfl) T k_joined_rule h__law_kind_of h__law_whole
 exact zeS F21 T k__law_cell_at k__law_pen_of k__law_draw k__law_rule_by k__law_other_by k__law_due k__law_told (hGt _ hinj)
open PySem (sizeLine)
def blk (bs:List (Nat×List Tx)) (n:Nat):List Tx:=((bs.find? fun b=>decide (b.1=n)).map (·.2)).getD []
theorem z7w (h:n ∈ bs.map (·.1)):∃ b ∈ bs,b.1=n∧(bs.find? fun b=>decide (b.1=n))=some b∧blk bs n=b.2:=by
 cases e:bs.find? fun b=>decide (b.1=n) with
 | none =>
  obtain ⟨b,hb,rfl⟩:=Q7.mp h
  have:=List.find?_eq_none.mp e b hb
  simp at this
 | some b =>
  have h1:=Je e
  have h2:=JG e
  refine ⟨b,h1,by simpa using h2,rfl,?_⟩
  unfold blk
  rw [e]
  rfl
def lay1 (bs:List (Nat×List Tx)) (l:Nat) (row:Tx):Tx:=(row.map fun n=>(blk bs n).getD l []).flatten
def layR (h:Nat) (bs:List (Nat×List Tx)) (row:Tx):List Tx:=(Wz h).map fun l=>lay1 bs l row
def lay (h:Nat) (bs:List (Nat×List Tx)) (fl:List Tx):List Tx:=fl.flatMap (layR h bs)
structure Fl2 (bs:List (Nat×List Tx)) (R C:Nat) (fl:List Tx):Prop where
 rows:fl.length=R
 cols:∀ r ∈ fl,r.length=C
 tl:∀ r ∈ fl,∀ n ∈ r,n ∈ bs.map (·.1)
theorem z6g (R:Rul h w bs) (hn:n ∈ bs.map (·.1)) (hl:l < h):((blk bs n).getD l []).length=w∧(∀ k ∈ (blk bs n).getD l [],k ∈ bs.map (·.1))∧pIx (flD (blk bs n)) (.int l)=some (.pure (.str ((blk bs n).getD l []))):=by
 obtain ⟨b,hb,_,_,e2⟩:=z7w hn
 have hB:=R.blk b hb
 have hi':l < b.2.length:=by omega
 have hm:b.2.getD l [] ∈ b.2:=by
  rw [List.getD_eq_getElem?_getD,Wk hi']
  exact Jj hi'
 have hr:=hB.2 _ hm
 rw [e2]
 exact ⟨hr.1,hr.2,by simp [pIx,z1x,hi']⟩
theorem z7p (R:Rul h w bs) (hl:l < h):∀ row:Tx,(∀ n ∈ row,n ∈ bs.map (·.1))→(lay1 bs l row).length=row.length * w∧∀ k ∈ lay1 bs l row,k ∈ bs.map (·.1)
 | [],_=>by simp [lay1]
 | n :: r,h'=>by
  have ih:=z7p R hl r fun k hk=>h' k (Wc _ hk)
  have h1:=z6g R (h' n Wm) hl
  have e:lay1 bs l (n :: r)=(blk bs n).getD l [] ++ lay1 bs l r:=rfl
  rw [e]
  refine ⟨by rw [Q1,h1.1,ih.1,WB,Nat.succ_mul,Nat.add_comm],fun k hk=>?_⟩
  rcases QG.mp hk with hk | hk
  ·exact h1.2.1 k hk
  ·exact ih.2 k hk
theorem z9Q (R:Rul h w bs) (F:Fl2 bs A C fl):Fl2 bs (A * h) (C * w) (lay h bs fl):=by
 refine ⟨?_,fun r hr=>?_,fun r hr=>?_⟩
 ·rw [← F.rows]
  clear F
  induction fl with
  | nil=>simp [lay]
  | cons x q ih =>
   have e:lay h bs (x :: q)=layR h bs x ++ lay h bs q:=rfl
   rw [e,Q1,ih,WB,Nat.succ_mul]
   simp [layR,Nat.add_comm]
 ·simp only [lay,List.mem_flatMap,layR,List.mem_map,List.mem_range] at hr
  obtain ⟨x,hx,l,hl,rfl⟩:=hr
  rw [(z7p R hl x (F.tl x hx)).1,F.cols x hx]
 ·simp only [lay,List.mem_flatMap,layR,List.mem_map,List.mem_range] at hr
  obtain ⟨x,hx,l,hl,rfl⟩:=hr
  exact (z7p R hl x (F.tl x hx)).2
def z3M (h':Nat) (bs' bs:List (Nat×List Tx)):List (Nat×List Tx):=bs.map fun b=>(b.1,lay h' bs' b.2)
theorem z2U (f:DE) (δ:Dl):iSq f δ=(f δ).bind fun r δ1=>match r.d with
 | .lst ds=>.ok ds δ1
 | .tup ds=>.ok ds δ1
 | .str x=>.ok (x.map fun n=>.str [n]) δ1
 | _=>.stuck:=id rfl
theorem ev_inR (neg:Bool) (fa f g:DE) (δ:Dl):eInR neg fa f g δ=(fa δ).bind fun v δ1=>(f δ1).bind fun lo δ2=>(g δ2).bind fun hi δ3=>match v.d,lo.d,hi.d with
 | .int i,.int l,.int h=>.ok (.pure (.bl (if neg then !(decide (l≤i) && decide (i < h)) else (decide (l≤i) && decide (i < h))))) δ3
 | _,_,_=>.stuck:=id rfl
theorem z1C (f F:A→D) (p:A→Bool) (δ:Dl):∀ (as:List A) (acc:List D),acc.length + as.length≤W8 →
  (∀ a ∈ as,∃ δ1 δ2 x δ3,g (.pure (f a)) δ=some δ1∧t δ1 = .ok (p a) δ2∧clrD cs δ2=δ∧el δ2 = .ok x δ3∧clrD cs δ3=δ∧x.d=F a)→z1f cs g t el (as.map f) δ acc = .ok (acc ++ (as.filter p).map F) δ
 | [],acc,_,_=>by simp [z1f]
 | a :: r,acc,hl,hs=>by
  obtain ⟨δ1,δ2,x,δ3,e1,e2,e2',e3,e4,e5⟩:=hs a Wm
  have hl':acc.length < W8:=by simp at hl; omega
  rw [Wr]
  unfold z1f
  rw [e1]
  cases hp:p a with
  | true =>
   have ih:=z1C (cs:=cs) (g:=g) (t:=t) (el:=el) f F p δ r (acc ++ [x.d]) (by simp at hl ⊢; omega) (fun a ha=>hs a (Wc _ ha))
   rw [e5] at ih
   rw [hp] at e2
   simp only [e2,z16,if_true,e3,if_pos hl',e4,e5,ih,List.filter_cons,hp]
   simp
  | false =>
   have ih:=z1C (cs:=cs) (g:=g) (t:=t) (el:=el) f F p δ r acc (by simp at hl ⊢; omega) (fun a ha=>hs a (Wc _ ha))
   rw [hp] at e2
   simp only [e2,z16,e2',ih,List.filter_cons,hp]
   simp
def nx (s:Int):Int:=(((s + 7919) % 2147483647) * ((s + 7919) % 2147483647) + 48271 * ((s + 7919) % 2147483647) + 12345) % 2147483629
theorem zef (s:Int):z1k [.pure (.int s)]=some (.pure (.int (nx s)),[.pure (.int s)]):=by
 unfold z1k gOf z3y runD
 have h1:=U4 (s + 7919) (b:=2147483647) (by decide)
 have h2:=JP (s + 7919) (b:=2147483647) (by decide)
 have c1:cMul ((s + 7919) % 2147483647) ((s + 7919) % 2147483647)=true:=by unfold cMul; simp; omega
 have c2:cMul 48271 ((s + 7919) % 2147483647)=true:=by unfold cMul; simp
 simp [ioOk,z0j,dAsg,eOpF,eOpN,bVar,pAdd,pMod,pII,z1S,pMul,c1,c2,z0T,z0d]
 rfl
def Pen (d:D):Prop:=∃ l f s:Int,d = .lst [.int l,.int f,.int s]∧0≤l
theorem z6j (hp:Pen d) (m:Nat) (h0:0 < m) (h1:m < 1073741824):∃ (r:Nat) (d':D),z0a [.own d,.pure (.int m)]=some (.pure (.int r),[.own d',.pure (.int m)])∧r < m∧Pen d':=by
 obtain ⟨l,f,s,rfl,hl⟩:=hp
 have hm:(0:Int) < (m:Int):=by omega
 have hd:cDiv l m=true:=by unfold cDiv; simp; omega
 unfold z0a gOf z3A runD
 by_cases hf:f=1
 ·subst hf
  have e1:=U4 l (b:=(m:Int)) (by omega)
  have e2:=JP l hm
  refine ⟨(l % (m:Int)).toNat,.lst [.int (l / m),.int 1,.int s],?_,by omega,⟨_,_,_,rfl,Int.ediv_nonneg hl (by omega)⟩⟩
  simp [ioOk,z0j,dAsg,eOpF,eOpN,bVar,eVar,pIx,pEq,eqD,flat,z27,z7z,z7y,dTr,pMod,pDiv,pII,h0,hd,z8E,z1W,putL,z0T,z0d,ixN]
  omega
 ·have e1:=U4 (nx (nx s + 7) / 64) (b:=(m:Int)) (by omega)
  have e2:=JP (nx (nx s + 7) / 64) hm
  refine ⟨(nx (nx s + 7) / 64 % (m:Int)).toNat,.lst [.int l,.int f,.int (nx (nx s + 7))],?_,by omega,⟨_,_,_,rfl,hl⟩⟩
  simp [ioOk,z0j,dAsg,eOpF,eOpN,bVar,eVar,pIx,pEq,eqD,flat,z27,z7z,z7y,dTr,pMod,pDiv,pII,h0,hd,z8E,z1W,putL,z0T,z0d,ixN,hf,z05,ios,z0J,ndup,evX,mkA,zef,pAdd,putA,cDiv]
  omega
theorem r_pen (c:Int):∃ d,z0S [.pure (.int c)]=some (.own d,[.pure (.int c)])∧Pen d:=by
 unfold z0S gOf z2F runD
 refine ⟨.lst [.int (if 0 - c > c then 0 - c else c),.int (if decide (1000000000000000000≤(if 0 - c > c then 0 - c else c)) then 1 else 0),.int ((if 0 - c > c then 0 - c else c) % 1000003)],?_,⟨_,_,_,rfl,by split <;> omega⟩⟩
 simp [ioOk,z0j,dAsg,eOpF,eOpN,bVar,eVar,pMax,pSub,pII,pInt,pGe,pCmp,pPow,cPow,pMod,z0T,z0d]
theorem z7c (ns:List Int):∃ c:Int,z0Y [.pure (.lst (ns.map .int)),.pure (.int 0)]=some (.pure (.int c),[.pure (.lst (ns.map .int)),.pure (.int 0)]):=by
 unfold z0Y gOf z2f runD
 cases ns with
 | nil=>exact ⟨0,by simp [ioOk,z0j,eOpF,eOpN,bVar,pLt,pCmp,dTr,pLen,z0T,z0d]⟩
 | cons n r=>exact ⟨n,by
   have:(0:Int) < (r.length:Int) + 1:=by omega
   simp [ioOk,z0j,eOpF,eOpN,bVar,pLt,pCmp,dTr,pLen,z0T,z0d,pIx,z27,this]⟩
theorem z2u (hp:Pen d) (m:Nat) (i:Int) (hi:i=m) (h0:0 < m) (h1:m < 1073741824):∃ (r:Nat) (d':D),z0a [.own d,.pure (.int i)]=some (.pure (.int r),[.own d',.pure (.int i)])∧r < m∧Pen d':=by
 subst hi
 exact z6j hp m h0 h1
def lettersT:Tx:=[97,98,99,100,101,102,103,104,105,106,107,108,109,110,111,112,113,114,115,116,117,118,119,120,121,122]
theorem z9n (hp:Pen d):∃ (h w:Nat) (d':D),z0A [.own d]=some (.pure (.tup [.int h,.int w]),[.own d'])∧0 < h∧h≤4∧0 < w∧w≤4∧2 < h + w∧Pen d':=by
 obtain ⟨r1,d1,e1,l1,p1⟩:=z2u hp 3 3 rfl (by decide) (by decide)
 obtain ⟨r2,d2,e2,l2,p2⟩:=z2u p1 3 3 rfl (by decide) (by decide)
 obtain ⟨r3,d3,e3,l3,p3⟩:=z2u p2 8 8 rfl (by decide) (by decide)
 obtain ⟨r4,d4,e4,l4,p4⟩:=z2u p3 6 6 rfl (by decide) (by decide)
 unfold z0A gOf z21 runD
 by_cases h3:r3=0
 ·subst h3
  have:r4=0∨r4=1∨r4=2∨r4=3∨r4=4∨r4=5:=by omega
  rcases this with rfl | rfl | rfl | rfl | rfl | rfl
  ·exact ⟨4,1,d4,by simp [ioOk,z0j,dAsg,z05,ios,ndup,z0J,evX,mkA,e1,e2,e3,e4,putA,pAdd,pEq,eqD,flat,dTr,pIx,atI,ixN,gTp,z0f,z1b,eOpF,eOpN,bVar,eVar,z0T,z0d],by decide,by decide,by decide,by decide,by decide,p4⟩
  ·exact ⟨1,4,d4,by simp [ioOk,z0j,dAsg,z05,ios,ndup,z0J,evX,mkA,e1,e2,e3,e4,putA,pAdd,pEq,eqD,flat,dTr,pIx,atI,ixN,gTp,z0f,z1b,eOpF,eOpN,bVar,eVar,z0T,z0d],by decide,by decide,by decide,by decide,by decide,p4⟩
  ·exact ⟨4,4,d4,by simp [ioOk,z0j,dAsg,z05,ios,ndup,z0J,evX,mkA,e1,e2,e3,e4,putA,pAdd,pEq,eqD,flat,dTr,pIx,atI,ixN,gTp,z0f,z1b,eOpF,eOpN,bVar,eVar,z0T,z0d],by decide,by decide,by decide,by decide,by decide,p4⟩
  ·exact ⟨4,3,d4,by simp [ioOk,z0j,dAsg,z05,ios,ndup,z0J,evX,mkA,e1,e2,e3,e4,putA,pAdd,pEq,eqD,flat,dTr,pIx,atI,ixN,gTp,z0f,z1b,eOpF,eOpN,bVar,eVar,z0T,z0d],by decide,by decide,by decide,by decide,by decide,p4⟩
  ·exact ⟨1,2,d4,by simp [ioOk,z0j,dAsg,z05,ios,ndup,z0J,evX,mkA,e1,e2,e3,e4,putA,pAdd,pEq,eqD,flat,dTr,pIx,atI,ixN,gTp,z0f,z1b,eOpF,eOpN,bVar,eVar,z0T,z0d],by decide,by decide,by decide,by decide,by decide,p4⟩
  ·exact ⟨2,1,d4,by simp [ioOk,z0j,dAsg,z05,ios,ndup,z0J,evX,mkA,e1,e2,e3,e4,putA,pAdd,pEq,eqD,flat,dTr,pIx,atI,ixN,gTp,z0f,z1b,eOpF,eOpN,bVar,eVar,z0T,z0d],by decide,by decide,by decide,by decide,by decide,p4⟩
 ·by_cases hs:r1=0∧r2=0
  ·obtain ⟨rfl,rfl⟩:=hs
   refine ⟨1,2,d3,?_,by decide,by decide,by decide,by decide,by decide,p3⟩
   simp [ioOk,z0j,dAsg,z05,ios,ndup,z0J,evX,mkA,e1,e2,e3,putA,pAdd,pEq,eqD,flat,dTr,h3,eOpF,eOpN,bVar,eVar,z0T,z0d]
  ·have hn:¬ (1 + (r1:Int) + (1 + (r2:Int))=2):=by omega
   refine ⟨1 + r1,1 + r2,d3,?_,by omega,by omega,by omega,by omega,by omega,p3⟩
   simp [ioOk,z0j,dAsg,z05,ios,ndup,z0J,evX,mkA,e1,e2,e3,putA,pAdd,pEq,eqD,flat,dTr,h3,hn,eOpF,eOpN,bVar,eVar,z0T,z0d]
theorem z53 (ts:List Nat) (r:Nat) (h:r < ts.length):pIx (.lst (ts.map fun n=>.str [n])) (.int r)=some (.pure (.str [ts.getD r 0])):=by
 simp [pIx,z1x,h]
theorem zee (hp:Pen d) (ts:List Nat) (place way:Nat) (h1:place < ts.length) (h2:ts.length≤64):∃ (n:Nat) (d':D),
  z0H [.own d,.pure (.lst (ts.map fun n=>.str [n])),.pure (.int place),.pure (.int way)]=some (.pure (.str [n]),[.own d',.pure (.lst (ts.map fun n=>.str [n])),.pure (.int place),.pure (.int way)])∧n ∈ ts∧Pen d':=by
 have mem:∀ r,r < ts.length→ts.getD r 0 ∈ ts:=fun r h=>by simp [h]
 unfold z0H gOf z3x runD
 by_cases w1:way=1
 ·subst w1
  obtain ⟨r,d1,e1,l1,p1⟩:=z2u hp (place + 1) ((place:Int) + 1) (by omega) (by omega) (by omega)
  refine ⟨ts.getD r 0,d1,?_,mem r (by omega),p1⟩
  simp [ioOk,z0j,eOpF,eOpN,bVar,pEq,eqD,flat,dTr,z05,ios,ndup,z0J,evX,pAdd,mkA,e1,putA,pIx,z1x,z0T,z0d,show r < ts.length by omega]
 ·by_cases w2:way=2
  ·subst w2
   have hr:(place + 1) % ts.length < ts.length:=U3 _ (by omega)
   refine ⟨ts.getD ((place + 1) % ts.length) 0,d,?_,mem _ hr,hp⟩
   have hm:pMod (.int ((place:Int) + 1)) (.int ts.length)=some (.pure (.int (((place + 1) % ts.length:Nat):Int))):=by
    simp only [pMod,pII]
    rw [if_pos (by simp; omega)]
    simp
   simp [ioOk,z0j,eOpF,eOpN,bVar,pEq,eqD,flat,dTr,pAdd,pLen,hm,z0T,z0d]
   have hx:=z53 ts ((place + 1) % ts.length) hr
   simp at hx
   simp [hx]
  ·by_cases w3:way=3
   ·subst w3
    obtain ⟨r,d1,e1,l1,p1⟩:=z2u hp 4 4 rfl (by decide) (by decide)
    by_cases hr:0 < r
    ·refine ⟨ts.getD place 0,d1,?_,mem place h1,p1⟩
     simp [ioOk,z0j,eOpF,eOpN,bVar,pEq,eqD,flat,dTr,z05,ios,ndup,z0J,evX,mkA,e1,putA,pGt,pCmp,hr,pIx,z1x,h1,z0T,z0d]
    ·obtain ⟨r',d2,e2,l2,p2⟩:=z6j p1 ts.length (by omega) (by omega)
     refine ⟨ts.getD r' 0,d2,?_,mem r' l2,p2⟩
     simp [ioOk,z0j,eOpF,eOpN,bVar,pEq,eqD,flat,dTr,z05,ios,ndup,z0J,evX,mkA,e1,putA,pGt,pCmp,hr,pLen,e2,pIx,z1x,l2,z0T,z0d]
   ·obtain ⟨r',d2,e2,l2,p2⟩:=z6j hp ts.length (by omega) (by omega)
    refine ⟨ts.getD r' 0,d2,?_,mem r' l2,p2⟩
    have c1:¬ (way:Int)=1:=by omega
    have c2:¬ (way:Int)=2:=by omega
    have c3:¬ (way:Int)=3:=by omega
    simp [ioOk,z0j,eOpF,eOpN,bVar,pEq,eqD,flat,dTr,z05,ios,ndup,z0J,evX,mkA,putA,c1,c2,c3,pLen,e2,pIx,z1x,l2,z0T,z0d]
theorem z8x:∀ k,k < 26→lettersT.getD k 0=97 + k:=by decide
theorem z5A (xs:List Nat) (h:xs.length < 64):z2v (.lst (xs.map fun n=>.str [n]))=some (.own (.lst ((z1g xs).map fun n=>.str [n]))):=by
 have e:(xs.map fun n=>D.str [n])=(xs.map fun n=>[n]).map D.str:=by simp
 unfold z2v
 simp only [e,z3N]
 rw [if_pos (by simpa using h),z91]
 simp
def rawT (f n:Nat):List Nat:=(Wz n).map fun k=>97 + (f + 5 * k) % 26
theorem z9h (f n:Nat) (hn:n≤26):(rawT f n).Nodup:=by
 unfold rawT
 rw [List.nodup_iff_pairwise_ne,JY]
 refine (List.pairwise_lt_range (n:=n)).imp_of_mem ?_
 intro a b ha hb hab e
 simp at ha hb
 omega
def rb (pd:D) (m h w n f:Nat) (s7:S) (wy:Nat) (blocks:List D) (a b c:Option S):Dl :=
 [some (.own pd),some (.pure (.int m)),some (.pure (.int h)),some (.pure (.int w)),some (.pure (.int (1 + (n:Int)))),some (.pure (.int f)),some (.pure (.str lettersT)),some s7,some (.pure (.int wy)),some (.own (.lst blocks)),a,b,c,none,none]
def tD (ts:List Nat):D:=.lst (ts.map fun n=>.str [n])
def sT (ts:List Nat) (s:S):Prop:=s = .own (tD ts)∨s = .pure (tD ts)
theorem z8o (hts:ts.length≤64) (hw:w≤4) (hpd:Pen pd) (h7:sT ts s7) (blocks:List D) (place:Nat) (hpl:place < ts.length) (block:List D) (row:Nat) :
  ∃ (x:Tx) (pd':D) (s7':S),z1f [14] (gNm [0] 14) dYes (z05 z0H [.io 0,.val (eVar 7),.val (eVar 10),.val (eVar 8)]) (z0z 0 w) (rb pd m h w n f s7 wy blocks (some (.pure (.int place))) (some (.own (.lst block))) (some (.pure (.int row)))) []
   = .ok (x.map fun n=>.str [n]) (rb pd' m h w n f s7' wy blocks (some (.pure (.int place))) (some (.own (.lst block))) (some (.pure (.int row))))∧x.length=w∧(∀ n ∈ x,n ∈ ts)∧Pen pd'∧sT ts s7':=by
 obtain ⟨xs,δ',e,⟨pd',s7',hpd',h7',rfl⟩,hn,hf⟩:=z3O (cs:=[14]) (g:=gNm [0] 14) (t:=dYes) (el:=z05 z0H [.io 0,.val (eVar 7),.val (eVar 10),.val (eVar 8)]) (fun δ=>∃ pd s7,Pen pd∧sT ts s7∧δ=rb pd m h w n f s7 wy blocks (some (.pure (.int place))) (some (.own (.lst block))) (some (.pure (.int row))))
  (fun _ x=>∃ n,n ∈ ts∧x = .str [n]) (z0z 0 w) _ [] ⟨pd,s7,hpd,h7,rfl⟩ (by rw [z0K]; simp; omega) (fun d hd δ ⟨pd,s7,hpd,h7,e⟩=>by
   subst e
   obtain ⟨i,hi,rfl⟩:=z2V hd
   obtain ⟨k,d',e,hk,p⟩:=zee hpd ts place wy hpl hts
   have e':z0H [.own pd,.pure (tD ts),.pure (.int place),.pure (.int wy)]=some (.pure (.str [k]),[.own d',.pure (tD ts),.pure (.int place),.pure (.int wy)]):=e
   refine ⟨_,_,.pure (.str [k]),(rb d' m h w n f (.pure (tD ts)) wy blocks (some (.pure (.int place))) (some (.own (.lst block))) (some (.pure (.int row)))).set 14 (some (.pure (.int i))),rfl,rfl,?_,⟨d',_,p,.inr rfl,rfl⟩,⟨_,hk,rfl⟩⟩
   rcases h7 with rfl | rfl
   ·simp [rb,z05,ios,ndup,z0J,evX,eVar,mkA,e',putA]
   ·simp [rb,z05,ios,ndup,z0J,evX,eVar,mkA,e',putA])
 obtain ⟨x,rfl,hx⟩:=z78 (P:=fun n=>n ∈ ts) (z9g hn hf fun d x _ h=>h)
 exact ⟨x,pd',s7',by simpa using e,by simpa using hn,hx,hpd',h7'⟩
theorem z6i (hts:ts.length≤64) (hw:w≤4) (hh:h≤4) (hpd:Pen pd) (h7:sT ts s7) (blocks:List D) (place:Nat) (hpl:place < ts.length) (rs:Option S) :
  ∃ (fl:List Tx) (pd':D) (s7':S) (rs':Option S),forL (gNm [0] 12) (z0o 11 (eC1 (z1q []) (bOf (z0N [14] (z0B (eVar 3)) (gNm [0] 14) dYes (z05 z0H [.io 0,.val (eVar 7),.val (eVar 10),.val (eVar 8)]))))) (z0z 0 h) (rb pd m h w n f s7 wy blocks (some (.pure (.int place))) (some (.own (.lst []))) rs)
   = .ok .next (rb pd' m h w n f s7' wy blocks (some (.pure (.int place))) (some (.own (.lst (fl.map .str)))) rs')∧fl.length=h∧(∀ r ∈ fl,r.length=w∧∀ n ∈ r,n ∈ ts)∧Pen pd'∧sT ts s7':=by
 obtain ⟨δ',e3,pd',s7',fl,rs',hpd',h7',hfl,hall,rfl⟩:=z1c (g:=gNm [0] 12) (b:=z0o 11 (eC1 (z1q []) (bOf (z0N [14] (z0B (eVar 3)) (gNm [0] 14) dYes (z05 z0H [.io 0,.val (eVar 7),.val (eVar 10),.val (eVar 8)]))))) (fun k δ=>∃ (pd:D) (s7:S) (fl:List Tx) (rs:Option S),Pen pd∧sT ts s7∧fl.length=k∧(∀ r ∈ fl,r.length=w∧∀ n ∈ r,n ∈ ts)∧δ=rb pd m h w n f s7 wy blocks (some (.pure (.int place))) (some (.own (.lst (fl.map .str)))) rs)
  (z0z 0 h) 0 _ ⟨pd,s7,[],rs,hpd,h7,rfl,by simp,rfl⟩ (fun i d δ hd ⟨pd,s7,fl,rs,hpd,h7,hfl,hall,e⟩=>by
   subst e
   obtain ⟨hi,rfl⟩:=z1o hd
   obtain ⟨x,pd',s7',e,hx,hxt,hpd',h7'⟩:=z8o (m:=m) (h:=h) (n:=n) (f:=f) (wy:=wy) hts hw hpd h7 blocks place hpl (fl.map .str) i
   have hz:fl.length < W8:=by rw [z0K]; omega
   have ej:=z88 x (by omega)
   refine ⟨_,rb pd' m h w n f s7' wy blocks (some (.pure (.int place))) (some (.own (.lst ((fl ++ [x]).map .str)))) (some (.pure (.int i))),rfl,?_,⟨pd',s7',fl ++ [x],_,hpd',h7',by simp [hfl],?_,rfl⟩⟩
   ·unfold rb at e ⊢
    simp [z0o,z1W,eVar,z48 w (by omega),z0J,clrD]
    rw [e]
    simp [ej,z1r,putL,hz]
   ·intro r hr
    rcases QG.mp hr with hr | hr
    ·exact hall r hr
    ·simp at hr; subst hr; exact ⟨hx,hxt⟩)
 exact ⟨fl,pd',s7',rs',e3,by simpa using hfl,hall,hpd',h7'⟩
theorem z9o (hp:Pen d) (m:Nat) (hm0:0 < m) (hm1:m≤26):∃ (h w:Nat) (bs:List (Nat×List Tx)) (d':D),
  z0E [.own d,.pure (.int m)]=some (.pure (ruD h w bs),[.own d',.pure (.int m)])∧Rul h w bs∧bs.length≤m∧Pen d':=by
 obtain ⟨h,w,d1,e1,h0,h1,w0,w1,hw,p1⟩:=z9n hp
 obtain ⟨r,d2,e2,l2,p2⟩:=z6j p1 m hm0 (by omega)
 obtain ⟨f,d3,e3,l3,p3⟩:=z2u p2 26 26 rfl (by decide) (by decide)
 obtain ⟨wy,d4,e4,l4,p4⟩:=z2u p3 5 5 rfl (by decide) (by decide)
 -- the tiles
 have ec:=zaz (cs:=[13]) (g:=gNm [0] 13) (t:=dYes) (el:=eOpF pIx 6 (bOf (eOp pMod (eOpF pAdd 5 (bOf (eOp z1S (eD (.int 5)) (bVar 13)))) (bOf (eD (.int 26)))))) (fun d=>match d with | .int k=>.str [97 + (f + 5 * k.toNat) % 26] | _=>.non)
  [some (.own d3),some (.pure (.int m)),some (.pure (.int h)),some (.pure (.int w)),some (.pure (.int (1 + (r:Int)))),some (.pure (.int f)),some (.pure (.str lettersT)),none,none,none,none,none,none,none,none] (z0z 0 (1 + r)) [] (by rw [z0K]; simp; omega) (fun d hd=>by
   obtain ⟨i,hi,rfl⟩:=z2V hd
   refine ⟨_,_,.pure (.str [97 + (f + 5 * i) % 26]),[some (.own d3),some (.pure (.int m)),some (.pure (.int h)),some (.pure (.int w)),some (.pure (.int (1 + (r:Int)))),some (.pure (.int f)),some (.pure (.str lettersT)),none,none,none,none,none,none,some (.pure (.int i)),none],rfl,rfl,?_,rfl,rfl⟩
   have hk:(f + 5 * i) % 26 < 26:=U3 _ (by decide)
   have hx:=zak lettersT ((f + 5 * i) % 26) hk (by decide)
   rw [z8x _ hk] at hx
   have hc:((f:Int) + 5 * (i:Int)) % 26=(((f + 5 * i) % 26:Nat):Int):=by omega
   have hmul:z1S (.int 5) (.int i)=some (.pure (.int (5 * (i:Int)))):=by
    unfold z1S pMul pII
    have:cMul 5 i=true:=by unfold cMul; simp
    simp only [this,if_true]
   have hmod:pMod (.int ((f:Int) + 5 * (i:Int))) (.int 26)=some (.pure (.int (((f + 5 * i) % 26:Nat):Int))):=by
    rw [← hc]; rfl
   generalize lettersT=lt at hx ⊢
   simp only [eOpF,eOpN,bVar,zck,zfr,zfs,z16,zfq,QB,Jq,List.getElem?_cons_succ,List.getElem?_cons_zero,zft,hmul,pAdd,hmod,hx])
 have hraw:List.map (fun (d:D)=>match d with | .int k=>D.str [97 + (f + 5 * k.toNat) % 26] | _=>.non) (z0z 0 (1 + r))=(rawT f (1 + r)).map fun n=>.str [n]:=by
  simp [z0z,rawT]
 rw [hraw] at ec
 simp only [Q2] at ec
 have hrl:(rawT f (1 + r)).length=1 + r:=by simp [rawT]
 have es:=z5A (rawT f (1 + r)) (by rw [hrl]; omega)
 have hts:(z1g (rawT f (1 + r))).length=1 + r:=by rw [z3C,hrl]
 have hlt:=z3B (z9h f (1 + r) (by omega))
 have hle:∀ t ∈ z1g (rawT f (1 + r)),97≤t∧t≤122:=fun t ht=>by
  rw [sortN_mem] at ht
  simp [rawT] at ht
  obtain ⟨k,_,rfl⟩:=ht
  omega
 generalize z1g (rawT f (1 + r))=ts at es hts hlt hle
 -- the blocks
 obtain ⟨δ',e5,pd,s7,bs,a,b,c,hpd,h7,hbl,hbt,hall,rfl⟩:=z1c (g:=gNm [0] 10) (b:=(dSeq (dAsg (eLst aNil) (gNm [0] 11)) (dSeq (dFor (z0B (eVar 2)) (gNm [0] 12) (z0o 11 (eC1 (z1q []) (bOf (z0N [14] (z0B (eVar 3)) (gNm [0] 14) dYes (z05 z0H [.io 0,.val (eVar 7),.val (eVar 10),.val (eVar 8)])))))) (z0o 9 (eTup (z04 (eOpF pIx 7 (bVar 10)) (z04 (eC1 z15 (bVar 11)) aNil)))))))
  (fun k δ=>∃ (pd:D) (s7:S) (bs:List (Nat×List Tx)) (a b c:Option S),Pen pd∧sT ts s7∧bs.length=k∧bs.map (·.1)=ts.take k∧(∀ b ∈ bs,b.2.length=h∧∀ r ∈ b.2,r.length=w∧∀ n ∈ r,n ∈ ts)∧δ=rb pd m h w r f s7 wy (bs.map blD) a b c)
  (z0z 0 (1 + r)) 0 (rb d4 m h w r f (.own (tD ts)) wy [] none none none) ⟨d4,_,[],none,none,none,p4,.inl rfl,rfl,rfl,by simp,rfl⟩ (fun i d δ hd ⟨pd,s7,bs,a,b,c,hpd,h7,hbl,hbt,hall,e⟩=>by
   subst e
   obtain ⟨hi,rfl⟩:=z1o hd
   rw [WX] at hbl hbt
   obtain ⟨fl,pd',s7',rs',e,hfl,hflt,hpd',h7'⟩:=z6i (m:=m) (n:=r) (f:=f) (wy:=wy) (ts:=ts) (by omega) w1 h1 hpd h7 (bs.map blD) i (by omega) c
   have hz:bs.length < W8:=by rw [z0K]; omega
   have hx:=z53 ts i (by omega)
   refine ⟨_,rb pd' m h w r f s7' wy ((bs ++ [(ts.getD i 0,fl)]).map blD) (some (.pure (.int i))) (some (.own (.lst (fl.map .str)))) rs',rfl,?_,⟨pd',s7',bs ++ [(ts.getD i 0,fl)],_,_,_,hpd',h7',by simp [hbl],?_,?_,rfl⟩⟩
   ·unfold rb at e ⊢
    simp [dAsg,eVar,z48 h (by omega)]
    rw [e]
    rcases h7' with rfl | rfl
    ·simp [z0o,z1W,eOpF,eOpN,bVar,tD,hx,z15,putL,hz,blD]
    ·simp [z0o,z1W,eOpF,eOpN,bVar,tD,hx,z15,putL,hz,blD]
   ·rw [WX,Qw,hbt,Ja]
    simp [show i < ts.length by omega]
   ·intro b hb
    rcases QG.mp hb with hb | hb
    ·exact hall b hb
    ·simp at hb; subst hb; exact ⟨hfl,hflt⟩)
 have hbl':bs.length=1 + r:=by simpa using hbl
 have hbt':bs.map (·.1)=ts:=by
  rw [hbt,Js]
  simp [hts]
 refine ⟨h,w,bs,pd,?_,⟨h0,h1,w0,w1,hw,by omega,by omega,by rw [hbt']; exact hlt,fun b hb=>hle _ (by rw [← hbt']; exact Q6 hb),fun b hb=>by rw [hbt']; exact hall b hb⟩,by omega,hpd⟩
 unfold z0E gOf z2e runD
 unfold lettersT at ec
 simp [ioOk,z0j,dAsg,z05,ios,ndup,z0J,evX,mkA,e1,putA,gTp,z0f,z1b,eVar,e2,pAdd,e3,z9d r (by omega),clrD]
 rw [ec]
 simp [z1r,es,e4,putA,eVar,z9d r (by omega)]
 unfold rb lettersT tD at e5
 rw [e5]
 simp [bVar,z15,z0T,z0d,eVar]
theorem gt_int (i j:Int):pGt (.int i) (.int j)=some (.pure (.bl (decide (j < i)))):=rfl
theorem zcl (i j:Int):pEq (.int i) (.int j)=some (.pure (.bl (i == j))):=rfl
theorem add_int (i j:Int):pAdd (.int i) (.int j)=some (.pure (.int (i + j))):=rfl
theorem z6f (h w:Nat) (bs:List (Nat×List Tx)):pIx (ruD h w bs) (.int 0)=some (.pure (.int h))∧pIx (ruD h w bs) (.int 1)=some (.pure (.int w))∧pIx (ruD h w bs) (.int 2)=some (.pure (.tup (bs.map blD))):=by
 refine ⟨?_,?_,?_⟩
 ·simp [pIx,z27]
 ·simp [pIx,z7z]
 ·simp [pIx,z7y]
theorem z7U:∀ bs:List (Nat×List Tx),z3d (bs.map blD)=some (bs.map fun b=>(Sum.inr [b.1],flD b.2))
 | []=>rfl
 | b :: r=>by
  have:=z7U r
  simp only [Wr]
  simp [z3d,keyD,this]
theorem z6M (emb:A→D) (mk:B→J→Dl) (f:B→A→B) (P:B→Prop) (Q:A→Prop) (hf:∀ x a,P x→Q a→P (f x a)) (step:∀ x j a,P x→Q a→∃ δ1 j',g (.pure (emb a)) (mk x j)=some δ1∧b δ1 = .ok .next (mk (f x a) j')) :
  ∀ (as:List A) (x:B) (j:J),P x→(∀ a ∈ as,Q a)→∃ j',forL g b (as.map emb) (mk x j) = .ok .next (mk (as.foldl f x) j')∧P (as.foldl f x)
 | [],x,j,hp,_=>⟨j,rfl,hp⟩
 | a :: r,x,j,hp,hq=>by
  obtain ⟨δ1,j',e1,e2⟩:=step x j a hp (hq a Wm)
  obtain ⟨j'',e3,h3⟩:=z6M emb mk f P Q hf step r (f x a) j' (hf x a hp (hq a Wm)) fun b hb=>hq b (Wc _ hb)
  refine ⟨j'',?_,h3⟩
  rw [Wr]
  unfold forL
  rw [e1]
  simp only [e2,z16,e3]
  rfl
theorem z1X (np:List Nat) (n:Nat) (b:DS) (ss:List S):gOf np n b ss=if ioOk np 0 ss then (match b (z0j n ss) with
 | .ok fl δ=>(z0T fl).bind fun r=>(z0d 0 ss δ).map fun outs=>(r,outs)
 | _=>none) else none:=rfl
def dcM (bs:List (Nat×List Tx)):D:=.dct (bs.map fun b=>(Sum.inr [b.1],flD b.2))
theorem z9i (n:Nat):z0z 0 n=(Wz n).map fun k:Nat=>D.int (k:Int):=by simp [z0z]
theorem z6m:∀ (kps acc:List (DKey×D)),((acc ++ kps).map (·.1)).Nodup→z7d kps acc=acc ++ kps
 | [],acc,_=>by simp [z7d]
 | p :: r,acc,h=>by
  have hn:(acc.any fun kv=>decide (kv.1=p.1))=false:=by
   rw [List.any_eq_false]
   intro kv hkv
   simp only [decide_eq_true_eq]
   intro e
   rw [Qw,List.nodup_append] at h
   exact h.2.2 kv.1 (Q6 hkv) p.1 (Q6 Wm) e
  have hp:putD acc p.1 p.2=acc ++ [p]:=by
   unfold putD
   rw [hn]
   simp
  show z7d r (putD acc p.1 p.2)=_
  rw [hp,z6m r (acc ++ [p]) (by simpa using h)]
  simp
theorem dictM {h w:Nat} {bs:List (Nat×List Tx)} (R:Rul h w bs):z3o (.tup (bs.map blD))=some (.own (dcM bs)):=by
 unfold z3o
 simp only [z7U,WC,Ws]
 have hz:W8=16777216:=rfl
 rw [if_pos (by have:=R.n1; omega),z6m]
 ·rfl
 ·simp only [Q2,WH]
  rw [List.nodup_iff_pairwise_ne,JY]
  have:=R.up
  rw [JY] at this
  exact this.imp fun {a b} hab=>by simp; omega
theorem zbU (bs:List (Nat×List Tx)) (n:Nat):valD (bs.map fun b=>((Sum.inr [b.1]:DKey),flD b.2)) (.inr [n])=(bs.find? fun b=>decide (b.1=n)).map fun b=>flD b.2:=by
 unfold valD
 rw [List.find?_map]
 simp [Function.comp_def]
theorem zfc (h:n ∈ bs.map (·.1)):pIxX (dcM bs) (.str [n])=some (.pure (flD (blk bs n))):=by
 obtain ⟨b,hb,_,e,e2⟩:=z7w h
 show ((keyD (.str [n])).bind fun k=>(valD (bs.map fun b=>((Sum.inr [b.1]:DKey),flD b.2)) k).map S.pure)=_
 simp only [keyD,WC,zbU,e,WV,e2]
theorem zfg {bs:List (Nat×List Tx)} {n:Nat} (h:n ∈ bs.map (·.1)):pIn true (.str [n]) (dcM bs)=some (.pure (.bl false)):=by
 obtain ⟨b,hb,_,e,e2⟩:=z7w h
 show ((keyD (.str [n])).map fun k=>S.pure (.bl (if true then !(valD (bs.map fun b=>((Sum.inr [b.1]:DKey),flD b.2)) k).isSome else (valD (bs.map fun b=>((Sum.inr [b.1]:DKey),flD b.2)) k).isSome)))=_
 simp only [keyD,WV,zbU,e,WV]
 rfl
theorem z4U (xs:List Tx) (m:Nat) (h:∀ x ∈ xs,x.length≤m):z2R xs≤xs.length * m:=by
 induction xs with
 | nil=>simp [z2R]
 | cons x r ih =>
  have h1:=h x Wm
  have h2:=ih fun y hy=>h y (Wc _ hy)
  have e:z2R (x :: r)=x.length + z2R r:=by simp [z2R]
  rw [e,WB,Nat.succ_mul]
  omega
theorem z44 (xs:List Tx) (h:z2R xs≤16777216):z1q [] (.lst (xs.map .str))=some (.pure (.str xs.flatten)):=by
 unfold z1q
 simp only [z3N,z2W]
 rw [if_pos (by simpa using h)]
theorem zer (R:Rul h w bs) (F:Fl2 bs A C fl) (hA:A≤1000) (hC:C≤1000) :
  gOf [] 7 (z2C) [.pure (dcM bs),.pure (.int h),.pure (flD fl)]=some (.pure (flD (lay h bs fl)),[.pure (dcM bs),.pure (.int h),.pure (flD fl)]):=by
 unfold z2C
 have h1:=R.h1
 have w1:=R.w1
 -- one new row
 have comp:∀ (acc:List Tx) (row:Tx) (l:Nat),row ∈ fl→l < h→z1f [6] (gNm [] 6) dYes (eOp pIx (eOpF pIxX 0 (bVar 6)) (bVar 5)) (row.map fun n=>.str [n]) [some (.pure (dcM bs)),some (.pure (.int h)),some (.pure (flD fl)),some (.own (.lst (acc.map .str))),some (.pure (.str row)),some (.pure (.int l)),none] [] = .ok ((row.map fun n=>(blk bs n).getD l []).map .str) [some (.pure (dcM bs)),some (.pure (.int h)),some (.pure (flD fl)),some (.own (.lst (acc.map .str))),some (.pure (.str row)),some (.pure (.int l)),none]:=fun acc row l hrow hl=>by
  have e:=z1p (cs:=[6]) (g:=gNm [] 6) (t:=dYes) (el:=(eOp pIx (eOpF pIxX 0 (bVar 6)) (bVar 5))) (fun n:Nat=>D.str [n]) (fun n=>.str ((blk bs n).getD l [])) [some (.pure (dcM bs)),some (.pure (.int h)),some (.pure (flD fl)),some (.own (.lst (acc.map .str))),some (.pure (.str row)),some (.pure (.int l)),none] row [] (by rw [z0K,F.cols row hrow]; simp; omega) (fun n hn=>by
   have hm:=F.tl row hrow n hn
   have y1:=zfc hm
   have y2:=(z6g R hm hl).2.2
   refine ⟨_,_,.pure (.str ((blk bs n).getD l [])),[some (.pure (dcM bs)),some (.pure (.int h)),some (.pure (flD fl)),some (.own (.lst (acc.map .str))),some (.pure (.str row)),some (.pure (.int l)),some (.pure (.str [n]))],rfl,rfl,?_,rfl,rfl⟩
   generalize D.str ((blk bs n).getD l [])=dr at *
   generalize flD (blk bs n)=db at *
   generalize flD fl=df at *
   generalize dcM bs=dd at *
   generalize acc.map D.str=ad at *
   simp [eOpF,eOpN,bVar,y1,y2])
  rw [e]
  simp [Function.comp_def]
 -- the rows of one row
 have inner:∀ (acc:List Tx) (row:Tx) (o:Option S),row ∈ fl→acc.length≤100000→∃ o',forL (gNm [] 5) (z0o 3 (eC1 (z1q []) (bOf (z0N [6] (iSq (eVar 4)) (gNm [] 6) dYes (eOp pIx (eOpF pIxX 0 (bVar 6)) (bVar 5)))))) (z0z 0 h) [some (.pure (dcM bs)),some (.pure (.int h)),some (.pure (flD fl)),some (.own (.lst (acc.map .str))),some (.pure (.str row)),o,none]
   = .ok .next [some (.pure (dcM bs)),some (.pure (.int h)),some (.pure (flD fl)),some (.own (.lst ((acc ++ layR h bs row).map .str))),some (.pure (.str row)),o',none]:=fun acc row o hrow hacc=>by
  obtain ⟨δ',e,o',rfl⟩:=z1c (g:=gNm [] 5) (b:=(z0o 3 (eC1 (z1q []) (bOf (z0N [6] (iSq (eVar 4)) (gNm [] 6) dYes (eOp pIx (eOpF pIxX 0 (bVar 6)) (bVar 5))))))) (fun k δ=>∃ o,δ=[some (.pure (dcM bs)),some (.pure (.int h)),some (.pure (flD fl)),some (.own (.lst ((acc ++ layR k bs row).map .str))),some (.pure (.str row)),o,none]) (z0z 0 h) 0 [some (.pure (dcM bs)),some (.pure (.int h)),some (.pure (flD fl)),some (.own (.lst (acc.map .str))),some (.pure (.str row)),o,none] ⟨o,by simp [layR]⟩ (fun i d δ hd ⟨o,e⟩=>by
   subst e
   obtain ⟨hi,rfl⟩:=z1o hd
   rw [WX]
   have hc:=comp (acc ++ layR i bs row) row i hrow hi
   have hj:z1q [] (.lst ((row.map fun n=>(blk bs n).getD i []).map .str))=some (.pure (.str (lay1 bs i row))):=z44 _ (by
    have hs:=z4U (row.map fun n=>(blk bs n).getD i []) w (fun x hx=>by
     obtain ⟨n,hn,rfl⟩:=Q7.mp hx
     rw [(z6g R (F.tl row hrow n hn) hi).1]
     exact Wd _)
    rw [Ws,F.cols row hrow] at hs
    have:C * w≤1000 * 4:=JT hC w1
    omega)
   have hz:((acc ++ layR i bs row).map D.str).length < W8:=by
    rw [z0K]
    simp [layR]
    omega
   have hE:(acc ++ layR (i + 1) bs row).map D.str=(acc ++ layR i bs row).map D.str ++ [.str (lay1 bs i row)]:=by
    simp [layR,JH]
   refine ⟨_,[some (.pure (dcM bs)),some (.pure (.int h)),some (.pure (flD fl)),some (.own (.lst ((acc ++ layR (i + 1) bs row).map .str))),some (.pure (.str row)),some (.pure (.int i)),none],rfl,?_,_,rfl⟩
   rw [hE]
   generalize lay1 bs i row=nr at *
   generalize (row.map fun n=>(blk bs n).getD i []).map D.str=XS at *
   generalize (acc ++ layR i bs row).map D.str=AD at *
   generalize flD fl=df at *
   generalize dcM bs=dd at *
   simp [z0o,z1W,z2U,eVar,z0J,clrD]
   rw [hc]
   simp [z1r,hj,putL,hz])
  rw [WX,z49] at e
  exact ⟨o',e⟩
 have outer:∃ o4 o5,forL (gNm [] 4) (dFor (z0B (eVar 1)) (gNm [] 5) (z0o 3 (eC1 (z1q []) (bOf (z0N [6] (iSq (eVar 4)) (gNm [] 6) dYes (eOp pIx (eOpF pIxX 0 (bVar 6)) (bVar 5))))))) (fl.map .str) [some (.pure (dcM bs)),some (.pure (.int h)),some (.pure (flD fl)),some (.own (.lst [])),none,none,none]
   = .ok .next [some (.pure (dcM bs)),some (.pure (.int h)),some (.pure (flD fl)),some (.own (.lst ((lay h bs fl).map .str))),o4,o5,none]:=by
  obtain ⟨δ',e,o4,o5,rfl⟩:=z1c (g:=gNm [] 4) (b:=(dFor (z0B (eVar 1)) (gNm [] 5) (z0o 3 (eC1 (z1q []) (bOf (z0N [6] (iSq (eVar 4)) (gNm [] 6) dYes (eOp pIx (eOpF pIxX 0 (bVar 6)) (bVar 5)))))))) (fun k δ=>∃ o4 o5,δ=[some (.pure (dcM bs)),some (.pure (.int h)),some (.pure (flD fl)),some (.own (.lst ((lay h bs (fl.take k)).map .str))),o4,o5,none]) (fl.map D.str) 0 [some (.pure (dcM bs)),some (.pure (.int h)),some (.pure (flD fl)),some (.own (.lst [])),none,none,none] ⟨none,none,by simp [lay]⟩ (fun i d δ hd ⟨o4,o5,e⟩=>by
   subst e
   rw [WK,QS] at hd
   obtain ⟨row,hrow,rfl⟩:=hd
   rw [WX]
   have hi:i < fl.length:=(Wb.mp hrow).1
   have hlen:(lay h bs (fl.take i)).length≤100000:=by
    have F':Fl2 bs (fl.take i).length C (fl.take i):=⟨rfl,fun r hr=>F.cols r (JA hr),fun r hr=>F.tl r (JA hr)⟩
    have:=(z9Q R F').rows
    rw [this]
    have h2:(fl.take i).length≤1000:=by have:=F.rows; rw [Jh]; omega
    have:(fl.take i).length * h≤1000 * 4:=JT h2 h1
    omega
   obtain ⟨o',e⟩:=inner (lay h bs (fl.take i)) row o5 (WI hrow) hlen
   have hE:lay h bs (fl.take (i + 1))=lay h bs (fl.take i) ++ layR h bs row:=by
    rw [Ja,hrow]
    simp [lay]
   refine ⟨_,[some (.pure (dcM bs)),some (.pure (.int h)),some (.pure (flD fl)),some (.own (.lst ((lay h bs (fl.take (i + 1))).map .str))),some (.pure (.str row)),o',none],rfl,?_,_,_,rfl⟩
   rw [hE]
   generalize (lay h bs (fl.take i) ++ layR h bs row).map D.str=AD at *
   generalize (lay h bs (fl.take i)).map D.str=AE at *
   generalize flD fl=df at *
   generalize dcM bs=dd at *
   simp only [zal,z6Q,eVar,QB,Jq,List.getElem?_cons_succ,List.getElem?_cons_zero,z16,z48 h (by omega:h≤1000000)]
   exact e)
  refine ⟨o4,o5,?_⟩
  rw [e]
  simp
 obtain ⟨o4,o5,e⟩:=outer
 have hsq:∀ δ:Dl,δ[2]? = some (some (.pure (flD fl)))→iSq (eVar 2) δ = .ok (fl.map .str) δ:=fun δ hδ=>by
  simp [z2U,eVar,hδ]
 rw [z1X]
 generalize hAD:(lay h bs fl).map D.str=AD at *
 generalize dcM bs=dd at *
 simp [ioOk,z0j,dAsg,z2U,eVar]
 rw [e]
 simp [bVar,z15,z0T,z0d]
 exact hAD.symm
theorem zeg (R:Rul h w bs) (F:Fl2 bs A C fl) (hA:A≤1000) (hC:C≤1000):z0R [.pure (dcM bs),.pure (.int h),.pure (flD fl)]=some (.pure (flD (lay h bs fl)),[.pure (dcM bs),.pure (.int h),.pure (flD fl)]):=by
 rw [z0R,z34]
 exact zer R F hA hC
theorem mul_int (i j:Int) (h0:0≤j) (h1:j≤1000):z1S (.int i) (.int j)=some (.pure (.int (i * j))):=by
 unfold z1S pMul pII
 have:cMul i j=true:=by unfold cMul; simp; omega
 simp only [this,if_true]
theorem z86 (h:Nat):∀ (as:List Nat) (x:Nat),as.foldl (fun x _=>x * h) x=x * h ^ as.length
 | [],x=>by simp
 | a :: r,x=>by rw [Qi,z86 h r,WB,Nat.pow_succ,Nat.mul_assoc,U2 h]
theorem z7P (s h t:Nat) (h1:h≤1000) (t1:t≤1000):z0v [.pure (.int s),.pure (.int h),.pure (.int t)]=some (.pure (.int ((s * h ^ t:Nat):Int)),[.pure (.int s),.pure (.int h),.pure (.int t)]):=by
 obtain ⟨j',e,_⟩:=z6M (g:=gNm [] 3) (b:=dAsg (eOpF z1S 0 (bVar 1)) (gNm [] 0)) (fun k:Nat=>D.int (k:Int)) (fun (x:Nat) (j:Option S)=>[some (.pure (.int (x:Int))),some (.pure (.int h)),some (.pure (.int t)),j]) (fun x _=>x * h) (fun _=>True) (fun _=>True) (fun _ _ _ _=>trivial) (fun x j a _ _=>⟨_,some (.pure (.int a)),rfl,by
  have:=mul_int x h (by omega) (by omega)
  simp [dAsg,eOpF,eOpN,bVar,this]⟩) (Wz t) s none trivial (fun _ _=>trivial)
 rw [z86,Jt,← z9i] at e
 rw [z0v,z1X,z35]
 generalize ((s * h ^ t:Nat):Int)=P at *
 simp [ioOk,z0j,eVar,z48 t (by omega)]
 rw [e]
 simp [eVar,z0T,z0d]
theorem z6L {b:DS} {n:Nat} {x y:D} {v:S} {δ1:Dl} (e:b (z0j n [.pure x,.pure y]) = .ok (.ret v) δ1):gOf [] n b [.pure x,.pure y]=some (v,[.pure x,.pure y]):=by
 rw [z1X,e]; rfl
theorem zfk {b:DS} {n:Nat} {x y:D} {δ1:Dl} (e:b (z0j n [.pure x,.pure y]) = .ok .next δ1):gOf [] n b [.pure x,.pure y]=some (.pure .non,[.pure x,.pure y]):=by
 rw [z1X,e]; rfl
theorem zfj (e:b (z0j n [.pure x,.pure y,.pure z]) = .ok (.ret v) δ1):gOf [] n b [.pure x,.pure y,.pure z]=some (v,[.pure x,.pure y,.pure z]):=by
 rw [z1X,e]; rfl
theorem zcg (e:b (z0j n [.pure x]) = .ok (.ret v) δ1):gOf [] n b [.pure x]=some (v,[.pure x]):=by
 rw [z1X,e]; rfl
theorem z0b (h:a δ = .ok .next δ1):dSeq a b δ=b δ1:=by unfold dSeq; rw [h]; rfl
theorem z7a (h:a δ = .ok (.ret v) δ1):dSeq a b δ = .ok (.ret v) δ1:=by unfold dSeq; rw [h]; rfl
theorem z5y (h:it δ = .ok ds δ1):dFor it g b δ=forL g b ds δ1:=by unfold dFor; rw [h]; rfl
theorem zbt (x:Tx) (h:x.length≤1000):pLen (.str x)=some (.pure (.int x.length)):=by
 unfold pLen
 have:W8=16777216:=rfl
 simp only
 rw [if_pos (by omega)]
theorem zdr (ds:List D):pLen (.tup ds)=some (.pure (.int ds.length)):=rfl
theorem z61 (np:List Nat) (n:Nat) (b:DS) (ss:List S):gOfX np n b ss=if ioOk np 0 ss then (match b (z0j n ss) with
 | .ok fl δ=>(z0T fl).bind fun r=>(z0d 0 ss δ).map fun outs=>.inl (r,outs)
 | .exc x δ=>(z0d 0 ss δ).map fun outs=>.inr (x,outs)
 | .stuck=>none) else none:=rfl
@[simp] theorem zdJ {α β:Type} (x:Xc) (δ:Dl) (f:α→Dl→Rs β):(Rs.exc x δ:Rs α).bind f = .exc x δ:=id rfl
abbrev xT (n:Nat):Xc:=⟨[78,111,84,105,108,101],.xd [([116,105,108,101],.str [n])]⟩
abbrev xG (m:Nat) (o:Int):Xc:=⟨[84,111,111,71,114,101,97,116],.xd [([109,97,110,121],.int m),([109,111,115,116],.int o)]⟩
theorem z6k (a b m:Nat):z0l [.pure (.int a),.pure (.int b),.pure (.int m)]=some (if m < a then .inr (xG a m,[.pure (.int a),.pure (.int b),.pure (.int m)]) else if m < b then .inr (xG b m,[.pure (.int a),.pure (.int b),.pure (.int m)]) else .inl (.pure .non,[.pure (.int a),.pure (.int b),.pure (.int m)])):=by
 rw [z0l,z61,z20]
 by_cases h1:m < a
 ·have h1':(m:Int) < a:=by omega
  simp [ioOk,z0j,dTr,eOpF,eOpN,bVar,eVar,gt_int,h1,h1',z2A,z0d]
 ·have h1':¬ (m:Int) < a:=by omega
  by_cases h2:m < b
  ·have h2':(m:Int) < b:=by omega
   simp [ioOk,z0j,dTr,eOpF,eOpN,bVar,eVar,gt_int,h1,h1',h2,h2',z2A,z0d]
  ·have h2':¬ (m:Int) < b:=by omega
   simp [ioOk,z0j,dTr,eOpF,eOpN,bVar,eVar,gt_int,h1,h1',h2,h2',z0T,z0d]
theorem zb3 {a b m:Nat} (ha:a≤m) (hb:b≤m):z0l [.pure (.int a),.pure (.int b),.pure (.int m)]=some (.inl (.pure .non,[.pure (.int a),.pure (.int b),.pure (.int m)])):=by
 rw [z6k,if_neg (by omega),if_neg (by omega)]
theorem z9m (F:Fl2 bs A C fl) (hA:A≤64) (hC:C≤64):z0O [.pure (dcM bs),.pure (flD fl)]=some (.pure .non,[.pure (dcM bs),.pure (flD fl)]):=by
 have hl:=z4U fl C (fun x hx=>Nat.le_of_eq (F.cols x hx))
 have ej:z1q [] (flD fl)=some (.pure (.str fl.flatten)):=by
  have h1:=z44 fl (by
   rw [F.rows] at hl
   have:A * C≤64 * 64:=JT hA hC
   omega)
  exact h1
 obtain ⟨δ',e,c,rfl⟩:=z1c (g:=gNm [] 2) (b:=(dIf (dTr (eOp (pIn true) (eVar 2) (bVar 0))) zaw z10)) (fun _ δ=>∃ c,δ=[some (.pure (dcM bs)),some (.pure (flD fl)),c]) (fl.flatten.map fun n=>D.str [n]) 0 [some (.pure (dcM bs)),some (.pure (flD fl)),none] ⟨_,rfl⟩ (fun i d δ hi ⟨c,eδ⟩=>by
  subst eδ
  rw [WK] at hi
  cases en:fl.flatten[i]? with
  | none=>rw [en] at hi; cases hi
  | some n =>
   rw [en] at hi
   cases hi
   have hm:n ∈ bs.map (·.1):=by
    obtain ⟨r,hr,hn⟩:=List.mem_flatten.mp (WI en)
    exact F.tl r hr n hn
   have hin:=zfg hm
   refine ⟨_,[some (.pure (dcM bs)),some (.pure (flD fl)),some (.pure (.str [n]))],rfl,?_,_,rfl⟩
   generalize dcM bs=T at hin
   generalize flD fl=U
   simp [dTr,eVar,bVar,hin])
 rw [z0O]
 refine zfk (δ1:=[some (.pure (dcM bs)),some (.pure (flD fl)),c]) ?_
 rw [z1I]
 refine (z5y (δ1:=[some (.pure (dcM bs)),some (.pure (flD fl)),none]) (ds:=fl.flatten.map fun n=>D.str [n]) ?_).trans e
 generalize dcM bs=T
 generalize flD fl=U at ej
 simp [z0j,z2U,bVar,ej]
def z4k (h:Nat) (bs:List (Nat×List Tx)) (fl:List Tx):Nat→List Tx
 | 0=>fl
 | k + 1=>lay h bs (z4k h bs fl k)
theorem za6 {h w:Nat} {bs:List (Nat×List Tx)} (R:Rul h w bs) {A C:Nat} {fl:List Tx} (F:Fl2 bs A C fl):∀ k,Fl2 bs (A * h ^ k) (C * w ^ k) (z4k h bs fl k)
 | 0=>by rw [Nat.pow_zero,Nat.pow_zero,Nat.mul_one,Nat.mul_one]; exact F
 | k + 1=>by
  have:=z9Q R (za6 R F k)
  rw [Nat.pow_succ,Nat.pow_succ,← Nat.mul_assoc,← Nat.mul_assoc]
  exact this
theorem za7 {h w:Nat} {bs:List (Nat×List Tx)} (R:Rul h w bs) {A C:Nat} {fl:List Tx} (F:Fl2 bs A C fl) (T0 T2 T4 T5:D):∀ (t k:Nat) (s8:Option S),(∀ i,i < k + t→A * h ^ i≤1000∧C * w ^ i≤1000) →
  ∃ s,forL (gNm [] 8) (dAsg (z05 z0R [.val (eVar 6),.val (eVar 3),.val (eVar 7)]) (gNm [] 7)) (z0z (k:Int) t) [some (.pure T0),some (.pure (flD fl)),some (.pure T2),some (.pure (.int h)),some (.pure T4),some (.pure T5),some (.pure (dcM bs)),some (.pure (flD (z4k h bs fl k))),s8] =
   .ok .next [some (.pure T0),some (.pure (flD fl)),some (.pure T2),some (.pure (.int h)),some (.pure T4),some (.pure T5),some (.pure (dcM bs)),some (.pure (flD (z4k h bs fl (k + t)))),s]
 | 0,k,s8,_=>⟨s8,rfl⟩
 | t + 1,k,s8,hb=>by
  obtain ⟨b1,b2⟩:=hb k (by omega)
  have e:=zeg R (za6 R F k) b1 b2
  obtain ⟨s,e2⟩:=za7 R F T0 T2 T4 T5 t (k + 1) (some (.pure (.int k))) (fun i hi=>hb i (by omega))
  refine ⟨s,?_⟩
  have er:z0z (k:Int) (t + 1) = .int (k:Int) :: z0z ((k + 1:Nat):Int) t:=by
   unfold z0z
   rw [List.range_succ_eq_map,Wr,WH]
   simp only [Function.comp_def,List.cons.injEq,D.int.injEq]
   refine ⟨by simp,List.map_congr_left fun i _=>?_⟩
   simp only [D.int.injEq]
   push_cast
   omega
  rw [er,show k + (t + 1)=k + 1 + t by omega]
  refine Eq.trans ?_ e2
  show (dAsg (z05 z0R [.val (eVar 6),.val (eVar 3),.val (eVar 7)]) (gNm [] 7) [some (.pure T0),some (.pure (flD fl)),some (.pure T2),some (.pure (.int h)),some (.pure T4),some (.pure T5),some (.pure (dcM bs)),some (.pure (flD (z4k h bs fl k))),some (.pure (.int k))]).bind _=_
  have st:dAsg (z05 z0R [.val (eVar 6),.val (eVar 3),.val (eVar 7)]) (gNm [] 7) [some (.pure T0),some (.pure (flD fl)),some (.pure T2),some (.pure (.int h)),some (.pure T4),some (.pure T5),some (.pure (dcM bs)),some (.pure (flD (z4k h bs fl k))),some (.pure (.int k))] =
    .ok .next [some (.pure T0),some (.pure (flD fl)),some (.pure T2),some (.pure (.int h)),some (.pure T4),some (.pure T5),some (.pure (dcM bs)),some (.pure (flD (z4k h bs fl (k + 1)))),some (.pure (.int k))]:=by
   show _=Rs.ok Fl.next [some (.pure T0),some (.pure (flD fl)),some (.pure T2),some (.pure (.int h)),some (.pure T4),some (.pure T5),some (.pure (dcM bs)),some (.pure (flD (lay h bs (z4k h bs fl k)))),some (.pure (.int k))]
   generalize flD (lay h bs (z4k h bs fl k))=Y at *
   generalize flD (z4k h bs fl k)=X at *
   generalize flD fl=U at *
   generalize dcM bs=V at *
   simp [dAsg,z05,ios,ndup,evX,eVar,mkA,e,putA]
  rw [st]
  rfl
theorem z7x (U Y V W:D) {A C h w t r0 P Q:D} (g1:z0v [.pure A,.pure h,.pure t]=some (.pure P,[.pure A,.pure h,.pure t])) (g2:z0v [.pure C,.pure w,.pure t]=some (.pure Q,[.pure C,.pure w,.pure t]))
  (x0:pIx Y (.int 0)=some (.pure r0)) (l0:pLen r0=some (.pure C)) (l1:pLen Y=some (.pure A)) {M:D} (eb:z0l [.pure P,.pure Q,.pure M]=some (.inl (.pure .non,[.pure P,.pure Q,.pure M]))) :
  z45 (z5B z0l [.val (z05 z0v [.val (eC1 pLen (bVar 1)),.val (eVar 3),.val (eVar 2)]),.val (z05 z0v [.val (eC1 pLen (bOf (eOpF pIx 1 (bOf (eD (.int 0)))))),.val (eVar 4),.val (eVar 2)]),.val (eD M)]) [some (.pure U),some (.pure Y),some (.pure t),some (.pure h),some (.pure w),some (.pure V),some (.pure W),none,none] =
   .ok .next [some (.pure U),some (.pure Y),some (.pure t),some (.pure h),some (.pure w),some (.pure V),some (.pure W),none,none]:=by
 have c1:z05 z0v [.val (eC1 pLen (bVar 1)),.val (eVar 3),.val (eVar 2)] [some (.pure U),some (.pure Y),some (.pure t),some (.pure h),some (.pure w),some (.pure V),some (.pure W),none,none] = .ok (.pure P) [some (.pure U),some (.pure Y),some (.pure t),some (.pure h),some (.pure w),some (.pure V),some (.pure W),none,none]:=by
  simp [z05,ios,ndup,evX,eVar,bVar,l1,mkA,g1,putA]
 have c2:z05 z0v [.val (eC1 pLen (bOf (eOpF pIx 1 (bOf (eD (.int 0)))))),.val (eVar 4),.val (eVar 2)] [some (.pure U),some (.pure Y),some (.pure t),some (.pure h),some (.pure w),some (.pure V),some (.pure W),none,none] = .ok (.pure Q) [some (.pure U),some (.pure Y),some (.pure t),some (.pure h),some (.pure w),some (.pure V),some (.pure W),none,none]:=by
  simp [z05,ios,ndup,evX,eVar,bVar,eOpF,eOpN,x0,l0,mkA,g2,putA]
 unfold z45
 rw [z5B]
 simp [ios,ndup,evX,c1,c2,mkA,eb,putA]
theorem zcT {h w t:Nat} {bs:List (Nat×List Tx)} (R:Rul h w bs) {A C:Nat} {fl:List Tx} (F:Fl2 bs A C fl) (hA0:0 < A) (ht:t≤10) (hA:A * h ^ t≤64) (hC:C * w ^ t≤64) :
  z14 [.pure (ruD h w bs),.pure (flD fl),.pure (.int t)]=some (.pure (flD (z4k h bs fl t)),[.pure (ruD h w bs),.pure (flD fl),.pure (.int t)]):=by
 have h1:=R.h1
 have w1:=R.w1
 have h0:=R.h0
 have w0:=R.w0
 have pA:∀ i,i≤t→A * h ^ i≤64:=fun i hi=>WO (Nat.mul_le_mul_left A (Nat.pow_le_pow_right h0 hi)) hA
 have pC:∀ i,i≤t→C * w ^ i≤64:=fun i hi=>WO (Nat.mul_le_mul_left C (Nat.pow_le_pow_right w0 hi)) hC
 have a64:A≤64:=by simpa using pA 0 (by omega)
 have c64:C≤64:=by simpa using pC 0 (by omega)
 obtain ⟨r0,hr0⟩:∃ r0,fl[0]? = some r0:=⟨fl[0]'(by rw [F.rows]; exact hA0),by simp [F.rows,hA0]⟩
 have lr:r0.length=C:=F.cols r0 (WI hr0)
 have x0:pIx (flD fl) (.int 0)=some (.pure (.str r0)):=by simp [pIx,z27,hr0]
 have l0:pLen (.str r0)=some (.pure (.int C)):=by rw [zbt r0 (by omega),lr]
 have l1:pLen (flD fl)=some (.pure (.int A)):=by rw [zdr]; simp [F.rows]
 have ed:=dictM R
 have e1:=z9m F a64 c64
 have g1:=z7P A h t (by omega) (by omega)
 have g2:=z7P C w t (by omega) (by omega)
 have eb:z0l [.pure (.int ((A * h ^ t:Nat):Int)),.pure (.int ((C * w ^ t:Nat):Int)),.pure (.int 64)]=some (.inl (.pure .non,[.pure (.int ((A * h ^ t:Nat):Int)),.pure (.int ((C * w ^ t:Nat):Int)),.pure (.int 64)])):=zb3 (m:=64) hA hC
 obtain ⟨s,el⟩:=za7 R F (ruD h w bs) (.int t) (.int w) (.tup (bs.map blD)) t 0 none (fun i hi=>⟨WO (pA i (by omega)) (by decide),WO (pC i (by omega)) (by decide)⟩)
 rw [WX] at el
 have hsm:z46 (t:Int)=true:=by unfold z46; simp; omega
 rw [z14]
 refine zfj (δ1:=[some (.pure (ruD h w bs)),some (.pure (flD fl)),some (.pure (.int t)),some (.pure (.int h)),some (.pure (.int w)),some (.pure (.tup (bs.map blD))),some (.pure (dcM bs)),some (.pure (flD (z4k h bs fl t))),s]) ?_
 rw [z2D]
 rw [z0b (δ1:=[some (.pure (ruD h w bs)),some (.pure (flD fl)),some (.pure (.int t)),some (.pure (.int h)),some (.pure (.int w)),some (.pure (.tup (bs.map blD))),none,none,none]) (by simp [z0j,dAsg,eVar,gTp,z0f,z1b])]
 rw [z0b (δ1:=[some (.pure (ruD h w bs)),some (.pure (flD fl)),some (.pure (.int t)),some (.pure (.int h)),some (.pure (.int w)),some (.pure (.tup (bs.map blD))),some (.own (dcM bs)),none,none]) (by
  clear el e1
  generalize ruD h w bs=U
  generalize D.tup (bs.map blD)=V at ed
  generalize dcM bs=W at ed
  simp [dAsg,bVar,ed])]
 rw [z0b (δ1:=[some (.pure (ruD h w bs)),some (.pure (flD fl)),some (.pure (.int t)),some (.pure (.int h)),some (.pure (.int w)),some (.pure (.tup (bs.map blD))),some (.pure (dcM bs)),none,none]) (by
  clear el ed
  generalize ruD h w bs=U
  generalize D.tup (bs.map blD)=V
  generalize dcM bs=W at e1
  generalize flD fl=Y at e1
  simp [z45,z05,ios,ndup,evX,eVar,mkA,e1,putA])]
 rw [z0b (δ1:=[some (.pure (ruD h w bs)),some (.pure (flD fl)),some (.pure (.int t)),some (.pure (.int h)),some (.pure (.int w)),some (.pure (.tup (bs.map blD))),some (.pure (dcM bs)),none,none]) (by
  clear el ed e1
  generalize ruD h w bs=U
  generalize D.tup (bs.map blD)=V
  generalize dcM bs=W
  generalize flD fl=Y at x0 l1
  generalize ((A * h ^ t:Nat):Int)=P at g1 eb
  generalize ((C * w ^ t:Nat):Int)=Q at g2 eb
  exact z7x U Y V W g1 g2 x0 l0 l1 eb)]
 rw [z0b (δ1:=[some (.pure (ruD h w bs)),some (.pure (flD fl)),some (.pure (.int t)),some (.pure (.int h)),some (.pure (.int w)),some (.pure (.tup (bs.map blD))),some (.pure (dcM bs)),some (.pure (flD fl)),none]) (by simp [dAsg,eVar])]
 rw [z0b ((z5y (δ1:=[some (.pure (ruD h w bs)),some (.pure (flD fl)),some (.pure (.int t)),some (.pure (.int h)),some (.pure (.int w)),some (.pure (.tup (bs.map blD))),some (.pure (dcM bs)),some (.pure (flD fl)),none]) (ds:=z0z 0 t) (by simp [z0B,eVar,hsm])).trans el)]
 rfl
theorem zcX {h w:Nat} {bs:List (Nat×List Tx)} (R:Rul h w bs) {A C:Nat} {fl:List Tx} (F:Fl2 bs A C fl) (hA0:0 < A) (hA:A * h≤64) (hC:C * w≤64) :
  z0D [.pure (ruD h w bs),.pure (flD fl)]=some (.pure (flD (lay h bs fl)),[.pure (ruD h w bs),.pure (flD fl)]):=by
 have e:z14 [.pure (ruD h w bs),.pure (flD fl),.pure (.int 1)]=some (.pure (flD (lay h bs fl)),[.pure (ruD h w bs),.pure (flD fl),.pure (.int 1)]):=zcT (t:=1) R F hA0 (by decide) (by simpa using hA) (by simpa using hC)
 rw [z0D]
 refine z6L (δ1:=[some (.pure (ruD h w bs)),some (.pure (flD fl))]) ?_
 rw [z2E]
 generalize ruD h w bs=U at *
 generalize flD fl=V at *
 simp [z0j,z05,ios,ndup,evX,eVar,mkA,e,putA]
theorem zbV (ts:List Nat):z29 (ts.map fun n=>D.str [n])=some (ts.map fun n=>[n]):=by
 have:=z3N (ts.map fun n=>[n])
 simpa [WH,Function.comp_def] using this
theorem zca:∀ {ks:List Tx},ks.Nodup→ndT ks=true
 | [],_=>rfl
 | x :: r,h=>by
  obtain ⟨h1,h2⟩:=WD.mp h
  simp only [ndT,zca h2,Bool.and_true]
  simpa using h1
theorem z9l {h w:Nat} {bs:List (Nat×List Tx)} (R:Rul h w bs):z0q [.pure (ruD h w bs)]=some (.own (tD (bs.map (·.1))),[.pure (ruD h w bs)]):=by
 have n1:=R.n1
 obtain ⟨_,_,x2⟩:=z6f h w bs
 have e:=z1p (cs:=[1,2]) (g:=gTp 2 (z0f (gNm [] 1) (z0f (gNm [] 2) z1b))) (t:=dYes) (el:=eVar 1) blD (fun b=>.str [b.1]) [some (.pure (ruD h w bs)),none,none] bs [] (by rw [z0K]; simp; omega) (fun b hb=>by
  refine ⟨[some (.pure (ruD h w bs)),some (.pure (.str [b.1])),some (.pure (flD b.2))],_,.pure (.str [b.1]),[some (.pure (ruD h w bs)),some (.pure (.str [b.1])),some (.pure (flD b.2))],rfl,rfl,?_,rfl,rfl⟩
  simp [eVar])
 simp only [Q2] at e
 rw [z0q]
 refine zcg (δ1:=[some (.pure (ruD h w bs)),none,none]) ?_
 rw [z33]
 have et:tD (bs.map (·.1)) = .lst (bs.map fun b=>D.str [b.1]):=by simp [tD,Function.comp_def]
 rw [et]
 show dRet (z0N [1,2] (iSq (eOpF pIx 0 (bOf (eD (.int 2))))) (gTp 2 (z0f (gNm [] 1) (z0f (gNm [] 2) z1b))) dYes (eVar 1)) [some (.pure (ruD h w bs)),none,none]=_
 generalize ruD h w bs=U at *
 simp [z2U,eOpF,eOpN,bVar,x2,z0J,clrD,e,z1r]
theorem z6z {ts:List Nat} (nd:ts.Nodup):ndT (ts.map fun n=>[n])=true:=by
 refine zca ?_
 rw [List.nodup_iff_pairwise_ne,JY]
 exact (List.nodup_iff_pairwise_ne.mp nd).imp fun h z=>h (by simpa using z)
theorem z9U {h' w':Nat} {bs bs':List (Nat×List Tx)} (U V:D) (a b c:Option S) (hV:V=ruD h' w' bs') (hn:bs.length≤26) (hG:∀ b ∈ bs,z0D [.pure V,.pure (flD b.2)]=some (.pure (flD (lay h' bs' b.2)),[.pure V,.pure (flD b.2)])) :
  z1f [5,6] (gTp 2 (z0f (gNm [] 5) (z0f (gNm [] 6) z1b))) dYes (eTup (z04 (eVar 5) (z04 (z05 z0D [.val (eVar 1),.val (eVar 6)]) aNil))) (bs.map blD) [some (.pure U),some (.pure V),a,b,c,none,none] [] = .ok ((z3M h' bs' bs).map blD) [some (.pure U),some (.pure V),a,b,c,none,none]:=by
 have:=z1p (cs:=[5,6]) (g:=gTp 2 (z0f (gNm [] 5) (z0f (gNm [] 6) z1b))) (t:=dYes) (el:=eTup (z04 (eVar 5) (z04 (z05 z0D [.val (eVar 1),.val (eVar 6)]) aNil))) blD (fun b=>blD (b.1,lay h' bs' b.2)) [some (.pure U),some (.pure V),a,b,c,none,none] bs [] (by rw [z0K]; simp; omega) (fun x hx=>by
  have g:=hG x hx
  refine ⟨[some (.pure U),some (.pure V),a,b,c,some (.pure (.str [x.1])),some (.pure (flD x.2))],_,.pure (blD (x.1,lay h' bs' x.2)),[some (.pure U),some (.pure V),a,b,c,some (.pure (.str [x.1])),some (.pure (flD x.2))],rfl,rfl,?_,rfl,rfl⟩
  show _=Rs.ok (S.pure (.tup [.str [x.1],flD (lay h' bs' x.2)])) _
  generalize flD (lay h' bs' x.2)=Y at *
  generalize flD x.2=Z at *
  simp [eTup,z04,aNil,eVar,z05,ios,ndup,evX,mkA,g,putA])
 rw [this]
 simp [z3M,WH,Function.comp_def]
def od (ts us:List Nat):List Nat:=ts.filter (fun n=>!us.contains n) ++ us.filter fun n=>!ts.contains n
theorem cont1 (us:List Nat) (n:Nat):(us.map fun n=>[n]).contains [n]=us.contains n:=by
 rw [U1]
 simp
theorem zfp (ts us:List Nat):(ts.map fun n=>[n]).filter (fun t=>!(us.map fun n=>[n]).contains t)=(ts.filter fun n=>!us.contains n).map fun n=>[n]:=by
 rw [List.filter_map]
 congr 1
 refine List.filter_congr fun n _=>?_
 show (!(us.map fun n=>[n]).contains [n]) = !us.contains n
 rw [cont1]
theorem zdZ (ts us:List Nat):symU (ts.map fun n=>[n]) (us.map fun n=>[n])=(od us ts).map fun n=>[n]:=by
 unfold symU od
 rw [zfp,zfp,Qw]
theorem z7j (ts:List Nat):od ts ts=[]:=by
 unfold od
 simp
theorem z9J {ts us:List Nat} {n:Nat} (h:od ts us=[n]):od us ts=[n]:=by
 unfold od at *
 cases e1:ts.filter (fun n=>!us.contains n) with
 | nil=>rw [e1] at h; rw [WN]; exact h
 | cons x r =>
  rw [e1] at h
  cases e2:us.filter (fun n=>!ts.contains n) with
  | nil=>rw [e2,WN] at h; exact h
  | cons y q=>rw [e2] at h; have:=congrArg QF h; simp at this
theorem zdS {h w h' w':Nat} {bs bs':List (Nat×List Tx)} (R:Rul h w bs) (R':Rul h' w' bs') (h7:bs'.length≤7) (a b c d e:Option S) :
  z7s (z05 z0q [.val (eVar 0)]) (z05 z0q [.val (eVar 1)]) [some (.pure (ruD h w bs)),some (.pure (ruD h' w' bs')),a,b,c,d,e] = .ok (.own (.lst ((z1g (od (bs'.map (·.1)) (bs.map (·.1)))).map fun n=>D.str [n]))) [some (.pure (ruD h w bs)),some (.pure (ruD h' w' bs')),a,b,c,d,e]:=by
 have t1:=z9l R
 have t2:=z9l R'
 have n1:=R.n1
 have nd:(bs.map (·.1)).Nodup:=R.up.imp fun h=>Wo h
 have nd':(bs'.map (·.1)).Nodup:=R'.up.imp fun h=>Wo h
 have q1:tL (tD (bs.map (·.1)))=some ((bs.map (·.1)).map fun n=>[n]):=zbV _
 have q1':tL (tD (bs'.map (·.1)))=some ((bs'.map (·.1)).map fun n=>[n]):=zbV _
 have q2:=z6z nd
 have q2':=z6z nd'
 have q3:((bs.map (·.1)).map fun n=>[n]).length≤40:=by simp; omega
 have q3':((bs'.map (·.1)).map fun n=>[n]).length≤7:=by simpa using h7
 have q4:(z23 (symU ((bs.map (·.1)).map fun n=>[n]) ((bs'.map (·.1)).map fun n=>[n]))).map D.str=(z1g (od (bs'.map (·.1)) (bs.map (·.1)))).map fun n=>D.str [n]:=by
  rw [zdZ,z91,WH]
  rfl
 have q5:pSym ((bs.map (·.1)).map fun n=>[n]) (tD (bs'.map (·.1)))=some (.own (.lst ((z1g (od (bs'.map (·.1)) (bs.map (·.1)))).map fun n=>D.str [n]))):=by
  unfold pSym
  rw [q1']
  simp only
  rw [if_pos ⟨q3',q2'⟩,q4]
 unfold z7s
 generalize ruD h w bs=U at *
 generalize ruD h' w' bs'=V at *
 generalize tD (bs.map (·.1))=T at *
 generalize tD (bs'.map (·.1))=T' at *
 generalize ((bs.map (·.1)).map fun n=>[n])=L at *
 generalize D.lst ((z1g (od (bs'.map (·.1)) (bs.map (·.1)))).map fun n=>D.str [n])=Z at *
 have c1:z05 z0q [.val (eVar 0)] [some (.pure U),some (.pure V),a,b,c,d,e] = .ok (.own T) [some (.pure U),some (.pure V),a,b,c,d,e]:=by
  simp [z05,ios,ndup,evX,eVar,mkA,t1,putA]
 have c2:z05 z0q [.val (eVar 1)] [some (.pure U),some (.pure V),a,b,c,d,e] = .ok (.own T') [some (.pure U),some (.pure V),a,b,c,d,e]:=by
  simp [z05,ios,ndup,evX,eVar,mkA,t2,putA]
 rw [c1]
 simp [Rs.bind,S.d,q1,q2,q3,c2,q5]
theorem zdT {b:DS} {n:Nat} {x y:D} {v:S} {δ1:Dl} (e:b (z0j n [.pure x,.pure y]) = .ok (.ret v) δ1):gOfX [] n b [.pure x,.pure y]=some (.inl (v,[.pure x,.pure y])):=by
 rw [z61,e]; simp [ioOk,z0T,z0d]
theorem z8Q {b:DS} {n:Nat} {x y:D} {v:Xc} {δ1:Dl} (e:b (z0j n [.pure x,.pure y]) = .exc v δ1):gOfX [] n b [.pure x,.pure y]=some (.inr (v,[.pure x,.pure y])):=by
 rw [z61,e]; simp [ioOk,z0d]
theorem z7b (h:a δ = .exc v δ1):dSeq a b δ = .exc v δ1:=by unfold dSeq; rw [h]; rfl
def resJ (h w:Nat) (bs:List (Nat×List Tx)) (h' w':Nat) (bs':List (Nat×List Tx)):Xc ⊕ D:=match od (bs'.map (·.1)) (bs.map (·.1)) with
 | n :: _=>.inl (xT n)
 | []=>if 4 < h * h' then .inl (xG (h * h') 4) else if 4 < w * w' then .inl (xG (w * w') 4) else .inr (ruD (h * h') (w * w') (z3M h' bs' bs))
def outJ (ss:List S):Xc ⊕ D→(S×List S) ⊕ (Xc×List S)
 | .inl x=>.inr (x,ss)
 | .inr d=>.inl (.pure d,ss)
def Near (ts us:List Nat):Prop:=us=ts∨∃ n,od us ts=[n]
theorem Near.swap {ts us:List Nat} (h:Near ts us):Near us ts:=by
 rcases h with h | ⟨n,h⟩
 ·exact .inl h.symm
 ·exact .inr ⟨n,z9J h⟩
theorem zb2 {h w h' w':Nat} {bs bs':List (Nat×List Tx)} (R:Rul h w bs) (R':Rul h' w' bs') (hN:Near (bs.map (·.1)) (bs'.map (·.1))) (n7:bs'.length≤7) :
  z1e [.pure (ruD h w bs),.pure (ruD h' w' bs')]=some (outJ [.pure (ruD h w bs),.pure (ruD h' w' bs')] (resJ h w bs h' w' bs')):=by
 have hs:=zdS R R' n7
 obtain ⟨x0,x1,x2⟩:=z6f h w bs
 obtain ⟨y0,y1,_⟩:=z6f h' w' bs'
 rw [z1e]
 rcases hN with ht | ⟨n,ho⟩
 ·have eo:od (bs'.map (·.1)) (bs.map (·.1))=[]:=by rw [ht]; exact z7j _
  rw [eo] at hs
  have hs:∀ a b c d e:Option S,z7s (z05 z0q [.val (eVar 0)]) (z05 z0q [.val (eVar 1)]) [some (.pure (ruD h w bs)),some (.pure (ruD h' w' bs')),a,b,c,d,e] = .ok (.own (.lst [])) [some (.pure (ruD h w bs)),some (.pure (ruD h' w' bs')),a,b,c,d,e]:=hs
  have m1:=mul_int h h' (by omega) (by have:=R'.h1; omega)
  have m2:=mul_int w w' (by omega) (by have:=R'.w1; omega)
  rw [show (h:Int) * (h':Int)=((h * h':Nat):Int) by simp] at m1
  rw [show (w:Int) * (w':Int)=((w * w':Nat):Int) by simp] at m2
  have hb:=z6k (h * h') (w * w') 4
  have hb:z0l [.pure (.int ((h * h':Nat):Int)),.pure (.int ((w * w':Nat):Int)),.pure (.int 4)]=_:=hb
  have l0:pLen (.lst [])=some (.pure (.int 0)):=rfl
  have g0:pGt (.int 0) (.int 0)=some (.pure (.bl false)):=rfl
  have hj:=fun (h4:h * h'≤4) (w4:w * w'≤4) a b c=>z9U (ruD h w bs) (ruD h' w' bs') a b c rfl (bs:=bs) (by have:=R.n1; omega) (fun b hb=>by
   obtain ⟨k1,k2⟩:=R.blk b hb
   have F:Fl2 bs' h w b.2:=⟨k1,fun r hr=>(k2 r hr).1,fun r hr n hn=>by rw [ht]; exact (k2 r hr).2 n hn⟩
   exact zcX R' F R.h0 (by omega) (by omega))
  have et:z15 (.lst ((z3M h' bs' bs).map blD))=some (.pure (.tup ((z3M h' bs' bs).map blD))):=rfl
  unfold resJ
  rw [eo]
  simp only
  by_cases c1:4 < h * h'
  ·rw [if_pos c1] at hb ⊢
   refine z8Q (δ1:=[some (.pure (ruD h w bs)),some (.pure (ruD h' w' bs')),some (.own (.lst [])),some (.pure (.int ((h * h':Nat):Int))),some (.pure (.int ((w * w':Nat):Int))),none,none]) ?_
   rw [z1d]
   generalize xG (h * h') 4=E at *
   clear hj et x2
   generalize ruD h w bs=U at *
   generalize ruD h' w' bs'=V at *
   generalize ((h * h':Nat):Int)=A at *
   generalize ((w * w':Nat):Int)=C at *
   rw [z0b (δ1:=[some (.pure U),some (.pure V),some (.own (.lst [])),none,none,none,none]) (by
    show dAsg _ _ [some (.pure U),some (.pure V),none,none,none,none,none]=_
    unfold dAsg
    rw [hs]
    rfl)]
   rw [z0b (δ1:=[some (.pure U),some (.pure V),some (.own (.lst [])),none,none,none,none]) (by simp [dTr,bVar,l0,g0])]
   rw [z0b (δ1:=[some (.pure U),some (.pure V),some (.own (.lst [])),some (.pure (.int A)),none,none,none]) (by simp [dAsg,eOpF,eOpN,bVar,x0,y0,m1])]
   rw [z0b (δ1:=[some (.pure U),some (.pure V),some (.own (.lst [])),some (.pure (.int A)),some (.pure (.int C)),none,none]) (by simp [dAsg,eOpF,eOpN,bVar,x1,y1,m2])]
   exact z7b (by simp [z45,z2Z,ios,ndup,evX,eVar,mkA,hb,putA])
  ·rw [if_neg c1] at hb ⊢
   by_cases c2:4 < w * w'
   ·rw [if_pos c2] at hb ⊢
    refine z8Q (δ1:=[some (.pure (ruD h w bs)),some (.pure (ruD h' w' bs')),some (.own (.lst [])),some (.pure (.int ((h * h':Nat):Int))),some (.pure (.int ((w * w':Nat):Int))),none,none]) ?_
    rw [z1d]
    generalize xG (w * w') 4=E at *
    clear hj et x2
    generalize ruD h w bs=U at *
    generalize ruD h' w' bs'=V at *
    generalize ((h * h':Nat):Int)=A at *
    generalize ((w * w':Nat):Int)=C at *
    rw [z0b (δ1:=[some (.pure U),some (.pure V),some (.own (.lst [])),none,none,none,none]) (by
     show dAsg _ _ [some (.pure U),some (.pure V),none,none,none,none,none]=_
     unfold dAsg
     rw [hs]
     rfl)]
    rw [z0b (δ1:=[some (.pure U),some (.pure V),some (.own (.lst [])),none,none,none,none]) (by simp [dTr,bVar,l0,g0])]
    rw [z0b (δ1:=[some (.pure U),some (.pure V),some (.own (.lst [])),some (.pure (.int A)),none,none,none]) (by simp [dAsg,eOpF,eOpN,bVar,x0,y0,m1])]
    rw [z0b (δ1:=[some (.pure U),some (.pure V),some (.own (.lst [])),some (.pure (.int A)),some (.pure (.int C)),none,none]) (by simp [dAsg,eOpF,eOpN,bVar,x1,y1,m2])]
    exact z7b (by simp [z45,z2Z,ios,ndup,evX,eVar,mkA,hb,putA])
   ·rw [if_neg c2] at hb ⊢
    have hj:=hj (by omega) (by omega)
    refine zdT (δ1:=[some (.pure (ruD h w bs)),some (.pure (ruD h' w' bs')),some (.own (.lst [])),some (.pure (.int ((h * h':Nat):Int))),some (.pure (.int ((w * w':Nat):Int))),none,none]) ?_
    rw [z1d]
    show _=Rs.ok (Fl.ret (S.pure (.tup [.int ((h * h':Nat):Int),.int ((w * w':Nat):Int),.tup ((z3M h' bs' bs).map blD)]))) _
    generalize ruD h w bs=U at *
    generalize ruD h' w' bs'=V at *
    generalize ((h * h':Nat):Int)=A at *
    generalize ((w * w':Nat):Int)=C at *
    generalize (z3M h' bs' bs).map blD=J at *
    generalize bs.map blD=B at *
    generalize z0D=GG at *
    rw [z0b (δ1:=[some (.pure U),some (.pure V),some (.own (.lst [])),none,none,none,none]) (by
     show dAsg _ _ [some (.pure U),some (.pure V),none,none,none,none,none]=_
     unfold dAsg
     rw [hs]
     rfl)]
    rw [z0b (δ1:=[some (.pure U),some (.pure V),some (.own (.lst [])),none,none,none,none]) (by simp [dTr,bVar,l0,g0])]
    rw [z0b (δ1:=[some (.pure U),some (.pure V),some (.own (.lst [])),some (.pure (.int A)),none,none,none]) (by simp [dAsg,eOpF,eOpN,bVar,x0,y0,m1])]
    rw [z0b (δ1:=[some (.pure U),some (.pure V),some (.own (.lst [])),some (.pure (.int A)),some (.pure (.int C)),none,none]) (by simp [dAsg,eOpF,eOpN,bVar,x1,y1,m2])]
    rw [z0b (δ1:=[some (.pure U),some (.pure V),some (.own (.lst [])),some (.pure (.int A)),some (.pure (.int C)),none,none]) (by simp [z45,z2Z,ios,ndup,evX,eVar,mkA,hb,putA])]
    simp [dRet,eTup,z04,aNil,eVar,z2U,eOpF,eOpN,bVar,x2,z0J,clrD,hj,z1r,et]
 ·rw [ho] at hs
  have hs:∀ a b c d e:Option S,z7s (z05 z0q [.val (eVar 0)]) (z05 z0q [.val (eVar 1)]) [some (.pure (ruD h w bs)),some (.pure (ruD h' w' bs')),a,b,c,d,e] = .ok (.own (.lst [.str [n]])) [some (.pure (ruD h w bs)),some (.pure (ruD h' w' bs')),a,b,c,d,e]:=hs
  have l0:pLen (.lst [.str [n]])=some (.pure (.int 1)):=rfl
  have g0:pGt (.int 1) (.int 0)=some (.pure (.bl true)):=rfl
  have i0:pIx (.lst [.str [n]]) (.int 0)=some (.pure (.str [n])):=by simp [pIx,z27]
  unfold resJ
  rw [ho]
  simp only
  refine z8Q (δ1:=[some (.pure (ruD h w bs)),some (.pure (ruD h' w' bs')),some (.own (.lst [.str [n]])),none,none,none,none]) ?_
  rw [z1d]
  generalize ruD h w bs=U at *
  generalize ruD h' w' bs'=V at *
  rw [z0b (δ1:=[some (.pure U),some (.pure V),some (.own (.lst [.str [n]])),none,none,none,none]) (by
   show dAsg _ _ [some (.pure U),some (.pure V),none,none,none,none,none]=_
   unfold dAsg
   rw [hs]
   rfl)]
  exact z7b (by simp [dTr,bVar,l0,g0,z2A,eOpF,eOpN,z04,aNil,i0])
section
variable {ce:Tx→Nat}
theorem z7r (hi:InjC ce) {z:Tx} (hz:z ∈ ys):ys.find? (fun x=>ce x == ce z)=some z:=by
 cases h:ys.find? (fun x=>ce x == ce z) with
 | none =>
  have:=List.find?_eq_none.mp h z hz
  simp at this
 | some y =>
  have h1:=JG h
  have h2:=Je h
  simp at h1
  rw [hi y h2 z hz h1]
theorem is0 (hi:InjC ce) {z:Tx} (hz:z ∈ ys) (fl:D) (tab:Tx→Bool) (rest:Dl):eIsC ce ys tab (bVar 0) (some (.pure (.exc (ce z) fl)) :: rest) = .ok (.pure (.bl (tab z))) (some (.pure (.exc (ce z) fl)) :: rest):=by
 simp [eIsC,bVar,z7r hi hz]
theorem zcV (hi:InjC ce) (fl:D):z0L ce [.pure (.exc (ce [78,111,84,105,108,101]) fl)]=some (.pure (.str [116,105,108,101]),[.pure (.exc (ce [78,111,84,105,108,101]) fl)]):=by
 have i0:=is0 hi (z:=[78,111,84,105,108,101]) (by simp [ys]) fl
 have c1:z4K (.lst [.bl false,.bl false,.bl false,.bl false,.bl false,.bl true,.bl false,.bl false,.bl false])=some (.pure (.int 1)):=by rfl
 have c2:z3n (.lst [.bl false,.bl false,.bl false,.bl false,.bl false,.bl true,.bl false,.bl false,.bl false])=some (.pure (.int 5)):=by rfl
 rw [z0L,z1X,z1w]
 generalize ce [78,111,84,105,108,101]=n at *
 simp [ioOk,z0j,dAsg,i0,eOpF,eOpN,bVar,pAdd,z0K,z0o,z1W,putL,dTr,c1,c2,pNe,flat,eqD,pIx,atI,ixN,z0T,z0d]
theorem zcW (hi:InjC ce) (fl:D):z0L ce [.pure (.exc (ce [84,111,111,71,114,101,97,116]) fl)]=some (.pure (.str [103,114,101,97,116]),[.pure (.exc (ce [84,111,111,71,114,101,97,116]) fl)]):=by
 have i0:=is0 hi (z:=[84,111,111,71,114,101,97,116]) (by simp [ys]) fl
 have c1:z4K (.lst [.bl false,.bl false,.bl false,.bl false,.bl false,.bl false,.bl false,.bl false,.bl true])=some (.pure (.int 1)):=by rfl
 have c2:z3n (.lst [.bl false,.bl false,.bl false,.bl false,.bl false,.bl false,.bl false,.bl false,.bl true])=some (.pure (.int 8)):=by rfl
 rw [z0L,z1X,z1w]
 generalize ce [84,111,111,71,114,101,97,116]=n at *
 simp [ioOk,z0j,dAsg,i0,eOpF,eOpN,bVar,pAdd,z0K,z0o,z1W,putL,dTr,c1,c2,pNe,flat,eqD,pIx,atI,ixN,z0T,z0d]
theorem zcR (n:Int):z1E [.pure (.int n)]=some (.pure (.bl true),[.pure (.int n)]):=rfl
def z4b (rr:Xc ⊕ D):D:=match rr with
 | .inl ⟨c,.xd [(_,d)]⟩=>.tup [.str [116,105,108,101],d]
 | .inl ⟨c,.xd [(_,d),(_,e)]⟩=>.tup [.str [103,114,101,97,116],.tup [d,e]]
 | .inr f=>.tup [.str [116,111,108,100],f]
 | _=>.non
theorem zet (GJ:DX) (U V:D) (rr:Xc ⊕ D) (g:GJ [.pure U,.pure V]=some (outJ [.pure U,.pure V] rr)) :
  (dRet (eTup (z04 (eD (.str [116,111,108,100])) (z04 (z2Z GJ [.val (eVar 0),.val (eVar 1)]) aNil)))) [some (.pure U),some (.pure V),none,none]=(match rr with
   | .inl x=>.exc x [some (.pure U),some (.pure V),none,none]
   | .inr f=>.ok (.ret (.pure (.tup [.str [116,111,108,100],f]))) [some (.pure U),some (.pure V),none,none]):=by
 cases rr with
 | inl x =>
  simp only [outJ] at g
  simp [dRet,eTup,z04,aNil,z2Z,ios,ndup,z0J,evX,eVar,mkA,g,putA]
 | inr f =>
  simp only [outJ] at g
  simp [dRet,eTup,z04,aNil,z2Z,ios,ndup,z0J,evX,eVar,mkA,g,putA]
theorem zcZ (hi:InjC ce) (GK GW:DF) (U V:D) (n:Nat) (gk:GK [.pure (.exc (ce (xT n).cls) (xT n).flds)]=some (.pure (.str [116,105,108,101]),[.pure (.exc (ce (xT n).cls) (xT n).flds)])) :
  (dSeq (dAsg (z05 GK [.val (eVar 2)]) (gNm [] 3)) (dSeq (dIf (dTr (eOpF pEq 3 (bOf (eD (.str [116,105,108,101]))))) (dRet (eTup (z04 (eVar 3) (z04 (z1Z ce ys [116,105,108,101] (bVar 2)) aNil)))) z10) (dSeq (dIf (dAnd (dTr (eOpF pEq 3 (bOf (eD (.str [103,114,101,97,116]))))) (dAnd (dTr (z05 GW [.val (z1Z ce ys [109,97,110,121] (bVar 2))])) (dTr (z05 GW [.val (z1Z ce ys [109,111,115,116] (bVar 2))])))) (dRet (eTup (z04 (eVar 3) (z04 (eTup (z04 (z1Z ce ys [109,97,110,121] (bVar 2)) (z04 (z1Z ce ys [109,111,115,116] (bVar 2)) aNil))) aNil)))) z10) (dRet (eTup (z04 (eVar 3) (z04 (eD .non) aNil))))))) [some (.pure U),some (.pure V),some (.pure (.exc (ce (xT n).cls) (xT n).flds)),none] = .ok (.ret (.pure (z4b (.inl (xT n))))) [some (.pure U),some (.pure V),some (.pure (.exc (ce (xT n).cls) (xT n).flds)),some (.pure (.str [116,105,108,101]))]:=by
 have f:=z7r hi (z:=(xT n).cls) (by simp [ys])
 have ea:∀ δ:Dl,δ[2]? = some (some (.pure (.exc (ce (xT n).cls) (xT n).flds)))→z1Z ce ys [116,105,108,101] (bVar 2) δ = .ok (.pure (.str [n])) δ:=fun δ hδ=>by simp [z1Z,bVar,hδ,f]
 simp only at ea gk ⊢
 simp [dAsg,z05,ios,ndup,z0J,evX,eVar,mkA,gk,putA,dTr,eOpF,eOpN,bVar,pEq,flat,eqD,ea,z4b]
theorem zd0 (hi:InjC ce) (GK GW:DF) (U V:D) (m:Nat) (gk:GK [.pure (.exc (ce (xG m 4).cls) (xG m 4).flds)]=some (.pure (.str [103,114,101,97,116]),[.pure (.exc (ce (xG m 4).cls) (xG m 4).flds)])) (gw:∀ n:Int,GW [.pure (.int n)]=some (.pure (.bl true),[.pure (.int n)])) :
  (dSeq (dAsg (z05 GK [.val (eVar 2)]) (gNm [] 3)) (dSeq (dIf (dTr (eOpF pEq 3 (bOf (eD (.str [116,105,108,101]))))) (dRet (eTup (z04 (eVar 3) (z04 (z1Z ce ys [116,105,108,101] (bVar 2)) aNil)))) z10) (dSeq (dIf (dAnd (dTr (eOpF pEq 3 (bOf (eD (.str [103,114,101,97,116]))))) (dAnd (dTr (z05 GW [.val (z1Z ce ys [109,97,110,121] (bVar 2))])) (dTr (z05 GW [.val (z1Z ce ys [109,111,115,116] (bVar 2))])))) (dRet (eTup (z04 (eVar 3) (z04 (eTup (z04 (z1Z ce ys [109,97,110,121] (bVar 2)) (z04 (z1Z ce ys [109,111,115,116] (bVar 2)) aNil))) aNil)))) z10) (dRet (eTup (z04 (eVar 3) (z04 (eD .non) aNil))))))) [some (.pure U),some (.pure V),some (.pure (.exc (ce (xG m 4).cls) (xG m 4).flds)),none] = .ok (.ret (.pure (z4b (.inl (xG m 4))))) [some (.pure U),some (.pure V),some (.pure (.exc (ce (xG m 4).cls) (xG m 4).flds)),some (.pure (.str [103,114,101,97,116]))]:=by
 have f:=z7r hi (z:=(xG m 4).cls) (by simp [ys])
 have ea:∀ δ:Dl,δ[2]? = some (some (.pure (.exc (ce (xG m 4).cls) (xG m 4).flds)))→z1Z ce ys [109,97,110,121] (bVar 2) δ = .ok (.pure (.int m)) δ:=fun δ hδ=>by simp [z1Z,bVar,hδ,f]
 have eb:∀ δ:Dl,δ[2]? = some (some (.pure (.exc (ce (xG m 4).cls) (xG m 4).flds)))→z1Z ce ys [109,111,115,116] (bVar 2) δ = .ok (.pure (.int 4)) δ:=fun δ hδ=>by simp [z1Z,bVar,hδ,f,List.lookup]
 simp only at ea eb gk ⊢
 simp [dAsg,z05,ios,ndup,z0J,evX,eVar,mkA,gk,gw,putA,dTr,eOpF,eOpN,bVar,pEq,flat,eqD,ea,eb,z4b]
theorem zeq (hi:InjC ce) (GJ:DX) (GK GW:DF) (U V:D) (rr:Xc ⊕ D) (hr:(∃ n,rr = .inl (xT n))∨(∃ m,rr = .inl (xG m 4))∨∃ f,rr = .inr f) (g:GJ [.pure U,.pure V]=some (outJ [.pure U,.pure V] rr))
  (gkT:∀ fl,GK [.pure (.exc (ce [78,111,84,105,108,101]) fl)]=some (.pure (.str [116,105,108,101]),[.pure (.exc (ce [78,111,84,105,108,101]) fl)])) (gkG:∀ fl,GK [.pure (.exc (ce [84,111,111,71,114,101,97,116]) fl)]=some (.pure (.str [103,114,101,97,116]),[.pure (.exc (ce [84,111,111,71,114,101,97,116]) fl)])) (gw:∀ n:Int,GW [.pure (.int n)]=some (.pure (.bl true),[.pure (.int n)])) :
  gOf [] 4 (z31 ce GJ GK GW) [.pure U,.pure V]=some (.pure (z4b rr),[.pure U,.pure V]):=by
 unfold z31
 have e:=zet GJ U V rr g
 have no:zbn [some (S.pure U),some (.pure V),none,none]=true:=by simp [zbn]
 have st:z0j 4 [S.pure U,.pure V]=[some (S.pure U),some (.pure V),none,none]:=rfl
 rw [z1X,st]
 unfold dTry
 rw [no,e]
 rcases hr with ⟨n,rfl⟩ | ⟨m,rfl⟩ | ⟨f,rfl⟩
 ·have eh:=zcZ hi GK GW U V n (gkT _)
  have hc:(ys.contains (xT n).cls && decide (2 < [some (S.pure U),some (.pure V),none,none].length))=true:=by simp [ys]
  simp only [if_true]
  rw [if_pos hc,QB,QB,Jq,eh]
  simp [unset,ioOk,z0T,z0d]
 ·have eh:=zd0 hi GK GW U V m (gkG _) gw
  have hc:(ys.contains (xG m 4).cls && decide (2 < [some (S.pure U),some (.pure V),none,none].length))=true:=by simp [ys]
  simp only [if_true]
  rw [if_pos hc,QB,QB,Jq,eh]
  simp [unset,ioOk,z0T,z0d]
 ·simp [ioOk,z0T,z0d,z4b]
theorem zcQ (h w:Nat) (bs:List (Nat×List Tx)) (h' w':Nat) (bs':List (Nat×List Tx)):(∃ n,resJ h w bs h' w' bs' = .inl (xT n))∨(∃ m,resJ h w bs h' w' bs' = .inl (xG m 4))∨∃ f,resJ h w bs h' w' bs' = .inr f:=by
 unfold resJ
 split
 ·exact .inl ⟨_,rfl⟩
 ·split
  ·exact .inr (.inl ⟨_,rfl⟩)
  ·split
   ·exact .inr (.inl ⟨_,rfl⟩)
   ·exact .inr (.inr ⟨_,rfl⟩)
theorem z9k (hi:InjC ce) {h w h' w':Nat} {bs bs':List (Nat×List Tx)} (R:Rul h w bs) (R':Rul h' w' bs') (hN:Near (bs.map (·.1)) (bs'.map (·.1))) (n7:bs'.length≤7) :
  z0e ce [.pure (ruD h w bs),.pure (ruD h' w' bs')]=some (.pure (z4b (resJ h w bs h' w' bs')),[.pure (ruD h w bs),.pure (ruD h' w' bs')]):=by
 rw [z0e,z3w]
 exact zeq hi _ _ _ _ _ _ (zcQ h w bs h' w' bs') (zb2 R R' hN n7) (zcV hi) (zcW hi) zcR
end
theorem zew {h w:Nat} {bs:List (Nat×List Tx)} (R:Rul h w bs) {i:Nat} {b:Nat×List Tx} (hb:bs[i]? = some b):putD ((bs.take i).map fun b=>((Sum.inr [b.1]:DKey),flD b.2)) (.inr [b.1]) (flD b.2)=(bs.take (i + 1)).map fun b=>((Sum.inr [b.1]:DKey),flD b.2):=by
 have hi:=(Wb.mp hb).1
 have hn:(((bs.take i).map fun b=>((Sum.inr [b.1]:DKey),flD b.2)).any fun kv=>decide (kv.1 = .inr [b.1]))=false:=by
  rw [List.any_eq_false]
  intro kv hkv
  obtain ⟨c,hc,rfl⟩:=Q7.mp hkv
  simp only [decide_eq_true_eq]
  intro e
  simp at e
  obtain ⟨j,hj⟩:=List.getElem?_of_mem hc
  have hji:j < i:=by have:=(Wb.mp hj).1; simp at this; omega
  rw [List.getElem?_take_of_lt hji] at hj
  have:=List.pairwise_iff_getElem.mp R.up j i (by simp; omega) (by simpa using hi) hji
  have e1:=(Wb.mp hj).2
  have e2:=(Wb.mp hb).2
  simp only [List.getElem_map,e1,e2] at this
  omega
 unfold putD
 rw [hn,Ja,hb]
 simp
theorem fill {h w:Nat} {bs:List (Nat×List Tx)} (R:Rul h w bs) (df:D):∃ o3 o4:Option D,forL (gTp 2 (z0f (gNm [] 3) (z0f (gNm [] 4) z1b))) (z8F 2 (eVar 3) (eVar 4)) (bs.map blD) [some (.pure (ruD h w bs)),some (.pure df),some (.own (.dct [])),none,none,none,none,none]
  = .ok .next [some (.pure (ruD h w bs)),some (.pure df),some (.own (dcM bs)),o3.map .pure,o4.map .pure,none,none,none]:=by
 obtain ⟨δ',e,o3,o4,rfl⟩:=z1c (g:=(gTp 2 (z0f (gNm [] 3) (z0f (gNm [] 4) z1b)))) (b:=(z8F 2 (eVar 3) (eVar 4))) (fun k δ=>∃ o3 o4:Option D,δ=[some (.pure (ruD h w bs)),some (.pure df),some (.own (.dct ((bs.take k).map fun b=>((Sum.inr [b.1]:DKey),flD b.2)))),o3.map .pure,o4.map .pure,none,none,none]) (bs.map blD) 0 [some (.pure (ruD h w bs)),some (.pure df),some (.own (.dct [])),none,none,none,none,none] ⟨none,none,by simp⟩ (fun i d δ hd ⟨o3,o4,e⟩=>by
  subst e
  rw [WK,QS] at hd
  obtain ⟨b,hb,rfl⟩:=hd
  rw [WX]
  have hp:=zew R hb
  have hz:((bs.take i).map fun b=>((Sum.inr [b.1]:DKey),flD b.2)).length < W8:=by
   have:=R.n1
   rw [z0K]; simp; omega
  refine ⟨_,_,rfl,?_,some (.str [b.1]),some (flD b.2),rfl⟩
  generalize ((bs.take (i + 1)).map fun b=>((Sum.inr [b.1]:DKey),flD b.2))=L1 at *
  generalize ((bs.take i).map fun b=>((Sum.inr [b.1]:DKey),flD b.2))=L0 at *
  generalize ruD h w bs=ru at *
  generalize flD b.2=fb at *
  simp [z8F,z6I,eVar,keyD,hz,hp])
 refine ⟨o3,o4,?_⟩
 rw [e]
 simp [dcM]
theorem zes {h w:Nat} {bs:List (Nat×List Tx)} (R:Rul h w bs) {A C:Nat} {fl:List Tx} (F:Fl2 bs A C fl) (hA:A≤64) (hC:C≤64) :
  gOf [] 8 (z32) [.pure (ruD h w bs),.pure (flD fl)]=some (.pure (flD (lay h bs fl)),[.pure (ruD h w bs),.pure (flD fl)]):=by
 unfold z32
 have h1:=R.h1
 have w1:=R.w1
 have x0:=(z6f h w bs).1
 have x2:=(z6f h w bs).2.2
 -- one new row
 have comp:∀ (o4:Option S) (acc:List Tx) (row:Tx) (l:Nat),row ∈ fl→l < h→z1f [3] (gNm [] 3) dYes (eOp pIx (eOpF pIxX 2 (bVar 3)) (bVar 7)) (row.map fun n=>.str [n]) [some (.pure (ruD h w bs)),some (.pure (flD fl)),some (.own (dcM bs)),none,o4,some (.own (.lst (acc.map .str))),some (.pure (.str row)),some (.pure (.int l))] [] = .ok ((row.map fun n=>(blk bs n).getD l []).map .str) [some (.pure (ruD h w bs)),some (.pure (flD fl)),some (.own (dcM bs)),none,o4,some (.own (.lst (acc.map .str))),some (.pure (.str row)),some (.pure (.int l))]:=fun o4 acc row l hrow hl=>by
  have e:=z1p (cs:=[3]) (g:=gNm [] 3) (t:=dYes) (el:=(eOp pIx (eOpF pIxX 2 (bVar 3)) (bVar 7))) (fun n:Nat=>D.str [n]) (fun n=>.str ((blk bs n).getD l [])) [some (.pure (ruD h w bs)),some (.pure (flD fl)),some (.own (dcM bs)),none,o4,some (.own (.lst (acc.map .str))),some (.pure (.str row)),some (.pure (.int l))] row [] (by rw [z0K,F.cols row hrow]; simp; omega) (fun n hn=>by
   have hm:=F.tl row hrow n hn
   have y1:=zfc hm
   have y2:=(z6g R hm hl).2.2
   refine ⟨_,_,.pure (.str ((blk bs n).getD l [])),[some (.pure (ruD h w bs)),some (.pure (flD fl)),some (.own (dcM bs)),some (.pure (.str [n])),o4,some (.own (.lst (acc.map .str))),some (.pure (.str row)),some (.pure (.int l))],rfl,rfl,?_,rfl,rfl⟩
   generalize D.str ((blk bs n).getD l [])=dr at *
   generalize flD (blk bs n)=db at *
   generalize flD fl=df at *
   generalize dcM bs=dd at *
   generalize ruD h w bs=ru at *
   generalize acc.map D.str=ad at *
   simp [eOpF,eOpN,bVar,y1,y2])
  rw [e]
  simp [Function.comp_def]
 -- the rows of one row
 have inner:∀ (o3:Option D) (o4:Option S) (acc:List Tx) (row:Tx) (o:Option S),row ∈ fl→acc.length≤1000→∃ o',forL (gNm [] 7) (z0o 5 (eC1 (z1q []) (bOf (z0N [3] (iSq (eVar 6)) (gNm [] 3) dYes (eOp pIx (eOpF pIxX 2 (bVar 3)) (bVar 7)))))) (z0z 0 h) [some (.pure (ruD h w bs)),some (.pure (flD fl)),some (.own (dcM bs)),o3.map .pure,o4,some (.own (.lst (acc.map .str))),some (.pure (.str row)),o]
   = .ok .next [some (.pure (ruD h w bs)),some (.pure (flD fl)),some (.own (dcM bs)),o3.map .pure,o4,some (.own (.lst ((acc ++ layR h bs row).map .str))),some (.pure (.str row)),o']:=fun o3 o4 acc row o hrow hacc=>by
  obtain ⟨δ',e,o',rfl⟩:=z1c (g:=gNm [] 7) (b:=(z0o 5 (eC1 (z1q []) (bOf (z0N [3] (iSq (eVar 6)) (gNm [] 3) dYes (eOp pIx (eOpF pIxX 2 (bVar 3)) (bVar 7))))))) (fun k δ=>∃ o,δ=[some (.pure (ruD h w bs)),some (.pure (flD fl)),some (.own (dcM bs)),o3.map .pure,o4,some (.own (.lst ((acc ++ layR k bs row).map .str))),some (.pure (.str row)),o]) (z0z 0 h) 0 [some (.pure (ruD h w bs)),some (.pure (flD fl)),some (.own (dcM bs)),o3.map .pure,o4,some (.own (.lst (acc.map .str))),some (.pure (.str row)),o] ⟨o,by simp [layR]⟩ (fun i d δ hd ⟨o,e⟩=>by
   subst e
   obtain ⟨hi,rfl⟩:=z1o hd
   rw [WX]
   have hc:=comp o4 (acc ++ layR i bs row) row i hrow hi
   have hj:z1q [] (.lst ((row.map fun n=>(blk bs n).getD i []).map .str))=some (.pure (.str (lay1 bs i row))):=z44 _ (by
    have hs:=z4U (row.map fun n=>(blk bs n).getD i []) w (fun x hx=>by
     obtain ⟨n,hn,rfl⟩:=Q7.mp hx
     rw [(z6g R (F.tl row hrow n hn) hi).1]
     exact Wd _)
    rw [Ws,F.cols row hrow] at hs
    have:C * w≤64 * 4:=JT hC w1
    omega)
   have hz:((acc ++ layR i bs row).map D.str).length < W8:=by
    rw [z0K]
    simp [layR]
    omega
   have hE:(acc ++ layR (i + 1) bs row).map D.str=(acc ++ layR i bs row).map D.str ++ [.str (lay1 bs i row)]:=by
    simp [layR,JH]
   refine ⟨_,[some (.pure (ruD h w bs)),some (.pure (flD fl)),some (.own (dcM bs)),o3.map .pure,o4,some (.own (.lst ((acc ++ layR (i + 1) bs row).map .str))),some (.pure (.str row)),some (.pure (.int i))],rfl,?_,_,rfl⟩
   rw [hE]
   generalize lay1 bs i row=nr at *
   generalize (row.map fun n=>(blk bs n).getD i []).map D.str=XS at *
   generalize (acc ++ layR i bs row).map D.str=AD at *
   generalize flD fl=df at *
   generalize dcM bs=dd at *
   generalize ruD h w bs=ru at *
   cases o3 <;> (simp [z0o,z1W,z2U,eVar,z0J,clrD]; rw [hc]; simp [z1r,hj,putL,hz]))
  rw [WX,z49] at e
  exact ⟨o',e⟩
 obtain ⟨o3,o4',ef⟩:=fill R (flD fl)
 generalize o4'.map S.pure=o4 at ef
 have outer:∃ o6 o7,forL (gNm [] 6) (dFor (z0B (eOpF pIx 0 (bOf (eD (.int 0))))) (gNm [] 7) (z0o 5 (eC1 (z1q []) (bOf (z0N [3] (iSq (eVar 6)) (gNm [] 3) dYes (eOp pIx (eOpF pIxX 2 (bVar 3)) (bVar 7))))))) (fl.map .str) [some (.pure (ruD h w bs)),some (.pure (flD fl)),some (.own (dcM bs)),o3.map .pure,o4,some (.own (.lst [])),none,none]
   = .ok .next [some (.pure (ruD h w bs)),some (.pure (flD fl)),some (.own (dcM bs)),o3.map .pure,o4,some (.own (.lst ((lay h bs fl).map .str))),o6,o7]:=by
  obtain ⟨δ',e,o6,o7,rfl⟩:=z1c (g:=gNm [] 6) (b:=(dFor (z0B (eOpF pIx 0 (bOf (eD (.int 0))))) (gNm [] 7) (z0o 5 (eC1 (z1q []) (bOf (z0N [3] (iSq (eVar 6)) (gNm [] 3) dYes (eOp pIx (eOpF pIxX 2 (bVar 3)) (bVar 7)))))))) (fun k δ=>∃ o6 o7,δ=[some (.pure (ruD h w bs)),some (.pure (flD fl)),some (.own (dcM bs)),o3.map .pure,o4,some (.own (.lst ((lay h bs (fl.take k)).map .str))),o6,o7]) (fl.map D.str) 0 [some (.pure (ruD h w bs)),some (.pure (flD fl)),some (.own (dcM bs)),o3.map .pure,o4,some (.own (.lst [])),none,none] ⟨none,none,by simp [lay]⟩ (fun i d δ hd ⟨o6,o7,e⟩=>by
   subst e
   rw [WK,QS] at hd
   obtain ⟨row,hrow,rfl⟩:=hd
   rw [WX]
   have hi:i < fl.length:=(Wb.mp hrow).1
   have hlen:(lay h bs (fl.take i)).length≤1000:=by
    have F':Fl2 bs (fl.take i).length C (fl.take i):=⟨rfl,fun r hr=>F.cols r (JA hr),fun r hr=>F.tl r (JA hr)⟩
    have:=(z9Q R F').rows
    rw [this]
    have h2:(fl.take i).length≤64:=by have:=F.rows; rw [Jh]; omega
    have:(fl.take i).length * h≤64 * 4:=JT h2 h1
    omega
   obtain ⟨o',e⟩:=inner o3 o4 (lay h bs (fl.take i)) row o7 (WI hrow) hlen
   have hE:lay h bs (fl.take (i + 1))=lay h bs (fl.take i) ++ layR h bs row:=by
    rw [Ja,hrow]
    simp [lay]
   refine ⟨_,[some (.pure (ruD h w bs)),some (.pure (flD fl)),some (.own (dcM bs)),o3.map .pure,o4,some (.own (.lst ((lay h bs (fl.take (i + 1))).map .str))),some (.pure (.str row)),o'],rfl,?_,_,_,rfl⟩
   rw [hE]
   generalize (lay h bs (fl.take i) ++ layR h bs row).map D.str=AD at *
   generalize (lay h bs (fl.take i)).map D.str=AE at *
   generalize flD fl=df at *
   generalize dcM bs=dd at *
   generalize ruD h w bs=ru at *
   simp only [zal,z6Q,eOpF,eOpN,bVar,zck,zfs,QB,Jq,List.getElem?_cons_succ,List.getElem?_cons_zero,z16,zft,zfq,x0,z48 h (by omega:h≤1000000)]
   exact e)
  refine ⟨o6,o7,?_⟩
  rw [e]
  simp
 obtain ⟨o6,o7,e⟩:=outer
 rw [z1X]
 generalize hAD:(lay h bs fl).map D.str=AD at *
 generalize dcM bs=dd at *
 generalize hru:ruD h w bs=ru at *
 simp [ioOk,z0j,dAsg,z2U,eVar,zao,eOpF,eOpN,bVar,x2]
 rw [ef]
 simp only [z16]
 simp [z2U,eVar]
 rw [e]
 simp [bVar,z15,z0T,z0d]
 exact hAD.symm
theorem zeh {h w:Nat} {bs:List (Nat×List Tx)} (R:Rul h w bs) {A C:Nat} {fl:List Tx} (F:Fl2 bs A C fl) (hA:A≤64) (hC:C≤64):z0X [.pure (ruD h w bs),.pure (flD fl)]=some (.pure (flD (lay h bs fl)),[.pure (ruD h w bs),.pure (flD fl)]):=by
 rw [z0X,z3z]
 exact zes R F hA hC
theorem zdy (ts:List Nat) (n:Nat):pIn true (.str [n]) (.lst (ts.map fun n=>.str [n]))=some (.pure (.bl (!ts.contains n))):=by
 have e:(ts.map fun n=>D.str [n])=(ts.map fun n=>[n]).map D.str:=by simp
 have c:(ts.map fun n=>([n]:Tx)).contains [n]=ts.contains n:=by
  induction ts with
  | nil=>rfl
  | cons a r ih=>simp only [Wr,Jp,ih (by simp)]; congr 1; simp
 unfold pIn
 simp only [e,z3N,c]
 rfl
theorem zf1 (xs:List Nat):pNe (.lst (xs.map fun n=>.str [n])) (.lst [])=some (.pure (.bl (!xs.isEmpty))):=by
 have:flat 50 (.lst (xs.map fun n=>.str [n]))=true:=by
  unfold flat
  induction xs with
  | nil=>rfl
  | cons x r ih=>simp [z3t,flat] at ih ⊢; exact ih
 unfold pNe
 rw [this]
 cases xs with
 | nil=>rfl
 | cons a r=>rfl
theorem zcr (xs zs:List Nat) (h:xs.length + zs.length≤1000):pAdd (tD xs) (tD zs)=some (.own (tD (xs ++ zs))):=by
 unfold tD
 simp only [pAdd]
 rw [if_pos (by rw [z0K]; simp; omega),Qw]
theorem zdq (n:Nat):zbd (tD [n])=some (.pure (.str [n])):=rfl
theorem zaJ {h w:Nat} {bs:List (Nat×List Tx)} (R:Rul h w bs) (s0 s1 s2 s3 s4 s5 s7 s8:Option S):z1f [6] (gNm [] 6) dYes (eOpF pIx 6 (bOf (eD (.int 0)))) (bs.map blD) [s0,s1,s2,s3,s4,s5,none,s7,s8] [] = .ok ((bs.map (·.1)).map fun n=>D.str [n]) [s0,s1,s2,s3,s4,s5,none,s7,s8]:=by
 have c2:=z1p (cs:=[6]) (g:=gNm [] 6) (t:=dYes) (el:=(eOpF pIx 6 (bOf (eD (.int 0))))) blD (fun b:Nat×List Tx=>D.str [b.1]) [s0,s1,s2,s3,s4,s5,none,s7,s8] bs [] (by have:=R.n1; rw [z0K]; simp; omega) (fun b hb=>⟨_,_,.pure (.str [b.1]),[s0,s1,s2,s3,s4,s5,some (.pure (blD b)),s7,s8],rfl,rfl,by
  simp [eOpF,eOpN,bVar,pIx,z27],rfl,rfl⟩)
 have eT:(bs.map fun b:Nat×List Tx=>D.str [b.1])=(bs.map (·.1)).map fun n=>D.str [n]:=by simp
 rw [Q2,eT] at c2
 exact c2
theorem zbI (U V:D) (ts us:List Nat) (h1:ts.length≤100):z1f [7] (gNm [] 7) (dTr (eOp (pIn true) (eVar 7) (bVar 3))) (eVar 7) (ts.map fun n=>D.str [n]) [some (.pure U),some (.pure V),some (.pure (tD ts)),some (.own (tD us)),none,none,none,none,none] [] = .ok ((ts.filter fun n=>!us.contains n).map fun n=>D.str [n]) [some (.pure U),some (.pure V),some (.pure (tD ts)),some (.own (tD us)),none,none,none,none,none]:=by
 have:=z1C (cs:=[7]) (g:=gNm [] 7) (t:=(dTr (eOp (pIn true) (eVar 7) (bVar 3)))) (el:=eVar 7) (fun n:Nat=>D.str [n]) (fun n:Nat=>D.str [n]) (fun n=>!us.contains n) [some (.pure U),some (.pure V),some (.pure (tD ts)),some (.own (tD us)),none,none,none,none,none] ts [] (by rw [z0K]; simp; omega) (fun n _=>by
  have hin:pIn true (.str [n]) (tD us)=some (.pure (.bl (!us.contains n))):=zdy us n
  refine ⟨_,[some (.pure U),some (.pure V),some (.pure (tD ts)),some (.own (tD us)),none,none,none,some (.pure (.str [n])),none],.pure (.str [n]),[some (.pure U),some (.pure V),some (.pure (tD ts)),some (.own (tD us)),none,none,none,some (.pure (.str [n])),none],rfl,?_,rfl,?_,rfl,rfl⟩
  ·generalize tD us=T at *
   generalize tD ts=T' at *
   simp [dTr,eVar,bVar,hin]
  ·simp [eVar])
 rw [Q2] at this
 exact this
theorem zbH (U V:D) (ts us:List Nat) (h1:us.length≤100):z1f [7] (gNm [] 7) (dTr (eOp (pIn true) (eVar 7) (bVar 2))) (eVar 7) (us.map fun n=>D.str [n]) [some (.pure U),some (.pure V),some (.pure (tD ts)),some (.pure (tD us)),none,none,none,none,none] [] = .ok ((us.filter fun n=>!ts.contains n).map fun n=>D.str [n]) [some (.pure U),some (.pure V),some (.pure (tD ts)),some (.pure (tD us)),none,none,none,none,none]:=by
 have:=z1C (cs:=[7]) (g:=gNm [] 7) (t:=(dTr (eOp (pIn true) (eVar 7) (bVar 2)))) (el:=eVar 7) (fun n:Nat=>D.str [n]) (fun n:Nat=>D.str [n]) (fun n=>!ts.contains n) [some (.pure U),some (.pure V),some (.pure (tD ts)),some (.pure (tD us)),none,none,none,none,none] us [] (by rw [z0K]; simp; omega) (fun n _=>by
  have hin:pIn true (.str [n]) (tD ts)=some (.pure (.bl (!ts.contains n))):=zdy ts n
  refine ⟨_,[some (.pure U),some (.pure V),some (.pure (tD ts)),some (.pure (tD us)),none,none,none,some (.pure (.str [n])),none],.pure (.str [n]),[some (.pure U),some (.pure V),some (.pure (tD ts)),some (.pure (tD us)),none,none,none,some (.pure (.str [n])),none],rfl,?_,rfl,?_,rfl,rfl⟩
  ·generalize tD us=T at *
   generalize tD ts=T' at *
   simp [dTr,eVar,bVar,hin]
  ·simp [eVar])
 rw [Q2] at this
 exact this
theorem zbJ {h' w':Nat} {bs bs':List (Nat×List Tx)} (U V:D) (a b c d e:Option S) (hV:V=ruD h' w' bs') (hn:bs.length≤26) (hG:∀ b ∈ bs,z0X [.pure V,.pure (flD b.2)]=some (.pure (flD (lay h' bs' b.2)),[.pure V,.pure (flD b.2)])) :
  z1f [7,8] (gTp 2 (z0f (gNm [] 7) (z0f (gNm [] 8) z1b))) dYes (eTup (z04 (eVar 7) (z04 (z05 z0X [.val (eVar 1),.val (eVar 8)]) aNil))) (bs.map blD) [some (.pure U),some (.pure V),a,b,c,d,e,none,none] [] = .ok ((z3M h' bs' bs).map blD) [some (.pure U),some (.pure V),a,b,c,d,e,none,none]:=by
 have:=z1p (cs:=[7,8]) (g:=gTp 2 (z0f (gNm [] 7) (z0f (gNm [] 8) z1b))) (t:=dYes) (el:=eTup (z04 (eVar 7) (z04 (z05 z0X [.val (eVar 1),.val (eVar 8)]) aNil))) blD (fun b=>blD (b.1,lay h' bs' b.2)) [some (.pure U),some (.pure V),a,b,c,d,e,none,none] bs [] (by rw [z0K]; simp; omega) (fun x hx=>by
  have g:=hG x hx
  refine ⟨[some (.pure U),some (.pure V),a,b,c,d,e,some (.pure (.str [x.1])),some (.pure (flD x.2))],_,.pure (blD (x.1,lay h' bs' x.2)),[some (.pure U),some (.pure V),a,b,c,d,e,some (.pure (.str [x.1])),some (.pure (flD x.2))],rfl,rfl,?_,rfl,rfl⟩
  show _=Rs.ok (S.pure (.tup [.str [x.1],flD (lay h' bs' x.2)])) _
  generalize flD (lay h' bs' x.2)=Y at *
  generalize flD x.2=Z at *
  simp [eTup,z04,aNil,eVar,z05,ios,ndup,evX,mkA,g,putA])
 rw [this]
 simp [z3M,WH,Function.comp_def]
abbrev s9 (U V:D) (a b c d:Option S):Dl:=[some (.pure U),some (.pure V),a,b,c,d,none,none,none]
theorem gt4 (n:Nat):pGt (.int (n:Int)) (.int 4)=some (.pure (.bl (decide (4 < n)))):=by
 rw [gt_int]
 congr 3
 exact decide_eq_decide.mpr (by omega)
theorem zcY {h w h' w':Nat} {bs bs':List (Nat×List Tx)} (R:Rul h w bs) (R':Rul h' w' bs') (hN:Near (bs.map (·.1)) (bs'.map (·.1))) :
  z0m [.pure (ruD h w bs),.pure (ruD h' w' bs')]=some (.pure (z4b (resJ h w bs h' w' bs')),[.pure (ruD h w bs),.pure (ruD h' w' bs')]):=by
 obtain ⟨x0,x1,x2⟩:=z6f h w bs
 obtain ⟨y0,y1,y2⟩:=z6f h' w' bs'
 have n1:=R.n1
 have n1':=R'.n1
 have c1:=zaJ R
 have c2:=zaJ R'
 have o1:=zbI (ruD h w bs) (ruD h' w' bs') (bs.map (·.1)) (bs'.map (·.1)) (by simp; omega)
 have o2:=zbH (ruD h w bs) (ruD h' w' bs') (bs.map (·.1)) (bs'.map (·.1)) (by simp; omega)
 have oa:=zcr ((bs.map (·.1)).filter fun n=>!(bs'.map (·.1)).contains n) ((bs'.map (·.1)).filter fun n=>!(bs.map (·.1)).contains n) (by
  have l1:=Jx (fun n=>!(bs'.map (·.1)).contains n) (bs.map (·.1))
  have l2:=Jx (fun n=>!(bs.map (·.1)).contains n) (bs'.map (·.1))
  simp only [Ws] at l1 l2
  omega)
 have oa:pAdd (tD ((bs.map (·.1)).filter fun n=>!(bs'.map (·.1)).contains n)) (tD ((bs'.map (·.1)).filter fun n=>!(bs.map (·.1)).contains n))=some (.own (tD (od (bs.map (·.1)) (bs'.map (·.1))))):=oa
 have m1:=mul_int h h' (by omega) (by have:=R'.h1; omega)
 have m2:=mul_int w w' (by omega) (by have:=R'.w1; omega)
 rw [show (h:Int) * (h':Int)=((h * h':Nat):Int) by simp] at m1
 rw [show (w:Int) * (w':Int)=((w * w':Nat):Int) by simp] at m2
 have k1:=gt4 (h * h')
 have k2:=gt4 (w * w')
 have nn:=zf1 (od (bs.map (·.1)) (bs'.map (·.1)))
 have nn:pNe (tD (od (bs.map (·.1)) (bs'.map (·.1)))) (.lst [])=some (.pure (.bl (!(od (bs.map (·.1)) (bs'.map (·.1))).isEmpty))):=nn
 have hg:h * h'≤4→w * w'≤4→bs'.map (·.1)=bs.map (·.1)→∀ b ∈ bs,z0X [.pure (ruD h' w' bs'),.pure (flD b.2)]=some (.pure (flD (lay h' bs' b.2)),[.pure (ruD h' w' bs'),.pure (flD b.2)]):=fun _ _ ht b hb=>by
  obtain ⟨z1,z2⟩:=R.blk b hb
  have F:Fl2 bs' h w b.2:=⟨z1,fun r hr=>(z2 r hr).1,fun r hr n hn=>by rw [ht]; exact (z2 r hr).2 n hn⟩
  exact zeh R' F (by have:=R.h1; omega) (by have:=R.w1; omega)
 rw [z0m]
 have pre:∀ X:DS,dSeq (dAsg (z0N [6] (iSq (eOpF pIx 0 (bOf (eD (.int 2))))) (gNm [] 6) dYes (eOpF pIx 6 (bOf (eD (.int 0))))) (gNm [] 2)) (dSeq (dAsg (z0N [6] (iSq (eOpF pIx 1 (bOf (eD (.int 2))))) (gNm [] 6) dYes (eOpF pIx 6 (bOf (eD (.int 0))))) (gNm [] 3)) (dSeq (dAsg (eOp pAdd (z0N [7] (iSq (eVar 2)) (gNm [] 7) (dTr (eOp (pIn true) (eVar 7) (bVar 3))) (eVar 7)) (bOf (z0N [7] (iSq (eVar 3)) (gNm [] 7) (dTr (eOp (pIn true) (eVar 7) (bVar 2))) (eVar 7)))) (gNm [] 4)) X)) (s9 (ruD h w bs) (ruD h' w' bs') none none none none) =
   X (s9 (ruD h w bs) (ruD h' w' bs') (some (.pure (tD (bs.map (·.1))))) (some (.pure (tD (bs'.map (·.1))))) (some (.own (tD (od (bs.map (·.1)) (bs'.map (·.1)))))) none):=fun X=>by
  clear hg nn k1 k2 m1 m2 x0 x1 y0 y1
  unfold tD at *
  generalize ((bs.map (·.1)).filter fun n=>!(bs'.map (·.1)).contains n).map (fun n=>D.str [n])=F1 at *
  generalize ((bs'.map (·.1)).filter fun n=>!(bs.map (·.1)).contains n).map (fun n=>D.str [n])=F2 at *
  generalize (od (bs.map (·.1)) (bs'.map (·.1))).map (fun n=>D.str [n])=OD at *
  generalize (bs.map (·.1)).map (fun n=>D.str [n])=T1 at *
  generalize (bs'.map (·.1)).map (fun n=>D.str [n])=T2 at *
  generalize hB:bs.map blD=B at *
  generalize hB':bs'.map blD=B' at *
  generalize ruD h w bs=U at *
  generalize ruD h' w' bs'=V at *
  rw [z0b (δ1:=s9 U V (some (.own (.lst T1))) none none none) (by
   simp [dAsg,z2U,eOpF,eOpN,bVar,x2,z0J,clrD,c1,z1r])]
  rw [z0b (δ1:=s9 U V (some (.own (.lst T1))) (some (.own (.lst T2))) none none) (by
   simp [dAsg,z2U,eOpF,eOpN,bVar,y2,z0J,clrD,c2,z1r])]
  rw [z0b (δ1:=s9 U V (some (.pure (.lst T1))) (some (.pure (.lst T2))) (some (.own (.lst OD))) none) (by
   simp [dAsg,z2U,eVar,z0J,clrD,o1,o2,z1r,oa])]
 rcases hN with ht | ⟨n,ho⟩
 ·have eo:od (bs'.map (·.1)) (bs.map (·.1))=[]:=by rw [ht]; exact z7j _
  have eo2:od (bs.map (·.1)) (bs'.map (·.1))=[]:=by rw [ht]; exact z7j _
  unfold resJ
  rw [eo]
  rw [eo2] at nn pre
  simp only
  have nn:pNe (tD []) (.lst [])=some (.pure (.bl false)):=nn
  by_cases d1:4 < h * h'
  ·rw [decide_eq_true d1] at k1
   rw [if_pos d1]
   refine z6L (δ1:=s9 (ruD h w bs) (ruD h' w' bs') (some (.pure (tD (bs.map (·.1))))) (some (.pure (tD (bs'.map (·.1))))) (some (.own (tD []))) none) ?_
   rw [z1L]
   refine (pre _).trans ?_
   show _=Rs.ok (Fl.ret (S.pure (.tup [.str [103,114,101,97,116],.tup [.int ((h * h':Nat):Int),.int 4]]))) _
   clear pre hg o1 o2 oa c1 c2
   generalize ((h * h':Nat):Int)=A at *
   generalize ((w * w':Nat):Int)=C at *
   generalize ruD h w bs=U at *
   generalize ruD h' w' bs'=V at *
   generalize tD (bs.map (·.1))=T1 at *
   generalize tD (bs'.map (·.1))=T2 at *
   generalize tD []=T0 at *
   rw [z0b (δ1:=s9 U V (some (.pure T1)) (some (.pure T2)) (some (.own T0)) none) (by simp [dTr,eOpF,eOpN,bVar,eLst,aNil,nn])]
   exact z7a (by simp [dTr,eOpF,eOpN,bVar,x0,y0,m1,k1,eTup,z04,aNil])
  ·rw [decide_eq_false d1] at k1
   rw [if_neg d1]
   by_cases d2:4 < w * w'
   ·rw [decide_eq_true d2] at k2
    rw [if_pos d2]
    refine z6L (δ1:=s9 (ruD h w bs) (ruD h' w' bs') (some (.pure (tD (bs.map (·.1))))) (some (.pure (tD (bs'.map (·.1))))) (some (.own (tD []))) none) ?_
    rw [z1L]
    refine (pre _).trans ?_
    show _=Rs.ok (Fl.ret (S.pure (.tup [.str [103,114,101,97,116],.tup [.int ((w * w':Nat):Int),.int 4]]))) _
    clear pre hg o1 o2 oa c1 c2
    generalize ((h * h':Nat):Int)=A at *
    generalize ((w * w':Nat):Int)=C at *
    generalize ruD h w bs=U at *
    generalize ruD h' w' bs'=V at *
    generalize tD (bs.map (·.1))=T1 at *
    generalize tD (bs'.map (·.1))=T2 at *
    generalize tD []=T0 at *
    rw [z0b (δ1:=s9 U V (some (.pure T1)) (some (.pure T2)) (some (.own T0)) none) (by simp [dTr,eOpF,eOpN,bVar,eLst,aNil,nn])]
    rw [z0b (δ1:=s9 U V (some (.pure T1)) (some (.pure T2)) (some (.own T0)) none) (by simp [dTr,eOpF,eOpN,bVar,x0,y0,m1,k1])]
    exact z7a (by simp [dTr,eOpF,eOpN,bVar,x1,y1,m2,k2,eTup,z04,aNil])
   ·rw [decide_eq_false d2] at k2
    rw [if_neg d2]
    have hj:=fun a b c d e=>zbJ (ruD h w bs) (ruD h' w' bs') a b c d e rfl (bs:=bs) (by omega) (hg (by omega) (by omega) ht)
    have et:z15 (.lst ((z3M h' bs' bs).map blD))=some (.pure (.tup ((z3M h' bs' bs).map blD))):=rfl
    refine z6L (δ1:=s9 (ruD h w bs) (ruD h' w' bs') (some (.pure (tD (bs.map (·.1))))) (some (.pure (tD (bs'.map (·.1))))) (some (.own (tD []))) (some (.pure (.tup ((z3M h' bs' bs).map blD))))) ?_
    rw [z1L]
    refine (pre _).trans ?_
    show _=Rs.ok (Fl.ret (S.pure (.tup [.str [116,111,108,100],.tup [.int ((h * h':Nat):Int),.int ((w * w':Nat):Int),.tup ((z3M h' bs' bs).map blD)]]))) _
    clear pre hg o1 o2 oa c1 c2
    generalize ((h * h':Nat):Int)=A at *
    generalize ((w * w':Nat):Int)=C at *
    generalize (z3M h' bs' bs).map blD=J at *
    generalize bs.map blD=B at *
    generalize ruD h w bs=U at *
    generalize ruD h' w' bs'=V at *
    generalize tD (bs.map (·.1))=T1 at *
    generalize tD (bs'.map (·.1))=T2 at *
    generalize tD []=T0 at *
    rw [z0b (δ1:=s9 U V (some (.pure T1)) (some (.pure T2)) (some (.own T0)) none) (by simp [dTr,eOpF,eOpN,bVar,eLst,aNil,nn])]
    rw [z0b (δ1:=s9 U V (some (.pure T1)) (some (.pure T2)) (some (.own T0)) none) (by simp [dTr,eOpF,eOpN,bVar,x0,y0,m1,k1])]
    rw [z0b (δ1:=s9 U V (some (.pure T1)) (some (.pure T2)) (some (.own T0)) none) (by simp [dTr,eOpF,eOpN,bVar,x1,y1,m2,k2])]
    rw [z0b (δ1:=s9 U V (some (.pure T1)) (some (.pure T2)) (some (.own T0)) (some (.pure (.tup J)))) (by simp [dAsg,z2U,eOpF,eOpN,bVar,x2,z0J,clrD,hj,z1r,et])]
    simp [dRet,eTup,z04,aNil,eOpF,eOpN,bVar,eVar,x0,y0,m1,x1,y1,m2]
 ·have ho2:=z9J ho
  unfold resJ
  rw [ho]
  rw [ho2] at nn pre
  simp only
  have nn:pNe (tD [n]) (.lst [])=some (.pure (.bl true)):=nn
  have mn:=zdq n
  refine z6L (δ1:=s9 (ruD h w bs) (ruD h' w' bs') (some (.pure (tD (bs.map (·.1))))) (some (.pure (tD (bs'.map (·.1))))) (some (.own (tD [n]))) none) ?_
  rw [z1L]
  refine (pre _).trans ?_
  show _=Rs.ok (Fl.ret (S.pure (.tup [.str [116,105,108,101],.str [n]]))) _
  clear pre hg o1 o2 oa c1 c2
  generalize ruD h w bs=U at *
  generalize ruD h' w' bs'=V at *
  generalize tD (bs.map (·.1))=T1 at *
  generalize tD (bs'.map (·.1))=T2 at *
  generalize tD [n]=T0 at *
  exact z7a (by simp [dTr,eOpF,eOpN,bVar,eLst,aNil,nn,eTup,z04,mn])
theorem z7X (ts:List Nat):pLen (tD ts)=some (.pure (.int ts.length)):=by simp [tD,pLen]
theorem ix_tD (ts:List Nat) (r:Nat) (h:r < ts.length):pIx (tD ts) (.int r)=some (.pure (.str [ts.getD r 0])):=z53 ts r h
abbrev ob (pd T:D) (h w:Nat) (blocks:List D) (a b c:Option S):Dl:=[some (.own pd),some (.pure T),some (.pure (.int (h:Int))),some (.pure (.int (w:Int))),some (.own (.lst blocks)),a,b,c,none]
theorem o_row {h w:Nat} {ts:List Nat} (ht0:0 < ts.length) (ht1:ts.length≤64) (hw:w≤4) {pd:D} (hpd:Pen pd) (blocks:List D) (a b c:Option S) :
  ∃ (x:Tx) (pd':D),z1f [8] (gNm [0] 8) dYes (eOpF pIx 1 (bOf (z05 z0a [.io 0,.val (eC1 pLen (bVar 1))]))) (z0z 0 w) (ob pd (tD ts) h w blocks a b c) [] = .ok (x.map fun n=>.str [n]) (ob pd' (tD ts) h w blocks a b c)∧x.length=w∧(∀ n ∈ x,n ∈ ts)∧Pen pd':=by
 have l0:=z7X ts
 obtain ⟨xs,δ',e,⟨pd',hpd',rfl⟩,hn,hf⟩:=z3O (cs:=[8]) (g:=gNm [0] 8) (t:=dYes) (el:=eOpF pIx 1 (bOf (z05 z0a [.io 0,.val (eC1 pLen (bVar 1))]))) (fun δ=>∃ pd,Pen pd∧δ=ob pd (tD ts) h w blocks a b c)
  (fun _ x=>∃ n,n ∈ ts∧x = .str [n]) (z0z 0 w) _ [] ⟨pd,hpd,rfl⟩ (by rw [z0K]; simp; omega) (fun d hd δ ⟨pd,hpd,e⟩=>by
   subst e
   obtain ⟨i,hi,rfl⟩:=z2V hd
   obtain ⟨r,d',e,l,p⟩:=z6j hpd ts.length ht0 (by omega)
   have ix:=ix_tD ts r l
   refine ⟨_,_,.pure (.str [ts.getD r 0]),[some (.own d'),some (.pure (tD ts)),some (.pure (.int (h:Int))),some (.pure (.int (w:Int))),some (.own (.lst blocks)),a,b,c,some (.pure (.int i))],rfl,rfl,?_,⟨d',p,rfl⟩,⟨_,?_,rfl⟩⟩
   ·generalize tD ts=T at *
    generalize (ts.length:Int)=N at *
    simp [eOpF,eOpN,bVar,z05,ios,ndup,z0J,evX,l0,mkA,e,putA,ix]
   ·simp [l])
 obtain ⟨x,rfl,hx⟩:=z78 (P:=fun n=>n ∈ ts) (z9g hn hf fun d x _ h=>h)
 exact ⟨x,pd',by simpa using e,by simpa using hn,hx,hpd'⟩
theorem zdm {h w:Nat} {ts:List Nat} (ht0:0 < ts.length) (ht1:ts.length≤64) (hw:w≤4) (hh:h≤4) {pd:D} (hpd:Pen pd) (blocks:List D) (a c:Option S) :
  ∃ (fl:List Tx) (pd':D) (c':Option S),forL (gNm [0] 7) (z0o 6 (eC1 (z1q []) (bOf (z0N [8] (z0B (eVar 3)) (gNm [0] 8) dYes (eOpF pIx 1 (bOf (z05 z0a [.io 0,.val (eC1 pLen (bVar 1))]))))))) (z0z 0 h) (ob pd (tD ts) h w blocks a (some (.own (.lst []))) c) =
   .ok .next (ob pd' (tD ts) h w blocks a (some (.own (.lst (fl.map .str)))) c')∧fl.length=h∧(∀ r ∈ fl,r.length=w∧∀ n ∈ r,n ∈ ts)∧Pen pd':=by
 obtain ⟨δ',e3,pd',fl,c',hpd',hfl,hall,rfl⟩:=z1c (g:=gNm [0] 7) (b:=z0o 6 (eC1 (z1q []) (bOf (z0N [8] (z0B (eVar 3)) (gNm [0] 8) dYes (eOpF pIx 1 (bOf (z05 z0a [.io 0,.val (eC1 pLen (bVar 1))]))))))) (fun k δ=>∃ (pd:D) (fl:List Tx) (c:Option S),Pen pd∧fl.length=k∧(∀ r ∈ fl,r.length=w∧∀ n ∈ r,n ∈ ts)∧δ=ob pd (tD ts) h w blocks a (some (.own (.lst (fl.map .str)))) c)
  (z0z 0 h) 0 _ ⟨pd,[],c,hpd,rfl,by simp,rfl⟩ (fun i d δ hd ⟨pd,fl,c,hpd,hfl,hall,e⟩=>by
   subst e
   obtain ⟨hi,rfl⟩:=z1o hd
   obtain ⟨x,pd',e,hx,hxt,hpd'⟩:=o_row (h:=h) ht0 ht1 hw hpd blocks a (some (.own (.lst (fl.map .str)))) (some (.pure (.int (i:Int))))
   have hz:fl.length < W8:=by rw [z0K]; omega
   have ej:=z88 x (by omega)
   refine ⟨_,ob pd' (tD ts) h w blocks a (some (.own (.lst ((fl ++ [x]).map .str)))) (some (.pure (.int (i:Int)))),rfl,?_,⟨pd',fl ++ [x],_,hpd',by simp [hfl],?_,rfl⟩⟩
   ·generalize tD ts=T at *
    simp [z0o,z1W,eVar,z48 w (by omega),z0J,clrD]
    rw [e]
    simp [ej,z1r,putL,hz]
   ·intro r hr
    rcases QG.mp hr with hr | hr
    ·exact hall r hr
    ·simp at hr; subst hr; exact ⟨hx,hxt⟩)
 exact ⟨fl,pd',c',e3,by simpa using hfl,hall,hpd'⟩
theorem zcS {d:D} (hp:Pen d) (ts:List Nat) (ht0:0 < ts.length) (ht1:ts.length≤26) (nd:ts.Nodup) (hl:∀ n ∈ ts,97≤n∧n≤122):∃ (h w:Nat) (bs:List (Nat×List Tx)) (d':D),
  z0F [.own d,.pure (tD ts)]=some (.pure (ruD h w bs),[.own d',.pure (tD ts)])∧Rul h w bs∧bs.map (·.1)=z1g ts∧Pen d':=by
 obtain ⟨h,w,d1,e1,h0,h1,w0,w1,hw,p1⟩:=z9n hp
 have es:z2v (tD ts)=some (.own (.lst ((z1g ts).map fun n=>.str [n]))):=z5A ts (by omega)
 have sl:=z3C ts
 obtain ⟨δ',e2,pd,bs,a,b,c,hpd,hb1,hb2,rfl⟩:=z1c (g:=gNm [0] 5) (b:=(dSeq (dAsg (eLst aNil) (gNm [0] 6)) (dSeq (dFor (z0B (eVar 2)) (gNm [0] 7) (z0o 6 (eC1 (z1q []) (bOf (z0N [8] (z0B (eVar 3)) (gNm [0] 8) dYes (eOpF pIx 1 (bOf (z05 z0a [.io 0,.val (eC1 pLen (bVar 1))])))))))) (z0o 4 (eTup (z04 (eVar 5) (z04 (eC1 z15 (bVar 6)) aNil)))))))
  (fun k δ=>∃ (pd:D) (bs:List (Nat×List Tx)) (a b c:Option S),Pen pd∧bs.map (·.1)=(z1g ts).take k∧(∀ b ∈ bs,b.2.length=h∧∀ r ∈ b.2,r.length=w∧∀ n ∈ r,n ∈ ts)∧δ=ob pd (tD ts) h w (bs.map blD) a b c) ((z1g ts).map fun n=>D.str [n]) 0 (ob d1 (tD ts) h w [] none none none) ⟨d1,[],none,none,none,p1,by simp,by simp,rfl⟩ (fun i d δ hd ⟨pd,bs,a,b,c,hpd,hb1,hb2,e⟩=>by
   subst e
   rw [WX] at hb1 ⊢
   rw [WK] at hd
   cases en:(z1g ts)[i]? with
   | none=>rw [en] at hd; cases hd
   | some n =>
    rw [en] at hd
    cases hd
    have hi:i < (z1g ts).length:=(Wb.mp en).1
    have hbl:bs.length=i:=by
     have:=congrArg QF hb1
     simp at this
     omega
    obtain ⟨fl,pd',c',e3,hf1,hf2,hpd'⟩:=zdm (h:=h) (w:=w) ht0 (by omega) w1 h1 hpd (bs.map blD) (some (.pure (.str [n]))) c
    have et:z15 (.lst (fl.map .str))=some (.pure (flD fl)):=rfl
    have hz:(bs.map blD).length < W8:=by rw [z0K,Ws]; omega
    refine ⟨ob pd (tD ts) h w (bs.map blD) (some (.pure (.str [n]))) b c,ob pd' (tD ts) h w ((bs ++ [(n,fl)]).map blD) (some (.pure (.str [n]))) (some (.own (.lst (fl.map .str)))) c',rfl,?_,⟨pd',bs ++ [(n,fl)],_,_,_,hpd',?_,?_,rfl⟩⟩
    ·rw [z0b (δ1:=ob pd (tD ts) h w (bs.map blD) (some (.pure (.str [n]))) (some (.own (.lst []))) c) (by simp [dAsg,eLst,aNil])]
     rw [z0b ((z5y (δ1:=ob pd (tD ts) h w (bs.map blD) (some (.pure (.str [n]))) (some (.own (.lst []))) c) (ds:=z0z 0 h) (by simp [eVar,z48 h (by omega)])).trans e3)]
     rw [Qw]
     show _=Rs.ok Fl.next (ob pd' (tD ts) h w (bs.map blD ++ [.tup [.str [n],flD fl]]) _ _ _)
     generalize flD fl=FL at *
     generalize fl.map D.str=FS at *
     generalize tD ts=T at *
     generalize bs.map blD=B at *
     simp [z0o,z1W,eTup,z04,aNil,eVar,bVar,et,putL,hz]
    ·rw [Qw,hb1,Ja,en]
     rfl
    ·intro b' hb'
     rcases QG.mp hb' with hb' | hb'
     ·exact hb2 b' hb'
     ·rw [QV.mp hb']; exact ⟨hf1,hf2⟩)
 have hb1:bs.map (·.1)=z1g ts:=by
  rw [hb1]
  simp
 have bl:bs.length=ts.length:=by
  have:=congrArg QF hb1
  simp at this
  omega
 refine ⟨h,w,bs,pd,?_,⟨h0,h1,w0,w1,hw,by omega,by omega,by rw [hb1]; exact z3B nd,fun b hb=>?_,fun b hb=>?_⟩,hb1,hpd⟩
 ·rw [z0F,z1X,z22]
  have et:z15 (.lst (bs.map blD))=some (.pure (.tup (bs.map blD))):=rfl
  have e4:∀ X:DS,dSeq (dAsg (z05 z0A [.io 0]) (gTp 2 (z0f (gNm [0] 2) (z0f (gNm [0] 3) z1b)))) (dSeq (dAsg (eLst aNil) (gNm [0] 4)) (dSeq (dFor (iSq (eC1 z2v (bVar 1))) (gNm [0] 5) (dSeq (dAsg (eLst aNil) (gNm [0] 6)) (dSeq (dFor (z0B (eVar 2)) (gNm [0] 7) (z0o 6 (eC1 (z1q []) (bOf (z0N [8] (z0B (eVar 3)) (gNm [0] 8) dYes (eOpF pIx 1 (bOf (z05 z0a [.io 0,.val (eC1 pLen (bVar 1))])))))))) (z0o 4 (eTup (z04 (eVar 5) (z04 (eC1 z15 (bVar 6)) aNil))))))) X)) [some (.own d),some (.pure (tD ts)),none,none,none,none,none,none,none]=X (ob pd (tD ts) h w (bs.map blD) a b c):=fun X=>by
   generalize (z1g ts).map (fun n=>D.str [n])=SS at *
   generalize tD ts=T at *
   rw [z0b (δ1:=[some (.own d1),some (.pure T),some (.pure (.int (h:Int))),some (.pure (.int (w:Int))),none,none,none,none,none]) (by
    simp [dAsg,z05,ios,ndup,z0J,evX,mkA,e1,putA,gTp,z0f,z1b])]
   rw [z0b (δ1:=ob d1 T h w [] none none none) (by simp [dAsg,eLst,aNil])]
   rw [z0b ((z5y (δ1:=ob d1 T h w [] none none none) (ds:=SS) (by simp [z2U,bVar,es])).trans e2)]
  rw [show z0j 9 [S.own d,S.pure (tD ts)]=[some (.own d),some (.pure (tD ts)),none,none,none,none,none,none,none] from rfl,e4]
  generalize tD ts=T at *
  generalize hBB:bs.map blD=B at *
  simp [ioOk,dRet,eTup,z04,aNil,eVar,bVar,et,z0T,z0d,hBB]
 ·have:b.1 ∈ z1g ts:=by rw [← hb1]; exact Q6 hb
  exact hl _ (sortN_mem.mp this)
 ·obtain ⟨z1,z2⟩:=hb2 b hb
  refine ⟨z1,fun r hr=>⟨(z2 r hr).1,fun n hn=>?_⟩⟩
  rw [hb1]
  exact sortN_mem.mpr ((z2 r hr).2 n hn)
theorem zce:∀ {as bs:List Nat},as.Pairwise (· < ·)→bs.Pairwise (· < ·)→(∀ x,x ∈ as ↔ x ∈ bs)→as=bs
 | [],[],_,_,_=>rfl
 | [],b :: bs,_,_,h=>by have:=(h b).mpr (by simp); simp at this
 | a :: as,[],_,_,h=>by have:=(h a).mp (by simp); simp at this
 | a :: as,b :: bs,h1,h2,h=>by
  rw [Qo] at h1 h2
  have hab:a=b:=by
   have m1:=(h a).mp (by simp)
   have m2:=(h b).mpr (by simp)
   rcases Wg.mp m1 with e | m1
   ·exact e
   ·rcases Wg.mp m2 with e | m2
    ·exact e.symm
    ·have c1:=h2.1 a m1
     have c2:=h1.1 b m2
     omega
  subst hab
  rw [zce h1.2 h2.2 fun x=>?_]
  constructor
  ·intro hx
   have:=(h x).mp (Wc _ hx)
   rcases Wg.mp this with e | m
   ·have:=h1.1 x hx; omega
   ·exact m
  ·intro hx
   have:=(h x).mpr (Wc _ hx)
   rcases Wg.mp this with e | m
   ·have:=h2.1 x hx; omega
   ·exact m
theorem z64 {p:Nat→Bool} {m:Nat}:∀ {l:List Nat},l.Nodup→m ∈ l→(∀ x ∈ l,p x=true ↔ x=m)→l.filter p=[m]
 | [],_,h,_=>by simp at h
 | x :: l,nd,h,hp=>by
  have nd':=WD.mp nd
  by_cases e:x=m
  ·subst e
   rw [List.filter_cons_of_pos ((hp x (by simp)).mpr rfl)]
   have:l.filter p=[]:=by
    rw [List.filter_eq_nil_iff]
    intro y hy hpy
    have:=(hp y (Wc _ hy)).mp hpy
    subst this
    exact nd'.1 hy
   rw [this]
  ·have hx:¬ p x=true:=fun z=>e ((hp x (by simp)).mp z)
   rw [List.filter_cons_of_neg hx]
   exact z64 nd'.2 ((Wg.mp h).resolve_left (fun z=>e z.symm)) fun y hy=>hp y (Wc _ hy)
theorem zag {p:Nat→Bool} {l:List Nat} (h:∀ x ∈ l,p x=false):l.filter p=[]:=by
 rw [List.filter_eq_nil_iff]
 intro y hy
 rw [h y hy]; decide
theorem z6y {ts:List Nat} (up:ts.Pairwise (· < ·)):Near ts (z1g ts):=by
 left
 exact zce (z3B (up.imp fun h=>Wo h)) up fun x=>sortN_mem
theorem z9M {ts:List Nat} {m:Nat} (nd:ts.Nodup) (hm:m ∉ ts):Near ts (z1g (ts ++ [m])):=by
 right
 refine ⟨m,?_⟩
 have nd2:(ts ++ [m]).Nodup:=JW.mpr ⟨nd,by simp,fun a ha b hb e=>hm (by rw [QV.mp hb] at e; rw [← e]; exact ha)⟩
 have nd3:(z1g (ts ++ [m])).Nodup:=(z3B nd2).imp fun h=>Wo h
 unfold od
 rw [z64 (m:=m) nd3 (sortN_mem.mpr (by simp)) (fun x hx=>?_),zag (fun x hx=>?_)]
 ·rfl
 ·have:x ∈ z1g (ts ++ [m]):=sortN_mem.mpr (by simp [hx])
  simpa using this
 ·have:=sortN_mem.mp hx
  rw [List.mem_append,List.mem_singleton] at this
  simp only [Qg,← Jk,QX]
  constructor
  ·intro z; exact this.resolve_left z
  ·intro z; rw [z]; exact hm
theorem z9N {x:Nat} {r:List Nat} (nd:(x :: r).Nodup):Near (x :: r) (z1g r):=by
 right
 refine ⟨x,?_⟩
 have nd':=WD.mp nd
 unfold od
 rw [zag (fun y hy=>?_),z64 (m:=x) nd (by simp) (fun y hy=>?_)]
 ·rfl
 ·simp only [Qg,← Jk,QX]
  rw [sortN_mem]
  constructor
  ·intro z; exact (Wg.mp hy).resolve_right z
  ·intro z; rw [z]; exact nd'.1
 ·have:y ∈ x :: r:=Wc _ (sortN_mem.mp hy)
  rw [List.contains_iff_mem.mpr this]; rfl
theorem z6O (h w:Nat) (bs:List (Nat×List Tx)) (h' w':Nat) (bs':List (Nat×List Tx)):flat 50 (z4b (resJ h w bs h' w' bs'))=true:=by
 have hb:∀ bs:List (Nat×List Tx),z3t 47 (bs.map blD)=true:=fun bs=>by
  induction bs with
  | nil=>rfl
  | cons b r ih =>
   simp only [Wr,z3t,Wh]
   refine ⟨?_,ih⟩
   have:=zdD 45 b.2
   simp only [blD,flat,z3t] at this ⊢
   simp only [this,Bool.and_self]
 unfold resJ
 split
 ·rfl
 ·split
  ·rfl
  ·split
   ·rfl
   ·simp only [z4b,ruD,flat,z3t,hb,Bool.and_self]
theorem z7l (h w:Nat) (bs:List (Nat×List Tx)) (h' w':Nat) (bs':List (Nat×List Tx)):pNe (z4b (resJ h w bs h' w' bs')) (z4b (resJ h w bs h' w' bs'))=some (.pure (.bl false)):=by
 unfold pNe; rw [z6O,z4t (z6O h w bs h' w' bs')]; rfl
theorem zfz {G:DF} {f f':DE} {x x' y:D} {δ:Dl} (hf:f δ = .ok (.pure x) δ) (hf':f' δ = .ok (.pure x') δ) (g:G [.pure x,.pure x']=some (.pure y,[.pure x,.pure x'])):z05 G [.val f,.val f'] δ = .ok (.pure y) δ:=by
 simp [z05,ios,ndup,evX,hf,hf',mkA,g,putA]
theorem op2 {p:D→D→Option S} {f g:DE} {x y:D} {s:S} {δ:Dl} (hf:f δ = .ok (.pure x) δ) (hg:g δ = .ok (.pure y) δ) (h:p x y=some s):eOp p f (bOf g) δ = .ok s δ:=by
 simp [hf,hg,h]
theorem v_at {i:Nat} {x:D} {δ:Dl} (h:δ[i]? = some (some (.pure x))):eVar i δ = .ok (.pure x) δ:=by
 simp [eVar,h]
theorem if_ff {f g:DE} {X:DS} {δ:Dl} (hf:f δ = .ok (.pure (.bl false)) δ) (hg:g δ = .ok (.pure (.bl false)) δ):dIf (dOr (dTr f) (dTr g)) X z10 δ = .ok .next δ:=by
 simp [dTr,hf,hg]
abbrev s11 (scr:D) (a1 a2 a3 a4 a5 a6 a7 a8:Option S):Dl:=[some (.pure scr),a1,a2,a3,a4,a5,a6,a7,a8,none,none]
theorem zfh {f:DE} {X:DS} {δ δ1:Dl} (hf:f δ = .ok (.pure (.bl true)) δ) (h:X δ = .ok .next δ1):dIf (dTr f) X z10 δ = .ok .next δ1:=by
 simp [dTr,hf,h]
theorem sl_at {f:DE} {δ:Dl} {x:D} {s:S} (hf:f δ = .ok (.own x) δ) (h:pSl none (some 1) x=some s):eSl f z4h (z2x (eD (.int 1))) δ = .ok s δ:=by
 simp [eSl,hf,z2x,h]
theorem zdP {g:DE} {δ δ1:Dl} {T TE T2:D} (h4:δ[4]? = some (some (.own T))) (hg:g δ = .ok (.own TE) δ) (ad:pAdd T TE=some (.own T2)) (hs:δ.set 4 (some (.own T2))=δ1):dAsg (eOpF pAdd 4 (bOf g)) (gNm [] 4) δ = .ok .next δ1:=by
 subst hs
 simp [dAsg,eOpF,eOpN,bVar,h4,hg,ad]
theorem z9P (scr:D) (a1 a2 a3 a5 a6 a7 a8:Option S) (ts:List Nat):z1f [10] (gNm [] 10) (dTr (eOp (pIn true) (eVar 10) (bVar 4))) (eVar 10) (([109,122]:List Nat).map fun n=>D.str [n]) (s11 scr a1 a2 a3 (some (.own (tD ts))) a5 a6 a7 a8) [] = .ok ((([109,122]:List Nat).filter fun n=>!ts.contains n).map fun n=>D.str [n]) (s11 scr a1 a2 a3 (some (.own (tD ts))) a5 a6 a7 a8):=by
 have:=z1C (cs:=[10]) (g:=gNm [] 10) (t:=(dTr (eOp (pIn true) (eVar 10) (bVar 4)))) (el:=eVar 10) (fun n:Nat=>D.str [n]) (fun n:Nat=>D.str [n]) (fun n=>!ts.contains n) (s11 scr a1 a2 a3 (some (.own (tD ts))) a5 a6 a7 a8) [109,122] [] (by rw [z0K]; decide) (fun n _=>by
  have hin:pIn true (.str [n]) (tD ts)=some (.pure (.bl (!ts.contains n))):=zdy ts n
  refine ⟨_,[some (.pure scr),a1,a2,a3,some (.own (tD ts)),a5,a6,a7,a8,none,some (.pure (.str [n]))],.pure (.str [n]),[some (.pure scr),a1,a2,a3,some (.own (tD ts)),a5,a6,a7,a8,none,some (.pure (.str [n]))],rfl,?_,rfl,?_,rfl,rfl⟩
  ·generalize tD ts=T at *
   simp [dTr,eVar,bVar,hin]
  ·simp [eVar])
 rw [Q2] at this
 exact this
theorem cut1 {α:Type} (xs:List α):cutL xs none (some 1)=xs.take 1:=by
 unfold cutL HT.sIx
 cases xs <;> simp
theorem zaR (scr:D) (c:Int) (pd ru:D) (r:Nat) (a6 a7 a8:Option S) {h w:Nat} {bs:List (Nat×List Tx)} (R:Rul h w bs):∃ ts':List Nat,Near (bs.map (·.1)) (z1g ts')∧0 < ts'.length∧ts'.length≤bs.length + 1∧ts'.Nodup∧(∀ n ∈ ts',97≤n∧n≤122)∧∀ X:DS,
  dSeq (dIf (dTr (eOpF pEq 5 (bOf (eD (.int 0))))) (dAsg (eOpF pAdd 4 (bOf (eSl (z0N [10] (iSq (eD (.str [109,122]))) (gNm [] 10) (dTr (eOp (pIn true) (eVar 10) (bVar 4))) (eVar 10)) z4h (z2x (eD (.int 1)))))) (gNm [] 4)) z10) (dSeq (dIf (dAnd (dTr (eOpF pEq 5 (bOf (eD (.int 1))))) (dTr (eOp pGt (eC1 pLen (bVar 4)) (bOf (eD (.int 1)))))) (dAsg (eSlN 4 (z2x (eD (.int 1))) z4h) (gNm [] 4)) z10) X) (s11 scr (some (.pure (.int c))) (some (.own pd)) (some (.pure ru)) (some (.own (tD (bs.map (·.1))))) (some (.pure (.int (r:Int)))) a6 a7 a8) =
   X (s11 scr (some (.pure (.int c))) (some (.own pd)) (some (.pure ru)) (some (.own (tD ts'))) (some (.pure (.int (r:Int)))) a6 a7 a8):=by
 have up:=R.up
 have nd:(bs.map (·.1)).Nodup:=up.imp fun h=>Wo h
 have hl:∀ n ∈ bs.map (·.1),97≤n∧n≤122:=fun n hn=>by
  obtain ⟨b,hb,rfl⟩:=Q7.mp hn
  exact R.let' b hb
 have n0:0 < (bs.map (·.1)).length:=by simpa using R.n0
 have nl:(bs.map (·.1)).length=bs.length:=by simp
 have n1:=R.n1
 generalize bs.map (·.1)=ts at *
 have q0:pEq (.int (r:Int)) (.int 0)=some (.pure (.bl (decide (r=0)))):=by rw [zcl]; congr 3; rw [U1]; simp only [beq_iff_eq,decide_eq_true_eq]; omega
 have q1:pEq (.int (r:Int)) (.int 1)=some (.pure (.bl (decide (r=1)))):=by rw [zcl]; congr 3; rw [U1]; simp only [beq_iff_eq,decide_eq_true_eq]; omega
 have g1:∀ ts:List Nat,pGt (.int (ts.length:Int)) (.int 1)=some (.pure (.bl (decide (1 < ts.length)))):=fun ts=>by rw [gt_int]; congr 3; exact decide_eq_decide.mpr (by omega)
 by_cases r0:r=0
 ·rw [decide_eq_true r0] at q0
  rw [decide_eq_false (by omega)] at q1
  have mc:=z9P scr (some (.pure (.int c))) (some (.own pd)) (some (.pure ru)) (some (.pure (.int (r:Int)))) a6 a7 a8 ts
  have ex:∃ ex:List Nat,(([109,122]:List Nat).filter fun n=>!ts.contains n).take 1=ex∧(ex=[]∨∃ m,ex=[m]∧m ∉ ts∧97≤m∧m≤122):=by
   refine ⟨_,rfl,?_⟩
   cases e:([109,122]:List Nat).filter fun n=>!ts.contains n with
   | nil=>exact .inl rfl
   | cons m q =>
    right
    have hm:m ∈ ([109,122]:List Nat).filter fun n=>!ts.contains n:=by rw [e]; simp
    rw [List.mem_filter] at hm
    refine ⟨m,rfl,?_,?_⟩
    ·intro z
     have:=List.contains_iff_mem.mpr z
     rw [this] at hm
     cases hm.2
    ·have:=hm.1
     simp at this
     omega
  obtain ⟨ex,e1,e2⟩:=ex
  have sl:pSl none (some 1) (.lst ((([109,122]:List Nat).filter fun n=>!ts.contains n).map fun n=>D.str [n]))=some (.own (tD ex)):=by
   simp only [pSl]
   rw [cut1,← List.map_take,e1]
   rfl
  have exl:ex.length≤1:=by rcases e2 with rfl | ⟨m,rfl,_⟩ <;> simp
  have ad:=zcr ts ex (by omega)
  refine ⟨ts ++ ex,?_,by simp; omega,by simp; omega,?_,?_,fun X=>?_⟩
  ·rcases e2 with rfl | ⟨m,rfl,hm,_⟩
   ·rw [WN]; exact z6y up
   ·exact z9M nd hm
  ·rcases e2 with rfl | ⟨m,rfl,hm,_⟩
   ·rw [WN]; exact nd
   ·exact JW.mpr ⟨nd,by simp,fun a ha b hb e=>hm (by rw [QV.mp hb] at e; rw [← e]; exact ha)⟩
  ·intro n hn
   rcases QG.mp hn with hn | hn
   ·exact hl n hn
   ·rcases e2 with rfl | ⟨m,rfl,hm,h1⟩
    ·cases hn
    ·rw [QV.mp hn]; exact h1
  ·have iz:iSq (eD (.str [109,122])) (s11 scr (some (.pure (.int c))) (some (.own pd)) (some (.pure ru)) (some (.own (tD ts))) (some (.pure (.int (r:Int)))) a6 a7 a8) = .ok (([109,122]:List Nat).map fun n=>D.str [n]) (s11 scr (some (.pure (.int c))) (some (.own pd)) (some (.pure ru)) (some (.own (tD ts))) (some (.pure (.int (r:Int)))) a6 a7 a8):=rfl
   generalize ((([109,122]:List Nat).filter fun n=>!ts.contains n).map fun n=>D.str [n])=FF at *
   generalize (([109,122]:List Nat).map fun n=>D.str [n])=MZ at *
   have lt:=z7X (ts ++ ex)
   have g2:=g1 (ts ++ ex)
   generalize (ts ++ ex).length=LN at *
   generalize tD (ts ++ ex)=T2 at *
   generalize tD ts=T at *
   generalize tD ex=TE at *
   generalize ((r:Nat):Int)=RI at *
   have ec:eSl (z0N [10] (iSq (eD (.str [109,122]))) (gNm [] 10) (dTr (eOp (pIn true) (eVar 10) (bVar 4))) (eVar 10)) z4h (z2x (eD (.int 1))) (s11 scr (some (.pure (.int c))) (some (.own pd)) (some (.pure ru)) (some (.own T)) (some (.pure (.int RI))) a6 a7 a8) = .ok (.own TE) (s11 scr (some (.pure (.int c))) (some (.own pd)) (some (.pure ru)) (some (.own T)) (some (.pure (.int RI))) a6 a7 a8):=by
    have:z0N [10] (iSq (eD (.str [109,122]))) (gNm [] 10) (dTr (eOp (pIn true) (eVar 10) (bVar 4))) (eVar 10) (s11 scr (some (.pure (.int c))) (some (.own pd)) (some (.pure ru)) (some (.own T)) (some (.pure (.int RI))) a6 a7 a8) = .ok (.own (.lst FF)) (s11 scr (some (.pure (.int c))) (some (.own pd)) (some (.pure ru)) (some (.own T)) (some (.pure (.int RI))) a6 a7 a8):=by
     rw [zbE,iz]
     simp [z0J,clrD,mc,z1r]
    exact sl_at this sl
   rw [z0b (δ1:=s11 scr (some (.pure (.int c))) (some (.own pd)) (some (.pure ru)) (some (.own T2)) (some (.pure (.int RI))) a6 a7 a8) (by
    exact zfh (f:=eOpF pEq 5 (bOf (eD (.int 0)))) (by simp [eOpF,eOpN,bVar,q0]) (zdP rfl ec ad rfl))]
   rw [z0b (δ1:=s11 scr (some (.pure (.int c))) (some (.own pd)) (some (.pure ru)) (some (.own T2)) (some (.pure (.int RI))) a6 a7 a8) (by
    simp [dTr,eOpF,eOpN,bVar,q1])]
 ·rw [decide_eq_false r0] at q0
  by_cases r1:r=1∧1 < ts.length
  ·rw [decide_eq_true r1.1] at q1
   have g2:=g1 ts
   rw [decide_eq_true r1.2] at g2
   cases ts with
   | nil=>simp at n0
   | cons x q =>
    have lt:=z7X (x :: q)
    have sl:pSl (some 1) none (tD (x :: q))=some (.own (tD q)):=by
     unfold tD
     simp only [pSl]
     congr 3
     simp [cutL,HT.sIx]
     exact Js (by simp)
    have nd':=WD.mp nd
    refine ⟨q,z9N nd,?_,by simp at nl; omega,nd'.2,fun n hn=>hl n (Wc _ hn),fun X=>?_⟩
    ·have:=r1.2; simp at this; omega
    ·generalize ((x :: q).length:Int)=LN at *
     generalize tD (x :: q)=T at *
     generalize tD q=T2 at *
     generalize ((r:Nat):Int)=RI at *
     rw [z0b (δ1:=s11 scr (some (.pure (.int c))) (some (.own pd)) (some (.pure ru)) (some (.own T)) (some (.pure (.int RI))) a6 a7 a8) (by simp [dTr,eOpF,eOpN,bVar,q0])]
     rw [z0b (δ1:=s11 scr (some (.pure (.int c))) (some (.own pd)) (some (.pure ru)) (some (.own T2)) (some (.pure (.int RI))) a6 a7 a8) (by
      simp [dTr,eOpF,eOpN,bVar,q1,lt,g2,dAsg,eSlN,z2x,sl])]
  ·refine ⟨ts,z6y up,n0,by omega,nd,hl,fun X=>?_⟩
   have lt:=z7X ts
   have g2:=g1 ts
   have key:decide (r=1)=false∨decide (1 < ts.length)=false:=by
    by_cases z:r=1
    ·right
     exact decide_eq_false fun y=>r1 ⟨z,y⟩
    ·left; exact decide_eq_false z
   generalize decide (r=1)=B1 at *
   generalize decide (1 < ts.length)=B2 at *
   generalize ((ts.length:Nat):Int)=LN at *
   generalize tD ts=T at *
   generalize ((r:Nat):Int)=RI at *
   rw [z0b (δ1:=s11 scr (some (.pure (.int c))) (some (.own pd)) (some (.pure ru)) (some (.own T)) (some (.pure (.int RI))) a6 a7 a8) (by simp [dTr,eOpF,eOpN,bVar,q0])]
   rw [z0b (δ1:=s11 scr (some (.pure (.int c))) (some (.own pd)) (some (.pure ru)) (some (.own T)) (some (.pure (.int RI))) a6 a7 a8) (by
    cases B1 with
    | false=>simp [dTr,eOpF,eOpN,bVar,q1]
    | true =>
     have:B2=false:=by simpa using key
     subst this
     simp [dTr,eOpF,eOpN,bVar,q1,lt,g2])]
section
variable {ce:Tx→Nat}
theorem zdf {X Y Z:D} (hT:z0e ce [.pure X,.pure Y]=some (.pure Z,[.pure X,.pure Y])) (hD:z0m [.pure X,.pure Y]=some (.pure Z,[.pure X,.pure Y])) (hn:pNe Z Z=some (.pure (.bl false))) (scr:D) (a1 a2 a3 a4 a5 a6:Option S) :
  (dIf (dOr (dTr (eOp pNe (z05 (z0e ce) [.val (eVar 7),.val (eVar 8)]) (bOf (z05 z0m [.val (eVar 7),.val (eVar 8)])))) (dTr (eOp pNe (z05 (z0e ce) [.val (eVar 7),.val (eVar 8)]) (bOf (z05 z0m [.val (eVar 7),.val (eVar 8)]))))) (dRet (eD (.bl false))) z10) (s11 scr a1 a2 a3 a4 a5 a6 (some (.pure X)) (some (.pure Y))) = .ok .next (s11 scr a1 a2 a3 a4 a5 a6 (some (.pure X)) (some (.pure Y))):=by
 have q:=op2 (p:=pNe) (δ:=s11 scr a1 a2 a3 a4 a5 a6 (some (.pure X)) (some (.pure Y))) (zfz (G:=z0e ce) (f:=eVar 7) (f':=eVar 8) (v_at rfl) (v_at rfl) hT) (zfz (G:=z0m) (f:=eVar 7) (f':=eVar 8) (v_at rfl) (v_at rfl) hD) hn
 exact if_ff q q
theorem zbc (scr:D) (a1 a2 a4 a5 o7 o8:Option S) (U V:D) (h:∀ X Y,(X=U∧Y=V)∨(X=V∧Y=U)∨(X=U∧Y=U)→∃ Z,z0e ce [.pure X,.pure Y]=some (.pure Z,[.pure X,.pure Y])∧z0m [.pure X,.pure Y]=some (.pure Z,[.pure X,.pure Y])∧pNe Z Z=some (.pure (.bl false))) :
  ∃ q7 q8,(dFor (iSq (eLst (z04 (eTup (z04 (eVar 3) (z04 (eVar 6) aNil))) (z04 (eTup (z04 (eVar 6) (z04 (eVar 3) aNil))) (z04 (eTup (z04 (eVar 3) (z04 (eVar 3) aNil))) aNil))))) (gTp 2 (z0f (gNm [] 7) (z0f (gNm [] 8) z1b))) (dIf (dOr (dTr (eOp pNe (z05 (z0e ce) [.val (eVar 7),.val (eVar 8)]) (bOf (z05 z0m [.val (eVar 7),.val (eVar 8)])))) (dTr (eOp pNe (z05 (z0e ce) [.val (eVar 7),.val (eVar 8)]) (bOf (z05 z0m [.val (eVar 7),.val (eVar 8)]))))) (dRet (eD (.bl false))) z10)) (s11 scr a1 a2 (some (.pure U)) a4 a5 (some (.pure V)) o7 o8) = .ok .next (s11 scr a1 a2 (some (.pure U)) a4 a5 (some (.pure V)) q7 q8):=by
 have it:(iSq (eLst (z04 (eTup (z04 (eVar 3) (z04 (eVar 6) aNil))) (z04 (eTup (z04 (eVar 6) (z04 (eVar 3) aNil))) (z04 (eTup (z04 (eVar 3) (z04 (eVar 3) aNil))) aNil))))) (s11 scr a1 a2 (some (.pure U)) a4 a5 (some (.pure V)) o7 o8) = .ok [.tup [U,V],.tup [V,U],.tup [U,U]] (s11 scr a1 a2 (some (.pure U)) a4 a5 (some (.pure V)) o7 o8):=by
  simp [z2U,eLst,eTup,z04,aNil,eVar]
 obtain ⟨δ',e,q7,q8,rfl⟩:=z1c (g:=(gTp 2 (z0f (gNm [] 7) (z0f (gNm [] 8) z1b)))) (b:=(dIf (dOr (dTr (eOp pNe (z05 (z0e ce) [.val (eVar 7),.val (eVar 8)]) (bOf (z05 z0m [.val (eVar 7),.val (eVar 8)])))) (dTr (eOp pNe (z05 (z0e ce) [.val (eVar 7),.val (eVar 8)]) (bOf (z05 z0m [.val (eVar 7),.val (eVar 8)]))))) (dRet (eD (.bl false))) z10)) (fun _ δ=>∃ q7 q8,δ=s11 scr a1 a2 (some (.pure U)) a4 a5 (some (.pure V)) q7 q8) [.tup [U,V],.tup [V,U],.tup [U,U]] 0 (s11 scr a1 a2 (some (.pure U)) a4 a5 (some (.pure V)) o7 o8) ⟨_,_,rfl⟩ (fun i d δ hd ⟨p7,p8,e⟩=>by
  subst e
  have one:∀ X Y,d = .tup [X,Y]→((X=U∧Y=V)∨(X=V∧Y=U)∨(X=U∧Y=U))→∃ δ1 δ2,(gTp 2 (z0f (gNm [] 7) (z0f (gNm [] 8) z1b))) (.pure d) (s11 scr a1 a2 (some (.pure U)) a4 a5 (some (.pure V)) p7 p8)=some δ1∧(dIf (dOr (dTr (eOp pNe (z05 (z0e ce) [.val (eVar 7),.val (eVar 8)]) (bOf (z05 z0m [.val (eVar 7),.val (eVar 8)])))) (dTr (eOp pNe (z05 (z0e ce) [.val (eVar 7),.val (eVar 8)]) (bOf (z05 z0m [.val (eVar 7),.val (eVar 8)]))))) (dRet (eD (.bl false))) z10) δ1 = .ok .next δ2∧∃ q7 q8,δ2=s11 scr a1 a2 (some (.pure U)) a4 a5 (some (.pure V)) q7 q8:=fun X Y ed hXY=>by
   subst ed
   obtain ⟨Z,z1,z2,z3⟩:=h X Y hXY
   exact ⟨_,_,rfl,zdf z1 z2 z3 scr a1 a2 (some (.pure U)) a4 a5 (some (.pure V)),_,_,rfl⟩
  match i,hd with
  | 0,hd=>exact one U V (by simpa using hd.symm) (.inl ⟨rfl,rfl⟩)
  | 1,hd=>exact one V U (by simpa using hd.symm) (.inr (.inl ⟨rfl,rfl⟩))
  | 2,hd=>exact one U U (by simpa using hd.symm) (.inr (.inr ⟨rfl,rfl⟩)))
 exact ⟨q7,q8,(z5y it).trans e⟩
theorem turn6 (hi:InjC ce) (scr:D) (c:Int) (o2 o3 o4 o5 o6 o7 o8:Option S):∃ q2 q3 q4 q5 q6 q7 q8,(dSeq (dAsg (z05 z0S [.val (eVar 1)]) (gNm [] 2)) (dSeq (dAsg (z05 z0E [.io 2,.val (eD (.int 4))]) (gNm [] 3)) (dSeq (dAsg (z0N [9] (iSq (eOpF pIx 3 (bOf (eD (.int 2))))) (gNm [] 9) dYes (eOpF pIx 9 (bOf (eD (.int 0))))) (gNm [] 4)) (dSeq (dAsg (z05 z0a [.io 2,.val (eD (.int 4))]) (gNm [] 5)) (dSeq (dIf (dTr (eOpF pEq 5 (bOf (eD (.int 0))))) (dAsg (eOpF pAdd 4 (bOf (eSl (z0N [10] (iSq (eD (.str [109,122]))) (gNm [] 10) (dTr (eOp (pIn true) (eVar 10) (bVar 4))) (eVar 10)) z4h (z2x (eD (.int 1)))))) (gNm [] 4)) z10) (dSeq (dIf (dAnd (dTr (eOpF pEq 5 (bOf (eD (.int 1))))) (dTr (eOp pGt (eC1 pLen (bVar 4)) (bOf (eD (.int 1)))))) (dAsg (eSlN 4 (z2x (eD (.int 1))) z4h) (gNm [] 4)) z10) (dSeq (dAsg (z05 z0F [.io 2,.val (eVar 4)]) (gNm [] 6)) (dFor (iSq (eLst (z04 (eTup (z04 (eVar 3) (z04 (eVar 6) aNil))) (z04 (eTup (z04 (eVar 6) (z04 (eVar 3) aNil))) (z04 (eTup (z04 (eVar 3) (z04 (eVar 3) aNil))) aNil))))) (gTp 2 (z0f (gNm [] 7) (z0f (gNm [] 8) z1b))) (dIf (dOr (dTr (eOp pNe (z05 (z0e ce) [.val (eVar 7),.val (eVar 8)]) (bOf (z05 z0m [.val (eVar 7),.val (eVar 8)])))) (dTr (eOp pNe (z05 (z0e ce) [.val (eVar 7),.val (eVar 8)]) (bOf (z05 z0m [.val (eVar 7),.val (eVar 8)]))))) (dRet (eD (.bl false))) z10))))))))) (s11 scr (some (.pure (.int c))) o2 o3 o4 o5 o6 o7 o8) = .ok .next (s11 scr (some (.pure (.int c))) q2 q3 q4 q5 q6 q7 q8):=by
 obtain ⟨d0,e0,p0⟩:=r_pen c
 obtain ⟨h,w,bs,d1,e1,R,n4,p1⟩:=z9o p0 4 (by decide) (by decide)
 have e1:z0E [.own d0,.pure (.int 4)]=some (.pure (ruD h w bs),[.own d1,.pure (.int 4)]):=e1
 obtain ⟨r,d2,e2,l2,p2⟩:=z2u p1 4 4 rfl (by decide) (by decide)
 obtain ⟨ts',hN,t0,t1,nd,hl,e3⟩:=zaR scr c d2 (ruD h w bs) r o6 o7 o8 R
 obtain ⟨h',w',bs',d3,e4,R',hb,p3⟩:=zcS p2 ts' t0 (by omega) nd hl
 rw [← hb] at hN
 have bl:bs'.length≤7:=by
  have:=congrArg QF hb
  rw [Ws,z3C] at this
  omega
 have n7:bs.length≤7:=by omega
 obtain ⟨x0,x1,x2⟩:=z6f h w bs
 have c2:=z1p (cs:=[9]) (g:=gNm [] 9) (t:=dYes) (el:=(eOpF pIx 9 (bOf (eD (.int 0))))) blD (fun b:Nat×List Tx=>D.str [b.1]) [some (.pure scr),some (.pure (.int c)),some (.own d1),some (.pure (ruD h w bs)),o4,o5,o6,o7,o8,none,none] bs [] (by have:=R.n1; rw [z0K]; simp; omega) (fun b hb=>⟨_,_,.pure (.str [b.1]),[some (.pure scr),some (.pure (.int c)),some (.own d1),some (.pure (ruD h w bs)),o4,o5,o6,o7,o8,some (.pure (blD b)),none],rfl,rfl,by
  generalize ruD h w bs=ru at *
  simp [eOpF,eOpN,bVar,pIx,z27],rfl,rfl⟩)
 have eT:(bs.map fun b:Nat×List Tx=>D.str [b.1])=(bs.map (·.1)).map fun n=>D.str [n]:=by simp
 rw [Q2,eT] at c2
 have htl:tD (bs.map (·.1)) = .lst ((bs.map (·.1)).map fun n=>D.str [n]):=rfl
 obtain ⟨q7,q8,e5⟩:=zbc (ce:=ce) scr (some (.pure (.int c))) (some (.own d3)) (some (.pure (tD ts'))) (some (.pure (.int (r:Int)))) o7 o8 (ruD h w bs) (ruD h' w' bs') (fun X Y hXY=>by
  rcases hXY with ⟨rfl,rfl⟩ | ⟨rfl,rfl⟩ | ⟨rfl,rfl⟩
  ·exact ⟨_,z9k hi R R' hN bl,zcY R R' hN,z7l ..⟩
  ·exact ⟨_,z9k hi R' R hN.swap n7,zcY R' R hN.swap,z7l ..⟩
  ·exact ⟨_,z9k hi R R (.inl rfl) n7,zcY R R (.inl rfl),z7l ..⟩)
 refine ⟨some (.own d3),some (.pure (ruD h w bs)),some (.pure (tD ts')),some (.pure (.int (r:Int))),some (.pure (ruD h' w' bs')),q7,q8,?_⟩
 generalize hBL:bs.map blD=B at *
 generalize ((bs.map (·.1)).map fun n=>D.str [n])=TS at htl c2
 generalize tD (bs.map (·.1))=T at *
 generalize tD ts'=T' at *
 generalize ruD h w bs=RU at *
 generalize ruD h' w' bs'=OT at *
 rw [z0b (δ1:=s11 scr (some (.pure (.int c))) (some (.own d0)) o3 o4 o5 o6 o7 o8) (by simp [dAsg,z05,ios,ndup,z0J,evX,eVar,mkA,putA,e0])]
 rw [z0b (δ1:=s11 scr (some (.pure (.int c))) (some (.own d1)) (some (.pure RU)) o4 o5 o6 o7 o8) (by simp [dAsg,z05,ios,ndup,z0J,evX,eVar,mkA,putA,e1])]
 rw [z0b (δ1:=s11 scr (some (.pure (.int c))) (some (.own d1)) (some (.pure RU)) (some (.own T)) o5 o6 o7 o8) (by
  simp [dAsg,z2U,eOpF,eOpN,bVar,x2,z0J,clrD]
  rw [c2,htl]
  rfl)]
 rw [z0b (δ1:=s11 scr (some (.pure (.int c))) (some (.own d2)) (some (.pure RU)) (some (.own T)) (some (.pure (.int (r:Int)))) o6 o7 o8) (by simp [dAsg,z05,ios,ndup,z0J,evX,mkA,putA,e2])]
 refine (e3 _).trans ?_
 rw [z0b (δ1:=s11 scr (some (.pure (.int c))) (some (.own d3)) (some (.pure RU)) (some (.pure T')) (some (.pure (.int (r:Int)))) (some (.pure OT)) o7 o8) (by simp [dAsg,z05,ios,ndup,z0J,evX,eVar,mkA,putA,e4])]
 exact e5
theorem zcU (hi:InjC ce) (ns:List Int) (hn:ns.length≤63):z8P ce [.pure (.lst (ns.map .int))]=some (.pure (.bl true),[.pure (.lst (ns.map .int))]):=by
 obtain ⟨c0,e0⟩:=z7c ns
 have cut_ints:∀ (ns:List Int) (lo hi:Option Int),cutL (ns.map D.int) lo hi=(cutL ns lo hi).map D.int:=fun ns lo hi=>by
  unfold cutL
  simp [List.map_take,List.map_drop]
 have ha:pAdd (.lst [.int c0]) (.lst (cutL (ns.map .int) (some 1) (some 6)))=some (.own (.lst ((c0 :: cutL ns (some 1) (some 6)).map .int))):=by
  rw [cut_ints]
  have hl:(cutL ns (some 1) (some 6)).length≤63:=by
   unfold cutL
   simp
   omega
  simp only [pAdd]
  rw [if_pos (by rw [z0K]; simp; omega)]
  simp
 have hs:pSl (some 1) (some 6) (.lst (ns.map .int))=some (.own (.lst (cutL (ns.map .int) (some 1) (some 6)))):=rfl
 generalize D.lst (ns.map .int)=scr at *
 obtain ⟨δ',e,o1,o2,o3,o4,o5,o6,o7,o8,rfl⟩:=z1c (g:=gNm [] 1) (b:=(dSeq (dAsg (z05 z0S [.val (eVar 1)]) (gNm [] 2)) (dSeq (dAsg (z05 z0E [.io 2,.val (eD (.int 4))]) (gNm [] 3)) (dSeq (dAsg (z0N [9] (iSq (eOpF pIx 3 (bOf (eD (.int 2))))) (gNm [] 9) dYes (eOpF pIx 9 (bOf (eD (.int 0))))) (gNm [] 4)) (dSeq (dAsg (z05 z0a [.io 2,.val (eD (.int 4))]) (gNm [] 5)) (dSeq (dIf (dTr (eOpF pEq 5 (bOf (eD (.int 0))))) (dAsg (eOpF pAdd 4 (bOf (eSl (z0N [10] (iSq (eD (.str [109,122]))) (gNm [] 10) (dTr (eOp (pIn true) (eVar 10) (bVar 4))) (eVar 10)) z4h (z2x (eD (.int 1)))))) (gNm [] 4)) z10) (dSeq (dIf (dAnd (dTr (eOpF pEq 5 (bOf (eD (.int 1))))) (dTr (eOp pGt (eC1 pLen (bVar 4)) (bOf (eD (.int 1)))))) (dAsg (eSlN 4 (z2x (eD (.int 1))) z4h) (gNm [] 4)) z10) (dSeq (dAsg (z05 z0F [.io 2,.val (eVar 4)]) (gNm [] 6)) (dFor (iSq (eLst (z04 (eTup (z04 (eVar 3) (z04 (eVar 6) aNil))) (z04 (eTup (z04 (eVar 6) (z04 (eVar 3) aNil))) (z04 (eTup (z04 (eVar 3) (z04 (eVar 3) aNil))) aNil))))) (gTp 2 (z0f (gNm [] 7) (z0f (gNm [] 8) z1b))) (dIf (dOr (dTr (eOp pNe (z05 (z0e ce) [.val (eVar 7),.val (eVar 8)]) (bOf (z05 z0m [.val (eVar 7),.val (eVar 8)])))) (dTr (eOp pNe (z05 (z0e ce) [.val (eVar 7),.val (eVar 8)]) (bOf (z05 z0m [.val (eVar 7),.val (eVar 8)]))))) (dRet (eD (.bl false))) z10))))))))))
  (fun _ δ=>∃ o1 o2 o3 o4 o5 o6 o7 o8,δ=s11 scr o1 o2 o3 o4 o5 o6 o7 o8) ((c0 :: cutL ns (some 1) (some 6)).map .int) 0 (s11 scr none none none none none none none none) ⟨_,_,_,_,_,_,_,_,rfl⟩ (fun i d δ hd ⟨o1,o2,o3,o4,o5,o6,o7,o8,e⟩=>by
   subst e
   simp only [WK,QS] at hd
   obtain ⟨k,_,rfl⟩:=hd
   obtain ⟨q2,q3,q4,q5,q6,q7,q8,e⟩:=turn6 hi scr k o2 o3 o4 o5 o6 o7 o8
   exact ⟨_,_,rfl,e,_,_,_,_,_,_,_,_,rfl⟩)
 generalize ((c0 :: cutL ns (some 1) (some 6)).map D.int)=cs at *
 generalize D.lst (cutL (ns.map .int) (some 1) (some 6))=cl at *
 rw [z8P]
 refine zcg (δ1:=s11 scr o1 o2 o3 o4 o5 o6 o7 o8) ?_
 rw [zdM]
 have qi:iSq (eOp pAdd (eLst (z04 (z05 z0Y [.val (eVar 0),.val (eD (.int 0))]) aNil)) (bOf (eSlN 0 (z2x (eD (.int 1))) (z2x (eD (.int 6)))))) (s11 scr none none none none none none none none) = .ok cs (s11 scr none none none none none none none none):=by
  simp [z2U,z05,ios,ndup,evX,eVar,mkA,e0,putA,eSlN,z2x,bVar,hs,ha]
 refine (z0b ((z5y qi).trans e)).trans ?_
 rfl
end
def Gt:DF:=fun ss=>match ss with
 | [.pure (.lst ds)]=>match z5l ds with
  | some ns=>if ns.length≤63 then some (.pure (.bl true),ss) else none
  | none=>none
 | _=>none
theorem r_law (ns:List Int) (h:ns.length≤63):∃ outs,Gt [.pure (.lst (ns.map .int))]=some (.pure (.bl true),outs):=by
 unfold Gt
 simp only [DV.ints_map,h,if_true]
 exact ⟨_,rfl⟩
theorem za1:∀ {ds:List D} {ns:List Int},z5l ds=some ns→ds=ns.map .int
 | [],ns,h=>by simp [z5l] at h; subst h; rfl
 | d :: r,ns,h=>by
  cases d with
  | int i =>
   simp only [z5l] at h
   cases e:z5l r with
   | none=>rw [e] at h; cases h
   | some m =>
    rw [e] at h
    cases h
    rw [za1 e]
    rfl
  | _=>simp [z5l] at h
theorem law_all:∀ ce,InjC ce→∀ ss y,Gt ss=some y→z8P ce ss=some y:=by
 intro ce hj ss y h
 unfold Gt at h
 split at h
 ·rename_i ds
  cases hi:z5l ds with
  | none=>rw [hi] at h; cases h
  | some ns =>
   rw [hi] at h
   by_cases hn:ns.length≤63
   ·simp only [hn,if_true] at h
    cases h
    have e:=za1 hi
    subst e
    exact zcU hj ns hn
   ·simp only [hn,if_false] at h
    cases h
 ·cases h
end K06
open PySem PySem.W PyProof.Rows
def PySem.W.Fast.tw4938937610200804983:Nat:=0
def PySem.W.Fast.tw6734426344663775187:Nat:=0
def PySem.W.Fast.tw12478861202229674816:Nat:=0
def PySem.W.Fast.tw2931352063673472032:Nat:=0
def PySem.W.Fast.tw4076656249078571822:Nat:=0
def PySem.W.Fast.tw15538354339165225580:Nat:=0
def PySem.W.Fast.tw11757913284090369003:Nat:=0
def PySem.W.Fast.tw15407884214567098734:Nat:=0
def PySem.W.Fast.tw1507049617178581335:Nat:=0
def PySem.W.Fast.tw4808977299861128534:Nat:=0
def PySem.W.Fast.tw4523887744095811646:Nat:=0
set_option maxRecDepth 100000 in
set_option maxHeartbeats 0 in
theorem PySem.Challenge.cw_tilegrow_k06_rules_joined_holds : PySem.Challenge.rw_tilegrow_k06_rules_joined.Holds := by
 w_on; o_law; k_head; (case hw=>w_witness2)
 k_fill
 refine DV.walkD (l:=PySem.Challenge.rw_tilegrow_k06_rules_joined) (k:=8) (G:=K06.Gt) rfl rfl ⟨rfl,by decide,by decide⟩ (fun w h Y=>PySem.W.kIn_of Y) ?L K06.r_law ?F
 case L=>intro p; exact Eq.refl true
 case F =>
  intro w mg fa h KX G hmg
  refine' K06.all_mk K06.law_all KX G hmg ?d0 ?d1 ?d2 ?d3 ?d4 ?d5 ?d6 ?d7 ?d8 ?d9 ?d10 ?d11 ?d12 ?d13 ?d14 ?d15 ?d16 ?d17 ?d18 ?d19 ?d20 ?a21 ?l21 ?c21 ?k21 ?z_ValueError ?z_bool ?z_dict ?z_int ?z_isinstance ?z_len ?z_max ?z_min ?z_range ?z_set ?z_sorted ?z_tuple ?g_MOST_SIZE ?g_MOST_TILES ?ac_j ?ac_a ?ac_b ?ac_c ?ac_d ?ac_e ?ac_f ?ac_g ?ac_h ?ac_i ?ia_f ?li_f ?cci_f ?kfi_f ?qi_f ?fni_f ?kci_f ?sai_f ?ovi_f ?hdi_f ?tki_f_tile ?ia_i ?li_i ?cci_i ?kfi_i ?qi_i ?fni_i ?kci_i ?sai_i ?ovi_i ?hdi_i ?tki_i_many ?tki_i_most ?qc_j ?spc ?tkc ?ga_f ?gt_f ?cl_f ?mo_f ?mb_f ?ci_f ?kv_f ?no_f_many ?no_f_most ?no_f_tile ?hx_f ?ki_f_a ?ki_f_b ?ki_f_c ?ki_f_d ?ki_f_e ?ki_f_f ?ki_f_g ?ki_f_h ?ki_f_i ?mr_f_j ?ga_i ?gt_i ?cl_i ?mo_i ?mb_i ?ci_i ?kv_i ?no_i_many ?no_i_most ?no_i_tile ?hx_i ?ki_i_a ?ki_i_b ?ki_i_c ?ki_i_d ?ki_i_e ?ki_i_f ?ki_i_g ?ki_i_h ?ki_i_i ?mr_i_j
  (case d0=>exact ⟨_,_,_,_,_,_,_,_,_,_,by k_is,by k_is,by k_is,by k_is⟩); (case d1=>exact ⟨_,_,_,_,_,_,_,_,_,_,by k_is,by k_is,by k_is,by k_is⟩); (case d2=>exact ⟨_,_,_,_,_,_,_,_,_,_,by k_is,by k_is,by k_is,by k_is⟩); (case d3=>exact ⟨_,_,_,_,_,_,_,_,_,_,by k_is,by k_is,by k_is,by k_is⟩); (case d4=>exact ⟨_,_,_,_,_,_,_,_,_,_,by k_is,by k_is,by k_is,by k_is⟩); (case d5=>exact ⟨_,_,_,_,_,_,_,_,_,_,by k_is,by k_is,by k_is,by k_is⟩); (case d6=>exact ⟨_,_,_,_,_,_,_,_,_,_,by k_is,by k_is,by k_is,by k_is⟩); (case d7=>exact ⟨_,_,_,_,_,_,_,_,_,_,by k_is,by k_is,by k_is,by k_is⟩)
  (case d8=>exact ⟨_,_,_,_,_,_,_,_,_,_,by k_is,by k_is,by k_is,by k_is⟩); (case d9=>exact ⟨_,_,_,_,_,_,_,_,_,_,by k_is,by k_is,by k_is,by k_is⟩); (case d10=>exact ⟨_,_,_,_,_,_,_,_,_,_,by k_is,by k_is,by k_is,by k_is⟩); (case d11=>exact ⟨_,_,_,_,_,_,_,_,_,_,by k_is,by k_is,by k_is,by k_is⟩); (case d12=>exact ⟨_,_,_,_,_,_,_,_,_,_,by k_is,by k_is,by k_is,by k_is⟩); (case d13=>exact ⟨_,_,_,_,_,_,_,_,_,_,by k_is,by k_is,by k_is,by k_is⟩); (case d14=>exact ⟨_,_,_,_,_,_,_,_,_,_,by k_is,by k_is,by k_is,by k_is⟩); (case d15=>exact ⟨_,_,_,_,_,_,_,_,_,_,by k_is,by k_is,by k_is,by k_is⟩)
  (case d16=>exact ⟨_,_,_,_,_,_,_,_,_,_,by k_is,by k_is,by k_is,by k_is⟩); (case d17=>exact ⟨_,_,_,_,_,_,_,_,_,_,by k_is,by k_is,by k_is,by k_is⟩); (case d18=>exact ⟨_,_,_,_,_,_,_,_,_,_,by k_is,by k_is,by k_is,by k_is⟩); (case d19=>exact ⟨_,_,_,_,_,_,_,_,_,_,by k_is,by k_is,by k_is,by k_is⟩); (case d20=>exact ⟨_,_,_,_,_,_,_,_,_,_,by k_is,by k_is,by k_is,by k_is⟩); (case a21=>k_is); (case l21=>k_is); (case c21=>k_is)
  (case k21=>k_is); (case z_ValueError=>k_is); (case z_bool=>k_is); (case z_dict=>k_is); (case z_int=>k_is); (case z_isinstance=>k_is); (case z_len=>k_is); (case z_max=>k_is)
  (case z_min=>k_is); (case z_range=>k_is); (case z_set=>k_is); (case z_sorted=>k_is); (case z_tuple=>k_is); (case g_MOST_SIZE=>k_is); (case g_MOST_TILES=>k_is); (case ac_j=>k_is)
  (case ac_a=>k_is); (case ac_b=>k_is); (case ac_c=>k_is); (case ac_d=>k_is); (case ac_e=>k_is); (case ac_f=>k_is); (case ac_g=>k_is); (case ac_h=>k_is)
  (case ac_i=>k_is); (case ia_f=>k_is); (case li_f=>k_is); (case cci_f=>k_is); (case kfi_f=>k_is); (case qi_f=>kernel_rfl); (case fni_f=>k_is); (case kci_f=>k_is)
  (case sai_f=>k_is); (case ovi_f=>kernel_rfl); (case hdi_f=>k_is); (case tki_f_tile=>k_is); (case ia_i=>k_is); (case li_i=>k_is); (case cci_i=>k_is); (case kfi_i=>k_is)
  (case qi_i=>kernel_rfl); (case fni_i=>k_is); (case kci_i=>k_is); (case sai_i=>k_is); (case ovi_i=>kernel_rfl); (case hdi_i=>k_is); (case tki_i_many=>k_is); (case tki_i_most=>k_is)
  (case qc_j=>kernel_rfl); (case spc=>k_is); (case tkc=>k_is); (case ga_f=>k_is); (case gt_f=>k_is); (case cl_f=>k_is); (case mo_f=>k_is); (case mb_f=>k_is)
  (case ci_f=>k_is); (case kv_f=>kit_is); (case no_f_many=>k_is); (case no_f_most=>k_is); (case no_f_tile=>k_is); (case hx_f=>k_is); (case ki_f_a=>kit_is); (case ki_f_b=>kit_is)
  (case ki_f_c=>kit_is); (case ki_f_d=>kit_is); (case ki_f_e=>kit_is); (case ki_f_f=>kit_is); (case ki_f_g=>kit_is); (case ki_f_h=>kit_is); (case ki_f_i=>kit_is); (case mr_f_j=>k_is)
  (case ga_i=>k_is); (case gt_i=>k_is); (case cl_i=>k_is); (case mo_i=>k_is); (case mb_i=>k_is); (case ci_i=>k_is); (case kv_i=>kit_is); (case no_i_many=>k_is)
  (case no_i_most=>k_is); (case no_i_tile=>k_is); (case hx_i=>k_is); (case ki_i_a=>kit_is); (case ki_i_b=>kit_is); (case ki_i_c=>kit_is); (case ki_i_d=>kit_is); (case ki_i_e=>kit_is)
  (case ki_i_f=>kit_is); (case ki_i_g=>kit_is); (case ki_i_h=>kit_is); (case ki_i_i=>kit_is); (case mr_i_j=>k_is)
