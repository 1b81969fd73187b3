import PyProof.Rows.All
import Wide.All
import OpenK.AllK
import Wide.FinOn
import Lean
import PyProof.EqAt
import PyProof.EqKinds
import PyProof.TupleCall
import PyProof.NeKinds
import PyProof.StrWalks
import PyProof.ListStr
import PyProof.StrOps2
import PyProof.StrLawsIn
import KE.KDictOf
import PyProof.AttrMissHeap
import PyProof.Draws
import PyProof.EnumMake
import PyProof.Rows.EnumRows
import PyProof.LongRange
import PyProof.NoPylong
import PyProof.SeqI3
import PyProof.Rows.SeqCalls
import PyProof.StrLawsChain
import PyProof.StrCalls2
import KE.KIntText
import PyProof.Rows.CallKwBuiltin
import OpenK.KOwn
import OpenK.KRaise
import PyProof.ExcBaseAll.ValueError
import PyProof.Rows.CatchOwn
import KE.KIsAll
import PyProof.ExcArgsOwn
import PyProof.ExcAttrAll.ValueError
import PyProof.Rows.SeqMore2
import PyProof.ListMulAny
import PyProof.ListMulRoad
import PyProof.ZipIter
import PyProof.Rows.FactsT2
import PyProof.ExcInit
import PyProof.InstStoreFacts
import PyProof.StrCalls
import PyProof.FactsAll.dict_1
import PyProof.FactsAll.subtypes_3
import PyProof.FactsAll.subtypes_4
import PyProof.Dict
import PyProof.MinMaxWalk
import PyProof.WalkInts
import PyProof.WalksMore
import PyProof.FactsAll.tuple_2
import KE.KSortTup
import PyProof.Rows.SortWalk
import PyProof.Rows.SetFrom
import PyProof.DictKinds
import PyProof.DictStraight
import PyProof.SetRoads
import PyProof.CollectWalk
import PyProof.CollectStr
import PyProof.DictIter
import PyProof.Rows.SortShell
import KE.KItemsList
import PySem.Challenge.RW_tilegrow_k07_whole_growing_goes_together
open PySem renaming wpAny_bind→W0,Shared→W2,wpAny_pure→W3,wpAny→W5,sizeLine→W6,starEach→We,Spec→Wk,Program→Wl,World→Wq,Around→Wr,compareOp→Wu,mainGlobals→Wz,mem_of_lookup→WA,wpAny_holding→WH,wpAny_newObj_type→WJ,wpAny_truthy_bool→WY,sizeLine_eq→WZ,wpAny_setState_of→Q3,FuncData→Q7,wpAny_call_entry→Q8,wpAny_loadPart'→Qe,assignEach→Qh,binaryOp→Qi,wpAny_mono→Ql,behindInMarks→Qs,wpAny_callSpecial?_slot→Qw,cLine→Qx,bootBuiltins→Qz,cellsFrom→QD,wpAny_typeOf→QG,codeAny_builtin→QI,backTo→QL,codeAny→QM,wpAny_askSetting→QN,wpAny_field→QO,wpAny_rule→QV,sysModules→J4,wpAny_pyIter_tuple→J9,scanBound→Jb,pyNext→Jg,builtinLookup_eq_fast→Jj,plainId_quiet→Jn,getItem→Jp,sliceBounds→Jq,wpAny_passesOwn→Js,swapsWith→Jt,tupleKind_room_in1→Ju,pushCells→Jv,getattributeRaised→Jw,typeIs_int→JC,foldedSetIterable→JD,wpAny_pyIter_list→JF,wpAny_pyIter_enum→JH,wpAny_setEpoch_of→JI
open PySem.W renaming Frag→W1,mg_none_of→WL,kia_one→Qd,kitOne→QC,fnOf→QF,kas_place→QX,keepIn→QY,findIn→Jh,kas_desc→Jy
open PySem.Heap renaming get?_push_of_some→W4,lt_size→Wg,get?_push_size→Wj,SameBut→Qk,size_push→Qu,get?_update_other→QA,get?_update_self→QP
open Option.some renaming injEq→W7,inj→Wy
open Nat renaming le_refl→W8,ne_of_lt→Wt,lt_of_lt_of_le→Ww,mul_le_mul→WT,le_trans→WV,zero_le→Q2,mul_comm→Qc,zero_add→Qq,lt_irrefl→Qr,mod_lt→Qv,le_succ→QE,lt_succ_of_lt→QJ,ne_of_gt→QZ,mul_assoc→J3,mul_pos→Jc,le_of_lt→Jf,pow_succ→Jz,succ_mul→JL,add_comm→JM
open List renaming getElem?_set_ne→W9,size_toArray→Wb,getElem?_eq_some_iff→Wc,replicate→Wd,range→Wf,getElem?_eq_getElem→Wh,mem_cons_of_mem→Wi,mem_cons_self→Wm,mem_cons→Wn,length_map→Wo,mem_map→Wp,map_cons→Ws,getElem?_set_self→Wv,map_map→WB,length_cons→WC,mem_of_getElem?→WD,all_eq_true→WF,mem_map_of_mem→WG,map_congr_left→WM,getD_eq_getElem?_getD→WN,nodup_cons→WO,getElem_mem→WP,mem_append_right→WS,getElem?_map→Q0,all_cons→Q5,replicate_succ→Q9,getElem?_set→Qa,getElem?_eq_none→Qb,nil_append→Qf,pairwise_cons→Qg,lookup_cons→Qj,foldl_cons→Qn,eq_nil_of_length_eq_zero→Qo,length_append→Qp,mem_range→Qt,filterMap_cons→Qy,ext_getElem→QB,find?_cons→QH,any_cons→QK,nodup_iff_pairwise_ne→QT,flatten_cons→QU,filterMap_cons_some→J1,mem_append→J5,append_nil→J7,length_set→J8,range_succ→Ja,length_range→Jd,pairwise_map→Je,all_map→Ji,any_map→Jk,length_take→Jl,mem_of_mem_take→Jm,length_reverse→Jr,toArray→Jx,getElem_map→JJ,of_mem_zip→JK
open Bool renaming and_eq_true→Wa,false_eq_true→WI,false_ne_true→Q6,true_and→Jo,false_and→JB
open Array renaming length_toList→Wx,getD_eq_getD_getElem?→WR
open PyProof.Rows renaming seqObj→WE,slot_tuple_getitem→Q4
open Option renaming map_some→WK,bind_some→WX,getD_some→J0,isSome_map→JE
open PySem.Builtin.Str renaming strSliceIndices→WQ,occurrences→J2
open PySem.Builtin.Slice renaming slicePlaces→WU,sliceAdjust→Qm,sliceApplied→QQ
open PySem.Builtin.Tuple renaming tupleExact→WW
open PySem.F renaming slot_tuple_iterator_next→QR
open PySem.Builtin.Frozenset renaming isAnySet→QS
open PySem.Builtin.SmallTypes renaming nextOf→QW
open Int renaming emod_lt_of_pos→JA,toNat_natCast→JG,emod_nonneg→JN
set_option Elab.async false
set_option linter.all false
set_option maxRecDepth 100000
namespace L2
open PySem PySem.Spec PyProof.Rows
abbrev Key:=Sum Int Str
def zag:Key→Value→Bool
 | .inl k,v=>Value.isInt k v
 | .inr x,v=>Value.isStrOf x v
def keyH (w:Wq):Key→Int
 | .inl k=>hashInt k
 | .inr x=>hashStr w x
theorem z1g:∀ {k:Key} {v:Value},zag k v=true→(∃ i t,k=Sum.inl i∧v=Value.int i t)∨(∃ x t,k=Sum.inr x∧v=Value.str x t)
 | .inl i,v,h=>by
  obtain ⟨t,e⟩:=Value.isInt_shape (k:=i) (v:=v) h
  exact .inl ⟨i,t,rfl,e⟩
 | .inr x,v,h=>by
  obtain ⟨t,e⟩:=Value.isStrOf_shape (x:=x) (v:=v) h
  exact .inr ⟨x,t,rfl,e⟩
theorem zbD (i:Int) (t:Tok):zag (.inl i) (.int i t)=true:=by simp [zag,Value.isInt]
theorem zbC (x:Str) (t:Tok):zag (.inr x) (.str x t)=true:=by simp [zag,Value.isStrOf]
theorem zgH (a b:Int):decide ((Sum.inl a:Key)=Sum.inl b)=(a == b):=by
 by_cases e:a=b
 ·subst e; simp
 ·have h:¬ (Sum.inl a:Key)=Sum.inl b:=fun q=>e (Sum.inl.inj q)
  rw [decide_eq_false h]
  exact (beq_eq_false_iff_ne.mpr e).symm
theorem zgE (a b:Str):decide ((Sum.inr a:Key)=Sum.inr b)=decide (a=b):=by
 by_cases e:a=b
 ·subst e; simp
 ·have h:¬ (Sum.inr a:Key)=Sum.inr b:=fun q=>e (Sum.inr.inj q)
  rw [decide_eq_false h,decide_eq_false e]
theorem zgG (a:Int) (b:Str):decide ((Sum.inl a:Key)=Sum.inr b)=false:=decide_eq_false (fun q=>nomatch q)
theorem zgF (a:Str) (b:Int):decide ((Sum.inr a:Key)=Sum.inl b)=false:=decide_eq_false (fun q=>nomatch q)
def z20 (prog:Wl) (w:Wq):PySem.KeyKind prog w Key where
 is:=zag
 hash:=keyH w
 inj:=fun v a b ha hb=>by
  rcases z1g ha with ⟨i,t,rfl,rfl⟩ | ⟨x,t,rfl,rfl⟩
  ·rcases z1g hb with ⟨j,u,rfl,e⟩ | ⟨y,u,rfl,e⟩
   ·injection e with e1 _; rw [e1]
   ·exact nomatch e
  ·rcases z1g hb with ⟨j,u,rfl,e⟩ | ⟨y,u,rfl,e⟩
   ·exact nomatch e
   ·injection e with e1 _; rw [e1]
 byValue:=fun k v h=>by
  rcases z1g h with ⟨i,t,rfl,rfl⟩ | ⟨x,t,rfl,rfl⟩ <;> rfl
 pyHash:=fun hv h=>by
  rcases z1g hv with ⟨i,t,rfl,rfl⟩ | ⟨x,t,rfl,rfl⟩
  ·exact wpAny_pyHash_int h
  ·exact wpAny_pyHash_str h
 eqBool:=fun hu hv h=>by
  rcases z1g hu with ⟨i,t,rfl,rfl⟩ | ⟨x,t,rfl,rfl⟩
  ·rcases z1g hv with ⟨j,u,rfl,rfl⟩ | ⟨y,u,rfl,rfl⟩
   ·rw [zgH] at h; exact wpAny_eqBool_int h
   ·rw [zgG] at h; exact SeqAt.EqAt.int_str i t y u _ _ _ _ h
  ·rcases z1g hv with ⟨j,u,rfl,rfl⟩ | ⟨y,u,rfl,rfl⟩
   ·rw [zgF] at h; exact SeqAt.EqAt.str_int x t j u _ _ _ _ h
   ·rw [zgE] at h; exact wpAny_eqBool_str h
 «strs»:=fun k x t v h=>by
  rcases z1g h with ⟨i,u,rfl,e⟩ | ⟨y,u,rfl,e⟩
  ·exact nomatch e
  ·injection e with e1 _
   subst e1
   cases v <;> rfl
theorem z98 (prog:Wl) (w:Wq) (i:Int) (t:Tok):(z20 prog w).is (.inl i) (.int i t)=true:=zbD i t
theorem z97 (prog:Wl) (w:Wq) (x:Str) (t:Tok):(z20 prog w).is (.inr x) (.str x t)=true:=zbC x t
inductive V where
 | non | bl (b:Bool) | int (i:Int) | str (x:Str) | byt (b:Array UInt8) | flt (b:UInt64) | ref (a:Addr) | ty (n:String)
 deriving DecidableEq
def RelV:V→Value→Prop
 | .non,u=>u=Value.none
 | .bl b,u=>u=Value.bool b
 | .int i,u=>∃ t,u=Value.int i t
 | .str x,u=>∃ t,u=Value.str x t
 | .byt b,u=>∃ t,u=Value.bytes b t
 | .flt b,u=>∃ t,u=Value.float b t
 | .ref a,u=>u=Value.ref a
 | .ty n,u=>u=Value.type n
abbrev Vals:List V→List Value→Prop:=Paired RelV
theorem Vals.length (r:Vals xs us):xs.length=us.length:=Paired.length r
theorem Vals.get:∀ {xs:List V} {us:List Value} {i:Nat} {x:V},Vals xs us→xs[i]? = some x→∃ u,us[i]? = some u∧RelV x u
 | _,_,_,_,.nil,e=>by simp at e
 | _,_,0,_,.cons r _,e=>by simp at e; subst e; exact ⟨_,rfl,r⟩
 | _,_,i + 1,x,.cons _ t,e=>by
  obtain ⟨u,h1,h2⟩:=Vals.get (i:=i) (x:=x) t (by simpa using e)
  exact ⟨u,by simpa using h1,h2⟩
theorem Vals.set (r:RelV x u):∀ {xs:List V} {us:List Value} (i:Nat),Vals xs us→Vals (xs.set i x) (us.set i u)
 | _,_,_,.nil=>.nil
 | _,_,0,.cons _ t=>.cons r t
 | _,_,i + 1,.cons q t=>.cons q (Vals.set r i t)
theorem Vals.append:∀ {xs ys:List V} {us ws:List Value},Vals xs us→Vals ys ws→Vals (xs ++ ys) (us ++ ws)
 | _,_,_,_,.nil,s=>s
 | _,_,_,_,.cons r t,s=>.cons r (Vals.append t s)
theorem Vals.take:∀ {xs:List V} {us:List Value} (n:Nat),Vals xs us→Vals (xs.take n) (us.take n)
 | _,_,0,_=>.nil
 | _,_,_ + 1,.nil=>.nil
 | _,_,n + 1,.cons r t=>.cons r (Vals.take n t)
theorem Vals.drop:∀ {xs:List V} {us:List Value} (n:Nat),Vals xs us→Vals (xs.drop n) (us.drop n)
 | _,_,0,r=>r
 | _,_,_ + 1,.nil=>.nil
 | _,_,n + 1,.cons _ t=>Vals.drop n t
def RelO:Option V→Option Value→Prop
 | some v,some u=>RelV v u
 | none,none=>True
 | _,_=>False
def KV {κ:Type}:List (κ×V)→List (κ×Value)→Prop:=Paired fun (p:κ×V) (q:κ×Value)=>p.1=q.1∧RelV p.2 q.2
def kV:Key→V
 | .inl i=>.int i
 | .inr x=>.str x
inductive HO where
  | lst (xs:List V)
  | tup (xs:List V)
  | dK (kvs:List (Key×V)) | dT (kvs:List (List Key×V))
  | set (S:Int→Bool) (n:Nat)
  | ins (C dx:Addr) (fs:List (Str×V))
  | own (x:Addr)
  | xd (fs:List (Str×V))
  | met (f x:Addr)
  | rng (lo hi:Int)
  | frz (o:Obj) (u:HO)
  | tbl (ps:Array Value)
  | ext (φ:Heap→Prop)
abbrev Hp:=Addr→Option HO
def upd (H:Hp) (a:Addr) (o:HO):Hp:=fun b=>if b=a then some o else H b
theorem z0M:upd H a o a=some o:=by unfold upd; rw [if_pos rfl]
theorem z0t (h:b≠a):upd H a o b=H b:=by unfold upd; rw [if_neg h]
theorem ze2:upd (upd H a o) a u=upd H a u:=by
 funext b; unfold upd; split <;> rfl
theorem ne_of {H:Hp} {a b:Addr} {o u:HO} (h:H a=some o) (h':H b=some u) (d:o≠u):a≠b:=by
 intro e; subst e; rw [h] at h'; exact d (Wy h')
theorem z0P {H:Hp} {a b:Addr} {o:HO} (h:H a=some o) (h':H b=none):a≠b:=by
 intro e; subst e; rw [h] at h'; cases h'
def IsTupN (h:Heap) (a:Addr) (its:Array Value):Prop:=∃ n,h.get? a=some { cls:=.type "tuple",dict:=none,data:=.seq its n,slots:=#[] }
theorem IsTupN.tup (x:IsTupN h a its):IsTup h a its:=let ⟨n,e⟩:=x; ⟨_,e,rfl,n,rfl⟩
theorem IsTupN.new (h:Heap) (its:Array Value):IsTupN (h.push { cls:=.type "tuple",data:=.seq its }) h.objs.size its:=⟨_,Wj _ rfl⟩
theorem IsTupN.lt (x:IsTupN h a its):a < h.objs.size:=let ⟨_,e⟩:=x; Wg e
section
variable (P:Wl) (w:Wq)
def ObjOk (H:Hp) (h:Heap) (a:Addr):HO→Prop
 | .lst xs=>xs.length≤W6∧∃ (its:List Value) (n:Nat),Vals xs its∧h.get? a=some { cls:=.type "list",data:=.seq its.toArray n }
 | .tup xs=>xs.length≤W6∧∃ its:List Value,Vals xs its∧IsTupN h a its.toArray
 | .dK kvs=>kvs.length≤W6∧(a == J4)=false∧∃ vs,KV kvs vs∧h.DictOf (z20 P w) a vs
 | .dT kvs=>kvs.length≤W6∧(a == J4)=false∧∃ xs:List (List Key×Addr×Value),
   Paired (fun (p:List Key×V) (q:List Key×Addr×Value)=>p.1=q.1∧H q.2.1=some (.tup (p.1.map kV))∧RelV p.2 q.2.2) kvs xs ∧
   ∃ o es ep,h.get? a=some o∧o.ExactDict∧o.data = .dict es ep∧es.toList=xs.map (entryOfKey (tupleKind (z20 P w)))∧(xs.map (·.1)).Nodup
 | .set S n=>h.SetOf (intKind P w) a S n
 | .ins C dx fs=>H dx=some (.own a)∧fs.length≤1000∧dx≠a∧h.get? a=some (PySem.W.instObj C dx) ∧
   ∃ mA,h.Ns1 dx mA∧(∀ f,RelO (fs.lookup f) (mA f))∧PySem.Within mA (fs.map (·.1))
 | .own _=>∃ o,h.get? a=some o
 | .xd fs=>∃ mA,h.Ns1 a mA∧∀ f,RelO (fs.lookup f) (mA f)
 | .rng lo hi=>∃ t u v,h.get? a=some { cls:=.type "range",data:=.fields #[.int lo t,.int hi u,.int 1 v] }
 | .frz o u=>h.get? a=some o∧ObjOk H h a u
 | .tbl ps=>h.get? a=some { cls:=.none,data:=.fields ps }
 | .met f x=>h.get? a=some (PySem.W.methodObj (.ref f) (.ref x))
 | .ext φ=>φ h∧(∃ o,h.get? a=some o)∧∀ h1 h2:Heap,φ h1→(∀ o,h1.get? a=some o→h2.get? a=some o)→φ h2
def HOk (H:Hp) (h:Heap):Prop:=∀ a o,H a=some o→ObjOk P w H h a o
end
section
variable {P:Wl} {w:Wq} {H H':Hp} {h h':Heap} {a:Addr} {o:HO}
theorem ObjOk.lt (x:ObjOk P w H h a o):a < h.objs.size:=by
 cases o with
 | lst xs=>obtain ⟨_,_,_,_,e⟩:=x; exact Wg e
 | tup xs=>obtain ⟨_,_,_,p⟩:=x; exact p.lt
 | dK kvs=>obtain ⟨_,_,_,_,o,_,_,e,_⟩:=x; exact Wg e
 | dT kvs=>obtain ⟨_,_,_,_,o,_,_,e,_⟩:=x; exact Wg e
 | set S n=>obtain ⟨o,_,_,_,e,_⟩:=x; exact Wg e
 | ins C dx fs=>obtain ⟨_,_,_,e,_⟩:=x; exact Wg e
 | own y=>obtain ⟨_,e⟩:=x; exact Wg e
 | xd fs=>obtain ⟨_,⟨_,_,_,e,_⟩,_⟩:=x; exact Wg e
 | rng lo hi=>obtain ⟨_,_,_,e⟩:=x; exact Wg e
 | frz ob u=>obtain ⟨e,_⟩:=x; exact Wg e
 | tbl ps=>exact Wg (show h.get? a=some _ from x)
 | met f y=>exact Wg (show h.get? a=some _ from x)
 | ext φ=>obtain ⟨_,⟨_,e⟩,_⟩:=x; exact Wg e
theorem Paired.mapP:∀ {l₁:List α} {l₂:List β},Paired F l₁ l₂→(∀ a b,F a b→G a b)→Paired G l₁ l₂
 | _,_,.nil,_=>.nil
 | _,_,.cons r t,f=>.cons (f _ _ r) (Paired.mapP t f)
theorem ObjOk.stay (x:ObjOk P w H h a o) (k:∀ b u,(b=a∨H b=some (.own a))→h.get? b=some u→h'.get? b=some u)
  (ho:∀ b,H b=some (.own a)→H' b=some (.own a)) (ht:∀ b xs,H b=some (.tup xs)→H' b=some (.tup xs)):ObjOk P w H' h' a o:=by
 induction o with
 | lst xs=>obtain ⟨z,its,n,r,e⟩:=x; exact ⟨z,its,n,r,k _ _ (.inl rfl) e⟩
 | tup xs=>obtain ⟨z,its,r,n,e⟩:=x; exact ⟨z,its,r,n,k _ _ (.inl rfl) e⟩
 | dK kvs=>obtain ⟨z,y,vs,r,ob,es,ep,e,c⟩:=x; exact ⟨z,y,vs,r,ob,es,ep,k _ _ (.inl rfl) e,c⟩
 | dT kvs =>
  obtain ⟨z,y,xs,r,ob,es,ep,e,c⟩:=x
  exact ⟨z,y,xs,Paired.mapP r fun p q z=>⟨z.1,ht _ _ z.2.1,z.2.2⟩,ob,es,ep,k _ _ (.inl rfl) e,c⟩
 | set S n=>obtain ⟨ob,es,ep,t,e,c⟩:=x; exact ⟨ob,es,ep,t,k _ _ (.inl rfl) e,c⟩
 | ins C dx fs =>
  obtain ⟨d,z,ne,e,mA,⟨od,es,ep,e2,c⟩,r⟩:=x
  exact ⟨ho _ d,z,ne,k _ _ (.inl rfl) e,mA,⟨od,es,ep,k _ _ (.inr d) e2,c⟩,r⟩
 | own y=>obtain ⟨ob,e⟩:=x; exact ⟨ob,k _ _ (.inl rfl) e⟩
 | xd fs=>obtain ⟨mA,⟨od,es,ep,e,c⟩,r⟩:=x; exact ⟨mA,⟨od,es,ep,k _ _ (.inl rfl) e,c⟩,r⟩
 | rng lo hi=>obtain ⟨t,u,v,e⟩:=x; exact ⟨t,u,v,k _ _ (.inl rfl) e⟩
 | frz ob u ih=>obtain ⟨e,q⟩:=x; exact ⟨k _ _ (.inl rfl) e,ih q⟩
 | tbl ps =>
  have e:h.get? a=some { cls:=.none,data:=.fields ps }:=x
  show h'.get? a=some { cls:=.none,data:=.fields ps }
  exact k a _ (.inl rfl) e
 | met f y =>
  have e:h.get? a=some (PySem.W.methodObj (.ref f) (.ref y)):=x
  show h'.get? a=some (PySem.W.methodObj (.ref f) (.ref y))
  exact k a _ (.inl rfl) e
 | ext φ=>obtain ⟨p,⟨o,e⟩,st⟩:=x; exact ⟨st _ _ p fun o q=>k _ _ (.inl rfl) q,⟨o,k _ _ (.inl rfl) e⟩,st⟩
theorem HOk.lt (x:HOk P w H h) (e:H a=some o):a < h.objs.size:=(x a o e).lt
theorem HOk.fresh (x:HOk P w H h) (e:h.objs.size≤a):H a=none:=by
 cases q:H a with
 | none=>rfl
 | some u=>exact absurd (Ww (x.lt q) e) (Qr _)
theorem HOk.kept (x:HOk P w H h) (k:∀ b u,h.get? b=some u→h'.get? b=some u):HOk P w H h':=fun a o e =>
 (x a o e).stay (fun b u _ q=>k b u q) (fun _ q=>q) fun _ _ q=>q
theorem HOk.laid (x:HOk P w H h) (k:∀ b u,h.get? b=some u→h'.get? b=some u) (hp:h.objs.size≤a) (new:ObjOk P w (upd H a o) h' a o):HOk P w (upd H a o) h':=fun b u e=>by
 have hn:=x.fresh hp
 by_cases hb:b=a
 ·subst hb; rw [z0M] at e; cases e; exact new
 ·rw [z0t hb] at e
  exact (x b u e).stay (fun c v _ q=>k c v q) (fun c q=>by rw [z0t (z0P q hn)]; exact q) fun c xs q=>by rw [z0t (z0P q hn)]; exact q
end
def Rd (H:Hp) (a:Addr) (u:HO):Prop:=H a=some u∨∃ o,H a=some (.frz o u)
theorem Rd.ok (r:Rd H a u) (x:HOk P w H h):ObjOk P w H h a u:=by
 rcases r with r | ⟨o,r⟩
 ·exact x a u r
 ·obtain ⟨_,q⟩:=x a _ r
  exact q
def Mut:Option HO→Prop
 | some (.lst _)=>True
 | some (.dK _)=>True
 | some (.dT _)=>True
 | some (.set _ _)=>True
 | some (.ins _ _ _)=>True
 | some (.ext _)=>True
 | _=>False
section
variable {P:Wl} {w:Wq} {H:Hp} {h h':Heap} {x e:Addr} {o':HO}
theorem HOk.write (ok:HOk P w H h) (mu:Mut (H x)) (he:e=x∨H e=some (.own x)) (k:∀ b u,b≠e→h.get? b=some u→h'.get? b=some u) (heo:∃ u,h'.get? e=some u)
  (new:ObjOk P w (upd H x o') h' x o'):HOk P w (upd H x o') h':=fun b u q=>by
 have nown:∀ c y,H c=some (.own y)→c≠x:=fun c y r z=>by subst z; rw [r] at mu; exact mu
 have ntup:∀ c xs,H c=some (.tup xs)→c≠x:=fun c xs r z=>by subst z; rw [r] at mu; exact mu
 by_cases hb:b=x
 ·subst hb; rw [z0M] at q; cases q; exact new
 ·rw [z0t hb] at q
  by_cases hbe:b=e
  ·have q':H b=some (.own x):=by
    rcases he with z | z
    ·exact absurd (hbe.trans z) hb
    ·rw [hbe]; exact z
   rw [q] at q'; cases q'
   obtain ⟨v,hv⟩:=heo
   exact ⟨v,by rw [hbe]; exact hv⟩
  ·refine (ok b u q).stay (fun c v hc r=>k c v ?_ r) (fun c r=>by rw [z0t (nown c b r)]; exact r) fun c xs r=>by rw [z0t (ntup c xs r)]; exact r
   rcases hc with rfl | hc
   ·exact hbe
   ·rintro rfl
    rcases he with z | z
    ·exact nown c b hc z
    ·rw [hc] at z; cases z; exact hb rfl
end
structure Un (fs ex:List Addr) (H H':Hp) (h h':Heap):Prop where
 keep:∀ b o,h.get? b=some o→H b=none→b ∉ fs→b ∉ ex→h'.get? b=some o
 slot:∀ b o,h.get? b=some o→H b=none→b ∈ fs→b ∉ ex→∃ sl,h'.get? b=some { o with slots:=sl }
 free:∀ b o,h.get? b=some o→H b=none→b ∉ ex→H' b=none
 there:∀ b o,h.get? b=some o→b ∉ ex→∃ o',h'.get? b=some o'
 tups:∀ b xs,H b=some (.tup xs)→H' b=some (.tup xs)
 frzs:∀ b o u,H b=some (.frz o u)→H' b=some (.frz o u)
 tbls:∀ b ps,H b=some (.tbl ps)→∃ more,H' b=some (.tbl (ps ++ more))
section
variable {fs fs' ex ex':List Addr} {H H1 H2:Hp} {h h1 h2 h':Heap} {a x e:Addr} {o:HO}
theorem Un.any (u:Un fs ex H H1 h h1) (q:h.get? b=some ob) (n:H b=none) (hx:b ∉ ex):∃ sl,h1.get? b=some { ob with slots:=sl }:=by
 by_cases hb:b ∈ fs
 ·exact u.slot b ob q n hb hx
 ·exact ⟨ob.slots,u.keep b ob q n hb hx⟩
theorem Un.kept (k:∀ b u,h.get? b=some u→h'.get? b=some u):Un fs ex H H h h' :=
 ⟨fun b ob q _ _ _=>k b ob q,fun b ob q _ _ _=>⟨ob.slots,k b ob q⟩,fun _ _ _ n _=>n,fun b ob q _=>⟨ob,k b ob q⟩,fun _ _ q=>q,fun _ _ _ q=>q,fun _ ps q=>⟨#[],by rw [q]; simp⟩⟩
theorem Un.refl:Un fs ex H H h h:=Un.kept fun _ _ q=>q
theorem Un.laid (k:∀ b u,h.get? b=some u→h'.get? b=some u) (hp:h.objs.size≤a) (hn:H a=none):Un fs ex H (upd H a o) h h' where
 keep:=fun b u q _ _ _=>k b u q
 slot:=fun b u q _ _ _=>⟨u.slots,k b u q⟩
 free:=fun b u q n _=>by rw [z0t (Wt (Ww (Wg q) hp))]; exact n
 there:=fun b u q _=>⟨u,k b u q⟩
 tups:=fun b xs q=>by rw [z0t (z0P q hn)]; exact q
 frzs:=fun b u xs q=>by rw [z0t (z0P q hn)]; exact q
 tbls:=fun b ps q=>⟨#[],by rw [z0t (z0P q hn),q]; simp⟩
theorem Un.write (mu:Mut (H x)) (he:e=x∨H e=some (.own x)) (k:∀ b u,b≠e→h.get? b=some u→h'.get? b=some u) (heo:∃ u,h'.get? e=some u):Un fs ex H (upd H x o) h h':=by
 have hx:∀ b,H b=none→b≠x:=fun b n z=>by subst z; rw [n] at mu; exact mu
 have hb:∀ b,H b=none→b≠e:=fun b n z=>by
  subst z
  rcases he with r | r
  ·exact hx b n r
  ·rw [n] at r; cases r
 have hm:∀ b u,H b=some u→¬ Mut (some u)→b≠x:=fun b u q nm z=>by subst z; rw [q] at mu; exact nm mu
 refine ⟨fun b u q n _ _=>k b u (hb b n) q,fun b u q n _ _=>⟨u.slots,k b u (hb b n) q⟩,fun b u q n _=>by rw [z0t (hx b n)]; exact n,fun b u q _=>?_,
  fun b xs q=>by rw [z0t (hm b _ q fun z=>z)]; exact q,fun b u xs q=>by rw [z0t (hm b _ q fun z=>z)]; exact q,fun b ps q=>⟨#[],by rw [z0t (hm b _ q fun z=>z),q]; simp⟩⟩
 by_cases hbe:b=e
 ·subst hbe; exact heo
 ·exact ⟨u,k b u hbe q⟩
end
def trk (h:Heap) (H:Hp):List Addr:=(Wf h.objs.size).filter fun a=>(H a).isSome
def hidT (h:Heap) (H:Hp):Heap:=PySem.W.hideAll h (trk h H)
theorem zbQ (h:Heap) (H:Hp):(hidT h H).objs.size=h.objs.size:=PySem.W.hideAll_size _ _
theorem zdh (e:h.get? b=some o) (n:H b=none):(hidT h H).get? b=some o :=
 PySem.W.hideAll_get _ e fun hm=>by
  have q:(H b).isSome=true:=(List.mem_filter.mp hm).2
  rw [n] at q; simp at q
theorem zeI (e:(hidT h H).get? b=some o):h.get? b=some o∧H b=none:=by
 have e':h.get? b=some o:=PySem.W.of_hideAll (trk h H) e
 refine ⟨e',?_⟩
 cases q:H b with
 | none=>rfl
 | some x =>
  have hm:b ∈ trk h H:=List.mem_filter.mpr ⟨Qt.mpr (Wg e'),by simp [q]⟩
  have z:(hidT h H).get? b=none:=PySem.W.hideAll_none (trk h H) hm
  rw [z] at e; cases e
def zfg (g h:Heap) (L:Addr):List (Addr×Obj):=(Wf h.objs.size).filterMap fun a=>if a=L∨(g.get? a).isSome=true then none else (h.get? a).map fun o=>(a,o)
def rest (g h:Heap) (L d:Addr):List (Addr×Obj):=(zfg g h L).filter fun p=>decide (p.1≠d)
structure Mod (K:W1) (mg:Str→Option Value) (base:Heap):Prop where
 kin:K.In base
 glob:base.Ns Wz mg
 blt:∃ mb,base.Ns builtinsNs mb∧∀ x:Str,x≠"__name__"→mb x=Qz x
 nolimit:base.NoLimit
structure Cx where
 prog:Wl
 w:Wq
 K:W1
 mg:Str→Option Value
 base:Heap
 A:Wr
 N:List Str
 s₀:W2
 H₀:Hp
 env:Env
 outer:List Env
 stack:List Env
 ex:List Addr
 fn:Str→Bool
 calm:Bool
 pn:List (Addr×Obj)
 xe:Value→W2→Prop
def frs (l:List Env):List Addr:=l.filterMap (·.frame)
abbrev Cx.fs (X:Cx):List Addr:=frs X.outer
def Vis (sc:Scope) (x:Str):Prop:=sc.names.lookup x=some .local∨sc.names.lookup x=some .cell∨sc.names.lookup x=some .free
def Loc (sc:Scope) (x:Str):Prop:=sc.names.lookup x=some .local∨sc.names.lookup x=some .cell
def Look (env:Env) (h:Heap) (m:Str→Option Value) (x:Str) (u:Value):Prop :=
 (env.kindOf x=some .local∧m x=some u)∨((env.kindOf x=some .cell∨env.kindOf x=some .free)∧∃ c,env.cells.lookup x=some c∧h.IsCell c (some u))
structure Cx.Ok (X:Cx):Prop where
 mod:Mod X.K X.mg X.base
 kind:X.env.scope.kind = .function
 glob:X.env.globals=Wz
 blt:X.env.builtins=builtinsNs
 above:X.s₀.heap.objs.size≤X.env.locals
 inj:∀ x y c,X.env.cells.lookup x=some c→X.env.cells.lookup y=some c→x=y
 has:∀ x,(X.env.kindOf x=some .cell∨X.env.kindOf x=some .free)→∃ c,X.env.cells.lookup x=some c
 cab:∀ x c,X.fn x=true→X.env.cells.lookup x=some c→X.s₀.heap.objs.size≤c
 hd:X.calm=true→X.A.handled=none
 frames:X.A.frames=some X.stack
 stk:X.stack=X.outer∨(X.stack=X.env :: X.outer∧X.env.frame=some X.env.locals)
 exf:∀ b ∈ X.ex,b≠X.env.locals∧∀ x c,X.env.cells.lookup x=some c→c≠b
 bs:∀ b o,X.base.get? b=some o→X.s₀.heap.get? b=some o∧X.H₀ b=none
 bsz:X.base.objs.size≤X.s₀.heap.objs.size
 noex:∀ b o,X.base.get? b=some o→b ∉ X.ex
 exfs:∀ b ∈ X.ex,b ∉ X.fs
 funs:X.s₀.heap.FunFrames X.base X.outer
 frf:∀ b ∈ X.fs,X.H₀ b=none
structure Inv (X:Cx) (pins:List (Addr×Obj)) (σ:List (Option V)) (H:Hp) (s:W2):Prop where
 ok:X.Ok
 os:s.os=X.s₀.os
 bare:AllBare s.gens
 base:Un X.fs X.ex X.H₀ H X.s₀.heap s.heap
 loc:∃ m,s.heap.Ns X.env.locals m∧∀ (i:Nat) (x:Str) (v:V),X.N[i]? = some x→σ[i]? = some (some v)→Vis X.env.scope x→∃ u,RelV v u∧Look X.env s.heap m x u
 cell:∀ x c,X.env.cells.lookup x=some c→∃ v,s.heap.IsCell c v
 free:H X.env.locals=none
 freeC:∀ x c,X.env.cells.lookup x=some c→H c=none
 pin:∀ p ∈ X.pn ++ pins,s.heap.get? p.1=some p.2∧H p.1=none∧p.1≠X.env.locals∧p.1 ∉ X.fs∧∀ v,p.2.data≠.cell v
 hok:HOk X.prog X.w H s.heap
 len:σ.length=X.N.length
section
variable {X:Cx} {pins:List (Addr×Obj)} {σ:List (Option V)} {H H':Hp} {s:W2} {h':Heap}
theorem Cx.Ok.nofr (ok:X.Ok) (e:X.base.get? b=some o):b ∉ X.fs:=fun hb=>by
 have:=(ok.funs.mem hb).1
 rw [e] at this; cases this
theorem Inv.bs (I:Inv X pins σ H s):∀ b o,X.base.get? b=some o→s.heap.get? b=some o∧H b=none:=fun b o e =>
 ⟨I.base.keep b o (I.ok.bs b o e).1 (I.ok.bs b o e).2 (I.ok.nofr e) (I.ok.noex b o e),I.base.free b o (I.ok.bs b o e).1 (I.ok.bs b o e).2 (I.ok.noex b o e)⟩
theorem Inv.bk (I:Inv X pins σ H s):∀ b o,X.base.get? b=some o→s.heap.get? b=some o:=fun b o e=>(I.bs b o e).1
theorem Inv.mod (I:Inv X pins σ H s):Mod X.K X.mg X.base:=I.ok.mod
theorem Inv.kIn (I:Inv X pins σ H s):X.K.In s.heap:=I.ok.mod.kin.keeps I.bk
theorem Inv.fr (I:Inv X pins σ H s):∃ m,Fr X.base X.env.locals s.heap m :=
 let ⟨m,hn,_⟩:=I.loc
 ⟨m,hn,I.bk,WV I.ok.bsz I.ok.above⟩
theorem Inv.lt (I:Inv X pins σ H s):X.env.locals < s.heap.objs.size:=let ⟨_,hn,_⟩:=I.loc; hn.lt
theorem Inv.sz (I:Inv X pins σ H s):X.s₀.heap.objs.size≤s.heap.objs.size:=WV I.ok.above (Jf I.lt)
theorem Inv.nofs (I:Inv X pins σ H s) (h:s.heap.objs.size≤a):a ∉ X.fs:=fun hb=>by
 obtain ⟨_,o,ho,_⟩:=I.ok.funs.mem hb
 exact absurd (Ww (Wg ho) (WV I.sz h)) (Qr _)
theorem Inv.cne (I:Inv X pins σ H s):∀ x c,X.env.cells.lookup x=some c→c≠X.env.locals:=fun x c e z=>by
 obtain ⟨v,o,ho,hd⟩:=I.cell x c e
 obtain ⟨m,⟨o',es,ep,ho',hd',_⟩,_⟩:=I.loc
 rw [z,ho'] at ho; cases ho; rw [hd'] at hd; cases hd
theorem Inv.funs (I:Inv X pins σ H s):s.heap.FunFrames X.base X.outer:=by
 have all:∀ (l:List Env),(∀ b ∈ frs l,b ∈ X.fs)→X.s₀.heap.FunFrames X.base l→s.heap.FunFrames X.base l:=by
  intro l
  induction l with
  | nil=>intro _ _; trivial
  | cons env r ih =>
   intro hs hl
   obtain ⟨hk,⟨L,o,hf,hn,ho,hd⟩,hr⟩:=hl
   have hL:L ∈ X.fs:=hs L (by unfold frs; rw [Qy,hf]; exact Wm)
   obtain ⟨sl,e⟩:=I.base.slot L o ho (I.ok.frf L hL) hL fun z=>I.ok.exfs L z hL
   exact ⟨hk,⟨L,_,hf,hn,e,hd⟩,ih (fun b hb=>hs b (by unfold frs; rw [Qy,hf]; exact Wi _ hb)) hr⟩
 exact all X.outer (fun _ hb=>hb) I.ok.funs
theorem Inv.stack (I:Inv X pins σ H s):s.heap.FunFrames X.base X.stack:=by
 rcases I.ok.stk with e | ⟨e,hf⟩
 ·rw [e]; exact I.funs
 ·rw [e]
  obtain ⟨m,hn,_⟩:=I.loc
  refine .cons (by rw [I.ok.kind]; decide) hf hn ?_ I.funs
  exact Heap.get?_none_of_le (WV I.ok.bsz I.ok.above)
theorem Inv.stkSub (I:Inv X pins σ H s):∀ b ∈ frs X.stack,b ∈ X.env.locals :: X.fs:=fun b hb=>by
 rcases I.ok.stk with e | ⟨e,hf⟩
 ·rw [e] at hb; exact Wi _ hb
 ·rw [e] at hb
  unfold frs at hb
  rw [Qy,hf] at hb
  exact hb
theorem Inv.stkFree (I:Inv X pins σ H s):∀ b ∈ frs X.stack,H b=none:=fun b hb=>by
 rcases Wn.mp (I.stkSub b hb) with e | hb
 ·rw [e]; exact I.free
 ·obtain ⟨_,o,ho,_⟩:=I.ok.funs.mem hb
  exact I.base.free b o ho (I.ok.frf b hb) fun z=>I.ok.exfs b z hb
theorem Inv.step {g':Array GenState} {t':Nat} {d':Drawn} {ch:List Addr} (I:Inv X pins σ H s)
  (hch:∀ b ∈ ch,(b ∈ X.ex∨X.s₀.heap.objs.size≤b)∧b≠X.env.locals∧(∀ x c,X.env.cells.lookup x=some c→c≠b)∧∀ p ∈ X.pn ++ pins,p.1≠b)
  (keep:∀ b o,b≠X.env.locals→b ∉ X.fs→b ∉ ch→s.heap.get? b=some o→H b=none→h'.get? b=some o)
  (slot:∀ b o,b≠X.env.locals→b ∈ X.fs→b ∉ ch→s.heap.get? b=some o→H b=none→∃ sl,h'.get? b=some { o with slots:=sl }) (free:∀ b o,b ∉ ch→s.heap.get? b=some o→H b=none→H' b=none)
  (there:∀ b o,b ∉ ch→s.heap.get? b=some o→∃ o',h'.get? b=some o')
  (tups:∀ b xs,H b=some (.tup xs)→H' b=some (.tup xs)) (frzs:∀ b o u,H b=some (.frz o u)→H' b=some (.frz o u)) (tbls:∀ b ps,H b=some (.tbl ps)→∃ more,H' b=some (.tbl (ps ++ more)))
  (ns:∀ m,s.heap.Ns X.env.locals m→h'.Ns X.env.locals m) (hok:HOk X.prog X.w H' h') (hg:AllBare g') :
  Inv X pins σ H' { s with heap:=h',gens:=g',drawn:=d',toks:=t' }:=by
 have neL:∀ b o,X.s₀.heap.get? b=some o→b≠X.env.locals:=fun b o e=>Wt (Ww (Wg e) I.ok.above)
 have neC:∀ b o,X.s₀.heap.get? b=some o→b ∉ X.ex→b ∉ ch:=fun b o e hx hb=>by
  rcases (hch b hb).1 with z | z
  ·exact hx z
  ·exact absurd (Ww (Wg e) z) (Qr _)
 have cellK:∀ x c,X.env.cells.lookup x=some c→∀ v,s.heap.IsCell c v→h'.IsCell c v:=fun x c e v ⟨o,ho,hd⟩=>by
  have nch:c ∉ ch:=fun z=>(hch c z).2.2.1 x c e rfl
  by_cases hc:c ∈ X.fs
  ·obtain ⟨sl,q⟩:=slot c o (I.cne x c e) hc nch ho (I.freeC x c e)
   exact ⟨_,q,hd⟩
  ·exact ⟨o,keep c o (I.cne x c e) hc nch ho (I.freeC x c e),hd⟩
 refine ⟨I.ok,I.os,hg,⟨fun b o e n hb hx=>?_,fun b o e n hb hx=>?_,fun b o e n hx=>?_,fun b o e hx=>?_,fun b xs e=>tups b xs (I.base.tups b xs e),fun b o xs e=>frzs b o xs (I.base.frzs b o xs e),fun b ps e=>?_⟩,?_,fun x c e=>?_,?_,fun x c e=>?_,fun p hp=>?_,hok,I.len⟩
 ·exact keep b o (neL b o e) hb (neC b o e hx) (I.base.keep b o e n hb hx) (I.base.free b o e n hx)
 ·obtain ⟨sl,e1⟩:=I.base.slot b o e n hb hx
  obtain ⟨sl',e2⟩:=slot b _ (neL b o e) hb (neC b o e hx) e1 (I.base.free b o e n hx)
  exact ⟨sl',e2⟩
 ·obtain ⟨o',e1⟩:=I.base.there b o e hx
  exact free b o' (neC b o e hx) e1 (I.base.free b o e n hx)
 ·obtain ⟨o',e1⟩:=I.base.there b o e hx
  exact there b o' (neC b o e hx) e1
 ·obtain ⟨m1,e1⟩:=I.base.tbls b ps e
  obtain ⟨m2,e2⟩:=tbls b _ e1
  exact ⟨m1 ++ m2,by rw [e2,Array.append_assoc]⟩
 ·obtain ⟨m,hn,hl⟩:=I.loc
  refine ⟨m,ns m hn,fun i x v e1 e2 e3=>?_⟩
  obtain ⟨u,r,l⟩:=hl i x v e1 e2 e3
  refine ⟨u,r,?_⟩
  rcases l with l | ⟨k,c,e,z⟩
  ·exact .inl l
  ·exact .inr ⟨k,c,e,cellK x c e _ z⟩
 ·obtain ⟨v,z⟩:=I.cell x c e
  exact ⟨v,cellK x c e v z⟩
 ·obtain ⟨m,⟨o,_,_,ho,_⟩,_⟩:=I.loc
  exact free _ o (fun z=>(hch _ z).2.1 rfl) ho I.free
 ·obtain ⟨v,o,ho,hd⟩:=I.cell x c e
  exact free c o (fun z=>(hch c z).2.2.1 x c e rfl) ho (I.freeC x c e)
 ·obtain ⟨e,n,ne,nf,d⟩:=I.pin p hp
  have nch:p.1 ∉ ch:=fun z=>(hch p.1 z).2.2.2 p hp rfl
  exact ⟨keep p.1 p.2 ne nf nch e n,free p.1 p.2 nch e n,ne,nf,d⟩
theorem Inv.un {t':Nat} (I:Inv X pins σ H s) (u:Un X.fs [] H H' s.heap h') (hok:HOk X.prog X.w H' h'):Inv X pins σ H' { s with heap:=h',toks:=t' }:=by
 obtain ⟨m,⟨o,es,ep,ho,r⟩,_⟩:=id I.loc
 obtain ⟨sl,hL⟩:=u.any ho I.free (by simp)
 exact I.step (g':=s.gens) (d':=s.drawn) (ch:=[]) (fun _ z=>nomatch z) (fun b o _ hb _ e n=>u.keep b o e n hb (by simp)) (fun b o _ hb _ e n=>u.slot b o e n hb (by simp)) (fun b o _ e n=>u.free b o e n (by simp)) (fun b o _ e=>u.there b o e (by simp)) u.tups u.frzs u.tbls (fun m' hm=>by
  obtain ⟨o',es',ep',ho',r'⟩:=hm
  rw [ho] at ho'; cases ho'
  exact ⟨_,es',ep',hL,r'⟩) hok I.bare
theorem Inv.call {g':Array GenState} {t':Nat} {d':Drawn} {ch:List Addr} (I:Inv X pins σ H s) (u:Un (frs X.stack) ch H H' s.heap h') (hok:HOk X.prog X.w H' h') (hg:AllBare g')
  (hch:∀ b ∈ ch,(b ∈ X.ex∨X.s₀.heap.objs.size≤b)∧b≠X.env.locals∧(∀ x c,X.env.cells.lookup x=some c→c≠b)∧∀ p ∈ X.pn ++ pins,p.1≠b) :
  Inv X pins σ H' { s with heap:=h',gens:=g',drawn:=d',toks:=t' }:=by
 obtain ⟨m,⟨o,es,ep,ho,r⟩,_⟩:=id I.loc
 obtain ⟨sl,hL⟩:=u.any ho I.free fun z=>(hch _ z).2.1 rfl
 exact I.step (ch:=ch) hch (fun b o hL hb hc e n=>u.keep b o e n (fun z=>(Wn.mp (I.stkSub b z)).elim hL hb) hc) (fun b o _ _ hc e n=>u.any e n hc) (fun b o hc e n=>u.free b o e n hc) (fun b o hc e=>u.there b o e hc) u.tups u.frzs u.tbls (fun m' hm=>by
  obtain ⟨o',es',ep',ho',r'⟩:=hm
  rw [ho] at ho'; cases ho'
  exact ⟨_,es',ep',hL,r'⟩) hok hg
theorem Inv.turned {t':Nat} {it:Addr} (I:Inv X pins σ H s) (k:∀ b o,b≠it→s.heap.get? b=some o→h'.get? b=some o) (hn:H it=none) (hL:it≠X.env.locals)
  (h1:it ∈ X.ex∨X.s₀.heap.objs.size≤it) (h2:∀ x c,X.env.cells.lookup x=some c→c≠it) (h3:∀ p ∈ X.pn ++ pins,p.1≠it):Inv X pins σ H { s with heap:=h',toks:=t' }:=by
 have nit:∀ b u,H b=some u→b≠it:=fun b u e z=>by rw [z,hn] at e; cases e
 refine I.step (g':=s.gens) (d':=s.drawn) (ch:=[it]) (fun b hb=>?_) (fun b o _ _ hc e _=>k b o (fun z=>hc (by simp [z])) e) (fun b o _ _ hc e _=>⟨o.slots,k b o (fun z=>hc (by simp [z])) e⟩) (fun _ _ _ _ n=>n)
  (fun b o hc e=>⟨o,k b o (fun z=>hc (by simp [z])) e⟩) (fun _ _ e=>e) (fun _ _ _ e=>e) (fun b ps e=>⟨#[],by rw [e]; simp⟩) (fun m hm=>?_) (fun b u e=>?_) I.bare
 ·have e:b=it:=by simpa using hb
  subst e
  exact ⟨h1,hL,h2,h3⟩
 ·obtain ⟨o,es,ep,ho,r⟩:=hm
  exact ⟨o,es,ep,k _ o (Ne.symm hL) ho,r⟩
 ·refine (I.hok b u e).stay (fun c v hc q=>k c v ?_ q) (fun _ q=>q) fun _ _ q=>q
  rcases hc with z | z
  ·rw [z]; exact nit b u e
  ·exact nit c _ z
theorem Inv.tok (I:Inv X pins σ H s) (t:Nat):Inv X pins σ H { s with toks:=t }:=I.un (h':=s.heap) (t':=t) Un.refl I.hok
theorem Inv.kept (I:Inv X pins σ H s) (k:∀ b u,s.heap.get? b=some u→h'.get? b=some u):Inv X pins σ H { s with heap:=h',toks:=t' }:=I.un (Un.kept k) (I.hok.kept k)
theorem Inv.laid (I:Inv X pins σ H s) (k:∀ b u,s.heap.get? b=some u→h'.get? b=some u) (hp:s.heap.objs.size≤a) (new:ObjOk X.prog X.w (upd H a o) h' a o) :
  Inv X pins σ (upd H a o) { s with heap:=h',toks:=t' }:=I.un (Un.laid k hp (I.hok.fresh hp)) (I.hok.laid k hp new)
theorem Inv.write (I:Inv X pins σ H s) (mu:Mut (H x)) (he:e=x∨H e=some (.own x)) (k:∀ b u,b≠e→s.heap.get? b=some u→h'.get? b=some u) (heo:∃ u,h'.get? e=some u)
  (new:ObjOk X.prog X.w (upd H x o) h' x o):Inv X pins σ (upd H x o) { s with heap:=h',toks:=t' }:=I.un (Un.write mu he k heo) (I.hok.write mu he k heo new)
theorem Inv.weak (I:Inv X pins σ H s) (hl:σ'.length=σ.length) (w:∀ (i:Nat) v,σ'[i]? = some (some v)→σ[i]? = some (some v)):Inv X pins σ' H s :=
 ⟨I.ok,I.os,I.bare,I.base,let ⟨m,hn,hl'⟩:=I.loc; ⟨m,hn,fun i x v e1 e2 e3=>hl' i x v e1 (w i v e2) e3⟩,I.cell,I.free,I.freeC,I.pin,I.hok,hl.trans I.len⟩
theorem Inv.pins_of (I:Inv X pins σ H s) (h:∀ p ∈ pins',s.heap.get? p.1=some p.2∧H p.1=none∧p.1≠X.env.locals∧p.1 ∉ X.fs∧∀ v,p.2.data≠.cell v):Inv X pins' σ H s :=
 ⟨I.ok,I.os,I.bare,I.base,I.loc,I.cell,I.free,I.freeC,fun p hp=>(J5.mp hp).elim (fun z=>I.pin p (List.mem_append_left _ z)) (h p),I.hok,I.len⟩
theorem z9F {N:List Str} (hN:N.Nodup) {i j:Nat} {x:Str} (a:N[i]? = some x) (b:N[j]? = some x):i=j:=by
 obtain ⟨h1,e1⟩:=Wc.mp a
 obtain ⟨h2,e2⟩:=Wc.mp b
 exact (List.getElem_inj hN).mp (e1.trans e2.symm)
theorem zaE {M:Model} {A:Wr} {E:Value→W2→Prop} {i:Nat} {x:Str} {v:V} {u:Value} {Q:Unit→W2→Prop} (I:Inv X pins σ H s) (hN:X.N.Nodup) (hi:X.N[i]? = some x) (hx:Loc X.env.scope x) (r:RelV v u)
  (h:∀ s',Inv X pins (σ.set i (some v)) H s'→(∃ a,Qk a s.heap s'.heap∧(a=X.env.locals∨X.env.cells.lookup x=some a))→Q () s') (hf:X.fn x=true∨X.env.scope.names.lookup x=some .local:=by first | exact .inl rfl | exact .inr rfl | assumption):W5 M A (storeName X.env x u) Q E s:=by
 obtain ⟨m,hn,hl⟩:=id I.loc
 have hcls:(X.env.scope.kind == .class || (X.env.scope.kind == .module && X.env.locals != X.env.globals))=false:=by rw [I.ok.kind]; rfl
 have hiσ:i < σ.length:=by rw [I.len]; exact (Wc.mp hi).1
 have cne:=I.cne
 have tracked:∀ {a:Addr} {h':Heap},(∃ o,s.heap.get? a=some o∧H a=none)→Qk a s.heap h'→HOk X.prog X.w H h':=fun {a h'} ha hs b ob e=>by
  obtain ⟨_,_,hfree⟩:=ha
  refine (I.hok b ob e).stay (fun c w' hc q=>(hs.2 c ?_).trans q) (fun _ q=>q) fun _ _ q=>q
  rintro rfl
  rcases hc with rfl | hc
  ·rw [hfree] at e; cases e
  ·rw [hfree] at hc; cases hc
 rcases hx with hk | hk
 ·refine wpAny_storeName_local hk hn (fun h' hn' hs=>?_) hcls
  obtain ⟨oL,_,_,hoL,_⟩:=id hn
  refine h _ ⟨I.ok,I.os,I.bare,⟨fun b o e n hb hx=>?_,fun b o e n hb hx=>?_,I.base.free,fun b o e hx=>?_,I.base.tups,I.base.frzs,I.base.tbls⟩,⟨_,hn',fun j y v' e1 e2 e3=>?_⟩,fun y c e=>?_,I.free,I.freeC,fun p hp=>?_,tracked ⟨oL,hoL,I.free⟩ hs,by simpa using I.len⟩ ⟨_,hs,.inl rfl⟩
  ·exact (hs.2 b (Wt (Ww (Wg e) I.ok.above))).trans (I.base.keep b o e n hb hx)
  ·obtain ⟨sl,e1⟩:=I.base.slot b o e n hb hx
   exact ⟨sl,(hs.2 b (Wt (Ww (Wg e) I.ok.above))).trans e1⟩
  ·obtain ⟨o',e1⟩:=I.base.there b o e hx
   exact ⟨o',(hs.2 b (Wt (Ww (Wg e) I.ok.above))).trans e1⟩
  ·by_cases hj:j=i
   ·subst hj
    rw [hi] at e1; cases e1
    rw [Wv hiσ] at e2
    cases e2
    exact ⟨u,r,.inl ⟨hk,by simp⟩⟩
   ·rw [W9 (Ne.symm hj)] at e2
    obtain ⟨u',r',q⟩:=hl j y v' e1 e2 e3
    refine ⟨u',r',?_⟩
    rcases q with ⟨k,e⟩ | ⟨k,c,e,z⟩
    ·refine .inl ⟨k,?_⟩
     have:y≠x:=fun e=>hj (z9F hN e1 (e ▸ hi))
     simp [this,e]
    ·exact .inr ⟨k,c,e,z.sameBut hs (cne y c e)⟩
  ·obtain ⟨w',z⟩:=I.cell y c e
   exact ⟨w',z.sameBut hs (cne y c e)⟩
  ·obtain ⟨e,n,ne,nf,d⟩:=I.pin p hp
   exact ⟨(hs.2 p.1 ne).trans e,n,ne,nf,d⟩
 ·have hfn:X.fn x=true:=by
   rcases hf with z | z
   ·exact z
   ·rw [z] at hk; cases hk
  obtain ⟨c,hc⟩:=I.ok.has x (.inl hk)
  obtain ⟨w',z⟩:=I.cell x c hc
  refine wpAny_storeName_cell I.ok.kind hk hc z (fun h' hc' hs=>?_)
  obtain ⟨oc,hoc,hocd⟩:=id z
  refine h { s with heap:=h' } ⟨I.ok,I.os,I.bare,⟨fun b o e n hb hx=>?_,fun b o e n hb hx=>?_,I.base.free,fun b o e hx=>?_,I.base.tups,I.base.frzs,I.base.tbls⟩,⟨m,hn.sameBut hs (Ne.symm (cne x c hc)),fun j y v' e1 e2 e3=>?_⟩,fun y c' e=>?_,I.free,I.freeC,fun p hp=>?_,tracked ⟨oc,hoc,I.freeC x c hc⟩ hs,by simpa using I.len⟩ ⟨c,hs,.inr hc⟩
  ·exact (hs.2 b (Wt (Ww (Wg e) (I.ok.cab x c hfn hc)))).trans (I.base.keep b o e n hb hx)
  ·obtain ⟨sl,e1⟩:=I.base.slot b o e n hb hx
   exact ⟨sl,(hs.2 b (Wt (Ww (Wg e) (I.ok.cab x c hfn hc)))).trans e1⟩
  ·obtain ⟨o',e1⟩:=I.base.there b o e hx
   exact ⟨o',(hs.2 b (Wt (Ww (Wg e) (I.ok.cab x c hfn hc)))).trans e1⟩
  ·by_cases hj:j=i
   ·subst hj
    rw [hi] at e1; cases e1
    rw [Wv hiσ] at e2
    cases e2
    exact ⟨u,r,.inr ⟨.inl hk,c,hc,hc'⟩⟩
   ·rw [W9 (Ne.symm hj)] at e2
    obtain ⟨u',r',q⟩:=hl j y v' e1 e2 e3
    refine ⟨u',r',?_⟩
    rcases q with q | ⟨k,c',e,z'⟩
    ·exact .inl q
    ·refine .inr ⟨k,c',e,z'.sameBut hs ?_⟩
     rintro rfl
     exact hj (z9F hN e1 (I.ok.inj _ _ _ e hc ▸ hi))
  ·by_cases hcc:c'=c
   ·subst hcc; exact ⟨_,hc'⟩
   ·obtain ⟨w2,z2⟩:=I.cell y c' e
    exact ⟨w2,z2.sameBut hs hcc⟩
  ·obtain ⟨e,n,ne,nf,d⟩:=I.pin p hp
   refine ⟨(hs.2 p.1 ?_).trans e,n,ne,nf,d⟩
   intro q
   rw [q,hoc] at e
   have q':oc=p.2:=Wy e
   exact d w' (by rw [← q']; exact hocd)
theorem z9o (I:Inv X pins σ H s) (hN:X.N.Nodup) (hi:X.N[i]? = some x) (hx:Loc X.env.scope x) (r:RelV v u)
  (h:∀ s',Inv X pins (σ.set i (some v)) H s'→Q () s') (hf:X.fn x=true∨X.env.scope.names.lookup x=some .local:=by first | exact .inl rfl | exact .inr rfl | assumption):W5 M A (storeName X.env x u) Q E s :=
 zaE I hN hi hx r (fun s' I' _=>h s' I') hf
theorem Inv.call' (I:Inv X pins σ H s) (ho:s'.os=s.os) (u:Un (frs X.stack) ch H H' s.heap s'.heap) (hok:HOk X.prog X.w H' s'.heap) (hg:AllBare s'.gens)
  (hch:∀ b ∈ ch,(b ∈ X.ex∨X.s₀.heap.objs.size≤b)∧b≠X.env.locals∧(∀ x c,X.env.cells.lookup x=some c→c≠b)∧∀ p ∈ X.pn ++ pins,p.1≠b):Inv X pins σ H' s':=by
 obtain ⟨h',g',d',t',o'⟩:=s'
 have e:o'=s.os:=ho
 subst e
 exact I.call (g':=g') (t':=t') (d':=d') u hok hg hch
end
abbrev XK:=Value→Option Addr→Hp→Prop
abbrev St:=List (Option V)
abbrev VK:=V→Hp→Prop
abbrev TE:=St→Hp→VK→Prop
abbrev TT:=St→Hp→(Bool→Hp→Prop)→Prop
abbrev TA:=St→Hp→(List V→Hp→Prop)→Prop
structure Ends where
 nx:St→Hp→Prop
 rt:VK
 bk:St→Hp→Prop:=fun _ _=>False
 ct:St→Hp→Prop:=fun _ _=>False
abbrev TS:=Ends→St→Hp→Prop
def EP (X:Cx) (pins:List (Addr×Obj)) (σ:St) (Q:VK) (u:Value) (s':W2):Prop:=∃ v H',Inv X pins σ H' s'∧RelV v u∧Q v H'
def TP (X:Cx) (pins:List (Addr×Obj)) (σ:St) (Q:Bool→Hp→Prop) (b:Bool) (s':W2):Prop:=∃ H',Inv X pins σ H' s'∧Q b H'
def AP (X:Cx) (pins:List (Addr×Obj)) (σ:St) (Q:List V→Hp→Prop) (us:List Value) (s':W2):Prop:=∃ vs H',Inv X pins σ H' s'∧Vals vs us∧Q vs H'
def SP (X:Cx) (pins:List (Addr×Obj)) (D:Ends) (f:Flow) (s':W2):Prop :=
 match f with
 | .next=>∃ σ' H',Inv X pins σ' H' s'∧D.nx σ' H'
 | .brk=>∃ σ' H',Inv X pins σ' H' s'∧D.bk σ' H'
 | .cont=>∃ σ' H',Inv X pins σ' H' s'∧D.ct σ' H'
 | .ret u=>∃ v σ' H',Inv X pins σ' H' s'∧RelV v u∧D.rt v H'
def PE (X:Cx) (e:Expr) (t:TE):Prop :=
 ∀ (pins:List (Addr×Obj)) (s:W2) (σ:St) (H:Hp) (Q:VK),Inv X pins σ H s→t σ H Q→W5 (model X.prog X.w) X.A (eval e X.env) (EP X pins σ Q) X.xe s
def PT (X:Cx) (e:Expr) (t:TT):Prop :=
 ∀ (pins:List (Addr×Obj)) (s:W2) (σ:St) (H:Hp) (Q:Bool→Hp→Prop),Inv X pins σ H s→t σ H Q→W5 (model X.prog X.w) X.A (isTrue e X.env (eval e X.env)) (TP X pins σ Q) X.xe s
def PW (X:Cx) (e:Expr) (t:TT):Prop :=
 ∀ (whole:Sem Value) (pins:List (Addr×Obj)) (s:W2) (σ:St) (H:Hp) (Q:Bool→Hp→Prop),Inv X pins σ H s→t σ H Q→W5 (model X.prog X.w) X.A (isTrue e X.env whole) (TP X pins σ Q) X.xe s
theorem PW.pt (h:PW X e t):PT X e t:=h _
def PA (X:Cx) (es:List Expr) (t:TA):Prop :=
 ∀ (pos:Pos) (pins:List (Addr×Obj)) (s:W2) (σ:St) (H:Hp) (Q:List V→Hp→Prop),Inv X pins σ H s→t σ H Q→W5 (model X.prog X.w) X.A (spliced (QL pos (We es X.env))) (AP X pins σ Q) X.xe s
def PS (X:Cx) (st:Stmt) (t:TS):Prop :=
 ∀ (pins:List (Addr×Obj)) (s:W2) (σ:St) (H:Hp) (D:Ends),Inv X pins σ H s→t D σ H→W5 (model X.prog X.w) X.A (exec st X.env) (SP X pins D) X.xe s
def PSs (X:Cx) (st:List Stmt) (t:TS):Prop :=
 ∀ (pins:List (Addr×Obj)) (s:W2) (σ:St) (H:Hp) (D:Ends),Inv X pins σ H s→t D σ H→W5 (model X.prog X.w) X.A (execs st X.env) (SP X pins D) X.xe s
theorem thn (h:W5 M A t Q E s) (hQ:∀ a s,Q a s→Q' a s):W5 M A t Q' E s:=Ql h hQ fun _ _ x=>x
section
variable {X:Cx}
theorem bin {a b:Expr} {ta tb:TE} (ha:PE X a ta) (hb:PE X b tb) {pins:List (Addr×Obj)} {s:W2} {σ:St} {H:Hp} {R:V→V→Hp→Prop} (I:Inv X pins σ H s) (h:ta σ H fun x H1=>tb σ H1 fun y H2=>R x y H2)
  {α:Type} {Q:α→W2→Prop} {f:Value→Value→Sem α}
  (hf:∀ v u s2 x y H2,Inv X pins σ H2 s2→RelV x v→RelV y u→R x y H2→W5 (model X.prog X.w) X.A (f v u) Q X.xe s2) :
  W5 (model X.prog X.w) X.A (eval a X.env) (fun v s₁=>W5 (model X.prog X.w) X.A (eval b X.env) (fun u s₂=>W5 (model X.prog X.w) X.A (f v u) Q X.xe s₂) X.xe s₁) X.xe s:=by
 refine thn (ha pins s σ H _ I h) fun v s1 ⟨x,H1,I1,r1,q1⟩=>?_
 refine thn (hb pins s1 σ H1 _ I1 q1) fun u s2 ⟨y,H2,I2,r2,q2⟩=>?_
 exact hf v u s2 x y H2 I2 r1 r2 q2
def tVar (i:Nat):TE:=fun σ H Q=>∃ v,σ[i]? = some (some v)∧Q v H
def tC (v:V):TE:=fun _ H Q=>Q v H
theorem zg8 (hN:X.N[i]? = some x) (hv:Vis X.env.scope x) (hd:(x == ("__debug__" : Str))=false:=by decide) (hcd:(x == ("__classdict__" : Str))=false:=by decide):PE X (.Name x pos) (tVar i):=by
 intro pins s σ H Q I h
 obtain ⟨v,e,h⟩:=h
 obtain ⟨m,hn,hl⟩:=I.loc
 obtain ⟨u,r,l⟩:=hl i x v hN e hv
 have fin:EP X pins σ Q u s:=⟨v,H,I,r,h⟩
 rcases l with ⟨hk,hm⟩ | ⟨hk,c,hc,hcell⟩
 ·exact wpAny_Name (wpAny_loadName_local I.ok.kind hk hn hm fin) hd
 ·rcases hk with hk | hk
  ·exact wpAny_Name (wpAny_loadName_cell I.ok.kind hk hc hcell fin) hd
  ·exact wpAny_Name (wpAny_loadName_free I.ok.kind hk hc hcell fin hcd) hd
theorem zdL {i j pos}:PE X (.Constant (.int i) j pos) (tC (.int i)):=fun _ _ _ H _ I h=>wpAny_Constant_int ⟨.int i,H,I.tok _,⟨_,rfl⟩,h⟩
theorem pe_bl {b j pos}:PE X (.Constant (.bool b) j pos) (tC (.bl b)):=fun _ _ _ H _ I h=>Constant_bool ⟨.bl b,H,I,rfl,h⟩
theorem zgd {j pos}:PE X (.Constant .none j pos) (tC .non):=fun _ _ _ H _ I h=>Constant_none ⟨.non,H,I,rfl,h⟩
theorem zdK {x j pos}:PE X (.Constant (.str x) j pos) (tC (.str x)):=fun _ _ _ H _ I h=>Calls.Constant_str ⟨.str x,H,I.tok _,⟨_,rfl⟩,h⟩
def Gl (X:Cx) (x:Str):Prop:=X.env.kindOf x=some .globalImplicit
theorem zbz (I:Inv X pins σ H s) (hg:Gl X x) (hm:X.mg x=some u) (h:Q u s)
  (hd:(x == ("__debug__" : Str))=false:=by decide):W5 (model X.prog X.w) X.A (eval (.Name x pos) X.env) Q E s :=
 Calls.Name_function_global I.ok.kind hg (Calls.loadGlobal_global (by rw [I.ok.glob]; exact I.mod.glob.keeps I.bk) hm h) hd
theorem z8v (I:Inv X pins σ H s) (hg:Gl X x) (hm:X.mg x=none) (hv:Qz x=some u) (h:Q u s)
  (hn:x≠"__name__":=by decide) (hd:(x == ("__debug__" : Str))=false:=by decide):W5 (model X.prog X.w) X.A (eval (.Name x pos) X.env) Q E s:=by
 obtain ⟨mb,h1,h2⟩:=I.mod.blt
 exact Calls.Name_function_global I.ok.kind hg (Calls.loadGlobal_builtin (by rw [I.ok.glob]; exact I.mod.glob.keeps I.bk) hm (by rw [I.ok.blt]; exact h1.keeps I.bk) ((h2 x hn).trans hv) h) hd
theorem zey (hg:Gl X x) (hm:X.mg x=some u) (r:RelV v u) (hd:(x == ("__debug__" : Str))=false:=by decide):PE X (.Name x pos) (tC v) :=
 fun _ _ _ H _ I h=>zbz I hg hm ⟨v,H,I,r,h⟩ hd
theorem zeB (hg:Gl X x) (hm:X.mg x=none) (hv:Qz x=some u) (r:RelV v u) (hn:x≠"__name__":=by decide) (hd:(x == ("__debug__" : Str))=false:=by decide):PE X (.Name x pos) (tC v) :=
 fun _ _ _ H _ I h=>z8v I hg hm hv ⟨v,H,I,r,h⟩ hn hd
variable {a b:Expr} {ta tb:TE} {pos:Pos}
def PC (X:Cx) (op:CmpOp) (a b:Expr) (t:TE):Prop :=
 ∀ (pins:List (Addr×Obj)) (s:W2) (σ:St) (H:Hp) (Q:VK),Inv X pins σ H s→t σ H Q →
  W5 (model X.prog X.w) X.A (eval a X.env) (fun v s₁=>W5 (model X.prog X.w) X.A (eval b X.env) (fun u s₂=>W5 (model X.prog X.w) X.A (Wu op v u) (EP X pins σ Q) X.xe s₂) X.xe s₁) X.xe s
theorem zd5 (b:Expr) (h:op≠.In) (h2:op≠.NotIn):Qs op b=false:=by
 have e1:(op == CmpOp.In)=false:=by cases op <;> first | rfl | exact absurd rfl h
 have e2:(op == CmpOp.NotIn)=false:=by cases op <;> first | rfl | exact absurd rfl h2
 cases b <;> simp [Qs,e1,e2]
def tB (t:TE):TT:=fun σ H Q=>t σ H fun x H1=>∃ c,x = .bl c∧Q c H1
theorem pt_cmp (h:PC X op a b t) (h1:Qs op b=false:=by first | exact zd5 _ (by decide) (by decide) | rfl):PT X (.Compare a [op] [b] pos) (tB t):=by
 intro pins s σ H Q I hw
 refine wpAny_isTrue_Compare1 (thn (h pins s σ H _ I hw) fun v s1 h1=>thn h1 fun u s2 h2=>thn h2 fun c s3 ⟨x,H1,I1,r1,q1⟩=>?_) h1
 obtain ⟨d,rfl,q⟩:=q1
 cases r1
 exact WY ⟨H1,I1,q⟩
theorem zg2 (h:PE X e t) (he:∀ whole,isTrue e X.env whole=(do let v ← whole; standAt e.pos; holding [v] (truthy v)):=by intro _; rfl):PT X e (tB t):=by
 intro pins s σ H Q I hw
 refine isTrue_plain (thn (h pins s σ H _ I hw) fun v s1 ⟨x,H1,I1,r1,q1⟩=>?_) (he _)
 obtain ⟨d,rfl,q⟩:=q1
 cases r1
 exact WY ⟨H1,I1,q⟩
variable {tA tB':TT} {rest:List Expr}
def tAnd (t u:TT):TT:=fun σ H Q=>t σ H fun c H1=>if c=true then u σ H1 Q else Q false H1
def tOr (t u:TT):TT:=fun σ H Q=>t σ H fun c H1=>if c=true then Q true H1 else u σ H1 Q
def tNot (t:TT):TT:=fun σ H Q=>t σ H fun c H1=>Q (!c) H1
theorem zen (ha:PT X a tA):PW X (.BoolOp .And [a] pos) tA:=by
 intro wh pins s σ H Q I h
 refine isTrue_and (thn (ha pins s σ H Q I h) fun c s1 e=>?_)
 cases c with
 | true=>exact isTrue_and_nil e
 | false=>exact e
theorem zg0 (ha:PT X a tA):PW X (.BoolOp .Or [a] pos) tA:=by
 intro wh pins s σ H Q I h
 refine isTrue_or (thn (ha pins s σ H Q I h) fun c s1 e=>?_)
 cases c with
 | false=>exact isTrue_or_nil e
 | true=>exact e
theorem zg1 (ha:PT X a tA) (hb:PW X (.BoolOp .And (b :: rest) pos) tB'):PW X (.BoolOp .And (a :: b :: rest) pos) (tAnd tA tB'):=by
 intro wh pins s σ H Q I h
 refine isTrue_and (thn (ha pins s σ H _ I h) fun c s1 ⟨H1,I1,q1⟩=>?_)
 cases c with
 | true=>exact hb wh pins s1 σ H1 Q I1 q1
 | false=>exact ⟨H1,I1,q1⟩
theorem pw_or (ha:PT X a tA) (hb:PW X (.BoolOp .Or (b :: rest) pos) tB'):PW X (.BoolOp .Or (a :: b :: rest) pos) (tOr tA tB'):=by
 intro wh pins s σ H Q I h
 refine isTrue_or (thn (ha pins s σ H _ I h) fun c s1 ⟨H1,I1,q1⟩=>?_)
 cases c with
 | true=>exact ⟨H1,I1,q1⟩
 | false=>exact hb wh pins s1 σ H1 Q I1 q1
theorem zg3 (ha:PT X a tA):PT X (.UnaryOp .Not a pos) (tNot tA):=by
 intro pins s σ H Q I h
 exact isTrue_not (ha pins s σ H (fun c H1=>Q (!c) H1) I h)
def tAndV (ta tb:TE):TE:=fun σ H Q=>ta σ H fun x H1=>∃ c,x = .bl c∧if c=true then tb σ H1 Q else Q (.bl false) H1
def tOrV (ta tb:TE):TE:=fun σ H Q=>ta σ H fun x H1=>∃ c,x = .bl c∧if c=true then Q (.bl true) H1 else tb σ H1 Q
def tNotV (ta:TE):TE:=fun σ H Q=>ta σ H fun x H1=>∃ c,x = .bl c∧Q (.bl (!c)) H1
theorem zgb {op} (h:PE X a t):PE X (.BoolOp op [a] pos) t:=fun pins s σ H Q I hw=>BoolOp_one (h pins s σ H Q I hw)
theorem zgh (ha:PE X a ta) (hb:PE X (.BoolOp .And (b :: rest) pos) tb):PE X (.BoolOp .And (a :: b :: rest) pos) (tAndV ta tb):=by
 intro pins s σ H Q I h
 refine BoolOp_and (thn (ha pins s σ H _ I h) fun v s1 ⟨x,H1,I1,r1,q1⟩=>?_)
 obtain ⟨c,rfl,q1⟩:=q1
 cases r1
 refine WY ?_
 cases c with
 | true=>exact hb pins s1 σ H1 Q I1 q1
 | false=>exact ⟨.bl false,H1,I1,rfl,q1⟩
theorem pe_or (ha:PE X a ta) (hb:PE X (.BoolOp .Or (b :: rest) pos) tb):PE X (.BoolOp .Or (a :: b :: rest) pos) (tOrV ta tb):=by
 intro pins s σ H Q I h
 refine BoolOp_or (thn (ha pins s σ H _ I h) fun v s1 ⟨x,H1,I1,r1,q1⟩=>?_)
 obtain ⟨c,rfl,q1⟩:=q1
 cases r1
 refine WY ?_
 cases c with
 | false=>exact hb pins s1 σ H1 Q I1 q1
 | true=>exact ⟨.bl true,H1,I1,rfl,q1⟩
theorem zgc (ha:PE X a ta):PE X (.UnaryOp .Not a pos) (tNotV ta):=by
 intro pins s σ H Q I h
 refine UnaryOp_ (thn (ha pins s σ H _ I h) fun v s1 ⟨x,H1,I1,r1,q1⟩=>?_)
 obtain ⟨c,rfl,q1⟩:=q1
 cases r1
 exact not_of (WY ⟨.bl (!c),H1,I1,rfl,q1⟩)
end
def SqL (K:W1) (H:Hp) (a:Addr) (xs:List V):Prop :=
 Rd H a (.lst xs) ∨
  ∃ (o:Obj) (its:Array Value) (n:Nat),K.lookup a=some o∧o.cls = .type "list"∧o.dict=none∧o.data = .seq its n∧its.size≤W6∧Vals xs its.toList
def SqT (K:W1) (H:Hp) (a:Addr) (xs:List V):Prop :=
 Rd H a (.tup xs) ∨
  ∃ (o:Obj) (its:Array Value) (n:Nat),K.lookup a=some o∧o.cls = .type "tuple"∧o.data = .seq its n∧its.size≤W6∧Vals xs its.toList
def absV:Value→Option V
 | .none=>some .non
 | .bool b=>some (.bl b)
 | .int i _=>some (.int i)
 | .str x _=>some (.str x)
 | .bytes b _=>some (.byt b)
 | .float b _=>some (.flt b)
 | .ref a=>some (.ref a)
 | .type n=>some (.ty n)
 | _=>none
theorem RelV.abs (r:RelV x u):absV u=some x:=by
 cases x with
 | non=>cases r; rfl
 | bl _=>cases r; rfl
 | int _=>obtain ⟨t,rfl⟩:=r; rfl
 | str _=>obtain ⟨t,rfl⟩:=r; rfl
 | byt _=>obtain ⟨t,rfl⟩:=r; rfl
 | flt _=>obtain ⟨t,rfl⟩:=r; rfl
 | ref _=>cases r; rfl
 | ty _=>cases r; rfl
theorem RelV.inj (r:RelV x u) (q:RelV y u):x=y:=Wy (r.abs.symm.trans q.abs)
theorem Vals.inj:∀ {xs ys:List V} {us:List Value},Vals xs us→Vals ys us→xs=ys
 | _,_,_,.nil,.nil=>rfl
 | _,_,_,.cons r t,.cons r' t'=>by rw [r.inj r',Vals.inj t t']
section
variable {X:Cx} {pins:List (Addr×Obj)} {σ:St} {H:Hp} {s:W2} {a:Addr} {xs ys:List V}
theorem SqL.of {K:W1} (h:H a=some (.lst xs)):SqL K H a xs:=.inl (.inl h)
theorem SqT.of {K:W1} (h:H a=some (.tup xs)):SqT K H a xs:=.inl (.inl h)
theorem Inv.list (I:Inv X pins σ H s) (h:SqL X.K H a xs):∃ its:List Value,Vals xs its∧PlainL s.heap a its.toArray∧xs.length≤W6:=by
 rcases h with h | ⟨o,its,n,hk,hc,hd,hs,hz,r⟩
 ·obtain ⟨z,its,n,r,e⟩:=h.ok I.hok
  exact ⟨its,r,⟨_,n,e,rfl,rfl,rfl⟩,z⟩
 ·refine ⟨its.toList,r,⟨o,n,I.kIn a o hk,hc,hd,by simpa using hs⟩,?_⟩
  have e:=r.length
  simp only [Wx] at e
  omega
theorem Inv.tuple (I:Inv X pins σ H s) (h:SqT X.K H a xs):∃ its:List Value,Vals xs its∧IsTup s.heap a its.toArray∧xs.length≤W6:=by
 rcases h with h | ⟨o,its,n,hk,hc,hs,hz,r⟩
 ·obtain ⟨z,its,r,p⟩:=h.ok I.hok
  exact ⟨its,r,p.tup,z⟩
 ·refine ⟨its.toList,r,⟨o,I.kIn a o hk,hc,n,by simpa using hs⟩,?_⟩
  have e:=r.length
  simp only [Wx] at e
  omega
theorem Inv.list_inj (I:Inv X pins σ H s) (h:SqL X.K H a xs) (h':SqL X.K H a ys):xs=ys:=by
 obtain ⟨its,r,⟨o,n,e,_,_,d⟩,_⟩:=I.list h
 obtain ⟨its',r',⟨o',n',e',_,_,d'⟩,_⟩:=I.list h'
 rw [e] at e'; cases e'
 rw [d] at d'
 injection d' with d1 _
 have:its=its':=by simpa using congrArg Array.toList d1
 subst this
 exact r.inj r'
theorem Inv.tuple_inj (I:Inv X pins σ H s) (h:SqT X.K H a xs) (h':SqT X.K H a ys):xs=ys:=by
 obtain ⟨its,r,⟨o,e,_,n,d⟩,_⟩:=I.tuple h
 obtain ⟨its',r',⟨o',e',_,n',d'⟩,_⟩:=I.tuple h'
 rw [e] at e'; cases e'
 rw [d] at d'
 injection d' with d1 _
 have:its=its':=by simpa using congrArg Array.toList d1
 subst this
 exact r.inj r'
end
abbrev Cx.wish (X:Cx) (E:Value→W2→Prop):Cx:={ X with xe:=E }
abbrev Cx.nox (X:Cx):Cx:=X.wish fun _ _=>False
theorem Cx.Ok.wish {X:Cx} (ok:X.Ok) (E:Value→W2→Prop):(X.wish E).Ok :=
 ⟨ok.mod,ok.kind,ok.glob,ok.blt,ok.above,ok.inj,ok.has,ok.cab,ok.hd,ok.frames,ok.stk,ok.exf,ok.bs,ok.bsz,ok.noex,ok.exfs,ok.funs,ok.frf⟩
theorem Cx.Ok.unwish {X:Cx} {E:Value→W2→Prop} (ok:(X.wish E).Ok):X.Ok :=
 ⟨ok.mod,ok.kind,ok.glob,ok.blt,ok.above,ok.inj,ok.has,ok.cab,ok.hd,ok.frames,ok.stk,ok.exf,ok.bs,ok.bsz,ok.noex,ok.exfs,ok.funs,ok.frf⟩
section
variable {X:Cx} {pins:List (Addr×Obj)} {σ:St} {H:Hp} {s:W2} {E:Value→W2→Prop}
theorem Inv.wish (I:Inv X pins σ H s) (E:Value→W2→Prop):Inv (X.wish E) pins σ H s:=⟨I.ok.wish E,I.os,I.bare,I.base,I.loc,I.cell,I.free,I.freeC,I.pin,I.hok,I.len⟩
theorem Inv.unwish (I:Inv (X.wish E) pins σ H s):Inv X pins σ H s:=⟨I.ok.unwish,I.os,I.bare,I.base,I.loc,I.cell,I.free,I.freeC,I.pin,I.hok,I.len⟩
theorem SP.unwish (h:SP (X.wish E) pins D f s'):SP X pins D f s':=by
 cases f with
 | next=>obtain ⟨σ',H',I,q⟩:=h; exact ⟨σ',H',I.unwish,q⟩
 | brk=>obtain ⟨σ',H',I,q⟩:=h; exact ⟨σ',H',I.unwish,q⟩
 | cont=>obtain ⟨σ',H',I,q⟩:=h; exact ⟨σ',H',I.unwish,q⟩
 | ret u=>obtain ⟨v,σ',H',I,r,q⟩:=h; exact ⟨v,σ',H',I.unwish,r,q⟩
theorem PSs.nox {st:List Stmt} {t:TS} (h:PSs X.nox st t):PSs X st t:=fun pins s σ H D I hw =>
 Ql (h pins s σ H D (I.wish _) hw) (fun _ _ q=>q.unwish) fun _ _ z=>False.elim z
end
section
variable {X:Cx} {st:Stmt} {rest:List Stmt} {t u:TS} {e:Expr} {te:TE} {pos:Pos}
def tNext:TS:=fun D σ H=>D.nx σ H
def tSeq (t u:TS):TS:=fun D σ H=>t { D with nx:=u D } σ H
theorem zeq:PSs X [] tNext:=fun _ _ σ H _ I h=>wpAny_execs_nil ⟨σ,H,I,h⟩
theorem zcT (h1:PS X st t) (h2:PSs X rest u):PSs X (st :: rest) (tSeq t u):=by
 intro pins s σ H D I h
 refine wpAny_execs_cons (thn (h1 pins s σ H { D with nx:=u D } I h) fun f s1 q=>?_)
 cases f with
 | next =>
  obtain ⟨σ',H',I',q⟩:=q
  exact h2 pins s1 σ' H' D I' q
 | ret v=>exact q
 | brk=>exact q
 | cont=>exact q
theorem zep (h1:PS X st t):PSs X [st] t:=by
 intro pins s σ H D I h
 refine wpAny_execs_cons (thn (h1 pins s σ H D I h) fun f s1 q=>?_)
 cases f with
 | next=>exact wpAny_execs_nil q
 | ret v=>exact q
 | brk=>exact q
 | cont=>exact q
theorem Inv.quiet (I:Inv X pins σ H s):interactive X.env=false:=by simp [interactive,I.ok.kind]
def ze9 (te:TE):TS:=fun D σ H=>te σ H fun _ H1=>D.nx σ H1
theorem zbc (he:PE X e te) (hs:Jt e none pos.line X.env=pure false:=by rfl):PS X (.Expr e pos) (ze9 te):=by
 intro pins s σ H D I h
 exact wpAny_Expr_any (thn (he pins s σ H _ I h) fun v s1 ⟨x,H1,I1,r1,q1⟩=>⟨σ,H1,I1,q1⟩) I.quiet hs
def tRet (te:TE):TS:=fun D σ H=>te σ H D.rt
theorem zg5 (he:PE X e te):PS X (.Return (some e) pos) (tRet te):=by
 intro pins s σ H D I h
 exact wpAny_Return_some (thn (he pins s σ H _ I h) fun v s1 ⟨x,H1,I1,r1,q1⟩=>⟨x,σ,H1,I1,r1,q1⟩)
def tIfS (c:TT) (t u:TS):TS:=fun D σ H=>c σ H fun b H1=>if b=true then t D σ H1 else u D σ H1
theorem ps_if (hc:PT X c tc) (ha:PSs X a t) (hb:PSs X b u):PS X (.If c a b pos) (tIfS tc t u):=by
 intro pins s σ H D I h
 refine wpAny_If (thn (hc pins s σ H _ I h) fun d s1 ⟨H1,I1,q1⟩=>?_)
 cases d with
 | true=>exact ha pins s1 σ H1 D I1 q1
 | false=>exact hb pins s1 σ H1 D I1 q1
def zft:TS:=fun _ _ _=>False
theorem zcU:PS X st zft:=fun _ _ _ _ _ _ h=>h.elim
end
abbrev TG:=V→St→Hp→(St→Hp→Prop)→Prop
abbrev TGs:=List V→St→Hp→(St→Hp→Prop)→Prop
def PG (X:Cx) (target:Expr) (t:TG):Prop :=
 ∀ (pins:List (Addr×Obj)) (s:W2) (σ:St) (H:Hp) (v:V) (u:Value) (Q:St→Hp→Prop),Inv X pins σ H s→RelV v u→t v σ H Q →
  W5 (model X.prog X.w) X.A (assign target X.env u) (fun _ s'=>∃ σ' H',Inv X pins σ' H' s'∧Q σ' H') X.xe s
def PGs (X:Cx) (ts:List Expr) (t:TGs):Prop :=
 ∀ (pins:List (Addr×Obj)) (s:W2) (σ:St) (H:Hp) (vs:List V) (us:List Value) (Q:St→Hp→Prop),Inv X pins σ H s→Vals vs us→t vs σ H Q →
  W5 (model X.prog X.w) X.A (assignInOrder ((Qh ts X.env).map (·.2)) us) (fun _ s'=>∃ σ' H',Inv X pins σ' H' s'∧Q σ' H') X.xe s
abbrev TSet:=V→V→V→Hp→(Hp→Prop)→Prop
def PSet (X:Cx) (t:TSet):Prop :=
 ∀ (pins:List (Addr×Obj)) (s:W2) (σ:St) (H:Hp) (o i v:V) (ov iv u:Value) (Q:Hp→Prop),Inv X pins σ H s→RelV o ov→RelV i iv→RelV v u→t o i v H Q →
  W5 (model X.prog X.w) X.A (setItem ov iv u) (fun _ s'=>∃ H',Inv X pins σ H' s'∧Q H') X.xe s
section
variable {X:Cx} {pos:Pos}
def zeZ (i:Nat):TG:=fun v σ H Q=>Q (σ.set i (some v)) H
theorem zbi (hN:X.N.Nodup) (hi:X.N[i]? = some x) (hx:Loc X.env.scope x) (hf:X.fn x=true∨X.env.scope.names.lookup x=some .local:=by first | exact .inl rfl | exact .inr rfl | assumption):PG X (.Name x pos) (zeZ i):=by
 intro pins s σ H v u Q I r h
 exact wpAny_assign_Name (z9o I hN hi hx r (fun s' I'=>⟨_,H,I',h⟩) hf)
def gNil:TGs:=fun vs σ H Q=>vs=[]∧Q σ H
def gCons (t:TG) (u:TGs):TGs:=fun vs σ H Q=>∃ v r,vs=v :: r∧t v σ H fun σ' H'=>u r σ' H' Q
theorem zbh:PGs X [] gNil:=by
 intro pins s σ H vs us Q I r h
 obtain ⟨e,h⟩:=h
 subst e
 cases r
 exact assignInOrder_nil ⟨σ,H,I,h⟩
theorem z9E (h1:PG X e t) (h2:PGs X es u)
  (hs:(Qh (e :: es) X.env).map (·.2)=assign e X.env :: (Qh es X.env).map (·.2):=by rfl):PGs X (e :: es) (gCons t u):=by
 intro pins s σ H vs us Q I r h
 obtain ⟨v,vr,e1,h⟩:=h
 subst e1
 cases r with
 | cons r rr =>
  rw [hs]
  refine assignInOrder_cons (thn (h1 pins s σ H _ _ _ I r h) fun _ s1 ⟨σ1,H1,I1,q1⟩=>?_)
  exact h2 pins s1 σ1 H1 _ _ Q I1 rr q1
def gTup (K:W1) (n:Nat) (t:TGs):TG:=fun v σ H Q=>∃ a xs,v = .ref a∧SqT K H a xs∧xs.length=n∧t xs σ H Q
theorem zdJ (hc:X.calm=true) (h:PGs X es t)
  (hn:(Qh es X.env).length=n:=by rfl) (hst:(Qh es X.env).findIdx? (·.1)=none:=by rfl):PG X (.Tuple es k pos) (gTup X.K n t):=by
 intro pins s σ H v u Q I r hw
 obtain ⟨a,xs,e1,hq,hl,hw⟩:=hw
 subst e1
 cases r
 obtain ⟨its,rv,ht,hz⟩:=I.tuple hq
 refine assign_Tuple_tuple (I.ok.hd hc) ht (by simp [hn,← hl,rv.length]) hst fun h' hx=>?_
 have I1:Inv X pins σ H { s with heap:=h' }:=I.kept (t':=s.toks) fun b o e=>hx b o (Wt (Wg e)) e
 exact h pins _ σ H xs _ Q I1 (by simpa using rv) hw
def gSub (to ti:TE) (t:TSet):TG:=fun v σ H Q=>to σ H fun o H1=>ti σ H1 fun i H2=>t o i v H2 fun H3=>Q σ H3
theorem zg7 (ho:PE X o to) (hi:PE X i ti) (hs:PSet X t)
  (ha:∀ v,assign (.Subscript o i pos) X.env v=(do
   let ov ← holding [v] (eval o X.env)
   let iv ← holding [v,ov] (eval i X.env)
   standAt pos
   holding [v,ov,iv] (setItem ov iv v)
   release [v,ov,iv] []):=by intro _; rfl):PG X (.Subscript o i pos) (gSub to ti t):=by
 intro pins s σ H v u Q I r h
 rw [ha]
 refine W0 (WH (thn (ho pins s σ H _ I h) fun ov s1 ⟨x,H1,I1,r1,q1⟩=>?_))
 refine W0 (WH (thn (hi pins s1 σ H1 _ I1 q1) fun iv s2 ⟨y,H2,I2,r2,q2⟩=>?_))
 refine W0 (wpAny_standAt (W0 (WH (thn (hs pins s2 σ H2 x y v ov iv u _ I2 r1 r2 r q2) fun _ s3 ⟨H3,I3,q3⟩=>?_))))
 exact wpAny_release ⟨σ,H3,I3,q3⟩
def tAsg (te:TE) (g:TG):TS:=fun D σ H=>te σ H fun x H1=>g x σ H1 D.nx
theorem zdI (he:PE X e te) (hg:PG X tg g) (hs:swapsWithSole [tg] e pos.line X.env=pure false:=by rfl) (hw:swappedStores [tg] e X.env=pure none:=by rfl)
  (h1:(Qh [tg] X.env).map (·.2)=[assign tg X.env]:=by rfl):PS X (.Assign [tg] e pos) (tAsg te g):=by
 intro pins s σ H D I h
 refine wpAny_Assign_stores (thn (he pins s σ H _ I h) fun v s1 ⟨x,H1,I1,r1,q1⟩=>?_) hs hw
 rw [h1]
 exact thn (hg pins s1 σ H1 x v _ I1 r1 q1) fun _ s2 q=>q
theorem zg4 (hN:X.N.Nodup) (hi:X.N[i]? = some x) (hx:Loc X.env.scope x) (he:PE X e te) (hs:Jt e (some (.Name x pos')) pos.line X.env=pure false:=by rfl) (hf:X.fn x=true∨X.env.scope.names.lookup x=some .local:=by first | exact .inl rfl | exact .inr rfl | assumption) :
  PS X (.Assign [.Name x pos'] e pos) (tAsg te (zeZ i)):=by
 intro pins s σ H D I h
 refine wpAny_Assign_Name (thn (he pins s σ H _ I h) fun v s1 ⟨y,H1,I1,r1,q1⟩=>?_) hs
 exact z9o I1 hN hi hx r1 (fun s2 I2=>⟨_,H1,I2,q1⟩) hf
end
section
variable {X:Cx} {pos:Pos}
end
structure It where
 go:Nat→Hp→Prop
 yld:Nat→Hp→V→Hp→Prop
 stop:Nat→Hp→Prop
def FpOk (X:Cx) (pins:List (Addr×Obj)) (H:Hp) (b:Addr):Prop :=
 H b=none∧b≠X.env.locals∧b ∉ X.fs∧(b ∈ X.ex∨X.s₀.heap.objs.size≤b)∧(∀ x c,X.env.cells.lookup x=some c→c≠b)∧∀ p ∈ X.pn ++ pins,p.1≠b
theorem Inv.fpOk (I:Inv X pins σ H s) (hb:s.heap.objs.size≤b) (hn:H' b=none):FpOk X pins H' b:=by
 refine ⟨hn,QZ (Ww I.lt hb),I.nofs hb,.inr (WV I.sz hb),fun x c e z=>?_,fun p hp z=>?_⟩
 ·obtain ⟨v,q⟩:=I.cell x c e
  exact absurd (Ww q.lt (by rw [z]; exact hb)) (Qr _)
 ·exact absurd (Ww (Wg (I.pin p hp).1) (by rw [z]; exact hb)) (Qr _)
structure Turn (P:Wl) (w:Wq) (K:W1) (tg:Expr) (J:It) (fp:List Addr) (it:Addr) (tn:Nat→Heap→Prop):Prop where
 mem:it ∈ fp
 obj:∀ i h,tn i h→∀ b ∈ fp,∃ o,h.get? b=some o∧∀ v,o.data≠.cell v
 keep:∀ i h h',tn i h→(∀ b ∈ fp,∀ o,h.get? b=some o→h'.get? b=some o)→tn i h'
 item:∀ (X:Cx),X.prog=P→X.w=w→X.K=K→X.calm=true→∀ (i:Nat) (pins:List (Addr×Obj)) (s:W2) (σ:St) (H:Hp) (E:Value→W2→Prop),Inv X pins σ H s→(∀ b ∈ fp,FpOk X pins H b)→tn i s.heap→J.go i H →
  W5 (model P w) X.A (Jg (.ref it)) (fun r s1=>∃ u,r=some u ∧
   W5 (model P w) X.A (letOwnedTupleGo tg (.ref it) u) (fun _ s2=>∃ x H',Inv X pins σ H' s2∧RelV x u∧J.yld i H x H'∧tn (i + 1) s2.heap∧∀ b ∈ fp,H' b=none) E s1) E s
 done:∀ (X:Cx),X.prog=P→X.w=w→X.K=K→X.calm=true→∀ (i:Nat) (pins:List (Addr×Obj)) (s:W2) (σ:St) (H:Hp) (E:Value→W2→Prop),Inv X pins σ H s→(∀ b ∈ fp,FpOk X pins H b)→tn i s.heap→J.stop i H →
  W5 (model P w) X.A (Jg (.ref it)) (fun r s1=>r=none∧Inv X pins σ H s1) E s
 self:∀ (A:Wr) (i:Nat) (s:W2) (Q:Value→W2→Prop) (E:Value→W2→Prop),tn i s.heap→Q (.ref it) s→W5 (model P w) A (pyIter (.ref it)) Q E s
abbrev TI:=St→Hp→(It→Hp→Prop)→Prop
def PIE (X:Cx) (pins:List (Addr×Obj)) (σ:St) (tg:Expr) (R:It→Hp→Prop) (itv:Value) (s2:W2):Prop :=
 ∃ (it:Addr) (fp:List Addr) (tn:Nat→Heap→Prop) (J:It) (H':Hp),itv = .ref it∧Inv X pins σ H' s2∧Turn X.prog X.w X.K tg J fp it tn∧tn 0 s2.heap∧(∀ b ∈ fp,FpOk X pins H' b)∧R J H'
def PI (X:Cx) (tg iter:Expr) (wi:TI):Prop :=
 ∀ (pins:List (Addr×Obj)) (s:W2) (σ:St) (H:Hp) (R:It→Hp→Prop),Inv X pins σ H s→wi σ H R →
  W5 (model X.prog X.w) X.A (eval iter X.env) (fun v s1=>W5 (model X.prog X.w) X.A (pyIter v) (PIE X pins σ tg R) X.xe s1) X.xe s
theorem zdj (ho:s.heap.get? it=some o) (hc:o.cls = .type n) (hd:o.data = .fields vs)
  (hn:["enumerate","zip","dict_itemiterator","dict_reverseitemiterator","odict_iterator","itertools.zip_longest","itertools.pairwise"].contains n=false) (hQ:Q () s):W5 M A (letOwnedTupleGo tg (.ref it) u) Q E s:=by
 unfold letOwnedTupleGo
 cases tg <;> first
  | exact W3 hQ
  | (cases u <;> first
    | exact W3 hQ
    | (refine W0 (wpAny_load ho ?_); rw [hc,hd]; show W5 M A (if (["enumerate","zip","dict_itemiterator","dict_reverseitemiterator","odict_iterator","itertools.zip_longest","itertools.pairwise"].contains n && vs[0]? == some (rawInt _))=true then _ else _) Q E s; rw [if_neg (by intro h; rw [hn,JB] at h; cases h)]; exact W3 hQ))
def Itl (K:W1) (a:Addr):It :=
 ⟨fun i H=>∃ xs x,SqL K H a xs∧xs[i]? = some x,fun i H x H'=>H'=H∧∀ xs,SqL K H a xs→xs[i]? = some x,fun i H=>∃ xs,SqL K H a xs∧xs.length≤i⟩
def Itt (K:W1) (a:Addr):It :=
 ⟨fun i H=>∃ xs x,SqT K H a xs∧xs[i]? = some x,fun i H x H'=>H'=H∧∀ xs,SqT K H a xs→xs[i]? = some x,fun i H=>∃ xs,SqT K H a xs∧xs.length≤i⟩
def Itr (lo:Int) (n:Nat):It:=⟨fun i _=>i < n,fun i H x H'=>H'=H∧x = .int (lo + i),fun i _=>n≤i⟩
theorem zaB {P:Wl} {w:Wq} {K:W1} {tg:Expr} (a it:Addr):Turn P w K tg (Itl K a) [it] it (fun i h=>h.IsListIter it a i) where
 mem:=by simp
 obj:=fun i h st b hb=>by
  have e:b=it:=by simpa using hb
  subst e
  obtain ⟨o,e,c,d⟩:=st
  exact ⟨o,e,fun v z=>by rw [d] at z; cases z⟩
 keep:=fun i h h' st k=>st.at fun o e=>k it (by simp) o e
 item:=by
  intro X hP hw hK hc i pins s σ H E I hf st hg
  subst hP hw hK
  obtain ⟨xs,x,hq,hx⟩:=hg
  obtain ⟨its,rv,p,hz⟩:=I.list hq
  obtain ⟨u,hu,ru⟩:=rv.get hx
  obtain ⟨f0,f1,f2,f3,f4,f5⟩:=hf it (by simp)
  refine wpAny_pyNext_list_item st p.isList (x:=u) (by simpa using hu) fun h' st' sb=>?_
  have I1:Inv X pins σ H { s with heap:=h' }:=I.turned (t':=s.toks) (fun b o hb e=>(sb.2 b hb).trans e) f0 f1 f3 f4 f5
  obtain ⟨o,e,c,d⟩:=id st'
  exact ⟨u,rfl,zdj (s:={ s with heap:=h' }) e c d (by decide) ⟨x,H,I1,ru,⟨rfl,fun ys hy=>by rw [I.list_inj hy hq]; exact hx⟩,st',fun b hb=>(hf b hb).1⟩⟩
 done:=by
  intro X hP hw hK hc i pins s σ H E I hf st hg
  subst hP hw hK
  obtain ⟨xs,hq,hx⟩:=hg
  obtain ⟨its,rv,p,hz⟩:=I.list hq
  obtain ⟨f0,f1,f2,f3,f4,f5⟩:=hf it (by simp)
  have hl:=rv.length
  exact wpAny_pyNext_list_end (I.ok.hd hc) st p.isList (by simp; omega) fun h' eb=>⟨rfl,I.turned (t':=s.toks) (fun b o hb e=>eb b o hb e) f0 f1 f3 f4 f5⟩
 self:=fun _ _ _ _ _ st h=>wpAny_pyIter_listiter st h
theorem z9Y {P:Wl} {w:Wq} {K:W1} {tg:Expr} (a it:Addr):Turn P w K tg (Itt K a) [it] it (fun i h=>h.IsTupleIter it a i) where
 mem:=by simp
 obj:=fun i h st b hb=>by
  have e:b=it:=by simpa using hb
  subst e
  obtain ⟨o,e,c,d⟩:=st
  exact ⟨o,e,fun v z=>by rw [d] at z; cases z⟩
 keep:=fun i h h' st k=>st.at fun o e=>k it (by simp) o e
 item:=by
  intro X hP hw hK hc i pins s σ H E I hf st hg
  subst hP hw hK
  obtain ⟨xs,x,hq,hx⟩:=hg
  obtain ⟨its,rv,p,hz⟩:=I.tuple hq
  obtain ⟨u,hu,ru⟩:=rv.get hx
  obtain ⟨f0,f1,f2,f3,f4,f5⟩:=hf it (by simp)
  refine wpAny_pyNext_tuple_item st (show s.heap.IsTuple a its.toArray from p) (x:=u) (by simpa using hu) fun h' st' sb=>?_
  have I1:Inv X pins σ H { s with heap:=h' }:=I.turned (t':=s.toks) (fun b o hb e=>(sb.2 b hb).trans e) f0 f1 f3 f4 f5
  obtain ⟨o,e,c,d⟩:=id st'
  exact ⟨u,rfl,zdj (s:={ s with heap:=h' }) e c d (by decide) ⟨x,H,I1,ru,⟨rfl,fun ys hy=>by rw [I.tuple_inj hy hq]; exact hx⟩,st',fun b hb=>(hf b hb).1⟩⟩
 done:=by
  intro X hP hw hK hc i pins s σ H E I hf st hg
  subst hP hw hK
  obtain ⟨xs,hq,hx⟩:=hg
  obtain ⟨its,rv,p,hz⟩:=I.tuple hq
  obtain ⟨f0,f1,f2,f3,f4,f5⟩:=hf it (by simp)
  have hl:=rv.length
  exact wpAny_pyNext_tuple_end (I.ok.hd hc) st (show s.heap.IsTuple a its.toArray from p) (by simp; omega) fun h' eb=>⟨rfl,I.turned (t':=s.toks) (fun b o hb e=>eb b o hb e) f0 f1 f3 f4 f5⟩
 self:=fun _ _ _ _ _ st h=>wpAny_pyIter_tupleiter st h
theorem z9Z {P:Wl} {w:Wq} {K:W1} {tg:Expr} (it:Addr) (lo:Int) (n:Nat):Turn P w K tg (Itr lo n) [it] it (fun i h=>IsRangeIter h it (lo + (i:Nat) * 1) ((n:Int) - (i:Nat)) 1) where
 mem:=by simp
 obj:=fun i h st b hb=>by
  have e:b=it:=by simpa using hb
  subst e
  exact ⟨_,st,fun v z=>by
   have z':Data.fields _=Data.cell v:=z
   cases z'⟩
 keep:=fun i h h' st k=>k it (by simp) _ st
 item:=by
  intro X hP hw hK hc i pins s σ H E I hf st hg
  subst hP hw hK
  obtain ⟨f0,f1,f2,f3,f4,f5⟩:=hf it (by simp)
  have W:=Walks.range (prog:=X.prog) (w:=X.w) (I.ok.hd hc) it lo 1 n
  refine W.item i s _ _ hg st fun v h' tk hv st' kk=>?_
  obtain ⟨t,rfl⟩:=hv
  have I1:Inv X pins σ H { s with heap:=h',toks:=tk }:=I.turned (fun b o hb e=>kk b o (by simpa using hb) e) f0 f1 f3 f4 f5
  refine ⟨_,rfl,zdj (s:={ s with heap:=h',toks:=tk }) (n:="range_iterator") st' rfl rfl (by decide) ⟨.int (lo + i),H,I1,⟨t,?_⟩,⟨rfl,rfl⟩,st',fun b hb=>(hf b hb).1⟩⟩
  rw [Int.mul_one]
 done:=by
  intro X hP hw hK hc i pins s σ H E I hf st hg
  subst hP hw hK
  obtain ⟨f0,f1,f2,f3,f4,f5⟩:=hf it (by simp)
  exact wpAny_pyNext_range_end (I.ok.hd hc) st (by have:n≤i:=hg; omega) fun h' eb=>⟨rfl,I.turned (t':=s.toks) (fun b o hb e=>eb b o hb e) f0 f1 f3 f4 f5⟩
 self:=fun _ _ _ _ _ st h=>wpAny_pyIter_rangeiter st h
section
variable {X:Cx} {tg:Expr}
theorem zcN {pins:List (Addr×Obj)} {σ:St} {H:Hp} {s:W2} {R:It→Hp→Prop} {E:Value→W2→Prop} {lo hi:Int} {t u v:Tok} {tk:Nat} (I:Inv X pins σ H s) (h1 : -(2 ^ 62)≤lo) (h2:lo < 2 ^ 62) (h3 : -(2 ^ 62)≤hi) (h4:hi < 2 ^ 62)
  (q:R (Itr lo (hi - lo).toNat) H):W5 (model X.prog X.w) X.A (pyIter (.ref s.heap.objs.size)) (PIE X pins σ tg R) E { s with heap:=s.heap.push { cls:=.type "range",data:=.fields #[.int lo t,.int hi u,.int 1 v] },toks:=tk }:=by
 refine wpAny_pyIter_range (IsRange.new ..) (small_one h1 h2 h3 h4) ?_
 have I1:Inv X pins σ H { s with heap:=s.heap.push { cls:=.type "range",data:=.fields #[.int lo t,.int hi u,.int 1 v] },toks:=tk }:=I.kept fun b o e=>W4 _ e
 refine ⟨(s.heap.push { cls:=.type "range",data:=.fields #[.int lo t,.int hi u,.int 1 v] }).objs.size,[(s.heap.push { cls:=.type "range",data:=.fields #[.int lo t,.int hi u,.int 1 v] }).objs.size],_,_,H,rfl,
  I1.kept (t':=tk) fun b o e=>W4 _ e,z9Z _ lo (hi - lo).toNat,?_,fun b hb=>?_,q⟩
 ·have e1:lo + ((0:Nat):Int) * 1=lo:=by simp
  have e2:(((hi - lo).toNat:Nat):Int) - ((0:Nat):Int)=Builtin.Range.rangeSize lo hi 1:=by rw [rangeSize_one]; split <;> omega
  show IsRangeIter _ _ (lo + ((0:Nat):Int) * 1) ((((hi - lo).toNat:Nat):Int) - ((0:Nat):Int)) 1
  rw [e1,e2]
  exact Wj _ rfl
 ·have e:b=(s.heap.push { cls:=.type "range",data:=.fields #[.int lo t,.int hi u,.int 1 v] }).objs.size:=by simpa using hb
  subst e
  exact I1.fpOk (W8 _) (I1.hok.fresh (W8 _))
def iRng1 (ta:TA):TI:=fun σ H R=>ta σ H fun vs H1=>∃ j:Int,vs=[.int j]∧-(2 ^ 62)≤j∧j < 2 ^ 62∧R (Itr 0 j.toNat) H1
theorem zbg {a:Expr} {ta:TA} {p pos:Pos} (hg:Gl X "range") (hm:X.mg "range" = none) (ha:PA X [a] ta) (hs:We [a] X.env=[(false,eval a X.env)]:=by rfl):PI X tg (.Call (.Name "range" p) [a] [] pos) (iRng1 ta):=by
 intro pins s σ H R I h
 refine Call_ (z8v I hg hm boot_range (PyProof.Rows.callWith_type1 (thn (ha pos pins s σ H _ I h) fun us s1 ⟨vs,H1,I1,r1,q1⟩=>?_) hs rfl))
 obtain ⟨j,e,q1,q2,q⟩:=q1
 subst e
 cases r1 with
 | cons r rr =>
  cases rr
  obtain ⟨t,rfl⟩:=r
  exact call_range_1 (zcN I1 (by omega) (by omega) q1 q2 (by simpa using q))
def tFor (wi:TI) (g:TG) (tb:TS):TS:=fun D σ H=>wi σ H fun J H1=>∃ W:Nat→Nat→St→Hp→Prop,(∃ m,W 0 m σ H1)∧∀ i m σ H,W i m σ H →
 (J.stop i H∧D.nx σ H)∨(J.go i H∧∃ N:St→Hp→Prop,(∀ σ' H',N σ' H'→∃ m',m' < m∧W (i + 1) m' σ' H')∧∀ x H',J.yld i H x H'→g x σ H' fun σ2 H2=>tb { D with nx:=N,ct:=N,bk:=D.nx } σ2 H2)
def z8g (fp:List Addr) (h:Heap):List (Addr×Obj):=fp.filterMap fun b=>(h.get? b).map fun o=>(b,o)
theorem z40 (hb:b ∈ fp) (e:h.get? b=some o):(b,o) ∈ z8g fp h:=List.mem_filterMap.mpr ⟨b,hb,by rw [e]; rfl⟩
theorem zbr (hp:p ∈ z8g fp h):p.1 ∈ fp∧h.get? p.1=some p.2:=by
 obtain ⟨b,hb,e⟩:=List.mem_filterMap.mp hp
 cases q:h.get? b with
 | none=>rw [q] at e; cases e
 | some o =>
  rw [q] at e
  have e':(b,o)=p:=Wy e
  subst e'
  exact ⟨hb,q⟩
theorem Inv.pinned (I:Inv X pins σ H s) (hf:∀ b ∈ fp,FpOk X pins H b) (ho:∀ b ∈ fp,∃ o,s.heap.get? b=some o∧∀ v,o.data≠.cell v):Inv X (pins ++ z8g fp s.heap) σ H s :=
 I.pins_of fun p hp=>(J5.mp hp).elim (fun z=>I.pin p (WS _ z)) fun z=>by
  obtain ⟨hb,e⟩:=zbr z
  obtain ⟨f0,f1,f2,_⟩:=hf p.1 hb
  obtain ⟨o,e',d⟩:=ho p.1 hb
  rw [e] at e'; cases e'
  exact ⟨e,f0,f1,f2,d⟩
theorem Inv.unpinned (I:Inv X (pins ++ pl) σ H s):Inv X pins σ H s:=I.pins_of fun p hp=>I.pin p (WS _ (List.mem_append_left _ hp))
theorem zg6 (hp:PassesOwn (model X.prog X.w) X.A X.env X.xe) (hc:X.calm=true) (hi:PI X tg iter wi) (hg:PG X tg g) (hb:PSs X body tb)
  (hs:∀ x,JD iter X.env x=pure x:=by intro _; rfl):PS X (.For tg iter body [] pos) (tFor wi g tb):=by
 intro pins s σ H D I h
 refine wpAny_For (thn (hi pins s σ H _ I h) fun v s1 h1=>thn h1 fun itv s2 h2=>?_) hs
 obtain ⟨it,fp,tn,J,H2,e,I2,T,st2,f2,W,⟨m0,w0⟩,turn⟩:=h2
 subst e
 -- what stays true of the iterator's objects through the loop
 have stat:∀ {H':Hp},(∀ b ∈ fp,H' b=none)→∀ b ∈ fp,FpOk X pins H' b:=fun hn b hb=>⟨hn b hb,(f2 b hb).2⟩
 refine codeAny_forLoop_any (fun n s'=>∃ i σ' H',Inv X pins σ' H' s'∧tn i s'.heap∧(∀ b ∈ fp,H' b=none)∧W i n σ' H') ?_ m0 ⟨0,σ,H2,I2,st2,fun b hb=>(f2 b hb).1,w0⟩
 rintro n s3 ⟨i,σ3,H3,I3,st3,fr3,w3⟩
 rcases turn i n σ3 H3 w3 with ⟨stop,qn⟩ | ⟨go,N,hN,step⟩
 ·refine Js hp (thn (T.done X rfl rfl rfl hc i pins s3 σ3 H3 X.xe I3 (stat fr3) st3 stop) fun r s4 ⟨hr,I4⟩=>?_)
  subst hr
  exact wpAny_execs_nil ⟨σ3,H3,I4,qn⟩
 ·refine Js hp (thn (T.item X rfl rfl rfl hc i pins s3 σ3 H3 X.xe I3 (stat fr3) st3 go) fun r s4 ⟨u,hr,h4⟩=>?_)
  subst hr
  refine Js hp (thn h4 fun _ s5 ⟨x,H5,I5,r5,y5,st5,fr5⟩=>?_)
  have I5':=I5.pinned (stat fr5) (T.obj _ _ st5)
  refine Js hp (thn (hg _ s5 σ3 H5 x u _ I5' r5 (step x H5 y5)) fun _ s6 ⟨σ6,H6,I6,q6⟩=>?_)
  refine Js hp (thn (hb _ s6 σ6 H6 _ I6 q6) fun f s7 q7=>?_)
  have again:∀ {σ7:St} {H7:Hp},Inv X (pins ++ z8g fp s5.heap) σ7 H7 s7→N σ7 H7→∃ m,m < n∧∃ i σ' H',Inv X pins σ' H' s7∧tn i s7.heap∧(∀ b ∈ fp,H' b=none)∧W i m σ' H':=fun {σ7 H7} I7 n7=>by
   obtain ⟨m',hm,w7⟩:=hN σ7 H7 n7
   refine ⟨m',hm,i + 1,σ7,H7,I7.unpinned,T.keep _ _ _ st5 fun b hb o e=>(I7.pin (b,o) (WS _ (WS _ (z40 hb e)))).1,fun b hb=>?_,w7⟩
   obtain ⟨o,e,d⟩:=T.obj _ _ st5 b hb
   exact (I7.pin (b,o) (WS _ (WS _ (z40 hb e)))).2.1
  cases f with
  | next=>obtain ⟨σ7,H7,I7,n7⟩:=q7; exact again I7 n7
  | cont=>obtain ⟨σ7,H7,I7,n7⟩:=q7; exact again I7 n7
  | brk=>obtain ⟨σ7,H7,I7,q7⟩:=q7; exact ⟨σ7,H7,I7.unpinned,q7⟩
  | ret v=>obtain ⟨x7,σ7,H7,I7,r7,q7⟩:=q7; exact ⟨x7,σ7,H7,I7.unpinned,r7,q7⟩
end
abbrev R2:=V→V→Hp→VK→Prop
def OpR (X:Cx) (f:Value→Value→Sem Value) (r:R2):Prop :=
 ∀ (pins:List (Addr×Obj)) (s:W2) (σ:St) (H:Hp) (x y:V) (v u:Value) (Q:VK),Inv X pins σ H s→RelV x v→RelV y u→r x y H Q →
  W5 (model X.prog X.w) X.A (f v u) (EP X pins σ Q) X.xe s
def UnR (X:Cx) (f:Value→Sem Value) (r:V→Hp→VK→Prop):Prop :=
 ∀ (pins:List (Addr×Obj)) (s:W2) (σ:St) (H:Hp) (x:V) (v:Value) (Q:VK),Inv X pins σ H s→RelV x v→r x H Q →
  W5 (model X.prog X.w) X.A (f v) (EP X pins σ Q) X.xe s
def CallR (X:Cx) (f:Value) (r:List V→Hp→VK→Prop):Prop :=
 ∀ (pins:List (Addr×Obj)) (s:W2) (σ:St) (H:Hp) (xs:List V) (us:List Value) (Q:VK),Inv X pins σ H s→Vals xs us→r xs H Q →
  W5 (model X.prog X.w) X.A (call f us) (EP X pins σ Q) X.xe s
def tOp (r:R2) (ta tb:TE):TE:=fun σ H Q=>ta σ H fun x H1=>tb σ H1 fun y H2=>r x y H2 Q
def tUn (r:V→Hp→VK→Prop) (ta:TE):TE:=fun σ H Q=>ta σ H fun x H1=>r x H1 Q
def rI (C:Int→Int→Prop) (g:Int→Int→V):R2:=fun x y H Q=>∃ i j,x = .int i∧y = .int j∧C i j∧Q (g i j) H
def rI0 (g:Int→Int→V):R2:=fun x y H Q=>∃ i j,x = .int i∧y = .int j∧Q (g i j) H
def rU (g:Int→V):V→Hp→VK→Prop:=fun x H Q=>∃ i,x = .int i∧Q (g i) H
section
variable {X:Cx} {a b c:Expr} {ta tb tc:TE} {pos:Pos}
theorem binT (ha:PE X a ta) (hb:PE X b tb) {pins:List (Addr×Obj)} {s:W2} {σ:St} {H:Hp} {R:V→V→Hp→Prop} (I:Inv X pins σ H s)
  (h:ta σ H fun x H1=>tb σ H1 fun y H2=>R x y H2) {Q:Value→W2→Prop} {f:Value→Value→Sem Value}
  (hf:∀ v u s2 x y H2,Inv X pins σ H2 s2→RelV x v→RelV y u→R x y H2→W5 (model X.prog X.w) X.A (f v u) Q X.xe s2) :
  W5 (model X.prog X.w) X.A (eval a X.env) (fun v s₁=>W5 (model X.prog X.w) X.A (eval b X.env) (fun u s₂=>W5 (model X.prog X.w) X.A (f v u) Q X.xe s₂) X.xe s₁) X.xe s:=by
 refine thn (ha pins s σ H _ I h) fun v s1 ⟨x,H1,I1,r1,q1⟩=>?_
 refine thn (hb pins s1 σ H1 _ I1 q1) fun u s2 ⟨y,H2,I2,r2,q2⟩=>?_
 exact hf v u s2 x y H2 I2 r1 r2 q2
theorem zex {op:Operator} {r:R2} (ho:OpR X (Qi op) r) (ha:PE X a ta) (hb:PE X b tb):PE X (.BinOp a op b pos) (tOp r ta tb):=by
 intro pins s σ H Q I h
 exact wpAny_BinOp (binT ha hb I h fun v u s2 x y H2 I2 rx ry q=>ho pins s2 σ H2 x y v u Q I2 rx ry q)
theorem pe_un (ho:UnR X (unaryOp op) r) (ha:PE X a ta):PE X (.UnaryOp op a pos) (tUn r ta):=by
 intro pins s σ H Q I h
 exact UnaryOp_ (thn (ha pins s σ H _ I h) fun v s1 ⟨x,H1,I1,r1,q1⟩=>ho pins s1 σ H1 x v Q I1 r1 q1)
theorem opI {f:Value→Value→Sem Value} {C:Int→Int→Prop} {g:Int→Int→Int}
  (rule:∀ (i j:Int) (t u:Tok) (s:W2) (Q:Value→W2→Prop) (E:Value→W2→Prop),C i j→Q (.int (g i j) s.toks) { s with toks:=s.toks + 1 }→W5 (model X.prog X.w) X.A (f (.int i t) (.int j u)) Q E s) :
  OpR X f (rI C fun i j=>.int (g i j)):=by
 intro pins s σ H x y v u Q I rx ry h
 obtain ⟨i,j,rfl,rfl,hc,q⟩:=h
 obtain ⟨t,rfl⟩:=rx
 obtain ⟨t',rfl⟩:=ry
 exact rule i j t t' s _ _ hc ⟨.int (g i j),H,I.tok _,⟨_,rfl⟩,q⟩
theorem opI0 {f:Value→Value→Sem Value} {g:Int→Int→Int}
  (rule:∀ (i j:Int) (t u:Tok) (s:W2) (Q:Value→W2→Prop) (E:Value→W2→Prop),Q (.int (g i j) s.toks) { s with toks:=s.toks + 1 }→W5 (model X.prog X.w) X.A (f (.int i t) (.int j u)) Q E s) :
  OpR X f (rI0 fun i j=>.int (g i j)):=by
 intro pins s σ H x y v u Q I rx ry h
 obtain ⟨i,j,rfl,rfl,q⟩:=h
 obtain ⟨t,rfl⟩:=rx
 obtain ⟨t',rfl⟩:=ry
 exact rule i j t t' s _ _ ⟨.int (g i j),H,I.tok _,⟨_,rfl⟩,q⟩
theorem opB0 {f:Value→Value→Sem Value} {g:Int→Int→Bool}
  (rule:∀ (i j:Int) (t u:Tok) (s:W2) (Q:Value→W2→Prop) (E:Value→W2→Prop),Q (.bool (g i j)) s→W5 (model X.prog X.w) X.A (f (.int i t) (.int j u)) Q E s) :
  OpR X f (rI0 fun i j=>.bl (g i j)):=by
 intro pins s σ H x y v u Q I rx ry h
 obtain ⟨i,j,rfl,rfl,q⟩:=h
 obtain ⟨t,rfl⟩:=rx
 obtain ⟨t',rfl⟩:=ry
 exact rule i j t t' s _ _ ⟨.bl (g i j),H,I,rfl,q⟩
def CDiv (i j:Int):Prop:=0 < j∧j < 1073741824
def CPow (i j:Int):Prop:=0≤j∧j≤1000000∧i.natAbs < 2 ^ 64
def CMul (i j:Int):Prop:=(-(2 ^ 64) < i∧i < 2 ^ 64)∨(-(2 ^ 64) < j∧j < 2 ^ 64)
theorem CMul.ok (h:CMul i j):IntMulOk i j:=by
 rcases h with ⟨h1,h2⟩ | ⟨h1,h2⟩
 ·exact .of_left (intBits_le_64 h1 h2)
 ·exact .of_right (intBits_le_64 h1 h2)
theorem op_add:OpR X (Qi .Add) (rI0 fun i j=>.int (i + j)):=opI0 fun _ _ _ _ _ _ _ q=>add_int q
theorem zgk:OpR X (Qi .Sub) (rI0 fun i j=>.int (i - j)):=opI0 fun _ _ _ _ _ _ _ q=>sub_int q
theorem op_mul:OpR X (Qi .Mult) (rI CMul fun i j=>.int (i * j)):=opI fun _ _ _ _ _ _ _ hc q=>mul_int q hc.ok
theorem zbq:OpR X (Qi .FloorDiv) (rI CDiv fun i j=>.int (i / j)):=opI fun i j _ _ _ _ _ hc q=>by
 have h1:(0:Int) < j:=hc.1
 have h2:j < 1073741824:=hc.2
 exact floordiv_int (by omega) (by rw [Int.fdiv_eq_ediv_of_nonneg i (by omega)]; exact q) (.inl (PyProof.noPylong_small (by omega)))
theorem z62:OpR X (Qi .Mod) (rI (fun _ j=>0 < j) fun i j=>.int (i % j)):=opI fun i j _ _ _ _ _ hc q=>by
 have h1:(0:Int) < j:=hc
 exact mod_int' (by omega) (by rw [Int.fmod_eq_emod_of_nonneg i (by omega)]; exact q)
theorem zgl:OpR X (Qi .Pow) (rI CPow fun i j=>.int (i ^ j.toNat)):=opI fun _ _ _ _ _ _ _ hc q=>pow_int_small hc.1 hc.2.1 hc.2.2 q
theorem unI {f:Value→Sem Value} {g:Int→Int}
  (rule:∀ (i:Int) (t:Tok) (s:W2) (Q:Value→W2→Prop) (E:Value→W2→Prop),Q (.int (g i) s.toks) { s with toks:=s.toks + 1 }→W5 (model X.prog X.w) X.A (f (.int i t)) Q E s) :
  UnR X f (rU fun i=>.int (g i)):=by
 intro pins s σ H x v Q I rx h
 obtain ⟨i,rfl,q⟩:=h
 obtain ⟨t,rfl⟩:=rx
 exact rule i t s _ _ ⟨.int (g i),H,I.tok _,⟨_,rfl⟩,q⟩
theorem zfm:UnR X (unaryOp .USub) (rU fun i=>.int (-i)):=unI fun _ _ _ _ _ q=>neg_int q
end
section
variable {X:Cx} {a b c:Expr} {ta tb tc:TE} {pos:Pos}
theorem z8G (I:Inv X pins σ H s) (q:Q (.bl k) H) (e:k=k'):EP X pins σ Q (.bool k') s:=by
 subst e
 exact ⟨.bl k,H,I,rfl,q⟩
theorem op_lt:OpR X (Wu .Lt) (rI0 fun i j=>.bl (decide (i < j))):=opB0 fun _ _ _ _ _ _ _ q=>lt_int q
theorem op_le:OpR X (Wu .LtE) (rI0 fun i j=>.bl (decide (i≤j))):=opB0 fun _ _ _ _ _ _ _ q=>le_int q
theorem op_gt:OpR X (Wu .Gt) (rI0 fun i j=>.bl (decide (j < i))):=opB0 fun _ _ _ _ _ _ _ q=>gt_int q
theorem op_ge:OpR X (Wu .GtE) (rI0 fun i j=>.bl (decide (j≤i))):=opB0 fun _ _ _ _ _ _ _ q=>ge_int q
theorem zbo:OpR X (Wu .Lt) (fun x y H Q=>∃ i j,x = .str i∧y = .str j∧Q (.bl (decide (i.cps.toList < j.cps.toList))) H):=by
 intro pins s σ H x y v u Q I rx ry h
 obtain ⟨i,j,rfl,rfl,q⟩:=h
 obtain ⟨t,rfl⟩:=rx
 obtain ⟨t',rfl⟩:=ry
 exact lt_str (z8G I q rfl)
theorem zbp:OpR X (Wu .In) (fun x y H Q=>∃ i j,x = .str i∧y = .str j∧Q (.bl (!(J2 j i 0 j.length 1).isEmpty)) H):=by
 intro pins s σ H x y v u Q I rx ry h
 obtain ⟨i,j,rfl,rfl,q⟩:=h
 obtain ⟨t,rfl⟩:=rx
 obtain ⟨t',rfl⟩:=ry
 exact in_str (z8G I q rfl)
theorem zgn:OpR X (Wu .Is) (fun x y H Q=>y = .non∧Q (.bl (decide (x = .non))) H):=by
 intro pins s σ H x y v u Q I rx ry h
 obtain ⟨rfl,q⟩:=h
 cases ry
 refine is_none_gen (z8G I q ?_)
 cases x <;> first
  | (cases rx; rfl)
  | (obtain ⟨t,rfl⟩:=rx; rfl)
theorem zeG:OpR X (Wu .IsNot) (fun x y H Q=>y = .non∧Q (.bl (!decide (x = .non))) H):=by
 intro pins s σ H x y v u Q I rx ry h
 obtain ⟨rfl,q⟩:=h
 cases ry
 refine isnot_none_gen (z8G I q ?_)
 cases x <;> first
  | (cases rx; rfl)
  | (obtain ⟨t,rfl⟩:=rx; rfl)
theorem z8i:OpR X (Wu .NotIn) (fun x y H Q=>∃ i j,x = .str i∧y = .str j∧Q (.bl (!(!(J2 j i 0 j.length 1).isEmpty))) H):=by
 intro pins s σ H x y v u Q I rx ry h
 obtain ⟨i,j,rfl,rfl,q⟩:=h
 obtain ⟨t,rfl⟩:=rx
 obtain ⟨t',rfl⟩:=ry
 exact notIn_str (z8G I q rfl)
theorem OpR.or (h:OpR X f r) (h':OpR X f r'):OpR X f (fun x y H Q=>r x y H Q∨r' x y H Q):=by
 intro pins s σ H x y v u Q I rx ry q
 rcases q with q | q
 ·exact h pins s σ H x y v u Q I rx ry q
 ·exact h' pins s σ H x y v u Q I rx ry q
theorem z0R (b:Expr) (h:op≠.In:=by decide) (h2:op≠.NotIn:=by decide):Qs op b=false:=by
 have e1:(op == CmpOp.In)=false:=by cases op <;> first | rfl | exact absurd rfl h
 have e2:(op == CmpOp.NotIn)=false:=by cases op <;> first | rfl | exact absurd rfl h2
 cases b <;> simp [Qs,e1,e2]
theorem zbk {op:CmpOp} {r:R2} (ho:OpR X (Wu op) r) (ha:PE X a ta) (hb:PE X b tb) (hm:Qs op b=false):PE X (.Compare a [op] [b] pos) (tOp r ta tb):=by
 intro pins s σ H Q I h
 exact wpAny_Compare1 (binT ha hb I h fun v u s2 x y H2 I2 rx ry q=>ho pins s2 σ H2 x y v u Q I2 rx ry q) hm
def zfs (t:TE):TT:=fun σ H Q=>t σ H fun x H'=>∃ k,x = .bl k∧Q k H'
theorem zbb (ho:OpR X (Wu op) r) (ha:PE X a ta) (hb:PE X b tb) (hm:Qs op b=false):PT X (.Compare a [op] [b] pos) (zfs (tOp r ta tb)):=by
 intro pins s σ H Q I h
 refine wpAny_isTrue_Compare1 (thn (ha pins s σ H _ I h) fun v s1 ⟨x,H1,I1,r1,q1⟩=>thn (hb pins s1 σ H1 _ I1 q1) fun u s2 ⟨y,H2,I2,r2,q2⟩ =>
  thn (ho pins s2 σ H2 x y v u _ I2 r1 r2 q2) fun c s3 ⟨z,H3,I3,r3,k,e,q3⟩=>?_) hm
 subst e
 cases r3
 exact WY ⟨H3,I3,q3⟩
def zaD (r r':R2) (ta tb tc:TE):TE:=fun σ H Q=>ta σ H fun x H1=>tb σ H1 fun y H2=>r x y H2 fun z H3=>∃ k,z = .bl k ∧
 (if k=true then tc σ H3 fun w' H4=>r' y w' H4 Q else Q (.bl false) H3)
theorem zcZ (ho:OpR X (Wu op) r) (ho':OpR X (Wu op') r') (ha:PE X a ta) (hb:PE X b tb) (hc:PE X c tc)
  (hm:lastMarks [op,op'] [b,c]=false:=by with_unfolding_all rfl):PE X (.Compare a [op,op'] [b,c] pos) (zaD r r' ta tb tc):=by
 intro pins s σ H Q I h
 refine Compare_chain (thn (ha pins s σ H _ I h) fun v s1 ⟨x,H1,I1,r1,q1⟩=>chain_link (thn (hb pins s1 σ H1 _ I1 q1) fun u s2 ⟨y,H2,I2,r2,q2⟩ =>
  thn (ho pins s2 σ H2 x y v u _ I2 r1 r2 q2) fun d s3 ⟨z,H3,I3,r3,k,e,q3⟩=>?_)) hm
 subst e
 cases r3
 refine WY ?_
 cases k with
 | false=>exact ite_ff ⟨.bl false,H3,I3,rfl,q3⟩
 | true=>exact ite_tt (chain_last (thn (hc pins s3 σ H3 _ I3 q3) fun w' s4 ⟨z',H4,I4,r4,q4⟩=>ho' pins s4 σ H4 y z' u w' Q I4 r2 r4 q4))
theorem zcS (ho:OpR X (Wu op) r) (ho':OpR X (Wu op') r') (ha:PE X a ta) (hb:PE X b tb) (hc:PE X c tc)
  (hm:lastMarks [op,op'] [b,c]=false:=by with_unfolding_all rfl):PT X (.Compare a [op,op'] [b,c] pos) (zfs (zaD r r' ta tb tc)):=by
 intro pins s σ H Q I h
 refine isTrue_chain (thn (ha pins s σ H _ I h) fun v s1 ⟨x,H1,I1,r1,q1⟩=>test_link (thn (hb pins s1 σ H1 _ I1 q1) fun u s2 ⟨y,H2,I2,r2,q2⟩ =>
  thn (ho pins s2 σ H2 x y v u _ I2 r1 r2 q2) fun d s3 ⟨z,H3,I3,r3,k,e,q3⟩=>?_)) hm
 subst e
 cases r3
 refine WY ?_
 cases k with
 | false =>
  obtain ⟨k',e',q'⟩:=q3
  cases e'
  exact ite_ff ⟨H3,I3,q'⟩
 | true =>
  refine ite_tt (test_last (thn (hc pins s3 σ H3 _ I3 q3) fun w' s4 ⟨z',H4,I4,r4,q4⟩=>thn (ho' pins s4 σ H4 y z' u w' _ I4 r2 r4 q4) fun d' s5 ⟨z2,H5,I5,r5,k2,e2,q5⟩=>?_))
  subst e2
  cases r5
  exact WY ⟨H5,I5,q5⟩
theorem z6Y:(W6:Nat) < 2 ^ 63:=by rw [WZ]; decide
theorem op_add_str:OpR X (Qi .Add) (fun x y H Q=>∃ i j,x = .str i∧y = .str j∧i.length + j.length≤W6∧Q (.str (i ++ j)) H):=by
 intro pins s σ H x y v u Q I rx ry h
 obtain ⟨i,j,rfl,rfl,hz,q⟩:=h
 obtain ⟨t,rfl⟩:=rx
 obtain ⟨t',rfl⟩:=ry
 exact add_str (fun t' tk=>⟨.str (i ++ j),H,I.tok _,⟨_,rfl⟩,q⟩) hz
theorem z4b (r:Vals [x] us):∃ u,us=[u]∧RelV x u:=by
 cases r with
 | cons r1 r2=>cases r2; exact ⟨_,rfl,r1⟩
theorem zfk (r:Vals [x,y] us):∃ u w',us=[u,w']∧RelV x u∧RelV y w':=by
 cases r with
 | cons r1 r2 =>
  cases r2 with
  | cons r3 r4=>cases r4; exact ⟨_,_,rfl,r1,r3⟩
theorem zcp (hc:X.calm=true):CallR X (.builtin "max") (fun xs H Q=>∃ i j,xs=[.int i,.int j]∧Q (.int (if j > i then j else i)) H):=by
 intro pins s σ H xs us Q I r h
 obtain ⟨i,j,rfl,q⟩:=h
 obtain ⟨u,w',rfl,⟨t,rfl⟩,⟨t',rfl⟩⟩:=zfk r
 refine max_two_ints (I.ok.hd hc) fun h' tk k=>⟨_,H,I.kept k,?_,q⟩
 by_cases hj:j > i
 ·rw [if_pos hj,if_pos hj]; exact ⟨_,rfl⟩
 ·rw [if_neg hj,if_neg hj]; exact ⟨_,rfl⟩
theorem zcr:CallR X (.type "int") (fun xs H Q=>(∃ i,xs=[.int i]∧Q (.int i) H)∨∃ k,xs=[.bl k]∧Q (.int (if k then 1 else 0)) H):=by
 intro pins s σ H xs us Q I r h
 rcases h with ⟨i,rfl,q⟩ | ⟨k,rfl,q⟩
 ·obtain ⟨u,rfl,t,rfl⟩:=z4b r
  exact call_int_int ⟨.int i,H,I,⟨_,rfl⟩,q⟩
 ·obtain ⟨u,rfl,r1⟩:=z4b r
  cases r1
  exact call_int_bool ⟨.int (if k then 1 else 0),H,I.tok _,⟨_,rfl⟩,q⟩
end
structure ObjM (h:Heap) (x dx C:Addr) (mA:Str→Option Value):Prop where
 obj:h.get? x=some (PySem.W.instObj C dx)
 ns:h.Ns1 dx mA
 ne:dx≠x
theorem zby {h:Heap} {dx:Addr} {mA:Str→Option Value} (n:h.Ns1 dx mA):∃ od,h.get? dx=some od∧∀ name,PySem.W.lookIn name od=some (mA name):=by
 obtain ⟨o,es,ep,ho,hd,hk,_,hm⟩:=n
 refine ⟨o,ho,fun name=>?_⟩
 have e:=hm name
 unfold nsFind findBy at e
 rw [← Array.find?_toList] at e
 unfold PySem.W.lookIn
 rw [hd]
 dsimp only
 split
 ·rename_i y q
  rw [q] at e
  exact congrArg some e
 ·rename_i q
  rw [q] at e
  have a:es.toList.any (·.refKey)=false:=by
   rw [List.any_eq_false]
   intro y hy
   obtain ⟨z,t,hkey⟩:=hk y (Array.mem_toList_iff.mp hy)
   simp [DictEntry.refKey,hkey]
  have a':¬ es.toList.any (·.refKey)=true:=by rw [a]; exact Q6
  rw [if_neg a']
  exact congrArg some e
theorem ObjM.look (I:ObjM h x dx C mA):∃ od,PySem.W.InstAt h x (PySem.W.instObj C dx) C (some od)∧∀ name,PySem.W.lookIn name od=some (mA name) :=
 let ⟨od,ho,hl⟩:=zby I.ns
 ⟨od,⟨I.obj,rfl,rfl,ho⟩,hl⟩
section
variable {prog:Wl} {w:Wq} {A:Wr} {E:Value→W2→Prop} {s:W2} {K:W1} {x dx C f:Addr} {mA:Str→Option Value} {name:Str} {v:Value}
end
theorem RelO.some_of (r:RelO (some v) o):∃ u,o=some u∧RelV v u:=by
 cases o with
 | none=>exact (show False from r).elim
 | some u=>exact ⟨u,rfl,r⟩
section
variable {P:Wl} {w:Wq} {H H':Hp} {h h':Heap} {a C dx:Addr} {fs fs':List (Str×V)}
theorem zeW (hok:HOk P w H h) (e:H a=some (.ins C dx fs)):∃ mA,ObjM h a dx C mA∧(∀ f,RelO (fs.lookup f) (mA f))∧PySem.Within mA (fs.map (·.1))∧fs.length≤1000∧H dx=some (.own a):=by
 obtain ⟨d,z,ne,ob,mA,n,r,q⟩:=(show ObjOk P w H h a (.ins C dx fs) from hok a _ e)
 exact ⟨mA,⟨ob,n,ne⟩,r,q,z,d⟩
end
structure Cls (K:W1) (C:Addr):Prop where
 pg:PySem.W.plainGet K C Str.empty=true
 hd:PySem.W.hasDictIn K C=true
 po:PySem.W.plainOver K C=true
 sa:Jh K (.ref C) "__setattr__" = some (some (.builtin "object.__setattr__"))
theorem Cls.get {K:W1} {C:Addr} (c:Cls K C) (f:Str):PySem.W.plainGet K C f=true:=c.pg
structure Con (K:W1) (C:Addr) (f:Str) (v:V) (u:Value):Prop where
 at_:Jh K (.ref C) f=some (some u)
 rel:RelV v u
 get:PySem.W.specialIn K u "__get__" = some none
 cp:PySem.W.copiedNames.contains f=false
structure Meth (K:W1) (C:Addr) (m:Str) (f:Addr):Prop where
 at_:Jh K (.ref C) m=some (some (.ref f))
 fn:PySem.W.isFn K (.ref f)=true
 kp:QY K (.ref f)=true
section
variable {X:Cx} {pins:List (Addr×Obj)} {σ:St} {H:Hp} {s:W2} {a C dx:Addr} {fs:List (Str×V)} {f:Str} {v:V} {A:Wr} {E:Value→W2→Prop}
end
section
variable {X:Cx} {o e value:Expr} {f:Str} {pos pos' tpos:Pos} {ta tv:TE}
end
section
variable {X:Cx} {pins:List (Addr×Obj)} {σ:St} {H:Hp} {s:W2} {A:Wr} {E:Value→W2→Prop} {Q:Value→W2→Prop} {c:Value} {b:Bool}
inductive TyOf (K:W1) (H:Hp):V→Value→Prop where
 | non:TyOf K H .non (.type "NoneType")
 | bl (x:Bool):TyOf K H (.bl x) (.type "bool")
 | int (i:Int):TyOf K H (.int i) (.type "int")
 | str (x:Str):TyOf K H (.str x) (.type "str")
 | flt (x:UInt64):TyOf K H (.flt x) (.type "float")
 | lst {a:Addr} {xs:List V} (e:H a=some (.lst xs)):TyOf K H (.ref a) (.type "list")
 | frz {a:Addr} {o:Obj} {xs:List V} (e:H a=some (.frz o (.lst xs))):TyOf K H (.ref a) (.type "list")
 | tup {a:Addr} {xs:List V} (e:H a=some (.tup xs)):TyOf K H (.ref a) (.type "tuple")
 | dK {a:Addr} {kvs:List (Key×V)} (e:H a=some (.dK kvs)):TyOf K H (.ref a) (.type "dict")
 | dT {a:Addr} {kvs:List (List Key×V)} (e:H a=some (.dT kvs)):TyOf K H (.ref a) (.type "dict")
 | ins {a C dx:Addr} {fs:List (Str×V)} (e:H a=some (.ins C dx fs)) (cl:Cls K C) (ha:Jh K (.ref C) "__class__" = some (some (.builtin "object.__class__")))
   (hn:PySem.W.specialIn K (.builtin "object.__class__") "__get__" = some (some (.builtin "getset_descriptor.__get__"))) (htk:PySem.W.takesIn K (.builtin "object.__class__")=some true)
   (hm:PySem.W.mroIn K C (.type "object")=some true):TyOf K H (.ref a) (.ref C)
theorem z26 (I:Inv X pins σ H s) (rx:RelV x u) (ty:TyOf X.K H x t) (e:QC X.K t c=some b) (h:∀ tk,Q (.bool b) { s with toks:=tk }) :
  W5 (model X.prog X.w) A (call (.builtin "isinstance") [u,c]) Q E s:=by
 cases ty with
 | non=>cases (show u=Value.none from rx); exact Qd PySem.W.kitx_none I.kIn True.intro e (fun z=>nomatch z) h
 | bl y=>cases (show u=Value.bool y from rx); exact Qd PySem.W.kitx_bool I.kIn True.intro e (fun z=>nomatch z) h
 | int i=>obtain ⟨t,q⟩:=(show ∃ t,u=Value.int i t from rx); cases q; exact Qd PySem.W.kitx_int I.kIn True.intro e (fun z=>nomatch z) h
 | str y=>obtain ⟨t,q⟩:=(show ∃ t,u=Value.str y t from rx); cases q; exact Qd PySem.W.kitx_str I.kIn True.intro e (fun z=>nomatch z) h
 | flt y=>obtain ⟨t,q⟩:=(show ∃ t,u=Value.float y t from rx); cases q; exact Qd PySem.W.kitx_float I.kIn True.intro e (fun z=>nomatch z) h
 | @lst a xs ea =>
  cases (show u=Value.ref a from rx)
  obtain ⟨_,_,n,_,h1⟩:=(show ObjOk X.prog X.w H s.heap a (.lst xs) from I.hok a _ ea)
  exact Qd PySem.W.kitx_list I.kIn ⟨_,h1,rfl⟩ e (fun z=>nomatch z) h
 | @frz a ob xs ea =>
  cases (show u=Value.ref a from rx)
  obtain ⟨_,_,_,n,_,h1⟩:=(show ObjOk X.prog X.w H s.heap a (.frz ob (.lst xs)) from I.hok a _ ea)
  exact Qd PySem.W.kitx_list I.kIn ⟨_,h1,rfl⟩ e (fun z=>nomatch z) h
 | @tup a xs ea =>
  cases (show u=Value.ref a from rx)
  obtain ⟨_,_,_,p⟩:=(show ObjOk X.prog X.w H s.heap a (.tup xs) from I.hok a _ ea)
  obtain ⟨o,h1,h2,_⟩:=p.tup
  exact Qd PySem.W.kitx_tuple I.kIn ⟨o,h1,h2⟩ e (fun z=>nomatch z) h
 | @dK a kvs ea =>
  cases (show u=Value.ref a from rx)
  obtain ⟨_,_,vs,_,p⟩:=(show ObjOk X.prog X.w H s.heap a (.dK kvs) from I.hok a _ ea)
  obtain ⟨o,es,ep,h1,h2,_⟩:=p
  exact Qd PySem.W.kitx_dict I.kIn ⟨o,h1,h2.1⟩ e (fun z=>nomatch z) h
 | @dT a kvs ea =>
  cases (show u=Value.ref a from rx)
  obtain ⟨_,_,xs,_,o,es,ep,h1,h2,_⟩:=(show ObjOk X.prog X.w H s.heap a (.dT kvs) from I.hok a _ ea)
  exact Qd PySem.W.kitx_dict I.kIn ⟨o,h1,h2.1⟩ e (fun z=>nomatch z) h
 | @ins a C dx fs ea cl ha hn htk hm =>
  cases (show u=Value.ref a from rx)
  obtain ⟨mA,O,_⟩:=zeW I.hok ea
  obtain ⟨od,J,_⟩:=O.look
  exact Qd (PySem.W.kitx_own (cl.get _) cl.hd ha hn htk hm) I.kIn J e (fun z=>nomatch z) h
end
structure Room (k:Nat) (A:Wr):Prop where
 hd:A.handled=none
 dp:A.depth + 3 * k + 5 < recursionLimit
 un:A.units + 16 * k + 200 < Qx
theorem Room.mono (r:Room k A) (h:j≤k):Room j A:=⟨r.hd,by have:=r.dp; omega,by have:=r.un; omega⟩
theorem Room.deeper (r:Room (k + 1) A) (env:Env):Room k (A.deeper env) :=
 ⟨r.hd,by have:=r.dp; show A.depth + 1 + 3 * k + 5 < _; omega,by have:=r.un; show A.units + 3 + 16 * k + 200 < _; omega⟩
theorem Room.depth (r:Room k A):A.depth < recursionLimit:=by have:=r.dp; omega
def tNil:TA:=fun _ H Q=>Q [] H
def zfv (ta:TE) (tr:TA):TA:=fun σ H Q=>ta σ H fun x H1=>tr σ H1 fun xs H2=>Q (x :: xs) H2
section
variable {X:Cx} {e:Expr} {es:List Expr} {te:TE} {t:TA} {pos:Pos}
theorem z32:PA X [] tNil:=fun _ _ _ _ H Q I h=>Calls.spliced_nil ⟨[],H,I,.nil,h⟩
theorem z1x (ha:PE X e te) (hr:PA X es t) (hs:We (e :: es) X.env=(false,eval e X.env) :: We es X.env:=by rfl):PA X (e :: es) (zfv te t):=by
 intro pos pins s σ H Q I h
 rw [hs]
 show W5 _ _ (spliced ((false,eval e X.env) :: QL pos (We es X.env))) _ _ s
 refine Calls.spliced_cons (thn (ha pins s σ H _ I h) fun u s1 ⟨x,H1,I1,r1,q1⟩=>?_)
 exact thn (hr pos pins s1 σ H1 _ I1 q1) fun us s2 ⟨xs,H2,I2,r2,q2⟩=>⟨x :: xs,H2,I2,.cons r1 r2,q2⟩
def tTup (t:TA):TE:=fun σ H Q=>t σ H fun xs H1=>xs.length≤W6∧∀ p,H1 p=none→Q (.ref p) (upd H1 p (.tup xs))
def tLst (t:TA):TE:=fun σ H Q=>t σ H fun xs H1=>xs.length≤W6∧∀ p,H1 p=none→Q (.ref p) (upd H1 p (.lst xs))
theorem zg9 {x1} (h:PA X es t):PE X (.Tuple es x1 pos) (tTup t):=by
 intro pins s σ H Q I hq
 refine wpAny_Tuple_spliced (thn (h pos pins s σ H _ I hq) fun us s1 ⟨xs,H1,I1,r,z,q⟩=>⟨by rw [← r.length]; exact z,?_⟩)
 have hf:H1 s1.heap.objs.size=none:=I1.hok.fresh (W8 _)
 refine ⟨.ref s1.heap.objs.size,upd H1 s1.heap.objs.size (.tup xs),I1.laid (t':=s1.toks) (fun b u e=>W4 _ e) (W8 _) ?_,rfl,q _ hf⟩
 exact ⟨z,us,r,⟨_,Wj _ rfl⟩⟩
theorem zge (h:PA X es t):PE X (.List es pos) (tLst t):=by
 intro pins s σ H Q I hq
 refine wpAny_List_spliced (thn (h pos pins s σ H _ I hq) fun us s1 ⟨xs,H1,I1,r,z,q⟩=>⟨by rw [← r.length]; exact z,?_⟩)
 have hf:H1 s1.heap.objs.size=none:=I1.hok.fresh (W8 _)
 refine ⟨.ref s1.heap.objs.size,upd H1 s1.heap.objs.size (.lst xs),I1.laid (t':=s1.toks) (fun b u e=>W4 _ e) (W8 _) ?_,rfl,q _ hf⟩
 exact ⟨z,us,0,r,Wj _ rfl⟩
end
abbrev Sp:=List V→Hp→VK→XK→Prop
abbrev CXT:=List Env→Hp→W2→XK→Value→W2→Prop
structure Env0 (P:Wl) (w:Wq) (K:W1) (mg:Str→Option Value) (base:Heap) (A:Wr) (outer:List Env) (s:W2) (H:Hp):Prop where
 frames:A.frames=some outer
 mod:Mod K mg base
 bs:∀ b o,base.get? b=some o→s.heap.get? b=some o∧H b=none
 bsz:base.objs.size≤s.heap.objs.size
 funs:s.heap.FunFrames base outer
 frf:∀ b ∈ frs outer,H b=none
 hok:HOk P w H s.heap
 bare:AllBare s.gens
def CE (outer:List Env) (P:Wl) (w:Wq) (H:Hp) (s:W2) (Q:VK) (u:Value) (s':W2):Prop :=
 ∃ v H',s'.os=s.os∧AllBare s'.gens∧Un (frs outer) [] H H' s.heap s'.heap∧HOk P w H' s'.heap∧RelV v u∧Q v H'
def CR (CX:CXT) (outer:List Env) (P:Wl) (w:Wq) (H:Hp) (s:W2) (Q:VK) (E:XK) (r:Result) (s':W2):Prop :=
 match r with
 | .ok (.ret u)=>CE outer P w H s Q u s'
 | .ok _=>False
 | .error e=>CX outer H s E e s'
structure FnOk (P:Wl) (w:Wq) (K:W1) (mg:Str→Option Value) (base:Heap) (CX:CXT) (k:Nat) (f:Addr) (fd:Q7) (ps:List Str) (sp:Sp):Prop where
 len:∀ vs H Q E,sp vs H Q E→vs.length=ps.length
 run:∀ (A:Wr) (outer:List Env) (s:W2) (H:Hp) (args:Args) (us:List Value) (vs:List V) (Q:VK) (E:XK),Room k A→Env0 P w K mg base A outer s H→BindsTo s fd args (ps.zip us)→Vals vs us→sp vs H Q E →
  QM (model P w) A (.call (.ref f) args) (CR CX outer P w H s Q E) s
section
variable {X:Cx} {pins:List (Addr×Obj)} {σ:St} {H:Hp} {s s':W2}
theorem Inv.env0 (I:Inv X pins σ H s):Env0 X.prog X.w X.K X.mg X.base X.A X.stack s H :=
 ⟨I.ok.frames,I.ok.mod,I.bs,WV I.ok.bsz I.sz,I.stack,I.stkFree,I.hok,I.bare⟩
theorem Inv.after (I:Inv X pins σ H s) (h:CE X.stack X.prog X.w H s Q u s'):EP X pins σ Q u s':=by
 obtain ⟨v,H',os,bare,un,hok,r,q⟩:=h
 obtain ⟨hh,g,d,t,os'⟩:=s'
 obtain rfl:os'=s.os:=os
 exact ⟨v,H',I.call (h':=hh) (g':=g) (d':=d) (t':=t) (ch:=[]) un hok bare (fun b z=>absurd z (by simp)),r,q⟩
end
def zfx (sp:Sp) (dvs:List V) (E:XK) (t:TA):TE:=fun σ H Q=>t σ H fun vs H1=>sp (vs ++ dvs) H1 Q E
def Binds (K:W1) (fd:Q7) (ps:List Str) (ds:List Value):Prop :=
 ∀ (s:W2) (us:List Value),K.In s.heap→(us ++ ds).length=ps.length→BindsTo s fd ⟨us,[]⟩ (ps.zip (us ++ ds))
theorem Binds.all {K:W1} {fd:Q7} {ps:List Str} (h:∀ us:List Value,us.length=ps.length→bindArgs fd ⟨us,[]⟩=pure (ps.zip us)):Binds K fd ps []:=fun s us _ hl=>by
 rw [J7] at hl ⊢
 exact .of_eq (h us hl)
def zcA (CX:CXT) (X:Cx) (E:XK):Prop:=∀ (pins:List (Addr×Obj)) (σ:St) (H:Hp) (s:W2) (e:Value) (s':W2),Inv X pins σ H s→CX X.stack H s E e s'→X.xe e s'
section
variable {X:Cx} {CX:CXT} {k:Nat} {f C:Addr} {fd:Q7} {ps:List Str} {sp:Sp} {dvs:List V} {ds:List Value} {E:XK} {x m:Str} {p pos apos:Pos} {e o:Expr} {es:List Expr} {ta:TE} {t:TA}
theorem zfG (F:FnOk X.prog X.w X.K X.mg X.base CX k f fd ps sp) (hr:Room k X.A) (hb:Binds X.K fd ps ds) (hd:Vals dvs ds) (hx:zcA CX X E)
  (I:Inv X pins σ H s) (r:Vals vs us) (h:sp (vs ++ dvs) H Q E):W5 (model X.prog X.w) X.A (call (.ref f) us) (EP X pins σ Q) X.xe s:=by
 have r2:Vals (vs ++ dvs) (us ++ ds):=r.append hd
 have hl:(us ++ ds).length=ps.length:=by rw [← r2.length]; exact F.len _ _ _ _ h
 refine wpAny_call (codeAny_mono (F.run X.A X.stack s H ⟨us,[]⟩ (us ++ ds) (vs ++ dvs) Q E hr I.env0 (hb s us I.kIn hl) r2 h) fun r s' hq=>?_)
 cases r with
 | error e=>exact hx pins σ H s e s' I hq
 | ok fl =>
  cases fl with
  | ret u=>exact I.after hq
  | next=>exact False.elim hq
  | brk=>exact False.elim hq
  | cont=>exact False.elim hq
theorem zeA (F:FnOk X.prog X.w X.K X.mg X.base CX k f fd ps sp) (hr:Room k X.A) (hg:Gl X x) (hm:X.mg x=some (.ref f)) (hk:QY X.K (.ref f)=true) (hb:Binds X.K fd ps ds) (hd:Vals dvs ds) (hx:zcA CX X E)
  (ha:PA X (e :: es) t) (hdb:(x == ("__debug__" : Str))=false:=by decide) (he:We (e :: es) X.env=(false,eval e X.env) :: We es X.env:=by rfl) (hpl:(QL pos (We es X.env)).any (·.1)=false:=by rfl) :
  PE X (.Call (.Name x p) (e :: es) [] pos) (zfx sp dvs E t):=by
 intro pins s σ H Q I h
 refine wpAny_Call_Name_kw (zbz I hg hm ?_ hdb)
 refine PySem.W.callWith_K (h₀:=X.base) I.ok.mod.kin hk (thn (ha pos pins s σ H _ I h) fun us s1 ⟨vs,H1,I1,r,q⟩=>⟨I1.kIn,?_⟩) he hpl
 exact zfG F hr hb hd hx I1 r q
structure Mk (K:W1) (C f:Addr):Prop where
 makes:PySem.W.makesIn K C=true
 init:Jh K (.ref C) "__init__" = some (some (.ref f))
 fn:PySem.W.isFn K (.ref f)=true
 kp:QY K (.ref C)=true
end
section
variable {X:Cx} {CX:CXT} {k:Nat} {f C:Addr} {fd:Q7} {ps ks:List Str} {sp:Sp} {E:XK} {x m:Str} {p pos apos kpos:Pos} {e o:Expr} {es:List Expr} {kws:List Keyword} {te ta:TE} {t tk:TA} {nm:Option Str}
structure KBinds (K:W1) (fd:Q7) (ps ks:List Str) (g:List Value→List Value→List Value) (gV:List V→List V→List V):Prop where
 to:∀ (s:W2) (us ws:List Value),K.In s.heap→(g us ws).length=ps.length→BindsTo s fd ⟨us,ks.zip ws⟩ (ps.zip (g us ws))
 rel:∀ {vs:List V} {us:List Value} {zs:List V} {ws:List Value},Vals vs us→Vals zs ws→Vals (gV vs zs) (g us ws)
variable {g:List Value→List Value→List Value} {gV:List V→List V→List V}
end
structure FnScope (N P:List Str) (sc:Scope):Prop where
 kind:sc.kind = .function
 co:sc.isCoroutine=false
 gen:sc.isGenerator=false
 nd:N.Nodup
 pre:N.take P.length=P
 par:∀ x ∈ P,sc.names.lookup x=some .local∨sc.names.lookup x=some .cell
 nofree:∀ y ∈ sc.names,y.2≠.free
theorem z8R {kindOf:Str→Option NameKind} {x:Str}:∀ {binds:List (Str×Value)} {m:Str→Option Value},(∀ v,(x,v) ∉ binds)→bindL kindOf binds m x=m x
 | [],_,_=>rfl
 | (n,v) :: r,m,h=>by
  unfold bindL
  rw [z8R fun w hw=>h w (Wi _ hw)]
  split
  ·have:x≠n:=by rintro rfl; exact h v Wm
   simp [this]
  ·rfl
theorem z8T {kindOf:Str→Option NameKind} {x:Str}:∀ {binds:List (Str×Value)} {m:Str→Option Value},(∀ v,(x,v) ∉ binds)→bindC kindOf binds m x=m x
 | [],_,_=>rfl
 | (n,v) :: r,m,h=>by
  unfold bindC
  rw [z8T fun w hw=>h w (Wi _ hw)]
  split
  ·rfl
  ·have:x≠n:=by rintro rfl; exact h v Wm
   simp [this]
theorem z8S {kindOf:Str→Option NameKind} {x:Str} {v:Value}:∀ {P:List Str} {vs:List Value} {i:Nat} {m:Str→Option Value},P.Nodup→P[i]? = some x→vs[i]? = some v→kindOf x=some .local →
  bindL kindOf (P.zip vs) m x=some v
 | [],_,_,_,_,h,_,_=>by simp at h
 | _ :: _,[],_,_,_,_,h,_=>by simp at h
 | p :: P,w :: vs,0,m,nd,h1,h2,hk=>by
  simp at h1 h2; subst h1; subst h2
  show bindL kindOf ((p,w) :: P.zip vs) m p=_
  unfold bindL
  rw [z8R fun v hv=>(WO.mp nd).1 (JK hv).1,if_pos hk]
  simp
 | p :: P,w :: vs,i + 1,m,nd,h1,h2,hk=>by
  show bindL kindOf ((p,w) :: P.zip vs) m x=_
  unfold bindL
  exact z8S (i:=i) (WO.mp nd).2 (by simpa using h1) (by simpa using h2) hk
theorem z8U {kindOf:Str→Option NameKind} {x:Str} {v:Value}:∀ {P:List Str} {vs:List Value} {i:Nat} {m:Str→Option Value},P.Nodup→P[i]? = some x→vs[i]? = some v→kindOf x≠some .local →
  bindC kindOf (P.zip vs) m x=some v
 | [],_,_,_,_,h,_,_=>by simp at h
 | _ :: _,[],_,_,_,_,h,_=>by simp at h
 | p :: P,w :: vs,0,m,nd,h1,h2,hk=>by
  simp at h1 h2; subst h1; subst h2
  show bindC kindOf ((p,w) :: P.zip vs) m p=_
  unfold bindC
  rw [z8T fun v hv=>(WO.mp nd).1 (JK hv).1,if_neg hk]
  simp
 | p :: P,w :: vs,i + 1,m,nd,h1,h2,hk=>by
  show bindC kindOf ((p,w) :: P.zip vs) m x=_
  unfold bindC
  exact z8U (i:=i) (WO.mp nd).2 (by simpa using h1) (by simpa using h2) hk
def z6y (N:List Str) (vs:List V):St:=vs.map some ++ Wd (N.length - vs.length) none
def cxOf (CX:CXT) (P:Wl) (w:Wq) (K:W1) (mg:Str→Option Value) (base:Heap) (N:List Str) (qual:Str) (scope:Scope) (f:Addr) (cd:Value) (A:Wr) (outer:List Env) (s:W2) (H:Hp) (E:XK):Cx where
 prog:=P
 w:=w
 K:=K
 mg:=mg
 base:=base
 A:=A.deeper (envOfC qual scope s.heap.objs.size f cd)
 N:=N
 s₀:=s
 H₀:=H
 env:=envOfC qual scope s.heap.objs.size f cd
 outer:=outer
 stack:=envOfC qual scope s.heap.objs.size f cd :: outer
 ex:=[]
 calm:=true
 fn:=fun _=>true
 pn:=[]
 xe:=fun e s'=>W5 (model P w) (A.deeper (envOfC qual scope s.heap.objs.size f cd)) (leaving (envOfC qual scope s.heap.objs.size f cd) e) (fun _ s''=>CX outer H s E e s'') (fun e' s''=>CX outer H s E e' s'') s'
theorem z9W {sc:Scope} {n:Nat} {x:Str} (h:sc.names.lookup x=some .cell):∃ c,(QD n sc.names []).lookup x=some c:=by
 have q:=PySem.W.cellsFrom_some sc.names n [] (.inl h)
 exact Option.isSome_iff_exists.mp q
theorem zbN {CX:CXT} {P:Wl} {w:Wq} {K:W1} {mg:Str→Option Value} {base:Heap} {N ps:List Str} {qual:Str} {scope:Scope} {f:Addr} {cd:Value} {A:Wr} {outer:List Env} {s s1:W2} {H:Hp} {E:XK} {us:List Value} {vs:List V}
  (S:FnScope N ps scope) (hd:A.handled=none) (e0:Env0 P w K mg base A outer s H) (hl:vs.length=ps.length) (r:Vals vs us)
  (x:InCallC s s.heap.objs.size (bindL (envOfC qual scope s.heap.objs.size f cd).kindOf (ps.zip us) fun _=>none) (QD (s.heap.objs.size + 1) scope.names []) (bindC (envOfC qual scope s.heap.objs.size f cd).kindOf (ps.zip us) fun _=>none) s1) :
  Inv (cxOf CX P w K mg base N qual scope f cd A outer s H E) [] (z6y N vs) H s1:=by
 have hpl:ps.length≤N.length:=by have:=congrArg List.length S.pre; rw [Jl] at this; omega
 obtain ⟨h1,tk,rfl,hk⟩:=x.done
 have noA:∀ b:Addr,b ∉ (cxOf CX P w K mg base N qual scope f cd A outer s H E).ex:=fun b z=>absurd (show b ∈ ([]:List Addr) from z) (by simp)
 refine ⟨⟨e0.mod,S.kind,rfl,rfl,W8 _,fun y z c h1 h2=>?_,fun y hy=>?_,fun y c _ h=>?_,fun _=>hd,Around.frames_deeper e0.frames,.inr ⟨rfl,rfl⟩,fun b z=>absurd z (noA b),e0.bs,e0.bsz,fun b _ _=>noA b,fun b z=>absurd z (noA b),e0.funs,e0.frf⟩,
  rfl,e0.bare,Un.kept hk,⟨_,x.toInCall.ns,fun i y v h1 h2 h3=>?_⟩,fun y c h=>⟨_,x.cell y c h⟩,e0.hok.fresh (W8 _),fun y c h=>?_,fun p hp=>absurd (show p ∈ ([]:List (Addr×Obj)) from hp) (by simp),e0.hok.kept hk,?_⟩
 ·exact name_of_addr x.apart (WA h1) (WA h2)
 ·have hy:scope.names.lookup y=some .cell∨scope.names.lookup y=some .free:=hy
  rcases hy with hy | hy
  ·exact z9W hy
  ·exact absurd rfl (S.nofree _ (WA hy))
 ·exact Jf (x.above y c (WA h))
 ·have hi:i < vs.length:=by
   unfold z6y at h2
   by_cases hi:i < vs.length
   ·exact hi
   ·rw [List.getElem?_append_right (by simpa using hi)] at h2
    rw [List.getElem?_replicate] at h2
    split at h2 <;> cases h2
  have ha:vs[i]? = some v:=by
   unfold z6y at h2
   rw [List.getElem?_append_left (by simpa using hi),Q0] at h2
   cases e:vs[i]? with
   | none=>rw [e] at h2; cases h2
   | some a=>rw [e] at h2; cases h2; rfl
  obtain ⟨u,hu,rv⟩:=r.get ha
  have hp:ps[i]? = some y:=by
   rw [← S.pre,List.getElem?_take_of_lt (by omega)]; exact h1
  have ndP:ps.Nodup:=by rw [← S.pre]; exact S.nd.sublist (List.take_sublist _ _)
  refine ⟨u,rv,?_⟩
  rcases S.par y (WD hp) with k | k
  ·exact .inl ⟨k,z8S ndP hp hu k⟩
  ·obtain ⟨c,e⟩:=z9W (n:=s.heap.objs.size + 1) k
   refine .inr ⟨.inl k,c,e,?_⟩
   have q:=x.cell y c e
   rw [z8U ndP hp hu (by show scope.names.lookup y≠_; rw [k]; decide)] at q
   exact q
 ·exact e0.hok.fresh (Jf (x.above y c (WA h)))
 ·unfold z6y
  show _=N.length
  rw [Qp,Wo,List.length_replicate]
  omega
theorem fn_of {CX:CXT} {P:Wl} {w:Wq} {K:W1} {mg:Str→Option Value} {base:Heap} {k:Nat} {f:Addr} {name qual:Str} {params:Arguments} {body:List Stmt} {scope:Scope} {dV kV doc pm cdv ct oc:Value} {an od:Option Addr}
  {osl:Array (Option Value)} {N ps:List Str} {sp:Sp} (lk:K.lookup f=some ⟨oc,od,.func (QF name qual params body scope dV kV doc pm an cdv ct),osl⟩) (hcd:PySem.W.codeIn K cdv qual=true) (S:FnScope N ps scope)
  (len:∀ vs H Q E,sp vs H Q E→vs.length=ps.length)
  (hbody:∀ (A:Wr) (outer:List Env) (s:W2) (H:Hp) (vs:List V) (Q:VK) (E:XK),Room k (A.deeper (envOfC qual scope s.heap.objs.size f cdv))→sp vs H Q E →
   ∃ t,PSs (cxOf CX P w K mg base N qual scope f cdv A outer s H E) body t∧t { nx:=fun _ H'=>Q .non H',rt:=Q } (z6y N vs) H) :
  FnOk P w K mg base CX (k + 1) f (QF name qual params body scope dV kV doc pm an cdv ct) ps sp:=by
 refine ⟨len,fun A outer s H args us vs Q E hr e0 hb r hsp=>?_⟩
 have hl:=len _ _ _ _ hsp
 have KX:K.In s.heap:=e0.mod.kin.keeps fun b o e=>(e0.bs b o e).1
 have lim:s.heap.NoLimit:=e0.mod.nolimit.keeps fun b o e=>(e0.bs b o e).1
 have hkind:∀ y ∈ ps.zip us,scope.names.lookup y.1=some .local∨(scope.names.lookup y.1=some .cell∧((QD (s.heap.objs.size + 1) scope.names []).lookup y.1).isSome=true):=fun ⟨n,v⟩ hy=>by
  rcases S.par n (JK hy).1 with q | q
  ·exact .inl q
  ·exact .inr ⟨q,PySem.W.cellsFrom_some _ _ _ (.inl q)⟩
 refine codeAny_call_function hr.depth (KX _ _ lk) rfl S.co S.gen rfl (PySem.W.codeRec_of KX hcd) (hb _ _ _ _ ?_)
 refine wpAny_newFunctionEnv_cells S.kind hkind fun env he s1 x=>?_
 subst he
 refine ⟨lim.keeps x.toInCall.keep,codeAny_func ?_⟩
 obtain ⟨t,ht,hq⟩:=hbody A outer s H vs Q E (hr.deeper _) hsp
 have I:Inv (cxOf CX P w K mg base N qual scope f cdv A outer s H E) [] (z6y N vs) H s1:=zbN S hr.hd e0 hl r x
 refine Ql (ht [] s1 (z6y N vs) H _ I hq) (fun fl s' hs=>?_) fun e s' hs=>hs
 have fin:∀ {σ':St} {H':Hp} {v:V} {u:Value},Inv (cxOf CX P w K mg base N qual scope f cdv A outer s H E) [] σ' H' s'→RelV v u→Q v H'→CE outer P w H s Q u s' :=
  fun {σ' H' v u} J rv q=>⟨v,H',J.os,J.bare,J.base,J.hok,rv,q⟩
 cases fl with
 | ret u =>
  obtain ⟨v,σ',H',J,rv,q⟩:=hs
  exact fin J rv q
 | next =>
  obtain ⟨σ',H',J,q⟩:=hs
  exact fin (v:=V.non) (u:=Value.none) J rfl q
 | brk =>
  obtain ⟨_,_,_,q⟩:=hs
  exact False.elim q
 | cont =>
  obtain ⟨_,_,_,q⟩:=hs
  exact False.elim q
section
variable {X:Cx} {x:Str} {p pos:Pos} {e:Expr} {es:List Expr} {t:TA} {id T:String} {r:List V→Hp→VK→Prop}
def tCB (r:List V→Hp→VK→Prop) (t:TA):TE:=fun σ H Q=>t σ H fun vs H1=>r vs H1 Q
theorem z5I (hc:CallR X (.builtin id) r) (hg:Gl X x) (hm:X.mg x=none) (hv:Qz x=some (.builtin id)) (ha:PA X (e :: es) t) (hn:x≠"__name__":=by decide) (hdb:(x == ("__debug__" : Str))=false:=by decide)
  (he:We (e :: es) X.env=(false,eval e X.env) :: We es X.env:=by rfl) (hpl:(QL pos (We es X.env)).any (·.1)=false:=by rfl):PE X (.Call (.Name x p) (e :: es) [] pos) (tCB r t):=by
 intro pins s σ H Q I h
 refine wpAny_Call_Name_kw (z8v I hg hm hv ?_ hn hdb)
 exact PyProof.Rows.callWith_builtin1 (thn (ha pos pins s σ H _ I h) fun us s1 ⟨vs,H1,I1,r1,q1⟩=>hc pins s1 σ H1 vs us Q I1 r1 q1) he hpl
theorem z60 (hc:CallR X (.type T) r) (hg:Gl X x) (hm:X.mg x=none) (hv:Qz x=some (.type T)) (ha:PA X (e :: es) t) (hn:x≠"__name__":=by decide) (hdb:(x == ("__debug__" : Str))=false:=by decide)
  (he:We (e :: es) X.env=(false,eval e X.env) :: We es X.env:=by rfl) (hpl:(QL pos (We es X.env)).any (·.1)=false:=by rfl):PE X (.Call (.Name x p) (e :: es) [] pos) (tCB r t):=by
 intro pins s σ H Q I h
 refine wpAny_Call_Name_kw (z8v I hg hm hv ?_ hn hdb)
 exact PyProof.Rows.callWith_type1 (thn (ha pos pins s σ H _ I h) fun us s1 ⟨vs,H1,I1,r1,q1⟩=>hc pins s1 σ H1 vs us Q I1 r1 q1) he hpl
end
end L2
namespace HT
open PySem PyProof.Rows
section
open PySem.SeqAt
open PySem.AutoSeq1 (wpAny_loadPart')
open PySem.MeetsSeq PySem.MeetsSeq2 PySem.MeetsSeq3
end
section
variable {prog:Wl} {w:Wq} {A:Wr} {E:Value→W2→Prop} {s:W2}
theorem cat_tup (ht:IsTup s.heap t vs.toArray) (hb:IsTup s.heap b ws.toArray) (hv:vs≠[])
  (h1:ws=[]→Q (.ref t) s) (h2:ws≠[]→Q (.ref s.heap.objs.size) { s with heap:=s.heap.push { cls:=.type "tuple",data:=.seq (vs ++ ws).toArray } })
  (hsz:vs.length + ws.length≤W6):W5 (model prog w) A (Qi .Add (.ref t) (.ref b)) Q E s:=by
 obtain ⟨⟨cls,dd,data,sl⟩,ho,hc,n,hd⟩:=id ht
 obtain ⟨⟨cls2,dd2,data2,sl2⟩,ho2,hc2,n2,hd2⟩:=id hb
 simp only at hc hd hc2 hd2
 subst hc hd hc2 hd2
 have e:vs.toArray ++ ws.toArray=(vs ++ ws).toArray:=by simp
 by_cases hw:ws=[]
 ·exact concat_meets ⟨_,ho,rfl⟩ ⟨_,ho2,rfl⟩ noFill_tuple_add seq_tuple_add PySem.F.slot_tuple_add PySem.F.entry_tuple_add (PySem.F.args_tuple_add_2 _ _)
   (tuple_addW1 t b vs.toArray ws.toArray n n2 dd dd2 sl sl2 (by simpa using hv) (by simp [hw])) ⟨ho,ho2,h1 hw⟩
 ·refine concat_meets ⟨_,ho,rfl⟩ ⟨_,ho2,rfl⟩ noFill_tuple_add seq_tuple_add PySem.F.slot_tuple_add PySem.F.entry_tuple_add (PySem.F.args_tuple_add_2 _ _)
   (tuple_addW2 t b vs.toArray ws.toArray n n2 dd dd2 sl sl2 (by simpa using hv) (by simpa using hw) (by rw [Wb,Wb]; exact hsz)) ⟨ho,ho2,?_⟩
  rw [e]
  exact h2 hw
def sIx (n d:Nat):Option Int→Nat
 | none=>d
 | some v=>if v < 0 then (v + (n:Int)).toNat else min v.toNat n
theorem sIx_le (n d:Nat) (hd:d≤n) (o:Option Int):sIx n d o≤n:=by
 cases o with
 | none=>exact hd
 | some v =>
  show (if v < 0 then (v + (n:Int)).toNat else min v.toNat n)≤n
  by_cases hv:v < 0
  ·rw [if_pos hv]; omega
  ·rw [if_neg hv]; exact Nat.min_le_right _ _
theorem zcj (v:Int) (n d:Nat):(if v < 0 then max (v + (n:Int)) 0 else min v (n:Int))=((sIx n d (some v):Nat):Int):=by
 show (if v < 0 then max (v + (n:Int)) 0 else min v (n:Int))=(((if v < 0 then (v + (n:Int)).toNat else min v.toNat n):Nat):Int)
 by_cases hv:v < 0
 ·simp only [if_pos hv]; omega
 ·simp only [if_neg hv]; omega
theorem zax (lo hi:Option Int) (n:Nat):Qm lo hi 1 (n:Int)=(((sIx n 0 lo:Nat):Int),((sIx n n hi:Nat):Int)):=by
 have h1:¬ ((1:Int) < 0):=by omega
 unfold Qm
 simp only [h1,if_false]
 refine Prod.ext ?_ ?_
 ·cases lo with
  | none=>rfl
  | some v=>exact zcj v n 0
 ·cases hi with
  | none=>rfl
  | some v=>exact zcj v n n
theorem zab (i j:Nat):WU (i:Int) (j:Int) 1=j - i:=by
 unfold WU
 have h1:(1:Int) > 0:=by omega
 simp only [h1,if_true,Int.ediv_one]
 split <;> omega
theorem z6P (p:IsPart v o) (h:Q o s):W5 (model prog w) A (Builtin.Slice.slicePartIndex v) Q E s:=by
 cases p with
 | none=>exact slicePart_none h
 | int i t=>exact slicePart_int h
theorem sliceApplied_gen {sl:Addr} {vl vu:Value} {lo hi:Option Int} {n:Nat} {Q:Int×Int×Nat→W2→Prop} (hs:s.heap.IsSliceOf sl vl vu .none) (pl:IsPart vl lo) (pu:IsPart vu hi)
  (h:Q (((sIx n 0 lo:Nat):Int),1,sIx n n hi - sIx n 0 lo) s):W5 (model prog w) A (QQ (.ref sl) (pure (n:Int))) Q E s:=by
 obtain ⟨os,hos,hcs,hds⟩:=id hs
 unfold QQ Builtin.Slice.sliceFields
 refine W0 (W0 (QO hos hds (x:=vl) rfl (W0 (QO hos hds (x:=vu) rfl (W0 (QO hos hds (x:=.none) rfl (W3 ?_)))))))
 refine W0 (slicePart_none ?_)
 show W5 _ _ (if ((1:Int) == 0)=true then _ else _) _ _ s
 rw [if_neg (by decide)]
 refine W0 (z6P pl (W0 (z6P pu (W0 (W3 ?_)))))
 show W5 _ _ (match Qm lo hi 1 (n:Int) with | (lo,hi)=>pure (lo,(1:Int),WU lo hi 1)) _ _ s
 rw [zax lo hi n]
 show W5 _ _ (pure (((sIx n 0 lo:Nat):Int),(1:Int),WU ((sIx n 0 lo:Nat):Int) ((sIx n n hi:Nat):Int) 1)) _ _ s
 rw [zab]
 exact W3 h
theorem zcW (xs:Array Value) (i k:Nat):((Wf k).filterMap fun (m:Nat)=>xs[((i:Int) + (m:Int) * 1).toNat]?).toArray=((xs.toList.drop i).take k).toArray:=by
 have e:(fun (m:Nat)=>xs[((i:Int) + (m:Int) * 1).toNat]?)=fun m=>xs[i + m]?:=by
  funext m
  have:((i:Int) + (m:Int) * 1).toNat=i + m:=by omega
  rw [this]
 rw [e]
 have:=pick_run xs i k
 rw [List.filterMap_map] at this
 have e2:((fun x=>xs[x]?) ∘ fun x=>i + x)=fun m=>xs[i + m]?:=rfl
 rw [e2] at this
 rw [this]
theorem getItem_tuple_cut {t sl:Addr} {items:Array Value} {vl vu:Value} {lo hi:Option Int} {Q:Value→W2→Prop} (ht:IsTup s.heap t items) (hs:s.heap.IsSliceOf sl vl vu .none) (pl:IsPart vl lo) (pu:IsPart vu hi)
  (hw:¬ (sIx items.size 0 lo=0∧sIx items.size items.size hi=items.size))
  (h:Q (.ref s.heap.objs.size) { s with heap:=s.heap.push { cls:=.type "tuple",data:=.seq ((items.toList.drop (sIx items.size 0 lo)).take (sIx items.size items.size hi - sIx items.size 0 lo)).toArray } })
  (hsz:items.size≤W6):W5 (model prog w) A (Jp (.ref t) (.ref sl)) Q E s:=by
 have htake:sizeOk (.seq ((items.toList.drop (sIx items.size 0 lo)).take (sIx items.size items.size hi - sIx items.size 0 lo)).toArray):=by
  show ((items.toList.drop (sIx items.size 0 lo)).take (sIx items.size items.size hi - sIx items.size 0 lo)).toArray.size≤W6
  rw [Wb,Jl,List.length_drop,Wx]
  omega
 have hj:sIx items.size items.size hi≤items.size:=sIx_le _ _ (W8 _) hi
 obtain ⟨os,hos,hcs,hds⟩:=id hs
 have hTs:s.TypeIs (.ref sl) "slice":=⟨os,hos,hcs⟩
 unfold Jp
 try with_reducible refine WH ?_
 first | refine W0 (W3 ?_) | skip
 refine W0 (wpAny_sequenceKey ht.typeIs (by decide) ?_)
 refine W0 (Qw (name:=Str.ofString "__getitem__") ht.typeIs Q4
  (Q8 Q4 ht.typeIs entry_tuple_getitem ?_ (args_tuple_getitem _ _)))
 show W5 _ _ (Builtin.Tuple.tupleItemsOf (.ref t) >>= _) _ _ s
 refine W0 (tupleItemsOf_ ht ?_)
 refine W0 (QG hTs ?_)
 rw [if_pos (by decide)]
 refine W0 (sliceApplied_gen hs pl pu ?_)
 have hno:¬ ((((sIx items.size 0 lo:Nat):Int) == 0 && (1:Int) == 1 && (sIx items.size items.size hi - sIx items.size 0 lo) == items.size)=true):=by
  intro q
  rw [Wa,Wa] at q
  have q1:((sIx items.size 0 lo:Nat):Int)=0:=eq_of_beq q.1.1
  have q2:sIx items.size items.size hi - sIx items.size 0 lo=items.size:=eq_of_beq q.2
  exact hw ⟨by omega,by omega⟩
 show W5 _ _ (if (((sIx items.size 0 lo:Nat):Int) == 0 && (1:Int) == 1 && (sIx items.size items.size hi - sIx items.size 0 lo) == items.size)=true then _ else _) _ _ s
 rw [if_neg hno,zcW]
 first
  | exact W0 (m:=WW _) (WJ (W3 ⟨_,rfl,W3 h⟩) htake)
  | exact W0 (m:=WW _) (WJ (W0 (W3 (W3 ⟨_,rfl,W3 h⟩))) htake)
  | exact W0 (W0 (m:=WW _) (WJ (W3 (W3 ⟨_,rfl,W3 h⟩)) htake))
  | exact W0 (W0 (m:=WW _) (WJ (W3 ⟨_,rfl,W3 h⟩) htake))
end
end HT
namespace L2
open PySem PySem.Spec PyProof.Rows
abbrev TO:=St→Hp→(Option Int→Hp→Prop)→Prop
def PO (X:Cx) (e:Option Expr) (t:TO):Prop :=
 ∀ (pins:List (Addr×Obj)) (s:W2) (σ:St) (H:Hp) (Q:Option Int→Hp→Prop),Inv X pins σ H s→t σ H Q →
  W5 (model X.prog X.w) X.A (evalPart e X.env) (fun u s'=>∃ o H',Inv X pins σ H' s'∧IsPart u o∧Q o H') X.xe s
def ze8:TO:=fun _ H Q=>Q none H
def tPart (t:TE):TO:=fun σ H Q=>t σ H fun x H1=>∃ i,x = .int i∧Q (some i) H1
section
variable {X:Cx} {e:Expr} {te:TE} {lo hi:Option Expr} {tl th:TO} {pos p2:Pos}
theorem zeu:PO X none ze8:=by
 intro pins s σ H Q I h
 rw [evalPart_none]
 exact W3 ⟨none,H,I,.none,h⟩
theorem zet (h:PE X e te):PO X (some e) (tPart te):=by
 intro pins s σ H Q I hw
 rw [evalPart_some]
 refine thn (h pins s σ H _ I hw) fun u s1 ⟨x,H1,I1,r1,q1⟩=>?_
 obtain ⟨i,rfl,q⟩:=q1
 obtain ⟨t,rfl⟩:=r1
 exact ⟨some i,H1,I1,.int i t,q⟩
def SlR (X:Cx) (r:V→Option Int→Option Int→Hp→VK→Prop):Prop :=
 ∀ (pins:List (Addr×Obj)) (s:W2) (σ:St) (H:Hp) (x:V) (v vl vu:Value) (lo hi:Option Int) (sl:Addr) (Q:VK),Inv X pins σ H s→RelV x v→s.heap.IsSliceOf sl vl vu .none→IsPart vl lo→IsPart vu hi→r x lo hi H Q →
  ∃ T id,typeLookup (.type T) "__getitem__" = pure (some (.builtin id))∧s.TypeIs v T∧W5 (model X.prog X.w) X.A (Jp v (.ref sl)) (EP X pins σ Q) X.xe s
theorem SlR.or (h:SlR X r) (h':SlR X r'):SlR X (fun x lo hi H Q=>r x lo hi H Q∨r' x lo hi H Q):=by
 intro pins s σ H x v vl vu lo hi sl Q I rx hs pl pu q
 rcases q with q | q
 ·exact h pins s σ H x v vl vu lo hi sl Q I rx hs pl pu q
 ·exact h' pins s σ H x v vl vu lo hi sl Q I rx hs pl pu q
def tSl (r:V→Option Int→Option Int→Hp→VK→Prop) (te:TE) (tl th:TO):TE:=fun σ H Q=>te σ H fun x H1=>tl σ H1 fun l H2=>th σ H2 fun u H3=>r x l u H3 Q
theorem zcX (hr:SlR X r) (he:PE X e te) (hl:PO X lo tl) (hu:PO X hi th):PE X (.Subscript e (.Slice lo hi none p2) pos) (tSl r te tl th):=by
 intro pins s σ H Q I h
 refine Subscript_ (thn (he pins s σ H _ I h) fun v s1 ⟨x,H1,I1,r1,q1⟩=>?_)
 refine wpAny_Slice (thn (hl pins s1 σ H1 _ I1 q1) fun vl s2 ⟨l,H2,I2,pl,q2⟩=>thn (hu pins s2 σ H2 _ I2 q2) fun vu s3 ⟨u,H3,I3,pu,q3⟩=>?_)
 rw [evalPart_none]
 refine W3 ?_
 have I4:Inv X pins σ H3 { s3 with heap:=s3.heap.push { cls:=.type "slice",data:=.fields #[vl,vu,.none] } }:=I3.kept (t':=s3.toks) fun b ob q=>W4 _ q
 obtain ⟨T,id,hT,ht,hg⟩:=hr pins { s3 with heap:=s3.heap.push { cls:=.type "slice",data:=.fields #[vl,vu,.none] } } σ H3 x v vl vu l u s3.heap.objs.size Q I4 r1 (Heap.IsSliceOf.new ..) pl pu q3
 show W5 (model X.prog X.w) X.A (subscriptTail e (.Slice lo hi none p2) v (.ref s3.heap.objs.size)) (EP X pins σ Q) X.xe { s3 with heap:=s3.heap.push { cls:=.type "slice",data:=.fields #[vl,vu,.none] } }
 exact tail_any (ops:=[.ref s3.heap.objs.size,v]) ht hT hg (by with_unfolding_all rfl)
def cutV (xs:List V) (lo hi:Option Int):List V:=(xs.drop (HT.sIx xs.length 0 lo)).take (HT.sIx xs.length xs.length hi - HT.sIx xs.length 0 lo)
theorem z6r (xs:List V) (lo hi:Option Int):(cutV xs lo hi).length≤xs.length:=by
 unfold cutV
 rw [Jl,List.length_drop]
 omega
def rSlT (K:W1):V→Option Int→Option Int→Hp→VK→Prop:=fun x lo hi H Q=>∃ a xs,x = .ref a∧SqT K H a xs ∧
 ¬ (HT.sIx xs.length 0 lo=0∧HT.sIx xs.length xs.length hi=xs.length)∧∀ p,H p=none→Q (.ref p) (upd H p (.tup (cutV xs lo hi)))
theorem sl_tup:SlR X (rSlT X.K):=by
 intro pins s σ H x v vl vu lo hi sl Q I rx hs pl pu h
 obtain ⟨a,xs,rfl,hx,hw,q⟩:=h
 cases rx
 obtain ⟨its,r,ht,hz⟩:=I.tuple hx
 have hlen:its.toArray.size=xs.length:=by rw [Wb]; exact r.length.symm
 refine ⟨"tuple",_,PyProof.Rows.slot_tuple_getitem.lookup,ht.typeIs,?_⟩
 refine HT.getItem_tuple_cut ht hs pl pu (by rw [hlen]; exact hw) ?_ (by rw [hlen]; exact hz)
 rw [hlen]
 refine ⟨.ref s.heap.objs.size,_,I.laid (t':=s.toks) (o:=.tup (cutV xs lo hi)) (fun b ob q=>W4 _ q) (W8 _) ?_,rfl,q _ (I.hok.fresh (W8 _))⟩
 exact ⟨WV (z6r xs lo hi) hz,_,(r.drop (HT.sIx xs.length 0 lo)).take (HT.sIx xs.length xs.length hi - HT.sIx xs.length 0 lo),IsTupN.new _ _⟩
def zfW (K:W1):R2:=fun x y H Q=>∃ a b xs ys,x = .ref a∧y = .ref b∧SqT K H a xs∧SqT K H b ys∧xs≠[]∧xs.length + ys.length≤W6 ∧
 (ys=[]→Q (.ref a) H)∧(ys≠[]→∀ p,H p=none→Q (.ref p) (upd H p (.tup (xs ++ ys))))
theorem Vals.nil_iff (r:Vals xs us):us=[] ↔ xs=[]:=by
 cases r with
 | nil=>simp
 | cons _ _=>simp
theorem op_catT:OpR X (Qi .Add) (zfW X.K):=by
 intro pins s σ H x y v u Q I rx ry h
 obtain ⟨a,b,xs,ys,rfl,rfl,ha,hb,hx,hz,q1,q2⟩:=h
 cases rx
 cases ry
 obtain ⟨its,r1,p1,_⟩:=I.tuple ha
 obtain ⟨its2,r2,p2,_⟩:=I.tuple hb
 refine HT.cat_tup p1 p2 (fun z=>hx (r1.nil_iff.mp z)) (fun z=>⟨.ref a,H,I,rfl,q1 (r2.nil_iff.mp z)⟩) (fun z=>?_) (by rw [← r1.length,← r2.length]; exact hz)
 refine ⟨.ref s.heap.objs.size,_,I.laid (t':=s.toks) (o:=.tup (xs ++ ys)) (fun b ob q=>W4 _ q) (W8 _) ?_,rfl,q2 (fun w=>z (r2.nil_iff.mpr w)) _ (I.hok.fresh (W8 _))⟩
 exact ⟨by rw [Qp]; exact hz,_,r1.append r2,IsTupN.new _ _⟩
end
def ixN (n:Nat) (i:Int):Option Nat:=if 0≤i then (if i < n then some i.toNat else none) else if -(n:Int)≤i then some (i + n).toNat else none
def atI {α:Type} (xs:List α) (i:Int):Option α:=(ixN xs.length i).bind fun j=>xs[j]?
theorem zbG (h:ixN n i=some j):seqIndex? i n=some j∧j < n∧-(n:Int)≤i∧i < n:=by
 unfold ixN at h
 by_cases h0:0≤i
 ·rw [if_pos h0] at h
  by_cases h1:i < n
  ·rw [if_pos h1] at h
   have e:i.toNat=j:=Wy h
   exact ⟨by rw [seqIndex_of h0 h1,e],by omega,by omega,h1⟩
  ·rw [if_neg h1] at h; cases h
 ·rw [if_neg h0] at h
  by_cases h1 : -(n:Int)≤i
  ·rw [if_pos h1] at h
   have e:(i + n).toNat=j:=Wy h
   exact ⟨by rw [seqIndex_neg (by omega) h1,e],by omega,h1,by omega⟩
  ·rw [if_neg h1] at h; cases h
theorem z9i (h:atI xs i=some v):∃ j,seqIndex? i xs.length=some j∧xs[j]? = some v∧j < xs.length∧-(xs.length:Int)≤i∧i < xs.length:=by
 unfold atI at h
 cases e:ixN xs.length i with
 | none=>rw [e] at h; cases h
 | some j =>
  rw [e] at h
  obtain ⟨h1,h2,h3,h4⟩:=zbG e
  exact ⟨j,h1,h,h2,h3,h4⟩
def z9j (b:Expr):Prop:=∀ o i,subscripted b false o i=operate [o,i] (Jp o i)
def IxR (X:Cx) (r:R2):Prop :=
 ∀ (value slice:Expr) (pins:List (Addr×Obj)) (s:W2) (σ:St) (H:Hp) (x y:V) (v u:Value) (Q:VK),Inv X pins σ H s→RelV x v→RelV y u→r x y H Q →
  subscripted slice false v u=operate [v,u] (Jp v u)→W5 (model X.prog X.w) X.A (subscriptTail value slice v u) (EP X pins σ Q) X.xe s
def MtR (X:Cx) (id:String) (r:V→List V→Hp→VK→Prop):Prop :=
 ∀ (pins:List (Addr×Obj)) (s:W2) (σ:St) (H:Hp) (x:V) (xs:List V) (v:Value) (us:List Value) (Q:VK),Inv X pins σ H s→RelV x v→Vals xs us→r x xs H Q →
  W5 (model X.prog X.w) X.A (call (.builtin id) (v :: us)) (EP X pins σ Q) X.xe s
section
variable {X:Cx} {a b:Expr} {ta tb:TE} {pos:Pos}
theorem IxR.or (h:IxR X r) (h':IxR X r'):IxR X (fun x y H Q=>r x y H Q∨r' x y H Q):=by
 intro value slice pins s σ H x y v u Q I rx ry q hs
 rcases q with q | q
 ·exact h value slice pins s σ H x y v u Q I rx ry q hs
 ·exact h' value slice pins s σ H x y v u Q I rx ry q hs
theorem zgf (hr:IxR X r) (ha:PE X a ta) (hb:PE X b tb) (hs:z9j b):PE X (.Subscript a b pos) (tOp r ta tb):=by
 intro pins s σ H Q I h
 exact Subscript_ (binT ha hb I h fun v u s2 x y H2 I2 rx ry q=>hr a b pins s2 σ H2 x y v u Q I2 rx ry q (hs _ _))
def rIxL (K:W1):R2:=fun x y H Q=>∃ p xs i v,x = .ref p∧y = .int i∧SqL K H p xs∧atI xs i=some v∧Q v H
def rIxT (K:W1):R2:=fun x y H Q=>∃ p xs i v,x = .ref p∧y = .int i∧SqT K H p xs∧atI xs i=some v∧Q v H
def rIxS:R2:=fun x y H Q=>∃ z i c,x = .str z∧y = .int i∧z.length≤W6∧atI z.cps.toList i=some c∧Q (.str ⟨#[c]⟩) H
theorem ix_list:IxR X (rIxL X.K):=by
 intro value slice pins s σ H x y v u Q I rx ry h hs
 obtain ⟨p,xs,i,z,rfl,rfl,hq,he,q⟩:=h
 cases rx
 obtain ⟨t,rfl⟩:=ry
 obtain ⟨its,r,pl,hz⟩:=I.list hq
 obtain ⟨j,h1,h2,h3,h4,h5⟩:=z9i he
 obtain ⟨w,ew,rw'⟩:=r.get h2
 have hl:=r.length
 have hn:=z6Y
 have fin:EP X pins σ Q w s:=⟨z,H,I,rw',q⟩
 by_cases h0:0≤i
 ·have hj:i.toNat=j:=by
   rw [seqIndex_of h0 h5] at h1
   exact Wy h1
  exact item_listR pl.isList h0 (by omega) (by rw [hj]; simpa using ew) fin hs
 ·have hj:(i + (its.toArray.size:Int)).toNat=j:=by
   rw [seqIndex_neg (by omega) h4] at h1
   rw [Wb,← hl]
   exact Wy h1
  exact subscriptTail_builtinR (x:=w) pl.isList.typeIs slot_list_getitem.lookup
   (wpAny_getItem_list_neg (Q:=fun r s'=>r=w∧EP X pins σ Q r s') pl.isList (by omega) (by rw [Wb] <;> omega) (by omega) (by rw [hj]; simpa using ew) ⟨rfl,fin⟩) hs
theorem ix_tup:IxR X (rIxT X.K):=by
 intro value slice pins s σ H x y v u Q I rx ry h hs
 obtain ⟨p,xs,i,z,rfl,rfl,hq,he,q⟩:=h
 cases rx
 obtain ⟨t,rfl⟩:=ry
 obtain ⟨its,r,pl,hz⟩:=I.tuple hq
 obtain ⟨j,h1,h2,h3,h4,h5⟩:=z9i he
 obtain ⟨w,ew,rw'⟩:=r.get h2
 have hl:=r.length
 have hn:=z6Y
 have fin:EP X pins σ Q w s:=⟨z,H,I,rw',q⟩
 exact subscriptTail_builtinR (x:=w) pl.typeIs slot_tuple_getitem.lookup
  (getItem_tuple (j:=j) (Q:=fun r s'=>r=w∧EP X pins σ Q r s') pl (by omega) (by omega) (by rw [Wb,← hl]; exact h1) (by simpa using ew) ⟨rfl,fin⟩) hs
theorem zgK:IxR X rIxS:=by
 intro value slice pins s σ H x y v u Q I rx ry h hs
 obtain ⟨z,i,c,rfl,rfl,hz,he,q⟩:=h
 obtain ⟨t,rfl⟩:=rx
 obtain ⟨t',rfl⟩:=ry
 obtain ⟨j,h1,h2,h3,h4,h5⟩:=z9i he
 have hl:z.cps.toList.length=z.length:=by simp [Str.length]
 rw [hl] at h1 h4 h5
 have hn:=z6Y
 exact tail_any (typeIs_str s z t) slot_str_getitem.lookup (getItem_str (c:=c) (by
  have e1:decide (i < -(2 ^ 63:Int))=false:=decide_eq_false (by omega)
  have e2:decide (i ≥ 2 ^ 63)=false:=decide_eq_false (by omega)
  rw [e1,e2,Bool.or_false]) (by rw [h1]; simpa using h2) ⟨.str ⟨#[c]⟩,H,I.tok _,⟨_,rfl⟩,q⟩) hs
def rIx (K:W1):R2:=fun x y H Q=>rIxL K x y H Q∨rIxT K x y H Q∨rIxS x y H Q
theorem z0y:IxR X (rIx X.K):=ix_list.or (ix_tup.or zgK)
theorem zae (its:List Value) (n j:Nat) (u:Value):Obj.mapSeq (·.setIfInBounds j u) { cls:=.type "list",data:=.seq its.toArray n } = { cls:=.type "list",data:=.seq (its.set j u).toArray n }:=by
 simp [Obj.mapSeq]
theorem Inv.lst (I:Inv X pins σ H s) (h:H p=some (.lst xs)) :
  ∃ (its:List Value) (n:Nat),Vals xs its∧s.heap.get? p=some { cls:=.type "list",data:=.seq its.toArray n }∧xs.length≤W6:=by
 obtain ⟨z,its,n,r,e⟩:=I.hok p _ h
 exact ⟨its,n,r,e,z⟩
theorem Inv.lstUpd {pins:List (Addr×Obj)} {σ:St} {H:Hp} {s:W2} {p:Addr} {xs ys:List V} {its its':List Value} {n n':Nat} {f:Obj→Obj} (I:Inv X pins σ H s) (h:H p=some (.lst xs))
  (ho:s.heap.get? p=some { cls:=.type "list",data:=.seq its.toArray n }) (hf:f { cls:=.type "list",data:=.seq its.toArray n } = { cls:=.type "list",data:=.seq its'.toArray n' }) (r:Vals ys its') (hz:ys.length≤W6) (t:Nat) :
  Inv X pins σ (upd H p (.lst ys)) { s with heap:=s.heap.update p f,toks:=t }:=by
 have e:(s.heap.update p f).get? p=some { cls:=.type "list",data:=.seq its'.toArray n' }:=by
  rw [QP f ho (by rw [hf] <;> rfl),hf]
 refine I.write (x:=p) (e:=p) (by rw [h]; trivial) (.inl rfl) (fun b u hb q=>(QA _ _ (Ne.symm hb)).trans q) ⟨_,e⟩ ?_
 exact ⟨hz,its',n',r,e⟩
def rSetL:V→V→V→Hp→(Hp→Prop)→Prop:=fun o i v H Q=>∃ p xs k j,o = .ref p∧i = .int k∧H p=some (.lst xs)∧ixN xs.length k=some j∧Q (upd H p (.lst (xs.set j v)))
theorem zcH:PSet X rSetL:=by
 intro pins s σ H o i v ov iv u Q I ro ri rv h
 obtain ⟨p,xs,k,j,rfl,rfl,hp,hj,q⟩:=h
 cases ro
 obtain ⟨t,rfl⟩:=ri
 obtain ⟨its,n,r,ho,hz⟩:=I.lst hp
 obtain ⟨h1,h2,h3,h4⟩:=zbG hj
 have hl:=r.length
 have hn:=z6Y
 have I':Inv X pins σ (upd H p (.lst (xs.set j v))) { s with heap:=s.heap.update p (Obj.mapSeq (·.setIfInBounds j u)) } :=
  I.lstUpd hp ho (zae its n j u) (r.set rv j) (by rw [J8]; exact hz) s.toks
 by_cases h0:0≤k
 ·have hk:k.toNat=j:=by
   rw [seqIndex_of h0 h4] at h1
   exact Wy h1
  exact PySem.W.ki_setAt ho h0 (by omega) (by rw [Wb,← hl]; exact h4) (by rw [hk]; exact ⟨_,I',q⟩)
 ·have hk:(k + (its.toArray.size:Int)).toNat=j:=by
   rw [seqIndex_neg (by omega) h3] at h1
   rw [Wb,← hl]
   exact Wy h1
  exact PySem.W.ki_setBack ho (by omega) (by rw [Wb,← hl]; exact h3) (by omega) (by rw [hk]; exact ⟨_,I',q⟩)
theorem z7Z (lo hi:Option Int) (n:Nat):(Jq lo hi none n).1=((HT.sIx n 0 lo:Nat):Int)∧(Jq lo hi none n).2.1=((HT.sIx n n hi:Nat):Int)∧(Jq lo hi none n).2.2=1:=by
 refine ⟨?_,?_,rfl⟩
 ·cases lo with
  | none=>simp [Jq,HT.sIx]
  | some i =>
   simp only [Jq,HT.sIx,Option.getD_none,show (1:Int) > 0 by decide,if_true]
   by_cases h:i < 0
   ·simp only [h,if_true] <;> omega
   ·simp only [h,if_false] <;> omega
 ·cases hi with
  | none=>simp [Jq,HT.sIx]
  | some i =>
   simp only [Jq,HT.sIx,Option.getD_none,show (1:Int) > 0 by decide,if_true]
   by_cases h:i < 0
   ·simp only [h,if_true] <;> omega
   ·simp only [h,if_false] <;> omega
theorem z7d (its:List Value) (lo hi:Option Int):slicePick its.toArray lo hi none=((its.drop (HT.sIx its.length 0 lo)).take (HT.sIx its.length its.length hi - HT.sIx its.length 0 lo)).toArray:=by
 obtain ⟨h1,h2,h3⟩:=z7Z lo hi its.toArray.size
 unfold slicePick
 rw [h1,h2,h3]
 simp only [sliceRange_one,pick_run,Wb] <;> rfl
def rSlL (K:W1):V→Option Int→Option Int→Hp→VK→Prop:=fun x lo hi H Q=>∃ a xs,x = .ref a∧SqL K H a xs∧∀ p,H p=none→Q (.ref p) (upd H p (.lst (cutV xs lo hi)))
theorem zeh:SlR X (rSlL X.K):=by
 intro pins s σ H x v vl vu lo hi sl Q I rx hs pl pu h
 obtain ⟨a,xs,rfl,hx,q⟩:=h
 cases rx
 obtain ⟨its,r,ht,hz⟩:=I.list hx
 have hlen:=r.length
 refine ⟨"list",_,slot_list_getitem.lookup,ht.isList.typeIs,?_⟩
 refine wpAny_getItem_list_slice ht.isList hs pl pu .none (by simp) ?_ (by rw [Wb] <;> omega)
 rw [z7d,← hlen]
 refine ⟨.ref s.heap.objs.size,_,I.laid (t':=s.toks) (o:=.lst (cutV xs lo hi)) (fun b ob q=>W4 _ q) (W8 _) ?_,rfl,q _ (I.hok.fresh (W8 _))⟩
 exact ⟨WV (z6r xs lo hi) hz,_,0,(r.drop (HT.sIx xs.length 0 lo)).take (HT.sIx xs.length xs.length hi - HT.sIx xs.length 0 lo),Wj _ rfl⟩
def z7I:V→Bool
 | .non=>true
 | .bl _=>true
 | .int _=>true
 | .str _=>true
 | _=>false
def eqV:V→V→Bool
 | .non,.non=>true
 | .bl a,.bl b=>a == b
 | .bl a,.int b=>(if a then 1 else 0) == b
 | .int a,.bl b=>a == (if b then 1 else 0)
 | .int a,.int b=>a == b
 | .str a,.str b=>a == b
 | _,_=>false
theorem zgX (ry:RelV y u) (rx:RelV x v) (fy:z7I y=true) (fx:z7I x=true):SeqAt.EqAt A s u v (eqV y x):=by
 cases y with
 | non =>
  cases ry
  cases x with
  | non=>cases rx; exact SeqAt.EqAt.same _
  | bl b=>cases rx; exact SeqAt.EqAt.none_bool b
  | int b=>obtain ⟨t,rfl⟩:=rx; exact SeqAt.EqAt.none_int b t
  | str b=>obtain ⟨t,rfl⟩:=rx; exact SeqAt.EqAt.none_str b t
  | _=>exact absurd (show false=true from fx) Q6
 | bl a =>
  cases ry
  cases x with
  | non=>cases rx; exact SeqAt.EqAt.bool_none a
  | bl b=>cases rx; exact SeqAt.EqAt.bool_bool a b
  | int b=>obtain ⟨t,rfl⟩:=rx; exact SeqAt.EqAt.bool_int a b t
  | str b=>obtain ⟨t,rfl⟩:=rx; exact SeqAt.EqAt.bool_str a b t
  | _=>exact absurd (show false=true from fx) Q6
 | int a =>
  obtain ⟨t',rfl⟩:=ry
  cases x with
  | non=>cases rx; exact SeqAt.EqAt.int_none a t'
  | bl b=>cases rx; exact SeqAt.EqAt.int_bool a t' b
  | int b=>obtain ⟨t,rfl⟩:=rx; exact SeqAt.EqAt.int_int a t' b t
  | str b=>obtain ⟨t,rfl⟩:=rx; exact SeqAt.EqAt.int_str a t' b t
  | _=>exact absurd (show false=true from fx) Q6
 | str a =>
  obtain ⟨t',rfl⟩:=ry
  cases x with
  | non=>cases rx; exact SeqAt.EqAt.str_none a t'
  | bl b=>cases rx; exact SeqAt.EqAt.str_bool a t' b
  | int b=>obtain ⟨t,rfl⟩:=rx; exact SeqAt.EqAt.str_int a t' b t
  | str b=>obtain ⟨t,rfl⟩:=rx; exact SeqAt.EqAt.str_str a t' b t
  | _=>exact absurd (show false=true from fx) Q6
 | _=>exact absurd (show false=true from fy) Q6
def eqU (x:V) (u:Value):Bool:=match u with
 | .none=>eqV .non x
 | .bool b=>eqV (.bl b) x
 | .int i _=>eqV (.int i) x
 | .str z _=>eqV (.str z) x
 | _=>false
theorem zdV (r:RelV y u) (f:z7I y=true):eqU x u=eqV y x:=by
 cases y with
 | non=>cases r; rfl
 | bl b=>cases r; rfl
 | int i=>obtain ⟨t,rfl⟩:=r; rfl
 | str z=>obtain ⟨t,rfl⟩:=r; rfl
 | _=>exact absurd (show false=true from f) Q6
theorem z6w:∀ {xs:List V} {us:List Value},Vals xs us→xs.all z7I=true→us.any (eqU x)=xs.any fun y=>eqV y x
 | _,_,.nil,_=>rfl
 | y :: xs,u :: us,.cons r t,f=>by
  rw [Q5,Wa] at f
  rw [QK,QK,zdV r f.1,z6w t f.2]
theorem z4Q (rx:RelV x v) (fx:z7I x=true):∀ {xs:List V} {us:List Value},Vals xs us→xs.all z7I=true→∀ u ∈ us,SeqAt.EqAt A s u v (eqU x u)
 | _,_,.nil,_=>fun u hu=>by cases hu
 | y :: xs,u :: us,.cons r t,f=>fun u' hu=>by
  rw [Q5,Wa] at f
  rcases Wn.mp hu with rfl | hu
  ·rw [zdV r f.1]; exact zgX r rx f.1 fx
  ·exact z4Q rx fx t f.2 u' hu
def inV (x:V) (xs:List V):Bool:=xs.any fun y=>eqV y x
def rIn (K:W1) (neg:Bool):R2:=fun x y H Q=>∃ p xs,y = .ref p∧(SqL K H p xs∨SqT K H p xs)∧z7I x=true∧xs.all z7I=true∧Q (.bl (if neg then !inV x xs else inV x xs)) H
theorem op_in_seq:OpR X (Wu .In) (rIn X.K false):=by
 intro pins s σ H x y v u Q I rx ry h
 obtain ⟨p,xs,rfl,hq,fx,fs,q⟩:=h
 cases ry
 rcases hq with hq | hq
 ·obtain ⟨its,r,pl,hz⟩:=I.list hq
  refine SeqAt.in_listAt (eqU x) pl.isList (fun w hw=>z4Q rx fx r fs w (by simpa using hw)) ⟨.bl _,H,I,rfl,?_⟩
  rw [show its.toArray.any (eqU x)=its.any (eqU x) by simp,z6w r fs]
  exact q
 ·obtain ⟨its,r,pl,hz⟩:=I.tuple hq
  refine SeqAt.in_tupleAt (eqU x) pl (fun w hw=>z4Q rx fx r fs w (by simpa using hw)) ⟨.bl _,H,I,rfl,?_⟩
  rw [show its.toArray.any (eqU x)=its.any (eqU x) by simp,z6w r fs]
  exact q
theorem op_notIn_seq:OpR X (Wu .NotIn) (rIn X.K true):=by
 intro pins s σ H x y v u Q I rx ry h
 obtain ⟨p,xs,rfl,hq,fx,fs,q⟩:=h
 cases ry
 rcases hq with hq | hq
 ·obtain ⟨its,r,pl,hz⟩:=I.list hq
  refine SeqAt.notIn_listAt (eqU x) pl.isList (fun w hw=>z4Q rx fx r fs w (by simpa using hw)) ⟨.bl _,H,I,rfl,?_⟩
  rw [show its.toArray.any (eqU x)=its.any (eqU x) by simp,z6w r fs]
  exact q
 ·obtain ⟨its,r,pl,hz⟩:=I.tuple hq
  refine SeqAt.notIn_tupleAt (eqU x) pl (fun w hw=>z4Q rx fx r fs w (by simpa using hw)) ⟨.bl _,H,I,rfl,?_⟩
  rw [show its.toArray.any (eqU x)=its.any (eqU x) by simp,z6w r fs]
  exact q
theorem call_len_seq:CallR X (.builtin "len") (fun xs H Q=>∃ p ys,xs=[.ref p]∧(SqL X.K H p ys∨SqT X.K H p ys)∧Q (.int ys.length) H):=by
 intro pins s σ H xs us Q I r h
 obtain ⟨p,ys,rfl,hq,q⟩:=h
 obtain ⟨u,rfl,rx⟩:=z4b r
 cases rx
 have hn:=z6Y
 rcases hq with hq | hq
 ·obtain ⟨its,r',pl,hz⟩:=I.list hq
  have hlen:=r'.length
  exact Calls.call_len_list pl.isList (by simp only [Wb] <;> omega) ⟨.int ys.length,H,I.tok _,⟨s.toks + 1,by rw [Wb,hlen]⟩,q⟩
 ·obtain ⟨its,r',pl,hz⟩:=I.tuple hq
  have hlen:=r'.length
  exact len_tuple pl (by simp only [Wb] <;> omega) ⟨.int ys.length,H,I.tok _,⟨s.toks + 1,by rw [Wb,hlen]⟩,q⟩
theorem z8O:CallR X (.builtin "len") (fun xs H Q=>∃ z,xs=[.str z]∧z.length≤W6∧Q (.int z.length) H):=by
 intro pins s σ H xs us Q I r h
 obtain ⟨z,rfl,hz,q⟩:=h
 obtain ⟨u,rfl,t,rfl⟩:=z4b r
 have hn:=z6Y
 exact len_str (by omega) ⟨.int z.length,H,I.tok _,⟨_,rfl⟩,q⟩
theorem CallR.or (h:CallR X f r) (h':CallR X f r'):CallR X f (fun xs H Q=>r xs H Q∨r' xs H Q):=by
 intro pins s σ H xs us Q I rs q
 rcases q with q | q
 ·exact h pins s σ H xs us Q I rs q
 ·exact h' pins s σ H xs us Q I rs q
theorem call_list_of:CallR X (.type "list") (fun xs H Q=>∃ p ys,xs=[.ref p]∧(SqL X.K H p ys∨SqT X.K H p ys)∧∀ l,H l=none→Q (.ref l) (upd H l (.lst ys))):=by
 intro pins s σ H xs us Q I r h
 obtain ⟨p,ys,rfl,hq,q⟩:=h
 obtain ⟨u,rfl,rx⟩:=z4b r
 cases rx
 have fin:∀ (its:List Value),Vals ys its→ys.length≤W6→∀ (h':Heap) (c':Nat),(∀ b o',s.heap.get? b=some o'→h'.get? b=some o') →
   h'.get? s.heap.objs.size=some { cls:=.type "list",dict:=none,data:=.seq its.toArray c',slots:=#[] }→EP X pins σ Q (.ref s.heap.objs.size) { s with heap:=h' }:=fun its r' hz h' c' kp e =>
  ⟨.ref s.heap.objs.size,_,I.laid (t':=s.toks) kp (W8 _) (show ObjOk X.prog X.w _ h' _ (.lst ys) from ⟨hz,its,c',r',e⟩),rfl,q _ (I.hok.fresh (W8 _))⟩
 rcases hq with hq | hq
 ·obtain ⟨its,r',pl,hz⟩:=I.list hq
  have hlen:=r'.length
  obtain ⟨o,ho,hc,n,hd⟩:=pl.isList
  exact call_list_seq p (.inl rfl) ho hc hd (fun h' c' kp e=>fin its r' hz h' c' kp e) (by simp only [Wb] <;> omega)
 ·obtain ⟨its,r',pl,hz⟩:=I.tuple hq
  have hlen:=r'.length
  obtain ⟨o,ho,hc,n,hd⟩:=pl
  exact call_list_seq p (.inr rfl) ho hc hd (fun h' c' kp e=>fin its r' hz h' c' kp e) (by simp only [Wb] <;> omega)
theorem z7O:CallR X (.type "tuple") (fun xs H Q=>∃ p ys,xs=[.ref p]∧((SqL X.K H p ys∧∀ l,H l=none→Q (.ref l) (upd H l (.tup ys)))∨(SqT X.K H p ys∧Q (.ref p) H))):=by
 intro pins s σ H xs us Q I r h
 obtain ⟨p,ys,rfl,h⟩:=h
 obtain ⟨u,rfl,rx⟩:=z4b r
 cases rx
 rcases h with ⟨hq,q⟩ | ⟨hq,q⟩
 ·obtain ⟨its,r',pl,hz⟩:=I.list hq
  have hlen:=r'.length
  refine call_tuple_list pl.isList (fun h' kp=>?_) (by simp only [Wb] <;> omega)
  have I1:Inv X pins σ H { s with heap:=h' }:=I.kept (t':=s.toks) kp
  have I2:Inv X pins σ (upd H h'.objs.size (.tup ys)) { s with heap:=h'.push { cls:=.type "tuple",data:=.seq its.toArray } } :=
   I1.laid (t':=s.toks) (fun b o e=>W4 _ e) (W8 _) (show ObjOk X.prog X.w _ _ _ (.tup ys) from ⟨hz,its,r',IsTupN.new _ _⟩)
  exact ⟨.ref h'.objs.size,_,I2,rfl,q _ (I1.hok.fresh (W8 _))⟩
 ·obtain ⟨its,r',pl,hz⟩:=I.tuple hq
  exact call_tuple_same pl ⟨.ref p,H,I,rfl,q⟩
def tyV (K:W1) (T:String) (x:V) (H:Hp):Prop:=match x with
 | .str _=>T = "str"
 | .int _=>T = "int"
 | .ref p=>(T = "list"∧∃ xs,SqL K H p xs)∨(T = "tuple"∧∃ o,K.lookup p=some o∧o.cls = .type "tuple"∧o.dict=none) ∨
   (T = "dict"∧((∃ kvs,H p=some (.dK kvs))∨∃ kvs,H p=some (.dT kvs)))∨(T = "set"∧∃ S n,H p=some (.set S n))
 | _=>False
theorem zfo (I:Inv X pins σ H s) (r:RelV x v) (ty:tyV X.K T x H) :
  s.TypeIs v T∧∀ a,v = .ref a→∃ ob,s.heap.get? a=some ob∧ob.dict=none:=by
 cases x with
 | str z =>
  obtain ⟨t,rfl⟩:=r
  cases (show T = "str" from ty)
  exact ⟨typeIs_str s z t,fun _ e=>nomatch e⟩
 | int i =>
  obtain ⟨t,rfl⟩:=r
  cases (show T = "int" from ty)
  exact ⟨JC s i t,fun _ e=>nomatch e⟩
 | ref p =>
  cases r
  rcases ty with ⟨rfl,xs,hq⟩ | ⟨rfl,o,hk,hc,hd⟩ | ⟨rfl,hk⟩ | ⟨rfl,S,n,hk⟩
  ·obtain ⟨its,_,pl,_⟩:=I.list hq
   refine ⟨pl.isList.typeIs,fun a e=>?_⟩
   cases e
   obtain ⟨o,n,e,c,hd,_⟩:=pl
   exact ⟨o,e,hd⟩
  ·refine ⟨⟨o,I.kIn p o hk,hc⟩,fun a e=>?_⟩
   cases e
   exact ⟨o,I.kIn _ o hk,hd⟩
  ·have z:∃ o,s.heap.get? p=some o∧o.ExactDict:=by
    rcases hk with ⟨kvs,hk⟩ | ⟨kvs,hk⟩
    ·obtain ⟨_,_,_,_,o,_,_,e,ex,_⟩:=I.hok p _ hk
     exact ⟨o,e,ex⟩
    ·obtain ⟨_,_,_,_,o,_,_,e,ex,_⟩:=I.hok p _ hk
     exact ⟨o,e,ex⟩
   obtain ⟨o,e,ex⟩:=z
   refine ⟨⟨o,e,ex.1⟩,fun a e2=>?_⟩
   cases e2
   exact ⟨o,e,ex.2.1⟩
  ·obtain ⟨o,_,_,_,e,ex,_⟩:=I.hok p _ hk
   refine ⟨⟨o,e,ex.1⟩,fun a e2=>?_⟩
   cases e2
   exact ⟨o,e,ex.2.1⟩
 | _=>exact False.elim ty
def tBM (K:W1) (T:String) (r:V→List V→Hp→VK→Prop) (to:TE) (t:TA):TE:=fun σ H Q=>to σ H fun x H1=>tyV K T x H1∧t σ H1 fun xs H2=>r x xs H2 Q
variable {o e:Expr} {es:List Expr} {to:TE} {t:TA} {name:Str} {apos cpos:Pos} {T id:String} {r:V→List V→Hp→VK→Prop}
theorem zgg (pa:PlainAttrs T) (slot:Slot T name id) (hty:typeOf (.builtin id)=pure (.type "method_descriptor")) (hm:MtR X id r) (ho:PE X o to) (ha:PA X (e :: es) t)
  (hbase:attributeBase o name X.env (eval o X.env)=eval o X.env:=by rfl)
  (hfew:((QL cpos (We (e :: es) X.env)).all (fun x=>!x.1) && (backToKw cpos (keywordEach [] X.env)).all (fun x=>x.1.isSome)
   && decide ((e :: es).length + ([]:List Keyword).length + (if ([]:List Keyword).isEmpty then 0 else 1) < 30))=true:=by rfl)
  (hline:(apos.endLine == cpos.line)=true:=by rfl) (hs:We (e :: es) X.env=(false,eval e X.env) :: We es X.env:=by rfl) (hplain:(QL cpos (We es X.env)).any (·.1)=false:=by rfl) :
  PE X (.Call (.Attribute o name apos) (e :: es) [] cpos) (tBM X.K T r to t):=by
 intro pins s σ H Q I h
 refine wpAny_Call_method_late hbase hfew hline rfl (thn (ho pins s σ H _ I h) fun v s1 ⟨x,H1,I1,r1,ty,q1⟩=>?_)
 obtain ⟨h1,h2⟩:=zfo I1 r1 ty
 refine ⟨T,id,pa,slot,hty,h1,h2,?_⟩
 have hA:=ha cpos pins s1 σ H1 _ I1 q1
 rw [hs] at hA ⊢
 refine Calls.callWith_builtin (by show (false || (QL cpos (We es X.env)).any (·.1))=false; rw [hplain] <;> rfl) (Calls.evalArgs_plain ?_)
 exact thn hA fun us s2 ⟨vs,H2,I2,r2,q2⟩=>hm pins s2 σ H2 x vs v us Q I2 r1 r2 q2
end
def MtM (X:Cx) (id:String) (r:V→List V→Hp→VK→Prop):Prop :=
 ∀ (pins:List (Addr×Obj)) (s:W2) (σ:St) (H:Hp) (x:V) (xs:List V) (v:Value) (us:List Value) (Q:VK),Inv X pins σ H s→RelV x v→Vals xs us→r x xs H Q →
  W5 (model X.prog X.w) X.A (call (.builtin id) (v :: us)) (EP X pins σ Q) X.xe s
theorem Vals.one:∀ {x:V} {us:List Value},Vals [x] us→∃ u,us=[u]∧RelV x u
 | _,_,.cons r .nil=>⟨_,rfl,r⟩
theorem Vals.two:∀ {x y:V} {us:List Value},Vals [x,y] us→∃ u v,us=[u,v]∧RelV x u∧RelV y v
 | _,_,_,.cons r (.cons q .nil)=>⟨_,_,rfl,r,q⟩
theorem Vals.reverse (h:Vals xs us):Vals xs.reverse us.reverse:=by
 induction h with
 | nil=>exact .nil
 | cons r t ih=>rw [List.reverse_cons,List.reverse_cons]; exact Vals.append ih (.cons r .nil)
theorem Vals.rep (h:Vals xs us):∀ k:Nat,Vals (Wd k xs).flatten (Wd k us).flatten
 | 0=>.nil
 | k + 1=>by
  rw [Q9,Q9,QU,QU]
  exact Vals.append h (Vals.rep h k)
theorem z8E (its:List Value):∀ (k:Nat) (acc:List Value),
  List.foldl (fun x1 x2=>x1 ++ x2) acc.toArray (Wd k its.toArray)=(acc ++ (Wd k its).flatten).toArray
 | 0,acc=>by simp
 | k + 1,acc=>by
  have e:acc.toArray ++ its.toArray=(acc ++ its).toArray:=by simp
  have e2:(acc ++ its) ++ (Wd k its).flatten=acc ++ (Wd (k + 1) its).flatten:=by
   rw [Q9,QU,List.append_assoc]
  rw [← e2,← z8E its k (acc ++ its),← e,Q9,Qn]
section
variable {X:Cx} {pins:List (Addr×Obj)} {σ:St} {H:Hp} {s:W2} {l b:Addr} {xs ys zs:List V}
theorem Inv.lset {its its':List Value} {n:Nat} {f:Array Value→Array Value} {t':Nat} (I:Inv X pins σ H s) (hH:H l=some (.lst xs))
  (e:s.heap.get? l=some { cls:=.type "list",data:=.seq its.toArray n }) (hf:f its.toArray=its'.toArray) (hv:Vals ys its') (hz:ys.length≤W6) :
  Inv X pins σ (upd H l (.lst ys)) { s with heap:=s.heap.update l (Obj.mapSeq f),toks:=t' }:=by
 have q:=PySem.IsL.update e f
 rw [hf] at q
 refine I.write (x:=l) (e:=l) (by rw [hH]; exact trivial) (.inl rfl) (fun b' u hb hu=>(QA s.heap (Obj.mapSeq f) (Ne.symm hb)).trans hu) ⟨_,q⟩ ?_
 exact ⟨hz,its',_,hv,q⟩
theorem Inv.lnew (I:Inv X pins σ H s) (hv:Vals ys its) (hz:ys.length≤W6) :
  Inv X pins σ (upd H s.heap.objs.size (.lst ys)) { s with heap:=s.heap.push { cls:=.type "list",data:=.seq its.toArray },toks:=t' } :=
 I.laid (fun _ _ q=>W4 _ q) (W8 _) ⟨hz,its,0,hv,Wj _ rfl⟩
theorem Inv.fresh (I:Inv X pins σ H s):H s.heap.objs.size=none:=I.hok.fresh (W8 _)
theorem Inv.lstM (I:Inv X pins σ H s) (hH:H l=some (.lst xs)):xs.length≤W6∧∃ (its:List Value) (n:Nat),Vals xs its∧xs.length=its.length∧s.heap.get? l=some { cls:=.type "list",data:=.seq its.toArray n }:=by
 obtain ⟨z,its,n,r,e⟩:=I.hok l _ hH
 exact ⟨z,its,n,r,r.length,e⟩
end
section
variable {X:Cx}
def zba:V→List V→Hp→VK→Prop:=fun x vs H Q=>∃ l xs y,x = .ref l∧vs=[y]∧H l=some (.lst xs)∧xs.length < W6∧Q .non (upd H l (.lst (xs ++ [y])))
theorem z8q:MtM X "list.append" zba:=by
 intro pins s σ H x vs v us Q I rx rv h
 obtain ⟨l,xs,y,rfl,rfl,hH,hz,q⟩:=h
 cases rx
 obtain ⟨u,rfl,ru⟩:=rv.one
 obtain ⟨z,its,n,r,hl,e⟩:=I.lstM hH
 refine call_meets F.slot_list_append ⟨_,e,rfl⟩ F.entry_list_append (F.args_list_append_2 _ _) (PySem.list_append l its.toArray n u (by rw [Wb]; omega)) ⟨e,?_⟩
 refine ⟨.non,_,I.lset (its':=its ++ [u]) hH e (by simp) (r.append (.cons ru .nil)) ?_,rfl,q⟩
 rw [Qp,List.length_singleton]
 omega
theorem z99 (xs:List α) (k:Nat):(Wd k xs).flatten.length=k * xs.length:=by
 induction k with
 | zero=>simp
 | succ k ih=>rw [Q9,QU,Qp,ih,JL,JM]
end
section
variable {prog:Wl} {w:Wq} {A:Wr} {E:Value→W2→Prop} {s:W2}
set_option maxRecDepth 100000 in
end
section
variable {X:Cx}
end
section
variable {κ:Type} [DecidableEq κ]
def valV (kvs:List (κ×V)) (k:κ):Option V:=(kvs.find? fun kv=>decide (kv.1=k)).map (·.2)
def putK (kvs:List (κ×V)) (k:κ) (v:V):List (κ×V) :=
 if (kvs.any fun kv=>decide (kv.1=k))=true then kvs.map (fun kv=>if kv.1=k then (kv.1,v) else kv) else kvs ++ [(k,v)]
theorem z5D {p:κ×V} {r:List (κ×V)} {k:κ} (e:p.1=k):valV (p :: r) k=some p.2:=by simp [valV,QH,e]
theorem z5E {p:κ×V} {r:List (κ×V)} {k:κ} (e:¬ p.1=k):valV (p :: r) k=valV r k:=by simp [valV,QH,e]
theorem z9m (k:κ):∀ kvs:List (κ×V),(kvs.any fun kv=>decide (kv.1=k))=(valV kvs k).isSome
 | []=>rfl
 | p :: r=>by
  rw [QK]
  by_cases e:p.1=k
  ·simp only [z5D e,decide_eq_true e,Bool.true_or,Option.isSome_some]
  ·rw [z5E e,decide_eq_false e,Bool.false_or]; exact z9m k r
theorem z3i (kvs:List (κ×V)) (k:κ) (v:V):(putK kvs k v).length≤kvs.length + 1:=by
 unfold putK
 split
 ·rw [Wo]; omega
 ·rw [Qp,WC,List.length_nil]; omega
theorem RelO.isSome_eq (r:RelO o u):o.isSome=u.isSome:=by
 cases o with
 | none=>cases u with
  | none=>rfl
  | some _=>exact (show False from r).elim
 | some _=>cases u with
  | none=>exact (show False from r).elim
  | some _=>rfl
theorem KV.val {kvs:List (κ×V)} {vs:List (κ×Value)} (r:KV kvs vs) (k:κ):RelO (valV kvs k) (valueAt vs k):=by
 unfold KV at r
 induction r with
 | nil=>exact True.intro
 | @cons p q ps qs h t ih =>
  obtain ⟨h1,h2⟩:=h
  by_cases e:p.1=k
  ·have e':q.1=k:=h1.symm.trans e
   have b:valueAt (q :: qs) k=some q.2:=by simp [valueAt,QH,e']
   rw [z5D e,b]; exact h2
  ·have e':¬ q.1=k:=fun z=>e (h1.trans z)
   have b:valueAt (q :: qs) k=valueAt qs k:=by simp [valueAt,QH,e']
   rw [z5E e,b]; exact ih
theorem KV.any (r:KV kvs vs) (k:κ):(kvs.any fun kv=>decide (kv.1=k))=vs.any fun kv=>decide (kv.1=k):=by
 unfold KV at r
 induction r with
 | nil=>rfl
 | cons h t ih=>rw [QK,QK,ih,h.1]
theorem KV.repl (r:KV kvs vs) (k:κ) (ry:RelV y u) :
  KV (kvs.map fun kv=>if kv.1=k then (kv.1,y) else kv) (vs.map fun kv=>if kv.1=k then (kv.1,u) else kv):=by
 unfold KV at r ⊢
 induction r with
 | nil=>exact .nil
 | @cons p q ps qs h t ih =>
  rw [Ws,Ws]
  refine .cons ?_ ih
  obtain ⟨h1,h2⟩:=h
  by_cases e:p.1=k
  ·rw [if_pos e,if_pos (h1.symm.trans e)]; exact ⟨h1,ry⟩
  ·rw [if_neg e,if_neg (fun z=>e (h1.trans z))]; exact ⟨h1,h2⟩
theorem KV.put (r:KV kvs vs) (k:κ) (ry:RelV y u):KV (putK kvs k y) (stored vs k u):=by
 unfold putK stored
 rw [r.any k]
 by_cases e:(vs.any fun kv=>decide (kv.1=k))=true
 ·rw [if_pos e,if_pos e]; exact r.repl k ry
 ·rw [if_neg e,if_neg e]; exact Paired.snoc r ⟨rfl,ry⟩
theorem KV.length (r:KV kvs vs):kvs.length=vs.length:=Paired.length r
end
theorem zah (r:RelV (kV k) u):(z20 P w).is k u=true:=by
 cases k with
 | inl i=>obtain ⟨t,e⟩:=(show ∃ t,u=Value.int i t from r); subst e; exact z98 P w i t
 | inr x=>obtain ⟨t,e⟩:=(show ∃ t,u=Value.str x t from r); subst e; exact z97 P w x t
theorem z8y:∀ {ks:List Key} {us:List Value},Vals (ks.map kV) us→ItemsAre (z20 P w) ks us
 | [],_,r=>by rw [List.map_nil] at r; cases r; exact .nil
 | k :: ks,_,r=>by
  rw [Ws] at r
  cases r with
  | cons h t=>exact .cons (zah h) (z8y t)
abbrev KT (H:Hp):List (List Key×V)→List (List Key×Addr×Value)→Prop:=Paired fun p q=>p.1=q.1∧H q.2.1=some (.tup (p.1.map kV))∧RelV p.2 q.2.2
theorem KT.val {H:Hp} {kvs:List (List Key×V)} {xs:List (List Key×Addr×Value)} (r:KT H kvs xs) (k:List Key):RelO (valV kvs k) ((atKey xs k).map (·.2)):=by
 induction r with
 | nil=>exact True.intro
 | @cons p q ps qs h t ih =>
  obtain ⟨h1,_,h2⟩:=h
  by_cases e:p.1=k
  ·have e':q.1=k:=h1.symm.trans e
   have b:atKey (q :: qs) k=some q.2:=by simp [atKey,QH,e']
   rw [z5D e,b]; exact h2
  ·have e':¬ q.1=k:=fun z=>e (h1.trans z)
   have b:atKey (q :: qs) k=atKey qs k:=by simp [atKey,QH,e']
   rw [z5E e,b]; exact ih
theorem KT.repl (r:KT H kvs xs) (k:List Key) (ry:RelV y u) :
  KT H (kvs.map fun kv=>if kv.1=k then (kv.1,y) else kv) (xs.map (putAt k u)):=by
 induction r with
 | nil=>exact .nil
 | @cons p q ps qs h t ih =>
  rw [Ws,Ws]
  refine .cons ?_ ih
  obtain ⟨h1,h2,h3⟩:=h
  unfold putAt
  by_cases e:p.1=k
  ·rw [if_pos e,if_pos (h1.symm.trans e)]; exact ⟨h1,h2,ry⟩
  ·rw [if_neg e,if_neg (fun z=>e (h1.trans z))]; exact ⟨h1,h2,h3⟩
theorem KT.put (r:KT H kvs xs) (k:List Key) (hb:H b=some (.tup (k.map kV))) (ry:RelV y u) :
  KT H (putK kvs k y) (storedH xs k b u):=by
 have e:(kvs.any fun kv=>decide (kv.1=k))=(atKey xs k).isSome:=by
  rw [z9m,(r.val k).isSome_eq,JE]
 unfold putK storedH
 rw [e]
 by_cases q:(atKey xs k).isSome=true
 ·rw [if_pos q,if_pos q]; exact r.repl k ry
 ·rw [if_neg q,if_neg q]; exact Paired.snoc r ⟨rfl,hb,ry⟩
theorem KT.keeps (r:KT H kvs xs) (ht:∀ b ys,H b=some (.tup ys)→H' b=some (.tup ys)):KT H' kvs xs :=
 Paired.mapP r fun _ _ z=>⟨z.1,ht _ _ z.2.1,z.2.2⟩
section
variable {P:Wl} {w:Wq} {H:Hp} {h:Heap} {a:Addr}
theorem zfK (ok:HOk P w H h) (e:Rd H a u):ObjOk P w H h a u:=e.ok ok
theorem zc9 (ok:HOk P w H h) (e:Rd H a (.dK kvs)):kvs.length≤W6∧(a == J4)=false∧∃ vs,KV kvs vs∧h.DictOf (z20 P w) a vs :=
 show ObjOk P w H h a (.dK kvs) from zfK ok e
theorem zf9 (ok:HOk P w H h) (e:H a=some (.dK kvs)):kvs.length≤W6∧(a == J4)=false∧∃ vs,KV kvs vs∧h.DictOf (z20 P w) a vs:=zc9 ok (.inl e)
theorem z8x (ok:HOk P w H h) (e:H a=some (.tup (ks.map kV))):(tupleKind (z20 P w)).is h ks a:=by
 obtain ⟨_,its,r,p⟩:=(show ObjOk P w H h a (.tup (ks.map kV)) from ok a _ e)
 obtain ⟨o,h1,h2,n,h3⟩:=p.tup
 exact ⟨o,its.toArray,n,h1,h2,h3,by simpa using z8y r⟩
theorem zdp (ok:HOk P w H h) (e:Rd H a (.dT kvs)):kvs.length≤W6∧(a == J4)=false ∧
  ∃ xs,KT H kvs xs∧h.DictOfH (tupleKind (z20 P w)) a xs:=by
 obtain ⟨z,y,xs,r,o,es,ep,h1,h2,h3,h4,h5⟩:=(show ObjOk P w H h a (.dT kvs) from zfK ok e)
 refine ⟨z,y,xs,r,o,es,ep,h1,h2,h3,h4,fun x hx=>?_,h5⟩
 have all:∀ {l:List (List Key×V)} {m:List (List Key×Addr×Value)},KT H l m→∀ x ∈ m,(tupleKind (z20 P w)).is h x.1 x.2.1:=by
  intro l m q
  induction q with
  | nil=>intro x hx; exact nomatch hx
  | @cons p q ps qs hq t ih =>
   intro x hx
   rcases Wn.mp hx with e | hx
   ·subst e
    exact z8x ok (by rw [← hq.1]; exact hq.2.1)
   ·exact ih x hx
 exact all r x hx
theorem dt_of (ok:HOk P w H h) (e:H a=some (.dT kvs)):kvs.length≤W6∧(a == J4)=false ∧
  ∃ xs,KT H kvs xs∧h.DictOfH (tupleKind (z20 P w)) a xs:=zdp ok (.inl e)
end
def DGet (H:Hp) (a:Addr) (y:V) (r:Option V):Prop :=
 (∃ kvs k,Rd H a (.dK kvs)∧y=kV k∧r=valV kvs k)∨∃ kvs k b,Rd H a (.dT kvs)∧y = .ref b∧H b=some (.tup (k.map kV))∧r=valV kvs k
def DPut (H:Hp) (a:Addr) (y v:V) (H':Hp):Prop :=
 (∃ kvs k,H a=some (.dK kvs)∧y=kV k∧kvs.length < W6∧H'=upd H a (.dK (putK kvs k v))) ∨
 ∃ kvs k b,H a=some (.dT kvs)∧y = .ref b∧H b=some (.tup (k.map kV))∧kvs.length < W6∧H'=upd H a (.dT (putK kvs k v))
theorem DGet.k {H:Hp} {a:Addr} {kvs:List (Key×V)} {k:Key} (e:H a=some (.dK kvs)):DGet H a (kV k) (valV kvs k):=.inl ⟨kvs,k,.inl e,rfl,rfl⟩
theorem DPut.k {H:Hp} {a:Addr} {kvs:List (Key×V)} {k:Key} {v:V} (e:H a=some (.dK kvs)) (hl:kvs.length < W6):DPut H a (kV k) v (upd H a (.dK (putK kvs k v))):=.inl ⟨kvs,k,e,rfl,hl,rfl⟩
section
variable {X:Cx} {pins:List (Addr×Obj)} {σ:St} {H:Hp} {s:W2} {a:Addr} {y v:V} {u r:Value} {o:Option V} {A:Wr} {E:Value→W2→Prop}
theorem Inv.big (I:Inv X pins σ H s):J4 < s.heap.objs.size:=by
 have h:Wz < s.heap.objs.size:=(I.mod.glob.keeps I.bk).lt
 exact Nat.lt_trans (by decide) h
theorem zcf (hu:A.units + 1 < Qx) (I:Inv X pins σ H s) (g:DGet H a y (some v)) (ry:RelV y u) (h:∀ w' s',Inv X pins σ H s'→RelV v w'→Q w' s') :
  W5 (model X.prog X.w) A (Jp (.ref a) u) Q E s:=by
 rcases g with ⟨kvs,k,e,ey,l⟩ | ⟨kvs,k,b,e,ey,eb,l⟩
 ·subst ey
  obtain ⟨z,hd,vs,rel,dd⟩:=zc9 I.hok e
  obtain ⟨w',hw,rw'⟩:=RelO.some_of (v:=v) (o:=valueAt vs k) (by rw [l]; exact rel.val k)
  exact wpAny_getItem_of (zah ry) dd.mapOf hw (h w' _ (I.tok _) rw')
 ·subst ey
  cases (show u=Value.ref b from ry)
  obtain ⟨z,hd,xs,rel,dd⟩:=zdp I.hok e
  obtain ⟨w',hw,rw'⟩:=RelO.some_of (v:=v) (o:=(atKey xs k).map (·.2)) (by rw [l]; exact rel.val k)
  obtain ⟨p,hp,hp2⟩:=Option.map_eq_some_iff.mp hw
  refine wpAny_getItem_heap (Ju hu) (z8x I.hok eb) dd hp ?_
  rw [hp2]
  exact h w' _ (I.tok _) rw'
theorem d_in (hu:A.units + 1 < Qx) (I:Inv X pins σ H s) (g:DGet H a y o) (ry:RelV y u) (h:∀ s',Inv X pins σ H s'→Q (.bool o.isSome) s') :
  W5 (model X.prog X.w) A (Wu .In u (.ref a)) Q E s:=by
 rcases g with ⟨kvs,k,e,ey,l⟩ | ⟨kvs,k,b,e,ey,eb,l⟩
 ·subst ey
  obtain ⟨z,hd,vs,rel,dd⟩:=zc9 I.hok e
  refine wpAny_in_of (zah ry) hd dd.mapOf ?_
  rw [← (rel.val k).isSome_eq,← l]
  exact h _ (I.tok _)
 ·subst ey
  cases (show u=Value.ref b from ry)
  obtain ⟨z,hd,xs,rel,dd⟩:=zdp I.hok e
  refine wpAny_in_heap (Ju hu) (z8x I.hok eb) hd dd ?_
  have q:=(rel.val k).isSome_eq
  rw [JE] at q
  rw [← q,← l]
  exact h _ (I.tok _)
theorem zfb (hu:A.units + 1 < Qx) (I:Inv X pins σ H s) (g:DGet H a y o) (ry:RelV y u) (h:∀ s',Inv X pins σ H s'→Q (.bool (!o.isSome)) s') :
  W5 (model X.prog X.w) A (Wu .NotIn u (.ref a)) Q E s:=by
 rcases g with ⟨kvs,k,e,ey,l⟩ | ⟨kvs,k,b,e,ey,eb,l⟩
 ·subst ey
  obtain ⟨z,hd,vs,rel,dd⟩:=zc9 I.hok e
  refine wpAny_notIn_of (zah ry) hd dd.mapOf ?_
  rw [← (rel.val k).isSome_eq,← l]
  exact h _ (I.tok _)
 ·subst ey
  cases (show u=Value.ref b from ry)
  obtain ⟨z,hd,xs,rel,dd⟩:=zdp I.hok e
  refine wpAny_notIn_heap (Ju hu) (z8x I.hok eb) hd dd ?_
  have q:=(rel.val k).isSome_eq
  rw [JE] at q
  rw [← q,← l]
  exact h _ (I.tok _)
theorem z9e (I:Inv X pins σ H s) (mu:Mut (H a)) (hs:Qk a s.heap h') (he:∃ q,h'.get? a=some q) (new:ObjOk X.prog X.w (upd H a ob) h' a ob) :
  Inv X pins σ (upd H a ob) { s with heap:=h',toks:=t' } :=
 I.write (x:=a) (e:=a) mu (.inl rfl) (fun b q hb z=>(hs.2 b hb).trans z) he new
theorem zdX (z:kvs.length≤W6) (hd:(a == J4)=false) (rel:KV kvs vs) (dd:h'.DictOf (z20 P w) a vs) :
  ObjOk P w H' h' a (.dK kvs):=⟨z,hd,vs,rel,dd⟩
theorem zce (hu:A.units + 1 < Qx) (I:Inv X pins σ H s) (g:DPut H a y v H') (ry:RelV y u) (rv:RelV v r) (h:∀ s',Inv X pins σ H' s'→Q () s') :
  W5 (model X.prog X.w) A (setItem (.ref a) u r) Q E s:=by
 rcases g with ⟨kvs,k,e,ey,l,eH⟩ | ⟨kvs,k,b,e,ey,eb,l,eH⟩
 ·subst ey eH
  obtain ⟨z,hd,vs,rel,dd⟩:=zf9 I.hok e
  have hz:vs.length≤W6:=by rw [← rel.length]; exact z
  have hl:(putK kvs k v).length≤W6:=by have:=z3i kvs k v; omega
  refine wpAny_setItem_pairs (hsz:=hz) (zah ry) dd fun h' dd' hs=>h _ ?_
  have he:∃ q,h'.get? a=some q:=let ⟨q,_,_,hq,_⟩:=dd'; ⟨q,hq⟩
  exact z9e I (by rw [e]; exact True.intro) hs he (zdX hl hd (rel.put k rv) dd')
 ·subst ey eH
  cases (show u=Value.ref b from ry)
  obtain ⟨z,hd,xs,rel,dd⟩:=dt_of I.hok e
  have hz:xs.length≤W6:=by rw [← Paired.length rel]; exact z
  have hl:(putK kvs k v).length≤W6:=by have:=z3i kvs k v; omega
  refine wpAny_setItem_heap (hsz:=hz) (Ju hu) (z8x I.hok eb) dd fun h' dd' hs=>h _ ?_
  obtain ⟨q,es,ep,hq,h2,h3,h4,_,h5⟩:=dd'
  refine z9e I (by rw [e]; exact True.intro) hs ⟨q,hq⟩ ⟨hl,hd,_,(rel.put k eb rv).keeps fun c ys ec=>?_,q,es,ep,hq,h2,h3,h4,h5⟩
  rw [z0t (ne_of ec e (fun z=>nomatch z))]
  exact ec
end
section
variable {X:Cx} {pins:List (Addr×Obj)} {σ:St} {H:Hp} {s:W2} {a:Addr} {kvs:List (Key×V)} {k:Key} {u:Value} {A:Wr} {E:Value→W2→Prop}
theorem d_len (I:Inv X pins σ H s) (e:Rd H a (.dK kvs)) (h:∀ t s',Inv X pins σ H s'→Q (.int kvs.length t) s'):W5 (model X.prog X.w) A (call (.builtin "len") [.ref a]) Q E s:=by
 obtain ⟨z,hd,vs,rel,dd⟩:=zc9 I.hok e
 refine call_len_dict hd dd (by rw [← rel.length]; rw [WZ] at z; omega) ?_
 rw [← rel.length]
 exact h _ _ (I.tok _)
end
def sDPut (td ty tv:TE):TS:=fun D σ H=>tv σ H fun v H1=>td σ H1 fun x H2=>ty σ H2 fun y H3=>∃ a H4,x = .ref a∧DPut H3 a y v H4∧D.nx σ H4
section
variable {X:Cx} {o i e value:Expr} {pos pos' tpos:Pos} {td ty tv:TE}
theorem zer (hu:X.A.units + 1 < Qx) (ho:PE X o td) (hi:PE X i ty) (hv:PE X value tv) (hs:Jt value (some (.Subscript o i pos')) pos.line X.env=pure false) :
  PS X (.Assign [.Subscript o i pos'] value pos) (sDPut td ty tv):=by
 intro pins s σ H D I h
 refine wpAny_Assign_Subscript (thn (hv pins s σ H _ I h) fun r s1 ⟨v,H1,I1,rv,q1⟩=>thn (ho pins s1 σ H1 _ I1 q1) fun u s2 ⟨x,H2,I2,rx,q2⟩=>thn (hi pins s2 σ H2 _ I2 q2) fun iv s3 ⟨y,H3,I3,ry,a,H4,ex,g,q3⟩=>?_) hs
 subst ex
 obtain rfl:u=Value.ref a:=rx
 exact zce hu I3 g ry rv fun s4 I4=>⟨σ,H4,I4,q3⟩
end
theorem z9U (h:Heap) (hb:J4 < h.objs.size):ObjOk P w H (h.push { cls:=.type "dict",data:=.dict #[] }) h.objs.size (.dK []) :=
 ⟨Q2 _,beq_eq_false_iff_ne.mpr (Ne.symm (Wt hb)),[],.nil,Heap.DictOf.new h⟩
def zfu:TE:=fun _ H Q=>∀ p,H p=none→Q (.ref p) (upd H p (.dK []))
section
variable {X:Cx} {pos:Pos}
theorem zcY:PE X (.Dict [] [] pos) zfu:=fun pins s σ H Q I h =>
 wpAny_Dict_empty ⟨.ref s.heap.objs.size,_,I.laid (a:=s.heap.objs.size) (o:=.dK []) (t':=s.toks) (fun _ _ q=>W4 _ q) (W8 _) (z9U s.heap I.big),rfl,h _ (I.hok.fresh (W8 _))⟩
end
structure M1 (X:Cx) (o:Expr) (m:Str) (apos:Pos) (e:Expr) (cpos:Pos):Prop where
 base:attributeBase o m X.env (eval o X.env)=eval o X.env
 few:((QL cpos (We [e] X.env)).all (fun x=>!x.1) && (backToKw cpos (keywordEach [] X.env)).all (fun x=>x.1.isSome)
  && decide (([e]:List Expr).length + ([]:List Keyword).length + (if ([]:List Keyword).isEmpty then 0 else 1) < 30))=true
 line:(apos.endLine == cpos.line)=true
 trees:QL cpos (We [e] X.env)=[(false,eval e X.env)]
structure M2 (X:Cx) (o:Expr) (m:Str) (apos:Pos) (e f:Expr) (cpos:Pos):Prop where
 base:attributeBase o m X.env (eval o X.env)=eval o X.env
 few:((QL cpos (We [e,f] X.env)).all (fun x=>!x.1) && (backToKw cpos (keywordEach [] X.env)).all (fun x=>x.1.isSome)
  && decide (([e,f]:List Expr).length + ([]:List Keyword).length + (if ([]:List Keyword).isEmpty then 0 else 1) < 30))=true
 line:(apos.endLine == cpos.line)=true
 trees:QL cpos (We [e,f] X.env)=[(false,eval e X.env),(false,eval f X.env)]
section
variable {X:Cx} {pins:List (Addr×Obj)} {σ:St} {H:Hp} {s:W2} {a:Addr} {y d:V} {u r:Value} {o:Option V} {A:Wr} {E:Value→W2→Prop}
end
section
variable {X:Cx} {o e f:Expr} {apos cpos:Pos} {td ty tx:TE}
end
section
variable {X:Cx} {pins:List (Addr×Obj)} {σ:St} {H:Hp} {s:W2} {a:Addr} {kvs:List (Key×V)} {A:Wr} {E:Value→W2→Prop}
end
section
variable {X:Cx} {pins:List (Addr×Obj)} {σ:St} {H:Hp} {s:W2} {a:Addr} {y:V} {u:Value} {A:Wr} {E:Value→W2→Prop}
end
end L2
namespace Att
open PySem PySem.W PySem.Calls PyProof.Rows
theorem z6h:∀ (ns:List Int) (vs:List Value),WellAll P h vs (ns.map WData.int)→IntsAre vs ns:=by
 intro ns
 induction ns with
 | nil =>
  intro vs w
  rw [List.map_nil] at w
  cases w
  exact .nil
 | cons n ns ih =>
  intro vs w
  rw [Ws] at w
  cases w with
  | cons a b =>
   cases a
   exact .cons _ _ (ih _ b)
theorem zaT {l:OpenLaw} {n:Nat} (hn:l.most=some n) {P:Params} {h:Heap} {args:List WData} {vals:List Value}
  (hpre:l.row.toRowW.claim.pre args=true) (hwl:WellAll P h vals args) :
  ∃ a vs ns,vals=[Value.ref a]∧args=[WData.list (ns.map WData.int)]∧h.get? a=some { cls:=.type "list",data:=.seq vs.toArray }∧IntsAre vs ns∧ns.length≤n:=by
 have hsh:WShape.hasAll [] args [.list .int]=true:=(pre_splitW hpre).1
 have hc:l.pre.holds [] { args:=args } = true:=(pre_splitW hpre).2
 obtain ⟨d,r,rfl,h1,h2⟩:=hasAllW_cons hsh
 obtain rfl:=hasAllW_nil h2
 obtain ⟨xs,rfl,h3⟩:=hasW_list h1
 obtain ⟨ns,rfl⟩:=items_int h3
 have hlen:ns.length≤n:=by
  unfold OpenLaw.pre at hc
  have h4:(WTm.not (.lt (.lit (.int (n:Int))) (.len (.arg 0)))).holds [] { args:=[.list (ns.map .int)] } = true:=by
   have h4:=(holds_andW hc).1
   rw [hn] at h4
   exact h4
  have h5:=condW_of h4 (w_not (w_lt w_lit (w_len_list (w_arg rfl))))
  rw [Wo] at h5
  refine Nat.le_of_not_lt fun q=>?_
  have q':(n:Int) < ((ns.length:Nat):Int):=by omega
  first
   | (rw [decide_eq_true q'] at h5; exact absurd h5 (by decide))
   | (simp at h5; omega)
 cases hwl with
 | cons w1 w2 =>
  cases w2
  cases w1 with
  | list ho hall=>exact ⟨_,_,ns,rfl,rfl,ho,z6h ns _ hall,hlen⟩
theorem zbe (l:OpenLaw) (args:List WData):l.row.toRowW.claim.post args (.bool true) args=true :=
 postW_of (r:=l.row.toRowW) (X:=(true == true))
  (show WShape.has [] (.bool true) .bool=true by first | rfl | decide | simp [WShape.has,WShape.arms,WShape.armsAll])
  (show (WTm.eq .res (.lit (.bool true))).value [] { args:=args,res:=some (.bool true),after:=args } = some (.bool (true == true)) from w_eq_bool (w_res rfl) w_lit) rfl
theorem attach_call {l:OpenLaw} {n:Nat} {q:Wl} {loose:List Str} {XP:(Str→Option Value)→Heap→Prop} {YP:Wq→Heap→Prop} {d:DefRec}
  (hn:l.most=some n) (hdf:d.params.defaults=[])
  (call:∀ (w:Wq) (s₀ s₁:W2) (mg mb:Str→Option Value) (fa:Addr) (o:Obj) (pm cd doc:Value) (a:Addr) (vs:List Value) (ns:List Int),
   Ground q loose [] XP w s₀ mg mb s₁.heap→YP w s₁.heap →
   s₁.heap.get? fa=some o→o.data = .func (docDef d.name d.params d.body d.scope pm cd doc)→s₁.heap.CodeRec cd d.name→mg d.name=some (.ref fa) →
   s₁.heap.get? a=some { cls:=.type "list",data:=.seq vs.toArray }→IntsAre vs ns→ns.length≤n→s₁.gens = #[] →
   QM (model l.prog w) callerA (.call (.ref fa) ⟨[.ref a],[]⟩) (fun r s'=>r = .ok (.ret (.bool true))∧OldK s₁.heap s'.heap∧s'.os=s₁.os∧AllBare s'.gens) s₁) :
  WalkO q loose XP YP l.row.toRowW d [] (fun f vs=>PySem.call f vs):=by
 intro w s₀ s₁ mg mb G Y fa o pm cd doc dV kV ho hd hcd hD hmg hg args vals as hpre hlay hrd hwl hlo
 obtain rfl:dV = .none:=Dflts.none hD hdf
 obtain rfl:kV = .none:=Dflts.noKw hD
 obtain ⟨a,vs,ns,rfl,rfl,hobj,hints,hlen⟩:=zaT hn hpre hwl
 refine enter_call (codeAny_mono (call w s₀ s₁ mg mb fa o pm cd doc a vs ns G Y ho (fd_plain hd) hcd hmg hobj hints hlen hg) fun r s' hq=>?_)
 obtain ⟨rfl,h2,h3,h4⟩:=hq
 exact ⟨.inl ⟨.bool true,.bool true,[],rfl,fun _=>rfl,.bool true,zbe l _,fun _=>⟨List.Pairwise.nil,fun _ hm=>(nomatch hm)⟩⟩,h2,h3,h4⟩
section
variable {prog:Wl} {w:Wq} {A:Wr} {E:Value→W2→Prop} {s:W2} {K:Frag}
end
end Att
namespace L2
open PySem PySem.Spec PyProof.Rows
theorem vals_ints:∀ {vs:List Value} {ns:List Int},IntsAre vs ns→Vals (ns.map V.int) vs
 | _,_,.nil=>.nil
 | _,_,.cons n t h=>.cons ⟨t,rfl⟩ (vals_ints h)
def Only (H:Hp):Prop:=∀ b,H b=none∨∃ o xs,H b=some (.frz o (.lst xs))
theorem zdd {P:Wl} {w:Wq} {K:W1} {mg mb:Str→Option Value} {CX:CXT} {k:Nat} {fa a:Addr} {fd:Q7} {x:Str} {sp:Sp} {s₁:W2} {vs:List Value} {ns:List Int}
  (KX:K.In s₁.heap) (hns:s₁.heap.Ns Wz mg) (hb:s₁.heap.Ns builtinsNs mb) (hbb:∀ x:Str,x≠"__name__"→mb x=Qz x) (hlim:s₁.heap.NoLimit) (hg:s₁.gens = #[])
  (ha:s₁.heap.get? a=some { cls:=.type "list",data:=.seq vs.toArray }) (hi:IntsAre vs ns) (hl:ns.length≤W6) (hr:Room k callerA)
  (F:∀ base:Heap,K.In base→base.Ns Wz mg→FnOk P w K mg base CX k fa fd [x] sp) (hbind:∀ (s:W2) (u:Value),BindsTo s fd ⟨[u],[]⟩ [(x,u)])
  (hsp:∀ H:Hp,Only H→SqL K H a (ns.map V.int)→sp [.ref a] H (fun v _=>v = .bl true) fun _ _ _=>False)
  (hCX:∀ H e s',CX [] H s₁ (fun _ _ _=>False) e s'→False) :
  QM (model P w) callerA (.call (.ref fa) ⟨[.ref a],[]⟩) (fun r s'=>r = .ok (.ret (.bool true))∧OldK s₁.heap s'.heap∧s'.os=s₁.os∧AllBare s'.gens) s₁:=by
 have rv:=vals_ints hi
 have lenV:=hi.length
 -- from an abstract heap in which nothing but the script may be tracked
 have core:∀ H:Hp,Only H→SqL K H a (ns.map V.int)→HOk P w H s₁.heap→(∀ b,H b≠none→b=a)→(H a≠none→K.lookup a=none) →
   QM (model P w) callerA (.call (.ref fa) ⟨[.ref a],[]⟩) (fun r s'=>r = .ok (.ret (.bool true))∧OldK s₁.heap s'.heap∧s'.os=s₁.os∧AllBare s'.gens) s₁:=by
  intro H hO hS hok hA hK
  have base_of:∀ {b:Addr} {o:Obj},s₁.heap.get? b=some o→H b=none→(hidT s₁.heap H).get? b=some o:=fun e n=>zdh e n
  have noA:∀ {b:Addr} {o:Obj} {es:Array DictEntry} {ep:Nat},s₁.heap.get? b=some o→o.data = .dict es ep→H b=none:=fun {b o es ep} e d=>by
   cases q:H b with
   | none=>rfl
   | some u =>
    have e':b=a:=hA b (by rw [q]; simp)
    subst e'
    rw [ha] at e; cases e
    have d':Data.seq vs.toArray _=Data.dict es ep:=d
    cases d'
  have nsK:∀ {b:Addr} {m:Str→Option Value},s₁.heap.Ns b m→(hidT s₁.heap H).Ns b m:=fun {b m} ⟨o,es,ep,e,d,r⟩=>⟨o,es,ep,base_of e (noA e d),d,r⟩
  have hKb:K.In (hidT s₁.heap H):=fun b o e=>base_of (KX b o e) (by
   cases q:H b with
   | none=>rfl
   | some u =>
    have e':b=a:=hA b (by rw [q]; simp)
    subst e'
    rw [hK (by rw [q]; simp)] at e; cases e)
  have hM:Mod K mg (hidT s₁.heap H):=⟨hKb,nsK hns,⟨mb,nsK hb,hbb⟩,let ⟨mc,h1,h2⟩:=hlim; ⟨mc,nsK h1,h2⟩⟩
  have e0:Env0 P w K mg (hidT s₁.heap H) callerA [] s₁ H:=⟨rfl,hM,fun b o e=>zeI e,Nat.le_of_eq (zbQ _ _),trivial,fun b hb=>absurd (show b ∈ ([]:List Addr) from hb) (by simp),hok,.of_eq hg⟩
  refine codeAny_mono ((F _ hKb (nsK hns)).run callerA [] s₁ H ⟨[.ref a],[]⟩ [.ref a] [.ref a] _ _ hr e0 (hbind s₁ (.ref a)) (.cons rfl .nil) (hsp H hO hS)) fun r s' h=>?_
  cases r with
  | error e=>exact (hCX H e s' h).elim
  | ok fl =>
   cases fl with
   | next=>exact False.elim h
   | brk=>exact False.elim h
   | cont=>exact False.elim h
   | ret u =>
    obtain ⟨v,H',os,bare,un,hok',r',q⟩:=h
    have q':v = .bl true:=q
    subst q'
    obtain rfl:u=Value.bool true:=r'
    refine ⟨rfl,OldK.of_keep fun b o e=>?_,os,bare⟩
    cases q:H b with
    | none=>exact un.keep b o e q (by intro z; exact absurd (show b ∈ ([]:List Addr) from z) (by simp)) (by simp)
    | some u =>
     rcases hO b with z | ⟨ob,xs,z⟩
     ·rw [q] at z; cases z
     ·have z2:=un.frzs b ob _ z
      obtain ⟨e1,_⟩:=hok b _ z
      obtain ⟨e2,_⟩:=hok' b _ z2
      rw [e] at e1; cases e1
      exact e2
 cases hk:K.lookup a with
 | some o =>
  -- the script is one of the module's own objects
  have e:=KX a o hk
  rw [ha] at e
  cases e
  refine core (fun _=>none) (fun _=>.inl rfl) (.inr ⟨_,vs.toArray,_,hk,rfl,rfl,rfl,by rw [Wb,lenV]; exact hl,by simpa using rv⟩) (fun b u z=>by have z':(none:Option HO)=some u:=z; cases z') (fun b z=>absurd rfl z) fun z=>absurd rfl z
 | none =>
  refine core (fun b=>if b=a then some (.frz { cls:=.type "list",data:=.seq vs.toArray } (.lst (ns.map V.int))) else none) (fun b=>?_) (.inl (.inr ⟨{ cls:=.type "list",data:=.seq vs.toArray },if_pos rfl⟩)) (fun b u z=>?_) (fun b z=>?_) fun _=>hk
  ·by_cases hb:b=a
   ·exact .inr ⟨_,_,if_pos hb⟩
   ·exact .inl (if_neg hb)
  ·by_cases hb:b=a
   ·have z':=(if_pos hb).symm.trans z
    cases z'
    subst hb
    exact ⟨ha,by rw [Wo]; exact hl,vs,_,rv,ha⟩
   ·have z':=(if_neg hb).symm.trans z
    cases z'
  ·by_cases hb:b=a
   ·exact hb
   ·exact absurd (if_neg hb) z
abbrev KOf {K:W1} {h:Heap} (_:K.In h):W1:=K
theorem walk_of {l:PySem.W.OpenLaw} {n k:Nat} {q:Wl} {loose:List Str} {XP:(Str→Option Value)→Heap→Prop} {YP:Wq→Heap→Prop} {d:DefRec} {K:Params→W1} {CX:Wq→CXT} {sp:Wq→Sp} {x:Str}
  (hn:l.most=some n) (hn2:n≤W6) (hdf:d.params.defaults=[]) (hr:Room k callerA)
  (hY:∀ (w:Wq) (h:Heap),YP w h→(K w.params).In h)
  (F:∀ (w:Wq) (mg:Str→Option Value) (fa:Addr) (h:Heap),(K w.params).In h→h.Ns Wz mg→mg d.name=some (.ref fa) →
   ∃ fd:Q7,(∀ (s:W2) (u:Value),BindsTo s fd ⟨[u],[]⟩ [(x,u)]) ∧
    ∀ base:Heap,(K w.params).In base→base.Ns Wz mg→FnOk l.prog w (K w.params) mg base (CX w) k fa fd [x] (sp w))
  (hsp:∀ (w:Wq) (H:Hp) (a:Addr) (ns:List Int),ns.length≤n→Only H→SqL (K w.params) H a (ns.map V.int)→sp w [.ref a] H (fun v _=>v = .bl true) fun _ _ _=>False)
  (hCX:∀ (w:Wq) (H:Hp) (s:W2) (e:Value) (s':W2),CX w [] H s (fun _ _ _=>False) e s'→False) :
  PySem.W.WalkO q loose XP YP l.row.toRowW d [] (fun f vs=>PySem.call f vs):=by
 refine Att.attach_call hn hdf fun w s₀ s₁ mg mb fa o pm cd doc a vs ns G Y ho hd hcd hmg hobj hints hlen hg=>?_
 have KX:=hY w _ Y
 obtain ⟨fd,hb,hF⟩:=F w mg fa _ KX G.T.g hmg
 exact zdd KX G.T.g G.T.b G.T.builtins G.T.nolimit hg hobj hints (WV hlen hn2) hr hF hb (fun H hO hS=>hsp w H a ns hlen hO hS) fun H e s'=>hCX w H s₁ e s'
def z3N (s:Stmt):Arguments:=match s with
 | .FunctionDef _ a _ _ _ _ _ _ _ _=>a
 | _=>{ posonlyargs:=[],args:=[],vararg:=none,kwonlyargs:=[],kw_defaults:=[],kwarg:=none,defaults:=[] }
def z2u (s:Stmt):List Stmt:=match s with
 | .FunctionDef _ _ b _ _ _ _ _ _ _=>b
 | _=>[]
def z0b (s:Stmt):Scope:=match s with
 | .FunctionDef _ _ _ _ _ _ sc _ _ _=>sc
 | _=>{ kind:=.function,names:=[],isGenerator:=false,isCoroutine:=false }
abbrev CX0:CXT:=fun _ _ _ _ _ _=>False
abbrev E0:XK:=fun _ _ _=>False
theorem pass0:zcA CX0 X E0:=fun _ _ _ _ _ _ _ h=>h.elim
structure Fun (K:W1) (x qual:Str) (st:Stmt) (f:Addr) (fd:Q7):Prop where
 ex:∃ (oc:Value) (od:Option Addr) (kV doc pm:Value) (an:Option Addr) (cdv ct:Value) (osl:Array (Option Value)),
  fd=QF x qual (z3N st) (z2u st) (z0b st) .none kV doc pm an cdv ct∧K.lookup f=some ⟨oc,od,.func fd,osl⟩∧PySem.W.codeIn K cdv qual=true
 kp:QY K (.ref f)=true
section
variable {P:Wl} {w:Wq} {K:W1} {mg:Str→Option Value} {base:Heap}
theorem Fun.ok {x qual:Str} {st:Stmt} {f:Addr} {fd:Q7} {N ps:List Str} {k:Nat} {sp:Sp} (F:Fun K x qual st f fd) (S:FnScope N ps (z0b st)) (len:∀ vs H Q E,sp vs H Q E→vs.length=ps.length)
  (hbody:∀ (cdv:Value) (A:Wr) (outer:List Env) (s:W2) (H:Hp) (vs:List V) (Q:VK) (E:XK),Room k (A.deeper (envOfC qual (z0b st) s.heap.objs.size f cdv))→sp vs H Q E →
   ∃ t,PSs (cxOf CX0 P w K mg base N qual (z0b st) f cdv A outer s H E).nox (z2u st) t∧t { nx:=fun _ H'=>Q .non H',rt:=Q } (z6y N vs) H):FnOk P w K mg base CX0 (k + 1) f fd ps sp:=by
 obtain ⟨oc,od,kV,doc,pm,an,cdv,ct,osl,rfl,lk,hcd⟩:=F.ex
 refine fn_of lk hcd S len fun A outer s H vs Q E hr hsp=>?_
 obtain ⟨t,h,q⟩:=hbody cdv A outer s H vs Q E hr hsp
 exact ⟨t,h.nox,q⟩
theorem Fun.binds {x qual:Str} {st:Stmt} {f:Addr} {fd:Q7} {ps:List Str} (F:Fun K x qual st f fd)
  (h:∀ (kV doc pm:Value) (an:Option Addr) (cdv ct:Value) (us:List Value),us.length=ps.length→bindArgs (QF x qual (z3N st) (z2u st) (z0b st) .none kV doc pm an cdv ct) ⟨us,[]⟩=pure (ps.zip us)):Binds K fd ps []:=by
 obtain ⟨oc,od,kV,doc,pm,an,cdv,ct,osl,rfl,lk,hcd⟩:=F.ex
 exact .all (h kV doc pm an cdv ct)
theorem zdS {x qual:Str} {st:Stmt} {f:Addr} {oc:Value} {od an:Option Addr} {osl:Array (Option Value)} {kV doc pm cdv ct:Value} (l:K.lookup f=some ⟨oc,od,.func (QF x qual (z3N st) (z2u st) (z0b st) .none kV doc pm an cdv ct),osl⟩)
  (c:PySem.W.codeIn K cdv qual=true) (k:QY K (.ref f)=true):Fun K x qual st f (QF x qual (z3N st) (z2u st) (z0b st) .none kV doc pm an cdv ct):=⟨⟨oc,od,kV,doc,pm,an,cdv,ct,osl,rfl,l,c⟩,k⟩
end
theorem zaL (h:n≤1000):n < W6:=Nat.lt_of_le_of_lt h (by decide)
section
variable {X:Cx}
theorem pv (i:Nat) (hN:X.N[i]? = some x:=by rfl) (hv:Vis X.env.scope x:=by first | exact Or.inl rfl | exact Or.inr (Or.inl rfl) | exact Or.inr (Or.inr rfl)) (hd:(x == ("__debug__" : Str))=false:=by decide)
  (hcd:(x == ("__classdict__" : Str))=false:=by decide):PE X (.Name x pos) (tVar i):=zg8 hN hv hd hcd
theorem zcq:CallR X (.builtin "len") (fun xs H Q=>∃ a kvs,xs=[V.ref a]∧H a=some (.dK kvs)∧Q (.int kvs.length) H):=by
 intro pins s σ H xs us Q I r h
 obtain ⟨a,kvs,rfl,ha,q⟩:=h
 obtain ⟨u,rfl,ru⟩:=z4b r
 cases ru
 exact d_len I (.inl ha) fun t s' I'=>⟨.int kvs.length,H,I',⟨t,rfl⟩,q⟩
end
section
variable {κ:Type} [DecidableEq κ]
end
def z29 (cells:List (Str×Addr)):List (Str×NameKind)→List (Str×Addr)→List (Str×Addr)
 | [],acc=>acc
 | (n,k) :: r,acc=>z29 cells r (if k == .free then (match cells.lookup n with | some a=>(n,a) :: acc | none=>acc) else acc)
theorem z4t (f:Str×NameKind→List (Str×Addr)→Sem (ForInStep (List (Str×Addr))))
  (hf:∀ name kind cs,f (name,kind) cs=if kind == .free then (do let a ← cellOf env name; pure (.yield ((name,a) :: cs))) else pure (.yield cs)) :
  ∀ (names:List (Str×NameKind)) (acc:List (Str×Addr)),(∀ x ∈ names,x.2=NameKind.free→∃ c,env.cells.lookup x.1=some c)→(forIn names acc f:Sem (List (Str×Addr)))=pure (z29 env.cells names acc)
 | [],acc,_=>by rw [List.forIn_nil]; rfl
 | (n,k) :: r,acc,h=>by
  rw [List.forIn_cons,hf]
  unfold z29
  by_cases hk:(k == NameKind.free)=true
  ·obtain ⟨c,hc⟩:=h (n,k) Wm (by simpa using hk)
   have hc':env.cells.lookup n=some c:=hc
   have e:cellOf env n=pure c:=by unfold cellOf; rw [hc']
   rw [if_pos hk,if_pos hk,e,hc']
   exact z4t f hf r _ fun x hx=>h x (Wi _ hx)
  ·rw [if_neg hk,if_neg hk]
   exact z4t f hf r _ fun x hx=>h x (Wi _ hx)
theorem zar (h:∀ x ∈ scope.names,x.2=NameKind.free→∃ c,env.cells.lookup x.1=some c):closureFor scope env=pure (z29 env.cells scope.names []):=by
 unfold closureFor
 dsimp only
 rw [z4t (env:=env) _ (fun name kind cs=>by cases hkc:kind == NameKind.free <;> simp [hkc]) scope.names [] h]
 rfl
theorem z75:∀ (names:List (Str×NameKind)) (acc:List (Str×Addr)),(n,c) ∈ z29 cells names acc→(n,c) ∈ acc∨((n,NameKind.free) ∈ names∧cells.lookup n=some c)
 | [],acc,h=>.inl h
 | (y,k) :: r,acc,h=>by
  unfold z29 at h
  rcases z75 r _ h with q | ⟨q,e⟩
  ·by_cases hk:(k == NameKind.free)=true
   ·rw [if_pos hk] at q
    have hk':k=NameKind.free:=by simpa using hk
    cases e:cells.lookup y with
    | none=>rw [e] at q; exact .inl q
    | some a =>
     rw [e] at q
     rcases Wn.mp q with z | z
     ·cases z
      exact .inr ⟨by rw [hk']; exact Wm,e⟩
     ·exact .inl z
   ·rw [if_neg hk] at q; exact .inl q
  ·exact .inr ⟨Wi _ q,e⟩
theorem z6s:∀ (names:List (Str×NameKind)) (acc:List (Str×Addr)),(acc.lookup n).isSome=true∨((n,NameKind.free) ∈ names∧(cells.lookup n).isSome=true)→((z29 cells names acc).lookup n).isSome=true
 | [],acc,h=>h.elim id fun z=>absurd z.1 (by simp)
 | (y,k) :: r,acc,h=>by
  unfold z29
  apply z6s r
  by_cases hk:(k == NameKind.free)=true
  ·rw [if_pos hk]
   cases e:cells.lookup y with
   | none =>
    rcases h with h | ⟨h1,h2⟩
    ·exact .inl h
    ·rcases Wn.mp h1 with z | z
     ·cases z
      rw [e] at h2; cases h2
     ·exact .inr ⟨z,h2⟩
   | some a =>
    by_cases hn:(n == y)=true
    ·refine .inl ?_
     show (List.lookup n ((y,a) :: acc)).isSome=true
     rw [Qj,hn]
     rfl
    ·rcases h with h | ⟨h1,h2⟩
     ·refine .inl ?_
      show (List.lookup n ((y,a) :: acc)).isSome=true
      have hn':(n == y)=false:=by simpa using hn
      rw [Qj,hn']
      exact h
     ·rcases Wn.mp h1 with z | z
      ·cases z
       exact absurd (by simp) hn
      ·exact .inr ⟨z,h2⟩
  ·rw [if_neg hk]
   rcases h with h | ⟨h1,h2⟩
   ·exact .inl h
   ·rcases Wn.mp h1 with z | z
    ·cases z
     exact absurd rfl hk
    ·exact .inr ⟨z,h2⟩
theorem zcm:∀ (names:List (Str×NameKind)) (h:Heap) (acc:List (Str×Addr)),(n,c) ∈ QD h.objs.size names acc →
  (n,c) ∈ acc∨((n,NameKind.cell) ∈ names∧h.objs.size≤c∧(Jv h names).IsCell c none)
 | [],_,_,h=>.inl h
 | (y,k) :: r,h,acc,hm=>by
  unfold QD at hm
  unfold Jv
  by_cases hk:(k == NameKind.cell)=true
  ·rw [if_pos hk] at hm
   rw [if_pos hk]
   have hk':k=NameKind.cell:=by simpa using hk
   have sz:(h.push { cls:=.type "cell",data:=.cell none }).objs.size=h.objs.size + 1:=Qu ..
   rw [← sz] at hm
   rcases zcm r _ _ hm with q | ⟨q1,q2,q3⟩
   ·rcases Wn.mp q with z | z
    ·cases z
     refine .inr ⟨by rw [hk']; exact Wm,W8 _,?_⟩
     exact Heap.IsCell.keeps ⟨_,Wj _ rfl,rfl⟩ (pushCells_keeps r _)
    ·exact .inl z
   ·exact .inr ⟨Wi _ q1,by rw [sz] at q2; omega,q3⟩
  ·rw [if_neg hk] at hm
   rw [if_neg hk]
   rcases zcm r _ _ hm with q | ⟨q1,q2,q3⟩
   ·exact .inl q
   ·exact .inr ⟨Wi _ q1,q2,q3⟩
theorem zcn:∀ (names:List (Str×NameKind)) (k:Nat) (acc:List (Str×Addr)),(∀ n n' c,(n,c) ∈ acc→(n',c) ∈ acc→n=n')→(∀ n c,(n,c) ∈ acc→c < k) →
  ∀ n n' c,(n,c) ∈ QD k names acc→(n',c) ∈ QD k names acc→n=n'
 | [],_,_,h,_=>h
 | (y,kd) :: r,k,acc,h,hb=>by
  unfold QD
  by_cases hk:(kd == NameKind.cell)=true
  ·rw [if_pos hk]
   refine zcn r (k + 1) _ (fun n n' c h1 h2=>?_) fun n c hm=>?_
   ·rcases Wn.mp h1 with e | h1 <;> rcases Wn.mp h2 with e' | h2
    ·cases e; cases e'; rfl
    ·cases e; exact absurd (hb _ _ h2) (Qr _)
    ·cases e'; exact absurd (hb _ _ h1) (Qr _)
    ·exact h n n' c h1 h2
   ·rcases Wn.mp hm with e | hm
    ·cases e; exact Nat.lt_succ_self _
    ·exact QJ (hb _ _ hm)
  ·rw [if_neg hk]
   exact zcn r k acc h hb
theorem z1c {env:Env} {x:Str}:∀ {names:List (Str×NameKind)} {k:NameKind},
  (names.map fun (y:Str×NameKind)=>if (y.2 == NameKind.free && env.scope.kind == .function && env.kindOf y.1 == some .cell) then (y.1,NameKind.cell) else (y.1,y.2)).lookup x=some k →
  names.lookup x=some k∨(k=NameKind.cell∧names.lookup x=some .free)
 | [],_,h=>by simp at h
 | (n,kd) :: r,k,h=>by
  rw [Ws] at h
  have ih:=@z1c env x r k
  cases hx:x == n with
  | true =>
   by_cases hc:(kd == NameKind.free && env.scope.kind == .function && env.kindOf n == some .cell)=true
   ·rw [if_pos hc,Qj,hx] at h
    cases h
    simp only [Wa] at hc
    have:kd=NameKind.free:=by simpa using hc.1.1
    exact .inr ⟨rfl,by rw [Qj,hx,this]⟩
   ·rw [if_neg hc,Qj,hx] at h
    cases h
    exact .inl (by rw [Qj,hx])
  | false =>
   have h':(r.map fun (y:Str×NameKind)=>if (y.2 == NameKind.free && env.scope.kind == .function && env.kindOf y.1 == some .cell) then (y.1,NameKind.cell) else (y.1,y.2)).lookup x=some k:=by
    by_cases hc:(kd == NameKind.free && env.scope.kind == .function && env.kindOf n == some .cell)=true
    ·rw [if_pos hc,Qj,hx] at h; exact h
    ·rw [if_neg hc,Qj,hx] at h; exact h
   rw [Qj,hx]
   exact ih h'
def z36 (X:Cx) (scope:Scope) (s₀:W2) (H₀:Hp) (ex:List Addr):Cx :=
 { X with
  env:={ scope:=relabel scope X.env,locals:=s₀.heap.objs.size,globals:=X.env.globals,cells:=QD (s₀.heap.objs.size + 1) scope.names (z29 X.env.cells scope.names []),qual:=X.env.qual,func:=none,code:=X.env.code,frame:=X.env.frame,builtins:=X.env.builtins }
  s₀:=s₀
  H₀:=H₀
  outer:=X.stack
  ex:=ex
  fn:=fun x=>scope.names.lookup x == some .cell
  pn:=[]
  xe:=fun _ _=>False }
structure CScope (X:Cx) (scope:Scope) (cs:List Nat):Prop where
 kind:scope.kind = .function
 names:∀ x ∈ scope.names,x.2 = .local→scope.names.lookup x.1=some .local
 free:∀ x ∈ scope.names,x.2 = .free→X.env.kindOf x.1=some .cell∨X.env.kindOf x.1=some .free
 nd:(scope.names.map (·.1)).Nodup
 own:∀ (i:Nat) x,X.N[i]? = some x→scope.names.lookup x=some .local∨scope.names.lookup x=some .cell→i ∈ cs
def clr (cs:List Nat) (σ:St):St:=cs.foldl (fun σ i=>σ.set i none) σ
theorem z7N (cs:List Nat):∀ σ:St,(clr cs σ).length=σ.length:=by
 induction cs with
 | nil=>intro σ; rfl
 | cons i r ih =>
  intro σ
  show (clr r (σ.set i none)).length=_
  rw [ih]; simp
theorem z3Q:∀ (cs:List Nat) (σ:St) (i:Nat) (v:V),(clr cs σ)[i]? = some (some v)→σ[i]? = some (some v)∧i ∉ cs:=by
 intro cs
 induction cs with
 | nil=>intro σ i v h; exact ⟨h,by simp⟩
 | cons j r ih =>
  intro σ i v h
  have h':(clr r (σ.set j none))[i]? = some (some v):=h
  obtain ⟨h1,h2⟩:=ih _ i v h'
  by_cases e:j=i
  ·subst e
   rw [Qa] at h1
   simp at h1
  ·rw [W9 e] at h1
   exact ⟨h1,by simp only [Wn,not_or]; exact ⟨Ne.symm e,h2⟩⟩
theorem z69:∀ {l:List (Str×α)},(l.map (·.1)).Nodup→(x,k) ∈ l→(x,k') ∈ l→k=k'
 | (y,j) :: r,nd,h1,h2=>by
  rw [Ws,List.nodup_cons] at nd
  rcases Wn.mp h1 with e | g1 <;> rcases Wn.mp h2 with e' | g2
  ·cases e; cases e'; rfl
  ·cases e; exact absurd (WG (f:=(·.1)) g2) nd.1
  ·cases e'; exact absurd (WG (f:=(·.1)) g1) nd.1
  ·exact z69 nd.2 g1 g2
section
variable {X:Cx} {pins:List (Addr×Obj)} {σ:St} {H:Hp} {s:W2} {scope:Scope} {cs:List Nat} {fp:List Addr}
theorem zap (I:Inv X pins σ H s) (S:CScope X scope cs) (hf:∀ b ∈ fp,FpOk X pins H b) (hlt:∀ b ∈ fp,b < s.heap.objs.size) :
  Inv (z36 X scope s H fp) [] (clr cs σ) H { s with heap:=Jv (s.heap.push { cls:=.type "dict",data:=.dict #[] }) scope.names }:=by
 have sz:(s.heap.push { cls:=.type "dict",data:=.dict #[] }).objs.size=s.heap.objs.size + 1:=Qu ..
 have kp:∀ b o,s.heap.get? b=some o→(Jv (s.heap.push { cls:=.type "dict",data:=.dict #[] }) scope.names).get? b=some o:=fun b o e=>pushCells_keeps _ _ b o (W4 _ e)
 have clo:∀ n c,(n,c) ∈ z29 X.env.cells scope.names []→(n,NameKind.free) ∈ scope.names∧X.env.cells.lookup n=some c:=fun n c h=>(z75 _ _ h).elim (fun z=>absurd z (by simp)) id
 have cltm:∀ n c,(n,c) ∈ z29 X.env.cells scope.names []→c < s.heap.objs.size:=fun n c h=>by
  obtain ⟨v,q⟩:=I.cell n c (clo n c h).2
  exact q.lt
 have cel:∀ n c,(n,c) ∈ QD (s.heap.objs.size + 1) scope.names (z29 X.env.cells scope.names []) →
   ((n,NameKind.free) ∈ scope.names∧X.env.cells.lookup n=some c)∨((n,NameKind.cell) ∈ scope.names∧s.heap.objs.size + 1≤c∧(Jv (s.heap.push { cls:=.type "dict",data:=.dict #[] }) scope.names).IsCell c none):=fun n c h=>by
  rw [← sz] at h
  rcases zcm _ _ _ h with q | q
  ·exact .inl (clo n c q)
  ·rw [sz] at q; exact .inr q
 have cinj:=zcn scope.names (s.heap.objs.size + 1) (z29 X.env.cells scope.names []) (fun n n' c h1 h2=>I.ok.inj n n' c (clo n c h1).2 (clo n' c h2).2) (fun n c h=>QJ (cltm n c h))
 have hasC:∀ x ∈ scope.names,x.2 = .free→∃ c,X.env.cells.lookup x.1=some c:=fun x hx hk=>I.ok.has x.1 (S.free x hx hk)
 have fpn:∀ b ∈ fp,b ∉ frs X.stack:=fun b hb z=>by
  obtain ⟨_,f1,f2,_⟩:=hf b hb
  rcases Wn.mp (I.stkSub b z) with e | e
  ·exact f1 e
  ·exact f2 e
 have kindC:∀ x,(z36 X scope s H fp).env.kindOf x=some .cell∨(z36 X scope s H fp).env.kindOf x=some .free→scope.names.lookup x=some .cell∨scope.names.lookup x=some .free:=fun x h=>by
  rcases h with h | h
  ·have h':(relabel scope X.env).names.lookup x=some .cell:=h
   rcases z1c (env:=X.env) (names:=scope.names) h' with q | ⟨_,q⟩
   ·exact .inl q
   ·exact .inr q
  ·have h':(relabel scope X.env).names.lookup x=some .free:=h
   rcases z1c (env:=X.env) (names:=scope.names) h' with q | ⟨q,_⟩
   ·exact .inr q
   ·cases q
 have hasIt:∀ x,scope.names.lookup x=some .cell∨scope.names.lookup x=some .free→∃ c,(QD (s.heap.objs.size + 1) scope.names (z29 X.env.cells scope.names [])).lookup x=some c:=fun x h=>by
  refine Option.isSome_iff_exists.mp (PySem.W.cellsFrom_some scope.names _ _ ?_)
  rcases h with h | h
  ·exact .inl h
  ·refine .inr (z6s _ _ (.inr ⟨WA h,?_⟩))
   obtain ⟨c,hc⟩:=hasC _ (WA h) rfl
   exact Option.isSome_iff_exists.mpr ⟨c,hc⟩
 have ns0:(Jv (s.heap.push { cls:=.type "dict",data:=.dict #[] }) scope.names).Ns s.heap.objs.size fun _=>none:=(Heap.Ns.new s.heap (.type "dict")).keeps (pushCells_keeps _ _)
 refine ⟨⟨I.ok.mod,S.kind,I.ok.glob,I.ok.blt,W8 _,fun y z c h1 h2=>cinj y z c (WA h1) (WA h2),fun x hx=>hasIt x (kindC x hx),fun x c hfn h=>?_,I.ok.hd,I.ok.frames,.inl rfl,
  fun b hb=>⟨Wt (hlt b hb),fun x c h e=>?_⟩,I.bs,WV I.ok.bsz I.sz,fun b o e hb=>?_,fpn,I.stack,I.stkFree⟩,
  rfl,I.bare,Un.kept kp,⟨fun _=>none,ns0,fun i x v h1 h2 h3=>?_⟩,fun x c h=>?_,I.hok.fresh (W8 _),fun x c h=>?_,fun p hp=>absurd (show p ∈ ([]:List (Addr×Obj)) from hp) (by simp),I.hok.kept kp,(z7N cs σ).trans I.len⟩
 ·rcases cel x c (WA h) with q | q
  ·have hfn':scope.names.lookup x=some .cell:=by
    have:(scope.names.lookup x == some .cell)=true:=hfn
    exact eq_of_beq this
   have:=z69 S.nd q.1 (WA hfn')
   cases this
  ·exact Nat.le_of_succ_le q.2.1
 ·subst e
  rcases cel x c (WA h) with q | q
  ·exact (hf c hb).2.2.2.2.1 x c q.2 rfl
  ·exact absurd (Ww (hlt c hb) (Nat.le_of_succ_le q.2.1)) (Qr _)
 ·obtain ⟨_,_,_,f3,_⟩:=hf b hb
  rcases f3 with z | z
  ·exact I.ok.noex b o e z
  ·exact absurd (Ww (Wg (I.ok.bs b o e).1) z) (Qr _)
 ·obtain ⟨h2',hni⟩:=z3Q cs σ i v h2
  have hni':¬ (scope.names.lookup x=some .local∨scope.names.lookup x=some .cell):=fun z=>hni (S.own i x h1 z)
  have hfree:scope.names.lookup x=some .free:=by
   rcases h3 with h3 | h3 | h3
   ·rcases z1c (env:=X.env) (names:=scope.names) h3 with q | ⟨q,_⟩
    ·exact absurd (.inl q) hni'
    ·cases q
   ·rcases z1c (env:=X.env) (names:=scope.names) h3 with q | ⟨_,q⟩
    ·exact absurd (.inr q) hni'
    ·exact q
   ·rcases z1c (env:=X.env) (names:=scope.names) h3 with q | ⟨q,_⟩
    ·exact q
    ·cases q
  have hk:=S.free _ (WA hfree) rfl
  obtain ⟨m,hn,hl⟩:=I.loc
  have hvis:Vis X.env.scope x:=by
   rcases hk with hk | hk
   ·exact .inr (.inl hk)
   ·exact .inr (.inr hk)
  obtain ⟨u,r,l⟩:=hl i x v h1 h2' hvis
  refine ⟨u,r,?_⟩
  rcases l with ⟨k,_⟩ | ⟨_,c,hc,hcell⟩
  ·have k':X.env.kindOf x=some .local:=k
   rcases hk with hk | hk
   ·rw [show X.env.kindOf x=some .cell from hk] at k'; cases k'
   ·rw [show X.env.kindOf x=some .free from hk] at k'; cases k'
  ·obtain ⟨c',hc'⟩:=hasIt x (.inr hfree)
   have e:c'=c:=by
    rcases cel x c' (WA hc') with q | q
    ·have q2:=q.2
     rw [hc] at q2; exact (Wy q2).symm
    ·have:=z69 S.nd q.1 (WA hfree)
     cases this
   subst e
   refine .inr ⟨?_,c',hc',hcell.keeps kp⟩
   rcases h3 with h3 | h3 | h3
   ·rcases z1c (env:=X.env) (names:=scope.names) h3 with q | ⟨q,_⟩
    ·rw [hfree] at q; cases q
    ·cases q
   ·exact .inl h3
   ·exact .inr h3
 ·rcases cel x c (WA h) with q | q
  ·obtain ⟨v,z⟩:=I.cell x c q.2
   exact ⟨v,z.keeps kp⟩
  ·exact ⟨none,q.2.2⟩
 ·rcases cel x c (WA h) with q | q
  ·exact I.freeC x c q.2
  ·exact I.hok.fresh (Nat.le_of_succ_le q.2.1)
end
abbrev NoX:Value→W2→Prop:=fun _ _=>False
def ze0 (ifs:List Expr) (env:Env):Sem Bool:=forIn ifs true fun c r=>if r=true then do let ok ← isTrue c env (eval c env); pure (ForInStep.yield ok) else pure (ForInStep.yield r)
theorem z8K (I:Nat→W2→Prop)
  (turn:∀ n s,I n s→W5 (model prog w) A (Jg it) (fun r s₁=>match r with
   | none=>R (.ok .next) s₁
   | some v=>W5 (model prog w) A (letOwnedTupleGo target it v) (fun _ s₁'=>W5 (model prog w) A (assign target env v) (fun _ s₂ =>
     W5 (model prog w) A (ze0 ifs env) (fun ok s₃ =>
      if ok=true then W5 (model prog w) A (eval elt env) (fun x s₄ =>
       W5 (model prog w) A (call (.builtin "list.append") [acc,x]) (fun _ s₅=>∃ m,m < n∧I m s₅) NoX s₄) NoX s₃
      else ∃ m,m < n∧I m s₃) NoX s₂) NoX s₁') NoX s₁) NoX s)
  (n:Nat) (h:I n s) :
  QM (model prog w) A (.compLoop (.ListComp elt [⟨target,iter,ifs,0⟩] scope pos) 0 it acc env) R s:=by
 refine codeAny_loop rfl I (fun n s hI=>?_) n h
 show W5 _ A ((compTurn (.ListComp elt [⟨target,iter,ifs,0⟩] scope pos) 0 it acc env).onRaise (fun x=>do noteFrame x env; theTreesLotGoes x)) _ _ s
 refine wpAny_noted ?_
 rw [compTurn_list]
 refine W0 (wpAny_standAt (W0 (Ql (turn n s hI) (fun r s₁ h₁=>?_) fun _ _ h'=>h'.elim)))
 cases r with
 | none=>exact W3 h₁
 | some v =>
  refine W0 (Ql h₁ (fun _ s₁' h₁'=>?_) fun _ _ h'=>h'.elim)
  refine W0 (Ql h₁' (fun _ s₂ h₂=>W0 (Ql h₂ (fun ok s₃ h₃=>?_) fun _ _ h'=>h'.elim)) fun _ _ h'=>h'.elim)
  cases ok with
  | false=>exact W3 ⟨rfl,h₃⟩
  | true =>
   exact W0 (W0 (Ql h₃ (fun x s₄ h₄=>W0 (Ql h₄ (fun _ s₅ h₅=>W3 (W3 ⟨rfl,h₅⟩)) fun _ _ h'=>h'.elim)) fun _ _ h'=>h'.elim))
theorem zad
  (h:Q { scope,locals:=s.heap.objs.size,globals,cells:=QD (s.heap.objs.size + 1) scope.names cl,qual,func:=none,code:=env.code,frame:=env.frame,builtins:=env.builtins }
   { s with heap:=Jv (s.heap.push { cls:=.type "dict",data:=.dict #[] }) scope.names }):W5 M A (newFunctionEnv scope globals cl [] qual none .none (some env)) Q E s:=by
 simp only [newFunctionEnv,Option.isSome_some,if_true]
 refine W0 (wpAny_alloc ?_)
 refine W0 (wpAny_layCells _ (fun name kind cells=>by cases hkc:kind == NameKind.cell <;> simp [hkc]) _ _ _ _ ?_)
 rw [show ({ s with heap:=s.heap.push { cls:=.type "dict",data:=.dict #[] } }:W2).heap.objs.size=s.heap.objs.size + 1 from Qu ..]
 exact W0 (W3 (W3 h))
def PTs (X:Cx) (ifs:List Expr) (t:TT):Prop :=
 ∀ (pins:List (Addr×Obj)) (s:W2) (σ:St) (H:Hp) (Q:Bool→Hp→Prop),Inv X pins σ H s→t σ H Q→W5 (model X.prog X.w) X.A (ze0 ifs X.env) (TP X pins σ Q) X.xe s
def tYes:TT:=fun _ H Q=>Q true H
theorem zeo:PTs X [] tYes:=fun pins s σ H Q I h=>wpAny_tests_nil ⟨H,I,h⟩
def Le (σ σ':St):Prop:=σ'.length=σ.length∧∀ (i:Nat) (v:V),σ[i]? = some (some v)→σ'[i]? = some (some v)
def ze1 (cs:List Nat) (g:TG) (tt:TT) (te:TE) (σ:St) (Q:VK) (J:It) (H1:Hp):Prop :=
 ∀ l,H1 l=none→∃ W:Nat→Nat→Hp→Prop,(∃ m,W 0 m (upd H1 l (.lst [])))∧∀ i m H2,W i m H2 →
  (J.stop i H2∧Q (.ref l) H2) ∨
  (J.go i H2∧∀ x H3,J.yld i H2 x H3→g x (clr cs σ) H3 fun σ4 H4=>Le (clr cs σ) σ4∧tt σ4 H4 fun b H5 =>
   if b=true then te σ4 H5 fun v H6=>∃ ys m',H6 l=some (.lst ys)∧ys.length < W6∧m' < m∧W (i + 1) m' (upd H6 l (.lst (ys ++ [v]))) else ∃ m',m' < m∧W (i + 1) m' H5)
def zfw (cs:List Nat) (wi:TI) (g:TG) (tt:TT) (te:TE):TE:=fun σ H Q=>wi σ H fun J H1=>ze1 cs g tt te σ Q J H1
section
variable {X:Cx} {pins:List (Addr×Obj)} {σ:St} {H:Hp} {s:W2} {scope:Scope} {cs:List Nat} {elt tg iter:Expr} {ifs:List Expr} {pos:Pos} {g:TG} {tt:TT} {te:TE}
theorem zaq {it:Addr} {fp:List Addr} {tn:Nat→Heap→Prop} {J:It} {Q:VK} {E:Value→W2→Prop} {RR:Value→Addr→Result→W2→Prop} (hc:X.calm=true) (I:Inv X pins σ H s) (S:CScope X scope cs)
  (T:Turn X.prog X.w X.K tg J fp it tn) (st:tn 0 s.heap) (hf:∀ b ∈ fp,FpOk X pins H b)
  (hg:∀ s₀ H₀ ex,PG (z36 X scope s₀ H₀ ex) tg g) (ht:∀ s₀ H₀ ex,PTs (z36 X scope s₀ H₀ ex) ifs tt) (he:∀ s₀ H₀ ex,PE (z36 X scope s₀ H₀ ex) elt te) (q:ze1 cs g tt te σ Q J H)
  (hRR:∀ l C s' H',Inv X pins σ H' s'→FpOk X pins H' C→(∃ m,s'.heap.Ns C m)→Q (.ref l) H'→RR (.ref l) C (.ok .next) s') :
  W5 (model X.prog X.w) X.A (newList []) (fun acc s₃=>W5 (model X.prog X.w) X.A (newFunctionEnv scope X.env.globals (z29 X.env.cells scope.names []) [] X.env.qual none .none (some X.env)) (fun cenv s₄ =>
   QM (model X.prog X.w) X.A (.compStart (.ListComp elt [⟨tg,iter,ifs,0⟩] scope pos) 0 (.ref it) acc { cenv with scope:=relabel scope X.env }) (RR acc cenv.locals) s₄) E s₃) E s:=by
 refine WJ ?_
 have hfr:H s.heap.objs.size=none:=I.hok.fresh (W8 _)
 obtain ⟨W,⟨m0,w0⟩,turn⟩:=q s.heap.objs.size hfr
 generalize hl:s.heap.objs.size=l at *
 have I3:Inv X pins σ (upd H l (.lst [])) { s with heap:=s.heap.push { cls:=.type "list",dict:=none,data:=.seq ([]:List Value).toArray } } :=
  I.laid (t':=s.toks) (fun b u e=>W4 _ e) (Nat.le_of_eq hl) ⟨Q2 _,[],0,.nil,by rw [← hl]; exact Wj _ rfl⟩
 have kp3:∀ b o,s.heap.get? b=some o→(s.heap.push { cls:=.type "list",dict:=none,data:=.seq ([]:List Value).toArray }).get? b=some o:=fun b o e=>W4 _ e
 have hfl:∀ b ∈ fp,b≠l:=fun b hb e=>by
  obtain ⟨o,ho,_⟩:=T.obj 0 _ st b hb
  exact absurd (Wg ho) (by rw [e,hl]; exact Qr _)
 have hf3:∀ b ∈ fp,FpOk X pins (upd H l (.lst [])) b:=fun b hb=>⟨by rw [z0t (hfl b hb)]; exact (hf b hb).1,(hf b hb).2⟩
 have st3:tn 0 (s.heap.push { cls:=.type "list",dict:=none,data:=.seq ([]:List Value).toArray }):=T.keep 0 _ _ st fun b _ o e=>kp3 b o e
 generalize hs3:({ s with heap:=s.heap.push { cls:=.type "list",dict:=none,data:=.seq ([]:List Value).toArray } }:W2)=s3 at I3
 have st3':tn 0 s3.heap:=by rw [← hs3]; exact st3
 have hlt3:∀ b ∈ fp,b < s3.heap.objs.size:=fun b hb=>by
  obtain ⟨o,ho,_⟩:=T.obj 0 _ st3' b hb
  exact Wg ho
 refine zad ?_
 have I4:=zap I3 S hf3 hlt3
 generalize hX:z36 X scope s3 (upd H l (.lst [])) fp=X' at I4
 generalize hs4:({ s3 with heap:=Jv (s3.heap.push { cls:=.type "dict",data:=.dict #[] }) scope.names }:W2)=s4 at I4 ⊢
 have hg':=hg s3 (upd H l (.lst [])) fp
 have ht':=ht s3 (upd H l (.lst [])) fp
 have he':=he s3 (upd H l (.lst [])) fp
 rw [hX] at hg' ht' he'
 have st4:tn 0 s4.heap:=T.keep 0 _ _ st3' fun b _ o e=>by rw [← hs4]; exact pushCells_keeps _ _ b o (W4 _ e)
 have hP:X'.prog=X.prog:=by rw [← hX]; rfl
 have hw:X'.w=X.w:=by rw [← hX]; rfl
 have hA:X'.A=X.A:=by rw [← hX]; rfl
 have hK:X'.K=X.K:=by rw [← hX]; rfl
 have hc':X'.calm=true:=by rw [← hX]; exact hc
 have hxe:X'.xe=NoX:=by rw [← hX]; rfl
 have hloc:X'.env.locals=s3.heap.objs.size:=by rw [← hX]; rfl
 have henv:({ scope:=relabel scope X.env,locals:=s3.heap.objs.size,globals:=X.env.globals,cells:=QD (s3.heap.objs.size + 1) scope.names (z29 X.env.cells scope.names []),qual:=X.env.qual,func:=none,code:=X.env.code,frame:=X.env.frame,builtins:=X.env.builtins }:Env)=X'.env:=by rw [← hX]; rfl
 have fpx:∀ {H':Hp},(∀ b ∈ fp,H' b=none)→∀ b ∈ fp,FpOk X' [] H' b:=fun {H'} hn b hb=>by
  have ex:X'.ex=fp:=by rw [← hX]; rfl
  have pn:X'.pn=[]:=by rw [← hX]; rfl
  refine ⟨hn b hb,(I4.ok.exf b (by rw [ex]; exact hb)).1,I4.ok.exfs b (by rw [ex]; exact hb),.inl (by rw [ex]; exact hb),(I4.ok.exf b (by rw [ex]; exact hb)).2,fun p hp=>?_⟩
  rw [pn] at hp
  simp at hp
 show QM (model X.prog X.w) X.A (.compStart (.ListComp elt [⟨tg,iter,ifs,0⟩] scope pos) 0 (.ref it) (.ref l) ({ scope:=relabel scope X.env,locals:=s3.heap.objs.size,globals:=X.env.globals,cells:=QD (s3.heap.objs.size + 1) scope.names (z29 X.env.cells scope.names []),qual:=X.env.qual,func:=none,code:=X.env.code,frame:=X.env.frame,builtins:=X.env.builtins }:Env)) (RR (.ref l) s3.heap.objs.size) s4
 rw [henv]
 have loop:QM (model X.prog X.w) X.A (.compLoop (.ListComp elt [⟨tg,iter,ifs,0⟩] scope pos) 0 (.ref it) (.ref l) X'.env) (RR (.ref l) s3.heap.objs.size) s4:=by
  refine z8K (fun n s'=>∃ i H',Inv X' [] (clr cs σ) H' s'∧tn i s'.heap∧(∀ b ∈ fp,H' b=none)∧W i n H') ?_ m0 ⟨0,_,I4,st4,fun b hb=>(hf3 b hb).1,w0⟩
  rintro n s5 ⟨i,H5,I5,st5,fr5,w5⟩
  rcases turn i n H5 w5 with ⟨stop,qn⟩ | ⟨go,step⟩
  ·have:=T.done X' hP hw hK hc' i [] s5 (clr cs σ) H5 NoX I5 (fpx fr5) st5 stop
   rw [hA] at this
   refine thn this fun r s6 ⟨hr,I6⟩=>?_
   subst hr
   have b6:=I6.base
   have e1:X'.fs=frs X.stack:=by rw [← hX]; rfl
   have e2:X'.ex=fp:=by rw [← hX]; rfl
   have e3:X'.H₀=upd H l (.lst []):=by rw [← hX]; rfl
   have e4:X'.s₀=s3:=by rw [← hX]; rfl
   rw [e1,e2,e3,e4] at b6
   have o6:s6.os=s3.os:=by rw [← e4]; exact I6.os
   have hok6:HOk X.prog X.w H5 s6.heap:=by rw [← hP,← hw]; exact I6.hok
   have J6:Inv X pins σ H5 s6:=I3.call' o6 b6 hok6 I6.bare fun b hb=>by
    obtain ⟨_,f1,_,f3,f4,f5⟩:=hf3 b hb
    exact ⟨f3,f1,f4,f5⟩
   obtain ⟨m6,n6,_⟩:=I6.loc
   rw [hloc] at n6
   refine hRR l s3.heap.objs.size s6 H5 J6 (I3.fpOk (W8 _) ?_) ⟨m6,n6⟩ qn
   rw [← hloc]
   exact I6.free
  ·have:=T.item X' hP hw hK hc' i [] s5 (clr cs σ) H5 NoX I5 (fpx fr5) st5 go
   rw [hA] at this
   refine thn this fun r s6 ⟨u,hr,h6⟩=>?_
   subst hr
   refine thn h6 fun _ s7 ⟨x,H7,I7,r7,y7,st7,fr7⟩=>?_
   have I7':=I7.pinned (fpx fr7) (T.obj _ _ st7)
   have a8:=hg' _ s7 (clr cs σ) H7 x u _ I7' r7 (step x H7 y7)
   rw [hP,hw,hA,hxe] at a8
   refine thn a8 fun _ s8 ⟨σ8,H8,I8,le8,q8⟩=>?_
   have a9:=ht' _ s8 σ8 H8 _ I8 q8
   rw [hP,hw,hA,hxe] at a9
   refine thn a9 fun ok s9 ⟨H9,I9,q9⟩=>?_
   have back:∀ {H':Hp} {s':W2},Inv X' ([] ++ z8g fp s7.heap) σ8 H' s'→Inv X' [] (clr cs σ) H' s'∧tn (i + 1) s'.heap∧∀ b ∈ fp,H' b=none:=fun {H' s'} J=>by
    refine ⟨J.unpinned.weak (le8.1.symm) le8.2,T.keep _ _ _ st7 fun b hb o e=>(J.pin (b,o) (WS _ (WS _ (z40 hb e)))).1,fun b hb=>?_⟩
    obtain ⟨o,e,d⟩:=T.obj _ _ st7 b hb
    exact (J.pin (b,o) (WS _ (WS _ (z40 hb e)))).2.1
   cases ok with
   | false =>
    rw [if_neg Q6] at q9 ⊢
    obtain ⟨m',hm,w9⟩:=q9
    obtain ⟨b1,b2,b3⟩:=back I9
    exact ⟨m',hm,i + 1,H9,b1,b2,b3,w9⟩
   | true =>
    rw [if_pos rfl] at q9 ⊢
    have a10:=he' _ s9 σ8 H9 _ I9 q9
    rw [hP,hw,hA,hxe] at a10
    refine thn a10 fun x10 s10 ⟨v,H10,I10,r10,ys,m',hy,hz,hm,w10⟩=>?_
    have a11:=z8q (X:=X') _ s10 σ8 H10 (.ref l) [v] (.ref l) [x10] (fun _ H'=>W (i + 1) m' H') I10 rfl (.cons r10 .nil) ⟨l,ys,v,rfl,rfl,hy,hz,w10⟩
    rw [hP,hw,hA,hxe] at a11
    refine thn a11 fun _ s11 ⟨_,H11,I11,_,w11⟩=>?_
    obtain ⟨b1,b2,b3⟩:=back I11
    exact ⟨m',hm,i + 1,H11,b1,b2,b3,w11⟩
 exact codeAny_compStart_list loop (T.self X.A 0 s4 _ _ st4 loop)
theorem zez (hc:X.calm=true) (S:CScope X scope cs) (hi:PI X tg iter wi) (hg:∀ s₀ H₀ ex,PG (z36 X scope s₀ H₀ ex) tg g) (ht:∀ s₀ H₀ ex,PTs (z36 X scope s₀ H₀ ex) ifs tt) (he:∀ s₀ H₀ ex,PE (z36 X scope s₀ H₀ ex) elt te)
  (hs:∀ x,JD iter X.env x=pure x:=by intro _; rfl):PE X (.ListComp elt [⟨tg,iter,ifs,0⟩] scope pos) (zfw cs wi g tt te):=by
 intro pins s σ H Q I h
 have hasC:∀ x ∈ scope.names,x.2 = .free→∃ c,X.env.cells.lookup x.1=some c:=fun x hx hk=>I.ok.has x.1 (S.free x hx hk)
 rw [eval_ListComp]
 refine wpAny_comprehension_free (use:=none) rfl hs (zar hasC) S.kind S.names (thn (hi pins s σ H _ I h) fun xv s1 h1=>thn h1 fun itv s2 h2=>?_)
 obtain ⟨it,fp,tn,J,H2,e,I2,T,st2,f2,q2⟩:=h2
 subst e
 refine zaq (RR:=fun acc C=>compPost (model X.prog X.w) X.A X.xe none (EP X pins σ Q) acc C) hc I2 S T st2 f2 hg ht he q2 ?_
 intro l C s' H' I' fC ⟨m,n⟩ q
 exact ⟨m,n,fun h' hs'=>⟨.ref l,H',I'.turned (t':=s'.toks) (fun b o hb e=>(hs'.2 b hb).trans e) fC.1 fC.2.1 fC.2.2.2.1 fC.2.2.2.2.1 fC.2.2.2.2.2,rfl,q⟩⟩
end
end L2
set_option maxHeartbeats 4000000
namespace DV
open PySem PySem.Spec PyProof.Rows L2
abbrev Tx:=List Nat
def toS (x:Tx):Str:=⟨x.toArray⟩
theorem z51 (x:Tx):(toS x).cps.toList=x:=by simp [toS]
theorem z2l (x:Tx):(toS x).length=x.length:=by simp [toS,Str.length]
theorem z5O (h:toS x=toS y):x=y:=by
 have:=congrArg (fun z:Str=>z.cps.toList) h
 simpa [toS] using this
theorem zdF (z:Str):z=toS z.cps.toList:=by simp [toS]
abbrev DKey:=Sum Int Tx
def kOf:DKey→Key
 | .inl i=>.inl i
 | .inr x=>.inr (toS x)
inductive D where
 | non | bl (b:Bool) | int (i:Int) | str (x:Tx) | tup (xs:List D) | lst (xs:List D) | dct (kvs:List (DKey×D)) | exc (n:Nat) (fl:D) | xd (fs:List (Tx×D))
def excAt (C:Addr) (v:V) (a:Addr):Heap→Prop:=fun h=>∃ o,h.get? a=some o∧o.cls = .ref C∧(∀ x,v = .ref x→o.dict=some x)∧∃ vs,o.data = .fields vs
def xdAt (fs:List (Str×V)) (x:Addr):Heap→Prop:=fun h=>∃ mA,h.Ns1 x mA∧∀ f,RelO (fs.lookup f) (mA f)
inductive S where
 | pure (d:D)
 | own (d:D)
def S.d:S→D
 | .pure d=>d
 | .own d=>d
abbrev Dl:=List (Option S)
abbrev St:=L2.St
inductive Rep (H:Hp) (O:Addr→Prop):V→D→Prop
 | non:Rep H O .non .non
 | bl (b:Bool):Rep H O (.bl b) (.bl b)
 | int (i:Int):Rep H O (.int i) (.int i)
 | str (x:Tx):Rep H O (.str (toS x)) (.str x)
 | tup {a:Addr} {vs:List V} {ds:List D}:¬ O a→H a=some (.tup vs)→vs.length=ds.length→(∀ (i:Nat) v d,vs[i]? = some v→ds[i]? = some d→Rep H O v d)→Rep H O (.ref a) (.tup ds)
 | lst {a:Addr} {vs:List V} {ds:List D}:¬ O a→Rd H a (.lst vs)→vs.length=ds.length→(∀ (i:Nat) v d,vs[i]? = some v→ds[i]? = some d→Rep H O v d)→Rep H O (.ref a) (.lst ds)
 | dct {a:Addr} {ws:List (Key×V)} {ds:List (DKey×D)}:¬ O a→H a=some (.dK ws)→ws.map (·.1)=ds.map (fun p=>kOf p.1)→(∀ (i:Nat) p q,ws[i]? = some p→ds[i]? = some q→Rep H O p.2 q.2)→Rep H O (.ref a) (.dct ds)
 | exc {a:Addr} {n:Nat} {v:V} {fl:D}:¬ O a→H a=some (.ext (excAt n v a))→Rep H O v fl→Rep H O (.ref a) (.exc n fl)
 | xd {x:Addr} {fs:List (Str×V)} {ds:List (Tx×D)}:¬ O x→H x=some (.ext (xdAt fs x))→fs.map (·.1)=ds.map (fun p=>toS p.1)→(∀ (i:Nat) p q,fs[i]? = some p→ds[i]? = some q→Rep H O p.2 q.2)→Rep H O (.ref x) (.xd ds)
abbrev Reps (H:Hp) (O:Addr→Prop) (vs:List V) (ds:List D):Prop:=vs.length=ds.length∧∀ (i:Nat) v d,vs[i]? = some v→ds[i]? = some d→Rep H O v d
def OwnAt (H:Hp) (O:Addr→Prop) (a:Addr):D→Prop
 | .lst ds=>∃ vs,H a=some (.lst vs)∧Reps H O vs ds
 | .dct ds=>∃ ws:List (Key×V),H a=some (.dK ws)∧ws.map (·.1)=ds.map (fun p=>kOf p.1)∧∀ (i:Nat) p q,ws[i]? = some p→ds[i]? = some q→Rep H O p.2 q.2
 | _=>False
section
variable {H H':Hp} {O O':Addr→Prop} {v:V} {d:D} {vs:List V} {ds:List D} {a:Addr}
theorem Rd.keep (h:Rd H a u) (k:∀ o,H a=some o→H' a=some o):Rd H' a u:=by
 rcases h with h | ⟨o,h⟩
 ·exact .inl (k _ h)
 ·exact .inr ⟨o,k _ h⟩
theorem Rd.some (h:Rd H a u):∃ o,H a=some o:=by
 rcases h with h | ⟨o,h⟩
 ·exact ⟨_,h⟩
 ·exact ⟨_,h⟩
theorem Rep.keep (h:Rep H O v d) (k:∀ a o,H a=some o→¬ O a→H' a=some o):Rep H' O v d:=by
 induction h with
 | non=>exact .non
 | bl b=>exact .bl b
 | int i=>exact .int i
 | str x=>exact .str x
 | tup h1 h2 h3 _ ih=>exact .tup h1 (k _ _ h2 h1) h3 ih
 | lst h1 h2 h3 _ ih=>exact .lst h1 (Rd.keep h2 fun o e=>k _ o e h1) h3 ih
 | dct h1 h2 h3 _ ih=>exact .dct h1 (k _ _ h2 h1) h3 ih
 | exc h1 h2 _ ih=>exact .exc h1 (k _ _ h2 h1) ih
 | xd h1 h2 h3 _ ih=>exact .xd h1 (k _ _ h2 h1) h3 ih
theorem Rep.anti (h:Rep H O v d) (k:∀ a,O' a→O a∨H a=none):Rep H O' v d:=by
 have no:∀ {a:Addr} {u:HO},¬ O a→Rd H a u→¬ O' a:=fun {a u} h1 h2 z=>by
  rcases k a z with q | q
  ·exact h1 q
  ·obtain ⟨o,e⟩:=Rd.some h2
   rw [q] at e; cases e
 induction h with
 | non=>exact .non
 | bl b=>exact .bl b
 | int i=>exact .int i
 | str x=>exact .str x
 | tup h1 h2 h3 _ ih=>exact .tup (no h1 (.inl h2)) h2 h3 ih
 | lst h1 h2 h3 _ ih=>exact .lst (no h1 h2) h2 h3 ih
 | dct h1 h2 h3 _ ih=>exact .dct (no h1 (.inl h2)) h2 h3 ih
 | exc h1 h2 _ ih=>exact .exc (no h1 (.inl h2)) h2 ih
 | xd h1 h2 h3 _ ih=>exact .xd (no h1 (.inl h2)) h2 h3 ih
theorem Reps.keep (h:Reps H O vs ds) (k:∀ a o,H a=some o→¬ O a→H' a=some o):Reps H' O vs ds:=⟨h.1,fun i v d e1 e2=>(h.2 i v d e1 e2).keep k⟩
theorem Reps.anti (h:Reps H O vs ds) (k:∀ a,O' a→O a∨H a=none):Reps H O' vs ds:=⟨h.1,fun i v d e1 e2=>(h.2 i v d e1 e2).anti k⟩
theorem Reps.nil:Reps H O [] []:=⟨rfl,fun i v d e _=>by simp at e⟩
theorem Reps.cons (h:Rep H O v d) (r:Reps H O vs ds):Reps H O (v :: vs) (d :: ds):=by
 refine ⟨by simp [r.1],fun i v' d' e1 e2=>?_⟩
 cases i with
 | zero=>simp at e1 e2; subst e1; subst e2; exact h
 | succ i=>exact r.2 i v' d' (by simpa using e1) (by simpa using e2)
theorem Reps.head (r:Reps H O (v :: vs) (d :: ds)):Rep H O v d:=r.2 0 v d rfl rfl
theorem Reps.tail (r:Reps H O (v :: vs) (d :: ds)):Reps H O vs ds:=⟨by simpa using r.1,fun i v' d' e1 e2=>r.2 (i + 1) v' d' (by simpa using e1) (by simpa using e2)⟩
theorem Reps.append (h:Reps H O vs ds) (h':Reps H O vs' ds'):Reps H O (vs ++ vs') (ds ++ ds'):=by
 induction vs generalizing ds with
 | nil =>
  cases ds with
  | nil=>exact h'
  | cons d r=>have:=h.1; simp at this
 | cons v r ih =>
  cases ds with
  | nil=>have:=h.1; simp at this
  | cons d q=>exact .cons h.head (ih h.tail)
theorem Reps.get {i:Nat} (h:Reps H O vs ds) (e:ds[i]? = some d):∃ v,vs[i]? = some v∧Rep H O v d:=by
 have hi:i < ds.length:=(Wc.mp e).1
 have hv:i < vs.length:=by rw [h.1]; exact hi
 exact ⟨vs[i],by simp [hv],h.2 i _ d (by simp [hv]) e⟩
theorem Reps.take (n:Nat) (h:Reps H O vs ds):Reps H O (vs.take n) (ds.take n):=by
 refine ⟨by simp [h.1],fun i v d e1 e2=>?_⟩
 by_cases hi:i < n
 ·rw [List.getElem?_take_of_lt hi] at e1 e2
  exact h.2 i v d e1 e2
 ·rw [List.getElem?_take_eq_none (by omega)] at e1; cases e1
theorem Reps.drop (n:Nat) (h:Reps H O vs ds):Reps H O (vs.drop n) (ds.drop n):=by
 refine ⟨by simp [h.1],fun i v d e1 e2=>?_⟩
 rw [List.getElem?_drop] at e1 e2
 exact h.2 (n + i) v d e1 e2
theorem Reps.set (h:Reps H O vs ds) (r:Rep H O v d) (j:Nat):Reps H O (vs.set j v) (ds.set j d):=by
 refine ⟨by simp [h.1],fun i v' d' e1 e2=>?_⟩
 by_cases hi:j=i
 ·subst hi
  rw [Qa] at e1 e2
  simp at e1 e2
  obtain ⟨_,rfl⟩:=e1
  obtain ⟨_,rfl⟩:=e2
  exact r
 ·rw [W9 hi] at e1 e2
  exact h.2 i v' d' e1 e2
theorem Reps.reverse (h:Reps H O vs ds):Reps H O vs.reverse ds.reverse:=by
 refine ⟨by simp [h.1],fun i v d e1 e2=>?_⟩
 have hl:=h.1
 have h1:i < vs.length:=by have:=(Wc.mp e1).1; simpa using this
 rw [List.getElem?_reverse (by omega)] at e1
 rw [List.getElem?_reverse (by omega)] at e2
 exact h.2 (vs.length - 1 - i) v d e1 (by rw [hl]; exact e2)
theorem OwnAt.keep (h:OwnAt H O a d) (hk:∀ b o,H b=some o→¬ O b→H' b=some o) (ha:∀ o,H a=some o→H' a=some o):OwnAt H' O a d:=by
 cases d <;> first
  | exact h.elim
  | (obtain ⟨vs,e,r⟩:=h; exact ⟨vs,ha _ e,Reps.keep r hk⟩)
  | (obtain ⟨ws,e,r,q⟩:=h; exact ⟨ws,ha _ e,r,fun i p p' e1 e2=>(q i p p' e1 e2).keep hk⟩)
theorem OwnAt.anti (h:OwnAt H O a d) (k:∀ a,O' a→O a∨H a=none):OwnAt H O' a d:=by
 cases d <;> first
  | exact h.elim
  | (obtain ⟨vs,e,r⟩:=h; exact ⟨vs,e,Reps.anti r k⟩)
  | (obtain ⟨ws,e,r,q⟩:=h; exact ⟨ws,e,r,fun i p p' e1 e2=>(q i p p' e1 e2).anti k⟩)
theorem OwnAt.some (h:OwnAt H O a d):∃ o,H a=some o:=by
 cases d <;> first
  | exact h.elim
  | (obtain ⟨vs,e,r⟩:=h; exact ⟨_,e⟩)
theorem OwnAt.rep (h:OwnAt H O a d) (ho:¬ O a):Rep H O (.ref a) d:=by
 cases d with
 | lst ds=>obtain ⟨vs,e,r⟩:=h; exact .lst ho (.inl e) r.1 r.2
 | dct ds=>obtain ⟨ws,e,r,q⟩:=h; exact .dct ho e r q
 | _=>exact h.elim
end
structure Xc where
 cls:Tx
 flds:D
structure Fc where
 H₀:Hp
 B:Addr→Prop
 pin:List (Nat×Addr)
 xc:Xc→Dl→Prop:=fun _ _=>False
def Fc.plus (c:Fc) (p:Addr):Fc:={ c with B:=fun a=>c.B a∨a=p }
def Fc.I (c:Fc) (a:Addr):Prop:=∃ i,(i,a) ∈ c.pin
def Own (σ:St) (δ:Dl) (a:Addr):Prop:=∃ (i:Nat) (d:D),δ[i]? = some (some (.own d))∧σ[i]? = some (some (.ref a))
def Av (c:Fc) (σ:St) (δ:Dl) (a:Addr):Prop:=c.B a∨Own σ δ a
structure Ok (c:Fc) (σ:St) (δ:Dl) (H:Hp):Prop where
 keep:∀ a o,c.H₀ a=some o→¬ c.I a→H a=some o
 bd:∀ a,c.B a→∃ o,H a=some o
 ith:∀ a,c.I a→∃ o,H a=some o
 len:δ.length=σ.length
 slot:∀ (i:Nat) d,δ[i]? = some (some (.pure d))→∃ v,σ[i]? = some (some v)∧Rep H (Av c σ δ) v d
 own:∀ (i:Nat) d,δ[i]? = some (some (.own d))→∃ a,σ[i]? = some (some (.ref a))∧OwnAt H (Av c σ δ) a d∧(c.I a∨c.H₀ a=none)∧¬ c.B a
 inj:∀ (i j:Nat) a d d',δ[i]? = some (some (.own d))→δ[j]? = some (some (.own d'))→σ[i]? = some (some (.ref a))→σ[j]? = some (some (.ref a))→i=j
 pinned:∀ p ∈ c.pin,σ[p.1]? = some (some (.ref p.2))
structure Aft (c:Fc) (σ:St) (δ:Dl) (H:Hp) (σ':St) (δ':Dl) (H':Hp):Prop where
 ok:Ok c σ' δ' H'
 keep:∀ a o,H a=some o→¬ Own σ δ a→H' a=some o
 own:∀ a,Own σ' δ' a→Own σ δ a∨H a=none
 there:∀ a o,H a=some o→∃ o',H' a=some o'
section
variable {c:Fc} {σ σ' σ'':St} {δ δ' δ'':Dl} {H H' H'':Hp} {v:V} {d:D} {a p:Addr}
theorem Ok.bthere (k:Ok c σ δ H) (h:c.B a):∃ o,H a=some o:=k.bd a h
theorem Ok.othere (k:Ok c σ δ H) (h:Own σ δ a):∃ o,H a=some o:=by
 obtain ⟨i,d,e1,e2⟩:=h
 obtain ⟨b,e3,q,_⟩:=k.own i d e1
 rw [e2] at e3; cases e3
 exact q.some
theorem Ok.avthere (k:Ok c σ δ H) (h:Av c σ δ a):∃ o,H a=some o:=h.elim k.bthere k.othere
theorem Ok.nav (k:Ok c σ δ H) (h:H a=none):¬ Av c σ δ a:=fun z=>by
 obtain ⟨o,e⟩:=k.avthere z
 rw [h] at e; cases e
theorem Aft.refl (k:Ok c σ δ H):Aft c σ δ H σ δ H:=⟨k,fun _ _ e _=>e,fun _ h=>.inl h,fun _ o e=>⟨o,e⟩⟩
theorem Aft.trans (x:Aft c σ δ H σ' δ' H') (y:Aft c σ' δ' H' σ'' δ'' H''):Aft c σ δ H σ'' δ'' H'':=by
 refine ⟨y.ok,fun a o e n=>?_,fun a h=>?_,fun a o e=>?_⟩
 ·refine y.keep a o (x.keep a o e n) fun z=>?_
  rcases x.own a z with q | q
  ·exact n q
  ·rw [q] at e; cases e
 ·rcases y.own a h with q | q
  ·exact x.own a q
  ·right
   cases e:H a with
   | none=>rfl
   | some o =>
    obtain ⟨o',e'⟩:=x.there a o e
    rw [q] at e'; cases e'
 ·obtain ⟨o',e'⟩:=x.there a o e
  exact y.there a o' e'
theorem Aft.av (x:Aft c σ δ H σ' δ' H'):∀ a,Av c σ' δ' a→Av c σ δ a∨H a=none:=fun a h=>by
 rcases h with h | h
 ·exact .inl (.inl h)
 ·rcases x.own a h with q | q
  ·exact .inl (.inr q)
  ·exact .inr q
theorem Rep.aft (h:Rep H (Av c σ δ) v d) (x:Aft c σ δ H σ' δ' H'):Rep H' (Av c σ' δ') v d:=by
 have h1:Rep H (fun a=>Av c σ δ a∨Av c σ' δ' a) v d:=Rep.anti h fun a z=>z.elim .inl (x.av a)
 exact (h1.keep fun a o e n=>x.keep a o e fun z=>n (.inl (.inr z))).anti fun a z=>.inl (.inr z)
theorem Reps.aft (h:Reps H (Av c σ δ) vs ds) (x:Aft c σ δ H σ' δ' H'):Reps H' (Av c σ' δ') vs ds:=⟨h.1,fun i v d e1 e2=>Rep.aft (h.2 i v d e1 e2) x⟩
def RepS (c:Fc) (σ:St) (δ:Dl) (Hs H:Hp) (v:V):S→Prop
 | .pure d=>Rep H (Av c σ δ) v d
 | .own d=>∃ a,v = .ref a∧OwnAt H (Av (c.plus a) σ δ) a d∧¬ c.B a∧c.H₀ a=none∧Ok (c.plus a) σ δ H∧Hs a=none
theorem z4K (k:Ok (c.plus a) σ δ H):¬ Own σ δ a:=fun ⟨i,d,e1,e2⟩=>by
 obtain ⟨b,e3,_,_,n⟩:=k.own i d e1
 rw [e2] at e3; cases e3
 exact n (.inr rfl)
theorem RepS.rep (h:RepS c σ δ Hs H v r):Rep H (Av c σ δ) v r.d:=by
 cases r with
 | pure d=>exact h
 | own d =>
  obtain ⟨a,rfl,o,n,f,k,_⟩:=h
  refine (o.anti fun b z=>.inl ?_).rep fun z=>z.elim n (z4K k)
  exact z.elim (fun z=>.inl (.inl z)) .inr
theorem RepS.back (h:RepS c σ δ Hs H v r) (x:Aft c σ₀ δ₀ H' σ' δ' Hs):RepS c σ δ H' H v r:=by
 cases r with
 | pure d=>exact h
 | own d =>
  obtain ⟨a,e,o,n,f,k,hs⟩:=h
  refine ⟨a,e,o,n,f,k,?_⟩
  cases q:H' a with
  | none=>rfl
  | some o =>
   obtain ⟨o',e'⟩:=x.there a o q
   rw [hs] at e'; cases e'
theorem RepS.home (h:RepS c σ δ Hs H v r):RepS c σ δ c.H₀ H v r:=by
 cases r with
 | pure d=>exact h
 | own d =>
  obtain ⟨a,e,o,n,f,k,hs⟩:=h
  exact ⟨a,e,o,n,f,k,f⟩
theorem Ok.alloc (k:Ok c σ δ H) (hp:H p=none) (o:HO):Ok c σ δ (upd H p o):=by
 have up:∀ a w,H a=some w→upd H p o a=some w:=fun a w e=>by
  rw [z0t (z0P e hp)]; exact e
 refine ⟨fun a w e n=>up a w (k.keep a w e n),fun a z=>(k.bd a z).elim fun w e=>⟨w,up a w e⟩,fun a z=>(k.ith a z).elim fun w e=>⟨w,up a w e⟩,k.len,fun i d e=>?_,fun i d e=>?_,k.inj,k.pinned⟩
 ·obtain ⟨v,e1,r⟩:=k.slot i d e
  exact ⟨v,e1,r.keep fun a w q _=>up a w q⟩
 ·obtain ⟨a,e1,r,q⟩:=k.own i d e
  exact ⟨a,e1,r.keep (fun b w q _=>up b w q) fun w q=>up a w q,q⟩
theorem Aft.alloc (k:Ok c σ δ H) (hp:H p=none) (o:HO):Aft c σ δ H σ δ (upd H p o):=by
 have up:∀ a w,H a=some w→upd H p o a=some w:=fun a w e=>by
  rw [z0t (z0P e hp)]; exact e
 exact ⟨k.alloc hp o,fun a w e _=>up a w e,fun a h=>.inl h,fun a w e=>⟨w,up a w e⟩⟩
theorem Ok.fresh₀ (k:Ok c σ δ H) (hp:H p=none):c.H₀ p=none:=by
 cases e:c.H₀ p with
 | none=>rfl
 | some o =>
  by_cases q:c.I p
  ·obtain ⟨w,e'⟩:=k.ith p q
   rw [hp] at e'; cases e'
  ·have:=k.keep p o e q
   rw [hp] at this; cases this
theorem Ok.plus (k:Ok c σ δ H) (hp:H p=none) (o:HO):Ok (c.plus p) σ δ (upd H p o):=by
 have k':=k.alloc hp o
 have sub:∀ b,Av (c.plus p) σ δ b→Av c σ δ b∨b=p:=fun b z=>by
  rcases z with (z | z) | z
  ·exact .inl (.inl z)
  ·exact .inr z
  ·exact .inl (.inr z)
 have sub2:∀ b,Av (c.plus p) σ δ b→Av c σ δ b∨H b=none:=fun b z=>(sub b z).elim .inl fun e=>.inr (by rw [e]; exact hp)
 have up:∀ a w,H a=some w→upd H p o a=some w:=fun a w e=>by
  rw [z0t (z0P e hp)]; exact e
 refine ⟨k'.keep,fun a z=>?_,k'.ith,k.len,fun i d e=>?_,fun i d e=>?_,k.inj,k.pinned⟩
 ·rcases z with z | z
  ·exact k'.bd a z
  ·exact ⟨o,by rw [z]; exact z0M⟩
 ·obtain ⟨v,e1,r⟩:=k.slot i d e
  exact ⟨v,e1,(r.anti sub2).keep fun a w q _=>up a w q⟩
 ·obtain ⟨a,e1,r,q,nb⟩:=k.own i d e
  refine ⟨a,e1,(r.anti sub2).keep (fun b w q _=>up b w q) (fun w q=>up a w q),q,fun z=>?_⟩
  rcases z with z | z
  ·exact nb z
  ·obtain ⟨w,ew⟩:=r.some
   rw [z,hp] at ew; cases ew
theorem RepS.newL (k:Ok c σ δ H) (r:Reps H (Av c σ δ) vs ds) (hp:H p=none):RepS c σ δ H (upd H p (.lst vs)) (.ref p) (.own (.lst ds)):=by
 have up:∀ a w,H a=some w→upd H p (.lst vs) a=some w:=fun a w e=>by
  rw [z0t (z0P e hp)]; exact e
 refine ⟨p,rfl,⟨vs,z0M,?_⟩,fun z=>k.nav hp (.inl z),k.fresh₀ hp,k.plus hp _,hp⟩
 have r1:Reps H (Av (c.plus p) σ δ) vs ds:=Reps.anti r fun b z=>by
  rcases z with (z | z) | z
  ·exact .inl (.inl z)
  ·exact .inr (by rw [z]; exact hp)
  ·exact .inl (.inr z)
 exact Reps.keep r1 fun b w e _=>up b w e
theorem RepS.newT (k:Ok c σ δ H) (r:Reps H (Av c σ δ) vs ds) (hp:H p=none):RepS c σ δ H (upd H p (.tup vs)) (.ref p) (.pure (.tup ds)):=by
 have up:∀ a w,H a=some w→upd H p (.tup vs) a=some w:=fun a w e=>by
  rw [z0t (z0P e hp)]; exact e
 have r1:=Reps.keep r (H':=upd H p (.tup vs)) fun b w e _=>up b w e
 exact .tup (k.nav hp) z0M r1.1 r1.2
end
inductive Rs (α:Type) where
 | ok (a:α) (δ:Dl)
 | exc (x:Xc) (δ:Dl)
 | stuck
def Rs.bind {α β:Type} (r:Rs α) (f:α→Dl→Rs β):Rs β:=match r with
 | .ok a δ=>f a δ
 | .exc x δ=>.exc x δ
 | .stuck=>.stuck
abbrev DE:=Dl→Rs S
def XC (c:Fc) (x:Xc) (δ:Dl):Prop:=c.xc x δ
def post {α:Type} (c:Fc) (r:Rs α) (k:α→Dl→Prop):Prop:=match r with
 | .ok a δ=>k a δ
 | .exc x δ=>XC c x δ
 | .stuck=>False
theorem z06:post c (r.bind f) k ↔ post c r fun a δ=>post c (f a δ) k:=by
 cases r <;> exact Iff.rfl
theorem z03 (h:post c r k) (m:∀ a δ,k a δ→k' a δ):post c r k':=by
 cases r with
 | ok a δ=>exact m a δ h
 | exc x δ=>exact h
 | stuck=>exact h
def tD (c:Fc) (f:DE):TE:=fun σ H Q=>∃ δ,Ok c σ δ H∧post c (f δ) fun r δ'=>∀ v H',Aft c σ δ H σ δ' H'→RepS c σ δ' H H' v r→Q v H'
abbrev SE (X:Cx) (c:Fc) (e:Expr) (f:DE):Prop:=PE X e (tD c f)
def RepB (c:Fc) (σ:St) (δ:Dl) (H:Hp) (v:V) (d:D):Prop:=Rep H (Av c σ δ) v d∨∃ a,v = .ref a∧OwnAt H (Av c σ δ) a d
abbrev BE:=Dl→Rs D
def tB (c:Fc) (f:BE):TE:=fun σ H Q=>∃ δ,Ok c σ δ H∧post c (f δ) fun d δ'=>∀ v H',Aft c σ δ H σ δ' H'→RepB c σ δ' H' v d→Q v H'
abbrev SB (X:Cx) (c:Fc) (e:Expr) (f:BE):Prop:=PE X e (tB c f)
theorem PE.weak (h:PE X e t) (w:∀ σ H Q,t' σ H Q→t σ H Q):PE X e t':=fun pins s σ H Q I q=>h pins s σ H Q I (w σ H Q q)
def bOf (f:DE):BE:=fun δ=>(f δ).bind fun r δ'=>.ok r.d δ'
theorem RepS.b (h:RepS c σ δ Hs H v r):RepB c σ δ H v r.d:=.inl h.rep
theorem z0e {X:Cx} {c:Fc} {e:Expr} {f:DE} (h:SE X c e f):SB X c e (bOf f):=PE.weak h fun σ H Q ⟨δ,k,p⟩=>⟨δ,k,by
 unfold bOf at p
 rw [z06] at p
 exact z03 p fun r δ' q v H' a s=>q v H' a s.b⟩
def bVar (i:Nat):BE:=fun δ=>match δ[i]? with
 | some (some r)=>.ok r.d δ
 | _=>.stuck
def eVar (i:Nat):DE:=fun δ=>match δ[i]? with
 | some (some (.pure d))=>.ok (.pure d) δ
 | some (some (.own d))=>.ok (.pure d) (δ.set i (some (.pure d)))
 | _=>.stuck
def eD (d:D):DE:=fun δ=>.ok (.pure d) δ
section
variable {X:Cx} {c:Fc}
theorem z0l {i:Nat} {e:Expr} (h:PE X e (tVar i)):SB X c e (bVar i):=PE.weak h fun σ H Q ⟨δ,k,p⟩=>by
 unfold bVar at p
 cases e:δ[i]? with
 | none=>rw [e] at p; exact p.elim
 | some o =>
  cases o with
  | none=>rw [e] at p; exact p.elim
  | some r =>
   rw [e] at p
   cases r with
   | pure d =>
    obtain ⟨v,e1,r⟩:=k.slot i d e
    exact ⟨v,e1,p v H (.refl k) (.inl r)⟩
   | own d =>
    obtain ⟨a,e1,r,_⟩:=k.own i d e
    exact ⟨.ref a,e1,p _ H (.refl k) (.inr ⟨a,rfl,r⟩)⟩
theorem Own.sub (h:Own σ (δ.set i (some (.pure d))) a):Own σ δ a:=by
 obtain ⟨j,d',e1,e2⟩:=h
 by_cases hj:i=j
 ·subst hj
  rw [Qa] at e1
  simp at e1
 ·rw [W9 hj] at e1
  exact ⟨j,d',e1,e2⟩
theorem Ok.give (k:Ok c σ δ H) (e:δ[i]? = some (some (.own d))) :
  ∃ a,σ[i]? = some (some (.ref a))∧Aft c σ δ H σ (δ.set i (some (.pure d))) H∧Rep H (Av c σ (δ.set i (some (.pure d)))) (.ref a) d:=by
 obtain ⟨a,e1,r,q,nb⟩:=k.own i d e
 have hi:i < δ.length:=(Wc.mp e).1
 have sub:∀ b,Av c σ (δ.set i (some (.pure d))) b→Av c σ δ b:=fun b z=>z.elim .inl fun z=>.inr z.sub
 have na:¬ Av c σ (δ.set i (some (.pure d))) a:=by
  rintro (z | ⟨j,d',f1,f2⟩)
  ·exact nb z
  ·by_cases hj:i=j
   ·subst hj
    rw [Qa] at f1
    simp at f1
   ·rw [W9 hj] at f1
    exact hj (k.inj i j a d d' e f1 e1 f2)
 have rep:Rep H (Av c σ (δ.set i (some (.pure d)))) (.ref a) d:=(r.anti fun b z=>.inl (sub b z)).rep na
 refine ⟨a,e1,⟨⟨k.keep,k.bd,k.ith,by rw [J8]; exact k.len,fun j d' f=>?_,fun j d' f=>?_,fun j l b d1 d2 f1 f2=>?_,k.pinned⟩,fun _ _ w _=>w,fun b z=>.inl z.sub,fun _ o w=>⟨o,w⟩⟩,rep⟩
 ·by_cases hj:i=j
  ·subst hj
   rw [Wv hi] at f
   cases f
   exact ⟨.ref a,e1,rep⟩
  ·rw [W9 hj] at f
   obtain ⟨v,g1,g2⟩:=k.slot j d' f
   exact ⟨v,g1,g2.anti fun b z=>.inl (sub b z)⟩
 ·by_cases hj:i=j
  ·subst hj
   rw [Wv hi] at f
   cases f
  ·rw [W9 hj] at f
   obtain ⟨b,g1,g2,g3⟩:=k.own j d' f
   exact ⟨b,g1,g2.anti fun b z=>.inl (sub b z),g3⟩
 ·have h1:δ[j]? = some (some (.own d1)):=by
   by_cases hj:i=j
   ·subst hj; rw [Wv hi] at f1; cases f1
   ·rw [W9 hj] at f1; exact f1
  have h2:δ[l]? = some (some (.own d2)):=by
   by_cases hj:i=l
   ·subst hj; rw [Wv hi] at f2; cases f2
   ·rw [W9 hj] at f2; exact f2
  exact k.inj j l b d1 d2 h1 h2
theorem z02 {i:Nat} {e:Expr} (h:PE X e (tVar i)):SE X c e (eVar i):=PE.weak h fun σ H Q ⟨δ,k,p⟩=>by
 unfold eVar at p
 cases e:δ[i]? with
 | none=>rw [e] at p; exact p.elim
 | some o =>
  cases o with
  | none=>rw [e] at p; exact p.elim
  | some r =>
   rw [e] at p
   cases r with
   | pure d =>
    obtain ⟨v,e1,r⟩:=k.slot i d e
    exact ⟨v,e1,p v H (.refl k) r⟩
   | own d =>
    obtain ⟨a,e1,x,r⟩:=k.give e
    exact ⟨.ref a,e1,p _ H x r⟩
theorem z09 {i j pos}:SE X c (.Constant (.int i) j pos) (eD (.int i)):=PE.weak zdL fun σ H Q ⟨δ,k,p⟩=>p _ H (.refl k) (.int i)
theorem z2m {b j pos}:SE X c (.Constant (.bool b) j pos) (eD (.bl b)):=PE.weak pe_bl fun σ H Q ⟨δ,k,p⟩=>p _ H (.refl k) (.bl b)
theorem z9t {j pos}:SE X c (.Constant .none j pos) (eD .non):=PE.weak zgd fun σ H Q ⟨δ,k,p⟩=>p _ H (.refl k) .non
theorem z80 {x j pos} (y:Tx) (h:x=toS y:=by decide +kernel):SE X c (.Constant (.str x) j pos) (eD (.str y)):=by
 subst h
 exact PE.weak zdK fun σ H Q ⟨δ,k,p⟩=>p _ H (.refl k) (.str y)
theorem za4 (hg:Gl X x) (hm:X.mg x=some (.int i t)) (hd:(x == ("__debug__" : Str))=false:=by decide):SE X c (.Name x pos) (eD (.int i)) :=
 PE.weak (zey (v:=.int i) hg hm ⟨t,rfl⟩ hd) fun σ H Q ⟨δ,k,p⟩=>p _ H (.refl k) (.int i)
end
open PySem PySem.Spec PyProof.Rows L2 PySem.SeqAt
mutual
def eqD:D→D→Bool
 | .non,.non=>true
 | .bl a,.bl b=>a == b
 | .int a,.int b=>a == b
 | .bl a,.int b=>(if a then 1 else 0) == b
 | .int a,.bl b=>a == (if b then 1 else 0)
 | .str a,.str b=>a == b
 | .tup xs,.tup ys=>eqDs xs ys
 | .lst xs,.lst ys=>eqDs xs ys
 | _,_=>false
def eqDs:List D→List D→Bool
 | [],[]=>true
 | x :: xs,y :: ys=>eqD x y && eqDs xs ys
 | _,_=>false
end
mutual
def flat:Nat→D→Bool
 | _,.non=>true
 | _,.bl _=>true
 | _,.int _=>true
 | _,.str _=>true
 | 0,.tup _=>false
 | n + 1,.tup xs=>z46 n xs
 | 0,.lst _=>false
 | n + 1,.lst xs=>z46 n xs
 | _,.dct _=>false
 | _,.exc _ _=>false
 | _,.xd _=>false
def z46:Nat→List D→Bool
 | _,[]=>true
 | n,x :: xs=>flat n x && z46 n xs
end
example:eqD (.tup [.int 1,.str [2]]) (.tup [.int 1,.str [2]])=true:=by decide +kernel
theorem z2t:∀ {xs:List D} {x:D},z46 n xs=true→x ∈ xs→flat n x=true
 | [],_,_,h=>by simp at h
 | y :: ys,x,h,hm=>by
  simp only [z46,Wa] at h
  rcases Wn.mp hm with e | hm
  ·rw [e]; exact h.1
  ·exact z2t h.2 hm
theorem z5M:∀ {xs ys:List D} {f:Nat→Bool},xs.length=ys.length→(∀ (j:Nat) x y,xs[j]? = some x→ys[j]? = some y→f j=eqD x y)→(Wf xs.length).all f=eqDs xs ys
 | [],[],f,_,_=>rfl
 | [],y :: ys,f,h,_=>by simp at h
 | x :: xs,[],f,h,_=>by simp at h
 | x :: xs,y :: ys,f,h,hf=>by
  simp only [eqDs]
  rw [WC,List.range_succ_eq_map,Q5,hf 0 x y rfl rfl,Ji]
  rw [← z5M (f:=fun j=>f (j + 1)) (by simpa using h) (fun j a b e1 e2=>hf (j + 1) a b (by simpa using e1) (by simpa using e2))]
  rfl
theorem z5L:∀ {xs ys:List D},xs.length≠ys.length→eqDs xs ys=false
 | [],[],h=>absurd rfl h
 | [],y :: ys,_=>rfl
 | x :: xs,[],_=>rfl
 | x :: xs,y :: ys,h=>by
  simp only [eqDs]
  rw [z5L (xs:=xs) (ys:=ys) (by intro e; exact h (by simp [e]))]
  simp
mutual
theorem z3j:∀ {n:Nat} {d:D},flat n d=true→eqD d d=true
 | _,.non,_=>rfl
 | _,.bl b,_=>by simp [eqD]
 | _,.int i,_=>by simp [eqD]
 | _,.str x,_=>by simp [eqD]
 | 0,.tup xs,h=>by simp [flat] at h
 | n + 1,.tup xs,h=>by simp only [eqD]; exact z6o (n:=n) (by simpa [flat] using h)
 | 0,.lst xs,h=>by simp [flat] at h
 | n + 1,.lst xs,h=>by simp only [eqD]; exact z6o (n:=n) (by simpa [flat] using h)
 | _,.dct xs,h=>by simp [flat] at h
 | _,.exc n _,h=>by simp [flat] at h
 | _,.xd n,h=>by simp [flat] at h
theorem z6o:∀ {n:Nat} {ds:List D},z46 n ds=true→eqDs ds ds=true
 | _,[],_=>rfl
 | n,x :: xs,h=>by
  simp only [z46,Wa] at h
  simp only [eqDs]
  rw [z3j h.1,z6o h.2]
  rfl
end
abbrev NoO:Addr→Prop:=fun _=>False
theorem Rep.un (h:Rep H O v d):Rep H NoO v d:=Rep.anti h fun _ z=>z.elim
theorem RepB.un (h:RepB c σ δ H v d):Rep H NoO v d:=by
 rcases h with h | ⟨a,rfl,o⟩
 ·exact Rep.un h
 ·exact (o.anti (O':=NoO) fun _ z=>z.elim).rep fun z=>z
section
variable {X:Cx} {pins:List (Addr×Obj)} {σ:St} {H:Hp} {s:W2}
theorem Inv.rdL (I:Inv X pins σ H s) (h:Rd H a (.lst vs)):∃ its:List Value,Vals vs its∧s.heap.IsList a its.toArray:=by
 obtain ⟨its,r,p,_⟩:=I.list (.inl h)
 exact ⟨its,r,p.isList⟩
theorem Inv.rdT (I:Inv X pins σ H s) (h:H a=some (.tup vs)):∃ its:List Value,Vals vs its∧s.heap.IsTuple a its.toArray:=by
 obtain ⟨its,r,p,_⟩:=I.tuple (.of h)
 exact ⟨its,r,p⟩
theorem z8X (x y:Tx):((toS x:Str) == toS y)=(x == y):=by
 rw [Bool.eq_iff_iff]
 simp only [beq_iff_eq]
 exact ⟨z5O,fun e=>by rw [e]⟩
theorem zbP (A:Wr):A.in1.units=A.units + 1:=rfl
theorem Rd.inj (h:Rd H a u) (k:Rd H a w) (hu:∀ o z,u≠.frz o z) (hw:∀ o z,w≠.frz o z):u=w:=by
 rcases h with h | ⟨o,h⟩ <;> rcases k with k | ⟨o',k⟩
 ·rw [h] at k; exact Wy k
 ·rw [h] at k; exact absurd (Wy k) (hu _ _)
 ·rw [h] at k; exact absurd (Wy k).symm (hw _ _)
 ·rw [h] at k
  have:=Wy k
  injection this
theorem Reps.inj {vs:List V}:∀ {ds es:List D},vs.length=ds.length→vs.length=es.length→(∀ (i:Nat) v d e,vs[i]? = some v→ds[i]? = some d→es[i]? = some e→d=e)→ds=es:=by
 intro ds es h1 h2 h
 apply List.ext_getElem?
 intro i
 by_cases hi:i < vs.length
 ·have a1:i < ds.length:=by omega
  have a2:i < es.length:=by omega
  rw [Wh a1,Wh a2]
  rw [h i vs[i] ds[i] es[i] (by simp [hi]) (by simp [a1]) (by simp [a2])]
 ·rw [Qb (by omega),Qb (by omega)]
theorem Rep.inj {O:Addr→Prop} {v:V} {d:D} (h:Rep H O v d):∀ {n:Nat} {e:D},flat n d=true→flat n e=true→Rep H O v e→d=e:=by
 induction h with
 | non=>intro n e _ _ k; cases k; rfl
 | bl b=>intro n e _ _ k; cases k; rfl
 | int i=>intro n e _ _ k; cases k; rfl
 | str x =>
  intro n e _ _ k
  generalize hz:V.str (toS x)=z at k
  cases k with
  | str y=>injection hz with hz; rw [z5O hz]
  | _=>cases hz
 | @tup a vs ds h1 h2 h3 h4 ih =>
  intro n e fd fe k
  cases n with
  | zero=>simp [flat] at fd
  | succ n =>
   simp only [flat] at fd
   cases k with
   | @tup _ ws es k1 k2 k3 k4 =>
    simp only [flat] at fe
    have e1:=Rd.inj (.inl h2) (.inl k2) (fun _ _ z=>by cases z) (fun _ _ z=>by cases z)
    injection e1 with e1
    subst e1
    rw [Reps.inj h3 k3 fun i v d e q1 q2 q3=>ih i v d q1 q2 (z2t fd (WD q2)) (z2t fe (WD q3)) (k4 i v e q1 q3)]
   | lst k1 k2=>exact absurd (Rd.inj (.inl h2) k2 (fun _ _ z=>by cases z) (fun _ _ z=>by cases z)) (fun z=>by cases z)
   | dct k1 k2=>exact absurd (Rd.inj (.inl h2) (.inl k2) (fun _ _ z=>by cases z) (fun _ _ z=>by cases z)) (fun z=>by cases z)
   | exc k1 k2=>simp [flat] at fe
   | xd k1 k2=>simp [flat] at fe
 | @lst a vs ds h1 h2 h3 h4 ih =>
  intro n e fd fe k
  cases n with
  | zero=>simp [flat] at fd
  | succ n =>
   simp only [flat] at fd
   cases k with
   | @lst _ ws es k1 k2 k3 k4 =>
    simp only [flat] at fe
    have e1:=Rd.inj h2 k2 (fun _ _ z=>by cases z) (fun _ _ z=>by cases z)
    injection e1 with e1
    subst e1
    rw [Reps.inj h3 k3 fun i v d e q1 q2 q3=>ih i v d q1 q2 (z2t fd (WD q2)) (z2t fe (WD q3)) (k4 i v e q1 q3)]
   | tup k1 k2=>exact absurd (Rd.inj h2 (.inl k2) (fun _ _ z=>by cases z) (fun _ _ z=>by cases z)) (fun z=>by cases z)
   | dct k1 k2=>exact absurd (Rd.inj h2 (.inl k2) (fun _ _ z=>by cases z) (fun _ _ z=>by cases z)) (fun z=>by cases z)
   | exc k1 k2=>simp [flat] at fe
   | xd k1 k2=>simp [flat] at fe
 | dct h1 h2 h3 h4 ih =>
  intro n e fd _ _
  cases n <;> simp [flat] at fd
 | exc h1 h2 =>
  intro n e fd _ _
  cases n <;> simp [flat] at fd
 | xd h1 h2 =>
  intro n e fd _ _
  cases n <;> simp [flat] at fd
def EqIt (H:Hp) (s:W2) (n:Nat):Prop:=∀ (A:Wr) (x y:V) (u w:Value) (d e:D),A.units + n + 1 < Qx→flat n d=true→flat n e=true→Rep H NoO x d→Rep H NoO y e→RelV x u→RelV y w→EqAt A s u w (eqD d e)
def z9k (H:Hp) (s:W2) (A:Wr) (n:Nat):Prop:=match n with
 | 0=>True
 | m + 1=>A.units + m + 2 < Qx∧EqIt H s m
def itE (ds es:List D) (j:Nat):Bool:=match ds[j]?,es[j]? with
 | some p,some q=>eqD p q
 | _,_=>false
theorem z9I (j:Nat) (p q:D) (e1:ds[j]? = some p) (e2:es[j]? = some q):itE ds es j=eqD p q:=by unfold itE; rw [e1,e2]
theorem z5K {n:Nat} {A:Wr} {vs ws:List V} {ds es:List D} {its jts:List Value} (hu:A.units + n + 2 < Qx) (ih:EqIt H s n) (r1:Vals vs its) (r2:Vals ws jts) (l1:vs.length=ds.length) (l2:ws.length=es.length)
  (g1:∀ (i:Nat) v d,vs[i]? = some v→ds[i]? = some d→Rep H NoO v d) (g2:∀ (i:Nat) v d,ws[i]? = some v→es[i]? = some d→Rep H NoO v d) (f1:z46 n ds=true) (f2:z46 n es=true) :
  ∀ j (h1:j < its.toArray.size) (h2:j < jts.toArray.size),EqAt A.in1 s its.toArray[j] jts.toArray[j] (itE ds es j):=by
 intro j h1 h2
 have e1:=r1.length
 have e2:=r2.length
 simp at h1 h2
 have hd:j < ds.length:=by omega
 have he:j < es.length:=by omega
 have hv:j < vs.length:=by omega
 have hw:j < ws.length:=by omega
 obtain ⟨u',hu',ru'⟩:=r1.get (i:=j) (x:=vs[j]) (by simp [hv])
 obtain ⟨w',hw',rw''⟩:=r2.get (i:=j) (x:=ws[j]) (by simp [hw])
 have eu:its.toArray[j]=u':=by simpa [h1] using hu'
 have ew:jts.toArray[j]=w':=by simpa [h2] using hw'
 rw [eu,ew,z9I j ds[j] es[j] (by simp [hd]) (by simp [he])]
 exact ih A.in1 vs[j] ws[j] u' w' ds[j] es[j] (by rw [zbP]; omega) (z2t f1 (WP hd)) (z2t f2 (WP he)) (g1 j _ _ (by simp [hv]) (by simp [hd])) (g2 j _ _ (by simp [hw]) (by simp [he])) ru' rw''
theorem zcy (h1:n=ds.length) (h2:m=es.length):((Wf (min n m)).all (itE ds es) && n == m)=eqDs ds es:=by
 subst h1 h2
 by_cases hl:ds.length=es.length
 ·rw [← hl,Nat.min_self,z5M hl z9I]
  simp
 ·rw [z5L hl]
  simp [hl]
theorem rcT (I:Inv X pins σ H s) (n:Nat) (A:Wr) (hu0:A.units < Qx) (t1:s.heap.IsTuple a its.toArray) (t2:s.heap.IsTuple b jts.toArray) (r1:Vals vs its) (r2:Vals ws jts) (l1:vs.length=ds.length) (l2:ws.length=es.length)
  (g1:∀ (i:Nat) v d,vs[i]? = some v→ds[i]? = some d→Rep H NoO v d) (g2:∀ (i:Nat) v d,ws[i]? = some v→es[i]? = some d→Rep H NoO v d) (f1:flat n (.tup ds)=true) (f2:flat n (.tup es)=true) (ih:z9k H s A n) :
  RcAt A s (.ref a) (.ref b) (eqDs ds es):=by
 cases n with
 | zero=>simp [flat] at f1
 | succ n =>
  simp only [flat] at f1 f2
  obtain ⟨hu,ih⟩:=ih
  have q:=RcAt.tuples (A:=A) (s:=s) t1 t2 hu0 (z5K hu ih r1 r2 l1 l2 g1 g2 f1 f2)
  rw [zcy (by have:=r1.length; simp; omega) (by have:=r2.length; simp; omega)] at q
  exact q
theorem rnT (I:Inv X pins σ H s) (n:Nat) (A:Wr) (hu0:A.units < Qx) (t1:s.heap.IsTuple a its.toArray) (t2:s.heap.IsTuple b jts.toArray) (r1:Vals vs its) (r2:Vals ws jts) (l1:vs.length=ds.length) (l2:ws.length=es.length)
  (g1:∀ (i:Nat) v d,vs[i]? = some v→ds[i]? = some d→Rep H NoO v d) (g2:∀ (i:Nat) v d,ws[i]? = some v→es[i]? = some d→Rep H NoO v d) (f1:flat n (.tup ds)=true) (f2:flat n (.tup es)=true) (ih:z9k H s A n) :
  RcNeAt A s (.ref a) (.ref b) (!eqDs ds es):=by
 cases n with
 | zero=>simp [flat] at f1
 | succ n =>
  simp only [flat] at f1 f2
  obtain ⟨hu,ih⟩:=ih
  have q:=RcNeAt.tuples (A:=A) (s:=s) t1 t2 hu0 (z5K hu ih r1 r2 l1 l2 g1 g2 f1 f2)
  rw [zcy (by have:=r1.length; simp; omega) (by have:=r2.length; simp; omega)] at q
  exact q
theorem rcL (I:Inv X pins σ H s) (n:Nat) (A:Wr) (hu0:A.units < Qx) (t1:s.heap.IsList a its.toArray) (t2:s.heap.IsList b jts.toArray) (r1:Vals vs its) (r2:Vals ws jts) (l1:vs.length=ds.length) (l2:ws.length=es.length)
  (g1:∀ (i:Nat) v d,vs[i]? = some v→ds[i]? = some d→Rep H NoO v d) (g2:∀ (i:Nat) v d,ws[i]? = some v→es[i]? = some d→Rep H NoO v d) (f1:flat n (.lst ds)=true) (f2:flat n (.lst es)=true) (ih:z9k H s A n) :
  RcAt A s (.ref a) (.ref b) (eqDs ds es):=by
 cases n with
 | zero=>simp [flat] at f1
 | succ n =>
  simp only [flat] at f1 f2
  obtain ⟨hu,ih⟩:=ih
  have z1:its.toArray.size=ds.length:=by have:=r1.length; simp; omega
  have z2:jts.toArray.size=es.length:=by have:=r2.length; simp; omega
  by_cases hl:ds.length=es.length
  ·have q:=RcAt.lists (A:=A) (s:=s) t1 t2 (by rw [z1,z2]; exact hl) hu0 (z5K hu ih r1 r2 l1 l2 g1 g2 f1 f2)
   rw [z1,z5M hl z9I] at q
   exact q
  ·rw [z5L hl]
   exact RcAt.lists_lengths (A:=A) (s:=s) t1 t2 (by rw [z1,z2]; simpa using hl) hu0
theorem rnL (I:Inv X pins σ H s) (n:Nat) (A:Wr) (hu0:A.units < Qx) (t1:s.heap.IsList a its.toArray) (t2:s.heap.IsList b jts.toArray) (r1:Vals vs its) (r2:Vals ws jts) (l1:vs.length=ds.length) (l2:ws.length=es.length)
  (g1:∀ (i:Nat) v d,vs[i]? = some v→ds[i]? = some d→Rep H NoO v d) (g2:∀ (i:Nat) v d,ws[i]? = some v→es[i]? = some d→Rep H NoO v d) (f1:flat n (.lst ds)=true) (f2:flat n (.lst es)=true) (ih:z9k H s A n) :
  RcNeAt A s (.ref a) (.ref b) (!eqDs ds es):=by
 cases n with
 | zero=>simp [flat] at f1
 | succ n =>
  simp only [flat] at f1 f2
  obtain ⟨hu,ih⟩:=ih
  have z1:its.toArray.size=ds.length:=by have:=r1.length; simp; omega
  have z2:jts.toArray.size=es.length:=by have:=r2.length; simp; omega
  by_cases hl:ds.length=es.length
  ·have q:=RcNeAt.lists (A:=A) (s:=s) t1 t2 (by rw [z1,z2]; exact hl) hu0 (z5K hu ih r1 r2 l1 l2 g1 g2 f1 f2)
   rw [z1,z5M hl z9I] at q
   exact q
  ·rw [z5L hl]
   exact RcNeAt.lists_lengths (A:=A) (s:=s) t1 t2 (by rw [z1,z2]; simpa using hl) hu0
theorem rcD (I:Inv X pins σ H s) (n:Nat) (A:Wr) (x y:V) (u w:Value) (d e:D) (hu0:A.units < Qx) (fd:flat n d=true) (fe:flat n e=true) (ih:z9k H s A n) (rx:Rep H NoO x d) (ry:Rep H NoO y e) (ru:RelV x u) (rw':RelV y w):RcAt A s u w (eqD d e):=by
 cases rx with
 | non =>
  cases ru
  cases ry with
  | non =>
   cases rw'
   simp only [eqD]; exact RcAt.none_none
  | bl q =>
   cases rw'
   simp only [eqD]; exact RcAt.none_bool _
  | int q =>
   obtain ⟨t2,rfl⟩:=rw'
   simp only [eqD]; exact RcAt.none_int _ _
  | str q =>
   obtain ⟨t2,rfl⟩:=rw'
   simp only [eqD]; exact RcAt.none_str _ _
  | tup k1 k2 k3 k4 =>
   cases rw'; obtain ⟨its2,r2,t2⟩:=Inv.rdT I k2
   simp only [eqD]; exact RcAt.none_tuple t2 hu0
  | lst k1 k2 k3 k4 =>
   cases rw'; obtain ⟨its2,r2,t2⟩:=Inv.rdL I k2
   simp only [eqD]; exact RcAt.none_list t2 hu0
  | dct k1 k2 k3 k4=>(cases n <;> simp [flat] at fe)
  | exc k1 k2=>(cases n <;> simp [flat] at fe)
  | xd k1 k2=>(cases n <;> simp [flat] at fe)
 | bl p =>
  cases ru
  cases ry with
  | non =>
   cases rw'
   simp only [eqD]; exact RcAt.bool_none _
  | bl q =>
   cases rw'
   simp only [eqD]; exact RcAt.bool_bool _ _
  | int q =>
   obtain ⟨t2,rfl⟩:=rw'
   simp only [eqD]; exact RcAt.bool_int _ _ _
  | str q =>
   obtain ⟨t2,rfl⟩:=rw'
   simp only [eqD]; exact RcAt.bool_str _ _ _
  | tup k1 k2 k3 k4 =>
   cases rw'; obtain ⟨its2,r2,t2⟩:=Inv.rdT I k2
   simp only [eqD]; exact RcAt.bool_tuple _ t2 hu0
  | lst k1 k2 k3 k4 =>
   cases rw'; obtain ⟨its2,r2,t2⟩:=Inv.rdL I k2
   simp only [eqD]; exact RcAt.bool_list _ t2 hu0
  | dct k1 k2 k3 k4=>(cases n <;> simp [flat] at fe)
  | exc k1 k2=>(cases n <;> simp [flat] at fe)
  | xd k1 k2=>(cases n <;> simp [flat] at fe)
 | int p =>
  obtain ⟨t1,rfl⟩:=ru
  cases ry with
  | non =>
   cases rw'
   simp only [eqD]; exact RcAt.int_none _ _
  | bl q =>
   cases rw'
   simp only [eqD]; exact RcAt.int_bool _ _ _
  | int q =>
   obtain ⟨t2,rfl⟩:=rw'
   simp only [eqD]; exact RcAt.int_int _ _ _ _
  | str q =>
   obtain ⟨t2,rfl⟩:=rw'
   simp only [eqD]; exact RcAt.int_str _ _ _ _
  | tup k1 k2 k3 k4 =>
   cases rw'; obtain ⟨its2,r2,t2⟩:=Inv.rdT I k2
   simp only [eqD]; exact RcAt.int_tuple _ _ t2 hu0
  | lst k1 k2 k3 k4 =>
   cases rw'; obtain ⟨its2,r2,t2⟩:=Inv.rdL I k2
   simp only [eqD]; exact RcAt.int_list _ _ t2 hu0
  | dct k1 k2 k3 k4=>(cases n <;> simp [flat] at fe)
  | exc k1 k2=>(cases n <;> simp [flat] at fe)
  | xd k1 k2=>(cases n <;> simp [flat] at fe)
 | str p =>
  obtain ⟨t1,rfl⟩:=ru
  cases ry with
  | non =>
   cases rw'
   simp only [eqD]; exact RcAt.str_none _ _
  | bl q =>
   cases rw'
   simp only [eqD]; exact RcAt.str_bool _ _ _
  | int q =>
   obtain ⟨t2,rfl⟩:=rw'
   simp only [eqD]; exact RcAt.str_int _ _ _ _
  | str q =>
   obtain ⟨t2,rfl⟩:=rw'
   simp only [eqD]; rw [← z8X]; exact RcAt.str_str _ _ _ _
  | tup k1 k2 k3 k4 =>
   cases rw'; obtain ⟨its2,r2,t2⟩:=Inv.rdT I k2
   simp only [eqD]; exact RcAt.str_tuple _ _ t2 hu0
  | lst k1 k2 k3 k4 =>
   cases rw'; obtain ⟨its2,r2,t2⟩:=Inv.rdL I k2
   simp only [eqD]; exact RcAt.str_list _ _ t2 hu0
  | dct k1 k2 k3 k4=>(cases n <;> simp [flat] at fe)
  | exc k1 k2=>(cases n <;> simp [flat] at fe)
  | xd k1 k2=>(cases n <;> simp [flat] at fe)
 | tup h1 h2 h3 h4 =>
  cases ru; obtain ⟨its1,r1,t1⟩:=Inv.rdT I h2
  cases ry with
  | non =>
   cases rw'
   simp only [eqD]; exact RcAt.tuple_none t1 hu0
  | bl q =>
   cases rw'
   simp only [eqD]; exact RcAt.tuple_bool _ t1 hu0
  | int q =>
   obtain ⟨t2,rfl⟩:=rw'
   simp only [eqD]; exact RcAt.tuple_int _ _ t1 hu0
  | str q =>
   obtain ⟨t2,rfl⟩:=rw'
   simp only [eqD]; exact RcAt.tuple_str _ _ t1 hu0
  | tup k1 k2 k3 k4 =>
   cases rw'; obtain ⟨its2,r2,t2⟩:=Inv.rdT I k2
   simp only [eqD]; exact rcT I n A hu0 t1 t2 r1 r2 h3 k3 h4 k4 fd fe ih
  | lst k1 k2 k3 k4 =>
   cases rw'; obtain ⟨its2,r2,t2⟩:=Inv.rdL I k2
   simp only [eqD]; exact RcAt.tuple_list t1 t2 hu0
  | dct k1 k2 k3 k4=>(cases n <;> simp [flat] at fe)
  | exc k1 k2=>(cases n <;> simp [flat] at fe)
  | xd k1 k2=>(cases n <;> simp [flat] at fe)
 | lst h1 h2 h3 h4 =>
  cases ru; obtain ⟨its1,r1,t1⟩:=Inv.rdL I h2
  cases ry with
  | non =>
   cases rw'
   simp only [eqD]; exact RcAt.list_none t1 hu0
  | bl q =>
   cases rw'
   simp only [eqD]; exact RcAt.list_bool _ t1 hu0
  | int q =>
   obtain ⟨t2,rfl⟩:=rw'
   simp only [eqD]; exact RcAt.list_int _ _ t1 hu0
  | str q =>
   obtain ⟨t2,rfl⟩:=rw'
   simp only [eqD]; exact RcAt.list_str _ _ t1 hu0
  | tup k1 k2 k3 k4 =>
   cases rw'; obtain ⟨its2,r2,t2⟩:=Inv.rdT I k2
   simp only [eqD]; exact RcAt.list_tuple t1 t2 hu0
  | lst k1 k2 k3 k4 =>
   cases rw'; obtain ⟨its2,r2,t2⟩:=Inv.rdL I k2
   simp only [eqD]; exact rcL I n A hu0 t1 t2 r1 r2 h3 k3 h4 k4 fd fe ih
  | dct k1 k2 k3 k4=>(cases n <;> simp [flat] at fe)
  | exc k1 k2=>(cases n <;> simp [flat] at fe)
  | xd k1 k2=>(cases n <;> simp [flat] at fe)
 | dct h1 h2 h3 h4=>(cases n <;> simp [flat] at fd)
 | exc h1 h2=>(cases n <;> simp [flat] at fd)
 | xd h1 h2=>(cases n <;> simp [flat] at fd)
theorem rnD (I:Inv X pins σ H s) (n:Nat) (A:Wr) (x y:V) (u w:Value) (d e:D) (hu0:A.units < Qx) (fd:flat n d=true) (fe:flat n e=true) (ih:z9k H s A n) (rx:Rep H NoO x d) (ry:Rep H NoO y e) (ru:RelV x u) (rw':RelV y w):RcNeAt A s u w (!eqD d e):=by
 cases rx with
 | non =>
  cases ru
  cases ry with
  | non =>
   cases rw'
   simp only [eqD]; exact RcNeAt.none_none
  | bl q =>
   cases rw'
   simp only [eqD]; exact RcNeAt.none_bool _
  | int q =>
   obtain ⟨t2,rfl⟩:=rw'
   simp only [eqD]; exact RcNeAt.none_int _ _
  | str q =>
   obtain ⟨t2,rfl⟩:=rw'
   simp only [eqD]; exact RcNeAt.none_str _ _
  | tup k1 k2 k3 k4 =>
   cases rw'; obtain ⟨its2,r2,t2⟩:=Inv.rdT I k2
   simp only [eqD]; exact RcNeAt.none_tuple t2 hu0
  | lst k1 k2 k3 k4 =>
   cases rw'; obtain ⟨its2,r2,t2⟩:=Inv.rdL I k2
   simp only [eqD]; exact RcNeAt.none_list t2 hu0
  | dct k1 k2 k3 k4=>(cases n <;> simp [flat] at fe)
  | exc k1 k2=>(cases n <;> simp [flat] at fe)
  | xd k1 k2=>(cases n <;> simp [flat] at fe)
 | bl p =>
  cases ru
  cases ry with
  | non =>
   cases rw'
   simp only [eqD]; exact RcNeAt.bool_none _
  | bl q =>
   cases rw'
   simp only [eqD]; exact RcNeAt.bool_bool _ _
  | int q =>
   obtain ⟨t2,rfl⟩:=rw'
   simp only [eqD]; exact RcNeAt.bool_int _ _ _
  | str q =>
   obtain ⟨t2,rfl⟩:=rw'
   simp only [eqD]; exact RcNeAt.bool_str _ _ _
  | tup k1 k2 k3 k4 =>
   cases rw'; obtain ⟨its2,r2,t2⟩:=Inv.rdT I k2
   simp only [eqD]; exact RcNeAt.bool_tuple _ t2 hu0
  | lst k1 k2 k3 k4 =>
   cases rw'; obtain ⟨its2,r2,t2⟩:=Inv.rdL I k2
   simp only [eqD]; exact RcNeAt.bool_list _ t2 hu0
  | dct k1 k2 k3 k4=>(cases n <;> simp [flat] at fe)
  | exc k1 k2=>(cases n <;> simp [flat] at fe)
  | xd k1 k2=>(cases n <;> simp [flat] at fe)
 | int p =>
  obtain ⟨t1,rfl⟩:=ru
  cases ry with
  | non =>
   cases rw'
   simp only [eqD]; exact RcNeAt.int_none _ _
  | bl q =>
   cases rw'
   simp only [eqD]; exact RcNeAt.int_bool _ _ _
  | int q =>
   obtain ⟨t2,rfl⟩:=rw'
   simp only [eqD]; exact RcNeAt.int_int _ _ _ _
  | str q =>
   obtain ⟨t2,rfl⟩:=rw'
   simp only [eqD]; exact RcNeAt.int_str _ _ _ _
  | tup k1 k2 k3 k4 =>
   cases rw'; obtain ⟨its2,r2,t2⟩:=Inv.rdT I k2
   simp only [eqD]; exact RcNeAt.int_tuple _ _ t2 hu0
  | lst k1 k2 k3 k4 =>
   cases rw'; obtain ⟨its2,r2,t2⟩:=Inv.rdL I k2
   simp only [eqD]; exact RcNeAt.int_list _ _ t2 hu0
  | dct k1 k2 k3 k4=>(cases n <;> simp [flat] at fe)
  | exc k1 k2=>(cases n <;> simp [flat] at fe)
  | xd k1 k2=>(cases n <;> simp [flat] at fe)
 | str p =>
  obtain ⟨t1,rfl⟩:=ru
  cases ry with
  | non =>
   cases rw'
   simp only [eqD]; exact RcNeAt.str_none _ _
  | bl q =>
   cases rw'
   simp only [eqD]; exact RcNeAt.str_bool _ _ _
  | int q =>
   obtain ⟨t2,rfl⟩:=rw'
   simp only [eqD]; exact RcNeAt.str_int _ _ _ _
  | str q =>
   obtain ⟨t2,rfl⟩:=rw'
   simp only [eqD]; rw [← z8X]; exact RcNeAt.str_str _ _ _ _
  | tup k1 k2 k3 k4 =>
   cases rw'; obtain ⟨its2,r2,t2⟩:=Inv.rdT I k2
   simp only [eqD]; exact RcNeAt.str_tuple _ _ t2 hu0
  | lst k1 k2 k3 k4 =>
   cases rw'; obtain ⟨its2,r2,t2⟩:=Inv.rdL I k2
   simp only [eqD]; exact RcNeAt.str_list _ _ t2 hu0
  | dct k1 k2 k3 k4=>(cases n <;> simp [flat] at fe)
  | exc k1 k2=>(cases n <;> simp [flat] at fe)
  | xd k1 k2=>(cases n <;> simp [flat] at fe)
 | tup h1 h2 h3 h4 =>
  cases ru; obtain ⟨its1,r1,t1⟩:=Inv.rdT I h2
  cases ry with
  | non =>
   cases rw'
   simp only [eqD]; exact RcNeAt.tuple_none t1 hu0
  | bl q =>
   cases rw'
   simp only [eqD]; exact RcNeAt.tuple_bool _ t1 hu0
  | int q =>
   obtain ⟨t2,rfl⟩:=rw'
   simp only [eqD]; exact RcNeAt.tuple_int _ _ t1 hu0
  | str q =>
   obtain ⟨t2,rfl⟩:=rw'
   simp only [eqD]; exact RcNeAt.tuple_str _ _ t1 hu0
  | tup k1 k2 k3 k4 =>
   cases rw'; obtain ⟨its2,r2,t2⟩:=Inv.rdT I k2
   simp only [eqD]; exact rnT I n A hu0 t1 t2 r1 r2 h3 k3 h4 k4 fd fe ih
  | lst k1 k2 k3 k4 =>
   cases rw'; obtain ⟨its2,r2,t2⟩:=Inv.rdL I k2
   simp only [eqD]; exact RcNeAt.tuple_list t1 t2 hu0
  | dct k1 k2 k3 k4=>(cases n <;> simp [flat] at fe)
  | exc k1 k2=>(cases n <;> simp [flat] at fe)
  | xd k1 k2=>(cases n <;> simp [flat] at fe)
 | lst h1 h2 h3 h4 =>
  cases ru; obtain ⟨its1,r1,t1⟩:=Inv.rdL I h2
  cases ry with
  | non =>
   cases rw'
   simp only [eqD]; exact RcNeAt.list_none t1 hu0
  | bl q =>
   cases rw'
   simp only [eqD]; exact RcNeAt.list_bool _ t1 hu0
  | int q =>
   obtain ⟨t2,rfl⟩:=rw'
   simp only [eqD]; exact RcNeAt.list_int _ _ t1 hu0
  | str q =>
   obtain ⟨t2,rfl⟩:=rw'
   simp only [eqD]; exact RcNeAt.list_str _ _ t1 hu0
  | tup k1 k2 k3 k4 =>
   cases rw'; obtain ⟨its2,r2,t2⟩:=Inv.rdT I k2
   simp only [eqD]; exact RcNeAt.list_tuple t1 t2 hu0
  | lst k1 k2 k3 k4 =>
   cases rw'; obtain ⟨its2,r2,t2⟩:=Inv.rdL I k2
   simp only [eqD]; exact rnL I n A hu0 t1 t2 r1 r2 h3 k3 h4 k4 fd fe ih
  | dct k1 k2 k3 k4=>(cases n <;> simp [flat] at fe)
  | exc k1 k2=>(cases n <;> simp [flat] at fe)
  | xd k1 k2=>(cases n <;> simp [flat] at fe)
 | dct h1 h2 h3 h4=>(cases n <;> simp [flat] at fd)
 | exc h1 h2=>(cases n <;> simp [flat] at fd)
 | xd h1 h2=>(cases n <;> simp [flat] at fd)
theorem zc4 (h:RcAt A s u w k) (hs:u=w→k=true) (hf:∀ b t,u≠Value.float b t):EqAt A s u w k:=fun prog w' E Q hq=>by
 unfold eqBool
 refine WH ?_
 refine wpAny_ite_split (fun hab=>?_) (fun _=>?_)
 ·have e:=eq_of_beq hab
  rw [hs e] at hq
  exact W0 (QV (W3 hq))
 ·cases u with
  | float b t=>exact absurd rfl (hf b t)
  | _=>exact W0 (h prog w' E _ (WY hq))
theorem zbs (r:Rep H NoO x d) (ru:RelV x u) (b:UInt64) (t:Tok):u≠Value.float b t:=by
 intro e
 subst e
 cases r <;> first | (cases ru; done) | (obtain ⟨t',e⟩:=ru; cases e)
theorem eqAtD (I:Inv X pins σ H s) (n:Nat):EqIt H s n:=by
 induction n with
 | zero =>
  intro A x y u w d e hu fd fe rx ry ru rw'
  refine zc4 (rcD I 0 A x y u w d e (by omega) fd fe trivial rx ry ru rw') (fun h=>?_) (zbs rx ru)
  subst h
  have:=ru.inj rw'
  subst this
  rw [Rep.inj rx fd fe ry]
  exact z3j fe
 | succ n ih =>
  intro A x y u w d e hu fd fe rx ry ru rw'
  refine zc4 (rcD I (n + 1) A x y u w d e (by omega) fd fe ⟨by omega,ih⟩ rx ry ru rw') (fun h=>?_) (zbs rx ru)
  subst h
  have:=ru.inj rw'
  subst this
  rw [Rep.inj rx fd fe ry]
  exact z3j fe
theorem zgW (I:Inv X pins σ H s):∀ n:Nat,A.units + n + 1 < Qx→z9k H s A n
 | 0,_=>trivial
 | n + 1,h=>⟨by omega,eqAtD I n⟩
def rEqD:R2:=fun x y H Q=>∃ d e,Rep H NoO x d∧Rep H NoO y e∧flat 50 d=true∧flat 50 e=true∧Q (.bl (eqD d e)) H
def rNeD:R2:=fun x y H Q=>∃ d e,Rep H NoO x d∧Rep H NoO y e∧flat 50 d=true∧flat 50 e=true∧Q (.bl (!eqD d e)) H
theorem z3t (hu:X.A.units + 64 < Qx):OpR X (Wu .Eq) rEqD:=by
 intro pins s σ H x y v u Q I rx ry h
 obtain ⟨d,e,r1,r2,f1,f2,q⟩:=h
 exact rcD I 50 X.A x y v u d e (by omega) f1 f2 (zgW I 50 (by omega)) r1 r2 rx ry X.prog X.w X.xe _ ⟨.bl _,H,I,rfl,q⟩
theorem z4L (hu:X.A.units + 64 < Qx):OpR X (Wu .NotEq) rNeD:=by
 intro pins s σ H x y v u Q I rx ry h
 obtain ⟨d,e,r1,r2,f1,f2,q⟩:=h
 exact rnD I 50 X.A x y v u d e (by omega) f1 f2 (zgW I 50 (by omega)) r1 r2 rx ry X.prog X.w X.xe _ ⟨.bl _,H,I,rfl,q⟩
end
def cutL {α:Type} (xs:List α) (lo hi:Option Int):List α:=(xs.drop (HT.sIx xs.length 0 lo)).take (HT.sIx xs.length xs.length hi - HT.sIx xs.length 0 lo)
theorem zdY (xs:List V) (lo hi:Option Int):cutL xs lo hi=cutV xs lo hi:=rfl
theorem zdu (xs:List α) (lo hi:Option Int):(cutL xs lo hi).length≤xs.length:=by
 unfold cutL
 rw [Jl,List.length_drop]
 omega
theorem Reps.cut (lo hi:Option Int) (h:Reps H O vs ds):Reps H O (cutL vs lo hi) (cutL ds lo hi):=by
 unfold cutL
 rw [h.1]
 exact Reps.take _ (Reps.drop _ h)
theorem zch {α:Type} {xs:List α} {lo hi:Option Int} (h:HT.sIx xs.length 0 lo=0∧HT.sIx xs.length xs.length hi=xs.length):cutL xs lo hi=xs:=by
 unfold cutL
 rw [h.1,h.2]
 simp
section
variable {prog:Wl} {w:Wq} {A:Wr} {E:Value→W2→Prop} {s:W2}
theorem z4o {t sl:Addr} {items:Array Value} {vl vu:Value} {lo hi:Option Int} {Q:Value→W2→Prop} (ht:IsTup s.heap t items) (hs:s.heap.IsSliceOf sl vl vu .none) (pl:IsPart vl lo) (pu:IsPart vu hi)
  (hw:HT.sIx items.size 0 lo=0∧HT.sIx items.size items.size hi=items.size) (h:Q (.ref t) s):W5 (model prog w) A (Jp (.ref t) (.ref sl)) Q E s:=by
 obtain ⟨os,hos,hcs,hds⟩:=id hs
 have hTs:s.TypeIs (.ref sl) "slice":=⟨os,hos,hcs⟩
 unfold Jp
 try with_reducible refine WH ?_
 first | refine W0 (W3 ?_) | skip
 refine W0 (wpAny_sequenceKey ht.typeIs (by decide) ?_)
 refine W0 (Qw (name:=Str.ofString "__getitem__") ht.typeIs Q4
  (Q8 Q4 ht.typeIs entry_tuple_getitem ?_ (args_tuple_getitem _ _)))
 show W5 _ _ (Builtin.Tuple.tupleItemsOf (.ref t) >>= _) _ _ s
 refine W0 (tupleItemsOf_ ht ?_)
 refine W0 (QG hTs ?_)
 rw [if_pos (by decide)]
 refine W0 (HT.sliceApplied_gen hs pl pu ?_)
 show W5 _ _ (if (((HT.sIx items.size 0 lo:Nat):Int) == 0 && (1:Int) == 1 && (HT.sIx items.size items.size hi - HT.sIx items.size 0 lo) == items.size)=true then _ else _) _ _ s
 rw [hw.1,hw.2]
 rw [if_pos (by simp)]
 refine W0 (m:=Builtin.Tuple.tupleIsExact (.ref t)) ?_
 unfold Builtin.Tuple.tupleIsExact
 refine W0 (QG ht.typeIs (W3 ?_))
 rw [if_pos (by decide)]
 exact W0 (QV (W0 (W3 (W3 ⟨_,rfl,W3 h⟩))))
end
section
variable {X:Cx}
def zfS (K:W1):V→Option Int→Option Int→Hp→VK→Prop:=fun x lo hi H Q=>∃ a xs,x = .ref a∧SqT K H a xs ∧
 ((HT.sIx xs.length 0 lo=0∧HT.sIx xs.length xs.length hi=xs.length)→Q (.ref a) H)∧(¬ (HT.sIx xs.length 0 lo=0∧HT.sIx xs.length xs.length hi=xs.length)→∀ p,H p=none→Q (.ref p) (upd H p (.tup (cutV xs lo hi))))
theorem sl_tup2:SlR X (zfS X.K):=by
 intro pins s σ H x v vl vu lo hi sl Q I rx hs pl pu h
 obtain ⟨a,xs,rfl,hx,q1,q2⟩:=h
 by_cases hw:HT.sIx xs.length 0 lo=0∧HT.sIx xs.length xs.length hi=xs.length
 ·cases rx
  obtain ⟨its,r,ht,hz⟩:=I.tuple hx
  have hlen:its.toArray.size=xs.length:=by rw [Wb]; exact r.length.symm
  refine ⟨"tuple",_,PyProof.Rows.slot_tuple_getitem.lookup,ht.typeIs,?_⟩
  exact z4o ht hs pl pu (by rw [hlen]; exact hw) ⟨.ref a,H,I,rfl,q1 hw⟩
 ·exact sl_tup pins s σ H (.ref a) v vl vu lo hi sl Q I rx hs pl pu ⟨a,xs,rfl,hx,hw,q2 hw⟩
theorem zb5 (a b:Nat):sliceRange (a:Int) (b:Int) 1=(Wf (b - a)).map (fun k=>a + k):=by
 have h0:((1:Int) > 0)=True:=by simp
 unfold sliceRange
 simp only [h0,if_true]
 by_cases hlt:(a:Int) < (b:Int)
 ·rw [if_pos hlt]
  have e3:(((b:Int) - (a:Int) + 1 - 1) / 1).toNat=b - a:=by
   rw [Int.ediv_one]; omega
  rw [e3]
  refine WM fun k _=>?_
  omega
 ·rw [if_neg hlt]
  have:b - a=0:=by omega
  rw [this]
  rfl
theorem z6N (lo hi:Option Int) (n:Nat):WQ lo hi 1 n=(Wf (HT.sIx n n hi - HT.sIx n 0 lo)).map (fun k=>HT.sIx n 0 lo + k):=by
 have c:∀ (i:Int) (d:Nat),max 0 (min (if i < 0 then i + (n:Int) else i) (n:Int))=((HT.sIx n d (some i):Nat):Int):=by
  intro i d
  show max 0 (min (if i < 0 then i + (n:Int) else i) (n:Int))=(((if i < 0 then (i + (n:Int)).toNat else min i.toNat n):Nat):Int)
  by_cases hi:i < 0
  ·simp only [if_pos hi]; omega
  ·simp only [if_neg hi]; omega
 have h0:((1:Int) > 0)=True:=by simp
 rw [← zb5]
 unfold WQ
 simp only [h0,if_true]
 cases lo with
 | none =>
  cases hi with
  | none=>rfl
  | some j=>show sliceRange 0 (max 0 (min (if j < 0 then j + (n:Int) else j) (n:Int))) 1=_; rw [c j n]; rfl
 | some i =>
  cases hi with
  | none=>show sliceRange (max 0 (min (if i < 0 then i + (n:Int) else i) (n:Int))) (n:Int) 1=_; rw [c i 0]; rfl
  | some j=>show sliceRange (max 0 (min (if i < 0 then i + (n:Int) else i) (n:Int))) (max 0 (min (if j < 0 then j + (n:Int) else j) (n:Int))) 1=_; rw [c i 0,c j n]
theorem zec (x:Tx) (lo hi:Option Int):(⟨((WQ lo hi 1 (toS x).length).filterMap ((toS x).cps[·]?)).toArray⟩:Str)=toS (cutL x lo hi):=by
 unfold toS
 congr 1
 rw [z6N]
 have:=pick_run (x.toArray) (HT.sIx x.length 0 lo) (HT.sIx x.length x.length hi - HT.sIx x.length 0 lo)
 have hl:({ cps:=x.toArray }:Str).length=x.length:=by simp [Str.length]
 rw [hl]
 rw [this]
 rfl
def rSlS:V→Option Int→Option Int→Hp→VK→Prop:=fun x lo hi H Q=>∃ z:Tx,x = .str (toS z)∧z.length≤W6∧Q (.str (toS (cutL z lo hi))) H
theorem zbl (p:IsPart v o):∃ q:Option (Int×Tok),v=partValue q∧q.map (·.1)=o:=by
 cases p with
 | none=>exact ⟨none,rfl,rfl⟩
 | int i t=>exact ⟨some (i,t),rfl,rfl⟩
theorem sl_str:SlR X rSlS:=by
 intro pins s σ H x v vl vu lo hi sl Q I rx hs pl pu h
 obtain ⟨z,rfl,hz,q⟩:=h
 obtain ⟨t,rfl⟩:=rx
 obtain ⟨l,rfl,el⟩:=zbl pl
 obtain ⟨u,rfl,eu⟩:=zbl pu
 obtain ⟨o,ho,hc,hd⟩:=hs
 refine ⟨"str",_,F.slot_str_getitem.lookup,typeIs_str s _ t,?_⟩
 refine wpAny_getItem_str_slice (l:=l) (u:=u) (st:=none) ⟨o,ho,hc,hd⟩ rfl ?_
 unfold sliceMade
 have e:(slicePicked (toS z) l u none)=WQ lo hi 1 (toS z).length:=by
  unfold slicePicked
  rw [el,eu]
  rfl
 rw [e]
 by_cases hw:(((none:Option (Int×Tok)).map (·.1)).getD 1 == 1 && (WQ lo hi 1 (toS z).length).length == (toS z).length)=true
 ·rw [if_pos hw]
  refine ⟨.str (toS (cutL z lo hi)),H,I,⟨t,?_⟩,q⟩
  congr 1
  rw [Wa] at hw
  have hw2:=eq_of_beq hw.2
  rw [z6N,Wo,Jd,z2l] at hw2
  have h1:=HT.sIx_le z.length 0 (Q2 _) lo
  have h2:=HT.sIx_le z.length z.length (W8 _) hi
  unfold cutL
  congr 1
  by_cases h0:z.length=0
  ·have:z=[]:=Qo h0
   subst this
   simp
  ·have a1:HT.sIx z.length 0 lo=0:=by omega
   rw [a1] at hw2 ⊢
   rw [hw2]
   simp
 ·rw [if_neg hw]
  show Made.post (.str _) _ _
  rw [zec]
  exact ⟨by rw [z2l]; exact WV (zdu z lo hi) hz,.str (toS (cutL z lo hi)),H,I.tok _,⟨_,rfl⟩,q⟩
def RvR (X:Cx) (r:V→Hp→VK→Prop):Prop :=
 ∀ (pins:List (Addr×Obj)) (s:W2) (σ:St) (H:Hp) (x:V) (v:Value) (t:Tok) (sl:Addr) (Q:VK),Inv X pins σ H s→RelV x v→s.heap.IsSliceOf sl .none .none (.int (-1) t)→r x H Q →
  ∃ T id,typeLookup (.type T) "__getitem__" = pure (some (.builtin id))∧s.TypeIs v T∧W5 (model X.prog X.w) X.A (Jp v (.ref sl)) (EP X pins σ Q) X.xe s
theorem RvR.or (h:RvR X r) (h':RvR X r'):RvR X (fun x H Q=>r x H Q∨r' x H Q):=by
 intro pins s σ H x v t sl Q I rx hs q
 rcases q with q | q
 ·exact h pins s σ H x v t sl Q I rx hs q
 ·exact h' pins s σ H x v t sl Q I rx hs q
theorem zga {r:V→Hp→VK→Prop} {e st:Expr} {te:TE} {p2 pos:Pos} (hr:RvR X r) (he:PE X e te) (hst:PE X st (tC (.int (-1)))):PE X (.Subscript e (.Slice none none (some st) p2) pos) (tUn r te):=by
 intro pins s σ H Q I h
 refine Subscript_ (thn (he pins s σ H _ I h) fun v s1 ⟨x,H1,I1,r1,q1⟩=>?_)
 refine wpAny_Slice ?_
 rw [evalPart_none,evalPart_some]
 refine W3 (W3 ?_)
 refine thn (hst pins s1 σ H1 (fun y H2=>y = .int (-1)∧H2=H1) I1 ⟨rfl,rfl⟩) fun u s2 ⟨y,H2,I2,r2,ey,eh⟩=>?_
 subst ey eh
 obtain ⟨t,rfl⟩:=r2
 have I4:Inv X pins σ H2 { s2 with heap:=s2.heap.push { cls:=.type "slice",data:=.fields #[.none,.none,.int (-1) t] } }:=I2.kept (t':=s2.toks) fun b ob q=>W4 _ q
 obtain ⟨T,id,hT,ht,hg⟩:=hr pins { s2 with heap:=s2.heap.push { cls:=.type "slice",data:=.fields #[.none,.none,.int (-1) t] } } σ H2 x v t s2.heap.objs.size Q I4 r1 (Heap.IsSliceOf.new ..) q1
 show W5 (model X.prog X.w) X.A (subscriptTail e (.Slice none none (some st) p2) v (.ref s2.heap.objs.size)) (EP X pins σ Q) X.xe { s2 with heap:=s2.heap.push { cls:=.type "slice",data:=.fields #[.none,.none,.int (-1) t] } }
 exact tail_any (ops:=[v,.ref s2.heap.objs.size]) ht hT hg (by with_unfolding_all rfl)
theorem z8r {pos pos':Pos} {j}:PE X (.UnaryOp .USub (.Constant (.int 1) j pos') pos) (tC (.int (-1))) :=
 PE.weak (pe_un zfm zdL) fun σ H Q h=>⟨1,rfl,h⟩
theorem zeY (n:Nat):WQ none none (-1) n=(Wf n).map fun k=>n - 1 - k:=by
 unfold WQ
 have h0:¬ ((-1:Int) > 0):=by decide
 simp only [h0,if_false]
 exact PySem.W.krv_sliceRange n
theorem rv_str:RvR X (fun x H Q=>∃ z:Tx,x = .str (toS z)∧z.length≤W6∧Q (.str (toS z.reverse)) H):=by
 intro pins s σ H x v t sl Q I rx hs h
 obtain ⟨z,rfl,hz,q⟩:=h
 obtain ⟨t',rfl⟩:=rx
 obtain ⟨o,ho,hc,hd⟩:=hs
 refine ⟨"str",_,F.slot_str_getitem.lookup,typeIs_str s _ t',?_⟩
 refine wpAny_getItem_str_slice (l:=none) (u:=none) (st:=some (-1,t)) ⟨o,ho,hc,hd⟩ (by show ((-1:Int) == 0)=false; decide) ?_
 unfold sliceMade
 rw [if_neg (by intro h; rw [Wa] at h; exact absurd (show ((-1:Int) == 1)=true from h.1) (by decide))]
 have e:(⟨((slicePicked (toS z) none none (some (-1,t))).filterMap ((toS z).cps[·]?)).toArray⟩:Str)=toS z.reverse:=by
  unfold slicePicked
  show (⟨((WQ none none (-1) (toS z).length).filterMap ((toS z).cps[·]?)).toArray⟩:Str)=_
  rw [zeY,PySem.W.krv_range,List.filterMap_reverse]
  have:(toS z).length=(toS z).cps.size:=rfl
  rw [this,PySem.W.krv_all]
  simp [toS]
 show Made.post (.str _) _ _
 rw [e]
 exact ⟨by rw [z2l,Jr]; exact hz,.str (toS z.reverse),H,I.tok _,⟨_,rfl⟩,q⟩
theorem zek:RvR X (fun x H Q=>∃ a xs,x = .ref a∧SqL X.K H a xs∧∀ p,H p=none→Q (.ref p) (upd H p (.lst xs.reverse))):=by
 intro pins s σ H x v t sl Q I rx hs h
 obtain ⟨a,xs,rfl,hx,q⟩:=h
 cases rx
 obtain ⟨its,r,ht,hz⟩:=I.list hx
 have hlen:=r.length
 refine ⟨"list",_,slot_list_getitem.lookup,ht.isList.typeIs,?_⟩
 refine wpAny_getItem_list_slice ht.isList hs .none .none (.int (-1) t) (by decide) ?_ (by rw [Wb] <;> omega)
 rw [PySem.W.krv_pick]
 exact ⟨.ref s.heap.objs.size,_,I.lnew (t':=s.toks) r.reverse (by rw [Jr]; exact hz),rfl,q _ I.fresh⟩
theorem op_catT0:OpR X (Qi .Add) (fun x y H Q=>∃ a b ys,x = .ref a∧y = .ref b∧SqT X.K H a []∧SqT X.K H b ys∧Q (.ref b) H):=by
 intro pins s σ H x y v u Q I rx ry h
 obtain ⟨a,b,ys,rfl,rfl,ha,hb,q⟩:=h
 cases rx
 cases ry
 obtain ⟨its,r1,p1,_⟩:=I.tuple ha
 obtain ⟨its2,r2,p2,_⟩:=I.tuple hb
 cases r1
 obtain ⟨⟨cls,dd,data,sl⟩,ho,hc,n,hd⟩:=id p1
 obtain ⟨⟨cls2,dd2,data2,sl2⟩,ho2,hc2,n2,hd2⟩:=id p2
 simp only at hc hd hc2 hd2
 subst hc hd hc2 hd2
 exact concat_meets ⟨_,ho,rfl⟩ ⟨_,ho2,rfl⟩ noFill_tuple_add seq_tuple_add PySem.F.slot_tuple_add PySem.F.entry_tuple_add (PySem.F.args_tuple_add_2 _ _)
   (tuple_addW0 a b #[] its2.toArray n n2 dd dd2 sl sl2 rfl) ⟨ho,ho2,.ref b,H,I,rfl,q⟩
def zfX (K:W1):R2:=fun x y H Q=>∃ l b xs zs,x = .ref l∧y = .ref b∧SqL K H l xs∧SqL K H b zs∧xs.length + zs.length≤W6∧∀ p,H p=none→Q (.ref p) (upd H p (.lst (xs ++ zs)))
theorem zeH:OpR X (Qi .Add) (zfX X.K):=by
 intro pins s σ H x y v u Q I rx ry h
 obtain ⟨l,b,xs,zs,rfl,rfl,hH,hB,hz,q⟩:=h
 cases rx
 cases ry
 obtain ⟨its,r,⟨⟨cls,dd,data,sl⟩,n,e,hc,hdd,hd⟩,z⟩:=I.list hH
 obtain ⟨its2,r2,⟨⟨cls2,dd2,data2,sl2⟩,n2,e2,hc2,hdd2,hd2⟩,z2⟩:=I.list hB
 simp only at hc hd hdd hc2 hd2 hdd2
 subst hc hd hdd hc2 hd2 hdd2
 have hl:=r.length
 have hl2:=r2.length
 refine concat_meets ⟨_,e,rfl⟩ ⟨_,e2,rfl⟩ noFill_list_add seq_list_add PySem.F.slot_list_add PySem.F.entry_list_add (PySem.F.args_list_add_2 _ _)
   (list_addW l b its.toArray its2.toArray n n2 none none sl sl2 (by rw [Wb,Wb]; omega)) ⟨e,e2,?_⟩
 have ea:its.toArray ++ its2.toArray=(its ++ its2).toArray:=by simp
 rw [ea]
 exact ⟨.ref _,_,I.lnew (t':=s.toks) (r.append r2) (by rw [Qp]; omega),rfl,q _ I.fresh⟩
theorem z3Y:∀ {ys:List Str} {us:List Value},Vals (ys.map V.str) us→StrsAre us ys
 | [],us,r=>by cases r; exact .nil
 | y :: ys,us,r=>by
  cases r with
  | cons r1 r2 =>
   obtain ⟨t,rfl⟩:=r1
   exact .cons y t (z3Y r2)
theorem z7U:∀ {ys:List Str} {us:List Value},StrsAre us ys→Vals (ys.map V.str) us
 | _,_,.nil=>.nil
 | _,_,.cons y t h=>.cons ⟨t,rfl⟩ (z7U h)
def zcR (K:W1):V→List V→Hp→VK→Prop:=fun x vs H Q=>∃ (z:Str) (a:Addr) (ys:List Str),x = .str z∧vs=[.ref a]∧(SqL K H a (ys.map V.str)∨SqT K H a (ys.map V.str)) ∧
 (ys.map (·.length)).sum + ys.length * z.length≤16777216∧Q (.str (Txt.join z ys)) H
theorem zeO:MtR X "str.join" (zcR X.K):=by
 intro pins s σ H x vs v us Q I rx rv h
 obtain ⟨z,a,ys,rfl,rfl,hq,hz,q⟩:=h
 obtain ⟨t,rfl⟩:=rx
 obtain ⟨u,rfl,ru⟩:=rv.one
 cases ru
 rcases hq with hq | hq
 ·obtain ⟨its,r,p,_⟩:=I.list hq
  exact join_list p.isList (by simpa using z3Y r) hz fun t' k=>⟨.str _,H,I.tok _,⟨t',rfl⟩,q⟩
 ·obtain ⟨its,r,p,_⟩:=I.tuple hq
  exact join_tuple p (by simpa using z3Y r) hz fun t' k=>⟨.str _,H,I.tok _,⟨t',rfl⟩,q⟩
theorem z8Q:∀ {bs:List Bool} {us:List Value},Vals (bs.map V.bl) us→∀ (i:Nat) v,us[i]? = some v→∃ b,bs[i]? = some b∧v = .bool b
 | [],us,r,i,v,e=>by cases r; simp at e
 | b :: bs,us,r,i,v,e=>by
  cases r with
  | cons r1 r2 =>
   cases i with
   | zero =>
    simp at e
    subst e
    exact ⟨b,rfl,r1⟩
   | succ i=>exact z8Q r2 i v (by simpa using e)
theorem z6U:∀ bs:List Bool,((Wf bs.length).all fun i=>(bs[i]?).getD true)=bs.all id
 | []=>rfl
 | b :: bs=>by
  rw [WC,List.range_succ_eq_map,Q5,Ji]
  have:=z6U bs
  simp only [List.getElem?_cons_zero,J0,Q5,id]
  rw [← this]
  rfl
theorem zdz (hc:X.calm=true):CallR X (.builtin "all") (fun xs H Q=>∃ (a:Addr) (bs:List Bool),xs=[.ref a]∧SqL X.K H a (bs.map V.bl)∧Q (.bl (bs.all (fun b=>b))) H):=by
 intro pins s σ H xs us Q I r h
 obtain ⟨a,bs,rfl,hq,q⟩:=h
 obtain ⟨u,rfl,ru⟩:=z4b r
 cases ru
 obtain ⟨its,r',p,_⟩:=I.list hq
 have hl:=p.isList
 have hlt:a < s.heap.objs.size:=by obtain ⟨_,e,_⟩:=hl; exact Wg e
 have hlen:=r'.length
 rw [Wo] at hlen
 refine call_all_walk (JF hl ?_)
 refine ⟨s.heap.objs.size,[s.heap.objs.size,a],[s.heap.objs.size],its.toArray.size,_,_,fun i=>(bs[i]?).getD true,rfl,Walks.list (A:=X.A.in1) (I.ok.hd hc) _ a (Wt hlt) its.toArray,
  ⟨⟨_,Wj _ rfl,rfl,rfl⟩,hl.push _⟩,fun i v s' Q' E' hP hQ=>?_,fun h' tk hk=>?_⟩
 ·obtain ⟨b,e,rfl⟩:=z8Q r' i v (by simpa using hP)
  simp only [e,J0] at hQ
  exact WY hQ
 ·have e:((Wf its.toArray.size).all fun i=>(bs[i]?).getD true)=bs.all id:=by
   rw [Wb,← hlen]; exact z6U bs
  rw [e]
  exact ⟨.bl _,H,I.kept fun b o e=>hk b o (fun hm=>by rw [List.mem_singleton.mp hm] at e; exact Qr _ (Wg e)) (W4 _ e),rfl,q⟩
def insT (x:Tx):List Tx→List Tx
 | []=>[x]
 | y :: r=>if y < x then y :: insT x r else x :: y :: r
def z55:List Tx→List Tx
 | []=>[]
 | x :: r=>insT x (z55 r)
theorem z6j (x:Tx):∀ l:List Tx,(insT x l).Perm (x :: l)
 | []=>.refl _
 | y :: r=>by
  unfold insT
  split
  ·exact ((z6j x r).cons y).trans (.swap x y r)
  ·exact .refl _
theorem z54:∀ l:List Tx,(z55 l).Perm l
 | []=>.refl _
 | x :: r=>(z6j x _).trans ((z54 r).cons x)
abbrev leT (a b:Tx):Prop:=¬ b < a
theorem z8u (h1:leT a b) (h2:leT b c):leT a c:=List.not_lt.mpr (List.le_trans (List.not_lt.mp h1) (List.not_lt.mp h2))
theorem zd8 (h1:leT a b) (h2:leT b a):a=b:=List.le_antisymm (List.not_lt.mp h1) (List.not_lt.mp h2)
theorem z6i (x:Tx):∀ l:List Tx,l.Pairwise leT→(insT x l).Pairwise leT
 | [],_=>by simp [insT]
 | y :: r,h=>by
  unfold insT
  obtain ⟨h1,h2⟩:=List.pairwise_cons.mp h
  split
  ·rename_i hlt
   refine Qg.mpr ⟨fun z hz=>?_,z6i x r h2⟩
   rcases Wn.mp ((z6j x r).mem_iff.mp hz) with e | hz
   ·subst e
    intro q
    exact absurd (List.lt_trans hlt q) (List.lt_irrefl _)
   ·exact h1 z hz
  ·rename_i hge
   refine Qg.mpr ⟨fun z hz=>?_,h⟩
   rcases Wn.mp hz with e | hz
   ·subst e; exact hge
   ·exact z8u hge (h1 z hz)
theorem z5m:∀ l:List Tx,(z55 l).Pairwise leT
 | []=>.nil
 | x :: r=>z6i x _ (z5m r)
theorem zcG (hp:l'.Perm l) (hs:l'.Pairwise leT):l'=z55 l :=
 List.Perm.eq_of_pairwise (fun _ _ _ _ h1 h2=>zd8 h1 h2) hs (z5m l) (hp.trans (z54 l).symm)
theorem z87:∀ (x:Str) (r:List Str),risingS x r=true→((x :: r).map fun z:Str=>z.cps.toList).Pairwise leT
 | x,[],_=>by simp
 | x,y :: r,h=>by
  have h':(!ltCps y.cps.toList x.cps.toList && risingS y r)=true:=h
  rw [Wa] at h'
  have ih:=z87 y r h'.2
  have hxy:leT x.cps.toList y.cps.toList:=by
   have:=h'.1
   rw [ltCps_eq] at this
   simpa using this
  rw [Ws]
  refine Qg.mpr ⟨fun z hz=>?_,ih⟩
  rw [Ws] at hz ih
  rcases Wn.mp hz with e | hz
  ·subst e; exact hxy
  ·exact z8u hxy ((List.pairwise_cons.mp ih).1 z hz)
theorem z8M:CallR X (.builtin "sorted") (fun xs H Q=>∃ (a:Addr) (ts:List Tx),xs=[.ref a]∧SqL X.K H a (ts.map fun z=>V.str (toS z))∧ts.length < 64∧∀ p,H p=none→Q (.ref p) (upd H p (.lst ((z55 ts).map fun z=>V.str (toS z))))):=by
 intro pins s σ H xs us Q I r h
 obtain ⟨a,ts,rfl,hq,hz,q⟩:=h
 obtain ⟨u,rfl,ru⟩:=z4b r
 cases ru
 obtain ⟨its,r',p,_⟩:=I.list hq
 have r2:Vals ((ts.map toS).map V.str) its:=by rw [WB]; exact r'
 have hlen:=r'.length
 rw [Wo] at hlen
 refine sorted_strs p.isList (z3Y r2) (by omega) fun out ss hS hp hs=>?_
 have e:ss=(z55 ts).map toS:=by
  have hpw:(ss.map fun z:Str=>z.cps.toList).Pairwise leT:=by
   cases ss with
   | nil=>simp
   | cons x r=>exact z87 x r hs
  have hpp:(ss.map fun z:Str=>z.cps.toList).Perm ts:=by
   have:=hp.map fun z:Str=>z.cps.toList
   rw [WB] at this
   have e2:ts.map ((fun z:Str=>z.cps.toList) ∘ toS)=ts:=by
    rw [show ((fun z:Str=>z.cps.toList) ∘ toS)=id from funext fun z=>z51 z,List.map_id]
   rw [e2] at this
   exact this
  rw [← zcG hpp hpw,WB]
  have:(toS ∘ fun z:Str=>z.cps.toList)=id:=funext fun z=>(zdF z).symm
  rw [this,List.map_id]
 obtain ⟨ep,he⟩:=sortedAll_at s.heap its out
 have hv:Vals ((z55 ts).map fun z=>V.str (toS z)) out.toList:=by
  have:=z7U hS
  rw [e,WB] at this
  exact this
 have hl2:((z55 ts).map fun z=>V.str (toS z)).length≤W6:=by
  rw [Wo,(z54 ts).length_eq]
  exact WV (Jf hz) (by rw [WZ]; decide)
 refine ⟨.ref (s.heap.objs.size + 1),_,I.laid (a:=s.heap.objs.size + 1) (o:=.lst ((z55 ts).map fun z=>V.str (toS z))) (t':=s.toks) (fun b u e=>sortedAll_old e) (QE _) ?_,rfl,q _ (I.hok.fresh (QE _))⟩
 exact ⟨hl2,out.toList,ep,hv,by simpa [WE] using he⟩
end
def p2 (p:D→D→Option S) (x y:D) (δ:Dl):Rs S:=match p x y with
 | some s=>.ok s δ
 | none=>.stuck
def eOp (p:D→D→Option S) (fa:DE) (fb:BE):DE:=fun δ=>(fa δ).bind fun x δ1=>(fb δ1).bind fun y δ2=>p2 p x.d y δ2
def eOpN (p:D→D→Option S) (i:Nat) (fb:BE):DE:=fun δ=>(fb δ).bind fun y δ1=>(bVar i δ1).bind fun x δ2=>p2 p x y δ2
def Op2 (r:R2) (p:D→D→Option S):Prop:=∀ (c:Fc) (σ:St) (δ:Dl) (H:Hp) (x y:V) (d e:D) (s:S) (Q:VK),Ok c σ δ H→RepB c σ δ H x d→RepB c σ δ H y e→p d e=some s →
 (∀ v H',Aft c σ δ H σ δ H'→RepS c σ δ H H' v s→Q v H')→r x y H Q
section
variable {X:Cx} {c:Fc} {a b:Expr} {fa:DE} {fb:BE} {r:R2} {p:D→D→Option S} {pos:Pos}
theorem z7r (hp:Op2 r p) (k:Ok c σ δ H) (rx:RepB c σ δ H x d) (ry:RepB c σ δ H y e)
  (h:post c (p2 p d e δ) fun s δ'=>∀ v H',Aft c σ δ H σ δ' H'→RepS c σ δ' H H' v s→Q v H'):r x y H Q:=by
 unfold p2 at h
 cases e1:p d e with
 | none=>rw [e1] at h; exact h.elim
 | some s=>rw [e1] at h; exact hp c σ δ H x y d e s Q k rx ry e1 h
theorem z7t (hp:Op2 r p) (h:tD c (eOp p fa fb) σ H Q):tOp r (tD c fa) (tB c fb) σ H Q:=by
 obtain ⟨δ,k,q⟩:=h
 refine ⟨δ,k,?_⟩
 unfold eOp at q
 rw [z06] at q
 refine z03 q fun x δ1 q1 v H1 a1 r1=>⟨δ1,a1.ok,?_⟩
 rw [z06] at q1
 refine z03 q1 fun y δ2 q2 u H2 a2 r2=>?_
 exact z7r hp a2.ok (.inl (Rep.aft r1.rep a2)) r2 (z03 q2 fun s δ3 q3 v' H3 a3 r3=>q3 v' H3 (a1.trans (a2.trans a3)) (RepS.back r3 (a1.trans a2)))
theorem zd1 (hp:Op2 r p) (h:tD c (eOpN p i fb) σ H Q) (hv:∀ δ,Ok c σ δ H→post c (fb δ) (fun _ _=>True)→∃ v,σ[i]? = some (some v)):tOp r (tVar i) (tB c fb) σ H Q:=by
 obtain ⟨δ,k,q⟩:=h
 unfold eOpN at q
 rw [z06] at q
 obtain ⟨v,ev⟩:=hv δ k (z03 q fun _ _ _=>trivial)
 refine ⟨v,ev,δ,k,z03 q fun y δ1 q1 u H1 a1 r1=>?_⟩
 rw [z06] at q1
 unfold bVar at q1
 cases e:δ1[i]? with
 | none=>rw [e] at q1; exact q1.elim
 | some o =>
  cases o with
  | none=>rw [e] at q1; exact q1.elim
  | some w =>
   rw [e] at q1
   have q1':post c (p2 p w.d y δ1) fun s δ'=>∀ v H',Aft c σ δ H σ δ' H'→RepS c σ δ' H H' v s→Q v H':=q1
   have rb:RepB c σ δ1 H1 v w.d:=by
    cases w with
    | pure d =>
     obtain ⟨v',e1,r⟩:=a1.ok.slot i d e
     rw [ev] at e1; cases e1
     exact .inl r
    | own d =>
     obtain ⟨a,e1,r,_⟩:=a1.ok.own i d e
     rw [ev] at e1; cases e1
     exact .inr ⟨a,rfl,r⟩
   exact z7r hp a1.ok rb r1 (z03 q1' fun s δ3 q3 v' H3 a3 r3=>q3 v' H3 (a1.trans a3) (RepS.back r3 a1))
theorem z57 {i:Nat} {σ:St} {δ:Dl} {H:Hp} (k:Ok c σ δ H) {w:S} (e:δ[i]? = some (some w)):∃ v,σ[i]? = some (some v):=by
 cases w with
 | pure d=>obtain ⟨v,e1,_⟩:=k.slot i d e; exact ⟨v,e1⟩
 | own d=>obtain ⟨a,e1,_⟩:=k.own i d e; exact ⟨_,e1⟩
end
def eOpF (p:D→D→Option S) (i:Nat) (fb:BE):DE:=fun δ=>match δ[i]? with
 | some (some _)=>eOpN p i fb δ
 | _=>.stuck
section
variable {X:Cx} {c:Fc} {a b:Expr} {fa:DE} {fb:BE} {r:R2} {p:D→D→Option S} {pos:Pos}
theorem z5J (hp:Op2 r p) {i:Nat} {σ:St} {H:Hp} {Q:VK} (h:tD c (eOpF p i fb) σ H Q):tOp r (tVar i) (tB c fb) σ H Q:=by
 obtain ⟨δ,k,q⟩:=h
 unfold eOpF at q
 cases e:δ[i]? with
 | none=>rw [e] at q; exact q.elim
 | some o =>
  cases o with
  | none=>rw [e] at q; exact q.elim
  | some w =>
   rw [e] at q
   obtain ⟨v,ev⟩:=z57 k e
   exact zd1 hp (i:=i) ⟨δ,k,q⟩ fun _ _ _=>⟨v,ev⟩
theorem z1V {op:Operator} (ho:OpR X (Qi op) r) (hp:Op2 r p) (ha:SE X c a fa) (hb:SB X c b fb):SE X c (.BinOp a op b pos) (eOp p fa fb):=PE.weak (zex ho ha hb) fun _ _ _ h=>z7t hp h
theorem z4E {op:Operator} {i:Nat} (ho:OpR X (Qi op) r) (hp:Op2 r p) (ha:PE X a (tVar i)) (hb:SB X c b fb):SE X c (.BinOp a op b pos) (eOpF p i fb):=PE.weak (zex ho ha hb) fun _ _ _ h=>z5J hp h
theorem z82 {op:CmpOp} (ho:OpR X (Wu op) r) (hp:Op2 r p) (ha:SE X c a fa) (hb:SB X c b fb) (hm:Qs op b=false):SE X c (.Compare a [op] [b] pos) (eOp p fa fb):=PE.weak (zbk ho ha hb hm) fun _ _ _ h=>z7t hp h
theorem z5S {op:CmpOp} {i:Nat} (ho:OpR X (Wu op) r) (hp:Op2 r p) (ha:PE X a (tVar i)) (hb:SB X c b fb) (hm:Qs op b=false):SE X c (.Compare a [op] [b] pos) (eOpF p i fb):=PE.weak (zbk ho ha hb hm) fun _ _ _ h=>z5J hp h
theorem zfE (hr:IxR X r) (hp:Op2 r p) (ha:SE X c a fa) (hb:SB X c b fb) (hs:z9j b):SE X c (.Subscript a b pos) (eOp p fa fb):=PE.weak (zgf hr ha hb hs) fun _ _ _ h=>z7t hp h
theorem z0B {i:Nat} (hr:IxR X r) (hp:Op2 r p) (ha:PE X a (tVar i)) (hb:SB X c b fb) (hs:z9j b):SE X c (.Subscript a b pos) (eOpF p i fb):=PE.weak (zgf hr ha hb hs) fun _ _ _ h=>z5J hp h
end
abbrev DT:=Dl→Rs Bool
def tT (c:Fc) (f:DT):TT:=fun σ H Q=>∃ δ,Ok c σ δ H∧post c (f δ) fun b δ'=>∀ H',Aft c σ δ H σ δ' H'→Q b H'
abbrev ST (X:Cx) (c:Fc) (e:Expr) (f:DT):Prop:=PT X e (tT c f)
theorem PT.weak (h:PT X e t) (w:∀ σ H Q,t' σ H Q→t σ H Q):PT X e t':=fun pins s σ H Q I q=>h pins s σ H Q I (w σ H Q q)
def dTr (f:DE):DT:=fun δ=>(f δ).bind fun r δ'=>match r with
 | .pure (.bl b)=>.ok b δ'
 | _=>.stuck
section
variable {X:Cx} {c:Fc} {a b:Expr} {fa f:DE} {fb:BE} {r:R2} {p:D→D→Option S} {pos:Pos}
theorem z79 (h:tT c (dTr f) σ H Q):tD c f σ H fun x H'=>∃ k,x = .bl k∧Q k H':=by
 obtain ⟨δ,k,q⟩:=h
 refine ⟨δ,k,?_⟩
 unfold dTr at q
 rw [z06] at q
 refine z03 q fun r δ1 q1 v H1 a1 r1=>?_
 cases r with
 | own d=>exact q1.elim
 | pure d =>
  cases d <;> first | exact q1.elim | skip
  rename_i b
  cases r1
  exact ⟨b,rfl,q1 H1 a1⟩
theorem z1j {op:CmpOp} (ho:OpR X (Wu op) r) (hp:Op2 r p) (ha:SE X c a fa) (hb:SB X c b fb) (hm:Qs op b=false):ST X c (.Compare a [op] [b] pos) (dTr (eOp p fa fb)) :=
 PT.weak (zbb ho ha hb hm) fun σ H Q h=>z7t hp (z79 h)
theorem z53 {op:CmpOp} {i:Nat} (ho:OpR X (Wu op) r) (hp:Op2 r p) (ha:PE X a (tVar i)) (hb:SB X c b fb) (hm:Qs op b=false):ST X c (.Compare a [op] [b] pos) (dTr (eOpF p i fb)) :=
 PT.weak (zbb ho ha hb hm) fun σ H Q h=>z5J hp (z79 h)
theorem z1w {e:Expr} (h:SE X c e f) (he:∀ whole,isTrue e X.env whole=(do let v ← whole; standAt e.pos; holding [v] (truthy v)):=by intro _; rfl):ST X c e (dTr f) :=
 PT.weak (zg2 h he) fun σ H Q h=>z79 h
def dAnd (t u:DT):DT:=fun δ=>(t δ).bind fun b δ1=>if b then u δ1 else .ok false δ1
def dOr (t u:DT):DT:=fun δ=>(t δ).bind fun b δ1=>if b then .ok true δ1 else u δ1
def dNot (t:DT):DT:=fun δ=>(t δ).bind fun b δ1=>.ok (!b) δ1
abbrev SW (X:Cx) (c:Fc) (e:Expr) (f:DT):Prop:=PW X e (tT c f)
theorem PW.weak (h:PW X e t) (w:∀ σ H Q,t' σ H Q→t σ H Q):PW X e t':=fun wh pins s σ H Q I q=>h wh pins s σ H Q I (w σ H Q q)
variable {t u:DT} {rest:List Expr}
theorem zea (ha:ST X c a t):SW X c (.BoolOp .And [a] pos) t:=zen ha
theorem z1T (ha:ST X c a t):SW X c (.BoolOp .Or [a] pos) t:=zg0 ha
theorem zfB (ha:ST X c a t) (hb:SW X c (.BoolOp .And (b :: rest) pos) u):SW X c (.BoolOp .And (a :: b :: rest) pos) (dAnd t u):=PW.weak (zg1 ha hb) fun σ H Q ⟨δ,k,q⟩=>by
 unfold dAnd at q
 rw [z06] at q
 refine ⟨δ,k,z03 q fun x δ1 q1 H1 a1=>?_⟩
 cases x with
 | true=>exact ⟨δ1,a1.ok,z03 q1 fun y δ2 q2 H2 a2=>q2 H2 (a1.trans a2)⟩
 | false=>exact q1 H1 a1
theorem z37 (ha:ST X c a t) (hb:SW X c (.BoolOp .Or (b :: rest) pos) u):SW X c (.BoolOp .Or (a :: b :: rest) pos) (dOr t u):=PW.weak (pw_or ha hb) fun σ H Q ⟨δ,k,q⟩=>by
 unfold dOr at q
 rw [z06] at q
 refine ⟨δ,k,z03 q fun x δ1 q1 H1 a1=>?_⟩
 cases x with
 | false=>exact ⟨δ1,a1.ok,z03 q1 fun y δ2 q2 H2 a2=>q2 H2 (a1.trans a2)⟩
 | true=>exact q1 H1 a1
theorem z38 (h:SW X c a t):ST X c a t:=PW.pt h
theorem z1m (ha:ST X c a t):ST X c (.UnaryOp .Not a pos) (dNot t):=PT.weak (zg3 ha) fun σ H Q ⟨δ,k,q⟩=>by
 unfold dNot at q
 rw [z06] at q
 exact ⟨δ,k,q⟩
def eAnd (f g:DE):DE:=fun δ=>(f δ).bind fun r δ1=>match r with
 | .pure (.bl true)=>g δ1
 | .pure (.bl false)=>.ok (.pure (.bl false)) δ1
 | _=>.stuck
def eOr (f g:DE):DE:=fun δ=>(f δ).bind fun r δ1=>match r with
 | .pure (.bl false)=>g δ1
 | .pure (.bl true)=>.ok (.pure (.bl true)) δ1
 | _=>.stuck
def eNot (f:DE):DE:=fun δ=>(f δ).bind fun r δ1=>match r with
 | .pure (.bl b)=>.ok (.pure (.bl (!b))) δ1
 | _=>.stuck
def eIf (t:DT) (f g:DE):DE:=fun δ=>(t δ).bind fun b δ1=>if b then f δ1 else g δ1
variable {g:DE}
theorem z9s {op} (h:SE X c a f):SE X c (.BoolOp op [a] pos) f:=zgb h
theorem z9u (ha:SE X c a f) (hb:SE X c (.BoolOp .And (b :: rest) pos) g):SE X c (.BoolOp .And (a :: b :: rest) pos) (eAnd f g):=PE.weak (zgh ha hb) fun σ H Q ⟨δ,k,q⟩=>by
 unfold eAnd at q
 rw [z06] at q
 refine ⟨δ,k,z03 q fun r δ1 q1 v H1 a1 r1=>?_⟩
 cases r with
 | own d=>exact q1.elim
 | pure d =>
  cases d <;> first | exact q1.elim | skip
  rename_i b
  cases r1
  refine ⟨b,rfl,?_⟩
  cases b with
  | true=>exact ⟨δ1,a1.ok,z03 q1 fun y δ2 q2 v H2 a2 r2=>q2 v H2 (a1.trans a2) (RepS.back r2 a1)⟩
  | false=>exact q1 _ H1 a1 (.bl false)
theorem se_or (ha:SE X c a f) (hb:SE X c (.BoolOp .Or (b :: rest) pos) g):SE X c (.BoolOp .Or (a :: b :: rest) pos) (eOr f g):=PE.weak (pe_or ha hb) fun σ H Q ⟨δ,k,q⟩=>by
 unfold eOr at q
 rw [z06] at q
 refine ⟨δ,k,z03 q fun r δ1 q1 v H1 a1 r1=>?_⟩
 cases r with
 | own d=>exact q1.elim
 | pure d =>
  cases d <;> first | exact q1.elim | skip
  rename_i b
  cases r1
  refine ⟨b,rfl,?_⟩
  cases b with
  | false=>exact ⟨δ1,a1.ok,z03 q1 fun y δ2 q2 v H2 a2 r2=>q2 v H2 (a1.trans a2) (RepS.back r2 a1)⟩
  | true=>exact q1 _ H1 a1 (.bl true)
theorem zfC (ha:SE X c a f):SE X c (.UnaryOp .Not a pos) (eNot f):=PE.weak (zgc ha) fun σ H Q ⟨δ,k,q⟩=>by
 unfold eNot at q
 rw [z06] at q
 refine ⟨δ,k,z03 q fun r δ1 q1 v H1 a1 r1=>?_⟩
 cases r with
 | own d=>exact q1.elim
 | pure d =>
  cases d <;> first | exact q1.elim | skip
  rename_i b
  cases r1
  exact ⟨b,rfl,q1 _ H1 a1 (.bl _)⟩
def z4X (p p':D→D→Option S) (fa:DE) (fb:DE) (fc:BE):DE:=fun δ=>(fa δ).bind fun x δ1=>(fb δ1).bind fun y δ2=>(p2 p x.d y.d δ2).bind fun z δ3=>match z with
 | .pure (.bl true)=>(fc δ3).bind fun w δ4=>p2 p' y.d w δ4
 | .pure (.bl false)=>.ok (.pure (.bl false)) δ3
 | _=>.stuck
theorem z76 {r':R2} {p':D→D→Option S} {fb:DE} {fc:BE} (hp:Op2 r p) (hp':Op2 r' p') {σ:St} {H:Hp} {Q:VK} (h:tD c (z4X p p' fa fb fc) σ H Q):zaD r r' (tD c fa) (tD c fb) (tB c fc) σ H Q:=by
 obtain ⟨δ,k,q⟩:=h
 unfold z4X at q
 rw [z06] at q
 refine ⟨δ,k,z03 q fun x δ1 q1 v H1 a1 r1=>⟨δ1,a1.ok,?_⟩⟩
 rw [z06] at q1
 refine z03 q1 fun y δ2 q2 u H2 a2 r2=>?_
 rw [z06] at q2
 refine z7r hp a2.ok (.inl (Rep.aft r1.rep a2)) (.inl r2.rep) (z03 q2 fun s δ3 q3 v' H3 a3 r3=>?_)
 cases s with
 | own d=>exact q3.elim
 | pure d =>
  cases d <;> first | exact q3.elim | skip
  rename_i b
  cases r3
  refine ⟨b,rfl,?_⟩
  cases b with
  | false=>exact q3 _ H3 (a1.trans (a2.trans a3)) (.bl false)
  | true =>
   rw [if_pos rfl]
   have q3':post c ((fc δ3).bind fun w δ4=>p2 p' y.d w δ4) fun r δ'=>∀ v H',Aft c σ δ H σ δ' H'→RepS c σ δ' H H' v r→Q v H':=q3
   rw [z06] at q3'
   refine ⟨δ3,a3.ok,z03 q3' fun w δ4 q4 v4 H4 a4 r4=>?_⟩
   exact z7r hp' a4.ok (.inl (Rep.aft r2.rep (a3.trans a4))) r4 (z03 q4 fun s5 δ5 q5 v5 H5 a5 r5=>q5 v5 H5 (a1.trans (a2.trans (a3.trans (a4.trans a5)))) (RepS.back r5 (a1.trans (a2.trans (a3.trans a4)))))
theorem zcL {op op':CmpOp} {r':R2} {p':D→D→Option S} {e:Expr} {fb:DE} {fc:BE} (ho:OpR X (Wu op) r) (ho':OpR X (Wu op') r') (hp:Op2 r p) (hp':Op2 r' p') (ha:SE X c a fa) (hb:SE X c b fb) (he:SB X c e fc)
  (hm:lastMarks [op,op'] [b,e]=false:=by with_unfolding_all rfl):SE X c (.Compare a [op,op'] [b,e] pos) (z4X p p' fa fb fc):=PE.weak (zcZ ho ho' ha hb he hm) fun _ _ _ h=>z76 hp hp' h
theorem z9p {op op':CmpOp} {r':R2} {p':D→D→Option S} {e:Expr} {fb:DE} {fc:BE} (ho:OpR X (Wu op) r) (ho':OpR X (Wu op') r') (hp:Op2 r p) (hp':Op2 r' p') (ha:SE X c a fa) (hb:SE X c b fb) (he:SB X c e fc)
  (hm:lastMarks [op,op'] [b,e]=false:=by with_unfolding_all rfl):ST X c (.Compare a [op,op'] [b,e] pos) (dTr (z4X p p' fa fb fc)):=PT.weak (zcS ho ho' ha hb he hm) fun _ _ _ h=>z76 hp hp' (z79 h)
end
section
variable {c:Fc} {σ:St} {δ:Dl} {H:Hp} {x:V}
theorem RepB.int (h:RepB c σ δ H x (.int i)):x = .int i:=by
 rcases h with h | ⟨_,_,h⟩
 ·cases h; rfl
 ·exact h.elim
theorem RepB.bl (h:RepB c σ δ H x (.bl b)):x = .bl b:=by
 rcases h with h | ⟨_,_,h⟩
 ·cases h; rfl
 ·exact h.elim
theorem RepB.str (h:RepB c σ δ H x (.str z)):x = .str (toS z):=by
 rcases h with h | ⟨_,_,h⟩
 ·cases h; rfl
 ·exact h.elim
theorem RepB.tup (h:RepB c σ δ H x (.tup ds)):∃ a vs,x = .ref a∧H a=some (.tup vs)∧Reps H (Av c σ δ) vs ds:=by
 rcases h with h | ⟨_,_,h⟩
 ·cases h with
  | tup h1 h2 h3 h4=>exact ⟨_,_,rfl,h2,h3,h4⟩
 ·exact h.elim
theorem RepB.lst (h:RepB c σ δ H x (.lst ds)):∃ a vs,x = .ref a∧Rd H a (.lst vs)∧Reps H (Av c σ δ) vs ds:=by
 rcases h with h | ⟨a,e,h⟩
 ·cases h with
  | lst h1 h2 h3 h4=>exact ⟨_,_,rfl,h2,h3,h4⟩
 ·obtain ⟨vs,h1,h2⟩:=h
  exact ⟨a,vs,e,.inl h1,h2⟩
theorem RepB.dct (h:RepB c σ δ H x (.dct ds)):∃ a ws,x = .ref a∧H a=some (.dK ws)∧ws.map (·.1)=ds.map (fun p=>kOf p.1)∧∀ (i:Nat) p q,ws[i]? = some p→ds[i]? = some q→Rep H (Av c σ δ) p.2 q.2:=by
 rcases h with h | ⟨a,e,h⟩
 ·cases h with
  | dct h1 h2 h3 h4=>exact ⟨_,_,rfl,h2,h3,h4⟩
 ·obtain ⟨ws,h1,h2,h3⟩:=h
  exact ⟨a,ws,e,h1,h2,h3⟩
end
theorem z6M (h:z.length≤W6):(toS z).length≤W6:=by rw [z2l]; exact h
theorem ze6 (x y:Tx):toS x ++ toS y=toS (x ++ y):=by
 show Str.append (toS x) (toS y)=_
 simp [toS,Str.append]
def pAdd:D→D→Option S
 | .int i,.int j=>some (.pure (.int (i + j)))
 | .str x,.str y=>if x.length + y.length≤W6 then some (.pure (.str (x ++ y))) else none
 | .tup xs,.tup ys=>if xs.length + ys.length≤W6 then some (.pure (.tup (xs ++ ys))) else none
 | .lst xs,.lst ys=>if xs.length + ys.length≤W6 then some (.own (.lst (xs ++ ys))) else none
 | _,_=>none
def zfY (K:W1):R2:=fun x y H Q=>rI0 (fun i j=>V.int (i + j)) x y H Q∨(∃ i j,x = .str i∧y = .str j∧i.length + j.length≤W6∧Q (.str (i ++ j)) H) ∨
 (∃ a b ys,x = .ref a∧y = .ref b∧SqT K H a []∧SqT K H b ys∧Q (.ref b) H)∨zfW K x y H Q∨zfX K x y H Q
theorem z1F:OpR X (Qi .Add) (zfY X.K):=op_add.or (op_add_str.or (op_catT0.or (op_catT.or zeH)))
theorem z2r {K:W1}:Op2 (zfY K) pAdd:=by
 intro c σ δ H x y d e s Q k rx ry hp q
 cases d <;> cases e <;> first
  | (simp [pAdd] at hp; done)
  | skip
 ·rename_i i j
  simp only [pAdd,W7] at hp
  subst hp
  exact .inl ⟨i,j,rx.int,ry.int,q _ H (.refl k) (.int _)⟩
 ·rename_i u w
  simp only [pAdd] at hp
  split at hp
  ·rename_i hz
   simp only [W7] at hp
   subst hp
   refine .inr (.inl ⟨toS u,toS w,rx.str,ry.str,by rw [z2l,z2l]; exact hz,?_⟩)
   rw [ze6]
   exact q _ H (.refl k) (.str _)
  ·cases hp
 ·rename_i us ws
  simp only [pAdd] at hp
  split at hp
  ·rename_i hz
   simp only [W7] at hp
   subst hp
   obtain ⟨a,vs,ea,ha,ra⟩:=rx.tup
   obtain ⟨b,zs,eb,hb,rb⟩:=ry.tup
   cases vs with
   | nil =>
    have:us=[]:=by have:=ra.1; simpa using this.symm
    subst this
    refine .inr (.inr (.inl ⟨a,b,zs,ea,eb,.of ha,.of hb,?_⟩))
    rw [eb] at ry
    rcases ry with ry | ⟨_,_,ry⟩
    ·exact q _ H (.refl k) ry
    ·exact ry.elim
   | cons v0 vr =>
    refine .inr (.inr (.inr (.inl ⟨a,b,_,zs,ea,eb,.of ha,.of hb,by simp,by rw [ra.1,rb.1]; exact hz,fun e0=>?_,fun _ p hp=>?_⟩)))
    ·subst e0
     have:ws=[]:=by have:=rb.1; simpa using this.symm
     subst this
     rw [ea] at rx
     rcases rx with rx | ⟨_,_,rx⟩
     ·rw [J7] at q
      exact q _ H (.refl k) rx
     ·exact rx.elim
    ·exact q _ _ (.alloc k hp _) (RepS.newT k (ra.append rb) hp)
  ·cases hp
 ·rename_i us ws
  simp only [pAdd] at hp
  split at hp
  ·rename_i hz
   simp only [W7] at hp
   subst hp
   obtain ⟨a,vs,ea,ha,ra⟩:=rx.lst
   obtain ⟨b,zs,eb,hb,rb⟩:=ry.lst
   exact .inr (.inr (.inr (.inr ⟨a,b,vs,zs,ea,eb,.inl ha,.inl hb,by rw [ra.1,rb.1]; exact hz,fun p hp=>q _ _ (.alloc k hp _) (RepS.newL k (ra.append rb) hp)⟩)))
  ·cases hp
def pII (C:Int→Int→Bool) (g:Int→Int→D):D→D→Option S
 | .int i,.int j=>if C i j then some (.pure (g i j)) else none
 | _,_=>none
theorem zd2 (hC:∀ i j,C' i j=true→C i j) (hg:∀ i j H O,Rep H O (g i j) (g' i j)):Op2 (rI C g) (pII C' g'):=by
 intro c σ δ H x y d e s Q k rx ry hp q
 cases d <;> cases e <;> first
  | (simp [pII] at hp; done)
  | skip
 rename_i i j
 simp only [pII] at hp
 split at hp
 ·rename_i hc
  simp only [W7] at hp
  subst hp
  exact ⟨i,j,rx.int,ry.int,hC i j hc,q _ H (.refl k) (hg i j H _)⟩
 ·cases hp
theorem zgw (hg:∀ i j H O,Rep H O (g i j) (g' i j)):Op2 (rI0 g) (pII (fun _ _=>true) g'):=by
 intro c σ δ H x y d e s Q k rx ry hp q
 cases d <;> cases e <;> first
  | (simp [pII] at hp; done)
  | skip
 rename_i i j
 simp only [pII,if_true,W7] at hp
 subst hp
 exact ⟨i,j,rx.int,ry.int,q _ H (.refl k) (hg i j H _)⟩
def pSub:=pII (fun _ _=>true) fun i j=>.int (i - j)
theorem zgr:Op2 (rI0 fun i j=>V.int (i - j)) pSub:=zgw fun _ _ _ _=>.int _
def cMul (i j:Int):Bool:=(decide (-(2 ^ 64) < i) && decide (i < 2 ^ 64)) || (decide (-(2 ^ 64) < j) && decide (j < 2 ^ 64))
def pMul:=pII cMul fun i j=>.int (i * j)
theorem zgt:Op2 (rI CMul fun i j=>V.int (i * j)) pMul:=zd2 (fun i j h=>by
 unfold cMul at h
 simp only [Bool.or_eq_true,Wa,decide_eq_true_eq] at h
 exact h) fun _ _ _ _=>.int _
def cDiv (_ j:Int):Bool:=decide (0 < j) && decide (j < 1073741824)
def pDiv:=pII cDiv fun i j=>.int (i / j)
theorem zdM:Op2 (rI CDiv fun i j=>V.int (i / j)) pDiv:=zd2 (fun i j h=>by
 unfold cDiv at h
 simp only [Wa,decide_eq_true_eq] at h
 exact h) fun _ _ _ _=>.int _
def pMod:=pII (fun _ j=>decide (0 < j)) fun i j=>.int (i % j)
theorem z68:Op2 (rI (fun _ j=>0 < j) fun i j=>V.int (i % j)) pMod:=zd2 (fun i j h=>by simpa using h) fun _ _ _ _=>.int _
def cPow (i j:Int):Bool:=decide (0≤j) && decide (j≤1000000) && decide (i.natAbs < 2 ^ 64)
def pPow:=pII cPow fun i j=>.int (i ^ j.toNat)
theorem zgs:Op2 (rI CPow fun i j=>V.int (i ^ j.toNat)) pPow:=zd2 (fun i j h=>by
 unfold cPow at h
 simp only [Wa,decide_eq_true_eq] at h
 exact ⟨h.1.1,h.1.2,h.2⟩) fun _ _ _ _=>.int _
def pEq (d e:D):Option S:=if flat 50 d && flat 50 e then some (.pure (.bl (eqD d e))) else none
def pNe (d e:D):Option S:=if flat 50 d && flat 50 e then some (.pure (.bl (!eqD d e))) else none
theorem z5x:Op2 rEqD pEq:=by
 intro c σ δ H x y d e s Q k rx ry hp q
 unfold pEq at hp
 split at hp
 ·rename_i hf
  rw [Wa] at hf
  simp only [W7] at hp
  subst hp
  exact ⟨d,e,rx.un,ry.un,hf.1,hf.2,q _ H (.refl k) (.bl _)⟩
 ·cases hp
theorem z7A:Op2 rNeD pNe:=by
 intro c σ δ H x y d e s Q k rx ry hp q
 unfold pNe at hp
 split at hp
 ·rename_i hf
  rw [Wa] at hf
  simp only [W7] at hp
  subst hp
  exact ⟨d,e,rx.un,ry.un,hf.1,hf.2,q _ H (.refl k) (.bl _)⟩
 ·cases hp
def pCmp (f:Int→Int→Bool) (g:Tx→Tx→Bool):D→D→Option S
 | .int i,.int j=>some (.pure (.bl (f i j)))
 | .str x,.str y=>some (.pure (.bl (g x y)))
 | _,_=>none
def rCmp (f:Int→Int→Bool) (g:List Nat→List Nat→Bool):R2:=fun x y H Q=>rI0 (fun i j=>V.bl (f i j)) x y H Q∨∃ i j,x = .str i∧y = .str j∧Q (.bl (g i.cps.toList j.cps.toList)) H
theorem z1B:Op2 (rCmp f g) (pCmp f g):=by
 intro c σ δ H x y d e s Q k rx ry hp q
 cases d <;> cases e <;> first
  | (simp [pCmp] at hp; done)
  | skip
 ·rename_i i j
  simp only [pCmp,W7] at hp
  subst hp
  exact .inl ⟨i,j,rx.int,ry.int,q _ H (.refl k) (.bl _)⟩
 ·rename_i i j
  simp only [pCmp,W7] at hp
  subst hp
  refine .inr ⟨toS i,toS j,rx.str,ry.str,?_⟩
  rw [z51,z51]
  exact q _ H (.refl k) (.bl _)
theorem z95 {X:Cx} {op:CmpOp} {g:List Nat→List Nat→Bool} (rule:∀ (i j:Str) (t u:Tok) (Q:Value→W2→Prop) (s:W2),Q (.bool (g i.cps.toList j.cps.toList)) s→W5 (model X.prog X.w) X.A (Wu op (.str i t) (.str j u)) Q X.xe s) :
  OpR X (Wu op) (fun x y H Q=>∃ i j,x = .str i∧y = .str j∧Q (.bl (g i.cps.toList j.cps.toList)) H):=by
 intro pins s σ H x y v u Q I rx ry h
 obtain ⟨i,j,rfl,rfl,q⟩:=h
 obtain ⟨t,rfl⟩:=rx
 obtain ⟨t',rfl⟩:=ry
 exact rule i j t t' _ s ⟨.bl _,H,I,rfl,q⟩
def pLt:=pCmp (fun i j=>decide (i < j)) fun x y=>decide (x < y)
theorem zgm:OpR X (Wu .Lt) (rCmp (fun i j=>decide (i < j)) fun x y=>decide (x < y)):=op_lt.or zbo
theorem o2_lt:Op2 (rCmp (fun i j=>decide (i < j)) fun x y=>decide (x < y)) pLt:=z1B
def pIx:D→D→Option S
 | .lst ds,.int i=>(atI ds i).map .pure
 | .tup ds,.int i=>(atI ds i).map .pure
 | .str x,.int i=>if x.length≤W6 then (atI x i).map fun n=>.pure (.str [n]) else none
 | _,_=>none
theorem z9x (r:Reps H O vs ds) (h:atI ds i=some d):∃ v,atI vs i=some v∧Rep H O v d:=by
 unfold atI at h ⊢
 rw [r.1]
 cases e:ixN ds.length i with
 | none=>rw [e] at h; cases h
 | some j =>
  rw [e] at h
  exact r.get h
theorem z18 {K:W1}:Op2 (rIx K) pIx:=by
 intro c σ δ H x y d e s Q k rx ry hp q
 cases d <;> cases e <;> first
  | (simp [pIx] at hp; done)
  | skip
 ·rename_i z i
  simp only [pIx] at hp
  split at hp
  ·rename_i hz
   cases e1:atI z i with
   | none=>rw [e1] at hp; cases hp
   | some n =>
    rw [e1] at hp
    simp only [WK,W7] at hp
    subst hp
    refine .inr (.inr ⟨toS z,i,n,rx.str,ry.int,z6M hz,by rw [z51]; exact e1,?_⟩)
    exact q (.str (toS [n])) H (.refl k) (.str [n])
  ·cases hp
 ·rename_i ds i
  simp only [pIx] at hp
  cases e1:atI ds i with
  | none=>rw [e1] at hp; cases hp
  | some n =>
   rw [e1] at hp
   simp only [WK,W7] at hp
   subst hp
   obtain ⟨a,vs,ea,ha,ra⟩:=rx.tup
   obtain ⟨v,e2,r2⟩:=z9x ra e1
   exact .inr (.inl ⟨a,vs,i,v,ea,ry.int,.of ha,e2,q v H (.refl k) r2⟩)
 ·rename_i ds i
  simp only [pIx] at hp
  cases e1:atI ds i with
  | none=>rw [e1] at hp; cases hp
  | some n =>
   rw [e1] at hp
   simp only [WK,W7] at hp
   subst hp
   obtain ⟨a,vs,ea,ha,ra⟩:=rx.lst
   obtain ⟨v,e2,r2⟩:=z9x ra e1
   exact .inl ⟨a,vs,i,v,ea,ry.int,.inl ha,e2,q v H (.refl k) r2⟩
def pLe:=pCmp (fun i j=>decide (i≤j)) fun x y=>!decide (y < x)
def pGt:=pCmp (fun i j=>decide (j < i)) fun x y=>decide (y < x)
def pGe:=pCmp (fun i j=>decide (j≤i)) fun x y=>!decide (x < y)
theorem z4M:OpR X (Wu .LtE) (rCmp (fun i j=>decide (i≤j)) fun x y=>!decide (y < x)):=op_le.or (z95 (g:=fun x y=>!decide (y < x)) fun _ _ _ _ _ _ h=>PySem.P.le_str h)
theorem z49:OpR X (Wu .Gt) (rCmp (fun i j=>decide (j < i)) fun x y=>decide (y < x)):=op_gt.or (z95 (g:=fun x y=>decide (y < x)) fun _ _ _ _ _ _ h=>PySem.P.gt_str h)
theorem zgp:OpR X (Wu .GtE) (rCmp (fun i j=>decide (j≤i)) fun x y=>!decide (x < y)):=op_ge.or (z95 (g:=fun x y=>!decide (x < y)) fun _ _ _ _ _ _ h=>PySem.P.ge_str h)
abbrev DA:=Dl→Rs (List D)
def tAD (c:Fc) (f:DA):TA:=fun σ H Q=>∃ δ,Ok c σ δ H∧post c (f δ) fun ds δ'=>∀ vs H',Aft c σ δ H σ δ' H'→Reps H' (Av c σ δ') vs ds→Q vs H'
structure SA (X:Cx) (c:Fc) (es:List Expr) (f:DA):Prop where
 pa:PA X es (tAD c f)
 len:∀ δ ds δ',f δ = .ok ds δ'→ds.length=es.length
theorem PA.weak (h:PA X es t) (w:∀ σ H Q,t' σ H Q→t σ H Q):PA X es t':=fun pos pins s σ H Q I q=>h pos pins s σ H Q I (w σ H Q q)
def aNil:DA:=fun δ=>.ok [] δ
def z0u (f:DE) (g:DA):DA:=fun δ=>(f δ).bind fun x δ1=>(g δ1).bind fun xs δ2=>.ok (x.d :: xs) δ2
section
variable {X:Cx} {c:Fc} {e:Expr} {es:List Expr} {f:DE} {g:DA} {pos:Pos}
theorem z1J:SA X c [] aNil:=⟨PA.weak z32 fun σ H Q ⟨δ,k,q⟩=>q [] H (.refl k) .nil,fun δ ds δ' h=>by cases h; rfl⟩
theorem zaU (ha:SE X c e f) (hr:SA X c es g) (hs:We (e :: es) X.env=(false,eval e X.env) :: We es X.env:=by rfl):SA X c (e :: es) (z0u f g):=by
 refine ⟨PA.weak (z1x ha hr.pa hs) fun σ H Q ⟨δ,k,q⟩=>?_,fun δ ds δ' h=>?_⟩
 ·unfold z0u at q
  rw [z06] at q
  refine ⟨δ,k,z03 q fun x δ1 q1 v H1 a1 r1=>⟨δ1,a1.ok,?_⟩⟩
  rw [z06] at q1
  exact z03 q1 fun xs δ2 q2 vs H2 a2 r2=>q2 (v :: vs) H2 (a1.trans a2) (.cons (Rep.aft r1.rep a2) r2)
 ·unfold z0u at h
  cases h1:f δ with
  | ok x δ1 =>
   rw [h1] at h
   cases h2:g δ1 with
   | ok xs δ2 =>
    simp only [Rs.bind,h2] at h
    cases h
    simp [hr.len _ _ _ h2]
   | exc x δx=>simp only [Rs.bind,h2] at h; cases h
   | stuck=>simp only [Rs.bind,h2] at h; cases h
  | exc x δx=>rw [h1] at h; cases h
  | stuck=>rw [h1] at h; cases h
def eTup (f:DA):DE:=fun δ=>(f δ).bind fun ds δ'=>.ok (.pure (.tup ds)) δ'
def eLst (f:DA):DE:=fun δ=>(f δ).bind fun ds δ'=>.ok (.own (.lst ds)) δ'
theorem z6O (h:n≤1000):n≤W6:=Jf (zaL h)
theorem z8f (h:post c r k):post c r fun a δ=>r = .ok a δ∧k a δ:=by
 cases r with
 | ok a δ=>exact ⟨rfl,h⟩
 | exc x δx=>exact h
 | stuck=>exact h
theorem z2B {x1} (h:SA X c es g) (hz:es.length≤1000:=by decide):SE X c (.Tuple es x1 pos) (eTup g):=PE.weak (zg9 h.pa) fun σ H Q ⟨δ,k,q⟩=>by
 unfold eTup at q
 rw [z06] at q
 refine ⟨δ,k,z03 (z8f q) fun ds δ1 ⟨e1,q1⟩ vs H1 a1 r1=>?_⟩
 have hl:=h.len _ _ _ e1
 exact ⟨by rw [r1.1,hl]; exact z6O hz,fun p hp=>q1 _ _ (a1.trans (.alloc a1.ok hp _)) (RepS.back (RepS.newT a1.ok r1 hp) a1)⟩
theorem z5Q (h:SA X c es g) (hz:es.length≤1000:=by decide):SE X c (.List es pos) (eLst g):=PE.weak (zge h.pa) fun σ H Q ⟨δ,k,q⟩=>by
 unfold eLst at q
 rw [z06] at q
 refine ⟨δ,k,z03 (z8f q) fun ds δ1 ⟨e1,q1⟩ vs H1 a1 r1=>?_⟩
 have hl:=h.len _ _ _ e1
 exact ⟨by rw [r1.1,hl]; exact z6O hz,fun p hp=>q1 _ _ (a1.trans (.alloc a1.ok hp _)) (RepS.back (RepS.newL a1.ok r1 hp) a1)⟩
end
def p1 (p:D→Option S) (x:D) (δ:Dl):Rs S:=match p x with
 | some s=>.ok s δ
 | none=>.stuck
def eC1 (p:D→Option S) (fb:BE):DE:=fun δ=>(fb δ).bind fun x δ1=>p1 p x δ1
def Op1 (r:V→Hp→VK→Prop) (p:D→Option S):Prop:=∀ (c:Fc) (σ:St) (δ:Dl) (H:Hp) (x:V) (d:D) (s:S) (Q:VK),Ok c σ δ H→RepB c σ δ H x d→p d=some s →
 (∀ v H',Aft c σ δ H σ δ H'→RepS c σ δ H H' v s→Q v H')→r x H Q
section
variable {X:Cx} {c:Fc} {e:Expr} {fb:BE} {r:V→Hp→VK→Prop} {p:D→Option S} {x:Str} {id T:String} {pp pos:Pos}
theorem zbm (hp:Op1 r p) (k:Ok c σ δ H) (rx:RepB c σ δ H v d)
  (h:post c (p1 p d δ) fun s δ'=>∀ v H',Aft c σ δ H σ δ' H'→RepS c σ δ' H H' v s→Q v H'):r v H Q:=by
 unfold p1 at h
 cases e1:p d with
 | none=>rw [e1] at h; exact h.elim
 | some s=>rw [e1] at h; exact hp c σ δ H v d s Q k rx e1 h
theorem z77 (hp:Op1 r p) (h:tD c (eC1 p fb) σ H Q):tUn r (tB c fb) σ H Q:=by
 obtain ⟨δ,k,q⟩:=h
 unfold eC1 at q
 rw [z06] at q
 exact ⟨δ,k,z03 q fun y δ1 q1 v H1 a1 r1=>zbm hp a1.ok r1 (z03 q1 fun s δ2 q2 w H2 a2 r2=>q2 w H2 (a1.trans a2) (RepS.back r2 a1))⟩
theorem z5G (hc:CallR X (.builtin id) rl) (hl:∀ v H Q,r v H Q→rl [v] H Q) (hp:Op1 r p) (hg:Gl X x) (hm:X.mg x=none) (hv:Qz x=some (.builtin id)) (he:SB X c e fb)
  (hn:x≠"__name__":=by decide) (hdb:(x == ("__debug__" : Str))=false:=by decide) (hs:We [e] X.env=(false,eval e X.env) :: We [] X.env:=by rfl) (hpl:(QL pos (We [] X.env)).any (·.1)=false:=by rfl) :
  SE X c (.Call (.Name x pp) [e] [] pos) (eC1 p fb):=PE.weak (z5I hc hg hm hv (z1x he z32 hs) hn hdb hs hpl) fun σ H Q h=>by
 obtain ⟨δ,k,q⟩:=z77 hp h
 exact ⟨δ,k,z03 q fun y δ1 q1 v H1 a1 r1=>hl _ _ _ (q1 v H1 a1 r1)⟩
theorem z4F (hc:CallR X (.type T) rl) (hl:∀ v H Q,r v H Q→rl [v] H Q) (hp:Op1 r p) (hg:Gl X x) (hm:X.mg x=none) (hv:Qz x=some (.type T)) (he:SB X c e fb)
  (hn:x≠"__name__":=by decide) (hdb:(x == ("__debug__" : Str))=false:=by decide) (hs:We [e] X.env=(false,eval e X.env) :: We [] X.env:=by rfl) (hpl:(QL pos (We [] X.env)).any (·.1)=false:=by rfl) :
  SE X c (.Call (.Name x pp) [e] [] pos) (eC1 p fb):=PE.weak (z60 hc hg hm hv (z1x he z32 hs) hn hdb hs hpl) fun σ H Q h=>by
 obtain ⟨δ,k,q⟩:=z77 hp h
 exact ⟨δ,k,z03 q fun y δ1 q1 v H1 a1 r1=>hl _ _ _ (q1 v H1 a1 r1)⟩
def pLen:D→Option S
 | .lst ds=>some (.pure (.int ds.length))
 | .tup ds=>some (.pure (.int ds.length))
 | .str z=>if z.length≤W6 then some (.pure (.int z.length)) else none
 | .dct ds=>some (.pure (.int ds.length))
 | _=>none
def rLen (K:W1):V→Hp→VK→Prop:=fun v H Q=>((∃ p ys,v = .ref p∧(SqL K H p ys∨SqT K H p ys)∧Q (.int ys.length) H)∨∃ z,v = .str z∧z.length≤W6∧Q (.int z.length) H)∨∃ a kvs,v=V.ref a∧H a=some (.dK kvs)∧Q (.int kvs.length) H
theorem zgx {K:W1}:Op1 (rLen K) pLen:=by
 intro c σ δ H x d s Q k rx hp q
 cases d with
 | lst ds =>
  simp only [pLen,W7] at hp
  subst hp
  obtain ⟨a,vs,ea,ha,ra⟩:=rx.lst
  exact .inl (.inl ⟨a,vs,ea,.inl (.inl ha),by rw [ra.1]; exact q _ H (.refl k) (.int _)⟩)
 | tup ds =>
  simp only [pLen,W7] at hp
  subst hp
  obtain ⟨a,vs,ea,ha,ra⟩:=rx.tup
  exact .inl (.inl ⟨a,vs,ea,.inr (.of ha),by rw [ra.1]; exact q _ H (.refl k) (.int _)⟩)
 | str z =>
  simp only [pLen] at hp
  split at hp
  ·rename_i hz
   simp only [W7] at hp
   subst hp
   exact .inl (.inr ⟨toS z,rx.str,z6M hz,by rw [z2l]; exact q _ H (.refl k) (.int _)⟩)
  ·cases hp
 | dct ds =>
  simp only [pLen,W7] at hp
  subst hp
  obtain ⟨a,ws,ea,ha,h1,h2⟩:=rx.dct
  have hl:ws.length=ds.length:=by have:=congrArg List.length h1; simpa using this
  exact .inr ⟨a,ws,ea,ha,by rw [hl]; exact q _ H (.refl k) (.int _)⟩
 | _=>simp [pLen] at hp
theorem z1A (hg:Gl X "len") (hm:X.mg "len" = none) (he:SB X c e fb) (hs:We [e] X.env=(false,eval e X.env) :: We [] X.env:=by rfl):SE X c (.Call (.Name "len" pp) [e] [] pos) (eC1 pLen fb) :=
 z5G ((call_len_seq.or z8O).or zcq) (fun v H Q h=>by
  rcases h with (⟨p,ys,e,h⟩ | ⟨z,e,h⟩) | ⟨a,kvs,e,h⟩
  ·exact .inl (.inl ⟨p,ys,by rw [e],h⟩)
  ·exact .inl (.inr ⟨z,by rw [e],h⟩)
  ·exact .inr ⟨a,kvs,by rw [e],h⟩) (zgx (K:=X.K)) hg hm PySem.boot_len he (by decide) (by decide) hs
def z12:D→Option S
 | .lst ds=>some (.pure (.tup ds))
 | .tup ds=>some (.pure (.tup ds))
 | _=>none
def zfR (K:W1):V→Hp→VK→Prop:=fun v H Q=>∃ p ys,v = .ref p∧((SqL K H p ys∧∀ l,H l=none→Q (.ref l) (upd H l (.tup ys)))∨(SqT K H p ys∧Q (.ref p) H))
theorem zd3 {K:W1}:Op1 (zfR K) z12:=by
 intro c σ δ H x d s Q k rx hp q
 cases d with
 | lst ds =>
  simp only [z12,W7] at hp
  subst hp
  obtain ⟨a,vs,ea,ha,ra⟩:=rx.lst
  exact ⟨a,vs,ea,.inl ⟨.inl ha,fun l hl=>q _ _ (.alloc k hl _) (RepS.newT k ra hl)⟩⟩
 | tup ds =>
  simp only [z12,W7] at hp
  subst hp
  obtain ⟨a,vs,ea,ha,ra⟩:=rx.tup
  refine ⟨a,vs,ea,.inr ⟨.of ha,?_⟩⟩
  rw [ea] at rx
  rcases rx with rx | ⟨_,_,rx⟩
  ·exact q _ H (.refl k) rx
  ·exact rx.elim
 | _=>simp [z12] at hp
theorem z1N (hg:Gl X "tuple") (hm:X.mg "tuple" = none) (he:SB X c e fb) (hs:We [e] X.env=(false,eval e X.env) :: We [] X.env:=by rfl):SE X c (.Call (.Name "tuple" pp) [e] [] pos) (eC1 z12 fb) :=
 z4F z7O (fun v H Q ⟨p,ys,e,h⟩=>⟨p,ys,by rw [e],h⟩) (zd3 (K:=X.K)) hg hm PyProof.Rows.boot_tuple he (by decide) (by decide) hs
def pInt:D→Option S
 | .int i=>some (.pure (.int i))
 | .bl b=>some (.pure (.int (if b then 1 else 0)))
 | _=>none
theorem zej (hg:Gl X "int") (hm:X.mg "int" = none) (he:SB X c e fb) (hs:We [e] X.env=(false,eval e X.env) :: We [] X.env:=by rfl):SE X c (.Call (.Name "int" pp) [e] [] pos) (eC1 pInt fb) :=
 z4F (r:=fun v H Q=>(∃ i,v = .int i∧Q (.int i) H)∨∃ k,v = .bl k∧Q (.int (if k then 1 else 0)) H) zcr (fun v H Q h=>by
  rcases h with ⟨i,e,q⟩ | ⟨k,e,q⟩
  ·exact .inl ⟨i,by rw [e],q⟩
  ·exact .inr ⟨k,by rw [e],q⟩) (fun c σ δ H x d s Q k rx hp q=>by
  cases d with
  | int i =>
   simp only [pInt,W7] at hp
   subst hp
   exact .inl ⟨i,rx.int,q _ H (.refl k) (.int _)⟩
  | bl b =>
   simp only [pInt,W7] at hp
   subst hp
   exact .inr ⟨b,rx.bl,q _ H (.refl k) (.int _)⟩
  | _=>simp [pInt] at hp) hg hm PyProof.Rows.boot_int he (by decide) (by decide) hs
def z6L:List D→Option (List Bool)
 | []=>some []
 | .bl b :: r=>(z6L r).map (b :: ·)
 | _ :: _=>none
def z30:List D→Option (List Tx)
 | []=>some []
 | .str x :: r=>(z30 r).map (x :: ·)
 | _ :: _=>none
theorem z6T:∀ {ds:List D} {vs:List V} {bs:List Bool},z6L ds=some bs→Reps H O vs ds→vs=bs.map V.bl
 | [],vs,bs,h,r=>by
  simp only [z6L,W7] at h
  subst h
  have:=r.1
  simpa using this
 | d :: ds,[],bs,h,r=>by have:=r.1; simp at this
 | d :: ds,v :: vs,bs,h,r=>by
  cases d with
  | bl b =>
   simp only [z6L] at h
   cases e:z6L ds with
   | none=>rw [e] at h; cases h
   | some bs' =>
    rw [e] at h
    simp only [WK,W7] at h
    subst h
    have:=r.head
    cases this
    rw [z6T e r.tail]
    rfl
  | _=>simp [z6L] at h
theorem z1Y:∀ {ds:List D} {vs:List V} {bs:List Tx},z30 ds=some bs→Reps H O vs ds→vs=bs.map fun z=>V.str (toS z)
 | [],vs,bs,h,r=>by
  simp only [z30,W7] at h
  subst h
  have:=r.1
  simpa using this
 | d :: ds,[],bs,h,r=>by have:=r.1; simp at this
 | d :: ds,v :: vs,bs,h,r=>by
  cases d with
  | str b =>
   simp only [z30] at h
   cases e:z30 ds with
   | none=>rw [e] at h; cases h
   | some bs' =>
    rw [e] at h
    simp only [WK,W7] at h
    subst h
    have:=r.head
    cases this
    rw [z1Y e r.tail]
    rfl
  | _=>simp [z30] at h
theorem z4H:∀ ts:List Tx,Reps H O (ts.map fun z=>V.str (toS z)) (ts.map D.str)
 | []=>.nil
 | t :: ts=>.cons (.str t) (z4H ts)
def pAll:D→Option S
 | .lst ds=>(z6L ds).map fun bs=>.pure (.bl (bs.all (fun b=>b)))
 | _=>none
def z5b:D→Option S
 | .lst ds=>match z30 ds with
  | some ts=>if ts.length < 64 then some (.own (.lst ((z55 ts).map D.str))) else none
  | none=>none
 | _=>none
theorem zdB:Qz "all" = some (.builtin "all"):=by decide +kernel
theorem zfF (hc:X.calm=true) (hg:Gl X "all") (hm:X.mg "all" = none) (he:SB X c e fb) (hs:We [e] X.env=(false,eval e X.env) :: We [] X.env:=by rfl):SE X c (.Call (.Name "all" pp) [e] [] pos) (eC1 pAll fb) :=
 z5G (r:=fun v H Q=>∃ (a:Addr) (bs:List Bool),v = .ref a∧SqL X.K H a (bs.map V.bl)∧Q (.bl (bs.all (fun b=>b))) H) (zdz hc) (fun v H Q ⟨a,bs,e,h⟩=>⟨a,bs,by rw [e],h⟩) (fun c σ δ H x d s Q k rx hp q=>by
  cases d with
  | lst ds =>
   simp only [pAll] at hp
   cases e:z6L ds with
   | none=>rw [e] at hp; cases hp
   | some bs =>
    rw [e] at hp
    simp only [WK,W7] at hp
    subst hp
    obtain ⟨a,vs,ea,ha,ra⟩:=rx.lst
    have:=z6T e ra
    subst this
    exact ⟨a,bs,ea,.inl ha,q _ H (.refl k) (.bl _)⟩
  | _=>simp [pAll] at hp) hg hm zdB he (by decide) (by decide) hs
theorem zaO (hg:Gl X "sorted") (hm:X.mg "sorted" = none) (he:SB X c e fb) (hs:We [e] X.env=(false,eval e X.env) :: We [] X.env:=by rfl):SE X c (.Call (.Name "sorted" pp) [e] [] pos) (eC1 z5b fb) :=
 z5G (r:=fun v H Q=>∃ (a:Addr) (ts:List Tx),v = .ref a∧SqL X.K H a (ts.map fun z=>V.str (toS z))∧ts.length < 64∧∀ p,H p=none→Q (.ref p) (upd H p (.lst ((z55 ts).map fun z=>V.str (toS z))))) z8M (fun v H Q ⟨a,bs,e,h⟩=>⟨a,bs,by rw [e],h⟩) (fun c σ δ H x d s Q k rx hp q=>by
  cases d with
  | lst ds =>
   simp only [z5b] at hp
   cases e:z30 ds with
   | none=>rw [e] at hp; cases hp
   | some ts =>
    rw [e] at hp
    simp only at hp
    split at hp
    ·rename_i hz
     simp only [W7] at hp
     subst hp
     obtain ⟨a,vs,ea,ha,ra⟩:=rx.lst
     have:=z1Y e ra
     subst this
     exact ⟨a,ts,ea,.inl ha,hz,fun p hp=>q _ _ (.alloc k hp _) (RepS.newL k (z4H _) hp)⟩
    ·cases hp
  | _=>simp [z5b] at hp) hg hm PyProof.Rows.boot_sorted he (by decide) (by decide) hs
def pMax:D→D→Option S
 | .int i,.int j=>some (.pure (.int (if j > i then j else i)))
 | _,_=>none
def eMax (f g:DE):DE:=fun δ=>(f δ).bind fun x δ1=>(g δ1).bind fun y δ2=>p2 pMax x.d y.d δ2
theorem zfD {a b:Expr} {f g:DE} (hc:X.calm=true) (hg:Gl X "max") (hm:X.mg "max" = none) (ha:SE X c a f) (hb:SE X c b g) (hs:We [a,b] X.env=(false,eval a X.env) :: We [b] X.env:=by rfl)
  (hs2:We [b] X.env=(false,eval b X.env) :: We [] X.env:=by rfl) (hpl:(QL pos (We [b] X.env)).any (·.1)=false:=by rfl):SE X c (.Call (.Name "max" pp) [a,b] [] pos) (eMax f g) :=
 PE.weak (z5I (zcp hc) hg hm PyProof.Rows.boot_max (z1x ha (z1x hb z32 hs2) hs) (by decide) (by decide) hs hpl) fun σ H Q ⟨δ,k,q⟩=>by
  unfold eMax at q
  rw [z06] at q
  refine ⟨δ,k,z03 q fun x δ1 q1 v H1 a1 r1=>⟨δ1,a1.ok,?_⟩⟩
  rw [z06] at q1
  refine z03 q1 fun y δ2 q2 u H2 a2 r2=>?_
  unfold p2 at q2
  have hx:RepB c σ δ2 H2 v x.d:=.inl (Rep.aft r1.rep a2)
  have hy:=r2.b
  generalize x.d=dx at q2 hx
  generalize y.d=dy at q2 hy
  cases dx <;> cases dy <;> first
   | exact q2.elim
   | skip
  rename_i i j
  exact ⟨i,j,by rw [hx.int,hy.int],q2 _ H2 (a1.trans a2) (.int _)⟩
def isTy (T:String):D→Option Bool
 | .non=>some (T == "NoneType")
 | .bl _=>some (T == "bool" || T == "int")
 | .int _=>some (T == "int")
 | .str _=>some (T == "str")
 | .tup _=>some (T == "tuple")
 | .lst _=>some (T == "list")
 | .dct _=>some (T == "dict")
 | .exc _ _=>none
 | .xd _=>none
structure TyK (K:W1) (T:String):Prop where
 non:QC K (.type "NoneType") (.type T)=some (T == "NoneType")
 bl:QC K (.type "bool") (.type T)=some (T == "bool" || T == "int")
 int:QC K (.type "int") (.type T)=some (T == "int")
 str:QC K (.type "str") (.type T)=some (T == "str")
 tup:QC K (.type "tuple") (.type T)=some (T == "tuple")
 lst:QC K (.type "list") (.type T)=some (T == "list")
 dct:QC K (.type "dict") (.type T)=some (T == "dict")
def eIsi (T:String) (fb:BE):DE:=fun δ=>(fb δ).bind fun d δ'=>match isTy T d with
 | some b=>.ok (.pure (.bl b)) δ'
 | none=>.stuck
theorem zdg (ty:TyK X.K T) (I:Inv X pins σ H s) (ru:RelV v u) (r:Rep H NoO v d) (e:isTy T d=some b) (q:Q (.bl b) H) :
  W5 (model X.prog X.w) X.A (call (.builtin "isinstance") [u,.type T]) (EP X pins σ Q) X.xe s:=by
 have fin:∀ tk,EP X pins σ Q (.bool b) { s with toks:=tk }:=fun tk=>⟨.bl b,H,I.tok tk,rfl,q⟩
 cases r with
 | non=>exact z26 I ru .non (ty.non.trans e) fin
 | bl x=>exact z26 I ru (.bl x) (ty.bl.trans e) fin
 | int x=>exact z26 I ru (.int x) (ty.int.trans e) fin
 | str x=>exact z26 I ru (.str _) (ty.str.trans e) fin
 | tup _ h2 _ _=>exact z26 I ru (.tup h2) (ty.tup.trans e) fin
 | lst _ h2 _ _ =>
  rcases h2 with h2 | ⟨o,h2⟩
  ·exact z26 I ru (.lst h2) (ty.lst.trans e) fin
  ·exact z26 I ru (.frz h2) (ty.lst.trans e) fin
 | dct _ h2 _ _=>exact z26 I ru (.dK h2) (ty.dct.trans e) fin
 | exc _ _=>cases e
 | xd _ _=>cases e
theorem zdy (ty:TyK X.K T):CallR X (.builtin "isinstance") (fun xs H Q=>∃ v d b,xs=[v,.ty T]∧Rep H NoO v d∧isTy T d=some b∧Q (.bl b) H):=by
 intro pins s σ H xs us Q I r h
 obtain ⟨v,d,b,rfl,rp,e,q⟩:=h
 obtain ⟨u,w',rfl,r1,r2⟩:=zfk r
 cases r2
 exact zdg ty I r1 rp e q
theorem z5R {y:Str} {py:Pos} (ty:TyK X.K T) (hg:Gl X "isinstance") (hm:X.mg "isinstance" = none) (hgy:Gl X y) (hmy:X.mg y=none) (hvy:Qz y=some (.type T)) (he:SB X c e fb)
  (hny:y≠"__name__":=by decide) (hdy:(y == ("__debug__" : Str))=false:=by decide)
  (hs:We [e,.Name y py] X.env=(false,eval e X.env) :: We [.Name y py] X.env:=by rfl) (hpl:(QL pos (We [.Name y py] X.env)).any (·.1)=false:=by rfl) :
  SE X c (.Call (.Name "isinstance" pp) [e,.Name y py] [] pos) (eIsi T fb) :=
 PE.weak (z5I (zdy ty) hg hm PyProof.Rows.boot_isinstance (z1x he (z1x (zeB (v:=.ty T) hgy hmy hvy rfl hny hdy) z32) hs) (by decide) (by decide) hs hpl) fun σ H Q ⟨δ,k,q⟩=>by
  unfold eIsi at q
  rw [z06] at q
  refine ⟨δ,k,z03 q fun d δ1 q1 v H1 a1 r1=>?_⟩
  cases e1:isTy T d with
  | none=>rw [e1] at q1; exact q1.elim
  | some b =>
   rw [e1] at q1
   exact ⟨v,d,b,rfl,r1.un,e1,q1 _ H1 a1 (.bl _)⟩
end
abbrev DOp:=Dl→Rs (Option Int)
def tOD (c:Fc) (f:DOp):TO:=fun σ H Q=>∃ δ,Ok c σ δ H∧post c (f δ) fun o δ'=>∀ H',Aft c σ δ H σ δ' H'→Q o H'
abbrev SO (X:Cx) (c:Fc) (e:Option Expr) (f:DOp):Prop:=PO X e (tOD c f)
theorem PO.weak (h:PO X e t) (w:∀ σ H Q,t' σ H Q→t σ H Q):PO X e t':=fun pins s σ H Q I q=>h pins s σ H Q I (w σ H Q q)
def z6H:DOp:=fun δ=>.ok none δ
def z3G (f:DE):DOp:=fun δ=>(f δ).bind fun r δ'=>match r with
 | .pure (.int i)=>.ok (some i) δ'
 | _=>.stuck
section
variable {X:Cx} {c:Fc} {e:Expr} {f:DE} {fb:BE} {fl fh:DOp} {lo hi:Option Expr} {pos p2:Pos}
theorem zaJ:SO X c none z6H:=PO.weak zeu fun σ H Q ⟨δ,k,q⟩=>q H (.refl k)
theorem z7c (h:SE X c e f):SO X c (some e) (z3G f):=PO.weak (zet h) fun σ H Q ⟨δ,k,q⟩=>by
 unfold z3G at q
 rw [z06] at q
 refine ⟨δ,k,z03 q fun r δ1 q1 v H1 a1 r1=>?_⟩
 cases r with
 | own d=>exact q1.elim
 | pure d =>
  cases d <;> first | exact q1.elim | skip
  rename_i i
  cases r1
  exact ⟨i,rfl,q1 H1 a1⟩
def pSl (lo hi:Option Int):D→Option S
 | .str x=>if x.length≤W6 then some (.pure (.str (cutL x lo hi))) else none
 | .tup ds=>some (.pure (.tup (cutL ds lo hi)))
 | .lst ds=>some (.own (.lst (cutL ds lo hi)))
 | _=>none
def rSlD (K:W1):V→Option Int→Option Int→Hp→VK→Prop:=fun x lo hi H Q=>rSlS x lo hi H Q∨zfS K x lo hi H Q∨rSlL K x lo hi H Q
theorem sl_D:SlR X (rSlD X.K):=sl_str.or (sl_tup2.or zeh)
theorem o1_sl {K:W1} (lo hi:Option Int):Op1 (fun x H Q=>rSlD K x lo hi H Q) (pSl lo hi):=by
 intro c σ δ H x d s Q k rx hp q
 cases d with
 | str z =>
  simp only [pSl] at hp
  split at hp
  ·rename_i hz
   simp only [W7] at hp
   subst hp
   exact .inl ⟨z,rx.str,hz,q _ H (.refl k) (.str _)⟩
  ·cases hp
 | tup ds =>
  simp only [pSl,W7] at hp
  subst hp
  obtain ⟨a,vs,ea,ha,ra⟩:=rx.tup
  refine .inr (.inl ⟨a,vs,ea,.of ha,fun hw=>?_,fun _ p hp=>?_⟩)
  ·rw [ra.1] at hw
   rw [zch hw] at q
   rw [ea] at rx
   rcases rx with rx | ⟨_,_,rx⟩
   ·exact q _ H (.refl k) rx
   ·exact rx.elim
  ·rw [← zdY]
   exact q _ _ (.alloc k hp _) (RepS.newT k (ra.cut lo hi) hp)
 | lst ds =>
  simp only [pSl,W7] at hp
  subst hp
  obtain ⟨a,vs,ea,ha,ra⟩:=rx.lst
  refine .inr (.inr ⟨a,vs,ea,.inl ha,fun p hp=>?_⟩)
  rw [← zdY]
  exact q _ _ (.alloc k hp _) (RepS.newL k (ra.cut lo hi) hp)
 | _=>simp [pSl] at hp
def eSl (f:DE) (fl fh:DOp):DE:=fun δ=>(f δ).bind fun x δ1=>(fl δ1).bind fun l δ2=>(fh δ2).bind fun h δ3=>p1 (pSl l h) x.d δ3
def eSlN (i:Nat) (fl fh:DOp):DE:=fun δ=>match δ[i]? with
 | some (some _)=>(fl δ).bind fun l δ2=>(fh δ2).bind fun h δ3=>(bVar i δ3).bind fun x δ4=>p1 (pSl l h) x δ4
 | _=>.stuck
theorem zeg {i:Nat} {σ:St} {δ:Dl} {H:Hp} {v:V} {w:S} (k:Ok c σ δ H) (e:δ[i]? = some (some w)) (ev:σ[i]? = some (some v)):RepB c σ δ H v w.d:=by
 cases w with
 | pure d =>
  obtain ⟨v',e1,r⟩:=k.slot i d e
  rw [ev] at e1; cases e1
  exact .inl r
 | own d =>
  obtain ⟨a,e1,r,_⟩:=k.own i d e
  rw [ev] at e1; cases e1
  exact .inr ⟨a,rfl,r⟩
theorem zct (h:post c ((bVar i δ).bind g) kk):∃ w,δ[i]? = some (some w)∧post c (g w.d δ) kk:=by
 unfold bVar at h
 cases e:δ[i]? with
 | none=>rw [e] at h; exact h.elim
 | some o =>
  cases o with
  | none=>rw [e] at h; exact h.elim
  | some w=>rw [e] at h; exact ⟨w,rfl,h⟩
theorem zaP {i:Nat} (he:PE X e (tVar i)) (hl:SO X c lo fl) (hh:SO X c hi fh):SE X c (.Subscript e (.Slice lo hi none p2) pos) (eSlN i fl fh):=PE.weak (zcX sl_D he hl hh) fun σ H Q ⟨δ,k,q⟩=>by
 unfold eSlN at q
 cases e:δ[i]? with
 | none=>rw [e] at q; exact q.elim
 | some o =>
  cases o with
  | none=>rw [e] at q; exact q.elim
  | some w =>
   rw [e] at q
   obtain ⟨v,ev⟩:=z57 k e
   have q':post c ((fl δ).bind fun l δ2=>(fh δ2).bind fun h δ3=>(bVar i δ3).bind fun x δ4=>p1 (pSl l h) x δ4) fun r δ'=>∀ v H',Aft c σ δ H σ δ' H'→RepS c σ δ' H H' v r→Q v H':=q
   rw [z06] at q'
   refine ⟨v,ev,δ,k,z03 q' fun l δ2 q2 H2 a2=>⟨δ2,a2.ok,?_⟩⟩
   rw [z06] at q2
   refine z03 q2 fun h δ3 q3 H3 a3=>?_
   obtain ⟨w3,e3,q4⟩:=zct q3
   exact zbm (o1_sl l h) a3.ok (zeg a3.ok e3 ev) (z03 q4 fun s δ4 q4 w H4 a4 r4=>q4 w H4 (a2.trans (a3.trans a4)) (RepS.back r4 (a2.trans a3)))
def pRev:D→Option S
 | .str x=>if x.length≤W6 then some (.pure (.str x.reverse)) else none
 | .lst ds=>some (.own (.lst ds.reverse))
 | _=>none
def rRev (K:W1):V→Hp→VK→Prop:=fun x H Q=>(∃ z:Tx,x = .str (toS z)∧z.length≤W6∧Q (.str (toS z.reverse)) H)∨∃ a xs,x = .ref a∧SqL K H a xs∧∀ p,H p=none→Q (.ref p) (upd H p (.lst xs.reverse))
def z6f (z:Tx):List Tx→Tx
 | []=>[]
 | [x]=>x
 | x :: y :: r=>x ++ z ++ z6f z (y :: r)
theorem z9N (z:Tx):∀ (r:List Tx) (acc:Tx),((r.map toS).foldl (fun (acc:Array Nat) p=>acc ++ (toS z).cps ++ p.cps) acc.toArray)=(match r with | []=>acc | x :: r'=>acc ++ z ++ z6f z (x :: r')).toArray
 | [],acc=>rfl
 | x :: r,acc=>by
  rw [Ws,Qn]
  have e:acc.toArray ++ (toS z).cps ++ (toS x).cps=(acc ++ z ++ x).toArray:=by simp [toS]
  rw [e,z9N z r (acc ++ z ++ x)]
  cases r with
  | nil=>simp [z6f]
  | cons y r'=>simp [z6f]
theorem zeT (z:Tx) (ts:List Tx):Txt.join (toS z) (ts.map toS)=toS (z6f z ts):=by
 show Builtin.Str.glued _ _=_
 unfold Builtin.Str.glued
 cases ts with
 | nil=>rfl
 | cons x r =>
  rw [Ws]
  show (⟨(List.foldl _ (toS x).cps (r.map toS))⟩:Str)=_
  have:=z9N z r x
  have e:(toS x).cps=x.toArray:=rfl
  rw [e,this]
  cases r with
  | nil=>rfl
  | cons y r'=>rfl
def z2D (ts:List Tx):Nat:=(ts.map (·.length)).sum
def z1Z (z:Tx):D→Option S
 | .lst ds=>match z30 ds with
  | some ts=>if z2D ts + ts.length * z.length≤16777216 then some (.pure (.str (z6f z ts))) else none
  | none=>none
 | .tup ds=>match z30 ds with
  | some ts=>if z2D ts + ts.length * z.length≤16777216 then some (.pure (.str (z6f z ts))) else none
  | none=>none
 | _=>none
theorem zeK {K:W1} (z:Tx):Op1 (fun x H Q=>zcR K (.str (toS z)) [x] H Q) (z1Z z):=by
 intro c σ δ H x d s Q k rx hp q
 have key:∀ (a:Addr) (vs:List V) (ds:List D),x = .ref a→(SqL K H a vs∨SqT K H a vs)→Reps H (Av c σ δ) vs ds→(match z30 ds with | some ts=>if z2D ts + ts.length * z.length≤16777216 then some (S.pure (.str (z6f z ts))) else none | none=>none)=some s→zcR K (.str (toS z)) [x] H Q:=by
  intro a vs ds ea ha ra hp
  cases e:z30 ds with
  | none=>rw [e] at hp; cases hp
  | some ts =>
   rw [e] at hp
   simp only at hp
   split at hp
   ·rename_i hz
    simp only [W7] at hp
    subst hp
    have:=z1Y e ra
    subst this
    refine ⟨toS z,a,ts.map toS,rfl,by rw [ea],?_,?_,?_⟩
    ·rw [WB]; exact ha
    ·rw [WB,Wo,z2l]
     have:((fun x:Str=>x.length) ∘ toS)=fun x:Tx=>x.length:=funext fun x=>z2l x
     rw [this]
     exact hz
    ·rw [zeT]
     exact q _ H (.refl k) (.str _)
   ·cases hp
 cases d with
 | lst ds =>
  obtain ⟨a,vs,ea,ha,ra⟩:=rx.lst
  exact key a vs ds ea (.inl (.inl ha)) ra hp
 | tup ds =>
  obtain ⟨a,vs,ea,ha,ra⟩:=rx.tup
  exact key a vs ds ea (.inr (.of ha)) ra hp
 | _=>simp [z1Z] at hp
theorem z58 {x:Str} {j} {p0 apos cpos:Pos} (z:Tx) (he:SB X c e fb) (hx:x=toS z:=by decide +kernel)
  (hbase:attributeBase (.Constant (.str x) j p0) "join" X.env (eval (.Constant (.str x) j p0) X.env)=eval (.Constant (.str x) j p0) X.env:=by rfl)
  (hfew:((QL cpos (We [e] X.env)).all (fun x=>!x.1) && (backToKw cpos (keywordEach [] X.env)).all (fun x=>x.1.isSome)
   && decide ([e].length + ([]:List Keyword).length + (if ([]:List Keyword).isEmpty then 0 else 1) < 30))=true:=by rfl)
  (hline:(apos.endLine == cpos.line)=true:=by rfl) (hs:We [e] X.env=(false,eval e X.env) :: We [] X.env:=by rfl) :
  SE X c (.Call (.Attribute (.Constant (.str x) j p0) "join" apos) [e] [] cpos) (eC1 (z1Z z) fb):=by
 subst hx
 refine PE.weak (zgg PySem.F.plainAttrs_str PySem.F.slot_str_join PySem.F.type_str_join zeO zdK (z1x he z32 hs) hbase hfew hline hs rfl) fun σ H Q h=>?_
 obtain ⟨δ,k,q⟩:=z77 (r:=fun x H Q=>zcR X.K (.str (toS z)) [x] H Q) (zeK z) h
 refine ⟨?_,δ,k,q⟩
 show ("str" : String) = "str"
 rfl
end
inductive Fl where
 | next | ret (r:S) | brk | cont
abbrev DS:=Dl→Rs Fl
def fin (c:Fc) (D:Ends) (σ:St) (δ:Dl) (H:Hp):Fl→Prop
 | .next=>D.nx σ H
 | .ret r=>∀ v,RepS c σ δ c.H₀ H v r→D.rt v H
 | .brk=>D.bk σ H
 | .cont=>D.ct σ H
def z4G (c:Fc) (D:Ends) (σ:St) (δ:Dl) (H:Hp) (r:Rs Fl):Prop:=post c r fun fl δ'=>∀ σ' H',Aft c σ δ H σ' δ' H'→fin c D σ' δ' H' fl
def tDS (c:Fc) (f:DS):TS:=fun D σ H=>∃ δ,Ok c σ δ H∧z4G c D σ δ H (f δ)
abbrev SS (X:Cx) (c:Fc) (st:Stmt) (f:DS):Prop:=PS X st (tDS c f)
abbrev SSs (X:Cx) (c:Fc) (st:List Stmt) (f:DS):Prop:=PSs X st (tDS c f)
theorem PS.weak {X:Cx} {st:Stmt} {t t':TS} (h:PS X st t) (w:∀ D σ H,t' D σ H→t D σ H):PS X st t':=fun pins s σ H D I q=>h pins s σ H D I (w D σ H q)
theorem PSs.weak {X:Cx} {st:List Stmt} {t t':TS} (h:PSs X st t) (w:∀ D σ H,t' D σ H→t D σ H):PSs X st t':=fun pins s σ H D I q=>h pins s σ H D I (w D σ H q)
def z0I:DS:=fun δ=>.ok .next δ
def dSeq (f g:DS):DS:=fun δ=>(f δ).bind fun fl δ1=>match fl with
 | .next=>g δ1
 | .ret r=>.ok (.ret r) δ1
 | .brk=>.ok .brk δ1
 | .cont=>.ok .cont δ1
def z6q (f:DE):DS:=fun δ=>(f δ).bind fun _ δ1=>.ok .next δ1
def dRet (f:DE):DS:=fun δ=>(f δ).bind fun r δ1=>.ok (.ret r) δ1
def dIf (t:DT) (f g:DS):DS:=fun δ=>(t δ).bind fun b δ1=>if b then f δ1 else g δ1
def z3O:DS:=fun _=>.stuck
def eRetN (np:List Nat) (i:Nat):DE:=fun δ=>match δ[i]? with
 | some (some (.own d))=>if np.contains i then .ok (.pure d) (δ.set i (some (.pure d))) else .ok (.own d) (δ.set i none)
 | some (some (.pure d))=>.ok (.pure d) δ
 | _=>.stuck
section
variable {X:Cx} {c:Fc} {st:Stmt} {sts:List Stmt} {e a:Expr} {f g:DS} {fe:DE} {t:DT} {pos pos':Pos}
theorem z0S:SSs X c [] z0I:=PSs.weak zeq fun D σ H ⟨δ,k,q⟩=>q σ H (.refl k)
theorem z05 (h1:SS X c st f) (h2:SSs X c sts g):SSs X c (st :: sts) (dSeq f g):=PSs.weak (zcT h1 h2) fun D σ H ⟨δ,k,q⟩=>by
 unfold dSeq z4G at q
 rw [z06] at q
 refine ⟨δ,k,z03 q fun fl δ1 q1 σ1 H1 a1=>?_⟩
 cases fl with
 | next=>exact ⟨δ1,a1.ok,z03 q1 fun fl2 δ2 q2 σ2 H2 a2=>q2 σ2 H2 (a1.trans a2)⟩
 | ret r=>exact q1 σ1 H1 a1
 | brk=>exact q1 σ1 H1 a1
 | cont=>exact q1 σ1 H1 a1
theorem z0c (h1:SS X c st f):SSs X c [st] f:=PSs.weak (zep h1) fun D σ H h=>h
theorem z2z:SS X c st z3O:=PS.weak zcU fun D σ H ⟨δ,k,q⟩=>q
theorem z0p (he:SE X c e fe):SS X c (.Return (some e) pos) (dRet fe):=PS.weak (zg5 he) fun D σ H ⟨δ,k,q⟩=>by
 unfold dRet z4G at q
 rw [z06] at q
 exact ⟨δ,k,z03 q fun r δ1 q1 v H1 a1 r1=>q1 σ H1 a1 v r1.home⟩
theorem z1o {b1 b2:List Stmt} (ht:ST X c e t) (h1:SSs X c b1 f) (h2:SSs X c b2 g):SS X c (.If e b1 b2 pos) (dIf t f g):=PS.weak (ps_if ht h1 h2) fun D σ H ⟨δ,k,q⟩=>by
 unfold dIf z4G at q
 rw [z06] at q
 refine ⟨δ,k,z03 q fun b δ1 q1 H1 a1=>?_⟩
 cases b with
 | true=>exact ⟨δ1,a1.ok,z03 q1 fun fl δ2 q2 σ2 H2 a2=>q2 σ2 H2 (a1.trans a2)⟩
 | false=>exact ⟨δ1,a1.ok,z03 q1 fun fl δ2 q2 σ2 H2 a2=>q2 σ2 H2 (a1.trans a2)⟩
theorem Own.of_set (h:Own (σ.set i (some v)) (δ.set i (some r)) b):Own σ δ b∨(v = .ref b∧∃ d,r = .own d):=by
 obtain ⟨j,d,e1,e2⟩:=h
 by_cases hj:i=j
 ·subst hj
  right
  rw [Qa] at e1 e2
  simp at e1 e2
  obtain ⟨_,h1⟩:=e1
  obtain ⟨_,h2⟩:=e2
  exact ⟨h2,d,h1⟩
 ·rw [W9 hj] at e1 e2
  exact .inl ⟨j,d,e1,e2⟩
theorem Ok.set (x:Aft c σ₀ δ₀ H₁ σ δ H) (hr:RepS c σ δ H₁ H v r) (hp:∀ p ∈ c.pin,p.1≠i):Aft c σ₀ δ₀ H₁ (σ.set i (some v)) (δ.set i (some r)) H:=by
 have k:=x.ok
 -- all slots avoid the new address,too
 have all:∃ c':Fc,c'.H₀=c.H₀∧c'.pin=c.pin∧Ok c' σ δ H∧(∀ b,Av c (σ.set i (some v)) (δ.set i (some r)) b→Av c' σ δ b):=by
  cases r with
  | pure d =>
   refine ⟨c,rfl,rfl,k,fun b z=>?_⟩
   rcases z with z | z
   ·exact .inl z
   ·rcases z.of_set with z | ⟨_,d',e⟩
    ·exact .inr z
    ·cases e
  | own d =>
   obtain ⟨a,ea,o,n,f,k2,_⟩:=hr
   refine ⟨c.plus a,rfl,rfl,k2,fun b z=>?_⟩
   rcases z with z | z
   ·exact .inl (.inl z)
   ·rcases z.of_set with z | ⟨e,_⟩
    ·exact .inr z
    ·rw [ea] at e; cases e
     exact .inl (.inr rfl)
 obtain ⟨c',eH,eP,k2,sub⟩:=all
 have eI:∀ a,c'.I a ↔ c.I a:=fun a=>by unfold Fc.I; rw [eP]
 have hrep:Rep H (Av c (σ.set i (some v)) (δ.set i (some r))) v r.d∨∃ d,r = .own d:=by
  cases r with
  | pure d =>
   left
   refine Rep.anti hr fun b z=>?_
   rcases z with z | z
   ·exact .inl (.inl z)
   ·rcases z.of_set with z | ⟨_,d',e⟩
    ·exact .inl (.inr z)
    ·cases e
  | own d=>exact .inr ⟨d,rfl⟩
 refine ⟨⟨k.keep,k.bd,k.ith,by rw [J8,J8]; exact k.len,fun j d e=>?_,fun j d e=>?_,fun j l a d d' e1 e2 e3 e4=>?_,fun p hm=>?_⟩,x.keep,fun b z=>?_,x.there⟩
 ·by_cases hj:i=j
  ·subst hj
   rw [Qa] at e
   simp at e
   obtain ⟨hi,rfl⟩:=e
   have hi':i < σ.length:=by rw [← k.len]; exact hi
   rcases hrep with h | ⟨_,h⟩
   ·exact ⟨v,by rw [Wv hi'],h⟩
   ·cases h
  ·rw [W9 hj] at e
   obtain ⟨w,e1,q⟩:=k2.slot j d e
   exact ⟨w,by rw [W9 hj]; exact e1,q.anti fun b z=>.inl (sub b z)⟩
 ·by_cases hj:i=j
  ·subst hj
   rw [Qa] at e
   simp at e
   obtain ⟨hi,rfl⟩:=e
   have hi':i < σ.length:=by rw [← k.len]; exact hi
   obtain ⟨a,ea,o,n,f,k3,_⟩:=hr
   refine ⟨a,by rw [Wv hi',ea],o.anti fun b z=>.inl ?_,.inr f,n⟩
   rcases z with z | z
   ·exact .inl (.inl z)
   ·rcases z.of_set with z | ⟨e,_⟩
    ·exact .inr z
    ·rw [ea] at e; cases e
     exact .inl (.inr rfl)
  ·rw [W9 hj] at e
   obtain ⟨a,e1,q,q2,q3⟩:=k.own j d e
   obtain ⟨a',e1',q',_,_⟩:=k2.own j d e
   rw [e1] at e1'; cases e1'
   exact ⟨a,by rw [W9 hj]; exact e1,q'.anti fun b z=>.inl (sub b z),q2,q3⟩
 ·by_cases hj:i=j
  ·subst hj
   by_cases hl:i=l
   ·exact hl
   ·rw [W9 hl] at e2 e4
    rw [Qa] at e1 e3
    simp at e1 e3
    obtain ⟨_,rfl⟩:=e1
    obtain ⟨_,rfl⟩:=e3
    obtain ⟨a',ea,o,n,f,k3,_⟩:=hr
    cases ea
    exact absurd ⟨l,d',e2,e4⟩ (z4K k3)
  ·rw [W9 hj] at e1 e3
   by_cases hl:i=l
   ·subst hl
    rw [Qa] at e2 e4
    simp at e2 e4
    obtain ⟨_,rfl⟩:=e2
    obtain ⟨_,rfl⟩:=e4
    obtain ⟨a',ea,o,n,f,k3,_⟩:=hr
    cases ea
    exact absurd ⟨j,d,e1,e3⟩ (z4K k3)
   ·rw [W9 hl] at e2 e4
    exact k.inj j l a d d' e1 e2 e3 e4
 ·rw [W9 (Ne.symm (hp p hm))]
  exact k.pinned p hm
 ·rcases z.of_set with z | ⟨e,d,ed⟩
  ·exact x.own b z
  ·subst ed
   obtain ⟨a,ea,_,_,_,_,hs⟩:=hr
   rw [ea] at e; cases e
   exact .inr hs
abbrev DG:=S→Dl→Option Dl
def tGD (c:Fc) (g:DG):TG:=fun v σ H Q=>∃ σ₀ δ₀ H₁ δ r δ',Aft c σ₀ δ₀ H₁ σ δ H∧RepS c σ δ H₁ H v r∧g r δ=some δ'∧∀ σ',Aft c σ₀ δ₀ H₁ σ' δ' H→Q σ' H
abbrev SG (X:Cx) (c:Fc) (tg:Expr) (g:DG):Prop:=PG X tg (tGD c g)
def gNm (np:List Nat) (i:Nat):DG:=fun r δ=>if np.contains i then none else some (δ.set i (some r))
def Np (c:Fc) (np:List Nat):Prop:=∀ p ∈ c.pin,np.contains p.1=true
theorem z9M (hp:Np c np) (h:tGD c (gNm np i) v σ H Q):zeZ i v σ H Q:=by
 obtain ⟨σ₀,δ₀,H₁,δ,r,δ',x,rr,e,q⟩:=h
 unfold gNm at e
 split at e
 ·cases e
 ·rename_i hn
  cases e
  exact q _ (Ok.set x rr fun p hm e=>hn (by rw [← e]; exact hp p hm))
theorem PG.weak {tg:Expr} {t t':TG} (h:PG X tg t) (w:∀ v σ H Q,t' v σ H Q→t v σ H Q):PG X tg t':=fun pins s σ H v u Q I r q=>h pins s σ H v u Q I r (w v σ H Q q)
theorem PGs.weak {tg:List Expr} {t t':TGs} (h:PGs X tg t) (w:∀ v σ H Q,t' v σ H Q→t v σ H Q):PGs X tg t':=fun pins s σ H v u Q I r q=>h pins s σ H v u Q I r (w v σ H Q q)
theorem z0z {np:List Nat} {i:Nat} {x:Str} (hp:Np c np) (hN:X.N.Nodup) (hi:X.N[i]? = some x) (hx:Loc X.env.scope x) (hf:X.fn x=true∨X.env.scope.names.lookup x=some .local):SG X c (.Name x pos) (gNm np i) :=
 PG.weak (zbi hN hi hx hf) fun v σ H Q h=>z9M hp h
abbrev DGs:=List D→Dl→Option Dl
def tGDs (c:Fc) (g:DGs):TGs:=fun vs σ H Q=>∃ δ ds δ',Ok c σ δ H∧Reps H (Av c σ δ) vs ds∧g ds δ=some δ'∧∀ σ',Aft c σ δ H σ' δ' H→Q σ' H
abbrev SGs (X:Cx) (c:Fc) (tg:List Expr) (g:DGs):Prop:=PGs X tg (tGDs c g)
def z10:DGs:=fun ds δ=>match ds with
 | []=>some δ
 | _=>none
def z0d (g:DG) (gs:DGs):DGs:=fun ds δ=>match ds with
 | []=>none
 | d :: r=>(g (.pure d) δ).bind fun δ1=>gs r δ1
theorem z39:SGs X c [] z10:=PGs.weak zbh fun vs σ H Q ⟨δ,ds,δ',k,r,e,q⟩=>by
 cases ds with
 | nil =>
  cases e
  have:vs=[]:=by have:=r.1; simpa using this
  exact ⟨this,q σ (.refl k)⟩
 | cons d r=>cases e
theorem z0N {es:List Expr} {g:DG} {gs:DGs} (h1:SG X c e g) (h2:SGs X c es gs) (hs:(Qh (e :: es) X.env).map (·.2)=assign e X.env :: (Qh es X.env).map (·.2):=by rfl):SGs X c (e :: es) (z0d g gs) :=
 PGs.weak (z9E h1 h2 hs) fun vs σ H Q ⟨δ,ds,δ',k,r,e,q⟩=>by
  cases ds with
  | nil=>cases e
  | cons d ds =>
   cases vs with
   | nil=>have:=r.1; simp at this
   | cons v vs =>
    simp only [z0d] at e
    cases e1:g (.pure d) δ with
    | none=>rw [e1] at e; cases e
    | some δ1 =>
     rw [e1] at e
     refine ⟨v,vs,rfl,σ,δ,H,δ,.pure d,δ1,.refl k,r.head,e1,fun σ1 a1=>?_⟩
     exact ⟨δ1,ds,δ',a1.ok,Reps.aft r.tail a1,e,fun σ2 a2=>q σ2 (a1.trans a2)⟩
def gTp (n:Nat) (gs:DGs):DG:=fun r δ=>match r.d with
 | .tup ds=>if ds.length=n then gs ds δ else none
 | _=>none
theorem z4D {es:List Expr} {k:Nat} {gs:DGs} {n:Nat} (hc:X.calm=true) (h:SGs X c es gs) (hn:(Qh es X.env).length=n:=by rfl) (hst:(Qh es X.env).findIdx? (·.1)=none:=by rfl) :
  SG X c (.Tuple es k pos) (gTp n gs):=PG.weak (zdJ hc h hn hst) fun v σ H Q hw=>by
 obtain ⟨σ₀,δ₀,H₁,δ,r,δ',x,rr,e,q⟩:=hw
 have hb:=rr.b
 unfold gTp at e
 generalize r.d=d at e hb
 cases d <;> first | (cases e; done) | skip
 rename_i ds
 simp only at e
 split at e
 ·rename_i hl
  obtain ⟨a,vs,ea,ha,ra⟩:=hb.tup
  exact ⟨a,vs,ea,.of ha,by rw [ra.1]; exact hl,δ,ds,δ',x.ok,ra,e,fun σ' a1=>q σ' (x.trans a1)⟩
 ·cases e
def dAsg (f:DE) (g:DG):DS:=fun δ=>(f δ).bind fun r δ1=>match g r δ1 with
 | some δ2=>.ok .next δ2
 | none=>.stuck
theorem z9X {g:DG} {D:Ends} {σ:St} {H:Hp} {te:TE} {tg:TG} (he:∀ σ H Q,tD c fe σ H Q→te σ H Q) (hg:∀ v σ H Q,tGD c g v σ H Q→tg v σ H Q) (h:tDS c (dAsg fe g) D σ H):tAsg te tg D σ H:=by
 obtain ⟨δ,k,q⟩:=h
 unfold dAsg z4G at q
 rw [z06] at q
 refine he _ _ _ ⟨δ,k,z03 q fun r δ1 q1 v H1 a1 r1=>hg _ _ _ _ ?_⟩
 cases e:g r δ1 with
 | none=>rw [e] at q1; exact q1.elim
 | some δ2 =>
  rw [e] at q1
  exact ⟨σ,δ,H,δ1,r,δ2,a1,r1,e,fun σ' a2=>q1 σ' H1 a2⟩
theorem z5P {tg:Expr} {g:DG} (he:SE X c e fe) (hg:SG X c tg g) (hs:swapsWithSole [tg] e pos.line X.env=pure false:=by rfl) (hw:swappedStores [tg] e X.env=pure none:=by rfl)
  (h1:(Qh [tg] X.env).map (·.2)=[assign tg X.env]:=by rfl):SS X c (.Assign [tg] e pos) (dAsg fe g):=PS.weak (zdI he hg hs hw h1) fun D σ H h=>z9X (fun _ _ _ h=>h) (fun _ _ _ _ h=>h) h
theorem z0O {np:List Nat} {i:Nat} {x:Str} (hp:Np c np) (hN:X.N.Nodup) (hi:X.N[i]? = some x) (hx:Loc X.env.scope x) (he:SE X c e fe) (hs:Jt e (some (.Name x pos')) pos.line X.env=pure false) (hf:X.fn x=true∨X.env.scope.names.lookup x=some .local) :
  SS X c (.Assign [.Name x pos'] e pos) (dAsg fe (gNm np i)):=PS.weak (zg4 hN hi hx he hs hf) fun D σ H h=>z9X (fun _ _ _ h=>h) (fun _ _ _ _ h=>z9M hp h) h
theorem zee (he:SE X c e fe) (hs:∀ (x:Value),Jt e none pos.line X.env=pure false:=by intro _; rfl) (hd:True:=trivial) (h:PS X (.Expr e pos) (ze9 (tD c fe))):SS X c (.Expr e pos) (z6q fe):=PS.weak h fun D σ H ⟨δ,k,q⟩=>by
 unfold z6q z4G at q
 rw [z06] at q
 exact ⟨δ,k,z03 q fun r δ1 q1 v H1 a1 r1=>q1 σ H1 a1⟩
theorem Ok.mutL {σ:St} {δ:Dl} {H:Hp} {i:Nat} {ds ds':List D} {a:Addr} {vs':List V} (k:Ok c σ δ H) (e:δ[i]? = some (some (.own (.lst ds)))) (ea:σ[i]? = some (some (.ref a))) (r:Reps H (Av c σ δ) vs' ds') :
  Aft c σ δ H σ (δ.set i (some (.own (.lst ds')))) (upd H a (.lst vs')):=by
 have hi:i < δ.length:=(Wc.mp e).1
 obtain ⟨a',ea',oa,ia,nb⟩:=k.own i _ e
 rw [ea] at ea'; cases ea'
 obtain ⟨vs,ha,_⟩:=oa
 have ownA:Own σ δ a:=⟨i,_,e,ea⟩
 have avA:Av c σ δ a:=.inr ownA
 have own_iff:∀ b,Own σ (δ.set i (some (.own (.lst ds')))) b ↔ Own σ δ b:=fun b=>by
  constructor
  ·rintro ⟨j,d,e1,e2⟩
   by_cases hj:i=j
   ·subst hj
    exact ⟨i,_,e,e2⟩
   ·rw [W9 hj] at e1
    exact ⟨j,d,e1,e2⟩
  ·rintro ⟨j,d,e1,e2⟩
   by_cases hj:i=j
   ·subst hj
    exact ⟨i,_,by rw [Wv hi],e2⟩
   ·exact ⟨j,d,by rw [W9 hj]; exact e1,e2⟩
 have av_iff:∀ b,Av c σ (δ.set i (some (.own (.lst ds')))) b→Av c σ δ b:=fun b z=>z.elim .inl fun z=>.inr ((own_iff b).mp z)
 have ne:∀ b,¬ Av c σ δ b→b≠a:=fun b n z=>n (by rw [z]; exact avA)
 have kp:∀ b o,H b=some o→¬ Av c σ δ b→upd H a (.lst vs') b=some o:=fun b o h n=>by rw [z0t (ne b n)]; exact h
 have hup:∀ b o,H b=some o→∃ o',upd H a (.lst vs') b=some o':=fun b o h=>by
  by_cases hb:b=a
  ·exact ⟨_,by rw [hb]; exact z0M⟩
  ·exact ⟨o,by rw [z0t hb]; exact h⟩
 refine ⟨⟨fun b o h n=>?_,fun b z=>?_,fun b z=>?_,by rw [J8]; exact k.len,fun j d h=>?_,fun j d h=>?_,fun j l b d d' h1 h2 h3 h4=>?_,k.pinned⟩,fun b o h n=>?_,fun b z=>.inl ((own_iff b).mp z),hup⟩
 ·have hb:b≠a:=fun z=>by
   subst z
   rcases ia with z | z
   ·exact n z
   ·rw [z] at h; cases h
  rw [z0t hb]
  exact k.keep b o h n
 ·obtain ⟨o,h⟩:=k.bd b z
  exact hup b o h
 ·obtain ⟨o,h⟩:=k.ith b z
  exact hup b o h
 ·have hj:i≠j:=fun z=>by subst z; rw [Wv hi] at h; cases h
  rw [W9 hj] at h
  obtain ⟨v,h1,h2⟩:=k.slot j d h
  exact ⟨v,h1,(h2.keep kp).anti fun b z=>.inl (av_iff b z)⟩
 ·by_cases hj:i=j
  ·subst hj
   rw [Wv hi] at h
   cases h
   exact ⟨a,ea,⟨vs',z0M,Reps.anti (Reps.keep r kp) fun b z=>.inl (av_iff b z)⟩,ia,nb⟩
  ·rw [W9 hj] at h
   obtain ⟨b,h1,h2,h3,h4⟩:=k.own j d h
   have hb:b≠a:=fun z=>by subst z; exact hj (k.inj i j b _ d e h ea h1)
   exact ⟨b,h1,(h2.keep kp fun o q=>by rw [z0t hb]; exact q).anti fun b z=>.inl (av_iff b z),h3,h4⟩
 ·have f1:∃ d,δ[j]? = some (some (.own d)):=by
   by_cases hj:i=j
   ·subst hj; exact ⟨_,e⟩
   ·rw [W9 hj] at h1; exact ⟨d,h1⟩
  have f2:∃ d,δ[l]? = some (some (.own d)):=by
   by_cases hj:i=l
   ·subst hj; exact ⟨_,e⟩
   ·rw [W9 hj] at h2; exact ⟨d',h2⟩
  obtain ⟨_,f1⟩:=f1
  obtain ⟨_,f2⟩:=f2
  exact k.inj j l b _ _ f1 f2 h3 h4
 ·have hb:b≠a:=fun z=>n (by rw [z]; exact ownA)
  rw [z0t hb]; exact h
def z3J (δ:Dl) (i:Nat):Bool:=match δ[i]? with
 | some (some (.own (.lst _)))=>true
 | _=>false
def putL (δ:Dl) (i:Nat) (f:List D→Option (List D)):Rs Fl:=match δ[i]? with
 | some (some (.own (.lst ds)))=>match f ds with
  | some ds'=>.ok .next (δ.set i (some (.own (.lst ds'))))
  | none=>.stuck
 | _=>.stuck
theorem z8z (h:z3J δ i=true):∃ ds,δ[i]? = some (some (.own (.lst ds))):=by
 unfold z3J at h
 split at h
 ·rename_i ds e; exact ⟨ds,e⟩
 ·cases h
theorem z8c {δ:Dl} {i:Nat} {g:List D→Option (List D)} {kk:Fl→Dl→Prop} (h:post c (putL δ i g) kk):∃ ds ds',δ[i]? = some (some (.own (.lst ds)))∧g ds=some ds'∧kk .next (δ.set i (some (.own (.lst ds')))):=by
 unfold putL at h
 split at h
 ·rename_i ds e
  split at h
  ·rename_i ds' e2
   exact ⟨ds,ds',e,e2,h⟩
  ·exact h.elim
 ·exact h.elim
def z1e (i:Nat) (f:DE):DS:=fun δ=>if z3J δ i then (f δ).bind fun r δ1=>putL δ1 i fun ds=>if ds.length < W6 then some (ds ++ [r.d]) else none else .stuck
theorem zaH {i:Nat} {o:Expr} {p0 apos cpos:Pos} (ho:PE X o (tVar i)) (he:SE X c e fe)
  (h:PS X (.Expr (.Call (.Attribute o "append" apos) [e] [] cpos) pos) (ze9 (tBM X.K "list" zba (tVar i) (zfv (tD c fe) tNil)))):SS X c (.Expr (.Call (.Attribute o "append" apos) [e] [] cpos) pos) (z1e i fe) :=
 PS.weak h fun D σ H ⟨δ,k,q⟩=>by
  unfold z1e z4G at q
  split at q
  ·rename_i hown
   obtain ⟨ds0,e0⟩:=z8z hown
   rw [z06] at q
   obtain ⟨a,ea,oa,_⟩:=k.own i _ e0
   refine ⟨.ref a,ea,?_,δ,k,z03 q fun r δ1 q1 v H1 a1 r1=>?_⟩
   ·obtain ⟨vs,ha,_⟩:=oa
    exact .inl ⟨rfl,vs,.of ha⟩
   ·obtain ⟨ds,ds',e1,e2,q2⟩:=z8c q1
    split at e2
    ·rename_i hz
     cases e2
     obtain ⟨a',ea',oa1,_⟩:=a1.ok.own i _ e1
     rw [ea] at ea'; cases ea'
     obtain ⟨vs,ha,ra⟩:=id oa1
     refine ⟨a,vs,v,rfl,rfl,ha,by rw [ra.1]; exact hz,?_⟩
     exact q2 σ _ (a1.trans (Ok.mutL a1.ok e1 ea (ra.append (.cons r1.rep .nil))))
    ·cases e2
  ·exact q.elim
def zan (i:Nat) (fi:DE) (fe:DE):DS:=fun δ=>if z3J δ i then (fe δ).bind fun r δ1=>(fi δ1).bind fun k δ2=>match k with
 | .pure (.int j)=>putL δ2 i fun ds=>(ixN ds.length j).map fun n=>ds.set n r.d
 | _=>.stuck else .stuck
theorem zaG {i:Nat} {o ix:Expr} {fi:DE} {sp:Pos} (ho:PE X o (tVar i)) (hi:SE X c ix fi) (he:SE X c e fe)
  (ha:∀ v,assign (.Subscript o ix sp) X.env v=(do
   let ov ← holding [v] (eval o X.env)
   let iv ← holding [v,ov] (eval ix X.env)
   standAt sp
   holding [v,ov,iv] (setItem ov iv v)
   release [v,ov,iv] []):=by intro _; rfl)
  (hs:swapsWithSole [.Subscript o ix sp] e pos.line X.env=pure false:=by rfl) (hw:swappedStores [.Subscript o ix sp] e X.env=pure none:=by rfl)
  (h1:(Qh [.Subscript o ix sp] X.env).map (·.2)=[assign (.Subscript o ix sp) X.env]:=by rfl):SS X c (.Assign [.Subscript o ix sp] e pos) (zan i fi fe) :=
 PS.weak (zdI he (zg7 ho hi zcH ha) hs hw h1) fun D σ H ⟨δ,k,q⟩=>by
  unfold zan z4G at q
  split at q
  ·rename_i hown
   obtain ⟨ds0,e0⟩:=z8z hown
   rw [z06] at q
   obtain ⟨a,ea,_,_⟩:=k.own i _ e0
   refine ⟨δ,k,z03 q fun r δ1 q1 v H1 a1 r1=>⟨.ref a,ea,δ1,a1.ok,?_⟩⟩
   rw [z06] at q1
   refine z03 q1 fun kx δ2 q2 u H2 a2 r2=>?_
   cases kx with
   | own d=>exact q2.elim
   | pure d =>
    cases d <;> first | exact q2.elim | skip
    rename_i j
    cases r2
    obtain ⟨ds,ds',e1,e2,q3⟩:=z8c q2
    cases e3:ixN ds.length j with
    | none=>rw [e3] at e2; cases e2
    | some n =>
     rw [e3] at e2
     cases e2
     obtain ⟨a',ea',oa1,_⟩:=a2.ok.own i _ e1
     rw [ea] at ea'; cases ea'
     obtain ⟨vs,ha,ra⟩:=id oa1
     refine ⟨a,vs,j,n,rfl,rfl,ha,by rw [ra.1]; exact e3,?_⟩
     exact q3 σ _ (a1.trans (a2.trans (Ok.mutL a2.ok e1 ea (ra.set (Rep.aft r1.rep a2) n))))
  ·exact q.elim
end
abbrev DI:=Dl→Rs (List D)
def ItOk (c:Fc) (σ:St) (δ:Dl) (H:Hp) (J:It) (ds:List D):Prop:=∀ H2,(∀ a o,H a=some o→¬ Own σ δ a→H2 a=some o)→J.stop ds.length H2 ∧
 ∀ (i:Nat) d,ds[i]? = some d→J.go i H2∧∀ x H3,J.yld i H2 x H3→(H3=H2∧Rep H (Av c σ δ) x d) ∨
  ∃ p vs es,H2 p=none∧H3=upd H2 p (.tup vs)∧x = .ref p∧d = .tup es∧Reps H (Av c σ δ) vs es
def tI (c:Fc) (f:DI):TI:=fun σ H R=>∃ δ,Ok c σ δ H∧post c (f δ) fun ds δ'=>∀ J H',Aft c σ δ H σ δ' H'→ItOk c σ δ' H' J ds→R J H'
abbrev SI (X:Cx) (c:Fc) (tg iter:Expr) (f:DI):Prop:=PI X tg iter (tI c f)
theorem PI.weak (h:PI X tg iter t) (w:∀ σ H R,t' σ H R→t σ H R):PI X tg iter t':=fun pins s σ H R I q=>h pins s σ H R I (w σ H R q)
section
variable {X:Cx} {c:Fc} {tg e:Expr} {fe:DE} {pos pp:Pos}
theorem zgL (K:W1) (h:H a=some (.tup vs)) (n:¬ Own σ δ a) (r:Reps H (Av c σ δ) vs ds):ItOk c σ δ H (Itt K a) ds:=by
 intro H2 kp
 have h2:=kp a _ h n
 refine ⟨⟨vs,.of h2,by rw [r.1]; exact W8 _⟩,fun i d e=>?_⟩
 obtain ⟨v,ev,rv⟩:=r.get e
 refine ⟨⟨vs,v,.of h2,ev⟩,fun x H3 ⟨e3,y⟩=>.inl ⟨e3,?_⟩⟩
 have:=y vs (.of h2)
 rw [ev] at this
 cases this
 exact rv
def z0H (lo:Int) (n:Nat):List D:=(Wf n).map fun k:Nat=>D.int (lo + k)
theorem za6 {lo:Int} {n i:Nat} {d:D} (h:(z0H lo n)[i]? = some d):i < n∧d = .int (lo + i):=by
 unfold z0H at h
 rw [Q0] at h
 by_cases hi:i < n
 ·rw [List.getElem?_range hi] at h
  simp at h
  exact ⟨hi,h.symm⟩
 ·rw [Qb (by simpa using hi)] at h
  cases h
theorem zdf (lo:Int) (n:Nat):ItOk c σ δ H (Itr lo n) (z0H lo n):=by
 intro H2 kp
 refine ⟨by show n≤(z0H lo n).length; simp [z0H],fun i d e=>?_⟩
 obtain ⟨hi,rfl⟩:=za6 e
 exact ⟨hi,fun x H3 ⟨e3,ex⟩=>.inl ⟨e3,by rw [ex]; exact .int _⟩⟩
def z5n (j:Int):Bool:=decide (-(2 ^ 62)≤j) && decide (j < 2 ^ 62)
def z1d (f:DE):DI:=fun δ=>(f δ).bind fun r δ1=>match r with
 | .pure (.int j)=>if z5n j then .ok (z0H 0 j.toNat) δ1 else .stuck
 | _=>.stuck
theorem z1z (hg:Gl X "range") (hm:X.mg "range" = none) (he:SE X c e fe) (hs:We [e] X.env=[(false,eval e X.env)]:=by rfl):SI X c tg (.Call (.Name "range" pp) [e] [] pos) (z1d fe) :=
 PI.weak (zbg hg hm (z1x he z32 hs) hs) fun σ H R ⟨δ,k,q⟩=>by
  unfold z1d at q
  rw [z06] at q
  refine ⟨δ,k,z03 q fun r δ1 q1 v H1 a1 r1=>?_⟩
  cases r with
  | own d=>exact q1.elim
  | pure d =>
   cases d <;> first | exact q1.elim | skip
   rename_i j
   cases r1
   simp only at q1
   split at q1
   ·rename_i hj
    unfold z5n at hj
    simp only [Wa,decide_eq_true_eq] at hj
    exact ⟨j,rfl,hj.1,hj.2,q1 _ H1 a1 (zdf 0 j.toNat)⟩
   ·exact q1.elim
def forL (g:DG) (b:DS):List D→DS
 | [],δ=>.ok .next δ
 | d :: r,δ=>match g (.pure d) δ with
  | none=>.stuck
  | some δ1=>(b δ1).bind fun fl δ2=>match fl with
   | .next=>forL g b r δ2
   | .cont=>forL g b r δ2
   | .brk=>.ok .next δ2
   | .ret v=>.ok (.ret v) δ2
def dFor (it:DI) (g:DG) (b:DS):DS:=fun δ=>(it δ).bind fun ds δ1=>forL g b ds δ1
theorem z9n (io:ItOk c σ δ H J ds) (a:Aft c σ δ H σ2 δ2 H2) (e:ds[i]? = some d) (y:J.yld i H2 x H3):Aft c σ2 δ2 H2 σ2 δ2 H3∧Rep H3 (Av c σ2 δ2) x d:=by
 obtain ⟨_,t⟩:=io H2 a.keep
 rcases (t i d e).2 x H3 y with ⟨e3,r⟩ | ⟨p,vs,es,hp,e3,ex,ed,r⟩
 ·subst e3
  exact ⟨.refl a.ok,Rep.aft r a⟩
 ·subst e3 ex ed
  have:=RepS.newT a.ok (Reps.aft r a) hp
  exact ⟨.alloc a.ok hp _,this⟩
theorem z2A {iter:Expr} {body:List Stmt} {it:DI} {g:DG} {b:DS} (hp:PassesOwn (model X.prog X.w) X.A X.env X.xe) (hc:X.calm=true) (hi:SI X c tg iter it) (hg:SG X c tg g) (hb:SSs X c body b)
  (hs:∀ x,JD iter X.env x=pure x:=by intro _; rfl):SS X c (.For tg iter body [] pos) (dFor it g b):=PS.weak (zg6 hp hc hi hg hb hs) fun D σ H ⟨δ,k,q⟩=>by
 unfold dFor z4G at q
 rw [z06] at q
 refine ⟨δ,k,z03 q fun ds δ1 q1 J H1 a1 io=>?_⟩
 refine ⟨fun i m σ2 H2=>∃ δ2,m=ds.length - i∧i≤ds.length∧Aft c σ δ1 H1 σ2 δ2 H2∧z4G c D σ2 δ2 H2 (forL g b (ds.drop i) δ2),⟨ds.length,δ1,by simp,Q2 _,.refl a1.ok,?_⟩,?_⟩
 ·rw [List.drop_zero]
  exact z03 q1 fun fl δ2 q2 σ2 H2 a2=>q2 σ2 H2 (a1.trans a2)
 ·rintro i m σ2 H2 ⟨δ2,rfl,hil,a2,p2⟩
  by_cases hlt:i < ds.length
  ·right
   have e:ds[i]? = some ds[i]:=by simp [hlt]
   rw [List.drop_eq_getElem_cons hlt] at p2
   refine ⟨((io H2 a2.keep).2 i _ e).1,fun σ4 H4=>∃ δ4,Aft c σ δ1 H1 σ4 δ4 H4∧z4G c D σ4 δ4 H4 (forL g b (ds.drop (i + 1)) δ4),fun σ4 H4 ⟨δ4,a4,p4⟩=>⟨ds.length - (i + 1),by omega,δ4,rfl,hlt,a4,p4⟩,fun x H3 y=>?_⟩
   obtain ⟨a3,r3⟩:=z9n io a2 e y
   simp only [forL,z4G] at p2
   cases eg:g (.pure ds[i]) δ2 with
   | none=>rw [eg] at p2; exact p2.elim
   | some δ3 =>
    rw [eg] at p2
    refine ⟨σ2,δ2,H3,δ2,.pure ds[i],δ3,.refl a3.ok,r3,eg,fun σ3 a3'=>?_⟩
    have p3:post c ((b δ3).bind fun fl δ2=>match fl with
     | .next=>forL g b (ds.drop (i + 1)) δ2
     | .cont=>forL g b (ds.drop (i + 1)) δ2
     | .brk=>.ok .next δ2
     | .ret v=>.ok (.ret v) δ2) fun fl δ'=>∀ σ' H',Aft c σ2 δ2 H2 σ' δ' H'→fin c D σ' δ' H' fl:=p2
    rw [z06] at p3
    have a23:Aft c σ2 δ2 H2 σ3 δ3 H3:=a3.trans a3'
    refine ⟨δ3,a3'.ok,z03 p3 fun fl δ4 p4 σ4 H4 a4=>?_⟩
    have a24:=a23.trans a4
    cases fl with
    | next=>exact ⟨δ4,a2.trans a24,z03 p4 fun fl δ5 p5 σ5 H5 a5=>p5 σ5 H5 (a24.trans a5)⟩
    | cont=>exact ⟨δ4,a2.trans a24,z03 p4 fun fl δ5 p5 σ5 H5 a5=>p5 σ5 H5 (a24.trans a5)⟩
    | brk=>exact p4 σ4 H4 a24
    | ret r=>exact p4 σ4 H4 a24
  ·left
   have hi2:i=ds.length:=by omega
   subst hi2
   rw [List.drop_length] at p2
   exact ⟨(io H2 a2.keep).1,p2 σ2 H2 (.refl a2.ok)⟩
end
def clrD (cs:List Nat) (δ:Dl):Dl:=cs.foldl (fun δ i=>δ.set i none) δ
def z1H (cs:List Nat) (δ₁ δ:Dl):Dl:=cs.foldl (fun δ i=>match δ₁[i]? with | some o=>δ.set i o | none=>δ) δ
def z14 (δ:Dl) (i:Nat):Bool:=match δ[i]? with
 | some (some (.own _))=>true
 | _=>false
theorem z9V (cs:List Nat):∀ δ:Dl,(clrD cs δ).length=δ.length:=by
 induction cs with
 | nil=>intro δ; rfl
 | cons i r ih =>
  intro δ
  show (clrD r (δ.set i none)).length=_
  rw [ih]; simp
theorem z1C:∀ (cs:List Nat) (δ:Dl) (i:Nat) (v:S),(clrD cs δ)[i]? = some (some v)→δ[i]? = some (some v)∧i ∉ cs:=by
 intro cs
 induction cs with
 | nil=>intro δ i v h; exact ⟨h,by simp⟩
 | cons j r ih =>
  intro δ i v h
  have h':(clrD r (δ.set j none))[i]? = some (some v):=h
  obtain ⟨h1,h2⟩:=ih _ i v h'
  by_cases e:j=i
  ·subst e
   rw [Qa] at h1
   simp at h1
  ·rw [W9 e] at h1
   exact ⟨h1,by simp only [Wn,not_or]; exact ⟨Ne.symm e,h2⟩⟩
theorem z3l:∀ (cs:List Nat) (σ:St) (i:Nat),i ∉ cs→(clr cs σ)[i]? = σ[i]?:=by
 intro cs
 induction cs with
 | nil=>intro σ i _; rfl
 | cons j r ih =>
  intro σ i h
  simp only [Wn,not_or] at h
  show (clr r (σ.set j none))[i]? = _
  rw [ih _ _ h.2,W9 (Ne.symm h.1)]
theorem zdw:∀ (cs:List Nat) (δ:Dl) (i:Nat),i ∉ cs→(clrD cs δ)[i]? = δ[i]?:=by
 intro cs
 induction cs with
 | nil=>intro σ i _; rfl
 | cons j r ih =>
  intro σ i h
  simp only [Wn,not_or] at h
  show (clrD r (σ.set j none))[i]? = _
  rw [ih _ _ h.2,W9 (Ne.symm h.1)]
theorem zcw (cs:List Nat) (δ₁:Dl):∀ δ:Dl,(z1H cs δ₁ δ).length=δ.length:=by
 induction cs with
 | nil=>intro δ; rfl
 | cons i r ih =>
  intro δ
  unfold z1H
  rw [Qn]
  have:=ih (match δ₁[i]? with | some o=>δ.set i o | none=>δ)
  unfold z1H at this
  rw [this]
  cases δ₁[i]? <;> simp
theorem z50:∀ (cs:List Nat) (δ₁ δ:Dl) (i:Nat),i ∉ cs→(z1H cs δ₁ δ)[i]? = δ[i]?:=by
 intro cs δ₁
 induction cs with
 | nil=>intro δ i _; rfl
 | cons j r ih =>
  intro δ i h
  simp only [Wn,not_or] at h
  unfold z1H
  rw [Qn]
  have:=ih (match δ₁[j]? with | some o=>δ.set j o | none=>δ) i h.2
  unfold z1H at this
  rw [this]
  cases δ₁[j]? with
  | none=>rfl
  | some o=>simp only; rw [W9 (Ne.symm h.1)]
theorem z7Q:∀ (cs:List Nat) (δ₁ δ:Dl) (i:Nat),δ₁.length=δ.length→i ∈ cs→(z1H cs δ₁ δ)[i]? = δ₁[i]?:=by
 intro cs δ₁
 induction cs with
 | nil=>intro δ i _ h; simp at h
 | cons j r ih =>
  intro δ i hl h
  unfold z1H
  rw [Qn]
  have hl2:δ₁.length=(match δ₁[j]? with | some o=>δ.set j o | none=>δ).length:=by cases δ₁[j]? <;> simp [hl]
  by_cases hr:i ∈ r
  ·have:=ih (match δ₁[j]? with | some o=>δ.set j o | none=>δ) i hl2 hr
   unfold z1H at this
   exact this
  ·have e:i=j:=by
    rcases Wn.mp h with e | e
    ·exact e
    ·exact absurd e hr
   subst e
   have:=z50 r δ₁ (match δ₁[i]? with | some o=>δ.set i o | none=>δ) i hr
   unfold z1H at this
   rw [this]
   cases e:δ₁[i]? with
   | none =>
    simp only
    have:=List.getElem?_eq_none_iff.mp e
    exact Qb (by omega)
   | some o =>
    simp only
    have:=(Wc.mp e).1
    rw [Wv (by omega)]
section
variable {c:Fc} {σ:St} {δ δ':Dl} {H H':Hp} {l:Addr} {cs:List Nat}
theorem Ok.less (k:Ok (c.plus l) σ δ H):Ok c σ δ H:=by
 have sub:∀ b,Av c σ δ b→Av (c.plus l) σ δ b:=fun b z=>z.elim (fun z=>.inl (.inl z)) .inr
 refine ⟨k.keep,fun a z=>k.bd a (.inl z),k.ith,k.len,fun i d e=>?_,fun i d e=>?_,k.inj,k.pinned⟩
 ·obtain ⟨v,h1,h2⟩:=k.slot i d e
  exact ⟨v,h1,h2.anti fun b z=>.inl (sub b z)⟩
 ·obtain ⟨a,h1,h2,h3,h4⟩:=k.own i d e
  exact ⟨a,h1,h2.anti fun b z=>.inl (sub b z),h3,fun z=>h4 (.inl z)⟩
theorem Ok.updB (k:Ok c σ δ H) (hb:c.B l) (h0:c.H₀ l=none) (o:HO):Ok c σ δ (upd H l o):=by
 have kp:∀ b w,H b=some w→¬ Av c σ δ b→upd H l o b=some w:=fun b w e n=>by
  rw [z0t (fun z=>n (by rw [z]; exact .inl hb))]; exact e
 have hup:∀ b w,H b=some w→∃ w',upd H l o b=some w':=fun b w h=>by
  by_cases hb:b=l
  ·exact ⟨_,by rw [hb]; exact z0M⟩
  ·exact ⟨w,by rw [z0t hb]; exact h⟩
 refine ⟨fun a w e n=>?_,fun a z=>?_,fun a z=>?_,k.len,fun i d e=>?_,fun i d e=>?_,k.inj,k.pinned⟩
 ·have:a≠l:=fun z=>by rw [z,h0] at e; cases e
  rw [z0t this]; exact k.keep a w e n
 ·obtain ⟨w,e⟩:=k.bd a z; exact hup a w e
 ·obtain ⟨w,e⟩:=k.ith a z; exact hup a w e
 ·obtain ⟨v,h1,h2⟩:=k.slot i d e
  exact ⟨v,h1,h2.keep kp⟩
 ·obtain ⟨a,h1,h2,h3,h4⟩:=k.own i d e
  have:a≠l:=fun z=>h4 (by rw [z]; exact hb)
  exact ⟨a,h1,h2.keep kp fun w q=>by rw [z0t this]; exact q,h3,h4⟩
theorem Own.clr (h:Own (clr cs σ) (clrD cs δ) l):Own σ δ l:=by
 obtain ⟨i,d,e1,e2⟩:=h
 exact ⟨i,d,(z1C cs δ i _ e1).1,(z3Q cs σ i _ e2).1⟩
theorem Ok.clr (k:Ok c σ δ H) (hp:∀ p ∈ c.pin,p.1 ∉ cs):Ok c (L2.clr cs σ) (clrD cs δ) H:=by
 have sub:∀ b,Av c (L2.clr cs σ) (clrD cs δ) b→Av c σ δ b:=fun b z=>z.elim .inl fun z=>.inr z.clr
 refine ⟨k.keep,k.bd,k.ith,by rw [z9V,z7N]; exact k.len,fun i d e=>?_,fun i d e=>?_,fun i j a d d' e1 e2 e3 e4=>?_,fun p hm=>?_⟩
 ·obtain ⟨e',hi⟩:=z1C cs δ i _ e
  obtain ⟨v,h1,h2⟩:=k.slot i d e'
  exact ⟨v,by rw [z3l cs σ i hi]; exact h1,h2.anti fun b z=>.inl (sub b z)⟩
 ·obtain ⟨e',hi⟩:=z1C cs δ i _ e
  obtain ⟨a,h1,h2,h3⟩:=k.own i d e'
  exact ⟨a,by rw [z3l cs σ i hi]; exact h1,h2.anti fun b z=>.inl (sub b z),h3⟩
 ·exact k.inj i j a d d' (z1C cs δ i _ e1).1 (z1C cs δ j _ e2).1 (z3Q cs σ i _ e3).1 (z3Q cs σ j _ e4).1
 ·rw [z3l cs σ _ (hp p hm)]; exact k.pinned p hm
theorem Aft.back (k:Ok c₀ σ δ H) (hpin:c.pin=c₀.pin) (hB:∀ b,c.B b→c₀.B b∨H b=none) (hno:cs.any (z14 δ)=false) (x:Aft c (L2.clr cs σ) (clrD cs δ) H (L2.clr cs σ) δ' H'):Aft c σ δ H σ (z1H cs δ δ') H':=by
 have len:δ.length=δ'.length:=by
  have:=x.ok.len
  rw [z7N] at this
  rw [this]; exact k.len
 have nown:∀ i d,i ∈ cs→δ[i]?≠some (some (.own d)):=fun i d hi e=>by
  have:=List.any_eq_false.mp hno i hi
  unfold z14 at this
  rw [e] at this
  simp at this
 have ownOut:∀ i d,(z1H cs δ δ')[i]? = some (some (.own d))→i ∉ cs∧δ'[i]? = some (some (.own d)):=fun i d e=>by
  by_cases hi:i ∈ cs
  ·rw [z7Q cs δ δ' i len hi] at e
   exact absurd e (nown i d hi)
  ·rw [z50 cs δ δ' i hi] at e
   exact ⟨hi,e⟩
 have sub:∀ b,Own σ (z1H cs δ δ') b→Own (L2.clr cs σ) δ' b:=fun b ⟨i,d,e1,e2⟩=>by
  obtain ⟨hi,e⟩:=ownOut i d e1
  exact ⟨i,d,e,by rw [z3l cs σ i hi]; exact e2⟩
 have subA:∀ b,Av c σ (z1H cs δ δ') b→Av c (L2.clr cs σ) δ' b:=fun b z=>z.elim .inl fun z=>.inr (sub b z)
 have ownEq:∀ b,Own σ δ b→Own (L2.clr cs σ) (clrD cs δ) b:=fun b ⟨i,d,e1,e2⟩=>by
  have hi:i ∉ cs:=fun z=>nown i d z e1
  exact ⟨i,d,by rw [zdw cs δ i hi]; exact e1,by rw [z3l cs σ i hi]; exact e2⟩
 refine ⟨⟨x.ok.keep,x.ok.bd,x.ok.ith,by rw [zcw,← len]; exact k.len,fun i d e=>?_,fun i d e=>?_,fun i j a d d' e1 e2 e3 e4=>?_,by rw [hpin]; exact k.pinned⟩,fun a o e n=>?_,fun a z=>?_,x.there⟩
 ·by_cases hi:i ∈ cs
  ·rw [z7Q cs δ δ' i len hi] at e
   obtain ⟨v,h1,h2⟩:=k.slot i d e
   have h3:Rep H (Av c (L2.clr cs σ) (clrD cs δ)) v d:=h2.anti fun b z=>by
    rcases z with z | z
    ·exact (hB b z).elim (fun z=>.inl (.inl z)) .inr
    ·exact .inl (.inr z.clr)
   exact ⟨v,h1,(Rep.aft h3 x).anti fun b z=>.inl (subA b z)⟩
  ·rw [z50 cs δ δ' i hi] at e
   obtain ⟨v,h1,h2⟩:=x.ok.slot i d e
   exact ⟨v,(z3Q cs σ i v h1).1,h2.anti fun b z=>.inl (subA b z)⟩
 ·obtain ⟨hi,e'⟩:=ownOut i d e
  obtain ⟨a,h1,h2,h3⟩:=x.ok.own i d e'
  exact ⟨a,(z3Q cs σ i _ h1).1,h2.anti fun b z=>.inl (subA b z),h3⟩
 ·obtain ⟨hi,f1⟩:=ownOut i d e1
  obtain ⟨hj,f2⟩:=ownOut j d' e2
  exact x.ok.inj i j a d d' f1 f2 (by rw [z3l cs σ i hi]; exact e3) (by rw [z3l cs σ j hj]; exact e4)
 ·exact x.keep a o e fun z=>n z.clr
 ·rcases x.own a (sub a z) with q | q
  ·exact .inl q.clr
  ·exact .inr q
end
def z28 (cs:List Nat) (g:DG) (t:DT) (el:DE):List D→Dl→List D→Rs (List D)
 | [],δ,acc=>.ok acc δ
 | d :: r,δ,acc=>match g (.pure d) δ with
  | none=>.stuck
  | some δ1=>(t δ1).bind fun b δ2=>if b then (el δ2).bind fun x δ3=>if acc.length < W6 then z28 cs g t el r (clrD cs δ3) (acc ++ [x.d]) else .stuck
   else z28 cs g t el r (clrD cs δ2) acc
def z1G (cs:List Nat) (it:DI) (g:DG) (t:DT) (el:DE):DE:=fun δ=>(it δ).bind fun ds δ1=>if cs.any (z14 δ1) then .stuck else
 (z28 cs g t el ds (clrD cs δ1) []).bind fun acc δ2=>.ok (.own (.lst acc)) (z1H cs δ1 δ2)
def dYes:DT:=fun δ=>.ok true δ
abbrev STs (X:Cx) (c:Fc) (ifs:List Expr) (t:DT):Prop:=PTs X ifs (tT c t)
theorem z1M {X:Cx} {c:Fc}:STs X c [] dYes:=fun pins s σ H Q I ⟨δ,k,q⟩=>zeo pins s σ H Q I (q H (.refl k))
section
variable {X:Cx} {c:Fc} {cs:List Nat} {tg iter elt:Expr} {ifs:List Expr} {scope:Scope} {pos:Pos} {it:DI} {g:DG} {t:DT} {el:DE}
theorem Aft.clear (x:Aft c (L2.clr cs σ) δ H σ4 δ4 H4) (le:Le (L2.clr cs σ) σ4) (hp:∀ p ∈ c.pin,p.1 ∉ cs) (hs:∀ (i:Nat) v,σ4[i]? = some (some v)→i ∉ cs→σ[i]? = some (some v)):Aft c (L2.clr cs σ) δ H (L2.clr cs σ) (clrD cs δ4) H4:=by
 have eq:∀ i,i ∉ cs→∀ v,σ4[i]? = some (some v)→(L2.clr cs σ)[i]? = some (some v):=fun i hi v e=>by rw [z3l cs σ i hi]; exact hs i v e hi
 have own:∀ b,Own (L2.clr cs σ) (clrD cs δ4) b→Own σ4 δ4 b:=fun b ⟨i,d,e1,e2⟩=>by
  exact ⟨i,d,(z1C cs δ4 i _ e1).1,le.2 i _ e2⟩
 have sub:∀ b,Av c (L2.clr cs σ) (clrD cs δ4) b→Av c σ4 δ4 b:=fun b z=>z.elim .inl fun z=>.inr (own b z)
 have k:=x.ok
 refine ⟨⟨k.keep,k.bd,k.ith,by rw [z9V,k.len]; exact le.1,fun i d e=>?_,fun i d e=>?_,fun i j a d d' e1 e2 e3 e4=>?_,fun p hm=>?_⟩,x.keep,fun a z=>x.own a (own a z),x.there⟩
 ·obtain ⟨e',hi⟩:=z1C cs δ4 i _ e
  obtain ⟨v,h1,h2⟩:=k.slot i d e'
  exact ⟨v,eq i hi v h1,h2.anti fun b z=>.inl (sub b z)⟩
 ·obtain ⟨e',hi⟩:=z1C cs δ4 i _ e
  obtain ⟨a,h1,h2,h3⟩:=k.own i d e'
  exact ⟨a,eq i hi _ h1,h2.anti fun b z=>.inl (sub b z),h3⟩
 ·exact k.inj i j a d d' (z1C cs δ4 i _ e1).1 (z1C cs δ4 j _ e2).1 (le.2 i _ e3) (le.2 j _ e4)
 ·exact eq p.1 (hp p hm) _ (k.pinned p hm)
def Out (cs:List Nat) (σ σ':St):Prop:=σ'.length=σ.length∧∀ i,i ∉ cs→σ'[i]? = σ[i]?
theorem Out.trans (a:Out cs σ σ') (b:Out cs σ' σ''):Out cs σ σ'':=⟨b.1.trans a.1,fun i h=>(b.2 i h).trans (a.2 i h)⟩
def tGC (cs:List Nat) (c:Fc) (g:DG):TG:=fun v σ H Q=>∃ σ₀ δ₀ H₁ δ r δ',Aft c σ₀ δ₀ H₁ σ δ H∧RepS c σ δ H₁ H v r∧g r δ=some δ'∧∀ σ',Aft c σ₀ δ₀ H₁ σ' δ' H→Out cs σ σ'→Q σ' H
abbrev SGC (X:Cx) (c:Fc) (cs:List Nat) (tg:Expr) (g:DG):Prop:=PG X tg (tGC cs c g)
theorem z17 {np:List Nat} {i:Nat} {x:Str} (hp:Np c np) (hN:X.N.Nodup) (hi:X.N[i]? = some x) (hx:Loc X.env.scope x) (hf:X.fn x=true∨X.env.scope.names.lookup x=some .local) (hc:i ∈ cs):SGC X c cs (.Name x pos) (gNm np i) :=
 PG.weak (zbi hN hi hx hf) fun v σ H Q ⟨σ₀,δ₀,H₁,δ,r,δ',x,rr,e,q⟩=>by
  unfold gNm at e
  split at e
  ·cases e
  ·rename_i hn
   cases e
   refine q _ (Ok.set x rr fun p hm e=>hn (by rw [← e]; exact hp p hm)) ⟨by simp,fun j hj=>?_⟩
   rw [W9 (fun z=>hj (by rw [← z]; exact hc))]
def tGCs (cs:List Nat) (c:Fc) (g:DGs):TGs:=fun vs σ H Q=>∃ δ ds δ',Ok c σ δ H∧Reps H (Av c σ δ) vs ds∧g ds δ=some δ'∧∀ σ',Aft c σ δ H σ' δ' H→Out cs σ σ'→Q σ' H
abbrev SGCs (X:Cx) (c:Fc) (cs:List Nat) (tg:List Expr) (g:DGs):Prop:=PGs X tg (tGCs cs c g)
theorem z5F:SGCs X c cs [] z10:=PGs.weak zbh fun vs σ H Q ⟨δ,ds,δ',k,r,e,q⟩=>by
 cases ds with
 | nil =>
  cases e
  have:vs=[]:=by have:=r.1; simpa using this
  exact ⟨this,q σ (.refl k) ⟨rfl,fun _ _=>rfl⟩⟩
 | cons d r=>cases e
theorem z23 {e:Expr} {es:List Expr} {g:DG} {gs:DGs} (h1:SGC X c cs e g) (h2:SGCs X c cs es gs) (hs:(Qh (e :: es) X.env).map (·.2)=assign e X.env :: (Qh es X.env).map (·.2):=by rfl):SGCs X c cs (e :: es) (z0d g gs) :=
 PGs.weak (z9E h1 h2 hs) fun vs σ H Q ⟨δ,ds,δ',k,r,e,q⟩=>by
  cases ds with
  | nil=>cases e
  | cons d ds =>
   cases vs with
   | nil=>have:=r.1; simp at this
   | cons v vs =>
    simp only [z0d] at e
    cases e1:g (.pure d) δ with
    | none=>rw [e1] at e; cases e
    | some δ1 =>
     rw [e1] at e
     refine ⟨v,vs,rfl,σ,δ,H,δ,.pure d,δ1,.refl k,r.head,e1,fun σ1 a1 o1=>?_⟩
     exact ⟨δ1,ds,δ',a1.ok,Reps.aft r.tail a1,e,fun σ2 a2 o2=>q σ2 (a1.trans a2) (o1.trans o2)⟩
theorem z7e {es:List Expr} {k:Nat} {gs:DGs} {n:Nat} (hc:X.calm=true) (h:SGCs X c cs es gs) (hn:(Qh es X.env).length=n:=by rfl) (hst:(Qh es X.env).findIdx? (·.1)=none:=by rfl) :
  SGC X c cs (.Tuple es k pos) (gTp n gs):=PG.weak (zdJ hc h hn hst) fun v σ H Q hw=>by
 obtain ⟨σ₀,δ₀,H₁,δ,r,δ',x,rr,e,q⟩:=hw
 have hb:=rr.b
 unfold gTp at e
 generalize r.d=d at e hb
 cases d <;> first | (cases e; done) | skip
 rename_i ds
 simp only at e
 split at e
 ·rename_i hl
  obtain ⟨a,vs,ea,ha,ra⟩:=hb.tup
  exact ⟨a,vs,ea,.of ha,by rw [ra.1]; exact hl,δ,ds,δ',x.ok,ra,e,fun σ' a1 o1=>q σ' (x.trans a1) o1⟩
 ·cases e
theorem Aft.less (x:Aft (c.plus l) σ δ H σ' δ' H'):Aft c σ δ H σ' δ' H':=⟨x.ok.less,x.keep,x.own,x.there⟩
theorem zci (hwi:∀ σ H R,tI c it σ H R→wi σ H R) (hg:∀ l v σ H Q,tGC cs (c.plus l) g v σ H Q→gt v σ H Q) (ht:∀ l σ H Q,tT (c.plus l) t σ H Q→tt σ H Q) (he:∀ l σ H Q,tD (c.plus l) el σ H Q→te σ H Q)
  (hp:∀ p ∈ c.pin,p.1 ∉ cs) (h:tD c (z1G cs it g t el) σ H Q):zfw cs wi gt tt te σ H Q:=by
 obtain ⟨δ,k,q⟩:=h
 unfold z1G at q
 rw [z06] at q
 refine hwi _ _ _ ⟨δ,k,z03 q fun ds δ1 q1 J H1 a1 io=>?_⟩
 intro l hl
 split at q1
 ·exact q1.elim
 ·rename_i hno
  have hno':cs.any (z14 δ1)=false:=by simpa using hno
  rw [z06] at q1
  have k1:=a1.ok
  have kp:=k1.plus hl (.lst [])
  have k0:Ok (c.plus l) (L2.clr cs σ) (clrD cs δ1) (upd H1 l (.lst [])):=kp.clr hp
  have up:∀ a w,H1 a=some w→upd H1 l (.lst []) a=some w:=fun a w e=>by
   rw [z0t (z0P e hl)]; exact e
  have h0:c.H₀ l=none:=k1.fresh₀ hl
  -- the walked things,as the block sees them
  have io':ItOk (c.plus l) (L2.clr cs σ) (clrD cs δ1) H1 J ds:=by
   intro H2 kp2
   obtain ⟨s1,s2⟩:=io H2 fun a o e n=>kp2 a o e fun z=>n z.clr
   have cv:∀ {x:V} {d:D},Rep H1 (Av c σ δ1) x d→Rep H1 (Av (c.plus l) (L2.clr cs σ) (clrD cs δ1)) x d:=fun {x d} r =>
    r.anti fun b z=>by
     rcases z with (z | z) | z
     ·exact .inl (.inl z)
     ·exact .inr (by rw [z]; exact hl)
     ·exact .inl (.inr z.clr)
   refine ⟨s1,fun i d e=>⟨(s2 i d e).1,fun x H3 y=>?_⟩⟩
   rcases (s2 i d e).2 x H3 y with ⟨e3,r⟩ | ⟨p,vs,es,hp,e3,ex,ed,r⟩
   ·exact .inl ⟨e3,cv r⟩
   ·exact .inr ⟨p,vs,es,hp,e3,ex,ed,r.1,fun i v d e1 e2=>cv (r.2 i v d e1 e2)⟩
  let Fin:List D→Dl→Prop:=fun acc δ'=>∀ H' vs,Aft (c.plus l) (L2.clr cs σ) (clrD cs δ1) H1 (L2.clr cs σ) δ' H'→H' l=some (.lst vs)→Reps H' (Av (c.plus l) (L2.clr cs σ) δ') vs acc→Q (.ref l) H'
  have q2:post c (z28 cs g t el ds (clrD cs δ1) []) Fin:=z03 q1 fun acc δ2 q2 H' vs x hv r=>by
   have b1:Aft (c.plus l) σ δ1 H1 σ (z1H cs δ1 δ2) H':=Aft.back k1 rfl (fun b z=>z.elim .inl fun z=>.inr (by rw [z]; exact hl)) hno' x
   have b2:Aft c σ δ1 H1 σ (z1H cs δ1 δ2) H':=b1.less
   have len:δ1.length=δ2.length:=by
    have:=x.ok.len
    rw [z7N] at this
    rw [this]; exact k1.len
   have hlH:H l=none:=by
    cases e:H l with
    | none=>rfl
    | some o =>
     obtain ⟨o',e'⟩:=a1.there l o e
     rw [hl] at e'; cases e'
   refine q2 _ H' (a1.trans b2) ⟨l,rfl,⟨vs,hv,Reps.anti r fun b z=>.inl ?_⟩,fun z=>k1.nav hl (.inl z),h0,b1.ok,hlH⟩
   rcases z with z | ⟨i,d,e1,e2⟩
   ·exact .inl z
   ·have hi:i ∉ cs:=fun hi=>by
     rw [z7Q cs δ1 δ2 i len hi] at e1
     have:=List.any_eq_false.mp hno' i hi
     unfold z14 at this
     rw [e1] at this
     simp at this
    rw [z50 cs δ1 δ2 i hi] at e1
    exact .inr ⟨i,d,e1,by rw [z3l cs σ i hi]; exact e2⟩
  refine ⟨fun i m H2=>∃ δ2 acc vs,m=ds.length - i∧i≤ds.length∧Aft (c.plus l) (L2.clr cs σ) (clrD cs δ1) H1 (L2.clr cs σ) δ2 H2∧H2 l=some (.lst vs)∧Reps H2 (Av (c.plus l) (L2.clr cs σ) δ2) vs acc ∧
   post c (z28 cs g t el (ds.drop i) δ2 acc) Fin,⟨ds.length,clrD cs δ1,[],[],by simp,Q2 _,⟨k0,fun a w e _=>up a w e,fun a z=>.inl z,fun a w e=>⟨w,up a w e⟩⟩,z0M,.nil,by rw [List.drop_zero]; exact q2⟩,?_⟩
  rintro i m H2 ⟨δ2,acc,vs,rfl,hil,a2,hv,rv,p2⟩
  by_cases hlt:i < ds.length
  ·right
   have e:ds[i]? = some ds[i]:=by simp [hlt]
   rw [List.drop_eq_getElem_cons hlt] at p2
   refine ⟨((io' H2 a2.keep).2 i _ e).1,fun x H3 y=>hg l _ _ _ _ ?_⟩
   obtain ⟨a3,r3⟩:=z9n io' a2 e y
   simp only [z28] at p2
   cases eg:g (.pure ds[i]) δ2 with
   | none=>rw [eg] at p2; exact p2.elim
   | some δ3 =>
    rw [eg] at p2
    have p3:post c ((t δ3).bind fun b δ2=>if b then (el δ2).bind fun x δ3=>if acc.length < W6 then z28 cs g t el (ds.drop (i + 1)) (clrD cs δ3) (acc ++ [x.d]) else .stuck
     else z28 cs g t el (ds.drop (i + 1)) (clrD cs δ2) acc) Fin:=p2
    refine ⟨L2.clr cs σ,δ2,H3,δ2,.pure ds[i],δ3,.refl a3.ok,r3,eg,fun σ4 a4 o4=>?_⟩
    have le:Le (L2.clr cs σ) σ4:=⟨o4.1,fun j v ej=>by
     rw [o4.2 j (z3Q cs σ j v ej).2]; exact ej⟩
    have hs:∀ (j:Nat) v,σ4[j]? = some (some v)→j ∉ cs→σ[j]? = some (some v):=fun j v ej hj=>by
     rw [o4.2 j hj] at ej
     exact (z3Q cs σ j v ej).1
    refine ⟨le,ht l _ _ _ ⟨δ3,a4.ok,?_⟩⟩
    rw [z06] at p3
    have pinp:∀ p ∈ (c.plus l).pin,p.1 ∉ cs:=hp
    have a24:=a2.trans (a3.trans a4)
    have ln:∀ {σ':St} {δ':Dl} {H':Hp},Ok (c.plus l) σ' δ' H'→¬ Own σ' δ' l:=fun {σ' δ' H'} k=>z4K k
    have p3':post (c.plus l) (t δ3) fun b δ5=>post c (if b then (el δ5).bind fun x δ3=>if acc.length < W6 then z28 cs g t el (ds.drop (i + 1)) (clrD cs δ3) (acc ++ [x.d]) else .stuck
     else z28 cs g t el (ds.drop (i + 1)) (clrD cs δ5) acc) Fin:=p3
    refine z03 p3' fun b δ5 p5 H5 a5=>?_
    have a25:=a24.trans a5
    have hv3:H3 l=some (.lst vs):=a3.keep l _ hv (ln a2.ok)
    have hv5:H5 l=some (.lst vs):=a5.keep l _ hv3 (ln a4.ok)
    have rv3:=Reps.aft (Reps.aft (Reps.aft rv a3) a4) a5
    cases b with
    | false =>
     have c5:=a25.clear le pinp hs
     refine ⟨ds.length - (i + 1),by omega,clrD cs δ5,acc,vs,rfl,hlt,c5,hv5,Reps.anti rv3 fun b z=>.inl ?_,p5⟩
     exact z.elim .inl fun ⟨j,d,e1,e2⟩=>.inr ⟨j,d,(z1C cs δ5 j _ e1).1,le.2 j _ e2⟩
    | true =>
     have p5':post c ((el δ5).bind fun x δ3=>if acc.length < W6 then z28 cs g t el (ds.drop (i + 1)) (clrD cs δ3) (acc ++ [x.d]) else .stuck) Fin:=p5
     rw [z06] at p5'
     refine he l _ _ _ ⟨δ5,a5.ok,?_⟩
     have p6:post (c.plus l) (el δ5) fun x δ6=>post c (if acc.length < W6 then z28 cs g t el (ds.drop (i + 1)) (clrD cs δ6) (acc ++ [x.d]) else .stuck) Fin:=p5'
     refine z03 p6 fun x δ6 p7 v H6 a6 r6=>?_
     split at p7
     ·rename_i hz
      have a26:=a25.trans a6
      have hv6:H6 l=some (.lst vs):=a6.keep l _ hv5 (ln a5.ok)
      have rv6:=Reps.aft rv3 a6
      have rr:Reps H6 (Av (c.plus l) σ4 δ6) (vs ++ [v]) (acc ++ [x.d]):=rv6.append (.cons r6.rep .nil)
      have c6:=a26.clear le pinp hs
      have kpl:∀ b o,H6 b=some o→¬ Av (c.plus l) σ4 δ6 b→upd H6 l (.lst (vs ++ [v])) b=some o:=fun b o e n=>by
       rw [z0t (fun z=>n (by rw [z]; exact .inl (.inr rfl)))]; exact e
      have sub6:∀ b,Av (c.plus l) (L2.clr cs σ) (clrD cs δ6) b→Av (c.plus l) σ4 δ6 b:=fun b z=>z.elim .inl fun ⟨j,d,e1,e2⟩=>.inr ⟨j,d,(z1C cs δ6 j _ e1).1,le.2 j _ e2⟩
      refine ⟨vs,ds.length - (i + 1),hv6,by rw [rv6.1]; exact hz,by omega,clrD cs δ6,acc ++ [x.d],vs ++ [v],rfl,hlt,?_,z0M,Reps.anti (Reps.keep rr kpl) fun b z=>.inl (sub6 b z),p7⟩
      -- the list that is built has grown
      refine ⟨c6.ok.updB (.inr rfl) h0 _,fun a o ea n=>?_,fun a z=>c6.own a z,fun a o ea=>?_⟩
      ·have hal:a≠l:=fun z=>by rw [z,hl] at ea; cases ea
       rw [z0t hal]; exact c6.keep a o ea n
      ·by_cases hal:a=l
       ·exact ⟨_,by rw [hal]; exact z0M⟩
       ·obtain ⟨o',e'⟩:=c6.there a o ea
        exact ⟨o',by rw [z0t hal]; exact e'⟩
     ·exact p7.elim
  ·left
   have hi2:i=ds.length:=by omega
   subst hi2
   rw [List.drop_length] at p2
   exact ⟨(io' H2 a2.keep).1,p2 H2 vs a2 hv rv⟩
theorem z1O (hc:X.calm=true) (S:CScope X scope cs) (hi:SI X c tg iter it) (hg:∀ l s₀ H₀ ex,SGC (z36 X scope s₀ H₀ ex) (c.plus l) cs tg g) (ht:∀ l s₀ H₀ ex,STs (z36 X scope s₀ H₀ ex) (c.plus l) ifs t)
  (he:∀ l s₀ H₀ ex,SE (z36 X scope s₀ H₀ ex) (c.plus l) elt el) (hp:∀ p ∈ c.pin,p.1 ∉ cs) (hs:∀ x,JD iter X.env x=pure x:=by intro _; rfl) :
  SE X c (.ListComp elt [⟨tg,iter,ifs,0⟩] scope pos) (z1G cs it g t el) :=
 PE.weak (zez (g:=fun v σ H Q=>∃ l,tGC cs (c.plus l) g v σ H Q) (tt:=fun σ H Q=>∃ l,tT (c.plus l) t σ H Q) (te:=fun σ H Q=>∃ l,tD (c.plus l) el σ H Q) hc S hi
  (fun s₀ H₀ ex pins s σ H v u Q I r ⟨l,q⟩=>hg l s₀ H₀ ex pins s σ H v u Q I r q) (fun s₀ H₀ ex pins s σ H Q I ⟨l,q⟩=>ht l s₀ H₀ ex pins s σ H Q I q) (fun s₀ H₀ ex pins s σ H Q I ⟨l,q⟩=>he l s₀ H₀ ex pins s σ H Q I q) hs)
  fun σ H Q h=>zci (fun _ _ _ h=>h) (fun l _ _ _ _ h=>⟨l,h⟩) (fun l _ _ _ h=>⟨l,h⟩) (fun l _ _ _ h=>⟨l,h⟩) hp h
end
abbrev DF:=List S→Option (S×List S)
def z1n:Nat→List S→List V→List (Nat×Addr)
 | n,.own _ :: ss,.ref a :: vs=>(n,a) :: z1n (n + 1) ss vs
 | n,_ :: ss,_ :: vs=>z1n (n + 1) ss vs
 | _,_,_=>[]
theorem z34:∀ {n:Nat} {ss:List S} {vs:List V} {i:Nat} {a:Addr},(i,a) ∈ z1n n ss vs→∃ j d,i=n + j∧ss[j]? = some (.own d)∧vs[j]? = some (.ref a)
 | n,[],vs,i,a,h=>by simp [z1n] at h
 | n,s :: ss,[],i,a,h=>by cases s <;> simp [z1n] at h
 | n,s :: ss,v :: vs,i,a,h=>by
  have rec':(i,a) ∈ z1n (n + 1) ss vs→∃ j d,i=n + j∧(s :: ss)[j]? = some (.own d)∧(v :: vs)[j]? = some (.ref a):=fun h=>by
   obtain ⟨j,d,e,h1,h2⟩:=z34 h
   exact ⟨j + 1,d,by omega,by simpa using h1,by simpa using h2⟩
  cases s with
  | pure d=>exact rec' h
  | own d =>
   cases v with
   | ref b =>
    rcases Wn.mp h with e | h
    ·cases e
     exact ⟨0,d,rfl,rfl,rfl⟩
    ·exact rec' h
   | _=>exact rec' h
theorem z4O:∀ {n:Nat} {ss:List S} {vs:List V} {j:Nat} {d:D} {a:Addr},ss[j]? = some (.own d)→vs[j]? = some (.ref a)→(n + j,a) ∈ z1n n ss vs
 | n,[],vs,j,d,a,h,_=>by simp at h
 | n,s :: ss,[],j,d,a,_,h=>by simp at h
 | n,s :: ss,v :: vs,0,d,a,h1,h2=>by
  simp at h1 h2
  subst h1 h2
  exact Wm
 | n,s :: ss,v :: vs,j + 1,d,a,h1,h2=>by
  have ih:=z4O (n:=n + 1) (ss:=ss) (vs:=vs) (j:=j) (d:=d) (a:=a) (by simpa using h1) (by simpa using h2)
  have e:n + 1 + j=n + (j + 1):=by omega
  rw [e] at ih
  cases s with
  | pure d=>exact ih
  | own d =>
   cases v with
   | ref b=>exact Wi _ ih
   | _=>exact ih
abbrev z1L (vs:List V):St:=vs.map some
abbrev z1K (ss:List S):Dl:=ss.map some
theorem someS_get {ss:List S} {i:Nat} {r:S}:(z1K ss)[i]? = some (some r) ↔ ss[i]? = some r:=by
 rw [Q0]
 cases ss[i]? <;> simp
theorem some'_get {vs:List V} {i:Nat} {v:V}:(z1L vs)[i]? = some (some v) ↔ vs[i]? = some v:=by
 rw [Q0]
 cases vs[i]? <;> simp
def spD (n:Nat) (G:DF):Sp:=fun vs H Q _=>∃ ss B,vs.length=n∧Ok ⟨H,B,z1n 0 ss vs,fun _ _=>False⟩ (z1L vs) (z1K ss) H∧∃ r outs,G ss=some (r,outs) ∧
 ∀ v H',Aft ⟨H,B,z1n 0 ss vs,fun _ _=>False⟩ (z1L vs) (z1K ss) H (z1L vs) (z1K outs) H'→RepS ⟨H,B,z1n 0 ss vs,fun _ _=>False⟩ (z1L vs) (z1K outs) H H' v r→Q v H'
def KFn (P:Wl) (w:Wq) (K:W1) (mg:Str→Option Value) (base:Heap) (k:Nat) (x:Str) (n:Nat) (G:DF):Prop :=
 ∃ (f:Addr) (fd:Q7) (ps:List Str),mg x=some (.ref f)∧QY K (.ref f)=true∧Binds K fd ps []∧FnOk P w K mg base CX0 k f fd ps (spD n G)
def z0g (n:Nat) (ss:List S):Dl:=z1K ss ++ Wd (n - ss.length) none
def z0h:Nat→List S→Dl→Option (List S)
 | _,[],_=>some []
 | n,.pure d :: ss,δ=>(z0h (n + 1) ss δ).map (.pure d :: ·)
 | n,.own _ :: ss,δ=>match δ[n]? with
  | some (some (.own d'))=>(z0h (n + 1) ss δ).map (.own d' :: ·)
  | _=>none
def z0F:Fl→Option S
 | .next=>some (.pure .non)
 | .ret r=>some r
 | _=>none
def runD (f:DS) (n:Nat) (ss:List S):Option (S×List S):=match f (z0g n ss) with
 | .ok fl δ=>(z0F fl).bind fun r=>(z0h 0 ss δ).map fun outs=>(r,outs)
 | _=>none
def ioOk (np:List Nat):Nat→List S→Bool
 | _,[]=>true
 | n,.own _ :: ss=>np.contains n && ioOk np (n + 1) ss
 | n,.pure _ :: ss=>ioOk np (n + 1) ss
theorem zbM:∀ {n:Nat} {ss:List S} {j:Nat} {d:D},ioOk np n ss=true→ss[j]? = some (.own d)→np.contains (n + j)=true
 | n,[],j,d,_,h=>by simp at h
 | n,s :: ss,0,d,h,e=>by
  simp at e
  subst e
  simp only [ioOk,Wa] at h
  exact h.1
 | n,s :: ss,j + 1,d,h,e=>by
  have h':ioOk np (n + 1) ss=true:=by
   cases s with
   | pure d=>exact h
   | own d=>simp only [ioOk,Wa] at h; exact h.2
  have:=zbM (n:=n + 1) (j:=j) h' (by simpa using e)
  rw [show n + (j + 1)=n + 1 + j by omega]
  exact this
theorem z7s:∀ {n:Nat} {ss outs:List S} {δ:Dl},z0h n ss δ=some outs→outs.length=ss.length∧∀ (i:Nat) s,ss[i]? = some s→(∃ d,s = .pure d∧outs[i]? = some (.pure d))∨∃ d d',s = .own d∧δ[n + i]? = some (some (.own d'))∧outs[i]? = some (.own d')
 | n,[],outs,δ,h=>by
  simp only [z0h,W7] at h
  subst h
  exact ⟨rfl,fun i s e=>by simp at e⟩
 | n,.pure d :: ss,outs,δ,h=>by
  simp only [z0h] at h
  cases e:z0h (n + 1) ss δ with
  | none=>rw [e] at h; cases h
  | some os =>
   rw [e] at h
   simp only [WK,W7] at h
   subst h
   obtain ⟨h1,h2⟩:=z7s e
   refine ⟨by simp [h1],fun i s es=>?_⟩
   cases i with
   | zero=>simp at es; subst es; exact .inl ⟨d,rfl,rfl⟩
   | succ i =>
    rcases h2 i s (by simpa using es) with ⟨d,z1,z2⟩ | ⟨d,d',z1,z2,z3⟩
    ·exact .inl ⟨d,z1,by simpa using z2⟩
    ·exact .inr ⟨d,d',z1,by rw [show n + (i + 1)=n + 1 + i by omega]; exact z2,by simpa using z3⟩
 | n,.own d :: ss,outs,δ,h=>by
  simp only [z0h] at h
  split at h
  ·rename_i d' ed
   cases e:z0h (n + 1) ss δ with
   | none=>rw [e] at h; cases h
   | some os =>
    rw [e] at h
    simp only [WK,W7] at h
    subst h
    obtain ⟨h1,h2⟩:=z7s e
    refine ⟨by simp [h1],fun i s es=>?_⟩
    cases i with
    | zero=>simp at es; subst es; exact .inr ⟨d,d',rfl,ed,rfl⟩
    | succ i =>
     rcases h2 i s (by simpa using es) with ⟨d,z1,z2⟩ | ⟨d,d',z1,z2,z3⟩
     ·exact .inl ⟨d,z1,by simpa using z2⟩
     ·exact .inr ⟨d,d',z1,by rw [show n + (i + 1)=n + 1 + i by omega]; exact z2,by simpa using z3⟩
  ·cases h
section
variable {c:Fc} {H H':Hp} {vs:List V} {ss outs:List S} {σ':St} {δ':Dl}
theorem z3E {α:Type} {l:List (Option α)} {k i:Nat} {v:α} (h:(l ++ Wd k none)[i]? = some (some v)):l[i]? = some (some v):=by
 by_cases hi:i < l.length
 ·rw [List.getElem?_append_left hi] at h; exact h
 ·rw [List.getElem?_append_right (by omega),List.getElem?_replicate] at h
  split at h <;> cases h
theorem z3g {α:Type} {l:List (Option α)} {k i:Nat} {v:α} (h:l[i]? = some (some v)):(l ++ Wd k none)[i]? = some (some v):=by
 have hi:i < l.length:=(Wc.mp h).1
 rw [List.getElem?_append_left hi]; exact h
theorem Own.ext {σ:St} {δ:Dl} {k:Nat} {a:Addr}:Own (σ ++ Wd k none) (δ ++ Wd k none) a ↔ Own σ δ a :=
 ⟨fun ⟨i,d,e1,e2⟩=>⟨i,d,z3E e1,z3E e2⟩,fun ⟨i,d,e1,e2⟩=>⟨i,d,z3g e1,z3g e2⟩⟩
theorem Ok.ext {σ:St} {δ:Dl} (k:Ok c σ δ H) (n:Nat):Ok c (σ ++ Wd n none) (δ ++ Wd n none) H:=by
 have sub:∀ b,Av c (σ ++ Wd n none) (δ ++ Wd n none) b→Av c σ δ b:=fun b z=>z.elim .inl fun z=>.inr (Own.ext.mp z)
 refine ⟨k.keep,k.bd,k.ith,by simp [k.len],fun i d e=>?_,fun i d e=>?_,fun i j a d d' e1 e2 e3 e4=>k.inj i j a d d' (z3E e1) (z3E e2) (z3E e3) (z3E e4),fun p hm=>z3g (k.pinned p hm)⟩
 ·obtain ⟨v,h1,h2⟩:=k.slot i d (z3E e)
  exact ⟨v,z3g h1,h2.anti fun b z=>.inl (sub b z)⟩
 ·obtain ⟨a,h1,h2,h3⟩:=k.own i d (z3E e)
  exact ⟨a,z3g h1,h2.anti fun b z=>.inl (sub b z),h3⟩
theorem zgB {B:Addr→Prop} {n:Nat} (hc:c = ⟨H,B,z1n 0 ss vs,fun _ _=>False⟩) (k:Ok c (z1L vs) (z1K ss) H) (x:Aft c (z1L vs ++ Wd n none) (z1K ss ++ Wd n none) H σ' δ' H') (ho:z0h 0 ss δ'=some outs) :
  Aft c (z1L vs) (z1K ss) H (z1L vs) (z1K outs) H'∧∀ v r,RepS c σ' δ' H H' v r→RepS c (z1L vs) (z1K outs) H H' v r:=by
 obtain ⟨hlen,hat⟩:=z7s ho
 have hvs:ss.length=vs.length:=by have:=k.len; simpa using this
 have pin:∀ (i:Nat) (a:Addr) (d:D),ss[i]? = some (.own d)→vs[i]? = some (.ref a)→σ'[i]? = some (some (.ref a)):=fun i a d h1 h2=>by
  have:=z4O (n:=0) h1 h2
  rw [Qq] at this
  exact x.ok.pinned (i,a) (by rw [hc]; exact this)
 have ownS:∀ (i:Nat) (d:D),outs[i]? = some (.own d)→(∃ d₀,ss[i]? = some (.own d₀))∧δ'[i]? = some (some (.own d)):=fun i d e=>by
  have hi:i < ss.length:=by rw [← hlen]; exact (Wc.mp e).1
  rcases hat i ss[i] (by simp [hi]) with ⟨d₁,z1,z2⟩ | ⟨d₁,d',z1,z2,z3⟩
  ·rw [e] at z2; cases z2
  ·rw [e] at z3; cases z3
   rw [Qq] at z2
   exact ⟨⟨d₁,by rw [Wh hi,z1]⟩,z2⟩
 have sub:∀ b,Own (z1L vs) (z1K outs) b→Own σ' δ' b:=fun b ⟨i,d,e1,e2⟩=>by
  obtain ⟨⟨d₀,h0⟩,h1⟩:=ownS i d (someS_get.mp e1)
  exact ⟨i,d,h1,pin i b d₀ h0 (some'_get.mp e2)⟩
 have subA:∀ b,Av c (z1L vs) (z1K outs) b→Av c σ' δ' b:=fun b z=>z.elim .inl fun z=>.inr (sub b z)
 have okO:∀ {c':Fc},c'.pin=c.pin→Ok c' σ' δ' H'→(∀ b,c.B b→c'.B b)→(∀ (i:Nat) d v,ss[i]? = some (.pure d)→vs[i]? = some v→Rep H' (Av c' σ' δ') v d)→Ok c' (z1L vs) (z1K outs) H':=fun {c'} ep k' hB hsl=>by
  have subA':∀ b,Av c' (z1L vs) (z1K outs) b→Av c' σ' δ' b:=fun b z=>z.elim .inl fun z=>.inr (sub b z)
  refine ⟨k'.keep,k'.bd,k'.ith,by simp [hlen,hvs],fun i d e=>?_,fun i d e=>?_,fun i j a d d' e1 e2 e3 e4=>?_,fun p hm=>?_⟩
  ·have e':=someS_get.mp e
   have hi:i < ss.length:=by rw [← hlen]; exact (Wc.mp e').1
   have hv:i < vs.length:=by omega
   rcases hat i ss[i] (by simp [hi]) with ⟨d₁,z1,z2⟩ | ⟨d₁,d',z1,z2,z3⟩
   ·rw [e'] at z2; cases z2
    exact ⟨vs[i],by simp [hv],(hsl i d vs[i] (by rw [Wh hi,z1]) (by simp [hv])).anti fun b z=>.inl (subA' b z)⟩
   ·rw [e'] at z3; cases z3
  ·have e':=someS_get.mp e
   obtain ⟨⟨d₀,h0⟩,h1⟩:=ownS i d e'
   obtain ⟨a₀,h2,_⟩:=k.own i d₀ (someS_get.mpr h0)
   obtain ⟨a,h3,h4,h5⟩:=k'.own i d h1
   rw [pin i a₀ d₀ h0 (some'_get.mp h2)] at h3
   cases h3
   exact ⟨a₀,h2,h4.anti fun b z=>.inl (subA' b z),h5⟩
  ·obtain ⟨⟨d₀,h0⟩,h1⟩:=ownS i d (someS_get.mp e1)
   obtain ⟨⟨d₁,h2⟩,h3⟩:=ownS j d' (someS_get.mp e2)
   exact k'.inj i j a d d' h1 h3 (pin i a d₀ h0 (some'_get.mp e3)) (pin j a d₁ h2 (some'_get.mp e4))
  ·exact k.pinned p (by rw [← ep]; exact hm)
 have slots:∀ (i:Nat) d v,ss[i]? = some (.pure d)→vs[i]? = some v→Rep H' (Av c σ' δ') v d:=fun i d v h1 h2=>by
  obtain ⟨w,e1,r⟩:=(k.ext n).slot i d (z3g (someS_get.mpr h1))
  rw [z3g (some'_get.mpr h2)] at e1
  cases e1
  exact Rep.aft r x
 refine ⟨⟨okO rfl x.ok (fun _ z=>z) slots,fun a o e m=>x.keep a o e fun z=>m (Own.ext.mp z),fun a z=>(x.own a (sub a z)).elim (fun z=>.inl (Own.ext.mp z)) .inr,x.there⟩,fun v r hr=>?_⟩
 cases r with
 | pure d=>exact Rep.anti hr fun b z=>.inl (subA b z)
 | own d =>
  obtain ⟨a,ea,o,nb,h0,kp,hs⟩:=hr
  refine ⟨a,ea,o.anti fun b z=>.inl (z.elim .inl fun z=>.inr (sub b z)),nb,h0,okO rfl kp (fun _ z=>.inl z) fun i d v h1 h2=>?_,hs⟩
  obtain ⟨w,e1,r⟩:=(k.ext n).slot i d (z3g (someS_get.mpr h1))
  rw [z3g (some'_get.mpr h2)] at e1
  cases e1
  have hHa:H a=none:=hs
  have r1:Rep H (Av c (z1L vs ++ Wd n none) (z1K ss ++ Wd n none)) v d:=r
  have r2:Rep H (fun b=>Av c (z1L vs ++ Wd n none) (z1K ss ++ Wd n none) b∨Av (c.plus a) σ' δ' b) v d:=r1.anti fun b z=>by
   rcases z with z | (z | z) | z
   ·exact .inl z
   ·exact .inl (.inl z)
   ·exact .inr (by rw [z]; exact hHa)
   ·rcases x.own b z with q | q
    ·exact .inl (.inr q)
    ·exact .inr q
  exact (r2.keep fun b o e m=>x.keep b o e fun z=>m (.inl (.inr z))).anti fun b z=>.inl (.inr z)
end
section
variable {P:Wl} {w:Wq} {K:W1} {mg:Str→Option Value} {base:Heap}
theorem zgS {x qual:Str} {st:Stmt} {f:Addr} {fd:Q7} {N ps:List Str} {k:Nat} {np:List Nat} {fb:DS} {G:DF} (F:Fun K x qual st f fd) (S:FnScope N ps (z0b st))
  (hbody:∀ (c:Fc) (cdv:Value) (A:Wr) (outer:List Env) (s:W2) (H:Hp) (E:XK),Room k (A.deeper (envOfC qual (z0b st) s.heap.objs.size f cdv))→Np c np→SSs (cxOf CX0 P w K mg base N qual (z0b st) f cdv A outer s H E).nox c (z2u st) fb)
  (hG:∀ ss y,G ss=some y→ioOk np 0 ss=true∧runD fb N.length ss=some y):FnOk P w K mg base CX0 (k + 1) f fd ps (spD ps.length G):=by
 refine F.ok S (fun vs H Q E h=>?_) fun cdv A outer s H vs Q E hr h=>?_
 ·obtain ⟨ss,B,hl,_⟩:=h
  exact hl
 ·obtain ⟨ss,B,hl,ok,r,outs,hg,q⟩:=h
  obtain ⟨hio,hrun⟩:=hG ss _ hg
  have hvs:ss.length=vs.length:=by have:=ok.len; simpa using this
  have np':Np ⟨H,B,z1n 0 ss vs,fun _ _=>False⟩ np:=fun p hp=>by
   obtain ⟨j,d,e,h1,_⟩:=z34 (i:=p.1) (a:=p.2) hp
   rw [e]
   exact zbM hio h1
  refine ⟨tDS ⟨H,B,z1n 0 ss vs,fun _ _=>False⟩ fb,hbody ⟨H,B,z1n 0 ss vs,fun _ _=>False⟩ cdv A outer s H E hr np',?_⟩
  have hst:z6y N vs=z1L vs ++ Wd (N.length - ss.length) none:=by rw [hvs]; rfl
  refine ⟨z0g N.length ss,by rw [hst]; exact ok.ext _,?_⟩
  unfold runD at hrun
  unfold z4G
  cases e:fb (z0g N.length ss) with
  | exc x δx=>rw [e] at hrun; cases hrun
  | stuck=>rw [e] at hrun; cases hrun
  | ok fl δ' =>
   rw [e] at hrun
   show ∀ σ' H',Aft _ (z6y N vs) (z0g N.length ss) H σ' δ' H'→fin _ _ σ' δ' H' fl
   intro σ' H' a
   rw [hst] at a
   simp only at hrun
   cases fl with
   | brk=>cases hrun
   | cont=>cases hrun
   | next =>
    simp only [z0F,WX] at hrun
    cases eo:z0h 0 ss δ' with
    | none=>rw [eo] at hrun; cases hrun
    | some os =>
     rw [eo] at hrun
     cases hrun
     obtain ⟨l1,l2⟩:=zgB rfl ok a eo
     exact q .non H' l1 .non
   | ret r' =>
    simp only [z0F,WX] at hrun
    cases eo:z0h 0 ss δ' with
    | none=>rw [eo] at hrun; cases hrun
    | some os =>
     rw [eo] at hrun
     cases hrun
     obtain ⟨l1,l2⟩:=zgB rfl ok a eo
     exact fun v rv=>q v H' l1 (l2 v _ rv)
theorem z0U {x qual:Str} {st:Stmt} {f:Addr} {fd:Q7} {N ps:List Str} {k:Nat} {np:List Nat} {fb:DS} {G:DF} (F:Fun K x qual st f fd) (hm:mg x=some (.ref f)) (hb:Binds K fd ps []) (S:FnScope N ps (z0b st))
  (hbody:∀ (c:Fc) (cdv:Value) (A:Wr) (outer:List Env) (s:W2) (H:Hp) (E:XK),Room k (A.deeper (envOfC qual (z0b st) s.heap.objs.size f cdv))→Np c np→SSs (cxOf CX0 P w K mg base N qual (z0b st) f cdv A outer s H E).nox c (z2u st) fb)
  (hG:∀ ss y,G ss=some y→ioOk np 0 ss=true∧runD fb N.length ss=some y):KFn P w K mg base (k + 1) x ps.length G:=⟨f,fd,ps,hm,F.kp,hb,zgS F S hbody hG⟩
end
inductive Ak where
 | val (f:DE)
 | io (i:Nat)
def evX:List Ak→Dl→Rs (List (Option D))
 | [],δ=>.ok [] δ
 | .val f :: r,δ=>(f δ).bind fun x δ1=>(evX r δ1).bind fun xs δ2=>.ok (some x.d :: xs) δ2
 | .io _ :: r,δ=>(evX r δ).bind fun xs δ2=>.ok (none :: xs) δ2
inductive ArgR (c:Fc) (σ:St) (δ:Dl) (H:Hp):List V→List Ak→List (Option D)→Prop
 | nil:ArgR c σ δ H [] [] []
 | val {v:V} {d:D} {f:DE} {vs:List V} {as:List Ak} {ds:List (Option D)}:Rep H (Av c σ δ) v d→ArgR c σ δ H vs as ds→ArgR c σ δ H (v :: vs) (.val f :: as) (some d :: ds)
 | io {v:V} {i:Nat} {vs:List V} {as:List Ak} {ds:List (Option D)}:σ[i]? = some (some v)→ArgR c σ δ H vs as ds→ArgR c σ δ H (v :: vs) (.io i :: as) (none :: ds)
def tX (c:Fc) (as:List Ak):TA:=fun σ H Q=>∃ δ,Ok c σ δ H∧(∀ i,Ak.io i ∈ as→∃ v,σ[i]? = some (some v))∧post c (evX as δ) fun ds δ'=>∀ vs H',Aft c σ δ H σ δ' H'→ArgR c σ δ' H' vs as ds→Q vs H'
abbrev SX (X:Cx) (c:Fc) (es:List Expr) (as:List Ak):Prop:=PA X es (tX c as)
section
variable {X:Cx} {c:Fc} {e:Expr} {es:List Expr} {fe:DE} {as:List Ak} {pos pp:Pos}
theorem z0f:SX X c [] []:=PA.weak z32 fun σ H Q ⟨δ,k,_,q⟩=>q [] H (.refl k) .nil
theorem zfA (ha:SE X c e fe) (hr:SX X c es as) (hs:We (e :: es) X.env=(false,eval e X.env) :: We es X.env:=by rfl):SX X c (e :: es) (.val fe :: as):=PA.weak (z1x ha hr hs) fun σ H Q ⟨δ,k,hio,q⟩=>by
 unfold evX at q
 rw [z06] at q
 refine ⟨δ,k,z03 q fun x δ1 q1 v H1 a1 r1=>⟨δ1,a1.ok,fun i hi=>hio i (Wi _ hi),?_⟩⟩
 rw [z06] at q1
 exact z03 q1 fun xs δ2 q2 vs H2 a2 r2=>q2 (v :: vs) H2 (a1.trans a2) (.val (Rep.aft r1.rep a2) r2)
theorem sx_io (ha:PE X e (tVar i)) (hr:SX X c es as) (hs:We (e :: es) X.env=(false,eval e X.env) :: We es X.env:=by rfl):SX X c (e :: es) (.io i :: as):=PA.weak (z1x ha hr hs) fun σ H Q ⟨δ,k,hio,q⟩=>by
 obtain ⟨v,ev⟩:=hio i Wm
 unfold evX at q
 rw [z06] at q
 exact ⟨v,ev,δ,k,fun i hi=>hio i (Wi _ hi),z03 q fun xs δ2 q2 vs H2 a2 r2=>q2 (v :: vs) H2 a2 (.io ev r2)⟩
end
def mkA:List Ak→List (Option D)→Dl→Option (List S)
 | [],[],_=>some []
 | .val _ :: as,some d :: ds,δ=>(mkA as ds δ).map (.pure d :: ·)
 | .io i :: as,none :: ds,δ=>match δ[i]? with
  | some (some (.own d))=>(mkA as ds δ).map (.own d :: ·)
  | _=>none
 | _,_,_=>none
def ios:List Ak→List Nat
 | []=>[]
 | .val _ :: as=>ios as
 | .io i :: as=>i :: ios as
def putA:List Ak→List S→Dl→Dl
 | .io i :: as,r :: rs,δ=>putA as rs (δ.set i (some r))
 | .val _ :: as,_ :: rs,δ=>putA as rs δ
 | _,_,δ=>δ
def ndup:List Nat→Bool
 | []=>true
 | i :: r=>!r.contains i && ndup r
def z01 (G:DF) (as:List Ak):DE:=fun δ=>if (ios as).all (z14 δ) && ndup (ios as) then (evX as δ).bind fun ds δ1=>match mkA as ds δ1 with
  | none=>.stuck
  | some ss=>match G ss with
   | none=>.stuck
   | some (r,outs)=>.ok r (putA as outs δ1)
 else .stuck
theorem z6X:∀ {l:List Nat},ndup l=true→l.Nodup
 | [],_=>.nil
 | i :: r,h=>by
  simp only [ndup,Wa,Bool.not_eq_true'] at h
  exact WO.mpr ⟨fun hm=>by have:=h.1; simp at this; exact this hm,z6X h.2⟩
theorem ios_mem:∀ {as:List Ak} {i:Nat},i ∈ ios as ↔ Ak.io i ∈ as
 | [],i=>by simp [ios]
 | .val f :: as,i=>by simp [ios,ios_mem (as:=as)]
 | .io j :: as,i=>by simp [ios,ios_mem (as:=as)]
theorem zbL:∀ {as:List Ak} {i j k:Nat},(ios as).Nodup→as[j]? = some (.io i)→as[k]? = some (.io i)→j=k
 | [],i,j,k,_,h,_=>by simp at h
 | .val f :: as,i,j,k,nd,h1,h2=>by
  cases j with
  | zero=>simp at h1
  | succ j =>
   cases k with
   | zero=>simp at h2
   | succ k=>exact congrArg (· + 1) (zbL (as:=as) nd (by simpa using h1) (by simpa using h2))
 | .io n :: as,i,j,k,nd,h1,h2=>by
  have nd':=WO.mp nd
  cases j with
  | zero =>
   simp at h1
   subst h1
   cases k with
   | zero=>rfl
   | succ k=>exact absurd (ios_mem.mpr (WD (by simpa using h2))) nd'.1
  | succ j =>
   cases k with
   | zero =>
    simp at h2
    subst h2
    exact absurd (ios_mem.mpr (WD (by simpa using h1))) nd'.1
   | succ k=>exact congrArg (· + 1) (zbL (as:=as) nd'.2 (by simpa using h1) (by simpa using h2))
section
variable {c:Fc} {σ:St} {δ:Dl} {H:Hp} {vs:List V} {as:List Ak} {ds:List (Option D)} {ss:List S}
theorem zbx (h:ArgR c σ δ H vs as ds):∀ {ss:List S},mkA as ds δ=some ss→ss.length=vs.length∧as.length=vs.length∧∀ (j:Nat) s v,ss[j]? = some s→vs[j]? = some v →
  (∃ d f,s = .pure d∧as[j]? = some (.val f)∧Rep H (Av c σ δ) v d)∨∃ d i,s = .own d∧as[j]? = some (.io i)∧σ[i]? = some (some v)∧δ[i]? = some (some (.own d)):=by
 induction h with
 | nil =>
  intro ss h
  simp only [mkA,W7] at h
  subst h
  exact ⟨rfl,rfl,fun j s v e _=>by simp at e⟩
 | @val v d f vs as ds r _ ih =>
  intro ss h
  simp only [mkA] at h
  cases e:mkA as ds δ with
  | none=>rw [e] at h; cases h
  | some rs =>
   rw [e] at h
   simp only [WK,W7] at h
   subst h
   obtain ⟨h1,h2,h3⟩:=ih e
   refine ⟨by simp [h1],by simp [h2],fun j s v' e1 e2=>?_⟩
   cases j with
   | zero=>simp at e1 e2; subst e1 e2; exact .inl ⟨d,f,rfl,rfl,r⟩
   | succ j=>simpa using h3 j s v' (by simpa using e1) (by simpa using e2)
 | @io v i vs as ds ev _ ih =>
  intro ss h
  simp only [mkA] at h
  split at h
  ·rename_i d ed
   cases e:mkA as ds δ with
   | none=>rw [e] at h; cases h
   | some rs =>
    rw [e] at h
    simp only [WK,W7] at h
    subst h
    obtain ⟨h1,h2,h3⟩:=ih e
    refine ⟨by simp [h1],by simp [h2],fun j s v' e1 e2=>?_⟩
    cases j with
    | zero=>simp at e1 e2; subst e1 e2; exact .inr ⟨d,i,rfl,rfl,ev,ed⟩
    | succ j=>simpa using h3 j s v' (by simpa using e1) (by simpa using e2)
  ·cases h
theorem z7n:∀ (as:List Ak) (rs:List S) (δ:Dl),(putA as rs δ).length=δ.length
 | [],rs,δ=>by simp [putA]
 | .val f :: as,[],δ=>by simp [putA]
 | .io i :: as,[],δ=>by simp [putA]
 | .val f :: as,r :: rs,δ=>by simp [putA,z7n as rs δ]
 | .io i :: as,r :: rs,δ=>by simp [putA,z7n as rs]
theorem z4J:∀ (as:List Ak) (rs:List S) (δ:Dl) (i:Nat),i ∉ ios as→(putA as rs δ)[i]? = δ[i]?
 | [],rs,δ,i,_=>by simp [putA]
 | .val f :: as,[],δ,i,_=>by simp [putA]
 | .io j :: as,[],δ,i,_=>by simp [putA]
 | .val f :: as,r :: rs,δ,i,h=>by rw [putA]; exact z4J as rs δ i h
 | .io j :: as,r :: rs,δ,i,h=>by
  simp only [ios,Wn,not_or] at h
  rw [putA,z4J as rs _ i h.2,W9 (Ne.symm h.1)]
theorem z7o:∀ (as:List Ak) (rs:List S) (δ:Dl) (i j:Nat) (r:S),(ios as).Nodup→as[j]? = some (.io i)→rs[j]? = some r→i < δ.length→(putA as rs δ)[i]? = some (some r)
 | [],rs,δ,i,j,r,_,h,_,_=>by simp at h
 | a :: as,[],δ,i,j,r,_,_,h,_=>by simp at h
 | .val f :: as,r0 :: rs,δ,i,j,r,nd,h1,h2,hi=>by
  cases j with
  | zero=>simp at h1
  | succ j=>rw [putA]; exact z7o as rs δ i j r nd (by simpa using h1) (by simpa using h2) hi
 | .io k :: as,r0 :: rs,δ,i,j,r,nd,h1,h2,hi=>by
  have nd':=WO.mp nd
  cases j with
  | zero =>
   simp at h1 h2
   subst h1 h2
   rw [putA,z4J as rs _ k nd'.1,Wv hi]
  | succ j=>rw [putA]; exact z7o as rs _ i j r nd'.2 (by simpa using h1) (by simpa using h2) (by simpa using hi)
theorem zfd (k:Ok c σ δ H) (hr:ArgR c σ δ H vs as ds) (hm:mkA as ds δ=some ss) (nd:(ios as).Nodup) :
  Ok ⟨H,fun a=>Av c σ δ a∧¬ ∃ (j:Nat) (d:D),ss[j]? = some (S.own d)∧vs[j]? = some (V.ref a),z1n 0 ss vs,fun _ _=>False⟩ (z1L vs) (z1K ss) H:=by
 obtain ⟨h1,h2,h3⟩:=zbx hr hm
 have at':∀ (j:Nat) s,ss[j]? = some s→∃ v,vs[j]? = some v:=fun j s e=>by
  have:j < vs.length:=by rw [← h1]; exact (Wc.mp e).1
  exact ⟨vs[j],by simp [this]⟩
 have ownE:∀ a,Own (z1L vs) (z1K ss) a ↔ ∃ (j:Nat) (d:D),ss[j]? = some (S.own d)∧vs[j]? = some (V.ref a):=fun a =>
  ⟨fun ⟨j,d,e1,e2⟩=>⟨j,d,someS_get.mp e1,some'_get.mp e2⟩,fun ⟨j,d,e1,e2⟩=>⟨j,d,someS_get.mpr e1,some'_get.mpr e2⟩⟩
 have own2:∀ a,Own (z1L vs) (z1K ss) a→Own σ δ a:=fun a z=>by
  obtain ⟨j,d,e1,e2⟩:=(ownE a).mp z
  rcases h3 j _ _ e1 e2 with ⟨d',f,e,_⟩ | ⟨d',i,e,_,es,ed⟩
  ·cases e
  ·exact ⟨i,d',ed,es⟩
 have sub:∀ a,Av ⟨H,fun a=>Av c σ δ a∧¬ ∃ (j:Nat) (d:D),ss[j]? = some (S.own d)∧vs[j]? = some (V.ref a),z1n 0 ss vs,fun _ _=>False⟩ (z1L vs) (z1K ss) a→Av c σ δ a:=fun a z=>z.elim (fun z=>z.1) fun z=>.inr (own2 a z)
 refine ⟨fun a o e _=>e,fun a z=>k.avthere z.1,fun a ⟨i,hi⟩=>?_,by simp [h1],fun j d e=>?_,fun j d e=>?_,fun i j a d d' e1 e2 e3 e4=>?_,fun p hp=>?_⟩
 ·obtain ⟨j,d,_,e1,e2⟩:=z34 hi
  exact k.othere (own2 a ((ownE a).mpr ⟨j,d,e1,e2⟩))
 ·have e':=someS_get.mp e
  obtain ⟨v,ev⟩:=at' j _ e'
  rcases h3 j _ v e' ev with ⟨d',f,e,_,r⟩ | ⟨d',i,e,_⟩
  ·cases e
   exact ⟨v,some'_get.mpr ev,r.anti fun b z=>.inl (sub b z)⟩
  ·cases e
 ·have e':=someS_get.mp e
  obtain ⟨v,ev⟩:=at' j _ e'
  rcases h3 j _ v e' ev with ⟨d',f,e,_,r⟩ | ⟨d',i,e,_,es,ed⟩
  ·cases e
  ·cases e
   obtain ⟨a,g1,g2,g3⟩:=k.own i d ed
   rw [es] at g1
   cases g1
   refine ⟨a,some'_get.mpr ev,g2.anti fun b z=>.inl (sub b z),.inl ⟨0 + j,z4O e' ev⟩,fun z=>z.2 ⟨j,d,e',ev⟩⟩
 ·have f1:=someS_get.mp e1
  have f2:=someS_get.mp e2
  rcases h3 i _ _ f1 (some'_get.mp e3) with ⟨_,_,e,_⟩ | ⟨d1,i1,e,a1,s1,x1⟩
  ·cases e
  ·rcases h3 j _ _ f2 (some'_get.mp e4) with ⟨_,_,e',_⟩ | ⟨d2,i2,e',a2,s2,x2⟩
   ·cases e'
   ·have:=k.inj i1 i2 a d1 d2 x1 x2 s1 s2
    subst this
    exact zbL nd a1 a2
 ·obtain ⟨j,d,e,e1,e2⟩:=z34 (i:=p.1) (a:=p.2) hp
  rw [Qq] at e
  rw [e]
  exact some'_get.mpr e2
theorem zdx (k:Ok c σ δ H) (hr:ArgR c σ δ H vs as ds) (hm:mkA as ds δ=some ss) (nd:(ios as).Nodup) (hB:B=fun a=>Av c σ δ a∧¬ ∃ (j:Nat) (d:D),ss[j]? = some (S.own d)∧vs[j]? = some (V.ref a))
  (x:Aft ⟨H,B,z1n 0 ss vs,fun _ _=>False⟩ (z1L vs) (z1K ss) H (z1L vs) (z1K outs) H') (hio:∀ (j:Nat) d,ss[j]? = some (.own d)→∃ d',outs[j]? = some (.own d')) (hpo:∀ (j:Nat) d,ss[j]? = some (.pure d)→∃ d',outs[j]? = some (.pure d')) :
  Aft c σ δ H σ (putA as outs δ) H'∧∀ v r,RepS ⟨H,B,z1n 0 ss vs,fun _ _=>False⟩ (z1L vs) (z1K outs) H H' v r→RepS c σ (putA as outs δ) H H' v r:=by
 obtain ⟨h1,h2,h3⟩:=zbx hr hm
 have inIdx:∀ i,i ∈ ios as→∃ (j:Nat) (d:D) (a:Addr),as[j]? = some (.io i)∧ss[j]? = some (.own d)∧vs[j]? = some (.ref a)∧σ[i]? = some (some (.ref a))∧δ[i]? = some (some (.own d)):=fun i hi=>by
  obtain ⟨j,hj,ej⟩:=List.mem_iff_getElem.mp (ios_mem.mp hi)
  have hv:j < vs.length:=by omega
  have hs:j < ss.length:=by omega
  have ej':as[j]? = some (.io i):=by rw [Wh hj,ej]
  rcases h3 j ss[j] vs[j] (by simp [hs]) (by simp [hv]) with ⟨d,f,e,a1,_⟩ | ⟨d,i',e,a1,s1,x1⟩
  ·rw [ej'] at a1; cases a1
  ·rw [ej'] at a1; cases a1
   obtain ⟨a,g1,_⟩:=k.own i d x1
   rw [s1] at g1
   have g2:vs[j] = .ref a:=by
    have:=Wy g1
    exact Wy this
   exact ⟨j,d,a,ej',by rw [Wh hs,e],by rw [Wh hv,g2],by rw [s1,g2],x1⟩
 have passed:∀ a,(∃ (j:Nat) (d:D),ss[j]? = some (S.own d)∧vs[j]? = some (V.ref a))→Own σ δ a:=fun a ⟨j,d,e1,e2⟩=>by
  rcases h3 j _ _ e1 e2 with ⟨d',f,e,_⟩ | ⟨d',i,e,_,es,ed⟩
  ·cases e
  ·exact ⟨i,d',ed,es⟩
 have Iiff:∀ a,(⟨H,B,z1n 0 ss vs,fun _ _=>False⟩:Fc).I a ↔ ∃ (j:Nat) (d:D),ss[j]? = some (S.own d)∧vs[j]? = some (V.ref a):=fun a =>
  ⟨fun ⟨i,hi⟩=>by obtain ⟨j,d,_,e1,e2⟩:=z34 hi; exact ⟨j,d,e1,e2⟩,fun ⟨j,d,e1,e2⟩=>⟨0 + j,z4O e1 e2⟩⟩
 have ownIn:∀ a,Own (z1L vs) (z1K ss) a→∃ (j:Nat) (d:D),ss[j]? = some (S.own d)∧vs[j]? = some (V.ref a):=fun a ⟨j,d,e1,e2⟩=>⟨j,d,someS_get.mp e1,some'_get.mp e2⟩
 -- the owned addresses are the same
 have slotP:∀ (i:Nat) (d:D),(putA as outs δ)[i]? = some (some (.own d))→(i ∉ ios as∧δ[i]? = some (some (.own d)))∨(i ∈ ios as∧∃ (j:Nat) (d0:D) (a:Addr),as[j]? = some (.io i)∧ss[j]? = some (.own d0)∧vs[j]? = some (.ref a)∧σ[i]? = some (some (.ref a))∧outs[j]? = some (.own d)):=fun i d e=>by
  by_cases hi:i ∈ ios as
  ·right
   obtain ⟨j,d0,a,a1,a2,a3,a4,a5⟩:=inIdx i hi
   obtain ⟨d',ed'⟩:=hio j d0 a2
   have hlt:i < δ.length:=(Wc.mp a5).1
   have:=z7o as outs δ i j (.own d') nd a1 ed' hlt
   rw [e] at this
   cases this
   exact ⟨hi,j,d0,a,a1,a2,a3,a4,ed'⟩
  ·rw [z4J as outs δ i hi] at e
   exact .inl ⟨hi,e⟩
 have own_sub:∀ b,Own σ (putA as outs δ) b→Own σ δ b:=fun b ⟨i,d,e1,e2⟩=>by
  rcases slotP i d e1 with ⟨_,e⟩ | ⟨hi,j,d0,a,_,a2,a3,a4,_⟩
  ·exact ⟨i,d,e,e2⟩
  ·rw [e2] at a4
   have:b=a:=by injection (Wy (Wy a4))
   subst this
   exact passed b ⟨j,d0,a2,a3⟩
 have pureP:∀ (i:Nat) (d:D),(putA as outs δ)[i]? = some (some (.pure d))→i ∉ ios as∧δ[i]? = some (some (.pure d)):=fun i d e=>by
  by_cases hi:i ∈ ios as
  ·obtain ⟨j,d0,a,a1,a2,a3,a4,a5⟩:=inIdx i hi
   obtain ⟨d',ed'⟩:=hio j d0 a2
   have hlt:i < δ.length:=(Wc.mp a5).1
   have:=z7o as outs δ i j (.own d') nd a1 ed' hlt
   rw [e] at this
   cases this
  ·rw [z4J as outs δ i hi] at e
   exact ⟨hi,e⟩
 have kpAv:∀ a o,H a=some o→¬ Av c σ δ a→H' a=some o:=fun a o e n=>x.keep a o e fun z=>n (.inr (passed a (ownIn a z)))
 have subA:∀ b,Av c σ (putA as outs δ) b→Av c σ δ b:=fun b z=>z.elim .inl fun z=>.inr (own_sub b z)
 -- the callee's set holds ours
 have big:∀ {c':Fc},c'.B=B→∀ b,Av c σ δ b→Av c' (z1L vs) (z1K outs) b:=fun {c'} hB' b z=>by
  by_cases hp:∃ (j:Nat) (d:D),ss[j]? = some (S.own d)∧vs[j]? = some (V.ref b)
  ·obtain ⟨j,d,e1,e2⟩:=hp
   obtain ⟨d',ed'⟩:=hio j d e1
   exact .inr ⟨j,d',someS_get.mpr ed',some'_get.mpr e2⟩
  ·exact .inl (by rw [hB',hB]; exact ⟨z,hp⟩)
 have okc:∀ (c1 c2:Fc),c1.H₀=c.H₀→c1.pin=c.pin→(∀ b,c1.B b→c.B b∨(c2.B b∧H b=none))→c2.pin=z1n 0 ss vs→(∀ b,B b→c2.B b)→Ok c2 (z1L vs) (z1K outs) H'→(∀ b,c1.B b→∃ o,H' b=some o)→Ok c1 σ (putA as outs δ) H':=fun c1 c2 e0 e1 e2 e3 e4 k2 hex=>by
  have sub1:∀ b,Av c1 σ (putA as outs δ) b→Av c σ δ b∨H b=none:=fun b z=>by
   rcases z with z | z
   ·rcases e2 b z with z | ⟨_,z⟩
    ·exact .inl (.inl z)
    ·exact .inr z
   ·exact .inl (.inr (own_sub b z))
  have sub2:∀ b,Av c1 σ (putA as outs δ) b→Av c2 (z1L vs) (z1K outs) b:=fun b z=>by
   have bg:∀ b,Av c σ δ b→Av c2 (z1L vs) (z1K outs) b:=fun b z=>by
    by_cases hp:∃ (j:Nat) (d:D),ss[j]? = some (S.own d)∧vs[j]? = some (V.ref b)
    ·obtain ⟨j,d,e1,e2⟩:=hp
     obtain ⟨d',ed'⟩:=hio j d e1
     exact .inr ⟨j,d',someS_get.mpr ed',some'_get.mpr e2⟩
    ·exact .inl (e4 b (by rw [hB]; exact ⟨z,hp⟩))
   rcases z with z | z
   ·rcases e2 b z with z | ⟨z,_⟩
    ·exact bg b (.inl z)
    ·exact .inl z
   ·exact bg b (.inr (own_sub b z))
  have kp':∀ {v:V} {d:D},Rep H (Av c σ δ) v d→Rep H' (Av c1 σ (putA as outs δ)) v d:=fun {v d} r=>by
   have r1:Rep H (fun b=>Av c σ δ b∨Av c1 σ (putA as outs δ) b) v d:=r.anti fun b z=>z.elim .inl (sub1 b)
   exact (r1.keep fun b o e n=>kpAv b o e fun z=>n (.inl z)).anti fun b z=>.inl (.inr z)
  refine ⟨fun a o e n=>?_,hex,fun a z=>?_,by rw [z7n]; exact k.len,fun i d e=>?_,fun i d e=>?_,fun i j a d d' f1 f2 f3 f4=>?_,by rw [e1]; exact k.pinned⟩
  ·rw [e0] at e
   have n':¬ c.I a:=fun z=>n (by unfold Fc.I at z ⊢; rw [e1]; exact z)
   refine x.keep a o (k.keep a o e n') fun z=>?_
   obtain ⟨i,d,g1,g2⟩:=passed a (ownIn a z)
   obtain ⟨a',g3,_,g4,_⟩:=k.own i d g1
   rw [g2] at g3; cases g3
   rcases g4 with g4 | g4
   ·exact n' g4
   ·rw [g4] at e; cases e
  ·have z':c.I a:=by unfold Fc.I at z ⊢; rw [← e1]; exact z
   obtain ⟨o,e⟩:=k.ith a z'
   exact x.there a o e
  ·obtain ⟨hi,e'⟩:=pureP i d e
   obtain ⟨v,g1,g2⟩:=k.slot i d e'
   exact ⟨v,g1,kp' g2⟩
  ·rcases slotP i d e with ⟨hi,e'⟩ | ⟨hi,j,d0,a,b1,b2,b3,b4,b5⟩
   ·obtain ⟨a,g1,g2,g3,g4⟩:=k.own i d e'
    have na:¬ Own (z1L vs) (z1K ss) a:=fun z=>by
     obtain ⟨j,d1,q1,q2⟩:=ownIn a z
     rcases h3 j _ _ q1 q2 with ⟨d',f,ee,_⟩ | ⟨d',i',ee,ai,es,ed⟩
     ·cases ee
     ·have:=k.inj i i' a d d' e' ed g1 es
      subst this
      exact hi (ios_mem.mpr (WD ai))
    have g2':OwnAt H' (Av c1 σ (putA as outs δ)) a d:=by
     have o1:OwnAt H (fun b=>Av c σ δ b∨Av c1 σ (putA as outs δ) b) a d:=g2.anti fun b z=>z.elim .inl (sub1 b)
     exact (o1.keep (fun b o e n=>kpAv b o e fun z=>n (.inl z)) fun o e=>x.keep a o e na).anti fun b z=>.inl (.inr z)
    refine ⟨a,g1,g2',by unfold Fc.I at g3 ⊢; rw [e0,e1]; exact g3,fun z=>?_⟩
    rcases e2 a z with z | ⟨_,z⟩
    ·exact g4 z
    ·obtain ⟨o,eo⟩:=g2.some
     rw [z] at eo; cases eo
   ·obtain ⟨a',g1,g2,g3,g4⟩:=k2.own j d (someS_get.mpr b5)
    rw [some'_get.mpr b3] at g1
    cases g1
    obtain ⟨i0,d1,q1,q2⟩:=passed a ⟨j,d0,b2,b3⟩
    obtain ⟨a'',q3,q4,q5,q6⟩:=k.own i0 d1 q1
    rw [q2] at q3; cases q3
    refine ⟨a,b4,g2.anti fun b z=>.inl (sub2 b z),by unfold Fc.I at q5 ⊢; rw [e0,e1]; exact q5,fun z=>?_⟩
    rcases e2 a z with z | ⟨_,z⟩
    ·exact q6 z
    ·obtain ⟨o,eo⟩:=q4.some
     rw [z] at eo; cases eo
  ·obtain ⟨d1,g1⟩:∃ d1,δ[i]? = some (some (.own d1)):=by
    rcases slotP i d f1 with ⟨_,e'⟩ | ⟨hi,_⟩
    ·exact ⟨d,e'⟩
    ·obtain ⟨_,d1,_,_,_,_,_,a5⟩:=inIdx i hi
     exact ⟨d1,a5⟩
   obtain ⟨d2,g2⟩:∃ d2,δ[j]? = some (some (.own d2)):=by
    rcases slotP j d' f2 with ⟨_,e'⟩ | ⟨hi,_⟩
    ·exact ⟨d',e'⟩
    ·obtain ⟨_,d1,_,_,_,_,_,a5⟩:=inIdx j hi
     exact ⟨d1,a5⟩
   exact k.inj i j a d1 d2 g1 g2 f3 f4
 have ok1:Ok c σ (putA as outs δ) H':=okc c ⟨H,B,z1n 0 ss vs,fun _ _=>False⟩ rfl rfl (fun b z=>.inl z) rfl (fun b z=>z) x.ok fun b z=>by
  obtain ⟨o,e⟩:=k.bd b z
  exact x.there b o e
 refine ⟨⟨ok1,fun a o e n=>x.keep a o e fun z=>n (passed a (ownIn a z)),fun a z=>.inl (own_sub a z),x.there⟩,fun v r hr=>?_⟩
 cases r with
 | pure d=>exact Rep.anti hr fun b z=>.inl (big rfl b (subA b z))
 | own d =>
  obtain ⟨a,ea,o,nb,h0,kp,hs⟩:=hr
  have hHa:H a=none:=hs
  have nav:¬ Av c σ δ a:=k.nav hHa
  refine ⟨a,ea,o.anti fun b z=>.inl ?_,fun z=>nav (.inl z),k.fresh₀ hHa,?_,hHa⟩
  ·rcases z with (z | z) | z
   ·exact (big rfl b (.inl z)).elim (fun z=>.inl (.inl z)) .inr
   ·exact .inl (.inr z)
   ·exact (big rfl b (.inr (own_sub b z))).elim (fun z=>.inl (.inl z)) .inr
  ·refine okc (c.plus a) (Fc.plus ⟨H,B,z1n 0 ss vs,fun _ _=>False⟩ a) rfl rfl (fun b z=>?_) rfl (fun b z=>.inl z) kp fun b z=>?_
   ·rcases z with z | z
    ·exact .inl z
    ·exact .inr ⟨.inr z,by rw [z]; exact hHa⟩
   ·rcases z with z | z
    ·obtain ⟨o,e⟩:=k.bd b z
     exact x.there b o e
    ·rw [z]; exact o.some
end
def z1k (G:DF):Prop:=∀ ss r outs,G ss=some (r,outs)→outs.length=ss.length∧∀ (j:Nat),(∀ d,ss[j]? = some (.own d)→∃ d',outs[j]? = some (.own d'))∧∀ d,ss[j]? = some (.pure d)→∃ d',outs[j]? = some (.pure d')
theorem za5 (hG:∀ ss y,G ss=some y→runD fb n ss=some y):z1k G:=fun ss r outs h=>by
 have:=hG ss _ h
 unfold runD at this
 cases e:fb (z0g n ss) with
 | exc x δx=>rw [e] at this; cases this
 | stuck=>rw [e] at this; cases this
 | ok fl δ =>
  rw [e] at this
  simp only at this
  cases e1:z0F fl with
  | none=>rw [e1] at this; cases this
  | some r' =>
   rw [e1] at this
   simp only [WX] at this
   cases e2:z0h 0 ss δ with
   | none=>rw [e2] at this; cases this
   | some os =>
    rw [e2] at this
    cases this
    obtain ⟨h1,h2⟩:=z7s e2
    refine ⟨h1,fun j=>⟨fun d ed=>?_,fun d ed=>?_⟩⟩
    ·rcases h2 j _ ed with ⟨d',z,_⟩ | ⟨d',d'',_,_,z⟩
     ·cases z
     ·exact ⟨d'',z⟩
    ·rcases h2 j _ ed with ⟨d',z,z'⟩ | ⟨d',d'',z,_⟩
     ·exact ⟨d',z'⟩
     ·cases z
section
variable {X:Cx} {c:Fc} {e:Expr} {es:List Expr} {as:List Ak} {k n:Nat} {x:Str} {G:DF} {pp pos:Pos}
theorem zco {ps:List Str} (hK:z1k G) {σ:St} {H:Hp} {Q:VK} (hl:as.length=n) (h:tD c (z01 G as) σ H Q):zfx (spD n G) [] E0 (tX c as) σ H Q:=by
 obtain ⟨δ,kk,q⟩:=h
 unfold z01 at q
 split at q
 ·rename_i hc
  rw [Wa] at hc
  have nd:=z6X hc.2
  rw [z06] at q
  refine ⟨δ,kk,fun i hi=>?_,z03 q fun ds δ1 q1 vs H1 a1 r1=>?_⟩
  ·have:=WF.mp hc.1 i (ios_mem.mpr hi)
   unfold z14 at this
   split at this
   ·rename_i d ed
    exact z57 kk ed
   ·cases this
  ·cases em:mkA as ds δ1 with
   | none=>rw [em] at q1; exact q1.elim
   | some ss =>
    rw [em] at q1
    simp only at q1
    cases eg:G ss with
    | none=>rw [eg] at q1; exact q1.elim
    | some y =>
     obtain ⟨r,outs⟩:=y
     rw [eg] at q1
     have hin:=zfd a1.ok r1 em nd
     obtain ⟨m1,m2,_⟩:=zbx r1 em
     obtain ⟨g1,g2⟩:=hK ss r outs eg
     refine ⟨ss,_,by rw [J7,← m2]; exact hl,by rw [J7]; exact hin,r,outs,eg,fun v H2 a2 r2=>?_⟩
     rw [J7] at a2 r2
     obtain ⟨o1,o2⟩:=zdx a1.ok r1 em nd rfl a2 (fun j d ed=>(g2 j).1 d ed) fun j d ed=>(g2 j).2 d ed
     exact q1 v H2 (a1.trans o1) (RepS.back (o2 v r r2) a1)
 ·exact q.elim
theorem z07 (F:KFn X.prog X.w X.K X.mg X.base k x n G) (hK:z1k G) (hr:Room k X.A) (hg:Gl X x) (ha:SX X c (e :: es) as) (hl:as.length=n) (hdb:(x == ("__debug__" : Str))=false:=by decide)
  (he:We (e :: es) X.env=(false,eval e X.env) :: We es X.env:=by rfl) (hpl:(QL pos (We es X.env)).any (·.1)=false:=by rfl):SE X c (.Call (.Name x pp) (e :: es) [] pos) (z01 G as):=by
 obtain ⟨f,fd,ps,hm,hk,hb,ok⟩:=F
 exact PE.weak (zeA ok hr hg hm hk hb .nil pass0 ha hdb he hpl) fun σ H Q h=>zco (ps:=ps) hK hl h
end
def gOf (np:List Nat) (n:Nat) (b:DS):DF:=fun ss=>if ioOk np 0 ss then runD b n ss else none
theorem z0v (h:gOf np n b ss=some y):ioOk np 0 ss=true∧runD b n ss=some y:=by
 unfold gOf at h
 split at h
 ·rename_i hi; exact ⟨hi,h⟩
 ·cases h
theorem z0i:z1k (gOf np n b):=za5 fun _ _ h=>(z0v h).2
theorem z1v (r:Room k A):A.units + 64 < Qx:=by have:=r.un; omega
theorem z2C {c:Fc} {np cs:List Nat} (h:Np c np) (hc:cs.all (fun i=>!np.contains i)=true):∀ p ∈ c.pin,p.1 ∉ cs:=fun p hp z=>by
 have h1:=h p hp
 have h2:=WF.mp hc p.1 z
 rw [h1] at h2
 cases h2
def ndS:List Str→Bool
 | []=>true
 | x :: r=>!r.contains x && ndS r
theorem zdN:∀ {l:List Str},ndS l=true→l.Nodup
 | [],_=>.nil
 | x :: r,h=>by
  simp only [ndS,Wa,Bool.not_eq_true'] at h
  exact WO.mpr ⟨fun hm=>by have:=h.1; simp at this; exact this hm,zdN h.2⟩
def z5f (names:List (Str×NameKind)) (x:Str) (k:NameKind):Bool:=match names.lookup x with
 | some j=>j == k
 | none=>false
theorem z7C (h:z5f names x k=true):names.lookup x=some k:=by
 unfold z5f at h
 split at h
 ·rename_i j e; rw [e,eq_of_beq h]
 ·cases h
def cscB (names:List (Str×NameKind)) (N:List Str) (sc:List (Str×NameKind)) (cs:List Nat):Bool :=
 sc.all (fun x=>!(x.2 == .local) || z5f sc x.1 .local) && sc.all (fun x=>!(x.2 == .free) || (z5f names x.1 .cell || z5f names x.1 .free)) && ndS (sc.map (·.1)) &&
 (Wf N.length).all fun i=>match N[i]? with
  | some x=>!(z5f sc x .local || z5f sc x .cell) || cs.contains i
  | none=>true
theorem z9G (h:names.lookup x=some k):z5f names x k=true:=by
 unfold z5f; rw [h]; simp
theorem z19 {X:Cx} {scope:Scope} {cs:List Nat} (hk:scope.kind = .function) (h:cscB X.env.scope.names X.N scope.names cs=true):CScope X scope cs:=by
 unfold cscB at h
 simp only [Wa] at h
 obtain ⟨⟨⟨h1,h2⟩,h3⟩,h4⟩:=h
 refine ⟨hk,fun x hx hl=>?_,fun x hx hf=>?_,zdN h3,fun i x hi hl=>?_⟩
 ·have:=WF.mp h1 x hx
  rw [hl] at this
  exact z7C (by simpa using this)
 ·have:=WF.mp h2 x hx
  rw [hf] at this
  have:z5f X.env.scope.names x.1 .cell=true∨z5f X.env.scope.names x.1 .free=true:=by simpa using this
  exact this.elim (fun z=>.inl (z7C z)) fun z=>.inr (z7C z)
 ·have hil:i < X.N.length:=(Wc.mp hi).1
  have:=WF.mp h4 i (Qt.mpr hil)
  rw [hi] at this
  have hl':(z5f scope.names x .local || z5f scope.names x .cell)=true:=by
   rcases hl with z | z
   ·rw [z9G z]; rfl
   ·rw [z9G z]; simp
  simp only [hl',Bool.not_true,Bool.false_or] at this
  simpa using this
theorem ze5 {K:W1}:TyK K "int":=⟨rfl,rfl,rfl,rfl,rfl,rfl,rfl⟩
theorem zcC {K:W1}:TyK K "bool":=⟨rfl,rfl,rfl,rfl,rfl,rfl,rfl⟩
theorem ze4 {K:W1}:TyK K "str":=⟨rfl,rfl,rfl,rfl,rfl,rfl,rfl⟩
theorem zaA {K:W1}:TyK K "tuple":=⟨rfl,rfl,rfl,rfl,rfl,rfl,rfl⟩
def z4j:Expr→Bool
 | .Starred ..=>false
 | _=>true
theorem z52 (h:z4j e=true):We (e :: es) env=(false,eval e env) :: We es env:=by
 cases e <;> first | (cases h; done) | rw [We] | rfl
 all_goals (intros; contradiction)
section
variable {X:Cx} {c:Fc} {e:Expr} {es:List Expr} {f fe:DE} {g:DA} {as:List Ak}
theorem z0m (ha:SE X c e f) (hr:SA X c es g) (hs:z4j e=true:=by rfl):SA X c (e :: es) (z0u f g):=zaU ha hr (z52 hs)
theorem z00 (ha:SE X c e fe) (hr:SX X c es as) (hs:z4j e=true:=by rfl):SX X c (e :: es) (.val fe :: as):=zfA ha hr (z52 hs)
theorem z1S {i:Nat} (ha:PE X e (tVar i)) (hr:SX X c es as) (hs:z4j e=true:=by rfl):SX X c (e :: es) (.io i :: as):=sx_io ha hr (z52 hs)
end
mutual
def z4a:Nat→Expr→Option D
 | _,.Constant (.int i) _ _=>some (.int i)
 | _,.Constant (.bool b) _ _=>some (.bl b)
 | _,.Constant .none _ _=>some .non
 | _,.Constant (.str x) _ _=>some (.str x.cps.toList)
 | n + 1,.Tuple es _ _=>if es.length≤1000 then (z4s n es).map .tup else none
 | _,_=>none
def z4s:Nat→List Expr→Option (List D)
 | _,[]=>some []
 | n,e :: es=>match z4a n e,z4s n es with
  | some d,some ds=>some (d :: ds)
  | _,_=>none
end
theorem zao:∀ {n:Nat} {e:Expr} {d:D},z4a n e=some d→z4j e=true:=fun {n e d} h=>by
 cases e <;> first | rfl | (cases n <;> simp [z4a] at h)
mutual
theorem zaS:∀ {n:Nat} {e:Expr} {d:D},z4a n e=some d→SE X c e (eD d)
 | _,.Constant (.int i) _ _,d,h=>by
  simp only [z4a,W7] at h; subst h; exact z09
 | _,.Constant (.bool b) _ _,d,h=>by
  simp only [z4a,W7] at h; subst h; exact z2m
 | _,.Constant .none _ _,d,h=>by
  simp only [z4a,W7] at h; subst h; exact z9t
 | _,.Constant (.str x) _ _,d,h=>by
  simp only [z4a,W7] at h; subst h; exact z80 _ (zdF x)
 | 0,.Tuple es k pos,d,h=>by simp [z4a] at h
 | n + 1,.Tuple es k pos,d,h=>by
  simp only [z4a] at h
  split at h
  ·rename_i hl
   cases e:z4s n es with
   | none=>rw [e] at h; cases h
   | some ds =>
    rw [e] at h
    simp only [WK,W7] at h
    subst h
    exact z2B (z5V e) hl
  ·cases h
theorem z5V:∀ {n:Nat} {es:List Expr} {ds:List D},z4s n es=some ds→SA X c es (fun δ=>.ok ds δ)
 | _,[],ds,h=>by
  simp only [z4s,W7] at h; subst h; exact z1J
 | n,e :: es,ds,h=>by
  simp only [z4s] at h
  split at h
  ·rename_i d ds' h1 h2
   cases h
   exact zaU (zaS h1) (z5V h2) (z52 (zao h1))
  ·cases h
end
def zf8 (ds:List D):DE:=fun δ=>.ok (.own (.lst ds)) δ
theorem zaR {X:Cx} {c:Fc} {es:List Expr} {ds:List D} {pos:Pos} (h:z4s 9 es=some ds) (hl:es.length≤1000):SE X c (.List es pos) (zf8 ds):=z5Q (z5V h) hl
section
variable {X:Cx} {c:Fc} {e:Expr} {fe:DE} {pos:Pos} {tg:Expr}
theorem z1W {x:Str} {i:Int} (hg:Gl X x) (hm:∃ t,X.mg x=some (.int i t)) (hd:(x == ("__debug__" : Str))=false:=by decide):SE X c (.Name x pos) (eD (.int i)):=by
 obtain ⟨t,h⟩:=hm
 exact za4 hg h hd
theorem z7b (he:SE X c e fe) (hs:Jt e none pos.line X.env=pure false:=by rfl):SS X c (.Expr e pos) (z6q fe) :=
 zee he (fun _=>hs) trivial (zbc he hs)
theorem z3Z {i:Nat} {o:Expr} {apos cpos:Pos} (ho:PE X o (tVar i)) (he:SE X c e fe)
  (hbase:attributeBase o "append" X.env (eval o X.env)=eval o X.env:=by rfl)
  (hfew:((QL cpos (We [e] X.env)).all (fun x=>!x.1) && (backToKw cpos (keywordEach [] X.env)).all (fun x=>x.1.isSome)
   && decide ([e].length + ([]:List Keyword).length + (if ([]:List Keyword).isEmpty then 0 else 1) < 30))=true:=by rfl)
  (hline:(apos.endLine == cpos.line)=true:=by rfl) (hs:We [e] X.env=(false,eval e X.env) :: We [] X.env:=by rfl)
  (hsw:Jt (.Call (.Attribute o "append" apos) [e] [] cpos) none pos.line X.env=pure false:=by rfl):SS X c (.Expr (.Call (.Attribute o "append" apos) [e] [] cpos) pos) (z1e i fe) :=
 zaH (p0:=apos) ho he (zbc (zgg PySem.F.plainAttrs_list PySem.F.slot_list_append PySem.F.type_list_append z8q ho (z1x he z32 hs) hbase hfew hline hs rfl) hsw)
end
def noL (K:W1):Bool:=K.all fun p=>match p.2.cls with
 | .type t=>!(t == "list")
 | _=>true
theorem zdO [BEq α] [LawfulBEq α]:∀ {K:List (α×β)} {a:α} {o:β},K.lookup a=some o→(a,o) ∈ K
 | [],a,o,e=>by simp at e
 | (b,o') :: r,a,o,e=>by
  rw [Qj] at e
  cases hb:a == b with
  | true =>
   rw [hb] at e
   have h1:o'=o:=Wy e
   have h2:a=b:=eq_of_beq hb
   rw [h1,h2]
   exact Wm
  | false =>
   rw [hb] at e
   exact Wi _ (zdO e)
theorem zgy {K:W1} {a:Addr} {o:Obj} (h:noL K=true) (e:K.lookup a=some o) (hc:o.cls = .type "list"):False:=by
 have hm:(a,o) ∈ (K:List (Addr×Obj)):=zdO e
 have h1:=WF.mp h (a,o) hm
 have h2:(match o.cls with | .type t=>!(t == "list") | _=>true)=true:=h1
 rw [hc] at h2
 have h3:(!(("list" : String) == "list"))=true:=h2
 rw [beq_self_eq_true] at h3
 cases h3
theorem zgD {K:W1} {G:DF} {H:Hp} {a:Addr} {ns:List Int} {E:XK} (hK:noL K=true) (hS:SqL K H a (ns.map V.int)) (hG:∃ outs,G [.pure (.lst (ns.map .int))]=some (.pure (.bl true),outs)) :
  spD 1 G [.ref a] H (fun v _=>v = .bl true) E:=by
 have hR:Rd H a (.lst (ns.map V.int)):=by
  rcases hS with h | ⟨o,its,n,e,hc,_⟩
  ·exact h
  ·exact (zgy hK e hc).elim
 obtain ⟨outs,hg⟩:=hG
 have rep:∀ O:Addr→Prop,¬ O a→Rep H O (.ref a) (.lst (ns.map D.int)):=fun O hO=>.lst hO hR (by simp) fun i v d e1 e2=>by
  rw [Q0] at e1 e2
  cases e:ns[i]? with
  | none=>rw [e] at e1; cases e1
  | some k=>rw [e] at e1 e2; cases e1; cases e2; exact .int k
 refine ⟨[.pure (.lst (ns.map .int))],fun _=>False,rfl,⟨fun b o e _=>e,fun b z=>z.elim,fun b ⟨i,z⟩=>?_,rfl,fun i d e=>?_,fun i d e=>?_,fun i j b d d' e1 e2 e3 e4=>?_,fun p z=>?_⟩,_,outs,hg,fun v H' x r=>?_⟩
 ·simp [z1n] at z
 ·cases i with
  | zero =>
   simp at e
   subst e
   refine ⟨.ref a,rfl,rep _ fun z=>?_⟩
   rcases z with z | ⟨j,d',z1,z2⟩
   ·exact z
   ·cases j with
    | zero=>simp at z1
    | succ j=>simp at z1
  | succ i=>simp at e
 ·cases i with
  | zero=>simp at e
  | succ i=>simp at e
 ·cases i with
  | zero=>simp at e1
  | succ i=>simp at e1
 ·simp [z1n] at z
 ·cases r
  rfl
theorem walkD {l:PySem.W.OpenLaw} {q:Wl} {loose:List Str} {XP:(Str→Option Value)→Heap→Prop} {YP:Wq→Heap→Prop} {d:DefRec} {K:Params→W1} {k:Nat} {G:DF} (hn:l.most=some 63) (hdf:d.params.defaults=[]) (hr:Room k callerA)
  (hY:∀ (w:Wq) (h:Heap),YP w h→(K w.params).In h) (hL:∀ p:Params,noL (K p)=true)
  (hG:∀ ns:List Int,ns.length≤63→∃ outs,G [.pure (.lst (ns.map .int))]=some (.pure (.bl true),outs))
  (F:∀ (w:Wq) (mg:Str→Option Value) (fa:Addr) (h:Heap),(K w.params).In h→h.Ns Wz mg→mg d.name=some (.ref fa) →
   ∃ fd:Q7,(∀ (s:W2) (u:Value),BindsTo s fd ⟨[u],[]⟩ [("script",u)])∧∀ base:Heap,(K w.params).In base→base.Ns Wz mg→FnOk l.prog w (K w.params) mg base CX0 k fa fd ["script"] (spD 1 G)) :
  PySem.W.WalkO q loose XP YP l.row.toRowW d [] (fun f vs=>PySem.call f vs) :=
 L2.walk_of (n:=63) (k:=k) (x:="script") (CX:=fun _=>CX0) (sp:=fun _=>spD 1 G) hn (by decide) hdf hr hY F (fun w H a ns hl _ hS=>zgD (hL w.params) hS (hG ns hl)) fun _ _ _ _ _ z=>z
end DV
set_option maxHeartbeats 400000
namespace L2
open PySem PySem.Spec PyProof.Rows
def Its (x:Str):It:=⟨fun i _=>i < x.cps.size,fun i H y H'=>H'=H∧∃ c,x.cps[i]? = some c∧y = .str ⟨#[c]⟩,fun i _=>i=x.cps.size⟩
theorem zcD {P:Wl} {w:Wq} {K:W1} {tg:Expr} (x:Str) (t:Tok) (it:Addr) (T:String) (hT:T = "str_ascii_iterator"∨T = "str_iterator"):Turn P w K tg (Its x) [it] it (fun i h=>h.IsStrIter it T x t i):=by
 have W:∀ A:Wr,A.handled=none→Walks P w A it [it] [it] x.cps.size (SignAt x) (fun i h=>h.IsStrIter it T x t i):=fun A hh=>by
  rcases hT with rfl | rfl
  ·exact Walks.strAscii hh it x t
  ·exact Walks.strWide hh it x t
 refine ⟨by simp,fun i h st b hb=>?_,fun i h h' st k=>?_,?_,?_,fun A i s Q E st h=>?_⟩
 ·have e:b=it:=by simpa using hb
  subst e
  obtain ⟨o,e,c,d⟩:=st
  exact ⟨o,e,fun v z=>by rw [d] at z; cases z⟩
 ·obtain ⟨o,e,r⟩:=st
  exact ⟨o,k it (by simp) o e,r⟩
 ·intro X hP hw hK hc i pins s σ H E I hf st hg
  subst hP hw hK
  obtain ⟨f0,f1,f2,f3,f4,f5⟩:=hf it (by simp)
  refine (W X.A (I.ok.hd hc)).item i s _ _ hg st fun v h' tk hv st' kk=>?_
  obtain ⟨c,u,hx,rfl⟩:=hv
  have I1:Inv X pins σ H { s with heap:=h',toks:=tk }:=I.turned (fun b o hb e=>kk b o (by simpa using hb) e) f0 f1 f3 f4 f5
  obtain ⟨o,e,c',d⟩:=id st'
  refine ⟨_,rfl,zdj (s:={ s with heap:=h',toks:=tk }) e c' d (by rcases hT with rfl | rfl <;> decide) ⟨.str ⟨#[c]⟩,H,I1,⟨u,rfl⟩,⟨rfl,c,hx,rfl⟩,st',fun b hb=>(hf b hb).1⟩⟩
 ·intro X hP hw hK hc i pins s σ H E I hf st hg
  subst hP hw hK
  have hg':i=x.cps.size:=hg
  subst hg'
  obtain ⟨f0,f1,f2,f3,f4,f5⟩:=hf it (by simp)
  exact (W X.A (I.ok.hd hc)).done s _ _ st fun h' tk eb=>⟨rfl,I.turned (fun b o hb e=>eb b o (by simpa using hb) e) f0 f1 f3 f4 f5⟩
 ·rcases hT with rfl | rfl
  ·exact wpAny_pyIter_striter_ascii st h
  ·exact wpAny_pyIter_striter_wide st h
end L2
namespace DV
open PySem PySem.Spec PyProof.Rows L2
section
variable {X:Cx} {c:Fc} {tg e:Expr} {fe:DE} {pos pp:Pos}
def iSeqS (K:W1) (tl:TE):TI:=fun σ H R=>tl σ H fun x H1=>(∃ a,x = .ref a∧(∃ xs,SqL K H1 a xs)∧R (Itl K a) H1)∨(∃ a,x = .ref a∧(∃ xs,SqT K H1 a xs)∧R (Itt K a) H1)∨∃ z,x = .str z∧R (Its z) H1
theorem zev {l:Expr} {tl:TE} (hl:PE X l tl):PI X tg l (iSeqS X.K tl):=by
 intro pins s σ H R I h
 refine thn (hl pins s σ H _ I h) fun v s1 ⟨x,H1,I1,r1,q1⟩=>?_
 rcases q1 with q1 | q1 | ⟨z,e,q⟩
 ·obtain ⟨a,e,⟨xs,hq⟩,q⟩:=q1
  subst e
  cases r1
  obtain ⟨its,rv,p,hz⟩:=I1.list hq
  refine JF p.isList ?_
  refine ⟨s1.heap.objs.size,[s1.heap.objs.size],_,_,H1,rfl,I1.kept (t':=s1.toks) fun b o e=>W4 _ e,zaB a _,⟨_,Wj _ rfl,rfl,rfl⟩,fun b hb=>?_,q⟩
  have e:b=s1.heap.objs.size:=by simpa using hb
  subst e
  exact I1.fpOk (W8 _) (I1.hok.fresh (W8 _))
 ·obtain ⟨a,e,⟨xs,hq⟩,q⟩:=q1
  subst e
  cases r1
  obtain ⟨its,rv,p,hz⟩:=I1.tuple hq
  refine J9 (show s1.heap.IsTuple a its.toArray from p) ?_
  refine ⟨s1.heap.objs.size,[s1.heap.objs.size],_,_,H1,rfl,I1.kept (t':=s1.toks) fun b o e=>W4 _ e,z9Y a _,⟨_,Wj _ rfl,rfl,rfl⟩,fun b hb=>?_,q⟩
  have e:b=s1.heap.objs.size:=by simpa using hb
  subst e
  exact I1.fpOk (W8 _) (I1.hok.fresh (W8 _))
 ·subst e
  obtain ⟨t,rfl⟩:=r1
  refine wpAny_pyIter_strU ?_
  have hT:strIterType z = "str_ascii_iterator"∨strIterType z = "str_iterator":=by
   unfold strIterType
   split
   ·exact .inl rfl
   ·exact .inr rfl
  refine ⟨s1.heap.objs.size,[s1.heap.objs.size],_,_,H1,rfl,I1.kept (t':=s1.toks) fun b o e=>W4 _ e,zcD z t _ _ hT,⟨_,Wj _ rfl,rfl,rfl⟩,fun b hb=>?_,q⟩
  have e:b=s1.heap.objs.size:=by simpa using hb
  subst e
  exact I1.fpOk (W8 _) (I1.hok.fresh (W8 _))
theorem zgM (z:Tx):ItOk c σ δ H (Its (toS z)) (z.map fun n=>D.str [n]):=by
 intro H2 kp
 have hsz:(toS z).cps.size=z.length:=by simp [toS]
 refine ⟨by show (z.map _).length=_; rw [hsz]; simp,fun i d e=>?_⟩
 rw [Q0] at e
 cases ez:z[i]? with
 | none=>rw [ez] at e; cases e
 | some n =>
  rw [ez] at e
  cases e
  have hi:i < z.length:=(Wc.mp ez).1
  refine ⟨by show i < _; rw [hsz]; exact hi,fun x H3 ⟨e3,cc,hc,hx⟩=>.inl ⟨e3,?_⟩⟩
  have:(toS z).cps[i]? = z[i]?:=by simp [toS]
  rw [this,ez] at hc
  cases hc
  rw [hx]
  exact .str [n]
def iSq (f:DE):DI:=fun δ=>(f δ).bind fun r δ1=>match r.d with
 | .lst ds=>.ok ds δ1
 | .tup ds=>.ok ds δ1
 | .str x=>.ok (x.map fun n=>.str [n]) δ1
 | _=>.stuck
theorem z41 (he:SE X c e fe):SI X c tg e (iSq fe):=PI.weak (zev he) fun σ H R ⟨δ,k,q⟩=>by
 unfold iSq at q
 rw [z06] at q
 refine ⟨δ,k,z03 q fun r δ1 q1 v H1 a1 r1=>?_⟩
 have rr:=r1.rep
 generalize r.d=d at q1 rr
 cases d <;> first | exact q1.elim | skip
 ·cases rr
  exact .inr (.inr ⟨_,rfl,q1 _ H1 a1 (zgM _)⟩)
 ·cases rr with
  | tup h1 h2 h3 h4=>exact .inr (.inl ⟨_,rfl,⟨_,.of h2⟩,q1 _ H1 a1 (zgL _ h2 (fun z=>h1 (.inr z)) ⟨h3,h4⟩)⟩)
 ·cases rr with
  | lst h1 h2 h3 h4 =>
   refine .inl ⟨_,rfl,⟨_,.inl h2⟩,q1 _ H1 a1 ?_⟩
   intro H2 kp
   rename_i a vs
   have h5:Rd H2 a (.lst vs):=Rd.keep h2 fun o e=>kp a o e fun z=>h1 (.inr z)
   have r':Reps H1 (Av c σ δ1) vs _:=⟨h3,h4⟩
   refine ⟨⟨vs,.inl h5,by rw [r'.1]; exact W8 _⟩,fun i d e=>?_⟩
   obtain ⟨v,ev,rv⟩:=r'.get e
   refine ⟨⟨vs,v,.inl h5,ev⟩,fun x H3 ⟨e3,y⟩=>.inl ⟨e3,?_⟩⟩
   have:=y vs (.inl h5)
   rw [ev] at this
   cases this
   exact rv
end
end DV
namespace L2
open PySem PySem.Spec PyProof.Rows
theorem z6J (a:Int) (t:Tok) (l:Addr) (dd:Option Addr) (items:Array Value) (n:Nat) (sl:Array (Option Value)) :
  Meets (Builtin.«int.__rmul__» ⟨[.int a t,.ref l],[]⟩) (fun _ R s=>s.heap.get? l=some { cls:=.type "tuple",dict:=dd,data:=.seq items n,slots:=sl }∧R (.ok (.ret Value.notImplemented)) s) :=
 .of_wp fun prog w A R s h=>by obtain ⟨hp,g,d,tk,os⟩:=s; obtain ⟨hl,h⟩:=h; wp_walk; exact ⟨_,rfl,h⟩
theorem z5y:fillsNumberSlot (.type "tuple") "mul" = pure false :=
 PySem.fillsNumberSlot_seq (id:="tuple.__mul__") (r:=some (.builtin "tuple.__rmul__")) F.slot_tuple_mul.lookup (by decide +kernel) F.slot_tuple_rmul.lookup (by decide +kernel)
theorem z88:seqRepeat? (.type "tuple")=pure (some (.builtin "tuple.__mul__")):=by
 unfold seqRepeat?
 rw [PySem.seqSlot_of (T:="tuple") (name:="__mul__") (id:="tuple.__mul__") F.slot_tuple_mul.lookup (by decide +kernel),PySem.seqSlot_of (T:="tuple") (name:="__rmul__") (id:="tuple.__rmul__") F.slot_tuple_rmul.lookup (by decide +kernel)]
 rfl
theorem z6x (l:Addr) (dd:Option Addr) (items:Array Value) (n:Nat) (sl:Array (Option Value)) (x:Int) (u:Tok) (h1:¬ (decide (x < -(2 ^ 63)) || decide (x ≥ 2 ^ 63))=true) (h2:¬ (items.isEmpty || x == 1)=true) (h3:¬ (decide (x≤0) || items.isEmpty)=true) (h4:¬ items.size * x > (2 ^ 63 - 1) / 8) (h5:¬ Builtin.Tuple.tupleTooMany (items.size * x)=true) (h6:((Wd x.toNat items).foldl (· ++ ·) #[]).size≤W6) :
  Meets (Builtin.«tuple.__mul__» ⟨[.ref l,.int x u],[]⟩) (fun _ R s=>s.heap.get? l=some { cls:=.type "tuple",dict:=dd,data:=.seq items n,slots:=sl } ∧
   R (.ok (.ret (.ref s.heap.objs.size))) { s with heap:=s.heap.push { cls:=.type "tuple",data:=.seq ((Wd x.toNat items).foldl (· ++ ·) #[]) } }) :=
 .of_wp fun prog w A R s h=>by
  obtain ⟨hp,g,d,tk,os⟩:=s; obtain ⟨hl,h⟩:=h
  wp_walk
  rw [if_neg h1]
  wp_walk
  try rw [if_neg h2]
  try wp_walk
  try rw [if_neg h3]
  try wp_walk
  try rw [if_neg h4]
  try wp_walk
  try rw [if_neg h5]
  try wp_walk
  exact ⟨_,rfl,h⟩
theorem z7H (its:List α):∀ (k:Nat) (acc:List α),List.foldl (fun x1 x2:Array α=>x1 ++ x2) acc.toArray (Wd k its.toArray)=(acc ++ (Wd k its).flatten).toArray
 | 0,acc=>by simp
 | k + 1,acc=>by
  rw [Q9,Qn,show acc.toArray ++ its.toArray=(acc ++ its).toArray by simp,z7H its k]
  simp [Q9]
section
variable {X:Cx}
def zfT (K:W1):R2:=fun x y H Q=>∃ l k xs,x = .ref l∧y = .int k∧SqT K H l xs∧xs≠[]∧2≤k∧k≤1000000∧xs.length * k.toNat≤W6∧∀ p,H p=none→Q (.ref p) (upd H p (.tup (Wd k.toNat xs).flatten))
theorem zeF:OpR X (Qi .Mult) (zfT X.K):=by
 intro pins s σ H x y v u Q I rx ry h
 obtain ⟨l,k,xs,rfl,rfl,hH,hne,h1,h2,hz,q⟩:=h
 cases rx
 obtain ⟨t,rfl⟩:=ry
 obtain ⟨its,r,pl,hl⟩:=I.tuple hH
 obtain ⟨⟨cls,dd,data,sl⟩,ho,hc,n,hd⟩:=id pl
 simp only at hc hd
 subst hc hd
 have hlen:its.toArray.size=xs.length:=by rw [Wb]; exact r.length.symm
 have hem:its.toArray.isEmpty=false:=by
  cases its with
  | nil=>exact absurd (r.nil_iff.mp rfl) hne
  | cons a b=>rfl
 have hline:W6=16777216:=rfl
 have hk:(k.toNat:Int)=k:=by omega
 have hmul:((its.toArray.size:Nat):Int) * k=((xs.length * k.toNat:Nat):Int):=by rw [hlen,Int.natCast_mul,hk]
 have hfold:List.foldl (fun x1 x2=>x1 ++ x2) #[] (Wd k.toNat its.toArray)=(Wd k.toNat its).flatten.toArray:=by
  have:=z8E its k.toNat []
  rw [Qf] at this
  exact this
 refine wpAny_binaryOp_repeat_ref (T:="tuple") (U:="int") (by decide) ⟨_,ho,rfl⟩ (fun s'=>JC s' k t) z5y F.fills_int_mul F.slot_int_rmul z88 F.slot_int_index.lookup
  (call_meets F.slot_int_rmul (JC s k t) F.entry_int_rmul (F.args_int_rmul_2 _ _) (z6J k t l dd its.toArray n sl)
   ⟨ho,rfl,⟨_,ho,rfl⟩,call_meets F.slot_tuple_mul ⟨_,ho,rfl⟩ F.entry_tuple_mul (F.args_tuple_mul_2 _ _) (z6x l dd its.toArray n sl k t ?_ ?_ ?_ ?_ ?_ ?_) ⟨ho,?_⟩⟩)
 ·simp; omega
 ·rw [hem]; simp; omega
 ·rw [hem]; simp; omega
 ·rw [hmul]; omega
 ·rw [hmul]
  unfold Builtin.Tuple.tupleTooMany
  rw [hline] at hz
  generalize xs.length * k.toNat=m at hz
  simp only [hline,decide_eq_true_eq]
  omega
 ·rw [hfold,Wb,z99,← r.length,Qc]; exact hz
 ·rw [hfold]
  have I1:Inv X pins σ (upd H s.heap.objs.size (.tup (Wd k.toNat xs).flatten)) { s with heap:=s.heap.push { cls:=.type "tuple",data:=.seq (Wd k.toNat its).flatten.toArray } } :=
   I.laid (t':=s.toks) (fun b o e=>W4 _ e) (W8 _) (show ObjOk X.prog X.w _ _ _ (.tup (Wd k.toNat xs).flatten) from ⟨by rw [z99,Qc]; exact hz,(Wd k.toNat its).flatten,r.rep k.toNat,IsTupN.new _ _⟩)
  exact ⟨.ref _,_,I1,rfl,q _ (I.hok.fresh (W8 _))⟩
def zfU:R2:=fun x y H Q=>∃ z k,x = .str z∧y = .int k∧2≤k∧k≤1000000∧0 < z.length∧z.length * k.toNat≤W6∧Q (.str ⟨(Wd k.toNat z.cps).foldl (· ++ ·) #[]⟩) H
theorem op_repS:OpR X (Qi .Mult) zfU:=by
 intro pins s σ H x y v u Q I rx ry h
 obtain ⟨z,k,rfl,rfl,h1,h2,h0,hz,q⟩:=h
 obtain ⟨t,rfl⟩:=rx
 obtain ⟨t',rfl⟩:=ry
 have hline:W6=16777216:=rfl
 have c1:¬ k < 1:=by omega
 have c2:(k == 1 || z.length == 0)=false:=by
  simp
  omega
 refine PySem.P.mul_str (by simp; omega) (fun _ _=>?_) (fun _ _=>?_) ?_
 ·have hm:(z.length:Int) * k≤16777216:=by
   have:(z.length:Int) * k=((z.length * k.toNat:Nat):Int):=by rw [Int.natCast_mul,show (k.toNat:Int)=k by omega]
   rw [this]
   rw [hline] at hz
   omega
  have:(z.length:Int)≤(2 ^ 63 - 1) / k:=(Int.le_ediv_iff_mul_le (by omega)).mpr (by omega)
  omega
 ·unfold Builtin.Str.tooLong
  rw [hline] at hz
  generalize z.length * k.toNat=m at hz
  simp only [hline,decide_eq_false_iff_not]
  omega
 ·rw [if_neg c1,if_neg (by rw [c2]; simp)]
  have hsz:((Wd k.toNat z.cps).foldl (· ++ ·) #[]).size=k.toNat * z.length:=by
   have h:=z7H z.cps.toList k.toNat []
   simp only [Qf,Array.toArray_toList] at h
   rw [h,Wb,z99]
   simp [Str.length]
  exact ⟨by show ((Wd k.toNat z.cps).foldl (· ++ ·) #[]).size≤_; rw [hsz,Qc]; exact hz,.str _,H,I.tok _,⟨_,rfl⟩,q⟩
theorem z6Q:∀ {xs:List Nat} {us:List Value},us.length=xs.length→(∀ (j n:Nat) (v:Value),xs[j]? = some n→us[j]? = some v→∃ w,v = .str ⟨#[n]⟩ w)→Vals (xs.map fun n=>V.str ⟨#[n]⟩) us
 | [],[],_,_=>.nil
 | [],u :: us,h,_=>by simp at h
 | x :: xs,[],h,_=>by simp at h
 | x :: xs,u :: us,h,k=>.cons (by obtain ⟨w,e⟩:=k 0 x u rfl rfl; exact ⟨w,e⟩) (z6Q (by simpa using h) fun j n v h1 h2=>k (j + 1) n v (by simpa using h1) (by simpa using h2))
theorem z6K (hc:X.calm=true):CallR X (.type "list") (fun xs H Q=>∃ z:Str,xs=[.str z]∧z.cps.size≤W6∧∀ l,H l=none→Q (.ref l) (upd H l (.lst (z.cps.toList.map fun n=>V.str ⟨#[n]⟩)))):=by
 intro pins s σ H xs us Q I r h
 obtain ⟨z,rfl,hz,q⟩:=h
 obtain ⟨u,rfl,t,rfl⟩:=z4b r
 refine call_list_str (hn:=hz) (I.ok.hd hc) z t fun h' tk acc c' kp e hacc=>?_
 have hv:Vals (z.cps.toList.map fun n=>V.str ⟨#[n]⟩) acc.toList:=z6Q (by simp [hacc.1]) fun j n v h1 h2=>by
  obtain ⟨c,w,h3,h4⟩:=hacc.2 j v (by simpa using h2)
  rw [show z.cps[j]? = some n by simpa using h1] at h3
  cases h3
  exact ⟨w,h4⟩
 exact ⟨.ref s.heap.objs.size,_,I.laid (t':=tk) kp (W8 _) (show ObjOk X.prog X.w _ h' _ (.lst _) from ⟨by simpa using hz,acc.toList,c',hv,by simpa using e⟩),rfl,q _ (I.hok.fresh (W8 _))⟩
end
end L2
namespace DV
open PySem PySem.Spec PyProof.Rows L2
def z2P:D→D→Option S
 | .int i,.int j=>pMul (.int i) (.int j)
 | .str x,.int k=>if 2≤k∧k≤1000000∧0 < x.length∧x.length * k.toNat≤W6 then some (.pure (.str (Wd k.toNat x).flatten)) else none
 | .tup xs,.int k=>if 2≤k∧k≤1000000∧0 < xs.length∧xs.length * k.toNat≤W6 then some (.pure (.tup (Wd k.toNat xs).flatten)) else none
 | _,_=>none
def zfV (K:W1):R2:=fun x y H Q=>rI CMul (fun i j=>V.int (i * j)) x y H Q∨zfU x y H Q∨zfT K x y H Q
theorem z2Q:OpR X (Qi .Mult) (zfV X.K):=op_mul.or (op_repS.or zeF)
theorem Reps.rep (h:Reps H O vs ds):∀ k:Nat,Reps H O (Wd k vs).flatten (Wd k ds).flatten
 | 0=>.nil
 | k + 1=>by rw [Q9,Q9,QU,QU]; exact h.append (Reps.rep h k)
theorem z2R {K:W1}:Op2 (zfV K) z2P:=by
 intro c σ δ H x y d e s Q k rx ry hp q
 cases d <;> cases e <;> first | (simp [z2P] at hp; done) | skip
 ·exact .inl (zgt c σ δ H x y _ _ s Q k rx ry hp q)
 ·rename_i z n
  simp only [z2P] at hp
  split at hp
  ·rename_i h
   cases hp
   refine .inr (.inl ⟨toS z,n,rx.str,ry.int,h.1,h.2.1,by rw [z2l]; exact h.2.2.1,by rw [z2l]; exact h.2.2.2,?_⟩)
   have e:(⟨(Wd n.toNat (toS z).cps).foldl (· ++ ·) #[]⟩:Str)=toS (Wd n.toNat z).flatten:=by
    unfold toS
    congr 1
    have:=z7H z n.toNat []
    rw [Qf] at this
    exact this
   rw [e]
   exact q _ H (.refl k) (.str _)
  ·cases hp
 ·rename_i ds n
  simp only [z2P] at hp
  split at hp
  ·rename_i h
   cases hp
   obtain ⟨a,vs,ex,ha,r⟩:=rx.tup
   refine .inr (.inr ⟨a,n,vs,ex,ry.int,.of ha,?_,h.1,h.2.1,by rw [r.1]; exact h.2.2.2,fun p hp'=>?_⟩)
   ·intro z
    rw [z] at r
    have:=r.1
    simp at this
    omega
   ·exact q _ _ (.alloc k hp' _) (RepS.newT k (Reps.rep r _) hp')
  ·cases hp
theorem RepS.newD (k:Ok c σ δ H) (hp:H p=none):RepS c σ δ H (upd H p (.dK [])) (.ref p) (.own (.dct [])):=by
 refine ⟨p,rfl,⟨[],z0M,rfl,fun i p q e=>by simp at e⟩,fun z=>k.nav hp (.inl z),k.fresh₀ hp,k.plus hp _,hp⟩
def zdW:DE:=fun δ=>.ok (.own (.dct [])) δ
theorem zcK {X:Cx} {c:Fc} {pos:Pos}:SE X c (.Dict [] [] pos) zdW:=PE.weak zcY fun σ H Q ⟨δ,k,q⟩=>fun p hp=>q _ _ (.alloc k hp _) (RepS.newD k hp)
def z48:D→Option S
 | .lst ds=>some (.own (.lst ds))
 | .tup ds=>some (.own (.lst ds))
 | .str x=>if x.length≤W6 then some (.own (.lst (x.map fun n=>.str [n]))) else none
 | _=>none
section
variable {X:Cx} {c:Fc} {e a x y:Expr} {fb:BE} {f g fa:DE} {pos pp p p2:Pos}
theorem z6S:∀ z:Tx,Reps H O (z.map fun n=>V.str ⟨#[n]⟩) (z.map fun n=>D.str [n])
 | []=>.nil
 | n :: r=>.cons (.str [n]) (z6S r)
theorem zcJ (hc:X.calm=true) (hg:Gl X "list") (hm:X.mg "list" = none) (he:SB X c e fb) (hs:z4j e=true:=by rfl):SE X c (.Call (.Name "list" pp) [e] [] pos) (eC1 z48 fb) :=
 z4F (r:=fun v H Q=>(∃ p ys,v = .ref p∧(SqL X.K H p ys∨SqT X.K H p ys)∧∀ l,H l=none→Q (.ref l) (upd H l (.lst ys)))∨∃ z:Str,v = .str z∧z.cps.size≤W6∧∀ l,H l=none→Q (.ref l) (upd H l (.lst (z.cps.toList.map fun n=>V.str ⟨#[n]⟩))))
  (call_list_of.or (z6K hc)) (fun v H Q h=>by
   rcases h with ⟨p,ys,e,h⟩ | ⟨z,e,h⟩
   ·exact .inl ⟨p,ys,by rw [e],h⟩
   ·exact .inr ⟨z,by rw [e],h⟩)
  (fun c σ δ H x d s Q k rx hp q=>by
   cases d with
   | lst ds =>
    cases hp
    obtain ⟨a,vs,ex,ha,r⟩:=rx.lst
    exact .inl ⟨a,vs,ex,.inl (.inl ha),fun l hl=>q _ _ (.alloc k hl _) (RepS.newL k r hl)⟩
   | tup ds =>
    cases hp
    obtain ⟨a,vs,ex,ha,r⟩:=rx.tup
    exact .inl ⟨a,vs,ex,.inr (.of ha),fun l hl=>q _ _ (.alloc k hl _) (RepS.newL k r hl)⟩
   | str z =>
    simp only [z48] at hp
    split at hp
    ·rename_i hz
     cases hp
     refine .inr ⟨toS z,rx.str,by simpa [toS] using hz,fun l hl=>?_⟩
     have:(toS z).cps.toList=z:=by simp [toS]
     rw [this]
     exact q _ _ (.alloc k hl _) (RepS.newL k (z6S z) hl)
    ·cases hp
   | _=>simp [z48] at hp) hg hm PyProof.Rows.boot_list he (by decide) (by decide) (z52 hs)
def eInR (neg:Bool) (fa f g:DE):DE:=fun δ=>(fa δ).bind fun v δ1=>(f δ1).bind fun lo δ2=>(g δ2).bind fun hi δ3=>match v.d,lo.d,hi.d with
 | .int i,.int l,.int h=>.ok (.pure (.bl (if neg then !(decide (l≤i) && decide (i < h)) else (decide (l≤i) && decide (i < h))))) δ3
 | _,_,_=>.stuck
end
end DV
set_option maxHeartbeats 1000000
namespace L2
open PySem PySem.Spec PyProof.Rows
theorem z3M:entryFor table "dict.update.loop" = some Builtin.«dict.update.loop»:=entryFor_of_tree (by kernel_rfl)
theorem z1p:plainId "dict.update.loop" = true:=by decide +kernel
theorem z6a:typeLookup (.type "tuple") "keys" = pure none:=by rw [typeLookup_type,Jj]; kernel_rfl
theorem z6I:typeLookup (.type "list") "keys" = pure none:=by rw [typeLookup_type,Jj]; kernel_rfl
set_option maxRecDepth 8000 in
theorem z8p
  (hx:s.heap.get? a=some o) (hc:o.cls = .type "tuple") (hdat:o.data = .seq xs k) (hd:o.dict=none) (hA:A.handled=none)
  (h:∀ h' tk,(∀ b ob,s.heap.get? b=some ob→h'.get? b=some ob)→Q none { s with heap:=h',toks:=tk }) :
  W5 (model prog w) A (getAttr? (.ref a) "keys") Q E s:=by
 obtain ⟨c,dct,dat,sl⟩:=o
 simp only at hc hdat hd
 subst hc hdat hd
 obtain ⟨hp,g,d,tk,os⟩:=s
 have hT:∀ tk',(⟨hp,g,d,tk',os⟩:W2).TypeIs (.ref a) "tuple":=fun _=>⟨_,hx,rfl⟩
 have f1:=sub_AttributeError
 have f3:=F.slot_tuple_getattribute.lookup
 have f4:=F.slot_tuple_getattribute.bind (.ref a)
 have f5:=am_tuple_getattr_none
 have hmiss:=z6a
 unfold getAttr? getAttrBy? getAttrBy
 repeat (any_goals (first | assumption | exact hT _ | ((with_reducible show W5 _ _ (call (Value.builtin "tuple.__getattribute__") _ _) _ _ _); refine call_meets F.slot_tuple_getattribute (hT _) am_entry_tuple_getattribute (F.args_tuple_getattribute_2 _ _) (meets_getattribute_miss_tuple a xs k sl "keys" _ hmiss (by decide +kernel)) ⟨hx,hA,fun h' tk' e hx'=>?_⟩) | wp_step))
 obtain ⟨t',u',he⟩:=hx'.there
 show W5 _ _ (Jw _ _ _ _ _ _ _) _ _ _
 unfold Jw
 repeat (any_goals (first | assumption | wp_step))
 exact h _ _ hx'.keeps
set_option maxRecDepth 8000 in
theorem z96
  (hx:s.heap.get? a=some o) (hc:o.cls = .type "list") (hdat:o.data = .seq xs k) (hd:o.dict=none) (hA:A.handled=none)
  (h:∀ h' tk,(∀ b ob,s.heap.get? b=some ob→h'.get? b=some ob)→Q none { s with heap:=h',toks:=tk }) :
  W5 (model prog w) A (getAttr? (.ref a) "keys") Q E s:=by
 obtain ⟨c,dct,dat,sl⟩:=o
 simp only at hc hdat hd
 subst hc hdat hd
 obtain ⟨hp,g,d,tk,os⟩:=s
 have hT:∀ tk',(⟨hp,g,d,tk',os⟩:W2).TypeIs (.ref a) "list":=fun _=>⟨_,hx,rfl⟩
 have f1:=sub_AttributeError
 have f3:=F.slot_list_getattribute.lookup
 have f4:=F.slot_list_getattribute.bind (.ref a)
 have f5:=am_list_getattr_none
 have hmiss:=z6I
 unfold getAttr? getAttrBy? getAttrBy
 repeat (any_goals (first | assumption | exact hT _ | ((with_reducible show W5 _ _ (call (Value.builtin "list.__getattribute__") _ _) _ _ _); refine call_meets F.slot_list_getattribute (hT _) am_entry_list_getattribute (F.args_list_getattribute_2 _ _) (meets_getattribute_miss_list a xs k sl "keys" _ hmiss (by decide +kernel)) ⟨hx,hA,fun h' tk' e hx'=>?_⟩) | wp_step))
 obtain ⟨t',u',he⟩:=hx'.there
 show W5 _ _ (Jw _ _ _ _ _ _ _) _ _ _
 unfold Jw
 repeat (any_goals (first | assumption | wp_step))
 exact h _ _ hx'.keeps
def z24 (kps:List (Key×V)) (acc:List (Key×V)):List (Key×V):=kps.foldl (fun a kv=>putK a kv.1 kv.2) acc
theorem zca {prog:Wl} {w:Wq} {A:Wr} {R:Result→W2→Prop} {s:W2} {dl it:Addr} {i:Int} {t0:Tok}
  (hn:W5 (model prog w) A.in1 (Jg (.ref it)) (fun r s1=>∃ (q:Addr) (k v:Value) (n:Nat),r=some (.ref q)∧s1.heap.get? q=some { cls:=.type "tuple",dict:=none,data:=.seq #[k,v] n,slots:=#[] } ∧
   W5 (model prog w) A.in1 (dictSet dl k v) (fun _ s2=>QM (model prog w) A (.builtin "dict.update.loop" ⟨[.ref dl,.ref it,rawInt (i + 1),.none],[]⟩) R s2) (fun _ _=>False) s1) (fun _ _=>False) s) :
  QM (model prog w) A (.builtin "dict.update.loop" ⟨[.ref dl,.ref it,.int i t0,.none],[]⟩) R s:=by
 refine QI z3M ?_
 rw [Around.under_plainId z1p _]
 show W5 _ A.in1 (Jg (.ref it) >>= _) _ _ s
 refine W0 (Ql hn (fun r s1 hr=>?_) fun _ _ z=>z.elim)
 obtain ⟨q,k,v,n,rfl,hq,hd⟩:=hr
 dsimp only
 refine W0 ?_
 try with_reducible refine WH ?_
 refine W0 (wpAny_tryCatch ?_)
 have hT:s1.TypeIs (.ref q) "tuple":=⟨_,hq,rfl⟩
 unfold Builtin.Dict.pairItems
 refine W0 (QG hT ?_)
 rw [if_pos (by decide)]
 refine W0 ?_
 unfold seqItems?
 refine W0 (wpAny_load hq (W3 ?_))
 refine W3 ?_
 show W5 _ A.in1 (holding [k,v] (dictSet dl k v)) _ _ s1
 try with_reducible refine WH ?_
 refine Ql hd (fun _ s2 h2=>?_) fun _ _ z=>z.elim
 exact W3 ⟨Jn z1p _,h2⟩
theorem zcb {prog:Wl} {w:Wq} {A:Wr} {R:Result→W2→Prop} {s:W2} {dl it:Addr} {i:Int} {t0:Tok}
  (hn:W5 (model prog w) A.in1 (Jg (.ref it)) (fun r s1=>r=none∧R (.ok (.ret .none)) s1) (fun _ _=>False) s) :
  QM (model prog w) A (.builtin "dict.update.loop" ⟨[.ref dl,.ref it,.int i t0,.none],[]⟩) R s:=by
 refine QI z3M ?_
 rw [Around.under_plainId z1p _]
 show W5 _ A.in1 (Jg (.ref it) >>= _) _ _ s
 refine W0 (Ql hn (fun r s1 hr=>?_) fun _ _ z=>z.elim)
 obtain ⟨rfl,hd⟩:=hr
 dsimp only
 show W5 _ A.in1 (Builtin.Dict.addKeywords dl [] >>= _) _ _ s1
 exact W0 (W3 (W3 hd))
section
variable {X:Cx} {pins:List (Addr×Obj)} {σ:St} {H:Hp}
theorem Rd.sub (h:Rd H a u) (k:∀ b o,H b=some o→H' b=some o):Rd H' a u:=by
 rcases h with h | ⟨o,h⟩
 ·exact .inl (k _ _ h)
 ·exact .inr ⟨o,k _ _ h⟩
def z7T (H:Hp) (ys:List V) (kps:List (Key×V)):Prop:=ys.length=kps.length∧∀ (i:Nat) y kv,ys[i]? = some y→kps[i]? = some kv→∃ q,y = .ref q∧H q=some (.tup [kV kv.1,kv.2])
theorem z4R:∀ (kps acc:List (Key×V)),(z24 kps acc).length≤acc.length + kps.length
 | [],acc=>W8 _
 | kv :: r,acc=>by
  have h1:=z4R r (putK acc kv.1 kv.2)
  have h2:=z3i acc kv.1 kv.2
  show (z24 r (putK acc kv.1 kv.2)).length≤_
  simp only [WC]
  omega
theorem z94 (kps:List (Key×V)) (kv:Key×V) (acc:List (Key×V)):z24 (kps ++ [kv]) acc=putK (z24 kps acc) kv.1 kv.2:=by
 unfold z24
 rw [List.foldl_append]
 rfl
theorem z8J {A:Wr} {R:Result→W2→Prop} {dl it:Addr} {ys:List V} {kps:List (Key×V)} {tn:Nat→Heap→Prop} (hP:z7T H ys kps) (hdl:H dl=none) (hz:kps.length≤W6)
  (item:∀ (i:Nat) (y:V) (H':Hp) (s:W2) (Q:Option Value→W2→Prop),(∀ b o,H b=some o→H' b=some o)→H' it=none→Inv X pins σ H' s→tn i s.heap→ys[i]? = some y→(∀ u s',RelV y u→Inv X pins σ H' s'→tn (i + 1) s'.heap→Q (some u) s')→W5 (model X.prog X.w) A.in1 (Jg (.ref it)) Q (fun _ _=>False) s)
  (done:∀ (H':Hp) (s:W2) (Q:Option Value→W2→Prop),(∀ b o,H b=some o→H' b=some o)→H' it=none→Inv X pins σ H' s→tn ys.length s.heap→(∀ s',Inv X pins σ H' s'→Q none s')→W5 (model X.prog X.w) A.in1 (Jg (.ref it)) Q (fun _ _=>False) s)
  (keep:∀ (i:Nat) (h h':Heap),tn i h→(∀ o,h.get? it=some o→h'.get? it=some o)→tn i h') (hit:H it=none) (hne:it≠dl) (hR:∀ s',Inv X pins σ (upd H dl (.dK (z24 kps []))) s'→R (.ok (.ret .none)) s') :
  ∀ (k i:Nat) (s:W2) (j:Int) (t0:Tok),ys.length - i=k→i≤ys.length→Inv X pins σ (upd H dl (.dK (z24 (kps.take i) []))) s→tn i s.heap →
   QM (model X.prog X.w) A (.builtin "dict.update.loop" ⟨[.ref dl,.ref it,.int j t0,.none],[]⟩) R s:=by
 have up:∀ (acc:List (Key×V)) b o,H b=some o→upd H dl (.dK acc) b=some o:=fun acc b o e=>by rw [z0t (z0P e hdl)]; exact e
 have nit:∀ acc:List (Key×V),upd H dl (.dK acc) it=none:=fun acc=>by rw [z0t hne]; exact hit
 intro k
 induction k with
 | zero =>
  intro i s j t0 hk hi I st
  have e:i=ys.length:=by omega
  subst e
  rw [hP.1,List.take_of_length_le (W8 _)] at I
  refine zcb (done _ s _ (up _) (nit _) I st fun s' I'=>⟨rfl,hR s' I'⟩)
 | succ k ih =>
  intro i s j t0 hk hi I st
  have hlt:i < ys.length:=by omega
  have hlk:i < kps.length:=by rw [← hP.1]; exact hlt
  obtain ⟨q,ey,hq⟩:=hP.2 i ys[i] kps[i] (by simp [hlt]) (by simp [hlk])
  -- the item is a tuple of two
  have main:∀ s1,Inv X pins σ (upd H dl (.dK (z24 (kps.take i) []))) s1→tn (i + 1) s1.heap→∃ (kk vv:Value) (n:Nat),s1.heap.get? q=some { cls:=.type "tuple",dict:=none,data:=.seq #[kk,vv] n,slots:=#[] }∧RelV (kV kps[i].1) kk∧RelV kps[i].2 vv:=fun s1 I1 _=>by
   obtain ⟨_,its,r,n,e⟩:=(show ObjOk X.prog X.w _ s1.heap q (.tup [kV kps[i].1,kps[i].2]) from I1.hok q _ (up _ q _ hq))
   obtain ⟨u,v,rfl,r1,r2⟩:=Vals.two r
   exact ⟨u,v,n,e,r1,r2⟩
  refine zca (item i ys[i] _ s _ (up _) (nit _) I st (by simp [hlt]) fun u s' ru I' st'=>?_)
  rw [ey] at ru
  cases ru
  obtain ⟨kk,vv,n,e,r1,r2⟩:=main s' I' st'
  refine ⟨q,kk,vv,n,rfl,e,?_⟩
  obtain ⟨z,hd,vs,rel,dd⟩:=zf9 I'.hok z0M
  have hvs:vs.length≤W6:=by rw [← rel.length]; exact z
  have hl:(putK (z24 (kps.take i) []) kps[i].1 kps[i].2).length≤W6:=by
   have h1:=z3i (z24 (kps.take i) []) kps[i].1 kps[i].2
   have h2:=z4R (kps.take i) []
   simp at h2
   omega
  refine wpAny_dictSet_pairs (hsz:=hvs) (zah r1) dd fun h' dd' hs=>?_
  have he:∃ q,h'.get? dl=some q:=let ⟨q,_,_,hq,_⟩:=dd'; ⟨q,hq⟩
  have I2:=z9e (t':=s'.toks + 1) I' (by rw [z0M]; exact True.intro) hs he (zdX hl hd (rel.put kps[i].1 r2) dd')
  rw [ze2] at I2
  have et:kps.take (i + 1)=kps.take i ++ [kps[i]]:=by rw [List.take_add_one]; simp [hlk]
  rw [show putK (z24 (kps.take i) []) kps[i].1 kps[i].2=z24 (kps.take (i + 1)) [] by rw [et,z94]] at I2
  exact ih (i + 1) _ (j + 1) _ (by omega) hlt I2 (keep (i + 1) _ _ st' fun o eo=>(hs.2 it hne).trans eo)
theorem z6t (hc:X.calm=true):CallR X (.type "dict") (fun xs H Q=>∃ p ys kps,xs=[.ref p]∧(H p=some (.tup ys)∨Rd H p (.lst ys))∧z7T H ys kps∧kps.length≤W6∧∀ l,H l=none→Q (.ref l) (upd H l (.dK (z24 kps [])))):=by
 intro pins s σ H xs us Q I r h
 obtain ⟨p,ys,kps,rfl,hp,hP,hz,q⟩:=h
 obtain ⟨u,rfl,rx⟩:=z4b r
 cases rx
 have hA:X.A.handled=none:=I.ok.hd hc
 refine callType_codes (Q₁:=fun obj s₁=>obj = .ref s.heap.objs.size∧s₁ = { s with heap:=s.heap.push { cls:=.type "dict",data:=.dict #[] } }) F.kt_called_dict (F.kt_typeCall_dict_1 _) F.entry_dict_init (kt_code_dict_new _ ⟨rfl,rfl⟩) ?_
 rintro obj s₁ ⟨rfl,rfl⟩
 have hdl:H s.heap.objs.size=none:=I.hok.fresh (W8 _)
 have I1:Inv X pins σ (upd H s.heap.objs.size (.dK [])) { s with heap:=s.heap.push { cls:=.type "dict",data:=.dict #[] } }:=I.laid (t':=s.toks) (fun _ _ q=>W4 _ q) (W8 _) (z9U s.heap I.big)
 generalize hdd:s.heap.objs.size=dl at hdl I1
 have up:∀ (acc:List (Key×V)) b o,H b=some o→upd H dl (.dK acc) b=some o:=fun acc b o e=>by rw [z0t (z0P e hdl)]; exact e
 have hTd:({ s with heap:=s.heap.push { cls:=.type "dict",data:=.dict #[] } }:W2).TypeIs (.ref dl) "dict":=⟨_,by rw [← hdd]; exact Wj _ rfl,rfl⟩
 refine ⟨hTd,F.args_dict_init_2 _ _,?_⟩
 unfold Builtin.«dict.__init__»
 refine W0 ?_
 unfold Builtin.Dict.selfAndRest
 refine W0 (wpAny_notOrdered_dict hTd ?_)
 show W5 _ _ (pure (dl,[Value.ref p])) _ _ _
 refine W3 ?_
 show W5 _ _ (Builtin.Dict.updateFrom "dict.__init__" dl (.ref p) [] .none) _ _ _
 unfold Builtin.Dict.updateFrom
 have fin:∀ s',Inv X pins σ (upd H dl (.dK (z24 kps []))) s'→EP X pins σ Q (.ref dl) s':=fun s' I'=>⟨.ref dl,_,I',rfl,q dl hdl⟩
 rcases hp with hp | hp
 ·obtain ⟨_,its,r,n,e⟩:=(show ObjOk X.prog X.w _ (s.heap.push { cls:=.type "dict",data:=.dict #[] }) p (.tup ys) from I1.hok p _ (up _ p _ hp))
  refine W0 (QG ⟨_,e,rfl⟩ ?_)
  rw [if_pos (by decide)]
  refine W0 (z8p e rfl rfl rfl hA fun h' tk kp=>?_)
  rw [if_pos (show (none:Option Value).isNone=true from rfl)]
  refine W0 (QV ?_)
  have I2:Inv X pins σ (upd H dl (.dK [])) { s with heap:=h',toks:=tk }:=I1.kept kp
  have isT:h'.IsTuple p its.toArray:=⟨_,kp _ _ e,rfl,n,rfl⟩
  refine W0 (J9 (s:={ s with heap:=h',toks:=tk }) isT ?_)
  refine W3 ⟨Jn z1p _,?_⟩
  have hfr:upd H dl (.dK []) h'.objs.size=none:=I2.hok.fresh (W8 _)
  have hne:h'.objs.size≠dl:=fun z=>by rw [z,z0M] at hfr; cases hfr
  have hit:H h'.objs.size=none:=by rw [z0t hne] at hfr; exact hfr
  have fp:∀ H':Hp,H' h'.objs.size=none→FpOk X pins H' h'.objs.size:=fun H' hn=>I2.fpOk (W8 _) hn
  refine z8J (X:=X) (pins:=pins) (σ:=σ) (H:=H) (dl:=dl) (it:=h'.objs.size) (ys:=ys) (kps:=kps) (tn:=fun i h=>h.IsTupleIter h'.objs.size p i) hP hdl hz ?_ ?_ (fun i h h2 st k=>st.at k) hit hne (fun s' I'=>⟨rfl,fin s' I'⟩) ys.length 0 _ 0 _ (Nat.sub_zero _) (Q2 _) ?_ ?_
  ·intro i y H' s' Q' sub hn I' st hy k
   obtain ⟨_,its2,r2,n2,e2⟩:=(show ObjOk X.prog X.w _ s'.heap p (.tup ys) from I'.hok p _ (sub p _ hp))
   obtain ⟨v,hv,rv⟩:=r2.get hy
   obtain ⟨f0,f1,f2,f3,f4,f5⟩:=fp H' hn
   refine wpAny_pyNext_tuple_item st (items:=its2.toArray) ⟨_,e2,rfl,n2,rfl⟩ (x:=v) (by simpa using hv) fun h3 st3 sb=>?_
   exact k v { s' with heap:=h3 } rv (I'.turned (t':=s'.toks) (fun b o hb e=>(sb.2 b hb).trans e) f0 f1 f3 f4 f5) st3
  ·intro H' s' Q' sub hn I' st k
   obtain ⟨_,its2,r2,n2,e2⟩:=(show ObjOk X.prog X.w _ s'.heap p (.tup ys) from I'.hok p _ (sub p _ hp))
   obtain ⟨f0,f1,f2,f3,f4,f5⟩:=fp H' hn
   have hl2:=r2.length
   exact wpAny_pyNext_tuple_end (show X.A.in1.in1.handled=none from hA) st (items:=its2.toArray) ⟨_,e2,rfl,n2,rfl⟩ (by simp; omega) fun h3 eb=>k { s' with heap:=h3 } (I'.turned (t':=s'.toks) (fun b o hb e=>eb b o hb e) f0 f1 f3 f4 f5)
  ·exact I2.kept (t':=tk) fun b o e=>W4 _ e
  ·exact ⟨_,Wj _ rfl,rfl,rfl⟩
 ·obtain ⟨_,its,n,r,e⟩:=(show ObjOk X.prog X.w _ (s.heap.push { cls:=.type "dict",data:=.dict #[] }) p (.lst ys) from (Rd.sub hp (up _)).ok I1.hok)
  refine W0 (QG ⟨_,e,rfl⟩ ?_)
  rw [if_pos (by decide)]
  refine W0 (z96 e rfl rfl rfl hA fun h' tk kp=>?_)
  rw [if_pos (show (none:Option Value).isNone=true from rfl)]
  refine W0 (QV ?_)
  have I2:Inv X pins σ (upd H dl (.dK [])) { s with heap:=h',toks:=tk }:=I1.kept kp
  have isT:h'.IsList p its.toArray:=⟨_,kp _ _ e,rfl,n,rfl⟩
  refine W0 (JF (s:={ s with heap:=h',toks:=tk }) isT ?_)
  refine W3 ⟨Jn z1p _,?_⟩
  have hfr:upd H dl (.dK []) h'.objs.size=none:=I2.hok.fresh (W8 _)
  have hne:h'.objs.size≠dl:=fun z=>by rw [z,z0M] at hfr; cases hfr
  have hit:H h'.objs.size=none:=by rw [z0t hne] at hfr; exact hfr
  have fp:∀ H':Hp,H' h'.objs.size=none→FpOk X pins H' h'.objs.size:=fun H' hn=>I2.fpOk (W8 _) hn
  refine z8J (X:=X) (pins:=pins) (σ:=σ) (H:=H) (dl:=dl) (it:=h'.objs.size) (ys:=ys) (kps:=kps) (tn:=fun i h=>h.IsListIter h'.objs.size p i) hP hdl hz ?_ ?_ (fun i h h2 st k=>st.at k) hit hne (fun s' I'=>⟨rfl,fin s' I'⟩) ys.length 0 _ 0 _ (Nat.sub_zero _) (Q2 _) ?_ ?_
  ·intro i y H' s' Q' sub hn I' st hy k
   obtain ⟨_,its2,n2,r2,e2⟩:=(show ObjOk X.prog X.w _ s'.heap p (.lst ys) from (Rd.sub hp sub).ok I'.hok)
   obtain ⟨v,hv,rv⟩:=r2.get hy
   obtain ⟨f0,f1,f2,f3,f4,f5⟩:=fp H' hn
   refine wpAny_pyNext_list_item st (items:=its2.toArray) ⟨_,e2,rfl,n2,rfl⟩ (x:=v) (by simpa using hv) fun h3 st3 sb=>?_
   exact k v { s' with heap:=h3 } rv (I'.turned (t':=s'.toks) (fun b o hb e=>(sb.2 b hb).trans e) f0 f1 f3 f4 f5) st3
  ·intro H' s' Q' sub hn I' st k
   obtain ⟨_,its2,n2,r2,e2⟩:=(show ObjOk X.prog X.w _ s'.heap p (.lst ys) from (Rd.sub hp sub).ok I'.hok)
   obtain ⟨f0,f1,f2,f3,f4,f5⟩:=fp H' hn
   have hl2:=r2.length
   exact wpAny_pyNext_list_end (show X.A.in1.in1.handled=none from hA) st (items:=its2.toArray) ⟨_,e2,rfl,n2,rfl⟩ (by simp; omega) fun h3 eb=>k { s' with heap:=h3 } (I'.turned (t':=s'.toks) (fun b o hb e=>eb b o hb e) f0 f1 f3 f4 f5)
  ·exact I2.kept (t':=tk) fun b o e=>W4 _ e
  ·exact ⟨_,Wj _ rfl,rfl,rfl⟩
end
end L2
set_option maxHeartbeats 400000
namespace DV
open PySem PySem.Spec PyProof.Rows L2
def valD (kvs:List (DKey×D)) (k:DKey):Option D:=(kvs.find? fun kv=>decide (kv.1=k)).map (·.2)
def putD (kvs:List (DKey×D)) (k:DKey) (v:D):List (DKey×D) :=
 if (kvs.any fun kv=>decide (kv.1=k))=true then kvs.map (fun kv=>if kv.1=k then (kv.1,v) else kv) else kvs ++ [(k,v)]
def z6A (kps acc:List (DKey×D)):List (DKey×D):=kps.foldl (fun a kv=>putD a kv.1 kv.2) acc
theorem zeS (h:kOf k=kOf j):k=j:=by
 cases k <;> cases j <;> simp [kOf] at h
 ·rw [h]
 ·rw [z5O h]
def DR (H:Hp) (O:Addr→Prop):List (Key×V)→List (DKey×D)→Prop
 | [],[]=>True
 | p :: ws,q :: ds=>p.1=kOf q.1∧Rep H O p.2 q.2∧DR H O ws ds
 | _,_=>False
section
variable {H H':Hp} {O O':Addr→Prop}
theorem DR.of:∀ {ws:List (Key×V)} {ds:List (DKey×D)},ws.map (·.1)=ds.map (fun p=>kOf p.1)→(∀ (i:Nat) p q,ws[i]? = some p→ds[i]? = some q→Rep H O p.2 q.2)→DR H O ws ds
 | [],[],_,_=>trivial
 | [],_ :: _,h,_=>by simp at h
 | _ :: _,[],h,_=>by simp at h
 | p :: ws,q :: ds,h,k=>by
  simp only [Ws,List.cons.injEq] at h
  exact ⟨h.1,k 0 p q rfl rfl,DR.of h.2 fun i p' q' e1 e2=>k (i + 1) p' q' (by simpa using e1) (by simpa using e2)⟩
theorem DR.keys:∀ {ws:List (Key×V)} {ds:List (DKey×D)},DR H O ws ds→ws.map (·.1)=ds.map (fun p=>kOf p.1)
 | [],[],_=>rfl
 | [],_ :: _,h=>h.elim
 | _ :: _,[],h=>h.elim
 | p :: ws,q :: ds,h=>by simp only [Ws,h.1,DR.keys h.2.2]
theorem DR.vals:∀ {ws:List (Key×V)} {ds:List (DKey×D)},DR H O ws ds→∀ (i:Nat) p q,ws[i]? = some p→ds[i]? = some q→Rep H O p.2 q.2
 | [],[],_,i,p,q,e,_=>by simp at e
 | [],_ :: _,h,_,_,_,_,_=>h.elim
 | _ :: _,[],h,_,_,_,_,_=>h.elim
 | p :: ws,q :: ds,h,i,p',q',e1,e2=>by
  cases i with
  | zero=>simp at e1 e2; subst e1 e2; exact h.2.1
  | succ i=>exact DR.vals h.2.2 i p' q' (by simpa using e1) (by simpa using e2)
theorem DR.map:∀ {ws:List (Key×V)} {ds:List (DKey×D)},DR H O ws ds→(∀ v d,Rep H O v d→Rep H' O' v d)→DR H' O' ws ds
 | [],[],_,_=>trivial
 | [],_ :: _,h,_=>h.elim
 | _ :: _,[],h,_=>h.elim
 | p :: ws,q :: ds,h,k=>⟨h.1,k _ _ h.2.1,DR.map h.2.2 k⟩
theorem z4k (h:p=kOf q):(p=kOf k) ↔ q=k:=⟨fun e=>zeS (by rw [← h]; exact e),fun e=>by rw [h,e]⟩
theorem DR.any:∀ {ws:List (Key×V)} {ds:List (DKey×D)} (k:DKey),DR H O ws ds→(ws.any fun kv=>decide (kv.1=kOf k))=ds.any fun kv=>decide (kv.1=k)
 | [],[],_,_=>rfl
 | [],_ :: _,_,h=>h.elim
 | _ :: _,[],_,h=>h.elim
 | p :: ws,q :: ds,k,h=>by
  rw [QK,QK,DR.any k h.2.2]
  congr 1
  exact decide_eq_decide.mpr (z4k h.1)
theorem DR.val:∀ {ws:List (Key×V)} {ds:List (DKey×D)} (k:DKey),DR H O ws ds→(valD ds k=none∧valV ws (kOf k)=none)∨∃ v d,valD ds k=some d∧valV ws (kOf k)=some v∧Rep H O v d
 | [],[],_,_=>.inl ⟨rfl,rfl⟩
 | [],_ :: _,_,h=>h.elim
 | _ :: _,[],_,h=>h.elim
 | p :: ws,q :: ds,k,h=>by
  by_cases e:q.1=k
  ·have e':=(z4k h.1).mpr e
   exact .inr ⟨p.2,q.2,by simp [valD,QH,e],z5D e',h.2.1⟩
  ·have e':¬ p.1=kOf k:=fun z=>e ((z4k h.1).mp z)
   have ev:valD (q :: ds) k=valD ds k:=by simp [valD,QH,e]
   rw [ev,z5E e']
   exact DR.val k h.2.2
theorem DR.append:∀ {ws ws':List (Key×V)} {ds ds':List (DKey×D)},DR H O ws ds→DR H O ws' ds'→DR H O (ws ++ ws') (ds ++ ds')
 | [],_,[],_,_,h'=>h'
 | [],_,_ :: _,_,h,_=>h.elim
 | _ :: _,_,[],_,h,_=>h.elim
 | p :: ws,_,q :: ds,_,h,h'=>⟨h.1,h.2.1,DR.append h.2.2 h'⟩
theorem DR.store:∀ {ws:List (Key×V)} {ds:List (DKey×D)} {k:DKey} {v:V} {d:D},DR H O ws ds→Rep H O v d→DR H O (ws.map fun kv=>if kv.1=kOf k then (kv.1,v) else kv) (ds.map fun kv=>if kv.1=k then (kv.1,d) else kv)
 | [],[],_,_,_,_,_=>trivial
 | [],_ :: _,_,_,_,h,_=>h.elim
 | _ :: _,[],_,_,_,h,_=>h.elim
 | p :: ws,q :: ds,k,v,d,h,r=>by
  refine ⟨?_,?_,DR.store h.2.2 r⟩
  ·by_cases e:q.1=k
   ·dsimp only; rw [if_pos ((z4k h.1).mpr e),if_pos e]; exact h.1
   ·dsimp only; rw [if_neg fun z=>e ((z4k h.1).mp z),if_neg e]; exact h.1
  ·by_cases e:q.1=k
   ·dsimp only; rw [if_pos ((z4k h.1).mpr e),if_pos e]; exact r
   ·dsimp only; rw [if_neg fun z=>e ((z4k h.1).mp z),if_neg e]; exact h.2.1
theorem DR.put (h:DR H O ws ds) (r:Rep H O v d):DR H O (putK ws (kOf k) v) (putD ds k d):=by
 unfold putK putD
 rw [DR.any k h]
 split
 ·exact DR.store h r
 ·exact DR.append h ⟨rfl,r,trivial⟩
theorem DR.puts:∀ {kps:List (Key×V)} {dps:List (DKey×D)} {ws:List (Key×V)} {ds:List (DKey×D)},DR H O kps dps→DR H O ws ds→DR H O (z24 kps ws) (z6A dps ds)
 | [],[],_,_,_,h=>h
 | [],_ :: _,_,_,h,_=>h.elim
 | _ :: _,[],_,_,h,_=>h.elim
 | p :: kps,q :: dps,ws,ds,h,h'=>by
  show DR H O (z24 kps (putK ws p.1 p.2)) (z6A dps (putD ds q.1 q.2))
  rw [h.1]
  exact DR.puts h.2.2 (DR.put h' h.2.1)
end
def keyD:D→Option DKey
 | .int i=>some (.inl i)
 | .str x=>some (.inr x)
 | _=>none
theorem zb1 (h:keyD d=some k) (r:Rep H O v d):v=kV (kOf k):=by
 cases d <;> simp [keyD] at h <;> subst h <;> cases r <;> rfl
theorem z7k (h:keyD d=some k) (r:RepB c σ δ H v d):v=kV (kOf k):=by
 rcases r with r | ⟨a,rfl,r⟩
 ·exact zb1 h r
 ·cases d <;> simp [keyD] at h <;> exact r.elim
def z47:List D→Option (List (DKey×D))
 | []=>some []
 | .tup [k,v] :: r=>match keyD k,z47 r with
  | some k',some r'=>some ((k',v) :: r')
  | _,_=>none
 | _ :: _=>none
def z2c:D→Option S
 | .lst ds=>(z47 ds).bind fun ps=>if ps.length≤W6 then some (.own (.dct (z6A ps []))) else none
 | .tup ds=>(z47 ds).bind fun ps=>if ps.length≤W6 then some (.own (.dct (z6A ps []))) else none
 | _=>none
theorem z7p:∀ {ds:List D} {vs:List V} {ps:List (DKey×D)},z47 ds=some ps→Reps H O vs ds→∃ kps,z7T H vs kps∧DR H O kps ps∧kps.length=ps.length
 | [],[],ps,h,_=>by
  simp [z47] at h
  subst h
  exact ⟨[],⟨rfl,fun i y kv e=>by simp at e⟩,trivial,rfl⟩
 | [],_ :: _,_,_,r=>by have:=r.1; simp at this
 | _ :: _,[],_,_,r=>by have:=r.1; simp at this
 | d :: ds,v :: vs,ps,h,r=>by
  unfold z47 at h
  split at h
  ·rename_i heq; cases heq
  ·rename_i k w r' heq
   cases heq
   split at h
   ·rename_i k' r'' hk hr
    cases h
    obtain ⟨kps,hP,hD,hL⟩:=z7p hr r.tail
    have rp:=r.head
    cases rp with
    | tup h1 h2 h3 h4 =>
     rename_i a us
     match us,h3,h4,h2 with
     | [x,y],_,h4,h2 =>
      have rk:=h4 0 x k rfl rfl
      have rv:=h4 1 y w rfl rfl
      have ek:=zb1 hk rk
      subst ek
      refine ⟨(kOf k',y) :: kps,⟨by simp [hP.1],fun i z kv e1 e2=>?_⟩,⟨rfl,rv,hD⟩,by simp [hL]⟩
      cases i with
      | zero=>simp at e1 e2; subst e1 e2; exact ⟨a,rfl,h2⟩
      | succ i=>exact hP.2 i z kv (by simpa using e1) (by simpa using e2)
   ·cases h
  ·cases h
theorem RepS.newDk (k:Ok c σ δ H) (hp:H p=none) (r:DR H (Av c σ δ) ws ds):RepS c σ δ H (upd H p (.dK ws)) (.ref p) (.own (.dct ds)):=by
 have up:∀ a w,H a=some w→upd H p (.dK ws) a=some w:=fun a w e=>by rw [z0t (z0P e hp)]; exact e
 have r1:DR (upd H p (.dK ws)) (Av (c.plus p) σ δ) ws ds:=r.map fun v d h=>(h.anti fun b z=>by
  rcases z with (z | z) | z
  ·exact .inl (.inl z)
  ·exact .inr (by rw [z]; exact hp)
  ·exact .inl (.inr z)).keep fun b w e _=>up b w e
 exact ⟨p,rfl,⟨ws,z0M,r1.keys,r1.vals⟩,fun z=>k.nav hp (.inl z),k.fresh₀ hp,k.plus hp _,hp⟩
section
variable {X:Cx} {c:Fc} {e:Expr} {fb:BE} {pos pp:Pos}
theorem zav:Qz "dict" = some (.type "dict"):=by decide +kernel
theorem z81 (hc:X.calm=true) (hg:Gl X "dict") (hm:X.mg "dict" = none) (he:SB X c e fb) (hs:z4j e=true:=by rfl):SE X c (.Call (.Name "dict" pp) [e] [] pos) (eC1 z2c fb) :=
 z4F (r:=fun v H Q=>∃ p ys kps,v = .ref p∧(H p=some (.tup ys)∨Rd H p (.lst ys))∧z7T H ys kps∧kps.length≤W6∧∀ l,H l=none→Q (.ref l) (upd H l (.dK (z24 kps []))))
  (z6t hc) (fun v H Q ⟨p,ys,kps,e,h⟩=>⟨p,ys,kps,by rw [e],h⟩)
  (fun c σ δ H x d s Q k rx hp q=>by
   cases d with
   | lst ds =>
    simp only [z2c] at hp
    cases hps:z47 ds with
    | none=>rw [hps] at hp; cases hp
    | some ps =>
     rw [hps] at hp
     simp only [WX] at hp
     split at hp
     ·rename_i hz
      cases hp
      obtain ⟨a,vs,ex,ha,r⟩:=rx.lst
      obtain ⟨kps,hP,hD,hL⟩:=z7p hps r
      exact ⟨a,vs,kps,ex,.inr ha,hP,by rw [hL]; exact hz,fun l hl=>q _ _ (.alloc k hl _) (RepS.newDk k hl (DR.puts hD (ws:=[]) (ds:=[]) trivial))⟩
     ·cases hp
   | tup ds =>
    simp only [z2c] at hp
    cases hps:z47 ds with
    | none=>rw [hps] at hp; cases hp
    | some ps =>
     rw [hps] at hp
     simp only [WX] at hp
     split at hp
     ·rename_i hz
      cases hp
      obtain ⟨a,vs,ex,ha,r⟩:=rx.tup
      obtain ⟨kps,hP,hD,hL⟩:=z7p hps r
      exact ⟨a,vs,kps,ex,.inl ha,hP,by rw [hL]; exact hz,fun l hl=>q _ _ (.alloc k hl _) (RepS.newDk k hl (DR.puts hD (ws:=[]) (ds:=[]) trivial))⟩
     ·cases hp
   | _=>simp [z2c] at hp) hg hm zav he (by decide) (by decide) (z52 hs)
end
theorem z9y (r:RepB c σ δ H v (.dct ds)):∃ a ws,v = .ref a∧H a=some (.dK ws)∧DR H (Av c σ δ) ws ds:=by
 obtain ⟨a,ws,e,h,k1,k2⟩:=r.dct
 exact ⟨a,ws,e,h,DR.of k1 k2⟩
def rInD (neg:Bool):R2:=fun x y H Q=>∃ a kvs k,y = .ref a∧H a=some (.dK kvs)∧x=kV k∧Q (.bl (if neg then !(valV kvs k).isSome else (valV kvs k).isSome)) H
theorem zgo (hu:X.A.units + 64 < Qx):OpR X (Wu .In) (rInD false):=by
 intro pins s σ H x y v u Q I rx ry h
 obtain ⟨a,kvs,k,rfl,ha,rfl,q⟩:=h
 cases ry
 exact d_in (by omega) I (DGet.k ha) rx fun s' I'=>⟨.bl _,H,I',rfl,q⟩
theorem zbn (hu:X.A.units + 64 < Qx):OpR X (Wu .NotIn) (rInD true):=by
 intro pins s σ H x y v u Q I rx ry h
 obtain ⟨a,kvs,k,rfl,ha,rfl,q⟩:=h
 cases ry
 exact zfb (by omega) I (DGet.k ha) rx fun s' I'=>⟨.bl _,H,I',rfl,q⟩
def zb9 (K:W1) (neg:Bool):R2:=fun x y H Q=>rInD neg x y H Q∨rIn K neg x y H Q∨∃ i j,x = .str i∧y = .str j∧Q (.bl (if neg then !(!(J2 j i 0 j.length 1).isEmpty) else !(J2 j i 0 j.length 1).isEmpty)) H
theorem zd0 {X:Cx} (hu:X.A.units + 64 < Qx):OpR X (Wu .In) (zb9 X.K false):=(zgo hu).or (op_in_seq.or zbp)
theorem z61 {X:Cx} (hu:X.A.units + 64 < Qx):OpR X (Wu .NotIn) (zb9 X.K true):=(zbn hu).or (op_notIn_seq.or z8i)
def pIn (neg:Bool) (x y:D):Option S:=match y with
 | .dct ds=>(keyD x).map fun k=>.pure (.bl (if neg then !(valD ds k).isSome else (valD ds k).isSome))
 | .str y=>match x with
  | .str [n]=>some (.pure (.bl (if neg then !decide (n ∈ y) else decide (n ∈ y))))
  | _=>none
 | .lst ds=>match x,z30 ds with
  | .str z,some ts=>some (.pure (.bl (if neg then !ts.contains z else ts.contains z)))
  | _,_=>none
 | .tup ds=>match x,z30 ds with
  | .str z,some ts=>some (.pure (.bl (if neg then !ts.contains z else ts.contains z)))
  | _,_=>none
 | _=>none
theorem z8B (z:Tx) (ts:List Tx):inV (V.str (toS z)) (ts.map fun z=>V.str (toS z))=ts.contains z:=by
 unfold inV
 rw [Jk]
 induction ts with
 | nil=>rfl
 | cons t r ih =>
  rw [QK,List.contains_cons,ih]
  congr 1
  show (toS t == toS z)=(z == t)
  rw [z8X,Bool.beq_comm]
theorem z73 (ts:List Tx):(ts.map fun z=>V.str (toS z)).all z7I=true:=by
 rw [Ji]
 exact WF.mpr fun _ _=>rfl
theorem z7B {K:W1} (neg:Bool):Op2 (zb9 K neg) (pIn neg):=by
 intro c σ δ H x y d e s Q k rx ry hp q
 cases e <;> first | (simp [pIn] at hp; done) | skip
 ·rename_i z
  simp only [pIn] at hp
  split at hp <;> first | (cases hp; done) | skip
  rename_i n
  cases hp
  refine .inr (.inr ⟨toS [n],toS z,rx.str,ry.str,?_⟩)
  rw [show toS [n] = ⟨#[n]⟩ from rfl,PySem.StrLaws.found_one,show (toS z).cps.toList=z by simp [toS]]
  exact q _ H (.refl k) (.bl _)
 ·rename_i ds
  simp only [pIn] at hp
  split at hp <;> first | (cases hp; done) | skip
  rename_i z ts ht
  cases hp
  obtain ⟨a,vs,ea,ha,r⟩:=ry.tup
  have ev:=z1Y ht r
  refine .inr (.inl ⟨a,vs,ea,.inr (.of ha),by rw [rx.str]; rfl,by rw [ev]; exact z73 ts,?_⟩)
  rw [rx.str,ev,z8B]
  exact q _ H (.refl k) (.bl _)
 ·rename_i ds
  simp only [pIn] at hp
  split at hp <;> first | (cases hp; done) | skip
  rename_i z ts ht
  cases hp
  obtain ⟨a,vs,ea,ha,r⟩:=ry.lst
  have ev:=z1Y ht r
  refine .inr (.inl ⟨a,vs,ea,.inl (.inl ha),by rw [rx.str]; rfl,by rw [ev]; exact z73 ts,?_⟩)
  rw [rx.str,ev,z8B]
  exact q _ H (.refl k) (.bl _)
 ·rename_i ds
  simp only [pIn] at hp
  cases hk:keyD d with
  | none=>rw [hk] at hp; cases hp
  | some kk =>
   rw [hk] at hp
   cases hp
   obtain ⟨a,ws,ea,ha,dr⟩:=z9y ry
   refine .inl ⟨a,ws,kOf kk,ea,ha,z7k hk rx,?_⟩
   have:(valV ws (kOf kk)).isSome=(valD ds kk).isSome:=by
    rcases dr.val kk with ⟨e1,e2⟩ | ⟨v,d,e1,e2,_⟩
    ·rw [e1,e2]; rfl
    ·rw [e1,e2]; rfl
   rw [this]
   exact q _ H (.refl k) (.bl _)
def rIxD:R2:=fun x y H Q=>∃ a kvs k v,x = .ref a∧H a=some (.dK kvs)∧y=kV k∧valV kvs k=some v∧Q v H
def pIxX:D→D→Option S
 | .dct ds,k=>(keyD k).bind fun k=>(valD ds k).map .pure
 | x,y=>pIx x y
theorem zeU (hu:X.A.units + 64 < Qx):IxR X rIxD:=by
 intro value slice pins s σ H x y v u Q I rx ry h hs
 obtain ⟨a,kvs,k,w,rfl,ha,rfl,hv,q⟩:=h
 cases rx
 obtain ⟨_,_,vs,_,dd⟩:=zf9 I.hok ha
 have hT:s.TypeIs (.ref a) "dict":=dd.typeIs
 exact tail_any hT F.slot_dict_getitem.lookup (zcf (v:=w) (by omega) I (by rw [← hv]; exact DGet.k ha) ry fun w' s' I' rw'=>⟨w,H,I',rw',q⟩) hs
theorem zgu {K:W1}:Op2 (fun x y H Q=>rIxD x y H Q∨rIx K x y H Q) pIxX:=by
 intro c σ δ H x y d e s Q k rx ry hp q
 cases d with
 | dct ds =>
  simp only [pIxX] at hp
  cases hk:keyD e with
  | none=>rw [hk] at hp; cases hp
  | some kk =>
   rw [hk] at hp
   simp only [WX,Option.map_eq_some_iff] at hp
   obtain ⟨dv,hv,rfl⟩:=hp
   obtain ⟨a,ws,ea,ha,dr⟩:=z9y rx
   rcases dr.val kk with ⟨e1,e2⟩ | ⟨v,d',e1,e2,r⟩
   ·rw [e1] at hv; cases hv
   ·rw [e1] at hv; cases hv
    exact .inl ⟨a,ws,kOf kk,v,ea,ha,z7k hk ry,e2,q v H (.refl k) r⟩
 | _=>exact .inr (z18 c σ δ H x y _ e s Q k rx ry hp q)
end DV
namespace PySem
open Sem (wp)
open AutoSeq1 (wpAny_loadPart')
section
variable {prog:Wl} {w:Wq} {A:Wr} {E:Value→W2→Prop} {s:W2}
theorem z5e {items} (hit:s.heap.IsTupleIter it l i) (hl:s.heap.IsTuple l items) (hx:items[i]? = some x)
  (hQ:∀ h',h'.IsTupleIter it l (i + 1)→Qk it s.heap h'→Q x { s with heap:=h' }):W5 (model prog w) A (QW (.ref it)) Q E s:=by
 obtain ⟨o,ho,hc,hd⟩:=id hit
 obtain ⟨ol,hol,_,nl,hdl⟩:=hl
 unfold QW
 refine W0 (Qw (name:=Str.ofString "__next__") hit.typeIs QR
  (Q8 QR hit.typeIs F.entry_tuple_iterator_next ?_ (F.args_tuple_iterator_next_1 _)))
 show W5 _ _ (field (.ref it) 0 >>= _) _ _ s
 refine W0 (QO ho hd (x:=.ref l) rfl ?_)
 show W5 _ _ (if (Value.ref l == Value.none)=true then _ else _) _ _ s
 rw [if_neg (show ¬ ((Value.ref l == Value.none)=true) from Q6)]
 show W5 _ _ (field (.ref it) 1 >>= _) _ _ s
 refine W0 (QO ho hd (x:=.int i 0) rfl ?_)
 show W5 _ _ (seqItems? (.ref l) >>= _) _ _ s
 refine W0 (wpAny_seqItems hol hdl ?_)
 simp only [JG,hx]
 refine W0 (wpAny_setField ho hd (by simp) (W3 ⟨x,rfl,W3 (hQ _ ?_ (Heap.SameBut.update ..))⟩))
 exact ⟨_,QP _ ho (Obj.isFreed_of_fields (Obj.data_mapFields hd _)),(Obj.cls_mapFields ..).trans hc,by
  rw [Obj.data_mapFields hd]; simp [rawInt]⟩
theorem z5z {items} (hh:A.handled=none) (hit:s.heap.IsTupleIter it l i) (hl:s.heap.IsTuple l items) (hx:items[i]? = none)
  (hE:∀ h' e,Heap.ExtBut it s.heap h'→(∃ o,h'.get? e=some o∧o.cls = .type "StopIteration")→E (.ref e) { s with heap:=h' }):W5 (model prog w) A (QW (.ref it)) Q E s:=by
 obtain ⟨o,ho,hc,hd⟩:=id hit
 obtain ⟨ol,hol,_,nl,hdl⟩:=hl
 unfold QW
 refine W0 (Qw (name:=Str.ofString "__next__") hit.typeIs QR
  (Q8 QR hit.typeIs F.entry_tuple_iterator_next ?_ (F.args_tuple_iterator_next_1 _)))
 show W5 _ _ (field (.ref it) 0 >>= _) _ _ s
 refine W0 (QO ho hd (x:=.ref l) rfl ?_)
 show W5 _ _ (if (Value.ref l == Value.none)=true then _ else _) _ _ s
 rw [if_neg (show ¬ ((Value.ref l == Value.none)=true) from Q6)]
 show W5 _ _ (field (.ref it) 1 >>= _) _ _ s
 refine W0 (QO ho hd (x:=.int i 0) rfl ?_)
 show W5 _ _ (seqItems? (.ref l) >>= _) _ _ s
 refine W0 (wpAny_seqItems hol hdl ?_)
 simp only [JG,hx]
 refine W0 (QV (W0 (wpAny_setField ho hd (by simp) ?_)))
 show W5 _ _ (newExc (.type "StopIteration") [] >>= _) _ _ _
 refine W0 ?_
 simp only [newExc,newTuple]
 refine W0 (WJ ?_ (by size_fits))
 refine W0 (m:=firstArgMember _ _) (wpAny_of_eq (a:=Value.none) (by first | rfl | (simp only [firstArgMember]; rfl)) ?_)
 refine WJ ?_ (by size_fits)
 simp only [raiseNew]
 refine W0 (wpAny_handled ?_)
 first | rw [show A.in1.handled=none from hh] | rw [hh]
 refine W0 (W3 (wpAny_throw ?_))
 exact hE _ _ (((Heap.SameBut.update ..).extBut.push _).push _) ⟨_,Wj _ rfl,rfl⟩
end
theorem IsTuple.at' {h h':Heap} {l:Addr} {items:Array Value} (x:h.IsTuple l items) (k:∀ o,h.get? l=some o→h'.get? l=some o):h'.IsTuple l items:=by
 obtain ⟨o,ho,r⟩:=x
 exact ⟨o,k o ho,r⟩
theorem Draws.tuple' {prog:Wl} {w:Wq} {A:Wr} (hh:A.handled=none) (it l:Addr) (hne:l≠it) (items:Array Value) :
  Draws prog w A it [it,l] items.size (fun i v=>items[i]? = some v) (fun i h=>h.IsTupleIter it l i∧h.IsTuple l items) where
 live:=fun _ _ st=>let ⟨o,ho,_⟩:=st.1; ⟨o,ho⟩
 frame:=fun _ _ _ st hk=>⟨st.1.at fun o e=>hk it (by simp) o e,IsTuple.at' st.2 fun o e=>hk l (by simp) o e⟩
 item:=fun i s Q E hi st hQ=>by
  refine z5e st.1 st.2 (x:=items[i]) (by simp [hi]) fun h' hit' hs'=>?_
  exact hQ _ h' s.toks (by simp [hi]) ⟨hit',IsTuple.at' st.2 fun o e=>(hs'.2 l hne).trans e⟩ hs'
 done:=fun s Q E st hE=>z5z hh st.1 st.2 (by simp) hE
theorem z44 (l:Addr) (items:Array Value) (n:Nat) (dct:Option Addr) (sl:Array (Option Value)) :
  Meets (Builtin.«enumerate.__new__» ⟨[.type "enumerate",.ref l],[]⟩) (fun _ R s=>s.heap.get? l=some { cls:=.type "tuple",dict:=dct,data:=.seq items n,slots:=sl } ∧
   R (.ok (.ret (.ref (s.heap.push { cls:=.type "tuple_iterator",data:=.fields #[.ref l,.int 0 0] }).objs.size)))
    { s with heap:=(s.heap.push { cls:=.type "tuple_iterator",data:=.fields #[.ref l,.int 0 0] }).push { cls:=.type "enumerate",data:=.fields #[.none,.bool false,.ref s.heap.objs.size,rawInt 0,.none,.none] } }) :=
 .of_wp fun prog w A R s h=>by
  obtain ⟨hp,g,d,tk,os⟩:=s; obtain ⟨hl,h⟩:=h
  have hsub:=sub_enumerate
  have hL:Heap.IsTuple (Shared.heap ⟨hp,g,d,tk,os⟩) l items:=⟨_,hl,rfl,n,rfl⟩
  wp_walk using Qe hl
  refine wpAny_stack_any fun st=>W3 ?_
  split
  ·rename_i c _ _ _ _ _
   cases (c == Value.type "enumerate")
   ·wp_walk using Qe hl,J9 hL
    exact ⟨_,rfl,h⟩
   ·wp_walk using Qe hl,J9 hL
    exact ⟨_,rfl,h⟩
  ·wp_walk using Qe hl,J9 hL
   exact ⟨_,rfl,h⟩
theorem z3R (hL:s.heap.IsTuple l items)
  (h:∀ h',IsEnum h' (s.heap.objs.size + 1) s.heap.objs.size 0 .none→h'.IsTupleIter s.heap.objs.size l 0→h'.objs.size=s.heap.objs.size + 2 →
   (∀ b o,s.heap.get? b=some o→h'.get? b=some o)→Q (.ref (s.heap.objs.size + 1)) { s with heap:=h' }) :
  W5 (model prog w) A (call (.type "enumerate") [.ref l]) Q E s:=by
 obtain ⟨⟨c,dct,dt,sl⟩,hl,hc,n,hd⟩:=hL
 replace hc:c = .type "tuple":=hc
 replace hd:dt = .seq items n:=hd
 subst hc hd
 refine callType_new F.called_enumerate (by decide) (F.typeCall_enumerate_1 _) (F.newCall_enumerate_1 _) (fun obj=>F.args_object_init_2 obj _) F.entry_enumerate_new
  (z44 l items n dct sl) ⟨hl,?_⟩
 have hz:(s.heap.push { cls:=.type "tuple_iterator",data:=.fields #[.ref l,.int 0 0] }).objs.size=s.heap.objs.size + 1:=Qu ..
 show _∧_
 rw [hz]
 have he:IsEnum ((s.heap.push { cls:=.type "tuple_iterator",data:=.fields #[.ref l,.int 0 0] }).push
   { cls:=.type "enumerate",data:=.fields #[.none,.bool false,.ref s.heap.objs.size,rawInt 0,.none,.none] }) (s.heap.objs.size + 1) s.heap.objs.size 0 .none:=by
  have:=Wj (s.heap.push { cls:=.type "tuple_iterator",data:=.fields #[.ref l,.int 0 0] })
   (o:={ cls:=.type "enumerate",data:=.fields #[.none,.bool false,.ref s.heap.objs.size,rawInt 0,.none,.none] }) rfl
  rw [hz] at this; exact this
 refine ⟨⟨_,he,rfl⟩,h _ he ⟨_,W4 _ (Wj _ rfl),rfl,rfl⟩ (by rw [Qu,hz]) fun b o x=>W4 _ (W4 _ x)⟩
end PySem
namespace L2
open PySem PySem.Spec PyProof.Rows
section
variable {X:Cx} {pins:List (Addr×Obj)} {σ:St} {H:Hp} {s:W2} {h':Heap}
theorem Inv.turnedL (fp:List Addr) (I:Inv X pins σ H s) (k:∀ b o,b ∉ fp→s.heap.get? b=some o→h'.get? b=some o) (hf:∀ b ∈ fp,FpOk X pins H b):Inv X pins σ H { s with heap:=h',toks:=t' }:=by
 have nit:∀ b u,H b=some u→b ∉ fp:=fun b u e z=>by rw [(hf b z).1] at e; cases e
 refine I.step (g':=s.gens) (d':=s.drawn) (ch:=fp) (fun b hb=>?_) (fun b o _ _ hc e _=>k b o hc e) (fun b o _ _ hc e _=>⟨o.slots,k b o hc e⟩) (fun _ _ _ _ n=>n)
  (fun b o hc e=>⟨o,k b o hc e⟩) (fun _ _ e=>e) (fun _ _ _ e=>e) (fun b ps e=>⟨#[],by rw [e]; simp⟩) (fun m hm=>?_) (fun b u e=>?_) I.bare
 ·obtain ⟨f0,f1,f2,f3,f4,f5⟩:=hf b hb
  exact ⟨f3,f1,f4,f5⟩
 ·obtain ⟨o,es,ep,ho,r⟩:=hm
  exact ⟨o,es,ep,k _ o (fun z=>(hf _ z).2.1 rfl) ho,r⟩
 ·refine (I.hok b u e).stay (fun c v hc q=>k c v ?_ q) (fun _ q=>q) fun _ _ q=>q
  rcases hc with z | z
  ·rw [z]; exact nit b u e
  ·exact nit c _ z
theorem Inv.pairLaid (I:Inv X pins σ H s) (hf:∀ b ∈ [e,it],FpOk X pins H b) (hlt:∀ b ∈ [e,it],b < s.heap.objs.size) (ru:RelV y u)
  (hT:h'.get? s.heap.objs.size=some { cls:=.type "tuple",data:=.seq #[.int i tk,u] }) (k:∀ b o,b≠e→b≠it→s.heap.get? b=some o→h'.get? b=some o) :
  Inv X pins σ (upd H s.heap.objs.size (.tup [.int i,y])) { s with heap:=h',toks:=t' }:=by
 have I1:Inv X pins σ (upd H s.heap.objs.size (.tup [.int i,y])) { s with heap:=s.heap.push { cls:=.type "tuple",data:=.seq #[.int i tk,u] },toks:=t' } :=
  I.laid (t':=t') (fun b o e=>W4 _ e) (W8 _) (show ObjOk X.prog X.w _ _ _ (.tup [.int i,y]) from
   ⟨by simp only [WC,List.length_nil]; rw [WZ]; decide,[.int i tk,u],.cons ⟨_,rfl⟩ (.cons ru .nil),IsTupN.new _ _⟩)
 have:=Inv.turnedL (t':=t') (h':=h') [e,it] I1 (fun b o hb eb=>?_) fun b hb=>?_
 ·exact this
 ·have he:b≠e:=fun z=>hb (by simp [z])
  have hi:b≠it:=fun z=>hb (by simp [z])
  rcases Heap.get?_push_cases eb with ⟨z,z'⟩ | eb
  ·subst z z'
   exact hT
  ·exact k b o he hi eb
 ·obtain ⟨f0,r⟩:=hf b hb
  refine ⟨?_,r⟩
  have hl:=hlt b hb
  rw [z0t (Wt hl)]
  exact f0
def IteL (K:W1) (a:Addr):It :=
 ⟨(Itl K a).go,fun i H x H'=>∃ p y,H p=none∧(∀ xs,SqL K H a xs→xs[i]? = some y)∧H'=upd H p (.tup [.int i,y])∧x = .ref p,fun i H=>∃ xs,SqL K H a xs∧xs.length=i⟩
def IteT (K:W1) (a:Addr):It :=
 ⟨(Itt K a).go,fun i H x H'=>∃ p y,H p=none∧(∀ xs,SqT K H a xs→xs[i]? = some y)∧H'=upd H p (.tup [.int i,y])∧x = .ref p,fun i H=>∃ xs,SqT K H a xs∧xs.length=i⟩
theorem za1 {P:Wl} {w:Wq} {K:W1} {elts:List Expr} {ctx} {pos:Pos} (a e it:Addr) (hei:e≠it) (hae:a≠e) (hai:a≠it):Turn P w K (.Tuple elts ctx pos) (IteL K a) [e,it] e (fun i h=>(∃ old,IsEnum h e it i old)∧h.IsListIter it a i) where
 mem:=by simp
 obj:=fun i h st b hb=>by
  obtain ⟨⟨old,he⟩,hi⟩:=st
  have hb:b=e∨b=it:=by simpa using hb
  rcases hb with z | z
  ·subst z
   exact ⟨_,he,fun v z=>by
    have z':Data.fields _=Data.cell v:=z
    cases z'⟩
  ·subst z
   obtain ⟨o,e,c,d⟩:=hi
   exact ⟨o,e,fun v z=>by rw [d] at z; cases z⟩
 keep:=fun i h h' st k=>⟨let ⟨old,he⟩:=st.1; ⟨old,k e (by simp) _ he⟩,st.2.at fun o q=>k it (by simp) o q⟩
 item:=by
  intro X hP hw hK hc i pins s σ H E I hf st hg
  subst hP hw hK
  obtain ⟨xs,x,hq,hx⟩:=hg
  obtain ⟨its,rv,p,hz⟩:=I.list hq
  obtain ⟨u,hu,ru⟩:=rv.get hx
  obtain ⟨⟨old,he⟩,hi⟩:=st
  have hL:s.heap.IsList a its.toArray:=p.isList
  have D:=Draws.list (prog:=X.prog) (w:=X.w) (A:=X.A.in1) (I.ok.hd hc) it a hai its.toArray
  have hilt:i < its.length:=(Wc.mp hu).1
  have hlt:∀ b ∈ [e,it],b < s.heap.objs.size:=fun b hb=>by
   have hb:b=e∨b=it:=by simpa using hb
   rcases hb with z | z
   ·subst z; exact Wg he
   ·subst z; obtain ⟨o,q,_⟩:=hi; exact Wg q
  refine wpAny_pyNext_enum_itemD D he ⟨hi,hL⟩ (by simpa using hilt) hei (by simp [hei,Ne.symm hae]) fun x' h' tk hP ho hs' hT hsz hk=>?_
  have ex:x'=u:=by
   have:its.toArray[i]? = some x':=hP
   rw [List.getElem?_toArray,hu] at this
   cases this
   rfl
  subst ex
  refine ⟨_,rfl,wpAny_letOwnedTupleGo_enum ho fun h2 he2 sb=>?_⟩
  have k2:∀ b o,b≠e→b≠it→s.heap.get? b=some o→h2.get? b=some o:=fun b o q1 q2 q=>(sb.2 b q1).trans (hk b o q1 q2 q)
  have hT2:h2.get? s.heap.objs.size=some { cls:=.type "tuple",data:=.seq #[.int i tk,x'] }:=(sb.2 _ (QZ (hlt e (by simp)))).trans hT
  have I2:Inv X pins σ (upd H s.heap.objs.size (.tup [.int i,x])) { s with heap:=h2,toks:=tk + 1 }:=Inv.pairLaid (t':=tk + 1) I hf hlt ru hT2 k2
  refine ⟨.ref s.heap.objs.size,_,I2,rfl,⟨s.heap.objs.size,x,I.hok.fresh (W8 _),fun ys hy=>by rw [I.list_inj hy hq]; exact hx,rfl,rfl⟩,⟨⟨x',by simpa using he2⟩,hs'.1.at fun o q=>(sb.2 it (Ne.symm hei)).trans q⟩,fun b hb=>?_⟩
  rw [z0t (Wt (hlt b hb))]
  exact (hf b hb).1
 done:=by
  intro X hP hw hK hc i pins s σ H E I hf st hg
  subst hP hw hK
  obtain ⟨xs,hq,hx⟩:=hg
  obtain ⟨its,rv,p,hz⟩:=I.list hq
  obtain ⟨⟨old,he⟩,hi⟩:=st
  have hL:s.heap.IsList a its.toArray:=p.isList
  have hl:=rv.length
  have D:=Draws.list (prog:=X.prog) (w:=X.w) (A:=X.A.in1) (I.ok.hd hc) it a hai its.toArray
  have hn:its.toArray.size=i:=by simp; omega
  obtain ⟨f0,f1,f2,f3,f4,f5⟩:=hf it (by simp)
  exact wpAny_pyNext_enum_endD D he ⟨by rw [hn]; exact hi,hL⟩ fun h' eb=>⟨rfl,I.turned (t':=s.toks) (fun b o hb q=>eb b o hb q) f0 f1 f3 f4 f5⟩
 self:=fun _ _ _ _ _ st h=>by
  obtain ⟨⟨old,he⟩,_⟩:=st
  exact JH he h
theorem za0 {P:Wl} {w:Wq} {K:W1} {elts:List Expr} {ctx} {pos:Pos} (a e it:Addr) (hei:e≠it) (hae:a≠e) (hai:a≠it):Turn P w K (.Tuple elts ctx pos) (IteT K a) [e,it] e (fun i h=>(∃ old,IsEnum h e it i old)∧h.IsTupleIter it a i) where
 mem:=by simp
 obj:=fun i h st b hb=>by
  obtain ⟨⟨old,he⟩,hi⟩:=st
  have hb:b=e∨b=it:=by simpa using hb
  rcases hb with z | z
  ·subst z
   exact ⟨_,he,fun v z=>by
    have z':Data.fields _=Data.cell v:=z
    cases z'⟩
  ·subst z
   obtain ⟨o,e,c,d⟩:=hi
   exact ⟨o,e,fun v z=>by rw [d] at z; cases z⟩
 keep:=fun i h h' st k=>⟨let ⟨old,he⟩:=st.1; ⟨old,k e (by simp) _ he⟩,st.2.at fun o q=>k it (by simp) o q⟩
 item:=by
  intro X hP hw hK hc i pins s σ H E I hf st hg
  subst hP hw hK
  obtain ⟨xs,x,hq,hx⟩:=hg
  obtain ⟨its,rv,p,hz⟩:=I.tuple hq
  obtain ⟨u,hu,ru⟩:=rv.get hx
  obtain ⟨⟨old,he⟩,hi⟩:=st
  have hL:s.heap.IsTuple a its.toArray:=p
  have D:=Draws.tuple' (prog:=X.prog) (w:=X.w) (A:=X.A.in1) (I.ok.hd hc) it a hai its.toArray
  have hilt:i < its.length:=(Wc.mp hu).1
  have hlt:∀ b ∈ [e,it],b < s.heap.objs.size:=fun b hb=>by
   have hb:b=e∨b=it:=by simpa using hb
   rcases hb with z | z
   ·subst z; exact Wg he
   ·subst z; obtain ⟨o,q,_⟩:=hi; exact Wg q
  refine wpAny_pyNext_enum_itemD D he ⟨hi,hL⟩ (by simpa using hilt) hei (by simp [hei,Ne.symm hae]) fun x' h' tk hP ho hs' hT hsz hk=>?_
  have ex:x'=u:=by
   have:its.toArray[i]? = some x':=hP
   rw [List.getElem?_toArray,hu] at this
   cases this
   rfl
  subst ex
  refine ⟨_,rfl,wpAny_letOwnedTupleGo_enum ho fun h2 he2 sb=>?_⟩
  have k2:∀ b o,b≠e→b≠it→s.heap.get? b=some o→h2.get? b=some o:=fun b o q1 q2 q=>(sb.2 b q1).trans (hk b o q1 q2 q)
  have hT2:h2.get? s.heap.objs.size=some { cls:=.type "tuple",data:=.seq #[.int i tk,x'] }:=(sb.2 _ (QZ (hlt e (by simp)))).trans hT
  have I2:Inv X pins σ (upd H s.heap.objs.size (.tup [.int i,x])) { s with heap:=h2,toks:=tk + 1 }:=Inv.pairLaid (t':=tk + 1) I hf hlt ru hT2 k2
  refine ⟨.ref s.heap.objs.size,_,I2,rfl,⟨s.heap.objs.size,x,I.hok.fresh (W8 _),fun ys hy=>by rw [I.tuple_inj hy hq]; exact hx,rfl,rfl⟩,⟨⟨x',by simpa using he2⟩,hs'.1.at fun o q=>(sb.2 it (Ne.symm hei)).trans q⟩,fun b hb=>?_⟩
  rw [z0t (Wt (hlt b hb))]
  exact (hf b hb).1
 done:=by
  intro X hP hw hK hc i pins s σ H E I hf st hg
  subst hP hw hK
  obtain ⟨xs,hq,hx⟩:=hg
  obtain ⟨its,rv,p,hz⟩:=I.tuple hq
  obtain ⟨⟨old,he⟩,hi⟩:=st
  have hL:s.heap.IsTuple a its.toArray:=p
  have hl:=rv.length
  have D:=Draws.tuple' (prog:=X.prog) (w:=X.w) (A:=X.A.in1) (I.ok.hd hc) it a hai its.toArray
  have hn:its.toArray.size=i:=by simp; omega
  obtain ⟨f0,f1,f2,f3,f4,f5⟩:=hf it (by simp)
  exact wpAny_pyNext_enum_endD D he ⟨by rw [hn]; exact hi,hL⟩ fun h' eb=>⟨rfl,I.turned (t':=s.toks) (fun b o hb q=>eb b o hb q) f0 f1 f3 f4 f5⟩
 self:=fun _ _ _ _ _ st h=>by
  obtain ⟨⟨old,he⟩,_⟩:=st
  exact JH he h
end
end L2
namespace DV
open PySem PySem.Spec PyProof.Rows L2
section
variable {X:Cx} {c:Fc} {tg e:Expr} {fe:DE} {pos pp:Pos}
def zgQ (K:W1) (ta:TA):TI:=fun σ H R=>ta σ H fun vs H1=>(∃ a,vs=[.ref a]∧(∃ xs,SqL K H1 a xs)∧R (IteL K a) H1)∨(∃ a,vs=[.ref a]∧(∃ xs,SqT K H1 a xs)∧R (IteT K a) H1)
theorem zew {ctx} (hg:Gl X "enumerate") (hm:X.mg "enumerate" = none) (ha:PA X [a] ta) (hs:We [a] X.env=[(false,eval a X.env)]:=by rfl):PI X (.Tuple elts ctx tp) (.Call (.Name "enumerate" pp) [a] [] pos) (zgQ X.K ta):=by
 intro pins s σ H R I h
 refine Call_ (z8v I hg hm boot_enumerate (PyProof.Rows.callWith_type1 (thn (ha pos pins s σ H _ I h) fun us s1 ⟨vs,H1,I1,r1,q1⟩=>?_) hs rfl))
 rcases q1 with ⟨a,ev,⟨xs,hq⟩,q⟩ | ⟨a,ev,⟨xs,hq⟩,q⟩
 ·subst ev
  cases r1 with
  | cons r rr =>
   cases rr
   cases r
   obtain ⟨its,rv,p,hz⟩:=I1.list hq
   have hL:s1.heap.IsList a its.toArray:=p.isList
   have hlt:a < s1.heap.objs.size:=by obtain ⟨o,q,_⟩:=hL; exact Wg q
   refine call_enumerate_list hL fun h' he hi hsz kp=>JH he ?_
   refine ⟨s1.heap.objs.size + 1,[s1.heap.objs.size + 1,s1.heap.objs.size],_,_,H1,rfl,I1.kept (t':=s1.toks) kp,za1 a _ _ (Nat.succ_ne_self _) (Wt (QJ hlt)) (Wt hlt),⟨⟨_,he⟩,hi⟩,fun b hb=>?_,q⟩
   have hb:b=s1.heap.objs.size + 1∨b=s1.heap.objs.size:=by simpa using hb
   have hle:s1.heap.objs.size≤b:=by rcases hb with z | z <;> subst z <;> first | exact W8 _ | exact QE _
   exact I1.fpOk hle (I1.hok.fresh hle)
 ·subst ev
  cases r1 with
  | cons r rr =>
   cases rr
   cases r
   obtain ⟨its,rv,p,hz⟩:=I1.tuple hq
   have hL:s1.heap.IsTuple a its.toArray:=p
   have hlt:a < s1.heap.objs.size:=by obtain ⟨o,q,_⟩:=hL; exact Wg q
   refine z3R hL fun h' he hi hsz kp=>JH he ?_
   refine ⟨s1.heap.objs.size + 1,[s1.heap.objs.size + 1,s1.heap.objs.size],_,_,H1,rfl,I1.kept (t':=s1.toks) kp,za0 a _ _ (Nat.succ_ne_self _) (Wt (QJ hlt)) (Wt hlt),⟨⟨_,he⟩,hi⟩,fun b hb=>?_,q⟩
   have hb:b=s1.heap.objs.size + 1∨b=s1.heap.objs.size:=by simpa using hb
   have hle:s1.heap.objs.size≤b:=by rcases hb with z | z <;> subst z <;> first | exact W8 _ | exact QE _
   exact I1.fpOk hle (I1.hok.fresh hle)
def z4q (ds:List D):List D:=ds.mapIdx fun i d=>D.tup [.int (i:Nat),d]
theorem z6p {ds:List D} {i:Nat} {d:D} (h:(z4q ds)[i]? = some d):∃ d',ds[i]? = some d'∧d = .tup [.int i,d']:=by
 unfold z4q at h
 rw [List.getElem?_mapIdx] at h
 cases e:ds[i]? with
 | none=>rw [e] at h; cases h
 | some d' =>
  rw [e] at h
  cases h
  exact ⟨d',rfl,rfl⟩
theorem Reps.pair (r:Rep H O v d):Reps H O [.int i,v] [.int i,d]:=by
 refine ⟨rfl,fun j v' d' e1 e2=>?_⟩
 match j with
 | 0=>simp at e1 e2; subst e1 e2; exact .int _
 | 1=>simp at e1 e2; subst e1 e2; exact r
 | j + 2=>simp at e1
def z9c (f:DE):DI:=fun δ=>(f δ).bind fun r δ1=>match r.d with
 | .lst ds=>.ok (z4q ds) δ1
 | .tup ds=>.ok (z4q ds) δ1
 | _=>.stuck
theorem zaM {elts:List Expr} {ctx} {tp:Pos} (hg:Gl X "enumerate") (hm:X.mg "enumerate" = none) (he:SE X c e fe) (hs:We [e] X.env=[(false,eval e X.env)]:=by rfl):SI X c (.Tuple elts ctx tp) (.Call (.Name "enumerate" pp) [e] [] pos) (z9c fe) :=
 PI.weak (zew hg hm (z1x he z32 hs) hs) fun σ H R ⟨δ,k,q⟩=>by
  unfold z9c at q
  rw [z06] at q
  refine ⟨δ,k,z03 q fun r δ1 q1 v H1 a1 r1=>?_⟩
  have rr:=r1.rep
  generalize r.d=d at q1 rr
  cases d <;> first | exact q1.elim | skip
  ·cases rr with
   | tup h1 h2 h3 h4 =>
    rename_i a vs
    refine .inr ⟨_,rfl,⟨_,.of h2⟩,q1 _ H1 a1 ?_⟩
    intro H2 kp
    have h5:=kp _ _ h2 fun z=>h1 (.inr z)
    have r':Reps H1 (Av c σ δ1) vs _:=⟨h3,h4⟩
    refine ⟨⟨vs,.of h5,by rw [r'.1]; simp [z4q]⟩,fun i d e=>?_⟩
    obtain ⟨d',e',rfl⟩:=z6p e
    obtain ⟨v,ev,rv⟩:=r'.get e'
    refine ⟨⟨vs,v,.of h5,ev⟩,fun x H3 ⟨p,y,hp,hy,e3,ex⟩=>.inr ⟨p,_,_,hp,e3,ex,rfl,?_⟩⟩
    have:=hy vs (.of h5)
    rw [ev] at this
    cases this
    exact Reps.pair rv
  ·cases rr with
   | lst h1 h2 h3 h4 =>
    rename_i a vs
    refine .inl ⟨_,rfl,⟨_,.inl h2⟩,q1 _ H1 a1 ?_⟩
    intro H2 kp
    have h5:Rd H2 a (.lst vs):=Rd.keep h2 fun o e=>kp a o e fun z=>h1 (.inr z)
    have r':Reps H1 (Av c σ δ1) vs _:=⟨h3,h4⟩
    refine ⟨⟨vs,.inl h5,by rw [r'.1]; simp [z4q]⟩,fun i d e=>?_⟩
    obtain ⟨d',e',rfl⟩:=z6p e
    obtain ⟨v,ev,rv⟩:=r'.get e'
    refine ⟨⟨vs,v,.inl h5,ev⟩,fun x H3 ⟨p,y,hp,hy,e3,ex⟩=>.inr ⟨p,_,_,hp,e3,ex,rfl,?_⟩⟩
    have:=hy vs (.inl h5)
    rw [ev] at this
    cases this
    exact Reps.pair rv
end
end DV
namespace HT
open PySem PySem.Spec PyProof.Rows
section
variable {prog:Wl} {w:Wq} {A:Wr} {E:Value→W2→Prop} {s:W2}
theorem zaw (n:Nat):Qm none none (-1) (n:Int)=((n:Int) - 1,-1):=by
 unfold Qm
 simp
theorem zaa (n:Nat):WU ((n:Int) - 1) (-1) (-1)=n:=by
 unfold WU
 simp
 try omega
theorem z5r {sl:Addr} {t:Tok} {n:Nat} {Q:Int×Int×Nat→W2→Prop} (hs:s.heap.IsSliceOf sl .none .none (.int (-1) t))
  (h:Q ((n:Int) - 1,-1,n) s):W5 (model prog w) A (QQ (.ref sl) (pure (n:Int))) Q E s:=by
 obtain ⟨os,hos,hcs,hds⟩:=id hs
 unfold QQ Builtin.Slice.sliceFields
 refine W0 (W0 (QO hos hds (x:=.none) rfl (W0 (QO hos hds (x:=.none) rfl (W0 (QO hos hds (x:=.int (-1) t) rfl (W3 ?_)))))))
 refine W0 (slicePart_int ?_)
 show W5 _ _ (if ((-1:Int) == 0)=true then _ else _) _ _ s
 rw [if_neg (by decide)]
 refine W0 (slicePart_none (W0 (slicePart_none (W0 (W3 ?_)))))
 show W5 _ _ (match Qm none none (-1) (n:Int) with | (lo,hi)=>pure (lo,(-1:Int),WU lo hi (-1))) _ _ s
 rw [zaw n]
 show W5 _ _ (pure ((n:Int) - 1,(-1:Int),WU ((n:Int) - 1) (-1) (-1))) _ _ s
 rw [zaa]
 exact W3 h
theorem z9Q:∀ {l:List α},(∀ x ∈ l,f x=g x)→l.filterMap f=l.filterMap g
 | [],_=>rfl
 | x :: l,h=>by
  rw [Qy,Qy,h x (by simp),z9Q fun y hy=>h y (by simp [hy])]
theorem zcV (xs:Array Value):((Wf xs.size).filterMap fun (m:Nat)=>xs[(((xs.size:Int) - 1) + (m:Int) * -1).toNat]?).toArray=xs.toList.reverse.toArray:=by
 have e:((Wf xs.size).filterMap fun (m:Nat)=>xs[(((xs.size:Int) - 1) + (m:Int) * -1).toNat]?)=((Wf xs.size).map fun k=>xs.size - 1 - k).filterMap (xs[·]?):=by
  rw [List.filterMap_map]
  refine z9Q fun m hm=>?_
  have:(((xs.size:Int) - 1) + (m:Int) * -1).toNat=xs.size - 1 - m:=by
   have:=Qt.mp hm
   omega
  simp only [this,Function.comp]
 rw [e,PySem.W.krv_range,List.filterMap_reverse,PySem.W.krv_all]
theorem getItem_tuple_rev (ht:IsTup s.heap t items) (hs:s.heap.IsSliceOf sl .none .none (.int (-1) tk))
  (h:Q (.ref s.heap.objs.size) { s with heap:=s.heap.push { cls:=.type "tuple",data:=.seq items.toList.reverse.toArray } })
  (hsz:items.size≤W6):W5 (model prog w) A (Jp (.ref t) (.ref sl)) Q E s:=by
 have htake:sizeOk (.seq items.toList.reverse.toArray):=by
  show items.toList.reverse.toArray.size≤W6
  simpa using hsz
 obtain ⟨os,hos,hcs,hds⟩:=id hs
 have hTs:s.TypeIs (.ref sl) "slice":=⟨os,hos,hcs⟩
 unfold Jp
 try with_reducible refine WH ?_
 first | refine W0 (W3 ?_) | skip
 refine W0 (wpAny_sequenceKey ht.typeIs (by decide) ?_)
 refine W0 (Qw (name:=Str.ofString "__getitem__") ht.typeIs Q4
  (Q8 Q4 ht.typeIs entry_tuple_getitem ?_ (args_tuple_getitem _ _)))
 show W5 _ _ (Builtin.Tuple.tupleItemsOf (.ref t) >>= _) _ _ s
 refine W0 (tupleItemsOf_ ht ?_)
 refine W0 (QG hTs ?_)
 rw [if_pos (by decide)]
 refine W0 (z5r hs ?_)
 have hno:¬ ((((items.size:Int) - 1) == 0 && (-1:Int) == 1 && items.size == items.size)=true):=by
  intro q
  rw [Wa,Wa] at q
  exact absurd q.1.2 (by decide)
 show W5 _ _ (if (((items.size:Int) - 1) == 0 && (-1:Int) == 1 && items.size == items.size)=true then _ else _) _ _ s
 rw [if_neg hno,zcV]
 first
  | exact W0 (m:=WW _) (WJ (W3 ⟨_,rfl,W3 h⟩) htake)
  | exact W0 (m:=WW _) (WJ (W0 (W3 (W3 ⟨_,rfl,W3 h⟩))) htake)
  | exact W0 (W0 (m:=WW _) (WJ (W3 (W3 ⟨_,rfl,W3 h⟩)) htake))
  | exact W0 (W0 (m:=WW _) (WJ (W3 ⟨_,rfl,W3 h⟩) htake))
end
end HT
namespace DV
open PySem PySem.Spec PyProof.Rows L2
theorem rv_tup:RvR X (fun x H Q=>∃ a xs,x = .ref a∧SqT X.K H a xs∧∀ p,H p=none→Q (.ref p) (upd H p (.tup xs.reverse))):=by
 intro pins s σ H x v t sl Q I rx hs h
 obtain ⟨a,xs,rfl,hx,q⟩:=h
 cases rx
 obtain ⟨its,r,ht,hz⟩:=I.tuple hx
 have hlen:=r.length
 refine ⟨"tuple",_,PyProof.Rows.slot_tuple_getitem.lookup,ht.typeIs,?_⟩
 refine HT.getItem_tuple_rev ht hs ?_ (by rw [Wb]; omega)
 refine ⟨.ref s.heap.objs.size,_,I.laid (t':=s.toks) (o:=.tup xs.reverse) (fun b ob q=>W4 _ q) (W8 _) ?_,rfl,q _ (I.hok.fresh (W8 _))⟩
 exact ⟨by rw [Jr]; exact hz,_,r.reverse,IsTupN.new _ _⟩
section
variable {X:Cx} {c:Fc} {e:Expr} {fb:BE} {pos p2:Pos}
def z42:D→Option S
 | .tup ds=>some (.pure (.tup ds.reverse))
 | d=>pRev d
def rRevX (K:W1):V→Hp→VK→Prop:=fun x H Q=>(∃ a xs,x = .ref a∧SqT K H a xs∧∀ p,H p=none→Q (.ref p) (upd H p (.tup xs.reverse)))∨rRev K x H Q
theorem zaQ {st:Expr} (he:SB X c e fb) (hst:PE X st (tC (.int (-1)))):SE X c (.Subscript e (.Slice none none (some st) p2) pos) (eC1 z42 fb) :=
 PE.weak (zga (r:=rRevX X.K) (rv_tup.or (rv_str.or zek)) he hst) fun σ H Q h=>z77 (fun c σ δ H x d s Q k rx hp q=>by
  cases d with
  | tup ds =>
   simp only [z42,W7] at hp
   subst hp
   obtain ⟨a,vs,ea,ha,ra⟩:=rx.tup
   exact .inl ⟨a,vs,ea,.of ha,fun p hp=>q _ _ (.alloc k hp _) (RepS.newT k ra.reverse hp)⟩
  | str z =>
   simp only [z42,pRev] at hp
   split at hp
   ·rename_i hz
    simp only [W7] at hp
    subst hp
    exact .inr (.inl ⟨z,rx.str,hz,q _ H (.refl k) (.str _)⟩)
   ·cases hp
  | lst ds =>
   simp only [z42,pRev,W7] at hp
   subst hp
   obtain ⟨a,vs,ea,ha,ra⟩:=rx.lst
   exact .inr (.inr ⟨a,vs,ea,.inl ha,fun p hp=>q _ _ (.alloc k hp _) (RepS.newL k ra.reverse hp)⟩)
  | _=>simp [z42,pRev] at hp) h
def z6g:D→Bool
 | .non=>true
 | _=>false
def pIsN (neg:Bool) (d e:D):Option S:=match e with
 | .non=>some (.pure (.bl (neg != z6g d)))
 | _=>none
theorem zgv:Op2 (fun x y H Q=>y = .non∧Q (.bl (decide (x = .non))) H) (pIsN false):=by
 intro c σ δ H x y d e s Q k rx ry hp q
 cases e with
 | non =>
  simp only [pIsN,W7] at hp
  subst hp
  have ey:y = .non:=by
   rcases ry with r | ⟨a,e,o⟩
   ·cases r; rfl
   ·exact o.elim
  have:decide (x=V.non)=(false != z6g d):=by
   rcases rx with r | ⟨a,e,o⟩
   ·cases r <;> simp [z6g]
   ·subst e
    cases d <;> first | exact o.elim | simp [z6g]
  exact ⟨ey,by rw [this]; exact q _ H (.refl k) (.bl _)⟩
 | _=>simp [pIsN] at hp
theorem zeJ:Op2 (fun x y H Q=>y = .non∧Q (.bl (!decide (x = .non))) H) (pIsN true):=by
 intro c σ δ H x y d e s Q k rx ry hp q
 cases e with
 | non =>
  simp only [pIsN,W7] at hp
  subst hp
  have ey:y = .non:=by
   rcases ry with r | ⟨a,e,o⟩
   ·cases r; rfl
   ·exact o.elim
  have:(!decide (x=V.non))=(true != z6g d):=by
   rcases rx with r | ⟨a,e,o⟩
   ·cases r <;> simp [z6g]
   ·subst e
    cases d <;> first | exact o.elim | simp [z6g]
  exact ⟨ey,by rw [this]; exact q _ H (.refl k) (.bl _)⟩
 | _=>simp [pIsN] at hp
end
section
variable {c:Fc} {σ σ':St} {δ δ':Dl} {H H':Hp} {i:Nat} {a:Addr} {ds:List D}
end
section
variable {X:Cx} {c:Fc} {tg iter:Expr} {body:List Stmt} {g:DG} {b:DS} {i:Nat} {pos:Pos}
end
theorem ix_X (hu:X.A.units + 64 < Qx):IxR X (fun x y H Q=>rIxD x y H Q∨rIx X.K x y H Q):=(zeU hu).or z0y
end DV
namespace L2
open PySem PySem.Spec PyProof.Rows
section
variable {X:Cx}
end
end L2
namespace DV
open PySem PySem.Spec PyProof.Rows L2
section
variable {X:Cx} {c:Fc} {e:Expr} {fe:DE} {pos:Pos}
end
section
variable {c:Fc} {σ:St} {δ δ':Dl} {H H':Hp} {i:Nat} {a p:Addr} {ds:List D}
end
open Classical in
noncomputable def itAt (δ₀:Dl) (ds:List D):DI:=fun δ=>if δ=δ₀ then .ok ds δ else .stuck
section
variable {X:Cx} {c:Fc} {cs:List Nat} {tg iter elt:Expr} {ifs:List Expr} {scope:Scope} {pos:Pos} {g:DG} {t:DT} {el:DE} {i:Nat}
end
section
variable {X:Cx} {c:Fc} {e:Expr} {fe:DE} {pos pos':Pos}
end
section
variable {X:Cx} {c:Fc} {pp pos:Pos}
end
section
variable {c:Fc} {σ:St} {δ:Dl} {H:Hp} {a:Addr} {d:D}
end
section
variable {X:Cx} {c:Fc} {e:Expr} {es:List Expr} {as:List Ak} {f0:DE} {k n:Nat} {x:Str} {G:DF} {pp pos:Pos}
end
section
variable {X:Cx} {c:Fc} {e:Expr} {fe:DE} {pos:Pos}
theorem Ok.mutD (k:Ok c σ δ H) (e:δ[i]? = some (some (.own (.dct ds)))) (ea:σ[i]? = some (some (.ref a))) (r:DR H (Av c σ δ) vs' ds') :
  Aft c σ δ H σ (δ.set i (some (.own (.dct ds')))) (upd H a (.dK vs')):=by
 have hi:i < δ.length:=(Wc.mp e).1
 obtain ⟨a',ea',oa,ia,nb⟩:=k.own i _ e
 rw [ea] at ea'; cases ea'
 obtain ⟨vs,ha,_⟩:=oa
 have ownA:Own σ δ a:=⟨i,_,e,ea⟩
 have avA:Av c σ δ a:=.inr ownA
 have own_iff:∀ b,Own σ (δ.set i (some (.own (.dct ds')))) b ↔ Own σ δ b:=fun b=>by
  constructor
  ·rintro ⟨j,d,e1,e2⟩
   by_cases hj:i=j
   ·subst hj
    exact ⟨i,_,e,e2⟩
   ·rw [W9 hj] at e1
    exact ⟨j,d,e1,e2⟩
  ·rintro ⟨j,d,e1,e2⟩
   by_cases hj:i=j
   ·subst hj
    exact ⟨i,_,by rw [Wv hi],e2⟩
   ·exact ⟨j,d,by rw [W9 hj]; exact e1,e2⟩
 have av_iff:∀ b,Av c σ (δ.set i (some (.own (.dct ds')))) b→Av c σ δ b:=fun b z=>z.elim .inl fun z=>.inr ((own_iff b).mp z)
 have ne:∀ b,¬ Av c σ δ b→b≠a:=fun b n z=>n (by rw [z]; exact avA)
 have kp:∀ b o,H b=some o→¬ Av c σ δ b→upd H a (.dK vs') b=some o:=fun b o h n=>by rw [z0t (ne b n)]; exact h
 have hup:∀ b o,H b=some o→∃ o',upd H a (.dK vs') b=some o':=fun b o h=>by
  by_cases hb:b=a
  ·exact ⟨_,by rw [hb]; exact z0M⟩
  ·exact ⟨o,by rw [z0t hb]; exact h⟩
 refine ⟨⟨fun b o h n=>?_,fun b z=>?_,fun b z=>?_,by rw [J8]; exact k.len,fun j d h=>?_,fun j d h=>?_,fun j l b d d' h1 h2 h3 h4=>?_,k.pinned⟩,fun b o h n=>?_,fun b z=>.inl ((own_iff b).mp z),hup⟩
 ·have hb:b≠a:=fun z=>by
   subst z
   rcases ia with z | z
   ·exact n z
   ·rw [z] at h; cases h
  rw [z0t hb]
  exact k.keep b o h n
 ·obtain ⟨o,h⟩:=k.bd b z
  exact hup b o h
 ·obtain ⟨o,h⟩:=k.ith b z
  exact hup b o h
 ·have hj:i≠j:=fun z=>by subst z; rw [Wv hi] at h; cases h
  rw [W9 hj] at h
  obtain ⟨v,h1,h2⟩:=k.slot j d h
  exact ⟨v,h1,(h2.keep kp).anti fun b z=>.inl (av_iff b z)⟩
 ·by_cases hj:i=j
  ·subst hj
   rw [Wv hi] at h
   cases h
   exact ⟨a,ea,(let r':=r.map fun v d h=>(Rep.keep h kp).anti fun b z=>.inl (av_iff b z); ⟨vs',z0M,r'.keys,r'.vals⟩),ia,nb⟩
  ·rw [W9 hj] at h
   obtain ⟨b,h1,h2,h3,h4⟩:=k.own j d h
   have hb:b≠a:=fun z=>by subst z; exact hj (k.inj i j b _ d e h ea h1)
   exact ⟨b,h1,(h2.keep kp fun o q=>by rw [z0t hb]; exact q).anti fun b z=>.inl (av_iff b z),h3,h4⟩
 ·have f1:∃ d,δ[j]? = some (some (.own d)):=by
   by_cases hj:i=j
   ·subst hj; exact ⟨_,e⟩
   ·rw [W9 hj] at h1; exact ⟨d,h1⟩
  have f2:∃ d,δ[l]? = some (some (.own d)):=by
   by_cases hj:i=l
   ·subst hj; exact ⟨_,e⟩
   ·rw [W9 hj] at h2; exact ⟨d',h2⟩
  obtain ⟨_,f1⟩:=f1
  obtain ⟨_,f2⟩:=f2
  exact k.inj j l b _ _ f1 f2 h3 h4
 ·have hb:b≠a:=fun z=>n (by rw [z]; exact ownA)
  rw [z0t hb]; exact h
def z8A (δ:Dl) (i:Nat):Bool:=match δ[i]? with
 | some (some (.own (.dct _)))=>true
 | _=>false
def zcg (i:Nat) (fi fe:DE):DS:=fun δ=>if z8A δ i then (fe δ).bind fun r δ1=>if z8A δ1 i then (fi δ1).bind fun k δ2=>match δ2[i]? with
  | some (some (.own (.dct ds)))=>match keyD k.d with
   | some kk=>if ds.length < W6 then .ok .next (δ2.set i (some (.own (.dct (putD ds kk r.d))))) else .stuck
   | none=>.stuck
  | _=>.stuck else .stuck else .stuck
theorem zbK (h:z8A δ i=true):∃ ds,δ[i]? = some (some (.own (.dct ds))):=by
 unfold z8A at h
 split at h
 ·rename_i ds e; exact ⟨ds,e⟩
 ·cases h
theorem zed {i:Nat} {o ix:Expr} {fi:DE} {sp:Pos} (hu:X.A.units + 64 < Qx) (ho:PE X o (tVar i)) (hi:SE X c ix fi) (he:SE X c e fe)
  (hs:Jt e (some (.Subscript o ix sp)) pos.line X.env=pure false:=by rfl):SS X c (.Assign [.Subscript o ix sp] e pos) (zcg i fi fe) :=
 PS.weak (zer (by omega) ho hi he hs) fun D σ H ⟨δ,k,q⟩=>by
  unfold zcg z4G at q
  split at q
  case isFalse=>exact q.elim
  rename_i hown
  rw [z06] at q
  refine ⟨δ,k,z03 q fun r δ1 q1 v H1 a1 r1=>?_⟩
  split at q1
  case isFalse=>exact q1.elim
  rename_i hown1
  obtain ⟨ds1,e1⟩:=zbK hown1
  obtain ⟨a,ea,_,_⟩:=a1.ok.own i _ e1
  refine ⟨.ref a,ea,δ1,a1.ok,?_⟩
  rw [z06] at q1
  refine z03 q1 fun kx δ2 q2 u H2 a2 r2=>?_
  split at q2
  ·rename_i ds e2
   split at q2
   ·rename_i kk hk
    split at q2
    ·rename_i hz
     obtain ⟨a',ea',oa,_⟩:=a2.ok.own i _ e2
     rw [ea] at ea'; cases ea'
     obtain ⟨ws,ha,hk1,hk2⟩:=id oa
     have dr:DR H2 (Av c σ δ2) ws ds:=DR.of hk1 hk2
     have hu':=z7k hk r2.b
     subst hu'
     have hlen:ws.length=ds.length:=by have:=congrArg List.length hk1; simpa using this
     have rv:Rep H2 (Av c σ δ2) v r.d:=Rep.aft r1.rep a2
     refine ⟨a,_,rfl,DPut.k ha (by rw [hlen]; exact hz),?_⟩
     exact q2 σ _ (a1.trans (a2.trans (Ok.mutD a2.ok e2 ea (dr.put rv))))
    ·exact q2.elim
   ·exact q2.elim
  ·exact q2.elim
end
section
variable {X:Cx} {c:Fc} {o e f:Expr} {fe ff:DE} {i:Nat} {apos cpos:Pos}
end
section
variable {X:Cx}
end
end DV
namespace L2
open PySem PySem.Spec PyProof.Rows
section
variable {X:Cx} {tg:Expr}
end
end L2
namespace DV
open PySem PySem.Spec PyProof.Rows L2
variable {X:Cx} {c:Fc} {tg e:Expr} {fe:DE} {pp pos:Pos}
section
variable {X:Cx}
end
theorem vals_ints:∀ {ns:List Int} {us:List Value},Vals (ns.map V.int) us→∃ ys:List (Int×Tok),us=(ys.map fun p=>Value.int p.1 p.2)∧ns=ys.map (·.1)
 | [],us,r=>by cases r; exact ⟨[],rfl,rfl⟩
 | n :: ns,us,r=>by
  cases r with
  | cons r1 r2 =>
   obtain ⟨ys,e1,e2⟩:=vals_ints r2
   obtain ⟨t,rfl⟩:=r1
   exact ⟨(n,t) :: ys,by rw [e1]; rfl,by rw [e2]; rfl⟩
section
variable {X:Cx}
end
section
variable {X:Cx} {c:Fc} {e:Expr} {fb:BE} {pos pp:Pos}
end
end DV
namespace L2
open PySem PySem.Spec PyProof.Rows
section
variable {prog:Wl} {w:Wq} {A:Wr} {E:Value→W2→Prop} {s:W2}
end
section
variable {X:Cx} {pos:Pos}
end
end L2
namespace DV
open PySem PySem.Spec PyProof.Rows L2
section
variable {X:Cx} {c:Fc} {pos:Pos}
end
open PySem PySem.Builtin PySem.Builtin.Str PySem.StrLaws
section
variable {X:Cx}
end
section
variable {X:Cx} {c:Fc} {e:Expr} {fb:BE}
end
end DV
set_option maxHeartbeats 1000000
namespace PySem
open Sem (wp)
open AutoSeq1 (wpAny_loadPart')
section
variable {prog:Wl} {w:Wq} {A:Wr} {E:Value→W2→Prop} {s:W2}
end
end PySem
namespace PyProof.Rows
open PySem
section
variable {M:Model} {A:Wr} {E:Value→W2→Prop} {s:W2} {env:Env}
end
end PyProof.Rows
set_option maxHeartbeats 400000
namespace L2
open PySem PySem.Spec PyProof.Rows
end L2
namespace DV
open PySem PySem.Spec PyProof.Rows L2
section
variable {X:Cx} {c:Fc} {tg e:Expr} {fe:DE} {pos pp:Pos}
end
end DV
namespace L2
open PySem PySem.Spec PyProof.Rows
structure Noted (h h':Heap) (fs:List Addr) (a T:Addr) (old:Value):Prop where
 new:h.get? T=none
 keep:∀ b o,h.get? b=some o→b≠a→old≠.ref b→b ∉ fs→h'.get? b=some o
 frame:∀ b o,h.get? b=some o→(∀ vs,o.data≠.fields vs)→∃ sl,h'.get? b=some { o with slots:=sl }
section
variable {M:Model} {A:Wr} {E:Value→W2→Prop} {s:W2}
end
abbrev vErr:List Value:=[.type "ValueError",.type "Exception",.type "BaseException",.type "object"]
section
variable {X:Cx} {x:Str} {C:Addr} {np cpos pos:Pos}
end
section
variable {X:Cx} {pins:List (Addr×Obj)} {σ:St} {H:Hp} {s:W2} {h':Heap}
end
structure Apart (X:Cx) (pins:List (Addr×Obj)) (H:Hp) (b:Addr):Prop where
 old:X.s₀.heap.get? b=none
 free:H b=none
 loc:b≠X.env.locals
 cel:∀ x c,X.env.cells.lookup x=some c→c≠b
 pin:∀ p ∈ X.pn ++ pins,p.1≠b
section
variable {X:Cx} {pins:List (Addr×Obj)} {σ:St} {H:Hp} {s:W2} {h':Heap} {a T:Addr}
end
section
variable {prog:Wl} {w:Wq} {A:Wr} {E:Value→W2→Prop} {K:W1}
end
section
variable {X:Cx} {pins ps:List (Addr×Obj)} {σ:St} {H:Hp} {s:W2} {a:Addr} {xe:Value→W2→Prop} {pn:List (Addr×Obj)}
section
variable {M:Model} {E:Value→W2→Prop} {C L:Addr} {dx:Option Addr} {Q:Unit→W2→Prop}
end
end
section
variable {X:Cx} {pins:List (Addr×Obj)} {σ:St} {H:Hp} {s:W2} {b:Addr}
end
section
variable {X:Cx} {k:Nat} {f:Addr} {fd:Q7} {ps:List Str} {sp:Sp} {x:Str} {p pos:Pos} {e:Expr} {es:List Expr} {t:TA} {W:Addr→Option Addr→St→Hp→Prop}
end
section
variable {P:Wl} {w:Wq} {K:W1} {mg:Str→Option Value} {base:Heap} {N:List Str} {qual:Str} {scope:Scope} {f:Addr} {cd:Value} {A:Wr} {outer:List Env} {s₀:W2} {H₀:Hp} {E:XK}
end
def Cx.loop (X:Cx):Cx:={ X with xe:=notedBy (model X.prog X.w) X.A X.env (cameBackBy (model X.prog X.w) X.A X.env X.xe) }
section
variable {X:Cx} {pins ps:List (Addr×Obj)} {σ:St} {H:Hp} {s:W2}
end
end L2
namespace DV
open PySem PySem.Spec PyProof.Rows L2
section
variable {c:Fc} {σ σ':St} {δ δ':Dl} {H H':Hp} {g:Xc→Dl→Prop}
end
abbrev DX:=List S→Option ((S×List S) ⊕ (Xc×List S))
section
variable {P:Wl} {w:Wq} {K:W1} {mg:Str→Option Value} {base:Heap}
end
section
variable {X:Cx} {c:Fc} {e:Expr} {es:List Expr} {as:List Ak} {k n:Nat} {x:Str} {G:DX} {pp pos:Pos}
end
section
variable {c:Fc} {σ σ':St} {δ δ':Dl} {H H':Hp}
end
section
variable {c:Fc} {σ σ':St} {δ δ':Dl} {H H':Hp} {B':Addr→Prop} {g:Xc→Dl→Prop}
end
end DV
namespace L2
open PySem PySem.Spec PyProof.Rows PySem.W Builtin Builtin.ObjectAttr Builtin.Getset_descriptor
section
variable {prog:Wl} {w:Wq} {A:Wr} {E:Value→W2→Prop} {K:W1} {C e:Addr} {oe:Obj} {h:Heap} {g:Array GenState} {d:Drawn} {t:Nat} {os:OsState}
structure ExcK (K:W1) (C:Addr):Prop where
 ga:findIn K (.ref C) "__getattribute__" = some (some (.builtin "BaseException.__getattribute__"))
 gt:findIn K (.ref C) "__getattr__" = some none
 cl:findIn K (.ref C) "__class__" = some (some (.builtin "object.__class__"))
 sp:specialIn K (.builtin "object.__class__") "__get__" = some (some (.builtin "getset_descriptor.__get__"))
 tk:takesIn K (.builtin "object.__class__")=some true
 mo:mroIn K C (.type "object")=some true
 mb:mroIn K C (.type "BaseException")=some true
end
section
variable {X:Cx} {y:Str} {D:Addr} {pos:Pos}
structure IsT (K:W1) (ce:DV.Tx→Nat) (ys:List DV.Tx) (cv:Value) (tab:DV.Tx→Bool):Prop where
 k:∀ z ∈ ys,ExcK K (ce z)
 c:∀ z ∈ ys,(PySem.W.clsIn K (ce z)).isSome=true
 one:∀ z ∈ ys,QC K (.ref (ce z)) cv=some (tab z)
end
structure RoomH (k:Nat) (A:Wr):Prop where
 dp:A.depth + 3 * k + 5 < recursionLimit
 un:A.units + 16 * k + 200 < Qx
structure FnOkH (P:Wl) (w:Wq) (K:W1) (mg:Str→Option Value) (base:Heap) (k:Nat) (f:Addr) (fd:Q7) (ps:List Str) (sp:Sp):Prop where
 len:∀ vs H Q E,sp vs H Q E→vs.length=ps.length
 run:∀ (A:Wr) (outer:List Env) (s:W2) (H:Hp) (args:Args) (us:List Value) (vs:List V) (Q:VK),RoomH k A→Env0 P w K mg base A outer s H→BindsTo s fd args (ps.zip us)→Vals vs us→sp vs H Q E0 →
  QM (model P w) A (.call (.ref f) args) (CR CX0 outer P w H s Q E0) s
section
variable {P:Wl} {w:Wq} {K:W1} {mg:Str→Option Value} {base:Heap} {k:Nat} {f:Addr}
end
section
variable {X:Cx} {k:Nat} {f:Addr} {fd:Q7} {ps:List Str} {sp:Sp} {x:Str} {p pos:Pos} {e:Expr} {es:List Expr} {t:TA}
end
end L2
namespace DV
open PySem PySem.Spec PyProof.Rows L2
section
variable {X:Cx} {c:Fc} {e:Expr} {fb:BE} {pp py pos:Pos} {y:Str} {ce:Tx→Nat} {ys:List Tx} {tab:Tx→Bool}
end
section
variable {P:Wl} {w:Wq} {K:W1} {mg:Str→Option Value} {base:Heap}
end
section
variable {X:Cx} {c:Fc} {e:Expr} {es:List Expr} {as:List Ak} {k n:Nat} {x:Str} {G:DF} {pp pos:Pos}
end
end DV
namespace L2
open PySem PySem.Spec PyProof.Rows PySem.SeqAt
section
variable {X:Cx}
end
end L2
namespace DV
open PySem PySem.Spec PyProof.Rows L2
section
variable {X:Cx} {c:Fc} {e:Expr} {fb:BE}
end
end DV
namespace L2
open PySem PySem.Spec PyProof.Rows
section
variable {X:Cx}
end
end L2
namespace DV
open PySem PySem.Spec PyProof.Rows L2
end DV
namespace PySem
open Sem (wp)
structure ZA (z TI TO i1 i2:Addr) (f1 f2:List Addr):Prop where
 m1:i1 ∈ f1
 m2:i2 ∈ f2
 z1:z ∉ f1
 z2:z ∉ f2
 t1:TO ∉ f1
 t2:TO ∉ f2
 k1:i1 ∉ f2
 k2:i2 ∉ f1
 tz:TO≠z
 iz:TI≠z
 io:TI≠TO
 n1:TI≠i1
 n2:TI≠i2
section
variable {prog:Wl} {w:Wq} {A:Wr} {E:Value→W2→Prop} {s:W2}
end
end PySem
namespace L2
open PySem PySem.Spec PyProof.Rows
section
variable {X:Cx} {pins:List (Addr×Obj)} {σ:St} {H:Hp} {s:W2} {h':Heap}
end
end L2
namespace DV
open PySem PySem.Spec PyProof.Rows L2
section
variable {X:Cx} {c:Fc} {tg e:Expr} {fe:DE} {pos pp:Pos}
end
section
variable {X:Cx} {c:Fc} {e:Expr} {es:List Expr} {as:List Ak} {k n:Nat} {x:Str} {G:DX} {pp pos:Pos}
end
end DV
namespace PySem
open Sem (wp)
section
variable {prog:Wl} {w:Wq} {A:Wr} {E:Value→W2→Prop} {hp:Heap} {g:Array GenState} {d:Drawn} {t:Nat} {os:OsState}
variable {nm qn:Str} {C N:Addr} {bs bm bmB:List Value} {hdct:Bool} {sn:List Str} {sub:List Value} {ab:Bool} {col:Option Bool} {dd:Option Addr} {k0 k1 k2 k3 k5:Option Value} {B newId initId:String}
end
end PySem
namespace L2
open PySem PySem.Spec PyProof.Rows PySem.W PySem.Builtin PySem.Builtin.ObjectAttr
def zgi:List Value→Bool
 | .ref _ :: r=>zgi r
 | l=>l == vErr
def zgj (K:W1) (C:Addr):Bool:=(clsIn K C).any fun cd=>zgi cd.mro
section
variable {prog:Wl} {w:Wq} {A:Wr} {E:Value→W2→Prop} {s:W2} {K:W1} {x C:Addr} {name:Str} {v:Value} {R:Result→W2→Prop}
end
section
variable {P:Wl} {w:Wq} {H:Hp} {h:Heap} {C a:Addr}
end
structure ExcS (K:W1) (C:Addr) (f:Str):Prop where
 set:findIn K (.ref C) "__setattr__" = some (some (.builtin "object.__setattr__"))
 over:zgj K C=true
 hd:hasDictIn K C=true
 tk:takerIn K C f=some none
section
variable {X:Cx} {o value:Expr} {f:Str} {ta tv:TE} {pos pos':Pos}
end
section
variable {X:Cx} {k:Nat} {f C:Addr} {fd:Q7} {ps:List Str} {sp:Sp} {x:Str} {p pos:Pos} {e:Expr} {es:List Expr} {t:TA}
end
section
variable {P:Wl} {w:Wq} {K:W1} {mg:Str→Option Value} {base:Heap} {x qual f1 f2:Str} {st:Stmt} {f:Addr} {fd:Q7} {N ps:List Str} {k:Nat}
end
section
variable {X:Cx} {C f:Addr} {call:Expr} {te:TE} {pos:Pos}
end
end L2
namespace DV
open PySem PySem.Spec PyProof.Rows L2 PySem.W
section
variable {X:Cx} {c:Fc} {e:Expr} {fb:BE}
end
end DV
namespace L2
open PySem PySem.Spec PyProof.Rows
section
variable {X:Cx} {tg:Expr}
end
end L2
namespace DV
open PySem PySem.Spec PyProof.Rows L2
section
variable {X:Cx} {c:Fc} {tg e:Expr} {fe:DE} {pos pp:Pos}
end
end DV
namespace PySem.SeqAt
open AutoSeq1 (wpAny_loadPart')
open MeetsSeq
section
variable {A:Wr} {s:W2}
end
end PySem.SeqAt
namespace DV
open PySem PySem.Spec PyProof.Rows L2
end DV
namespace PySem.SeqAt
open AutoSeq1 (wpAny_loadPart')
open MeetsSeq
abbrev prO (dd:Option Addr) (a1 a2:Int) (t1 t2:Tok) (n:Nat) (sl:Array (Option Value)):Obj:={ cls:=.type "tuple",dict:=dd,data:=.seq #[.int a1 t1,.int a2 t2] n,slots:=sl }
def ltP (a1 a2 b1 b2:Int):Bool:=if a1 == b1 then decide (a2 < b2) else decide (a1 < b1)
theorem zaC (l b:Addr) (a1 a2 b1 b2:Int) (t1 t2 u1 u2:Tok) (n n2:Nat) (dd dd2:Option Addr) (sl sl2:Array (Option Value)) :
  Meets (Builtin.«tuple.__lt__» ⟨[.ref l,.ref b],[]⟩)
   (fun _ R s=>s.heap.get? l=some (prO dd a1 a2 t1 t2 n sl)∧s.heap.get? b=some (prO dd2 b1 b2 u1 u2 n2 sl2)∧R (.ok (.ret (.bool (ltP a1 a2 b1 b2)))) s) :=
 .of_wp fun prog w A R s h=>by
  obtain ⟨hp,g,d,tk,os⟩:=s; obtain ⟨hl,hb,h⟩:=h
  have f2:=AutoSeq1.sub_tuple_tuple
  wp_walk using Qe hl,Qe hb,wpAny_forIn_list _ (fun rest c s'=>c.1=none∧s' = ⟨hp,g,d,tk,os⟩ ∧
   (rest=[(.int a1 t1,.int b1 u1),(.int a2 t2,.int b2 u2)]∨(rest=[(.int a2 t2,.int b2 u2)]∧a1=b1)∨(rest=[]∧a1=b1∧a2=b2))) _
  case turn =>
   rintro ⟨y,x⟩ rest c s' ⟨hc,rfl,hz⟩
   rcases hz with hz | ⟨hz,e1⟩ | ⟨hz,_⟩
   ·injection hz with hyx hrest
    cases hyx
    refine W0 (EqAt.int_int a1 t1 b1 u1 prog w _ _ ?_)
    by_cases e:a1=b1
    ·rw [show (a1 == b1)=true by simp [e]]
     wp_walk
     exact ⟨rfl,rfl,.inr (.inl ⟨hrest,e⟩)⟩
    ·rw [show (a1 == b1)=false by simp [e]]
     have hlt:ltP a1 a2 b1 b2=decide (a1 < b1):=by simp [ltP,e]
     rw [hlt] at h
     simp only [Bool.not_false,if_true]
     refine W0 (QV ?_)
     refine W0 (richCompare_gives (op:=.Lt) (JC _ _ t1) (JC _ _ u1) F.slot_int_lt F.entry_int_lt (F.args_int_lt_2 _ _) (gives_int_lt _ _ t1 u1) (fun x=>nomatch x) ?_)
     refine W0 (W3 ?_)
     exact W3 (W3 ⟨_,rfl,h⟩)
   ·injection hz with hyx hrest
    cases hyx
    refine W0 (EqAt.int_int a2 t2 b2 u2 prog w _ _ ?_)
    by_cases e:a2=b2
    ·rw [show (a2 == b2)=true by simp [e]]
     wp_walk
     exact ⟨rfl,rfl,.inr (.inr ⟨hrest,e1,e⟩)⟩
    ·rw [show (a2 == b2)=false by simp [e]]
     have hlt:ltP a1 a2 b1 b2=decide (a2 < b2):=by simp [ltP,e1]
     rw [hlt] at h
     simp only [Bool.not_false,if_true]
     refine W0 (QV ?_)
     refine W0 (richCompare_gives (op:=.Lt) (JC _ _ t2) (JC _ _ u2) F.slot_int_lt F.entry_int_lt (F.args_int_lt_2 _ _) (gives_int_lt _ _ t2 u2) (fun x=>nomatch x) ?_)
     refine W0 (W3 ?_)
     exact W3 (W3 ⟨_,rfl,h⟩)
   ·cases hz
  case fin =>
   rintro ⟨c1,c2⟩ s' ⟨hc,rfl,hz⟩
   simp only at hc
   subst hc
   rcases hz with hz | ⟨hz,e1⟩ | ⟨_,e1,e2⟩
   ·cases hz
   ·cases hz
   ·have hlt:ltP a1 a2 b1 b2=false:=by simp [ltP,e1,e2]
    rw [hlt] at h
    wp_walk
    exact ⟨_,rfl,h⟩
  case h=>exact ⟨rfl,rfl,.inl rfl⟩
end PySem.SeqAt
namespace PySem
open SeqAt (prO ltP zaC)
section
variable {prog:Wl} {w:Wq} {A:Wr} {R:Result→W2→Prop} {I:Addr} {fp wr:List Addr} {n:Nat} {P:Nat→Value→Prop} {St:Nat→Heap→Prop}
end
section
variable {prog:Wl} {w:Wq} {A:Wr} {E:Value→W2→Prop} {s:W2}
end
end PySem
namespace DV
open PySem PySem.Spec PyProof.Rows L2
open PySem.SeqAt (prO ltP)
section
variable {X:Cx} {c:Fc} {e:Expr} {fb:BE} {pos pp:Pos}
end
section
variable {c:Fc} {σ:St} {δ δ':Dl} {H H':Hp} {p:Addr}
end
end DV
namespace L2
open PySem PySem.Spec PyProof.Rows
end L2
namespace DV
open PySem PySem.Spec PyProof.Rows L2
section
variable {X:Cx} {c:Fc} {tg e:Expr} {fe:DE} {pos pp:Pos}
end
section
variable {K:W1} {h:Heap} {mg:Str→Option Value} {x q:Str} {st:Stmt} {f:Addr} {fd:Q7}
abbrev FnH (K:W1) (x:Str) (st:Stmt):Prop:=∃ (f:Addr) (oc:Value) (od:Option Addr) (kV dc pm:Value) (an:Option Addr) (cd ct:Value) (sl:Array (Option Value)),
 PySem.W.nsIn K Wz x=some (some (.ref f))∧K.lookup f=some ⟨oc,od,.func (QF x x (z3N st) (z2u st) (z0b st) .none kV dc pm an cd ct),sl⟩∧PySem.W.codeIn K cd x=true∧QY K (.ref f)=true
theorem fnH (X:K.In h) (G:h.Ns Wz mg) (d:FnH K x st):∃ f fd,Fun K x x st f fd∧mg x=some (.ref f):=by
 obtain ⟨f,oc,od,kV,dc,pm,an,cd,ct,sl,a,l,c,k⟩:=d
 exact ⟨f,_,zdS l c k,PySem.W.mg_of X G a⟩
abbrev Bd (x q:Str) (st:Stmt) (ps:List Str) (us:List Value):Prop:=∀ (kV doc pm:Value) (an:Option Addr) (cdv ct:Value),bindArgs (QF x q (z3N st) (z2u st) (z0b st) .none kV doc pm an cdv ct) ⟨us,[]⟩=pure (ps.zip us)
variable {p1 p2 p3 p4 p5 p6:Str}
theorem bd1 (F:Fun K x q st f fd) (h:∀ a,Bd x q st [p1] [a]):Binds K fd [p1] []:=F.binds fun _ _ _ _ _ _ us hl=>match us,hl with
 | [a],_=>h a _ _ _ _ _ _
theorem bd2 (F:Fun K x q st f fd) (h:∀ a b,Bd x q st [p1,p2] [a,b]):Binds K fd [p1,p2] []:=F.binds fun _ _ _ _ _ _ us hl=>match us,hl with
 | [a,b],_=>h a b _ _ _ _ _ _
theorem bd3 (F:Fun K x q st f fd) (h:∀ a b c,Bd x q st [p1,p2,p3] [a,b,c]):Binds K fd [p1,p2,p3] []:=F.binds fun _ _ _ _ _ _ us hl=>match us,hl with
 | [a,b,c],_=>h a b c _ _ _ _ _ _
theorem bd4 (F:Fun K x q st f fd) (h:∀ a b c d,Bd x q st [p1,p2,p3,p4] [a,b,c,d]):Binds K fd [p1,p2,p3,p4] []:=F.binds fun _ _ _ _ _ _ us hl=>match us,hl with
 | [a,b,c,d],_=>h a b c d _ _ _ _ _ _
end
end DV
namespace L2
open PySem PySem.Spec PyProof.Rows
section
variable {X:Cx} {tg:Expr}
end
section
variable {X:Cx} {e:Expr} {ta:TE} {f:Str} {pos:Pos}
structure AtT (K:W1) (ce:DV.Tx→Nat) (ys:List DV.Tx) (f:Str):Prop where
 k:∀ z ∈ ys,ExcK K (ce z)
 no:∀ z ∈ ys,Jh K (.ref (ce z)) f=some none
 hd:∀ z ∈ ys,PySem.W.hasDictIn K (ce z)=true
end
end L2
namespace DV
open PySem PySem.Spec PyProof.Rows L2
section
variable {X:Cx} {c:Fc} {tg e:Expr} {fe:DE} {pos pp:Pos}
end
end DV
namespace L2
open PySem PySem.Spec PyProof.Rows
section
variable {X:Cx}
end
end L2
namespace DV
open PySem PySem.Spec PyProof.Rows L2
end DV
namespace L2
open PySem PySem.Spec PyProof.Rows PySem.SeqAt DV
section
variable {X:Cx}
end
end L2
namespace DV
open PySem PySem.Spec PyProof.Rows L2
section
variable {X:Cx} {c:Fc} {o e:Expr} {fa fb:DE}
end
end DV
namespace L2
open PySem PySem.Spec PyProof.Rows PySem.W DV
def Good (n:Nat) {α:Type}:KasT α→(α→Prop)→Prop
 | .ret a,R=>R a
 | .ask i j k,R=>i < n∧j < n∧i≠j∧∀ b,Good n (k b) R
def runK {α:Type} (lt:Nat→Nat→Bool):KasT α→α
 | .ret a=>a
 | .ask i j k=>runK lt (k (lt i j))
section
variable {α β:Type} {n:Nat}
theorem Good.bind:∀ {t:KasT α},Good n t R→(∀ a,R a→Good n (f a) R')→Good n (t.bind f) R'
 | .ret a,h,k=>k a h
 | .ask i j g,h,k=>⟨h.1,h.2.1,h.2.2.1,fun b=>Good.bind (h.2.2.2 b) k⟩
theorem Good.mono:∀ {t:KasT α},Good n t R→(∀ a,R a→R' a)→Good n t R'
 | .ret a,h,k=>k a h
 | .ask i j g,h,k=>⟨h.1,h.2.1,h.2.2.1,fun b=>Good.mono (h.2.2.2 b) k⟩
theorem Good.run (lt:Nat→Nat→Bool):∀ {t:KasT α},Good n t R→R (runK lt t)
 | .ret a,h=>h
 | .ask i j g,h=>Good.run (t:=g (lt i j)) lt (h.2.2.2 _)
theorem Good.wp
  (hc:∀ i j,i < n→j < n→i≠j→∀ C:Bool→W2→Prop,C (lt i j) s→cmp i j C s):∀ {t:KasT α},Good n t R→G (runK lt t) s→t.kasWp cmp G s
 | .ret a,h,g=>g
 | .ask i j k,h,g=>hc i j h.1 h.2.1 h.2.2.1 _ (Good.wp hc (h.2.2.2 _) g)
end
section
variable {n:Nat} {p:Array Nat}
abbrev PermN (n:Nat) (p:Array Nat):Prop:=p.Perm (Jx (Wf n))
theorem PermN.size (h:PermN n p):p.size=n:=by rw [Array.Perm.size_eq h]; simp
theorem PermN.list (h:PermN n p):p.toList.Perm (Wf n):=by simpa using Array.perm_iff_toList_perm.mp h
theorem PermN.lt (h:PermN n p) (h0:0 < n) (i:Nat):p.getD i 0 < n:=by
 by_cases hi:i < p.size
 ·have:p[i] ∈ p.toList:=by simp
  have:=(h.list.mem_iff).mp this
  simpa [Array.getD,hi] using this
 ·simpa [Array.getD,hi] using h0
theorem PermN.ne (h:PermN n p) (hi:i < n) (hj:j < n) (e:i≠j):p.getD i 0≠p.getD j 0:=by
 have hs:=h.size
 have nd:p.toList.Nodup:=h.list.nodup_iff.mpr List.nodup_range
 have hi':i < p.size:=by omega
 have hj':j < p.size:=by omega
 intro z
 have e1:p.getD i 0=p.toList[i]'(by simpa using hi'):=by simp [Array.getD,hi']
 have e2:p.getD j 0=p.toList[j]'(by simpa using hj'):=by simp [Array.getD,hj']
 rw [e1,e2] at z
 rcases Nat.lt_or_gt_of_ne e with q | q
 ·exact (List.pairwise_iff_getElem.mp nd) i j (by simpa using hi') (by simpa using hj') q z
 ·exact (List.pairwise_iff_getElem.mp nd) j i (by simpa using hj') (by simpa using hi') q z.symm
theorem PermN.rev (h:PermN n p) (i j:Nat):PermN n (kas_rev p i j):=(mirror_perm p i j _).trans h
theorem PermN.bub (h:PermN n p) (i j:Nat):PermN n (bubble p i j):=(bubble_perm p i j).trans h
theorem z7G (h:PermN n p):∀ (f m:Nat),1≤m→m + f≤n→Good n (kas_asc p f m) (fun r=>m≤r∧r≤n)
 | 0,m,h1,h2=>⟨W8 _,h2⟩
 | f + 1,m,h1,h2=>⟨h.lt (by omega) _,h.lt (by omega) _,h.ne (by omega) (by omega) (by omega),fun b=>by
  cases b
  ·exact (z7G h f (m + 1) (by omega) (by omega)).mono fun r z=>⟨by omega,z.2⟩
  ·exact ⟨W8 _,by omega⟩⟩
theorem z4V:∀ (f:Nat) {p:Array Nat} (h:PermN n p) (m q:Nat),1≤m→m + f≤n→Good n (Jy f p m q) (fun r=>PermN n r.1∧1≤r.2.1∧r.2.1≤n)
 | 0,p,h,m,q,h1,h2=>⟨h,h1,h2⟩
 | f + 1,p,h,m,q,h1,h2=>⟨h.lt (by omega) _,h.lt (by omega) _,h.ne (by omega) (by omega) (by omega),fun b=>by
  cases b
  ·refine ⟨h.lt (by omega) _,h.lt (by omega) _,h.ne (by omega) (by omega) (by omega),fun d=>?_⟩
   cases d
   ·exact z4V f h (m + 1) (q + 1) (by omega) (by omega)
   ·exact ⟨h,h1,show m≤n by omega⟩
  ·show Good n (if q > 0 then Jy f (kas_rev p (m - (q + 1)) m) (m + 1) 0 else Jy f p (m + 1) 0) _
   split
   ·exact z4V f (h.rev _ _) (m + 1) 0 (by omega) (by omega)
   ·exact z4V f h (m + 1) 0 (by omega) (by omega)⟩
theorem z71 (h:PermN n p) (h1:1≤m) (h2:m≤n):Good n (kas_tail3 m n p) (fun r=>PermN n r.2∧1≤r.1∧r.1≤n) :=
 (z7G (h.rev 0 m) (n - m) m h1 (by omega)).bind fun r z=>⟨h.rev _ _,by have:=z.1; omega,z.2⟩
theorem z4U (h:PermN n p) (h1:1≤m) (h2:m + 1≤n):Good n (kas_descPart m n p) (fun r=>PermN n r.2∧1≤r.1∧r.1≤n) :=
 (z4V (n - (m + 1)) h (m + 1) 0 (by omega) (by omega)).bind fun r z=>by
  show Good n (if r.2.2 > 0 then _ else _) _
  split
  ·exact z71 (z.1.rev _ _) z.2.1 z.2.2
  ·exact z71 z.1 z.2.1 z.2.2
theorem zai (h:PermN n p) (h2:2≤n):Good n (kas_count n p) (fun r=>PermN n r.2∧1≤r.1∧r.1≤n) :=
 (z7G h (n - 1) 1 (by omega) (by omega)).bind fun m z=>by
  show Good n (if (m == n)=true then _ else _) _
  split
  ·exact ⟨h,z.1,z.2⟩
  ·rename_i hm
   have hm':m≠n:=fun e=>hm (by simp [e])
   split
   ·refine ⟨h.lt (by omega) _,h.lt (by omega) _,h.ne (by omega) (by omega) (by omega),fun c=>?_⟩
    cases c
    ·exact z4U (h.rev _ _) z.1 (by omega)
    ·exact ⟨h,z.1,z.2⟩
   ·exact z4U h z.1 (by omega)
theorem z5l (h:PermN n p) (hk:k < n):∀ (f l r:Nat),r≤k→Good n (QX p k f l r) (fun _=>True)
 | 0,l,r,_=>trivial
 | f + 1,l,r,hr=>by
  show Good n (if l ≥ r then _ else _) _
  split
  ·trivial
  ·refine ⟨h.lt (by omega) _,h.lt (by omega) _,h.ne (by omega) (by omega) (by omega),fun c=>?_⟩
   cases c
   ·exact z5l h hk f _ _ hr
   ·exact z5l h hk f _ _ (by omega)
theorem z9L:∀ (f:Nat) {p:Array Nat} (h:PermN n p) (k:Nat),k + f≤n→Good n (kas_bin f p k) (fun r=>PermN n r)
 | 0,p,h,k,_=>h
 | f + 1,p,h,k,hk=>(z5l h (by omega) k 0 k (W8 _)).bind fun l _=>z9L f (h.bub _ _) (k + 1) (by omega)
theorem z8C (h2:2≤n):Good n (kas_sort n) (fun r=>PermN n r) :=
 (zai (.refl _) h2).bind fun r z=>by
  show Good n (if r.1 < n then _ else _) _
  split
  ·exact z9L _ z.1 _ (by omega)
  ·exact z.1
end
def ordK (ks:List Tx):List Nat:=(runK (fun i j=>decide (ks.getD i [] < ks.getD j [])) (kas_sort ks.length)).toList
theorem z33 (h:2≤ks.length):(ordK ks).Perm (Wf ks.length):=PermN.list (Good.run _ (z8C h))
structure TupK (h:Heap) (vs:List Value) (ks:List Tx):Prop where
 len:ks.length=vs.length
 at':∀ i v,vs[i]? = some v→∃ b o xs m t,v = .ref b∧h.get? b=some o∧o.cls = .type "tuple"∧o.data = .seq xs m∧xs[0]? = some (.str (toS (ks.getD i [])) t)
theorem TupK.keeps (t:TupK h vs ks) (k:∀ b o,h.get? b=some o→o.cls = .type "tuple"→h'.get? b=some o):TupK h' vs ks :=
 ⟨t.len,fun i v e=>let ⟨b,o,xs,m,tk,e1,e2,e3,r⟩:=t.at' i v e; ⟨b,o,xs,m,tk,e1,k b o e2 e3,e3,r⟩⟩
theorem zdQ:∀ {vs:List Value} {ks:List Tx},TupK h vs ks→∃ fs,KatTups h vs fs∧fs.length=vs.length∧∀ v ∈ fs,∃ x t,v=Value.str x t
 | [],ks,t=>⟨[],trivial,rfl,fun v h=>by simp at h⟩
 | v :: vs,[],t=>by have:=t.len; simp at this
 | v :: vs,k :: ks,t=>by
  obtain ⟨fs,a,b,c⟩:=zdQ (vs:=vs) (ks:=ks) ⟨by have:=t.len; simpa using this,fun i v e=>by
   have:=t.at' (i + 1) v (by simpa using e)
   simpa using this⟩
  obtain ⟨x,o,xs,m,tk,rfl,e2,e3,e4,e5⟩:=t.at' 0 v rfl
  exact ⟨_ :: fs,⟨⟨x,o,xs,m,rfl,e2,e3,e4,e5⟩,a⟩,by simp [b],fun v hv=>by
   rcases Wn.mp hv with rfl | hv
   ·exact ⟨_,_,rfl⟩
   ·exact c v hv⟩
section
variable {prog:Wl} {w:Wq} {A:Wr} {E:Value→W2→Prop} {s:W2} {vs:List Value} {ks:List Tx}
theorem zff (t:TupK s.heap vs ks) (nd:ks.Nodup) (hi:i < vs.length) (hj:j < vs.length) (ne:i≠j) (h:C (decide (ks.getD i [] < ks.getD j [])) s):kas_ask prog w A (tuples' true) vs i j C s:=by
 obtain ⟨a,o,xs,m,tk,e1,e2,e3,e4,e5⟩:=t.at' i vs[i] (by simp [hi])
 obtain ⟨b,p,ys,n,tl,f1,f2,f3,f4,f5⟩:=t.at' j vs[j] (by simp [hj])
 unfold kas_ask
 rw [WN,WN,Wh hi,Wh hj]
 simp only [J0]
 rw [e1,f1]
 refine kat_lt e2 e4 f2 f4 ?_
 have hx:∃ r,xs.toList = .str (toS (ks.getD i [])) tk :: r:=by
  have:xs.toList[0]? = some (.str (toS (ks.getD i [])) tk):=by simpa using e5
  cases z:xs.toList with
  | nil=>rw [z] at this; simp at this
  | cons u r=>rw [z] at this; simp at this; exact ⟨r,by rw [this]; simp⟩
 have hy:∃ r,ys.toList = .str (toS (ks.getD j [])) tl :: r:=by
  have:ys.toList[0]? = some (.str (toS (ks.getD j [])) tl):=by simpa using f5
  cases z:ys.toList with
  | nil=>rw [z] at this; simp at this
  | cons u r=>rw [z] at this; simp at this; exact ⟨r,by rw [this]; simp⟩
 obtain ⟨r,hr⟩:=hx
 obtain ⟨q,hq⟩:=hy
 rw [hr,hq,List.zip_cons_cons]
 have hki:i < ks.length:=by rw [t.len]; exact hi
 have hkj:j < ks.length:=by rw [t.len]; exact hj
 have hne:(toS (ks.getD i []) == toS (ks.getD j []))=false:=by
  rw [beq_eq_false_iff_ne]
  intro z
  have z:=z5O z
  rw [WN,WN,Wh hki,Wh hkj] at z
  exact ne ((List.getElem_inj nd).mp z)
 refine kat_cons (eqBool_str ?_)
 rw [hne]
 refine kat_no (oneLt_str ?_)
 rw [z51,z51]
 exact h
theorem zcF (ho:s.heap.get? a=some (WE "list" vs.toArray n)) (t:TupK s.heap vs ks) (nd:ks.Nodup) (h2:2≤vs.length) (h64:vs.length < 64)
  (h:P (.done (.ret .none)) { s with heap:=sortedHeap s.heap a vs (Jx ((ordK ks).map fun i=>vs.getD i Value.none)) }):W5 (model prog w) A (Builtin.«list.sort» ⟨[.ref a],[]⟩) P E s:=by
 have hlt:a < s.heap.objs.size:=Wg ho
 obtain ⟨e1,ho1⟩:∃ e1,(s.heap.update a (Obj.mapSeq fun _=>(#[]:Array Value))).get? a=some (WE "list" #[] e1):=⟨_,get?_update_seq ho fun _=>#[]⟩
 rw [list_sort_plain]
 refine W0 (listItems_at ho rfl (W0 (listUpdate_at ho rfl (W0 (seqEpoch_at ho1 rfl (W0 (wpAny_newTuple (W0 (wpAny_newList (WH ?_) (Q2 _))) (by show vs.length≤_; rw [WZ]; omega))))) (by rw [Wb,WZ]; omega) (Q2 _))))
 show W5 (model prog w) A _ P E { s with heap:=((s.heap.update a (Obj.mapSeq fun _=>(#[]:Array Value))).push (WE "tuple" vs.toArray 0)).push (WE "list" #[] 0) }
 have h6:(((s.heap.update a (Obj.mapSeq fun _=>(#[]:Array Value))).push (WE "tuple" vs.toArray 0)).push (WE "list" #[] 0)).get? a=some (WE "list" #[] e1):=W4 _ (W4 _ ho1)
 have t6:TupK (((s.heap.update a (Obj.mapSeq fun _=>(#[]:Array Value))).push (WE "tuple" vs.toArray 0)).push (WE "list" #[] 0)) vs ks:=t.keeps fun b o e c=>by
  have nb:b≠a:=fun z=>by
   rw [z,ho] at e
   cases e
   exact absurd (Value.type.inj c) (by decide)
  refine W4 _ (W4 _ ?_)
  rw [QA _ _ (Ne.symm nb)]
  exact e
 dsimp only
 have hn2:¬ vs.toArray.size < 2:=by rw [Wb]; omega
 rw [if_neg hn2,if_neg hn2]
 obtain ⟨fs,kt,fl,ft⟩:=zdQ t6
 refine W0 (kat_kind (s:={ s with heap:=((s.heap.update a (Obj.mapSeq fun _=>(#[]:Array Value))).push (WE "tuple" vs.toArray 0)).push (WE "list" #[] 0) }) (T:=.type "str") kt (by omega) (fun v hv=>by obtain ⟨x,tk,rfl⟩:=ft v hv; exact .now) rfl ?_)
 refine W0 (Ql (kat_run (s:={ s with heap:=((s.heap.update a (Obj.mapSeq fun _=>(#[]:Array Value))).push (WE "tuple" vs.toArray 0)).push (WE "list" #[] 0) }) (κ:=tuples' true) (ks:=vs) (vs:=vs) (E:=E)
  (G:=fun p s'=>p.toList=ordK ks∧s' = { s with heap:=((s.heap.update a (Obj.mapSeq fun _=>(#[]:Array Value))).push (WE "tuple" vs.toArray 0)).push (WE "list" #[] 0) })
  (Q:=fun st' s'=>(arrOf st').map (·.2)=Jx ((ordK ks).map fun i=>vs.getD i Value.none)∧failedOf st'=none∧s' = { s with heap:=((s.heap.update a (Obj.mapSeq fun _=>(#[]:Array Value))).push (WE "tuple" vs.toArray 0)).push (WE "list" #[] 0) })
  rfl h2 h64 (fun p st' s' a1 a2 a3 a4=>⟨by rw [kat_snds rfl a2,a4.1],a3,a4.2⟩) ?_) ?_ fun _ _ e=>e)
 ·refine Good.wp (n:=vs.length) (lt:=fun i j=>decide (ks.getD i [] < ks.getD j [])) (R:=fun _=>True) (fun i j hi hj ne C hC=>zff t6 nd hi hj ne hC) ((z8C h2).mono fun _ _=>trivial) ⟨?_,rfl⟩
  unfold ordK
  rw [t.len]
 ·rintro ⟨⟨⟩,st'⟩ s' ⟨q1,q2,rfl⟩
  dsimp only at q1 q2 ⊢
  have hz:((ordK ks).map fun i=>vs.getD i Value.none).length=vs.length:=by
   rw [Wo,(z33 (ks:=ks) (by rw [t.len]; exact h2)).length_eq,Jd,t.len]
  rw [q1]
  refine W0 (seqEpoch_at h6 rfl (W0 (listUpdate_at h6 rfl ?_ (Q2 _) (by rw [Wb,hz,WZ]; omega))))
  rw [q2]
  simp only [bne_self_eq_false,WI,if_false]
  exact W3 h
theorem za2 (hl:s.heap.IsList l vs.toArray) (t:TupK s.heap vs ks) (nd:ks.Nodup) (h2:2≤vs.length) (h64:vs.length < 64)
  (h:Q (.ref (s.heap.objs.size + 1)) { s with heap:=sortedAll s.heap vs (Jx ((ordK ks).map fun i=>vs.getD i Value.none)) }):W5 (model prog w) A (call (.builtin "sorted") [.ref l]) Q E s:=by
 refine Calls.call_function_entry kind_sorted plain_sorted entry_sorted (args_sorted1 _) ?_
 unfold Builtin.«sorted»
 refine W0 (m:=checkCount "sorted" 1 1 _) (W3 (W0 (collect_list hl (W0 (wpAny_newList ?_ (by rw [WZ]; omega))) (by rw [WZ]; omega))))
 have hz:((s.heap.push (WE "list" #[] 0)).update s.heap.objs.size (Obj.mapSeq (· ++ vs.toArray))).objs.size=s.heap.objs.size + 1:=by rw [Heap.size_update,size_push']
 have hoL:(((s.heap.push (WE "list" #[] 0)).update s.heap.objs.size (Obj.mapSeq (· ++ vs.toArray))).push (WE "list" vs.toArray 0)).get? (s.heap.objs.size + 1)=some (WE "list" vs.toArray 0):=by
  rw [← hz]; exact Wj _ rfl
 have t2:TupK (((s.heap.push (WE "list" #[] 0)).update s.heap.objs.size (Obj.mapSeq (· ++ vs.toArray))).push (WE "list" vs.toArray 0)) vs ks:=t.keeps fun b o e _=>by
  have hb:b < s.heap.objs.size:=Wg e
  refine W4 _ ?_
  rw [QA _ _ (QZ hb)]
  exact W4 _ e
 show W5 _ _ _ _ _ { s with heap:=((s.heap.push (WE "list" #[] 0)).update s.heap.objs.size (Obj.mapSeq (· ++ vs.toArray))).push (WE "list" vs.toArray 0) }
 rw [hz]
 refine W0 (WH (Q8 slot_list_sort ⟨_,hoL,rfl⟩ entry_list_sort (zcF (s:={ s with heap:=((s.heap.push (WE "list" #[] 0)).update s.heap.objs.size (Obj.mapSeq (· ++ vs.toArray))).push (WE "list" vs.toArray 0) }) hoL t2 nd h2 h64 ⟨_,rfl,?_⟩) (args_list_sort _)))
 exact W3 ⟨_,rfl,h⟩
end
theorem Vals.at2 {vs:List V} {its:List Value} {i:Nat} {v:V} {u:Value} (r:Vals vs its) (e1:vs[i]? = some v) (e2:its[i]? = some u):RelV v u:=by
 obtain ⟨u',e,q⟩:=Vals.get r e1
 rw [e2] at e; cases e; exact q
theorem Vals.pick {vs:List V} {its:List Value} (r:Vals vs its):∀ is:List Nat,(∀ i ∈ is,i < vs.length)→Vals (is.map fun i=>vs.getD i .non) (is.map fun i=>its.getD i Value.none)
 | [],_=>.nil
 | i :: is,h=>by
  refine .cons ?_ (Vals.pick r is fun j hj=>h j (Wi _ hj))
  have hi:=h i Wm
  have hl:=r.length
  have e1:vs.getD i .non=vs[i]:=by simp [hi]
  have e2:its.getD i Value.none=its[i]'(by omega):=by simp [show i < its.length by omega]
  show RelV (vs.getD i .non) (its.getD i Value.none)
  rw [e1,e2]
  exact Vals.at2 (i:=i) r (Wh hi) (Wh (by omega))
section
variable {X:Cx}
theorem zas:CallR X (.builtin "sorted") (fun xs H Q=>∃ (a:Addr) (vs:List V) (ks:List Tx),xs=[.ref a]∧SqL X.K H a vs∧ks.length=vs.length∧(∀ (i:Nat) v,vs[i]? = some v→∃ b ws,v = .ref b∧H b=some (.tup ws)∧ws[0]? = some (.str (toS (ks.getD i []))))∧ks.Nodup∧2≤vs.length∧vs.length < 64 ∧
  ∀ p,H p=none→Q (.ref p) (upd H p (.lst ((ordK ks).map fun i=>vs.getD i .non)))):=by
 intro pins s σ H xs us Q I r h
 obtain ⟨a,vs,ks,rfl,hq,hlen,ht,nd,h2,h64,q⟩:=h
 obtain ⟨u,rfl,ru⟩:=z4b r
 cases ru
 obtain ⟨its,r',p,_⟩:=I.list hq
 have hl:=r'.length
 have t:TupK s.heap its ks:=⟨by omega,fun i v e=>by
  have hi:i < its.length:=(Wc.mp e).1
  have hv:vs[i]? = some (vs[i]'(by omega)):=by simp [show i < vs.length by omega]
  have rv:=Vals.at2 r' hv e
  obtain ⟨b,ws,eb,hb,h0⟩:=ht i _ hv
  rw [eb] at rv
  obtain rfl:v=Value.ref b:=rv
  obtain ⟨_,its',r2,n,eo⟩:=(show ObjOk X.prog X.w H s.heap b (.tup ws) from I.hok b _ hb)
  have hl2:=r2.length
  have hw0:0 < ws.length:=(Wc.mp h0).1
  have r0:=Vals.at2 r2 h0 (show its'[0]? = some (its'[0]'(by omega)) by simp [show 0 < its'.length by omega])
  obtain ⟨tk,e0⟩:=(show ∃ tk,its'[0]'(by omega)=Value.str (toS (ks.getD i [])) tk from r0)
  exact ⟨b,_,its'.toArray,n,tk,rfl,eo,rfl,rfl,by rw [← e0]; simp [show 0 < its'.length by omega]⟩⟩
 refine za2 p.isList t nd (by omega) (by omega) ?_
 have hp:=z33 (ks:=ks) (by omega)
 have hlo:((ordK ks).map fun i=>vs.getD i V.non).length=vs.length:=by rw [Wo,hp.length_eq,Jd,hlen]
 obtain ⟨e,he⟩:=sortedAll_at s.heap its (Jx ((ordK ks).map fun i=>its.getD i Value.none))
 have I1:Inv X pins σ (upd H (s.heap.objs.size + 1) (.lst ((ordK ks).map fun i=>vs.getD i .non))) { s with heap:=sortedAll s.heap its (Jx ((ordK ks).map fun i=>its.getD i Value.none)) } :=
  I.laid (t':=s.toks) (fun b o z=>sortedAll_old z) (QE _) (show ObjOk X.prog X.w _ _ _ (.lst ((ordK ks).map fun i=>vs.getD i .non)) from ⟨by rw [hlo,WZ]; omega,(ordK ks).map fun i=>its.getD i Value.none,e,r'.pick _ fun i hi=>by
   have:=hp.mem_iff.mp hi
   simp at this
   omega,he⟩)
 exact ⟨.ref _,_,I1,rfl,q _ (I.hok.fresh (QE _))⟩
end
end L2
namespace DV
open PySem PySem.Spec PyProof.Rows L2
def z8w:List D→Option (List Tx)
 | []=>some []
 | .tup (.str x :: _) :: r=>(z8w r).map (x :: ·)
 | _ :: _=>none
theorem z9H:∀ {ds:List D} {ks:List Tx},z8w ds=some ks→ks.length=ds.length∧∀ (i:Nat) d,ds[i]? = some d→∃ r,d = .tup (.str (ks.getD i []) :: r)
 | [],ks,h=>by cases h; exact ⟨rfl,fun i d e=>by simp at e⟩
 | d :: r,ks,h=>by
  unfold z8w at h
  split at h
  ·rename_i e; cases e
  ·rename_i x q r' e
   cases e
   cases e:z8w r with
   | none=>rw [e] at h; cases h
   | some ks' =>
    rw [e] at h
    cases h
    obtain ⟨h1,h2⟩:=z9H e
    refine ⟨by simp [h1],fun i d' e'=>?_⟩
    cases i with
    | zero=>simp at e'; subst e'; exact ⟨q,by simp⟩
    | succ i=>simpa using h2 i d' (by simpa using e')
  ·cases h
def ndT:List Tx→Bool
 | []=>true
 | x :: r=>!r.contains x && ndT r
theorem zbw:∀ {ks:List Tx},ndT ks=true→ks.Nodup
 | [],_=>.nil
 | x :: r,h=>by
  simp only [ndT,Wa,Bool.not_eq_true',List.contains_iff_mem,← Bool.not_eq_true] at h
  exact WO.mpr ⟨by simpa using h.1,zbw h.2⟩
def z8h:D→Option S
 | .lst ds=>match z8w ds with
  | some ks=>if 2≤ks.length∧ks.length < 64∧ndT ks=true then some (.own (.lst ((ordK ks).map fun i=>ds.getD i .non))) else none
  | none=>none
 | _=>none
section
variable {X:Cx} {c:Fc} {e:Expr} {fb:BE} {pp pos:Pos}
theorem Reps.pick (r:Reps H O vs ds):∀ is:List Nat,(∀ i ∈ is,i < vs.length)→Reps H O (is.map fun i=>vs.getD i .non) (is.map fun i=>ds.getD i .non)
 | [],_=>.nil
 | i :: is,h=>by
  have hi:=h i Wm
  have hl:=r.1
  refine .cons (r.2 i _ _ ?_ ?_) (Reps.pick r is fun j hj=>h j (Wi _ hj))
  ·simp [hi]
  ·simp [show i < ds.length by omega]
theorem zd4 {K:W1}:Op1 (fun v H Q=>∃ (a:Addr) (vs:List V) (ks:List Tx),v = .ref a∧SqL K H a vs∧ks.length=vs.length∧(∀ (i:Nat) v,vs[i]? = some v→∃ b ws,v = .ref b∧H b=some (.tup ws)∧ws[0]? = some (.str (toS (ks.getD i []))))∧ks.Nodup∧2≤vs.length∧vs.length < 64 ∧
  ∀ p,H p=none→Q (.ref p) (upd H p (.lst ((ordK ks).map fun i=>vs.getD i .non)))) z8h :=
 fun c σ δ H x d s Q k rx hp q=>by
  cases d with
  | lst ds =>
   simp only [z8h] at hp
   cases e:z8w ds with
   | none=>rw [e] at hp; cases hp
   | some ks =>
    rw [e] at hp
    simp only at hp
    split at hp
    ·rename_i hh
     cases hp
     obtain ⟨h1,h2⟩:=z9H e
     obtain ⟨a,vs,ea,ha,ra⟩:=rx.lst
     have hl:=ra.1
     refine ⟨a,vs,ks,ea,.inl ha,by omega,fun i v ev=>?_,zbw hh.2.2,by omega,by omega,fun p hp=>?_⟩
     ·have hi:i < vs.length:=(Wc.mp ev).1
      have hd:ds[i]? = some (ds[i]'(by omega)):=by simp [show i < ds.length by omega]
      obtain ⟨r,er⟩:=h2 i _ hd
      have rv:=ra.2 i v _ ev hd
      rw [er] at rv
      cases rv with
      | @tup b ws _ _ hb hlen hat =>
       have h0:0 < ws.length:=by rw [hlen]; simp
       have r0:=hat 0 (ws[0]'h0) (.str (ks.getD i [])) (by simp [h0]) rfl
       refine ⟨b,ws,rfl,hb,?_⟩
       generalize hz:ws[0]'h0=z at r0
       cases r0
       rw [Wh h0,hz]
     ·refine q _ _ (.alloc k hp _) (RepS.newL k (Reps.pick ra _ fun i hi=>?_) hp)
      have:=(z33 (ks:=ks) hh.1).mem_iff.mp hi
      simp at this
      omega
    ·cases hp
  | _=>simp [z8h] at hp
end
section
variable {X:Cx} {c:Fc} {e:Expr} {fe:DE} {fb:BE} {pos:Pos}
end
section
variable {X:Cx}
end
section
variable {X:Cx} {c:Fc} {e:Expr} {fb:BE}
end
section
variable {X:Cx} {c:Fc} {e:Expr} {fe:DE}
end
section
variable {H H':Hp} {O:Addr→Prop} {v:V} {a:Addr} {us:List V}
end
section
variable {c:Fc} {σ:St} {δ δ1:Dl} {H H1:Hp} {i:Nat} {ds:List D} {g:Xc→Dl→Prop}
end
section
variable {X:Cx} {c:Fc} {e:Expr} {es:List Expr} {as:List Ak} {k n i:Nat} {x:Str} {G:DX} {pp pos:Pos}
end
section
variable {c:Fc} {σ σ':St} {δ δ':Dl} {H H':Hp} {B':Addr→Prop} {g:Xc→Dl→Prop} {i0:Nat} {a:Addr} {ds:List D}
end
end DV
namespace L2
open PySem PySem.Spec PyProof.Rows PySem.W DV
section
variable {prog:Wl} {w:Wq} {A:Wr} {E:Value→W2→Prop} {s:W2} {vs:List Value}
theorem z9q (ho:s.heap.get? a=some (WE "list" vs.toArray n)) (h1:vs.length < 2)
  (h:P (.done (.ret .none)) { s with heap:=sortedHeap s.heap a vs vs.toArray }):W5 (model prog w) A (Builtin.«list.sort» ⟨[.ref a],[]⟩) P E s:=by
 obtain ⟨e1,ho1⟩:∃ e1,(s.heap.update a (Obj.mapSeq fun _=>(#[]:Array Value))).get? a=some (WE "list" #[] e1):=⟨_,get?_update_seq ho fun _=>#[]⟩
 rw [list_sort_plain]
 refine W0 (listItems_at ho rfl (W0 (listUpdate_at ho rfl (W0 (seqEpoch_at ho1 rfl (W0 (wpAny_newTuple (W0 (wpAny_newList (WH ?_) (Q2 _))) (by show vs.length≤_; rw [WZ]; omega))))) (by rw [Wb,WZ]; omega) (Q2 _))))
 show W5 (model prog w) A _ P E { s with heap:=((s.heap.update a (Obj.mapSeq fun _=>(#[]:Array Value))).push (WE "tuple" vs.toArray 0)).push (WE "list" #[] 0) }
 have h6:(((s.heap.update a (Obj.mapSeq fun _=>(#[]:Array Value))).push (WE "tuple" vs.toArray 0)).push (WE "list" #[] 0)).get? a=some (WE "list" #[] e1):=W4 _ (W4 _ ho1)
 dsimp only
 have hn2:vs.toArray.size < 2:=by rw [Wb]; exact h1
 rw [if_pos hn2,if_pos hn2]
 refine W0 (W3 (W0 (W3 ?_)))
 dsimp only
 have q1:(arrOf (SortSt.mk' general' (vs.toArray.zip vs.toArray) #[] 7 none)).map (·.2)=vs.toArray:=by
  show (vs.toArray.zip vs.toArray).map (·.2)=vs.toArray
  have:List.map (fun x:Value×Value=>x.2) (vs.zip vs)=vs:=List.map_snd_zip (W8 _)
  simpa using this
 rw [q1]
 refine W0 (seqEpoch_at h6 rfl (W0 (listUpdate_at h6 rfl ?_ (Q2 _) (by rw [Wb,WZ]; omega))))
 simp only [bne_self_eq_false,WI,if_false]
 exact W3 h
theorem za3 (hl:s.heap.IsList l vs.toArray) (h1:vs.length < 2)
  (h:Q (.ref (s.heap.objs.size + 1)) { s with heap:=sortedAll s.heap vs vs.toArray }):W5 (model prog w) A (call (.builtin "sorted") [.ref l]) Q E s:=by
 refine Calls.call_function_entry kind_sorted plain_sorted entry_sorted (args_sorted1 _) ?_
 unfold Builtin.«sorted»
 refine W0 (m:=checkCount "sorted" 1 1 _) (W3 (W0 (collect_list hl (W0 (wpAny_newList ?_ (by rw [WZ]; omega))) (by rw [WZ]; omega))))
 have hz:((s.heap.push (WE "list" #[] 0)).update s.heap.objs.size (Obj.mapSeq (· ++ vs.toArray))).objs.size=s.heap.objs.size + 1:=by rw [Heap.size_update,size_push']
 have hoL:(((s.heap.push (WE "list" #[] 0)).update s.heap.objs.size (Obj.mapSeq (· ++ vs.toArray))).push (WE "list" vs.toArray 0)).get? (s.heap.objs.size + 1)=some (WE "list" vs.toArray 0):=by
  rw [← hz]; exact Wj _ rfl
 show W5 _ _ _ _ _ { s with heap:=((s.heap.push (WE "list" #[] 0)).update s.heap.objs.size (Obj.mapSeq (· ++ vs.toArray))).push (WE "list" vs.toArray 0) }
 rw [hz]
 refine W0 (WH (Q8 slot_list_sort ⟨_,hoL,rfl⟩ entry_list_sort (z9q (s:={ s with heap:=((s.heap.push (WE "list" #[] 0)).update s.heap.objs.size (Obj.mapSeq (· ++ vs.toArray))).push (WE "list" vs.toArray 0) }) hoL h1 ⟨_,rfl,?_⟩) (args_list_sort _)))
 exact W3 ⟨_,rfl,h⟩
end
theorem zau:CallR X (.builtin "sorted") (fun xs H Q=>∃ (a:Addr) (vs:List V),xs=[.ref a]∧SqL X.K H a vs∧vs.length < 2∧∀ p,H p=none→Q (.ref p) (upd H p (.lst vs))):=by
 intro pins s σ H xs us Q I r h
 obtain ⟨a,vs,rfl,hq,h1,q⟩:=h
 obtain ⟨u,rfl,ru⟩:=z4b r
 cases ru
 obtain ⟨its,r',p,_⟩:=I.list hq
 have hl:=r'.length
 refine za3 p.isList (by omega) ?_
 obtain ⟨e,he⟩:=sortedAll_at s.heap its its.toArray
 have I1:Inv X pins σ (upd H (s.heap.objs.size + 1) (.lst vs)) { s with heap:=sortedAll s.heap its its.toArray } :=
  I.laid (t':=s.toks) (fun b o z=>sortedAll_old z) (QE _) (show ObjOk X.prog X.w _ _ _ (.lst vs) from ⟨by rw [WZ]; omega,its,e,r',he⟩)
 exact ⟨.ref _,_,I1,rfl,q _ (I.hok.fresh (QE _))⟩
section
variable {lt:Nat→Nat→Bool} {r:Nat→Nat} {n:Nat} {α β:Type}
theorem z31 (f:α→KasT β):∀ t:KasT α,runK lt (t.bind f)=runK lt (f (runK lt t))
 | .ret a=>rfl
 | .ask i j k=>z31 f (k (lt i j))
abbrev kAt (r:Nat→Nat) (p:Array Nat) (i:Nat):Nat:=r (p.getD i 0)
def Ri (r:Nat→Nat) (p:Array Nat) (m:Nat):Prop:=∀ i j,i < j→j < m→kAt r p i < kAt r p j
def Fa (r:Nat→Nat) (p:Array Nat) (m:Nat):Prop:=∀ i j,i < j→j < m→kAt r p j < kAt r p i
structure Lt (lt:Nat→Nat→Bool) (r:Nat→Nat) (n:Nat):Prop where
 lt:∀ i j,i < n→j < n→lt i j=decide (r i < r j)
 inj:∀ i j,i < n→j < n→i≠j→r i≠r j
theorem Lt.ask (h:Lt lt r n) (hp:PermN n p) (h0:0 < n) (i j:Nat):lt (p.getD i 0) (p.getD j 0)=decide (kAt r p i < kAt r p j):=h.lt _ _ (hp.lt h0 i) (hp.lt h0 j)
theorem Lt.ne (h:Lt lt r n) (hp:PermN n p) (hi:i < n) (hj:j < n) (e:i≠j):kAt r p i≠kAt r p j:=h.inj _ _ (hp.lt (by omega) i) (hp.lt (by omega) j) (hp.ne hi hj e)
theorem Ri.succ (h:Ri r p m) (h1:1≤m) (k:kAt r p (m - 1) < kAt r p m):Ri r p (m + 1):=fun i j hij hj=>by
 by_cases e:j=m
 ·subst e
  by_cases e':i=j - 1
  ·subst e'; exact k
  ·exact Nat.lt_trans (h i (j - 1) (by omega) (by omega)) k
 ·exact h i j hij (by omega)
theorem Fa.succ (h:Fa r p m) (h1:1≤m) (k:kAt r p m < kAt r p (m - 1)):Fa r p (m + 1):=fun i j hij hj=>by
 by_cases e:j=m
 ·subst e
  by_cases e':i=j - 1
  ·subst e'; exact k
  ·exact Nat.lt_trans k (h i (j - 1) (by omega) (by omega))
 ·exact h i j hij (by omega)
theorem z90 (L:Lt lt r n) (hp:PermN n p):∀ (f m:Nat),1≤m→m + f=n→Ri r p m→Ri r p (runK lt (kas_asc p f m))∧m≤runK lt (kas_asc p f m)∧runK lt (kas_asc p f m)≤n ∧
  (runK lt (kas_asc p f m) < n→kAt r p (runK lt (kas_asc p f m)) < kAt r p (runK lt (kas_asc p f m) - 1))
 | 0,m,h1,h2,h=>⟨h,W8 _,by show m≤n; omega,fun z=>by have:m < n:=z; omega⟩
 | f + 1,m,h1,h2,h=>by
  have e:runK lt (kas_asc p (f + 1) m)=runK lt (if lt (p.getD m 0) (p.getD (m - 1) 0)=true then KasT.ret m else kas_asc p f (m + 1)):=rfl
  rw [e,L.ask hp (by omega)]
  by_cases c:kAt r p m < kAt r p (m - 1)
  ·rw [if_pos (decide_eq_true c)]
   exact ⟨h,W8 _,by show m≤n; omega,fun _=>c⟩
  ·rw [if_neg (by simpa using c)]
   have ne:=L.ne hp (i:=m) (j:=m - 1) (by omega) (by omega) (by omega)
   obtain ⟨a1,a2,a3,a4⟩:=z90 L hp f (m + 1) (by omega) (by omega) (h.succ h1 (by omega))
   exact ⟨a1,by omega,a3,a4⟩
theorem z9v (L:Lt lt r n) (hp:PermN n p):∀ (f m:Nat),1≤m→m + f=n→Fa r p m→∃ m',runK lt (Jy f p m 0)=(p,m',0)∧m≤m'∧m'≤n∧Fa r p m'
 | 0,m,h1,h2,h=>⟨m,rfl,W8 _,by omega,h⟩
 | f + 1,m,h1,h2,h=>by
  have e:runK lt (Jy (f + 1) p m 0)=runK lt (if lt (p.getD m 0) (p.getD (m - 1) 0)=true then (if 0 > 0 then Jy f (kas_rev p (m - (0 + 1)) m) (m + 1) 0 else Jy f p (m + 1) 0) else .ask (p.getD (m - 1) 0) (p.getD m 0) fun d=>if d=true then .ret (p,m,0) else Jy f p (m + 1) (0 + 1)):=rfl
  rw [e,L.ask hp (by omega)]
  by_cases c:kAt r p m < kAt r p (m - 1)
  ·rw [if_pos (decide_eq_true c),if_neg (by omega)]
   obtain ⟨m',a1,a2,a3⟩:=z9v L hp f (m + 1) (by omega) (by omega) (h.succ h1 c)
   exact ⟨m',a1,by omega,a3⟩
  ·rw [if_neg (by simpa using c)]
   have ne:=L.ne hp (i:=m) (j:=m - 1) (by omega) (by omega) (by omega)
   have d:lt (p.getD (m - 1) 0) (p.getD m 0)=true:=by rw [L.ask hp (by omega)]; simp; omega
   refine ⟨m,?_,W8 _,by omega,h⟩
   show runK lt (if lt (p.getD (m - 1) 0) (p.getD m 0)=true then .ret (p,m,0) else Jy f p (m + 1) (0 + 1))=_
   rw [if_pos d]; rfl
theorem z2G (p:Array Nat) (i:Nat):p.getD i 0=(p[i]?).getD 0:=by
 rw [WR]
theorem zfJ (hm:m≤p.size) (h:Fa r p m):Ri r (kas_rev p 0 m) m:=fun i j hij hj=>by
 have e:∀ k,k < m→(kas_rev p 0 m).getD k 0=p.getD (m - 1 - k) 0:=fun k hk=>by
  rw [z2G,z2G]
  unfold kas_rev
  rw [getElem?_mirror_all hm,if_pos ⟨Q2 _,hk⟩]
  congr 2; omega
 show r _ < r _
 rw [e i (by omega),e j hj]
 exact h _ _ (by omega) (by omega)
theorem zaV (L:Lt lt r n) (hp:PermN n p) (h2:2≤n):∃ m p',runK lt (kas_count n p)=(m,p')∧PermN n p'∧1≤m∧m≤n∧Ri r p' m:=by
 unfold kas_count
 rw [z31]
 obtain ⟨a1,a2,a3,a4⟩:=z90 L hp (n - 1) 1 (W8 _) (by omega) (fun i j hij hj=>by omega)
 generalize runK lt (kas_asc p (n - 1) 1)=m at a1 a2 a3 a4
 by_cases e:m=n
 ·rw [if_pos (by simp [e])]
  exact ⟨m,p,rfl,hp,a2,a3,a1⟩
 ·rw [if_neg (by simpa using e)]
  by_cases e1:m > 1
  ·rw [if_pos e1]
   have c:lt (p.getD 0 0) (p.getD (m - 1) 0)=true:=by rw [L.ask hp (by omega)]; simpa using a1 0 (m - 1) (by omega) (by omega)
   refine ⟨m,p,?_,hp,a2,a3,a1⟩
   show runK lt (if lt (p.getD 0 0) (p.getD (m - 1) 0)=true then .ret (m,p) else _)=_
   rw [if_pos c]; rfl
  ·rw [if_neg e1]
   have em:m=1:=by omega
   subst em
   unfold kas_descPart
   rw [z31]
   have f2:Fa r p (1 + 1):=fun i j hij hj=>by
    have:i=0:=by omega
    have:j=1:=by omega
    subst i j
    exact a4 (by omega)
   obtain ⟨m',b1,b2,b3,b4⟩:=z9v L hp (n - (1 + 1)) (1 + 1) (by omega) (by omega) f2
   rw [b1]
   rw [if_neg (by show ¬ 0 > 0; omega)]
   show ∃ m p',runK lt (kas_tail3 m' n p)=_∧_
   unfold kas_tail3
   rw [z31]
   have hq:=hp.rev 0 m'
   obtain ⟨c1,c2,c3,_⟩:=z90 L hq (n - m') m' (by omega) (by omega) (zfJ (by rw [hp.size]; exact b3) b4)
   exact ⟨_,_,rfl,hq,by omega,c3,c1⟩
theorem z5X (L:Lt lt r n) (hp:PermN n p) (hk:k < n) (h:Ri r p k):∀ (f l u:Nat),l≤u→u≤k→u - l≤f→(∀ i,i < l→kAt r p i < kAt r p k)→(∀ i,u≤i→i < k→kAt r p k < kAt r p i) →
  ∃ l',runK lt (QX p k f l u)=l'∧l'≤k∧(∀ i,i < l'→kAt r p i < kAt r p k)∧∀ i,l'≤i→i < k→kAt r p k < kAt r p i
 | 0,l,u,h1,h2,h3,h4,h5=>⟨l,rfl,by omega,h4,fun i a b=>h5 i (by omega) b⟩
 | f + 1,l,u,h1,h2,h3,h4,h5=>by
  have e:runK lt (QX p k (f + 1) l u)=runK lt (if l ≥ u then .ret l else .ask (p.getD k 0) (p.getD ((l + u) / 2) 0) fun c=>if c=true then QX p k f l ((l + u) / 2) else QX p k f ((l + u) / 2 + 1) u):=rfl
  rw [e]
  by_cases z:l ≥ u
  ·rw [if_pos z]
   exact ⟨l,rfl,by omega,h4,fun i a b=>h5 i (by omega) b⟩
  ·rw [if_neg z]
   have e2:runK lt (.ask (p.getD k 0) (p.getD ((l + u) / 2) 0) fun c=>if c=true then QX p k f l ((l + u) / 2) else QX p k f ((l + u) / 2 + 1) u)=runK lt (if lt (p.getD k 0) (p.getD ((l + u) / 2) 0)=true then QX p k f l ((l + u) / 2) else QX p k f ((l + u) / 2 + 1) u):=rfl
   rw [e2,L.ask hp (by omega)]
   have ri:∀ i j,i≤j→j < k→kAt r p i≤kAt r p j:=fun i j a b=>by
    rcases Nat.lt_or_eq_of_le a with q | q
    ·exact Jf (h i j q b)
    ·rw [q]; exact W8 _
   by_cases c:kAt r p k < kAt r p ((l + u) / 2)
   ·rw [if_pos (decide_eq_true c)]
    exact z5X L hp hk h f l _ (by omega) (by omega) (by omega) h4 fun i a b=>Ww c (ri _ _ a b)
   ·rw [if_neg (by simpa using c)]
    have ne:=L.ne hp (i:=k) (j:=(l + u) / 2) hk (by omega) (by omega)
    exact z5X L hp hk h f _ u (by omega) h2 (by omega) (fun i a=>Nat.lt_of_le_of_lt (ri i ((l + u) / 2) (by omega) (by omega)) (by omega)) h5
theorem zh2 (hk:k < p.size) (hl:l≤k) (h:Ri r p k) (h1:∀ i,i < l→kAt r p i < kAt r p k) (h2:∀ i,l≤i→i < k→kAt r p k < kAt r p i):Ri r (bubble p k (k - l)) (k + 1):=by
 have e1:(bubble p k (k - l)).getD l 0=p.getD k 0:=by
  rw [z2G,z2G,getElem?_bubble hk _ (by omega),if_pos (by omega)]
 have e2:∀ i,l < i→i≤k→(bubble p k (k - l)).getD i 0=p.getD (i - 1) 0:=fun i a b=>by
  rw [z2G,z2G,getElem?_bubble hk _ (by omega),if_neg (by omega),if_pos (by omega)]
 have e3:∀ i,i < l→(bubble p k (k - l)).getD i 0=p.getD i 0:=fun i a=>by
  rw [z2G,z2G,getElem?_bubble hk _ (by omega),if_neg (by omega),if_neg (by omega)]
 intro i j hij hj
 show r _ < r _
 rcases Nat.lt_trichotomy i l with a | a | a
 ·rw [e3 i a]
  rcases Nat.lt_trichotomy j l with b | b | b
  ·rw [e3 j b]; exact h _ _ hij (by omega)
  ·subst b; rw [e1]; exact h1 _ a
  ·rw [e2 j b (by omega)]
   exact h _ _ (by omega) (by omega)
 ·subst a
  rw [e1,e2 j hij (by omega)]
  exact h2 _ (by omega) (by omega)
 ·rw [e2 i a (by omega),e2 j (by omega) (by omega)]
  exact h _ _ (by omega) (by omega)
theorem zaW (L:Lt lt r n):∀ (f:Nat) {p:Array Nat} (hp:PermN n p) (k:Nat),k + f=n→Ri r p k→PermN n (runK lt (kas_bin f p k))∧Ri r (runK lt (kas_bin f p k)) n
 | 0,p,hp,k,hk,h=>by
  obtain rfl:k=n:=by omega
  exact ⟨hp,h⟩
 | f + 1,p,hp,k,hk,h=>by
  have e:runK lt (kas_bin (f + 1) p k)=runK lt (kas_bin f (bubble p k (k - runK lt (QX p k k 0 k))) (k + 1)):=by
   show runK lt ((QX p k k 0 k).bind _)=_
   rw [z31]
  obtain ⟨l,el,a1,a2,a3⟩:=z5X L hp (by omega) h k 0 k (Q2 _) (W8 _) (by omega) (fun i a=>by omega) fun i a b=>by omega
  rw [e,el]
  exact zaW L f (hp.bub _ _) (k + 1) (by omega) (zh2 (by rw [hp.size]; omega) a1 h a2 a3)
theorem zcM (L:Lt lt r n) (h2:2≤n):PermN n (runK lt (kas_sort n))∧Ri r (runK lt (kas_sort n)) n:=by
 unfold kas_sort
 rw [z31]
 obtain ⟨m,p,e,hp,h1,h3,h4⟩:=zaV L (.refl _) h2
 rw [e]
 by_cases hm:m < n
 ·rw [if_pos hm]
  have em:max m 1=m:=by omega
  rw [em]
  exact zaW L _ hp m (by omega) h4
 ·rw [if_neg hm]
  have:m=n:=by omega
  subst this
  exact ⟨hp,h4⟩
end
theorem zeD (ts:List Nat) (nd:ts.Nodup) (h2:2≤ts.length):((ordK (ts.map fun t=>[t])).map fun i=>ts.getD i 0).Pairwise (· < ·):=by
 have hl:(ts.map fun t=>[t]).length=ts.length:=by simp
 have L:Lt (fun i j=>decide ((ts.map fun t=>[t]).getD i [] < (ts.map fun t=>[t]).getD j [])) (fun i=>ts.getD i 0) ts.length:=by
  have g:∀ i,i < ts.length→(ts.map fun t=>[t]).getD i []=[ts.getD i 0]:=fun i hi=>by simp [hi]
  refine ⟨fun i j hi hj=>?_,fun i j hi hj e=>?_⟩
  ·rw [g i hi,g j hj]
   refine decide_eq_decide.mpr ?_
   rw [List.cons_lt_cons_iff]
   simp
  ·simp only [WN,Wh hi,Wh hj,J0]
   intro z
   exact e ((List.getElem_inj nd).mp z)
 obtain ⟨hp,h⟩:=zcM L h2
 unfold ordK
 rw [hl]
 generalize runK (fun i j=>decide ((ts.map fun t=>[t]).getD i [] < (ts.map fun t=>[t]).getD j [])) (kas_sort ts.length)=p at hp h
 have hs:=hp.size
 rw [List.pairwise_iff_getElem]
 intro i j hi hj hij
 simp only [Wo,Wx] at hi hj
 have:=h i j hij (by omega)
 simpa [kAt,Array.getD,show i < p.size by omega,show j < p.size by omega] using this
end L2
namespace DV
open PySem PySem.Spec PyProof.Rows L2
def z6V:D→Option S
 | .lst ds=>if ds.length < 2 then some (.own (.lst ds)) else z8h (.lst ds)
 | _=>none
section
variable {X:Cx} {c:Fc} {e:Expr} {fb:BE} {pp pos:Pos}
abbrev rSq1 (K:W1):V→Hp→VK→Prop:=fun v H Q=>∃ (a:Addr) (vs:List V),v = .ref a∧SqL K H a vs∧vs.length < 2∧∀ p,H p=none→Q (.ref p) (upd H p (.lst vs))
abbrev rSq2 (K:W1):V→Hp→VK→Prop:=fun v H Q=>∃ (a:Addr) (vs:List V) (ks:List Tx),v = .ref a∧SqL K H a vs∧ks.length=vs.length∧(∀ (i:Nat) v,vs[i]? = some v→∃ b ws,v = .ref b∧H b=some (.tup ws)∧ws[0]? = some (.str (toS (ks.getD i []))))∧ks.Nodup∧2≤vs.length∧vs.length < 64 ∧
  ∀ p,H p=none→Q (.ref p) (upd H p (.lst ((ordK ks).map fun i=>vs.getD i .non)))
theorem zcI (hg:Gl X "sorted") (hm:X.mg "sorted" = none) (he:SB X c e fb) (hs:We [e] X.env=(false,eval e X.env) :: We [] X.env:=by rfl):SE X c (.Call (.Name "sorted" pp) [e] [] pos) (eC1 z6V fb) :=
 z5G (r:=fun v H Q=>rSq1 X.K v H Q∨rSq2 X.K v H Q) (rl:=fun xs H Q=>∃ v,xs=[v]∧(rSq1 X.K v H Q∨rSq2 X.K v H Q))
  (fun pins s σ H xs us Q I r ⟨v,ex,h⟩=>h.elim (fun ⟨a,vs,e,h⟩=>zau pins s σ H xs us Q I r ⟨a,vs,by rw [ex,e],h⟩) fun ⟨a,vs,ks,e,h⟩=>zas pins s σ H xs us Q I r ⟨a,vs,ks,by rw [ex,e],h⟩) (fun v H Q h=>⟨v,rfl,h⟩) (fun c σ δ H x d s Q k rx hp q=>by
   cases d with
   | lst ds =>
    simp only [z6V] at hp
    split at hp
    ·rename_i hl
     cases hp
     obtain ⟨a,vs,ea,ha,ra⟩:=rx.lst
     exact .inl ⟨a,vs,ea,.inl ha,by rw [ra.1]; exact hl,fun p hp=>q _ _ (.alloc k hp _) (RepS.newL k ra hp)⟩
    ·exact .inr (zd4 c σ δ H x _ s Q k rx hp q)
   | _=>cases hp) hg hm PyProof.Rows.boot_sorted he (by decide) (by decide) hs
end
end DV
set_option maxHeartbeats 1000000
namespace ST
open PySem PyProof.Rows
def SetL (prog:Wl) (w:Wq) (h:Heap) (a:Addr) (ks:List Str):Prop:=ks.Nodup∧h.SetOf (strKind prog w) a (fun k=>decide (k ∈ ks)) ks.length
def dd (σ:List Str) (v:Str):List Str:=if v ∈ σ then σ else σ ++ [v]
def fm (val:Nat→Str) (i:Nat):List Str:=((Wf i).map val).foldl dd []
theorem zbY (val:Nat→Str) (i:Nat):fm val (i + 1)=dd (fm val i) (val i):=by
 unfold fm
 simp [Ja,List.foldl_append]
theorem zds {σ:List Str} (v:Str) (h:σ.Nodup):(dd σ v).Nodup:=by
 unfold dd
 split
 ·exact h
 ·rename_i hv
  exact List.nodup_append.mpr ⟨h,by simp,fun x hx y hy e=>hv (by simp at hy; rw [← hy,← e]; exact hx)⟩
theorem zcd (σ:List Str) (v:Str):(dd σ v).length=if decide (v ∈ σ)=true then σ.length else σ.length + 1:=by
 unfold dd
 by_cases h:v ∈ σ <;> simp [h]
theorem zgY (σ:List Str) (v k:Str):decide (k ∈ dd σ v)=(decide (k ∈ σ) || decide (k=v)):=by
 unfold dd
 by_cases h:v ∈ σ
 ·by_cases e:k=v
  ·subst e; simp [h]
  ·simp [h,e]
 ·by_cases e:k=v
  ·subst e; simp [h]
  ·by_cases h2:k ∈ σ <;> simp [h,e,h2]
theorem zdU (val:Nat→Str):∀ i,(fm val i).length≤i
 | 0=>W8 _
 | i + 1=>by
  rw [zbY,zcd]
  have:=zdU val i
  split <;> omega
section
variable {prog:Wl} {w:Wq} {A:Wr} {E:Value→W2→Prop} {s:W2}
theorem SetL.at' {h h':Heap} {a:Addr} {ks:List Str} (x:SetL prog w h a ks) (k:∀ o,h.get? a=some o→h'.get? a=some o):SetL prog w h' a ks:=by
 obtain ⟨nd,o,es,ep,t,ho,r⟩:=x
 exact ⟨nd,o,es,ep,t,k o ho,r⟩
theorem SetL.add {h:Heap} {a:Addr} {ks:List Str} {k:Str} (nd:ks.Nodup) (x:h.SetOf (strKind prog w) a (fun k'=>decide (k' ∈ ks) || decide (k'=k)) (if decide (k ∈ ks)=true then ks.length else ks.length + 1)):SetL prog w h a (dd ks k) :=
 ⟨zds _ nd,SetOf_congr x (fun k'=>(zgY ks k k').symm) (zcd ks k).symm⟩
theorem addL {a:Addr} {ks:List Str} {k:Str} {tk:Tok} {Q:Bool→W2→Prop} (hS:SetL prog w s.heap a ks) (hb:ks.length + 1 < Jb)
  (h:∀ h',Qk a s.heap h'→SetL prog w h' a (dd ks k)→Q (!decide (k ∈ ks)) { s with heap:=h' }) :
  W5 (model prog w) A (setAddHashed a (.str k tk) ((strKind prog w).hash k)) Q E s :=
 wpAny_setAddHashed_of (strKind_is _ _ _ _) rfl hS.2 hb fun h' hb' x=>h h' hb' (.add hS.1 x)
end
section
variable {prog:Wl} {w:Wq} {A:Wr} {R:Result→W2→Prop} {I:Addr} {fp wr:List Addr} {G:Array GenState→Array GenState→Prop} {n:Nat} {P:Nat→Value→Prop} {St:Nat→W2→Prop}
theorem loopL (W:WalksS prog w A.in1 I fp wr G n P St) (S:Addr) (hSf:S ∉ fp) (val:Nat→Str) (hval:∀ i v,P i v→∃ t,v = .str (val i) t) (hb:n + 1 < Jb) :
  ∀ (k i:Nat) (s:W2),n - i=k→i≤n→St i s→SetL prog w s.heap S (fm val i) →
   (∀ s',Moved (S :: wr) G s s'→SetL prog w s'.heap S (fm val n)→R (.ok (.ret .none)) s') →
   QM (model prog w) A (.builtin "set.update.loop" ⟨[.ref S,.ref I],[]⟩) R s:=by
 have nw:S ∉ wr:=fun z=>hSf (W.sub _ z)
 have up:∀ b ∈ wr,b ∈ S :: wr:=fun b z=>Wi _ z
 intro k
 induction k with
 | zero =>
  intro i s e1 e2 st x fin
  obtain rfl:i=n:=by omega
  refine QI PyProof.Rows.F.entry_set_update_loop ?_
  rw [Around.under_plainId PyProof.Rows.F.plain_set_update_loop _]
  show W5 _ A.in1 (Jg (.ref I) >>= _) _ _ s
  refine W0 (W.done s _ _ st fun s' mv=>?_)
  show W5 _ A.in1 (ret Value.none) _ _ s'
  exact W3 (fin s' (mv.mono up) (x.at' fun o e=>mv.heap S _ nw e))
 | succ k ih =>
  intro i s e1 e2 st x fin
  have lt:i < n:=by omega
  refine QI PyProof.Rows.F.entry_set_update_loop ?_
  rw [Around.under_plainId PyProof.Rows.F.plain_set_update_loop _]
  show W5 _ A.in1 (Jg (.ref I) >>= _) _ _ s
  refine W0 (W.item i s _ _ lt st fun v s' pv st' mv=>?_)
  obtain ⟨t,rfl⟩:=hval i v pv
  have x':SetL prog w s'.heap S (fm val i):=x.at' fun o e=>mv.heap S _ nw e
  show W5 _ A.in1 (holding [Value.str (val i) t] (setAdd S (.str (val i) t)) >>= _) _ _ s'
  refine W0 (WH ?_)
  unfold setAdd
  refine WH ?_
  refine W0 ((strKind prog w).pyHash (k:=val i) (strKind_is _ _ _ _) ?_)
  refine addL (s:={ s' with toks:=s'.toks + 1 }) x' (by have:=zdU val i; omega) fun h' sb y=>?_
  rw [← zbY] at y
  refine W3 ⟨Jn PyProof.Rows.F.plain_set_update_loop _,ih (i + 1) _ (by omega) lt (W.frame _ s' _ _ st' (QE _) fun b z o e=>?_) y fun s'' mv' z=>?_⟩
  ·rw [sb.2 b (fun q:b=S=>hSf (by rw [← q]; exact z))]; exact e
  ·refine fin s'' (Moved.trans W.gtrans ((mv.mono up).then_heap (QE _) fun b o z e=>?_) mv') z
   rw [sb.2 b (fun q:b=S=>z (by rw [q]; exact Wm))]; exact e
end
abbrev so0 (led:Bool):Obj:={ cls:=.type "set",dict:=none,data:=.set #[] 0 (.fresh 0 0 led) }
section
variable {prog:Wl} {w:Wq} {A:Wr} {E:Value→W2→Prop} {s:W2}
theorem zf0 (h:Heap) (led:Bool):SetL prog w (h.push (so0 led)) h.objs.size [] :=
 ⟨List.nodup_nil,_,#[],0,_,Wj _ rfl,⟨rfl,rfl,rfl⟩,rfl,fun e he=>by simp at he,fun k=>by simp,by decide,by rfl,rfl⟩
theorem callS {v:Value} {Q:Value→W2→Prop}
  (hi:∀ led:Bool,W5 (model prog w) A.in1.in1 (Builtin.«set.__init__» ⟨[.ref s.heap.objs.size,v],[]⟩)
   (fun fin s'=>match fin with | .done f=>wants (fun r s₂=>r = .none∧Q (.ref s.heap.objs.size) s₂) E (.ok f) s' | .again c'=>c'.quiet=true∧QM (model prog w) A.in1 c' (wants (fun r s₂=>r = .none∧Q (.ref s.heap.objs.size) s₂) E) s')
   (fun e s'=>wants (fun r s₂=>r = .none∧Q (.ref s.heap.objs.size) s₂) E (.error e) s') { s with heap:=s.heap.push (so0 led) }) :
  W5 (model prog w) A (call (.type "set") [v]) Q E s:=by
 obtain ⟨c,tl,hmro⟩:=PySem.F.called_set.mro
 have g1:=PySem.F.called_set.made
 have g2:=PySem.F.called_set.sub
 refine wpAny_call (codeAny_of_tree ?_)
 show W5 _ _ (callAny (.type "set") _) _ _ _
 refine W3 ⟨Code.quiet_builtin _ (by decide +kernel),QI PySem.F.entry_type_call ?_⟩
 rw [Around.under_plain (weight_type_call_type "set" [v] []) rfl]
 have g3:=PySem.F.called_set.notType
 have g4:=PySem.F.called_set.canCreate
 have g5:=PySem.F.typeCall_set_1 v
 repeat (any_goals (first | assumption | wp_step))
 refine codeAny_mono (code_set_new_1 v (E:=E) (Q₁:=fun obj s₁=>∃ led:Bool,obj = .ref s.heap.objs.size∧s₁ = { s with heap:=s.heap.push (so0 led) }) fun led=>⟨led,rfl,rfl⟩) fun r s₁ x=>?_
 cases r with
 | error e=>exact x
 | ok fl =>
  cases fl with
  | ret obj =>
   obtain ⟨led,rfl,rfl⟩:=x
   have hT:Shared.TypeIs { s with heap:=s.heap.push (so0 led) } (.ref s.heap.objs.size) "set":=⟨_,Wj _ rfl,rfl⟩
   have g6:=PySem.F.called_set.init.lookup
   have g7:=PySem.F.called_set.init.bind (.ref s.heap.objs.size)
   repeat (any_goals (first | assumption | wp_step))
   refine codeAny_mono (codeAny_call_builtin (R:=wants (fun r s₂=>r = .none∧Q (.ref s.heap.objs.size) s₂) E) PySem.F.called_set.init.plain PySem.F.entry_set_init (check_set_init_1 hT (hi led))) fun r₂ s₂ y=>?_
   cases r₂ with
   | error e=>exact y
   | ok f2 =>
    cases f2 with
    | ret r =>
     obtain ⟨rfl,q⟩:=y
     repeat (any_goals (first | assumption | wp_step))
    | _=>exact y.elim
  | _=>exact x.elim
end
section
variable {prog:Wl} {w:Wq} {A:Wr} {E:Value→W2→Prop} {s:W2}
theorem callL {l:Addr} {items:Array Value} (val:Nat→Str) {Q:Value→W2→Prop} (hh:A.handled=none) (hl:s.heap.IsList l items) (hval:∀ (i:Nat) (v:Value),items[i]? = some v→∃ t,v = .str (val i) t) (hb:items.size + 1 < Jb)
  (h:∀ (h':Heap) (tk:Nat),SetL prog w h' s.heap.objs.size (fm val items.size)→(∀ b o,s.heap.get? b=some o→h'.get? b=some o)→Q (.ref s.heap.objs.size) { s with heap:=h',toks:=tk }) :
  W5 (model prog w) A (call (.type "set") [.ref l]) Q E s:=by
 refine callS fun led=>?_
 obtain ⟨ol,g,hc,nl,hd⟩:=hl
 obtain ⟨ocls,odict,odata,oslots⟩:=ol
 simp only at hc hd
 subst hc; subst hd
 have g':(s.heap.push (so0 led)).get? l=some { cls:=.type "list",dict:=odict,data:=.seq items nl,slots:=oslots }:=W4 _ g
 have e1:=PySem.F.sub_list_set
 have e2:=PySem.F.sub_list_frozenset
 have e3:(Value.type "list" == Value.type "dict")=false:=by decide
 have l1:(s.heap.push (so0 led)).IsList l items:=⟨_,g',rfl,nl,rfl⟩
 unfold Builtin.«set.__init__» noKeywords Builtin.Frozenset.updateFrom
 generalize hPI:pyIter=PI
 wp_walk
 subst hPI
 refine JF l1 ?_
 refine W0 (wpAny_runValue ?_)
 have lt:l < s.heap.objs.size:=Wg g
 have hh3:A.in1.in1.in1.handled=none:=by simp [hh]
 have ne:l≠(s.heap.push (so0 led)).objs.size:=by
  rw [Qu]; exact Wt (QJ lt)
 have nin:s.heap.objs.size ∉ [(s.heap.push (so0 led)).objs.size,l]:=by
  rw [Qu]; simp only [Wn,List.not_mem_nil,or_false,not_or]
  exact ⟨Wt (Nat.lt_succ_self _),QZ lt⟩
 refine loopL ((Walks.list hh3 _ l ne items).toS) s.heap.objs.size nin val hval hb (items.size - 0) 0 _ (by omega) (Q2 _) ⟨⟨_,Wj _ rfl,rfl,rfl⟩,(l1.push _)⟩ ((zf0 s.heap led).at' fun o e=>W4 _ e) fun s' mv x=>?_
 obtain ⟨h',g',d',tk',os'⟩:=s'
 have q1:g'=s.gens:=mv.gens
 have q2:d'=s.drawn:=mv.drawn
 have q3:os'=s.os:=mv.os
 subst q1; subst q2; subst q3
 show W5 _ _ _ _ _ _
 refine W3 ?_
 show W5 _ _ (ret Value.none) _ _ _
 refine W3 ⟨rfl,h h' tk' x fun b o e=>?_⟩
 have hb:=Wg e
 refine mv.heap b o ?_ (W4 _ (W4 _ e))
 rw [Qu]
 simp only [Wn,List.not_mem_nil,or_false,not_or]
 exact ⟨Wt hb,Wt (QJ hb)⟩
end
def nxM (M:Nat) (q:Nat×Nat):Nat×Nat:=((q.1 * 5 + 1 + q.2 / 32) % M,q.2 / 32)
def itM (M:Nat):Nat→Nat×Nat→Nat×Nat
 | 0,q=>q
 | n + 1,q=>itM M n (nxM M q)
theorem zbH (M:Nat):∀ (n:Nat) (q:Nat×Nat),(itM M n q).2=q.2 / 32 ^ n
 | 0,q=>by simp [itM]
 | n + 1,q=>by
  unfold itM
  rw [zbH M n (nxM M q)]
  show q.2 / 32 / 32 ^ n=q.2 / 32 ^ (n + 1)
  rw [Nat.div_div_eq_div_mul,Jz,Qc]
theorem zbI (M:Nat):∀ (n m:Nat) (q:Nat×Nat),itM M (n + m) q=itM M m (itM M n q)
 | 0,m,q=>by simp [itM]
 | n + 1,m,q=>by
  rw [show n + 1 + m=(n + m) + 1 by omega]
  show itM M (n + m) (nxM M q)=itM M m (itM M n (nxM M q))
  exact zbI M n m (nxM M q)
theorem zdR {M:Nat} (h0:0 < M):∀ (n:Nat) (q:Nat×Nat),q.1 < M→(itM M n q).1 < M
 | 0,q,h=>h
 | n + 1,q,h=>zdR h0 n (nxM M q) (Qv _ h0)
def cyc (M:Nat):Bool:=(Wf M).all fun i=>(Wf M).all fun j=>(Wf M).any fun m=>(itM M m (i,0)).1 == j
theorem zgZ {M:Nat} (h:cyc M=true) {i j:Nat} (hi:i < M) (hj:j < M):∃ m,m < M∧(itM M m (i,0)).1=j:=by
 have h1:=WF.mp h i (Qt.mpr hi)
 have h2:=WF.mp h1 j (Qt.mpr hj)
 obtain ⟨m,hm,e⟩:=List.any_eq_true.mp h2
 exact ⟨m,Qt.mp hm,by simpa using e⟩
theorem zgA {M:Nat} (c:cyc M=true) {i p:Nat} (hi:i < M) (hp:p < 2 ^ 64) {j:Nat} (hj:j < M):∃ m,m < 13 + M∧(itM M m (i,p)).1=j:=by
 have h0:(itM M 13 (i,p)).2=0:=by
  rw [zbH]
  exact Nat.div_eq_of_lt (Ww hp (by decide))
 obtain ⟨m,hm,e⟩:=zgZ c (zdR (by omega) 13 (i,p) hi) hj
 refine ⟨13 + m,by omega,?_⟩
 rw [zbI]
 have:itM M 13 (i,p)=((itM M 13 (i,p)).1,0):=by rw [← h0]
 rw [this]
 exact e
theorem zh3 (h:Int):SetTable.bits h < 2 ^ 64:=by
 unfold SetTable.bits
 have h1:h % (2 ^ 64:Int) < 2 ^ 64:=JA _ (by decide)
 have h2:0≤h % (2 ^ 64:Int):=JN _ (by decide)
 omega
section
variable {mask:Nat} {owner:Array (Option Nat)}
theorem zbX:∀ (f i p:Nat) {j:Nat},SetTable.layClean.free mask owner f i p=some j→(owner.getD j (some 0)).isNone=true
 | 0,i,p,j,h=>by unfold SetTable.layClean.free at h; cases h
 | f + 1,i,p,j,h=>by
  unfold SetTable.layClean.free at h
  split at h
  ·rename_i k e
   cases h
   have:=List.find?_some e
   exact this
  ·exact zbX f _ _ h
theorem zbW:∀ (m f i p:Nat),m < f→(owner.getD (itM (mask + 1) m (i,p)).1 (some 0)).isNone=true→∃ j,SetTable.layClean.free mask owner f i p=some j
 | m,0,i,p,h,_=>by omega
 | m,f + 1,i,p,h,e=>by
  unfold SetTable.layClean.free
  split
  ·exact ⟨_,rfl⟩
  ·rename_i hn
   cases m with
   | zero =>
    exfalso
    have:=List.find?_eq_none.mp hn 0 (Qt.mpr (by unfold SetTable.runEnd; split <;> omega))
    exact this (by simpa [itM] using e)
   | succ m=>exact zbW m f _ _ (by omega) e
end
def live (mask:Nat) (owner:Array (Option Nat)):List (Nat×Nat):=(Wf (mask + 1)).filterMap fun j=>(owner.getD j none).map (j,·)
theorem zdT {f g:Nat→Option (Nat×Nat)} {j:Nat} {y:Nat×Nat} (hf:f j=none) (hg:g j=some y) (hs:∀ i,i≠j→g i=f i):∀ l:List Nat,l.Nodup→(j ∈ l→(l.filterMap g).Perm (y :: l.filterMap f))∧(j ∉ l→l.filterMap g=l.filterMap f)
 | [],_=>⟨fun h=>by simp at h,fun _=>rfl⟩
 | i :: l,nd=>by
  have nd':=WO.mp nd
  obtain ⟨h1,h2⟩:=zdT hf hg hs l nd'.2
  by_cases e:i=j
  ·subst e
   refine ⟨fun _=>?_,fun h=>absurd Wm h⟩
   rw [J1 hg,List.filterMap_cons_none hf,h2 nd'.1]
  ·refine ⟨fun h=>?_,fun h=>?_⟩
   ·have hj:j ∈ l:=(Wn.mp h).resolve_left (Ne.symm e)
    have:=h1 hj
    cases hh:f i with
    | none=>rw [List.filterMap_cons_none hh,List.filterMap_cons_none ((hs i e).trans hh)]; exact this
    | some z =>
     rw [J1 hh,J1 ((hs i e).trans hh)]
     exact (this.cons z).trans (.swap _ _ _)
   ·have hj:j ∉ l:=fun z=>h (Wi _ z)
    rw [Qy,Qy,hs i e,h2 hj]
theorem zd7 {mask:Nat} {owner:Array (Option Nat)} {j k:Nat} (hs:owner.size=mask + 1) (h:(owner.getD j (some 0)).isNone=true):(live mask (owner.setIfInBounds j (some k))).Perm ((j,k) :: live mask owner):=by
 have hj:j < owner.size:=by
  refine Classical.byContradiction fun hn=>?_
  rw [WR,Array.getElem?_eq_none (by omega)] at h
  cases h
 have e0:owner.getD j none=none:=by
  rw [WR,Array.getElem?_eq_getElem hj] at h ⊢
  simpa using h
 refine (zdT (f:=fun j=>(owner.getD j none).map (j,·)) (g:=fun i=>((owner.setIfInBounds j (some k)).getD i none).map (i,·)) (j:=j) (y:=(j,k)) (by show (owner.getD j none).map (j,·)=none; rw [e0]; rfl) ?_ (fun i hi=>?_) (Wf (mask + 1)) List.nodup_range).1 (Qt.mpr (by omega))
 ·show ((owner.setIfInBounds j (some k)).getD j none).map (j,·)=_
  rw [WR,Array.getElem?_setIfInBounds,if_pos rfl,if_pos hj]
  rfl
 ·show ((owner.setIfInBounds j (some k)).getD i none).map (i,·)=(owner.getD i none).map (i,·)
  rw [WR,WR,Array.getElem?_setIfInBounds,if_neg (Ne.symm hi)]
theorem zaI {mask:Nat} {owner:Array (Option Nat)} (hs:owner.size=mask + 1) (h:(live mask owner).length≤mask):∃ j,j < mask + 1∧(owner.getD j (some 0)).isNone=true:=by
 refine Classical.byContradiction fun hn=>?_
 have:∀ j ∈ Wf (mask + 1),((owner.getD j none).map fun k=>(j,k)).isSome=true:=fun j hj=>by
  have hj:=Qt.mp hj
  cases e:owner.getD j none with
  | some k=>rfl
  | none =>
   refine absurd ⟨j,hj,?_⟩ hn
   rw [WR,Array.getElem?_eq_getElem (by omega)] at e ⊢
   simp at e ⊢
   exact e
 have l:∀ l:List Nat,(∀ j ∈ l,((owner.getD j none).map fun k=>(j,k)).isSome=true)→(l.filterMap fun j=>(owner.getD j none).map fun k=>(j,k)).length=l.length:=fun l=>by
  induction l with
  | nil=>intro _; rfl
  | cons x l ih =>
   intro hx
   obtain ⟨z,ez⟩:=Option.isSome_iff_exists.mp (hx x Wm)
   rw [J1 (f:=fun j=>(owner.getD j none).map fun k=>(j,k)) ez,WC,WC,ih fun j hj=>hx j (Wi _ hj)]
 have:=l _ this
 unfold live at h
 rw [this,Jd] at h
 omega
theorem zeR {mask:Nat} (c:cyc (mask + 1)=true) (f mv:Nat) (led pl:Bool) (hs:List Int) (hn:hs.length≤mask) :
  ∃ t order,SetTable.laid mask f mv led pl hs.toArray=some (t,order)∧order.toList.Perm (Wf hs.length)∧t.fits hs.length=true:=by
 have go:∀ (hs:List Int) (owner:Array (Option Nat)) (k:Nat),owner.size=mask + 1→((live mask owner).map (·.2)).Perm (Wf k)→k + hs.length≤mask →
   ∃ owner',hs.foldl (fun (acc:Option (Array (Option Nat)×Nat)) h=>do
    let (owner,k) ← acc
    let j ← SetTable.layClean.free mask owner (SetTable.turns mask) (SetTable.bits h % (mask + 1)) (SetTable.bits h)
    pure (owner.setIfInBounds j (some k),k + 1)) (some (owner,k))=some (owner',k + hs.length)∧owner'.size=mask + 1∧((live mask owner').map (·.2)).Perm (Wf (k + hs.length)):=by
  intro hs
  induction hs with
  | nil=>intro owner k h1 h2 _; exact ⟨owner,rfl,h1,h2⟩
  | cons h hs ih =>
   intro owner k h1 h2 h3
   have hlen:(live mask owner).length=k:=by
    have:=h2.length_eq
    simpa using this
   simp only [WC] at h3
   obtain ⟨j0,hj0,e0⟩:=zaI h1 (by omega)
   obtain ⟨m,hm,em⟩:=zgA c (i:=SetTable.bits h % (mask + 1)) (Qv _ (by omega)) (zh3 h) hj0
   obtain ⟨j,ej⟩:=zbW (mask:=mask) (owner:=owner) m (SetTable.turns mask) _ (SetTable.bits h) (by unfold SetTable.turns; omega) (by rw [em]; exact e0)
   have ea:=zbX _ _ _ ej
   have hp:=zd7 (k:=k) h1 ea
   have hp2:((live mask (owner.setIfInBounds j (some k))).map (·.2)).Perm (Wf (k + 1)):=by
    refine (hp.map (·.2)).trans ?_
    rw [Ja,Ws]
    exact (h2.cons k).trans (List.perm_append_singleton _ _).symm
   obtain ⟨o',q1,q2,q3⟩:=ih (owner.setIfInBounds j (some k)) (k + 1) (by simpa using h1) hp2 (by omega)
   refine ⟨o',?_,q2,?_⟩
   ·rw [Qn]
    simp only [Option.bind_eq_bind,WX,ej,Option.pure_def]
    simp only [Option.bind_eq_bind,WX,Option.pure_def] at q1
    rw [q1]
    simp; omega
   ·rw [WC,show k + (hs.length + 1)=k + 1 + hs.length by omega]; exact q3
 have l0:live mask (Array.replicate (mask + 1) none)=[]:=by
  unfold live
  rw [List.filterMap_eq_nil_iff]
  intro j hj
  have:=Qt.mp hj
  simp [WR,this]
 obtain ⟨o',q1,q2,q3⟩:=go hs (Array.replicate (mask + 1) none) 0 (by simp) (by rw [l0]; exact .nil) (by omega)
 rw [Qq] at q1 q3
 refine ⟨{ mask,place:=((live mask o').map (·.1)).toArray,dummies:=#[],finger:=f,led,moves:=mv,plain:=pl },((live mask o').map (·.2)).toArray,?_,q3,?_⟩
 ·unfold SetTable.laid SetTable.layClean
  rw [List.foldl_toArray,q1]
  rfl
 ·unfold SetTable.fits SetTable.fill
  have:=q3.length_eq
  simp at this
  simp [this]
  omega
theorem cyc8:cyc 8=true:=by decide +kernel
section
variable {prog:Wl} {w:Wq} {A:Wr} {E:Value→W2→Prop} {s:W2}
theorem zaF {a:Addr} {o:Obj} {es0:Array (Int×Value)} {ep:Nat} {t0:SetTable} {ks:List Str} {es es':Array (Int×Value)} {t':SetTable} {Q:Unit→W2→Prop} (ho:s.heap.get? a=some o) (hex:o.ExactSet) (hd:o.data = .set es0 ep t0)
  (nd:ks.Nodup) (hel:ElemsOf (strKind prog w) es.toList) (hm:∀ k,decide (k ∈ ks)=true ↔ ∃ e ∈ es.toList,(strKind prog w).is k e.2=true) (hb:es.size < Jb) (hn:es.size=ks.length) (p:es'.toList.Perm es.toList) (hf:t'.fits es'.size=true)
  (h:∀ h',Qk a s.heap h'→SetL prog w h' a ks→(∃ o',h'.get? a=some o'∧o'.ExactSet∧o'.data = .set es' (ep + 1) t')→Q () { s with heap:=h' }) :
  W5 (model prog w) A (storeSet a es' t') Q E s:=by
 have sz:es'.size=es.size:=by rw [← Wx,p.length_eq,Wx]
 have hb':es'.size < Jb:=by rw [sz]; exact hb
 refine wpAny_storeSet_of ho hd ?_ (fits_of_scanBound hb')
 obtain ⟨g,x⟩:=SetOf_store (knd:=strKind prog w) (S':=fun k=>decide (k ∈ ks)) ho hex hd (hel.perm p) (fun k=>(hm k).trans ⟨fun ⟨e,q,r⟩=>⟨e,p.mem_iff.mpr q,r⟩,fun ⟨e,q,r⟩=>⟨e,p.mem_iff.mp q,r⟩⟩) hb' hf
 refine h _ (.update _ _ _) ⟨nd,SetOf_congr x (fun _=>rfl) (by rw [sz,hn])⟩ ⟨_,g,hex,rfl⟩
theorem zeC {es:Array (Int×Value)} {order:Array Nat} (h:order.toList.Perm (Wf es.size)):(order.filterMap (es[·]?)).toList.Perm es.toList:=by
 rw [Array.toList_filterMap]
 exact (h.filterMap _).trans (by rw [filterMap_getElem?_range])
theorem zgz {a b:Addr} {js:List Str} {led:Bool} {ep:Nat} {o:Obj} {each:Sem Unit} {Q:Unit→W2→Prop} (hne:a≠b) (ho:s.heap.get? a=some o) (hex:o.ExactSet) (hd:o.data = .set #[] ep (.fresh 0 0 led)) (hB:SetL prog w s.heap b js) (hn:js.length≤4)
  (h:∀ h',Qk a s.heap h'→SetL prog w h' a js→Q () { s with heap:=h' }) :
  W5 (model prog w) A (setMerge a b each) Q E s:=by
 obtain ⟨nd,ob,es,ep',t,hob,hexb,hdb,hel,hmem,hb,hf,hsz⟩:=hB
 unfold setMerge
 have hab:(a == b)=false:=by simpa using hne
 rw [hab]
 simp only [WI,if_false]
 refine W0 (Q3 hob hdb hf ?_)
 dsimp only
 by_cases he:es.isEmpty=true
 ·rw [if_pos he]
  have es0:es = #[]:=by simpa using he
  subst es0
  have:js=[]:=Qo hsz.symm
  subst this
  refine W3 ?_
  have:=h s.heap (.refl _ _) ⟨List.nodup_nil,o,#[],ep,_,ho,hex,hd,fun e he=>by simp at he,fun k=>by simp,by decide,by rfl,rfl⟩
  exact this
 ·rw [if_neg he]
  refine W0 ?_
  unfold setRoomFor
  refine W0 (Q3 ho hd (by rfl) ?_)
  have hr:(SetTable.fresh 0 0 led).roomFor es.size=none:=by
   unfold SetTable.roomFor SetTable.fresh SetTable.fill
   simp; omega
  dsimp only
  rw [hr]
  refine W3 ?_
  refine W0 (Q3 ho hd (by rfl) ?_)
  dsimp only
  have hfill:((SetTable.fresh 0 0 led).fill != 0)=false:=rfl
  unfold SetTable.road
  rw [hfill]
  simp only [WI,if_false]
  split
  ·rename_i hq
   split at hq
   ·exact zaF ho hex hd nd hel hmem hb hsz .rfl (by cases t; exact hf) fun h' sb x _=>h h' sb x
   ·cases hq
  ·obtain ⟨t',order,e1,e2,e3⟩:=zeR (mask:=7) cyc8 0 0 ((SetTable.fresh 0 0 led).led && t.led) ((SetTable.fresh 0 0 led).plain && t.plain) (es.toList.map (·.1)) (by simp; omega)
   have e1':SetTable.laid (SetTable.fresh 0 0 led).mask (SetTable.fresh 0 0 led).finger (SetTable.fresh 0 0 led).moves ((SetTable.fresh 0 0 led).led && t.led) ((SetTable.fresh 0 0 led).plain && t.plain) (es.map (·.1))=some (t',order):=by
    rw [← e1]
    show SetTable.laid 7 0 0 _ _ _=_
    rw [← Array.toList_map,Array.toArray_toList]
   rw [e1']
   rw [Wo,Wx] at e2 e3
   have op:=zeC e2
   have osz:(order.filterMap (es[·]?)).size=es.size:=by rw [← Wx,op.length_eq,Wx]
   refine W0 ?_
   show W5 _ _ (if ((order.filterMap (es[·]?)).size != es.size)=true then _ else _) _ _ _
   rw [osz,if_neg (by simp)]
   refine W3 ?_
   exact zaF ho hex hd nd hel hmem hb hsz op (by rw [osz]; exact e3) fun h' sb x _=>h h' sb x
  ·rename_i hq
   split at hq <;> cases hq
end
theorem zbj {α:Type} [DecidableEq α]:∀ (ks l:List α),ks.Nodup→(∀ k ∈ ks,k ∈ l)→l.length=ks.length→l.Perm ks
 | [],l,_,_,h=>by rw [Qo h]
 | k :: ks,l,nd,h,hl=>by
  have nd':=WO.mp nd
  have hk:=h k Wm
  have:=zbj ks (l.erase k) nd'.2 (fun x hx=>(List.mem_erase_of_ne (by rintro rfl; exact nd'.1 hx)).mpr (h x (Wi _ hx))) (by rw [List.length_erase_of_mem hk,hl]; rfl)
  exact (List.perm_cons_erase hk).trans (this.cons k)
def elE (prog:Wl) (w:Wq) (x:Str×Tok):Int×Value:=((strKind prog w).hash x.1,.str x.1 x.2)
section
variable {prog:Wl} {w:Wq} {A:Wr} {E:Value→W2→Prop} {s:W2}
theorem zbJ {k:Str} {v:Value} (h:(strKind prog w).is k v=true):∃ t,v = .str k t:=by
 cases v <;> simp [PySem.strKind,Value.isStrOf] at h
 rename_i y t
 exact ⟨t,by rw [h]⟩
theorem z7M:∀ (l:List (Int×Value)),ElemsOf (strKind prog w) l→∃ xs:List (Str×Tok),l=xs.map (elE prog w)
 | [],_=>⟨[],rfl⟩
 | e :: l,h=>by
  obtain ⟨xs,e1⟩:=z7M l h.tail
  obtain ⟨⟨k,q,r⟩,_⟩:=h.head
  obtain ⟨t,et⟩:=zbJ q
  obtain ⟨e0,ev⟩:=e
  simp only at r et
  subst r; subst et
  exact ⟨(k,t) :: xs,by rw [Ws,← e1]; rfl⟩
theorem zcB (xs:List (Str×Tok)):ElemsOf (strKind prog w) (xs.map (elE prog w)):=fun e he=>by
 obtain ⟨x,_,rfl⟩:=Wp.mp he
 exact ⟨⟨x.1,strKind_is _ _ _ _,rfl⟩,rfl⟩
theorem z9l (xs:List (Str×Tok)) (k:Str):(∃ e ∈ xs.map (elE prog w),(strKind prog w).is k e.2=true) ↔ k ∈ xs.map (·.1):=by
 constructor
 ·rintro ⟨e,he,q⟩
  obtain ⟨x,hx,rfl⟩:=Wp.mp he
  obtain ⟨t,et⟩:=zbJ q
  have:x.1=k:=by injection et
  exact List.mem_map.mpr ⟨x,hx,this⟩
 ·intro h
  obtain ⟨x,hx,rfl⟩:=Wp.mp h
  exact ⟨elE prog w x,WG hx,strKind_is _ _ _ _⟩
structure SetX (prog:Wl) (w:Wq) (h:Heap) (a:Addr) (ks:List Str) (o:Obj) (es:Array (Int×Value)) (ep:Nat) (t:SetTable) (xs:List (Str×Tok)):Prop where
 g:h.get? a=some o
 ex:o.ExactSet
 d:o.data = .set es ep t
 e:es.toList=xs.map (elE prog w)
 p:(xs.map (·.1)).Perm ks
 nd:ks.Nodup
 f:t.fits es.size=true
 b:es.size < Jb
theorem SetL.op {h:Heap} {a:Addr} {ks:List Str} (x:SetL prog w h a ks):∃ o es ep t xs,SetX prog w h a ks o es ep t xs:=by
 obtain ⟨nd,o,es,ep,t,ho,hex,hd,hel,hm,hb,hf,hn⟩:=x
 obtain ⟨xs,e⟩:=z7M _ hel
 refine ⟨o,es,ep,t,xs,ho,hex,hd,e,zbj ks _ nd (fun k hk=>?_) ?_,nd,hf,hb⟩
 ·rw [← z9l (prog:=prog) (w:=w),← e]
  exact (hm k).mp (by simpa using hk)
 ·rw [← hn,Wo,← Wx,e,Wo]
theorem SetX.sz {h:Heap} {a:Addr} {ks:List Str} {o:Obj} {es:Array (Int×Value)} {ep:Nat} {t:SetTable} {xs:List (Str×Tok)} (x:SetX prog w h a ks o es ep t xs):es.size=ks.length:=by
 rw [← x.p.length_eq,Wo,← Wx,x.e,Wo]
theorem SetX.el {h:Heap} {a:Addr} {ks:List Str} {o:Obj} {es:Array (Int×Value)} {ep:Nat} {t:SetTable} {xs:List (Str×Tok)} (x:SetX prog w h a ks o es ep t xs):ElemsOf (strKind prog w) es.toList:=by
 rw [x.e]; exact zcB _
theorem SetX.l {h:Heap} {a:Addr} {ks:List Str} {o:Obj} {es:Array (Int×Value)} {ep:Nat} {t:SetTable} {xs:List (Str×Tok)} (x:SetX prog w h a ks o es ep t xs):SetL prog w h a ks :=
 ⟨x.nd,o,es,ep,t,x.g,x.ex,x.d,x.el,fun k=>by rw [x.e,z9l,x.p.mem_iff]; simp,x.b,x.f,x.sz⟩
theorem z3L {α:Type} (xs:Array α) (i:Nat) (h:i < xs.size):(SetTable.eraseAt xs i).toList=xs.toList.eraseIdx i:=by
 unfold SetTable.eraseAt
 rw [Array.toList_append,Array.toList_extract,Array.toList_extract,List.eraseIdx_eq_take_drop_succ]
 simp [List.extract]
 rw [List.take_of_length_le]
 simp
theorem z9b {α:Type} (xs:Array α) (p:Nat) (x:α):(SetTable.insertAt xs p x).size=xs.size + 1:=by
 rw [← Wx,(SetTable.insertAt_perm xs p x).length_eq,Array.toList_push]
 simp
theorem zc8 {t:SetTable} {n i:Nat} (h:t.fits n=true) (hi:i < n):(t.drop i).fits (n - 1)=true:=by
 unfold SetTable.fits SetTable.fill at *
 simp only [Wa,beq_iff_eq,decide_eq_true_eq] at h ⊢
 obtain ⟨h1,h2⟩:=h
 have hs:t.place[i]? = some t.place[i]:=Array.getElem?_eq_getElem (by omega)
 unfold SetTable.drop
 rw [hs]
 simp only
 have e1:(SetTable.eraseAt t.place i).size=n - 1:=by
  rw [← Wx,z3L _ _ (by omega),List.length_eraseIdx_of_lt (by rw [Wx]; omega),Wx,h1]
 have e2:=z9b t.dummies (SetTable.below t.dummies t.place[i]) t.place[i]
 rw [e1,e2]
 exact ⟨rfl,by omega⟩
theorem z3h {α β:Type} (f:α→β):∀ (l:List α) (i:Nat),(l.eraseIdx i).map f=(l.map f).eraseIdx i
 | [],i=>rfl
 | x :: l,0=>rfl
 | x :: l,i + 1=>by simp [List.eraseIdx,z3h f l i]
theorem z7F {α:Type}:∀ (l:List α) (i:Nat) (h:i < l.length),l.Perm (l[i] :: l.eraseIdx i)
 | [],i,h=>by simp at h
 | x :: l,0,h=>.refl _
 | x :: l,i + 1,h=>by
  have:=z7F l i (by simpa using h)
  exact (this.cons x).trans (.swap _ _ _)
theorem zdq {a:Addr} {ks:List Str} {k:Str} {tk:Tok} {Q:Bool→W2→Prop} (hS:SetL prog w s.heap a ks) (hk:k ∈ ks)
  (h:∀ h',Qk a s.heap h'→SetL prog w h' a (ks.erase k)→Q true { s with heap:=h' }) :
  W5 (model prog w) A (setDiscardHashed a (.str k tk) ((strKind prog w).hash k)) Q E s:=by
 obtain ⟨o,es,ep,t,xs,x⟩:=hS.op
 have kk:(strKind prog w).is k (.str k tk)=true:=strKind_is _ _ _ _
 unfold setDiscardHashed setFind setFindIn
 refine W0 (W0 (Q3 x.g x.d x.f ?_))
 dsimp only
 rw [byScan_of (knd:=strKind prog w) (x:=.str k tk) rfl x.b x.el,if_pos rfl]
 refine W0 (QV (W0 (wpAny_setScan_of kk x.g x.d x.f x.el ?_)))
 cases hr:List.findIdx? (fun e=>(strKind prog w).is k e.2) es.toList with
 | none =>
  exfalso
  obtain ⟨e,he,q⟩:=(z9l (prog:=prog) (w:=w) xs k).mpr (x.p.mem_iff.mpr hk)
  have:=List.findIdx?_eq_none_iff.mp hr e (by rw [x.e]; exact he)
  rw [q] at this
  cases this
 | some j =>
  dsimp only
  obtain ⟨hj,hp,_⟩:=List.findIdx?_eq_some_iff_getElem.mp hr
  have hj':j < es.size:=by rwa [Wx] at hj
  rw [Qq]
  refine W3 (W0 (Q3 x.g x.d x.f ?_))
  dsimp only
  have esz:(SetTable.eraseAt es j).size=es.size - 1:=by
   rw [← Wx,z3L _ _ hj',List.length_eraseIdx_of_lt hj,Wx]
  refine W0 (wpAny_storeSet_of x.g x.d ?_ (by have:=fits_of_scanBound x.b; omega))
  have g2:=QP (Obj.putSet (SetTable.eraseAt es j) (t.drop j)) x.g (by rw [putSet_of _ _ x.d]; rfl)
  rw [putSet_of _ _ x.d] at g2
  have hjx:j < xs.length:=by have:=congrArg List.length x.e; simp at this; omega
  have kj:(xs.map (·.1))[j]? = some k:=by
   have e1:es.toList[j]'hj=elE prog w (xs[j]'hjx):=by
    have:es.toList[j]? = (xs.map (elE prog w))[j]?:=by rw [x.e]
    rw [Wh hj,Wh (by simpa using hjx),JJ] at this
    exact Wy this
   rw [e1] at hp
   obtain ⟨t',et⟩:=zbJ hp
   have:(xs[j]'hjx).1=k:=by injection et
   simp [hjx,this]
  have X:SetX prog w (s.heap.update a (Obj.putSet (SetTable.eraseAt es j) (t.drop j))) a (ks.erase k) { o with data:=.set (SetTable.eraseAt es j) (ep + 1) (t.drop j) } (SetTable.eraseAt es j) (ep + 1) (t.drop j) (xs.eraseIdx j) :=
   ⟨g2,x.ex,rfl,by rw [z3L _ _ hj',x.e,z3h],by
    rw [z3h]
    have hl:j < (xs.map (·.1)).length:=by simpa using hjx
    have gk:(xs.map (·.1))[j]'hl=k:=by rw [Wh hl] at kj; exact Wy kj
    have p1:(xs.map (·.1)).Perm (k :: (xs.map (·.1)).eraseIdx j):=by
     have:=z7F (xs.map (·.1)) j hl
     rw [gk] at this
     exact this
    have p2:=(p1.symm.trans x.p).erase k
    rwa [List.erase_cons_head] at p2,x.nd.erase _,by rw [esz]; exact zc8 x.f hj',by rw [esz]; have:=x.b; omega⟩
  refine W0 (wpAny_point ?_)
  exact W3 (h _ (.update _ _ _) X.l)
theorem zdr {a:Addr} {ks:List Str} {k:Str} {tk:Tok} {Q:Bool→W2→Prop} (hS:SetL prog w s.heap a ks) (hk:k ∉ ks) (h:Q false s) :
  W5 (model prog w) A (setDiscardHashed a (.str k tk) ((strKind prog w).hash k)) Q E s:=by
 unfold setDiscardHashed
 refine W0 (wpAny_setFind_of (strKind_is _ _ _ _) rfl hS.2 fun r hr=>?_)
 have:r=none:=by cases r with
  | none=>rfl
  | some _=>simp [hk] at hr
 subst this
 exact W3 h
end
section
variable {prog:Wl} {w:Wq} {A:Wr} {E:Value→W2→Prop} {s:W2}
theorem z8W {α β:Type} {f:α→β→Sem (ForInStep β)} {Q:β→W2→Prop} (J:List α→β→W2→Prop)
  (step:∀ x r b s,J (x :: r) b s→W5 (model prog w) A (f x b) (fun st s'=>∃ b',st = .yield b'∧J r b' s') E s):∀ (l:List α) (b:β) (s:W2),J l b s→(∀ b' s',J [] b' s'→Q b' s')→W5 (model prog w) A (forIn l b f) Q E s
 | [],b,s,h,q=>by
  rw [List.forIn_nil]
  exact W3 (q b s h)
 | x :: l,b,s,h,q=>by
  rw [List.forIn_cons]
  refine W0 (Ql (step x l b s h) (fun st s' ⟨b',e,h'⟩=>?_) fun _ _ e=>e)
  subst e
  exact z8W J step l b' s' h' q
theorem zay {α β:Type} {f:α→β→Sem (ForInStep β)} {Q:β→W2→Prop} (J:List α→β→W2→Prop)
  (step:∀ x r b s,J (x :: r) b s→W5 (model prog w) A (f x b) (fun st s'=>∃ b',st = .yield b'∧J r b' s') E s) (l:Array α) (b:β) (s:W2) (h:J l.toList b s) (q:∀ b' s',J [] b' s'→Q b' s'):W5 (model prog w) A (forIn l b f) Q E s:=by
 rw [← Array.forIn_toList]
 exact z8W J step l.toList b s h q
theorem quiet {l:List Addr} {Q:Bool→W2→Prop} (hl:∀ a ∈ l,∃ ks,SetL prog w s.heap a ks) (h:Q true s):W5 (model prog w) A (setsQuiet l) Q E s:=by
 unfold setsQuiet
 refine W0 (z8W (fun r b s'=>b=(none,())∧s'=s∧∀ a ∈ r,∃ ks,SetL prog w s.heap a ks) ?st l _ s ⟨rfl,rfl,hl⟩ ?fin)
 case fin =>
  rintro b s' ⟨rfl,rfl,_⟩
  exact W3 h
 case st =>
  rintro a r b s' ⟨rfl,rfl,e3⟩
  obtain ⟨ks,x⟩:=e3 a Wm
  obtain ⟨o,es,ep,t,xs,x⟩:=x.op
  refine W0 (wpAny_setEntries_of x.g x.d x.f ?_)
  refine W0 (zay (fun r b s''=>b=(none,())∧s''=s'∧∀ e ∈ r,∃ z,e=elE prog w z) ?st es _ s' ⟨rfl,rfl,fun e he=>?el⟩ ?fin)
  case st =>
   rintro e r b s'' ⟨rfl,rfl,q3⟩
   obtain ⟨z,rfl⟩:=q3 e Wm
   exact W3 ⟨_,rfl,rfl,rfl,fun e he=>q3 e (Wi _ he)⟩
  case el =>
   rw [x.e] at he
   obtain ⟨z,_,rfl⟩:=Wp.mp he
   exact ⟨z,rfl⟩
  case fin =>
   rintro b s'' ⟨rfl,rfl,_⟩
   exact W3 ⟨_,rfl,rfl,rfl,fun a ha=>e3 a (Wi _ ha)⟩
theorem zbf {α:Type} (next:Nat→Nat) (xs:Array α):(pickOrder next xs).toList.Perm xs.toList:=by
 have go:∀ (f k:Nat) (left:List α) (out:Array α),left.length=f→(pickOrder.go next f k left out).toList.Perm (out.toList ++ left):=by
  intro f
  induction f with
  | zero =>
   intro k left out h
   rw [Qo h]
   unfold pickOrder.go
   simp
  | succ f ih =>
   intro k left out h
   unfold pickOrder.go
   have hi:next k % left.length < left.length:=Qv _ (by omega)
   rw [Wh hi]
   simp only
   refine (ih _ _ _ (by rw [List.length_eraseIdx_of_lt hi]; omega)).trans ?_
   rw [Array.toList_push,List.append_assoc]
   exact List.Perm.append_left _ (z7F _ _ hi).symm
 have:=go xs.size 0 xs.toList #[] (by simp)
 simpa [pickOrder] using this
theorem walkU {a b:Addr} {ks js:List Str} {ob:Obj} {es:Array (Int×Value)} {ep:Nat} {t:SetTable} {xs:List (Str×Tok)} {Q:Array (Int×Value)→W2→Prop} (hne:a≠b) (x:SetX prog w s.heap b ks ob es ep t xs) (hA:SetL prog w s.heap a js)
  (h:∀ arr h',arr.toList.Perm es.toList→Qk a s.heap h'→SetL prog w h' a js→Q arr { s with heap:=h' }):W5 (model prog w) A (setWalkUnseen b [a] (some a)) Q E s:=by
 unfold setWalkUnseen
 refine W0 (Q3 x.g x.d x.f ?_)
 dsimp only
 unfold setsByText
 refine W0 (W0 (QN (W3 ?_)))
 dsimp only
 split
 ·rename_i hc
  unfold setWalk setsByText
  refine W0 (Q3 x.g x.d x.f ?_)
  dsimp only
  refine W0 (W0 (QN (W3 ?_)))
  dsimp only
  split
  ·refine W0 (QN ?_)
   exact W3 (h _ s.heap (zbf _ _) (.refl _ _) hA)
  ·rename_i hb
   rw [Bool.not_eq_true] at hb
   rw [hb] at hc
   simp only [Bool.false_or,Bool.or_eq_true,Wa,decide_eq_true_eq] at hc
   show W5 _ _ (if (!t.plain && decide (es.size > 1))=true then _ else _) _ _ _
   have h1:(!t.plain && decide (es.size > 1))=false:=by
    rcases hc with ⟨_,h2⟩ | h2
    ·simp [h2]
    ·simp; omega
   rw [h1]
   simp only [WI,if_false]
   refine W0 ?_
   show W5 _ _ (if (!t.led && decide (es.size > 1))=true then _ else _) _ _ _
   have h2:(!t.led && decide (es.size > 1))=false:=by
    rcases hc with ⟨h2,_⟩ | h2
    ·simp [h2]
    ·simp; omega
   rw [h2]
   simp only [WI,if_false]
   refine W3 ?_
   exact W3 (h _ s.heap .rfl (.refl _ _) hA)
 ·refine W0 (quiet (fun c hc=>?_) ?_)
  ·rcases Wn.mp hc with rfl | hc
   ·exact ⟨_,x.l⟩
   ·rw [List.mem_singleton.mp hc]; exact ⟨_,hA⟩
  ·simp only [Bool.not_true,WI,if_false]
   refine W0 (QV ?_)
   obtain ⟨o,es',ep',t',xs',y⟩:=hA.op
   refine W0 (Q3 y.g y.d y.f ?_)
   dsimp only
   split
   ·refine W0 (zaF y.g y.ex y.d y.nd y.el (fun k=>by rw [y.e,z9l,y.p.mem_iff]; simp) y.b y.sz .rfl (by cases t'; exact y.f) fun h' sb z _=>?_)
    exact W3 (h _ h' .rfl sb z)
   ·exact W3 (h _ s.heap .rfl (.refl _ _) hA)
def flp (cur:List Str) (x:Str):List Str:=if x ∈ cur then cur.erase x else dd cur x
theorem z7S {a:Addr} {ks:List Str} {Q:Bool→W2→Prop} (x:SetL prog w s.heap a ks) (h:Q true s):W5 (model prog w) A (QS (.ref a)) Q E s:=by
 unfold QS
 refine W0 (wpAny_isInstance x.2.typeIs sub_set_self ?_)
 exact W3 h
theorem zf1 (cur:List Str) (x:Str):(flp cur x).length≤cur.length + 1:=by
 unfold flp
 split
 ·rename_i h
  rw [List.length_erase_of_mem h]; omega
 ·rw [zcd]; split <;> omega
theorem symUp {a b:Addr} {ks js:List Str} {id:String} {Q:Unit→W2→Prop} (hne:a≠b) (hA:SetL prog w s.heap a js) (hB:SetL prog w s.heap b ks) (hb:js.length + ks.length + 1 < Jb)
  (h:∀ (h':Heap) (ls:List Str),ls.Perm ks→Qk a s.heap h'→SetL prog w h' a (ls.foldl flp js)→Q () { s with heap:=h' }):W5 (model prog w) A (Builtin.Frozenset.symmetricDifferenceUpdate id a (.ref b)) Q E s:=by
 obtain ⟨ob,es,ep,t,xs,x⟩:=hB.op
 unfold Builtin.Frozenset.symmetricDifferenceUpdate
 have e0:(Value.ref b == Value.ref a)=false:=by
  show (Value.ref b == Value.ref a)=false
  rw [beq_eq_false_iff_ne]
  intro q
  injection q with q
  exact hne q.symm
 rw [e0]
 simp only [WI,if_false]
 refine W0 (QG x.l.2.typeIs ?_)
 rw [show (Value.type "set" == Value.type "dict")=false by decide]
 simp only [WI,if_false]
 refine W0 (z7S x.l ?_)
 simp only [if_true]
 refine W0 (W3 ?_)
 refine W0 (W3 ?_)
 refine W0 (JI x.g x.d x.f ?_)
 refine WH ?_
 refine W0 (walkU hne x hA fun arr h1 p1 sb1 z1=>?_)
 have hxs:∀ e ∈ arr.toList,∃ z,e=elE prog w z:=fun e he=>by
  have:=p1.mem_iff.mp he
  rw [x.e] at this
  obtain ⟨z,_,rfl⟩:=Wp.mp this
  exact ⟨z,rfl⟩
 obtain ⟨zs,ez⟩:=z7M _ (fun e he=>x.el e (p1.mem_iff.mp he):ElemsOf (strKind prog w) arr.toList)
 have pz:(zs.map (·.1)).Perm ks:=by
  have q1:((zs.map (elE prog w)).map fun e:Int×Value=>match e.2 with | .str k _=>k | _=>default).Perm ((xs.map (elE prog w)).map fun e:Int×Value=>match e.2 with | .str k _=>k | _=>default):=by
   rw [← ez,← x.e]; exact p1.map _
  rw [WB,WB] at q1
  exact (show (zs.map (·.1)).Perm (xs.map (·.1)) from q1).trans x.p
 refine W0 (zay (fun r _ s'=>∃ (rs:List (Str×Tok)) (h':Heap) (cur:List Str),r=rs.map (elE prog w)∧s' = { s with heap:=h' }∧Qk a s.heap h'∧SetL prog w h' a cur∧(rs.map (·.1)).foldl flp cur=(zs.map (·.1)).foldl flp js∧cur.length + rs.length≤js.length + ks.length)
  ?st arr _ _ ⟨zs,h1,js,ez,rfl,sb1,z1,rfl,by have:=pz.length_eq; simp at this; omega⟩ ?fin)
 case st =>
  rintro e r u s' ⟨rs,h',cur,q1,q2,q3,q4,q5,q6⟩
  cases rs with
  | nil=>cases q1
  | cons z rs =>
   rw [Ws] at q1
   cases q1
   subst q2
   simp only [WC] at q6
   have xb:SetX prog w h' b ks ob es ep t xs:={ x with g:=(q3.2 b (Ne.symm hne)).trans x.g }
   have fin:∀ (h2:Heap),Qk a h' h2→SetL prog w h2 a (flp cur z.1)→W5 (model prog w) A (do
     Builtin.Frozenset.unchanged id b ep
     pure (ForInStep.yield PUnit.unit)) (fun st s'=>∃ b',st = .yield b'∧∃ (rs':List (Str×Tok)) (h':Heap) (cur:List Str),rs.map (elE prog w)=rs'.map (elE prog w)∧s' = { s with heap:=h' }∧Qk a s.heap h'∧SetL prog w h' a cur∧(rs'.map (·.1)).foldl flp cur=(zs.map (·.1)).foldl flp js∧cur.length + rs'.length≤js.length + ks.length) E { s with heap:=h2 }:=fun h2 sb2 z2=>by
    have xb2:SetX prog w h2 b ks ob es ep t xs:={ xb with g:=(sb2.2 b (Ne.symm hne)).trans xb.g }
    refine W0 ?_
    unfold Builtin.Frozenset.unchanged
    refine W0 (JI xb2.g xb2.d xb2.f ?_)
    simp only [bne_self_eq_false,WI,if_false]
    refine W3 (W3 ⟨_,rfl,rs,h2,_,rfl,rfl,q3.trans sb2,z2,q5,?_⟩)
    have:=zf1 cur z.1
    omega
   refine W0 (WH ?_)
   by_cases hm:z.1 ∈ cur
   ·refine W0 (zdq (s:={ s with heap:=h' }) q4 hm fun h2 sb2 z2=>?_)
    refine W3 (fin h2 sb2 ?_)
    unfold flp; rw [if_pos hm]; exact z2
   ·refine W0 (zdr (s:={ s with heap:=h' }) q4 hm ?_)
    simp only [Bool.not_false,if_true]
    refine W0 (addL (s:={ s with heap:=h' }) q4 (by omega) fun h2 sb2 z2=>?_)
    refine W3 (fin h2 sb2 ?_)
    unfold flp; rw [if_neg hm]; exact z2
 case fin =>
  rintro u s' ⟨rs,h',cur,q1,q2,q3,q4,q5,q6⟩
  cases rs with
  | cons z rs=>cases q1
  | nil =>
   subst q2
   rw [List.map_nil,List.foldl_nil] at q5
   rw [q5] at q4
   exact W3 (h h' _ pz q3 q4)
end
theorem zc5:entryFor table "set.__xor__" = some Builtin.«frozenset.__xor__» :=
 entryFor_alias (id':="frozenset.__xor__") (by kernel_rfl) rfl (by decide +kernel) (by kernel_rfl)
section
variable {prog:Wl} {w:Wq} {A:Wr} {E:Value→W2→Prop} {s:W2}
theorem zd6 {b:Addr} {js:List Str} {id:String} {Q:Value→W2→Prop} (hB:SetL prog w s.heap b js) (hn:js.length≤4)
  (h:∀ h',SetL prog w h' s.heap.objs.size js→(∀ c o,s.heap.get? c=some o→h'.get? c=some o)→Q (.ref s.heap.objs.size) { s with heap:=h' }) :
  W5 (model prog w) A (Builtin.Frozenset.newFrom id (.type "set") (.ref b)) Q E s:=by
 have hlt:b < s.heap.objs.size:=by
  obtain ⟨o,es,ep,t,xs,x⟩:=hB.op
  exact Wg x.g
 unfold Builtin.Frozenset.newFrom
 refine W0 (wpAny_newSet_of (knd:=strKind prog w) fun led _=>?_)
 refine W0 (W3 ?_)
 have hB':SetL prog w (s.heap.push (so0 led)) b js:=hB.at' fun o e=>W4 _ e
 refine W0 (WH ?_)
 unfold Builtin.Frozenset.updateFrom
 refine W0 (z7S (s:={ s with heap:=s.heap.push (so0 led) }) hB' ?_)
 simp only [if_true]
 refine W0 (W3 ?_)
 unfold Builtin.Frozenset.merge
 obtain ⟨o,es,ep,t,xs,x⟩:=hB'.op
 refine W0 (JI x.g x.d x.f ?_)
 refine zgz (s:={ s with heap:=s.heap.push (so0 led) }) (QZ hlt) (Wj _ rfl) ⟨rfl,rfl,rfl⟩ rfl hB' hn fun h' sb z=>?_
 refine W3 (h h' z fun c o e=>?_)
 rw [sb.2 c (Wt (Wg e))]
 exact W4 _ e
theorem xorL {a b:Addr} {ks js:List Str} {Q:Value→W2→Prop} (hA:SetL prog w s.heap a ks) (hB:SetL prog w s.heap b js) (hn:js.length≤4) (hb:js.length + ks.length + 1 < Jb)
  (h:∀ (h':Heap) (ls:List Str),ls.Perm ks→SetL prog w h' s.heap.objs.size (ls.foldl flp js)→(∀ c o,s.heap.get? c=some o→h'.get? c=some o)→Q (.ref s.heap.objs.size) { s with heap:=h' }) :
  W5 (model prog w) A (Qi .BitXor (.ref a) (.ref b)) Q E s:=by
 have hlt:a < s.heap.objs.size:=by
  obtain ⟨o,es,ep,t,xs,x⟩:=hA.op
  exact Wg x.g
 refine wpAny_binaryOp_same (op:=.BitXor) hA.2.typeIs hB.2.typeIs PySem.F.fills_set_xor PySem.F.slot_set_xor (Q8 PySem.F.slot_set_xor hA.2.typeIs zc5 ?_ (PySem.F.args_set_xor_2 _ _))
 show W5 _ _ (do
  let (self,other) ← Builtin.Frozenset.slot1 "__xor__" ⟨[.ref a,.ref b],[]⟩
  let (l,r):=if false then (other,self) else (self,other)
  if !(← QS l <&&> QS r) then rule s!"frozenset.{"__xor__"}.declined"; return ← ret .notImplemented
  ret (← (do
   let result ← Builtin.Frozenset.newFrom s!"frozenset.{"__xor__"}" (← Builtin.Frozenset.baseOf (← Builtin.Frozenset.addrOf l)) r
   holding [result] (Builtin.Frozenset.symmetricDifferenceUpdate s!"frozenset.{"__xor__"}" (← Builtin.Frozenset.addrOf result) (.ref (← Builtin.Frozenset.addrOf l)))
   return result))) _ _ _
 refine W0 (W3 ?_)
 simp only [WI,if_false]
 refine W0 (W0 (z7S hA ?_))
 simp only [toBool]
 refine z7S hB ?_
 simp only [Bool.not_true,WI,if_false]
 refine W0 ?_
 refine W0 (W3 ?_)
 unfold Builtin.Frozenset.baseOf
 refine W0 (W0 (wpAny_isInstance hA.2.typeIs sub_set_self (W3 ?_)))
 simp only [if_true]
 refine W0 (zd6 hB hn fun h1 z1 k1=>?_)
 refine W0 (W3 ?_)
 refine W0 (W3 ?_)
 refine W0 (WH ?_)
 have hA1:SetL prog w h1 a ks:=hA.at' fun o e=>k1 _ _ e
 refine symUp (s:={ s with heap:=h1 }) (QZ hlt) z1 hA1 hb fun h2 ls pl sb2 z2=>?_
 refine W3 ?_
 refine W3 ⟨_,rfl,(fun q=>by cases q),h h2 ls pl z2 fun c o e=>?_⟩
 rw [sb2.2 c (Wt (Wg e))]
 exact k1 c o e
end
theorem zam:entryFor table "set.__iter__" = some Builtin.«frozenset.__iter__» :=
 entryFor_alias (id':="frozenset.__iter__") (by kernel_rfl) rfl (by decide +kernel) (by kernel_rfl)
theorem slot_next:Slot "set_iterator" "__next__" "set_iterator.__next__" :=
 .of (owner:="set_iterator") (n:="__next__") (by rw [typeLookup_type,Jj]; kernel_rfl) (by decide +kernel) (by decide +kernel) (by decide +kernel)
  (by first | exact .inl (by decide +kernel) | exact .inr (by decide +kernel)) (by rw [isSubtype_type]; kernel_rfl)
theorem zal:entryFor table "set_iterator.__next__" = some Builtin.«set_iterator.__next__»:=entryFor_of_tree (by kernel_rfl)
theorem zcx (a:Value):argsOk "set_iterator.__next__" ⟨[a],[]⟩:=by
 unfold argsOk; rw [signature?_of (id:="set_iterator.__next__") (n:="__txen__".toList) (o:="rotareti_tes".toList) (by kernel_rfl) (show Manifest.owners.lookup (String.ofList "rotareti_tes".toList.reverse)=some Manifest.sig_set_iterator by kernel_rfl)]; kernel_rfl
theorem zeQ:typeLookup (.type "set") "__len__" = pure (some (.builtin "set.__len__")):=by rw [typeLookup_type,Jj]; kernel_rfl
abbrev sit (a:Addr) (ep:Nat):Obj:={ cls:=.type "set_iterator",data:=.fields #[.int 0 0,.int 0 0,.ref a,.int 0 0,.int ep 0] }
section
variable {prog:Wl} {w:Wq} {A:Wr} {E:Value→W2→Prop} {s:W2}
theorem iterE {a:Addr} {o:Obj} {ep:Nat} {t:SetTable} {Q:Value→W2→Prop} (x:SetX prog w s.heap a [] o #[] ep t [])
  (h:Q (.ref s.heap.objs.size) { s with heap:=s.heap.push (sit a ep) }):W5 (model prog w) A (pyIter (.ref a)) Q E s:=by
 refine wpAny_pyIter_slot x.l.2.typeIs PySem.F.slot_set_iter (Q8 PySem.F.slot_set_iter x.l.2.typeIs zam ?_ (PySem.F.args_set_iter_1 _))
 unfold Builtin.«frozenset.__iter__»
 refine W0 (m:=Builtin.Frozenset.slot0 "__iter__" _) (W3 ?_)
 unfold Builtin.Frozenset.sizeOf
 refine W0 (W0 (wpAny_setEntries_of x.g x.d x.f (W3 ?_)))
 unfold setDrawn setsByText
 refine W0 (W0 (Q3 x.g x.d x.f ?_))
 dsimp only
 refine W0 (W0 (QN (W3 ?_)))
 refine W3 ?_
 have e:∀ b:Bool,(b && (!t.plain && decide ((#[]:Array (Int×Value)).size > 1)))=false:=fun b=>by simp
 show W5 _ _ (if (!Params.followText w.params "set-order" && (!t.plain && decide ((#[]:Array (Int×Value)).size > 1)))=true then _ else _) _ _ _
 rw [e]
 simp only [WI,if_false]
 refine W0 (W3 ?_)
 refine W0 (JI x.g x.d x.f ?_)
 refine W0 (WJ (W3 ⟨_,rfl,"set_iterator",_,⟨_,Wj _ rfl,rfl⟩,slot_next.lookup,?_⟩))
 exact h
theorem nextE {a it:Addr} {o:Obj} {ep:Nat} {t:SetTable} {Q:Option Value→W2→Prop} (hh:A.handled=none) (x:SetX prog w s.heap a [] o #[] ep t []) (hi:s.heap.get? it=some (sit a ep))
  (h:∀ h',Heap.ExtBut it s.heap h'→Q none { s with heap:=h' }):W5 (model prog w) A (Jg (.ref it)) Q E s:=by
 have hT:s.TypeIs (.ref it) "set_iterator":=⟨_,hi,rfl⟩
 unfold Jg
 refine W0 (wpAny_attempt (Qw (name:=Str.ofString "__next__") hT slot_next (Q8 slot_next hT zal ?_ (zcx _))))
 unfold Builtin.«set_iterator.__next__»
 refine W0 (m:=slotArgs "__next__" 0 _) (W3 ?_)
 refine W0 (wpAny_fieldsOf hi rfl ?_)
 dsimp only
 refine W0 (wpAny_setEntries_of x.g x.d x.f ?_)
 show W5 _ _ (if (((0:Nat):Int) != 0)=true then _ else _) _ _ _
 rw [if_neg (by decide)]
 have none? : ∀ E':Value→W2→Prop,W5 (model prog w) A.in1 (setNext a (Int.toNat 0) (Int.toNat 0) (Int.toNat (ep:Int))) (fun r s'=>r=none∧s'=s) E' s:=by
  intro E'
  unfold setNext setsByText
  refine W0 (Q3 x.g x.d x.f ?_)
  dsimp only
  refine W0 (W0 (QN (W3 ?_)))
  dsimp only
  split
  ·simp only [JG,bne_self_eq_false,WI,if_false]
   unfold setWalk setsByText
   rename_i hb
   refine W0 (W0 (Q3 x.g x.d x.f ?_))
   dsimp only
   refine W0 (W0 (QN (W3 ?_)))
   dsimp only
   rw [if_pos hb]
   refine W0 (QN ?_)
   exact W3 (W3 ⟨rfl,rfl⟩)
  ·show W5 _ _ (if (!t.plain && decide ((#[]:Array (Int×Value)).size > 1))=true then _ else _) _ _ _
   rw [if_neg (by simp)]
   refine W0 ?_
   show W5 _ _ (if (!t.led && !(#[]:Array (Int×Value)).isEmpty)=true then _ else _) _ _ _
   rw [if_neg (by simp)]
   refine W3 (W3 ⟨?_,rfl⟩)
   simp
 refine W0 (Ql (none? _) (fun r s' ⟨e1,e2⟩=>?_) fun _ _ e=>e)
 subst e1; subst e2
 dsimp only
 refine W0 (wpAny_setField hi rfl (by simp) ?_)
 show W5 _ _ (newExc (.type "StopIteration") [] >>= _) _ _ _
 refine W0 ?_
 simp only [newExc,newTuple]
 refine W0 (WJ ?_ (by size_fits))
 refine W0 (m:=firstArgMember _ _) (wpAny_of_eq (a:=Value.none) (by first | rfl | (simp only [firstArgMember]; rfl)) ?_)
 refine WJ ?_ (by size_fits)
 simp only [raiseNew]
 refine W0 (wpAny_handled ?_)
 rw [show A.in1.handled=none from hh]
 refine W0 (W3 (wpAny_throw ?_))
 refine W0 (wpAny_isInstance (T:="StopIteration") (b:=true) ⟨_,Wj _ rfl,rfl⟩ isSubtype_stop ?_)
 exact W3 (h _ (((Heap.SameBut.update ..).extBut.push _).push _))
theorem hintS {a:Addr} {ks:List Str} {Q:Bool→W2→Prop} (x:SetL prog w s.heap a ks) (h:Q false s):W5 (model prog w) A (Builtin.List.listLengthHint (.ref a)) Q E s:=by
 have hT:=x.2.typeIs
 unfold Builtin.List.listLengthHint
 refine W0 (wpAny_specialOf hT zeQ ?_)
 generalize hid:("set.__len__" : String)=id0
 wp_delta
 rw [show splitId id0=some ("set","__len__") from by subst hid; decide +kernel]
 subst hid
 refine W0 (wpAny_isInstance (T:="set") (b:=true) hT (by rw [isSubtype_type]; kernel_rfl) ?_)
 refine wpAny_ite_split (fun hab=>absurd hab (by decide)) (fun _=>?_)
 refine wpAny_ite_split (fun _=>?_) (fun hab=>absurd (by decide +kernel) hab)
 refine W0 (QG hT ?_)
 exact W3 h
end
section
variable {prog:Wl} {w:Wq} {A:Wr} {E:Value→W2→Prop} {s:W2}
theorem zdv {a:Addr} {Q:List Value→W2→Prop} (hh:A.handled=none) (hA:SetL prog w s.heap a [])
  (h:∀ h',(∀ b o,s.heap.get? b=some o→h'.get? b=some o)→s.heap.objs.size < h'.objs.size→Q [] { s with heap:=h' }):W5 (model prog w) A (collect (.ref a)) Q E s:=by
 obtain ⟨o,es,ep,t,xs,x⟩:=hA.op
 have e1:xs=[]:=by have:=x.p.length_eq; simpa using this
 subst e1
 have e2:es = #[]:=by have:=x.e; simpa using this
 subst e2
 have lt:=Wg x.g
 unfold collect
 refine W0 (wpAny_runValue (QI PySem.F.entry_proto_collect ?_))
 rw [Around.under_plainId PySem.F.plain_proto_collect _]
 show W5 _ A.in1 (newList [] >>= fun l=>again (.builtin "list.__iadd__" ⟨[l,.ref a],[]⟩)) _ _ s
 refine W0 (WJ ?_)
 refine W3 ⟨Jn PySem.F.plain_list_iadd _,QI PySem.F.entry_list_iadd ?_⟩
 rw [Around.under_plainId PySem.F.plain_list_iadd _]
 generalize hL:({ cls:=.type "list",data:=.seq ([]:List Value).toArray }:Obj)=L0
 have g0:(s.heap.push L0).get? s.heap.objs.size=some { cls:=.type "list",data:=.seq #[] }:=by rw [← hL]; exact Wj _ rfl
 have x1:SetX prog w (s.heap.push L0) a [] o #[] ep t []:={ x with g:=W4 _ x.g }
 show W5 _ A.in1 (Builtin.List.listExtendWith (.ref s.heap.objs.size) (.ref a) (.ref s.heap.objs.size)) _ _ _
 unfold Builtin.List.listExtendWith
 refine W0 (QG (T:="set") (s:={ s with heap:=s.heap.push L0 }) x1.l.2.typeIs ?_)
 have n1:Builtin.List.listSameRef (.ref s.heap.objs.size) (.ref a)=false:=by simp only [Builtin.List.listSameRef]; exact beq_eq_false_iff_ne.mpr (QZ lt)
 have n2:(Value.type "set" == Value.type "list")=false:=by decide
 have n3:(Value.type "set" == Value.type "tuple")=false:=by decide
 simp only [n1,n2,n3,Bool.or_false,WI,if_false]
 refine W0 (iterE (s:={ s with heap:=s.heap.push L0 }) x1 ?_)
 have x2:SetX prog w ((s.heap.push L0).push (sit a ep)) a [] o #[] ep t []:={ x1 with g:=W4 _ x1.g }
 have g1:((s.heap.push L0).push (sit a ep)).get? s.heap.objs.size=some { cls:=.type "list",data:=.seq #[] }:=W4 _ g0
 have g2:((s.heap.push L0).push (sit a ep)).get? (s.heap.push L0).objs.size=some (sit a ep):=Wj _ rfl
 have zs:(s.heap.push L0).objs.size=s.heap.objs.size + 1:=Qu _ _
 have nI:(s.heap.push L0).objs.size≠s.heap.objs.size:=by rw [zs]; exact Nat.succ_ne_self _
 refine W0 (WH (hintS (s:={ s with heap:=(s.heap.push L0).push (sit a ep) }) x2.l ?_))
 have key:∀ (h2:Heap) (c:Nat),(∀ b ob,b≠s.heap.objs.size→((s.heap.push L0).push (sit a ep)).get? b=some ob→h2.get? b=some ob)→h2.get? s.heap.objs.size=some { cls:=.type "list",data:=.seq #[] c } →
   ∀ R:Result→W2→Prop,(∀ h3,(∀ b ob,s.heap.get? b=some ob→h3.get? b=some ob)→h3.get? s.heap.objs.size=some { cls:=.type "list",data:=.seq #[] c }→R (.ok (.ret (.ref s.heap.objs.size))) { s with heap:=h3 }) →
   QM (model prog w) A (.builtin "list.extend.loop" ⟨[.ref s.heap.objs.size,.ref (s.heap.push L0).objs.size,.ref s.heap.objs.size],[]⟩) R { s with heap:=h2 }:=by
  intro h2 c k2 g3 R fin
  refine QI PySem.F.entry_extend_loop ?_
  rw [Around.under_plainId PySem.F.plain_extend_loop _]
  show W5 _ A.in1 (Jg (.ref (s.heap.push L0).objs.size) >>= _) _ _ _
  have x3:SetX prog w h2 a [] o #[] ep t []:={ x2 with g:=k2 a _ (Wt lt) x2.g }
  refine W0 (nextE (A:=A.in1) (s:={ s with heap:=h2 }) hh x3 (k2 _ _ nI g2) fun h3 eb=>?_)
  refine W3 (fin h3 (fun b ob e=>?_) ?_)
  ·have lb:=Wg e
   refine eb b ob (Wt (Ww lb (by rw [zs]; exact QE _))) (k2 b ob (Wt lb) ?_)
   exact W4 _ (W4 _ e)
  ·exact eb _ _ (Ne.symm nI) g3
 refine wpAny_ite_split (fun _=>?_) (fun hn=>absurd (by decide) hn)
 refine W0 (QV ?_)
 refine W0 ?_
 show W5 _ _ (updateSeq s.heap.objs.size (·.push .none) >>= fun _=>updateSeq s.heap.objs.size (·.pop)) _ _ _
 refine W0 (wpAny_updateSeq g1 rfl ?_)
 have g4:=QP (Obj.mapSeq (·.push Value.none)) g1 rfl
 refine wpAny_updateSeq (hz:=by seq_fits) g4 rfl ?_
 have g5:=QP (Obj.mapSeq (·.pop)) g4 rfl
 refine W3 ⟨Jn PySem.F.plain_extend_loop _,key _ _ (fun b ob hb e=>?_) g5 _ fun h3 k3 g6=>?_⟩
 ·exact (QA _ _ (Ne.symm hb)).trans ((QA _ _ (Ne.symm hb)).trans e)
 ·show W5 _ A (load s.heap.objs.size >>= _) _ _ _
  refine W0 (wpAny_load g6 ?_)
  exact W3 (h h3 k3 (Wg g6))
end
end ST
set_option maxHeartbeats 400000
namespace L2
open PySem PySem.Spec PyProof.Rows PySem.W DV ST
def setO (X:Cx) (a:Addr) (ks:List Str):HO:=.ext fun h=>SetL X.prog X.w h a ks
theorem zaN {X:Cx} {H:Hp} {h:Heap} {a:Addr} {ks:List Str} (x:SetL X.prog X.w h a ks):ObjOk X.prog X.w H h a (setO X a ks):=by
 refine ⟨x,?_,fun h1 h2 y k=>y.at' k⟩
 obtain ⟨o,es,ep,t,xs,z⟩:=x.op
 exact ⟨o,z.g⟩
theorem z7f {X:Cx} {H:Hp} {h:Heap} {a:Addr} {ks:List Str} (ok:HOk X.prog X.w H h) (e:H a=some (setO X a ks)):SetL X.prog X.w h a ks :=
 (show ObjOk X.prog X.w H h a (setO X a ks) from ok a _ e).1
section
variable {X:Cx}
theorem z8N (hc:X.calm=true):CallR X (.type "set") (fun xs H Q=>∃ (a:Addr) (ts:List Str),xs=[.ref a]∧SqL X.K H a (ts.map V.str)∧ts.length < 1000∧∀ p,H p=none→Q (.ref p) (upd H p (setO X p (ts.foldl dd [])))):=by
 intro pins s σ H xs us Q I r h
 obtain ⟨a,ts,rfl,hq,hz,q⟩:=h
 obtain ⟨u,rfl,ru⟩:=z4b r
 cases ru
 obtain ⟨its,r',p,_⟩:=I.list hq
 have hl:=r'.length
 rw [Wo] at hl
 refine callL (fun i=>ts.getD i default) (I.ok.hd hc) p.isList (fun i v e=>?_) (by rw [Wb]; unfold Jb; omega) fun h' tk z k=>?_
 ·have hi:i < its.length:=(Wc.mp (by simpa using e)).1
  have hv:(ts.map V.str)[i]? = some (V.str (ts[i]'(by omega))):=by simp [show i < ts.length by omega]
  have rv:=Vals.at2 r' hv (by simpa using e)
  obtain ⟨t,et⟩:=(show ∃ t,v=Value.str (ts[i]'(by omega)) t from rv)
  exact ⟨t,by rw [et]; simp [show i < ts.length by omega]⟩
 ·have e:fm (fun i=>ts.getD i default) its.toArray.size=ts.foldl dd []:=by
   unfold fm
   congr 1
   rw [Wb,← hl]
   refine QB (by simp) fun i h1 h2=>?_
   simp at h1 h2
   simp [h2]
  rw [e] at z
  exact ⟨.ref _,_,I.laid (t':=tk) k (W8 _) (zaN z),rfl,q _ (I.hok.fresh (W8 _))⟩
theorem zeE:OpR X (Qi .BitXor) (fun x y H Q=>∃ (a b:Addr) (ks js:List Str),x = .ref a∧y = .ref b∧H a=some (setO X a ks)∧H b=some (setO X b js)∧js.length≤4∧ks.length≤1000 ∧
  ∀ (p:Addr) (ls:List Str),H p=none→ls.Perm ks→Q (.ref p) (upd H p (setO X p (ls.foldl flp js)))):=by
 intro pins s σ H x y v u Q I rx ry h
 obtain ⟨a,b,ks,js,rfl,rfl,ha,hb,h4,hk,q⟩:=h
 cases rx
 cases ry
 refine xorL (z7f I.hok ha) (z7f I.hok hb) h4 (by unfold Jb; omega) fun h' ls pl z k=>?_
 exact ⟨.ref _,_,I.laid (t':=s.toks) k (W8 _) (zaN z),rfl,q _ ls (I.hok.fresh (W8 _)) pl⟩
theorem zef {A:Wr} {E:Value→W2→Prop} {prog:Wl} {w:Wq} {s:W2} {a:Addr} {Q:Value→W2→Prop} (hh:A.handled=none) (hA:SetL prog w s.heap a [])
  (h:∀ (h':Heap) (p:Addr) (e:Nat),(∀ b o,s.heap.get? b=some o→h'.get? b=some o)→s.heap.objs.size≤p→h'.get? p=some (WE "list" #[] e)→Q (.ref p) { s with heap:=h' }):W5 (model prog w) A (call (.builtin "sorted") [.ref a]) Q E s:=by
 refine Calls.call_function_entry kind_sorted plain_sorted entry_sorted (args_sorted1 _) ?_
 unfold Builtin.«sorted»
 refine W0 (m:=checkCount "sorted" 1 1 _) (W3 (W0 (zdv (A:=A.in1) hh hA fun h1 k1 hz=>W0 (wpAny_newList ?_ (by rw [WZ]; decide)))))
 have ho:(h1.push (WE "list" ([]:List Value).toArray 0)).get? h1.objs.size=some (WE "list" ([]:List Value).toArray 0):=Wj _ rfl
 refine W0 (WH (Q8 slot_list_sort ⟨_,ho,rfl⟩ entry_list_sort (z9q (s:={ s with heap:=h1.push (WE "list" ([]:List Value).toArray 0) }) (vs:=[]) ho (by decide) ⟨_,rfl,?_⟩) (args_list_sort _)))
 obtain ⟨e,he⟩:∃ e,(sortedHeap (h1.push (WE "list" ([]:List Value).toArray 0)) h1.objs.size [] #[]).get? h1.objs.size=some (WE "list" #[] e):=sortedHeap_at ho
 refine W3 ⟨_,rfl,h _ h1.objs.size e (fun b o q=>?_) (Jf hz) he⟩
 have q1:=k1 b o q
 have lb:=Wg q1
 rw [show (([]:List Value).toArray) = #[] from rfl]
 rw [sortedHeap_old (Wt lb) (by rw [Qu]; exact QJ lb)]
 exact W4 _ q1
theorem zat (hc:X.calm=true):CallR X (.builtin "sorted") (fun xs H Q=>∃ a:Addr,xs=[.ref a]∧H a=some (setO X a [])∧∀ p,H p=none→Q (.ref p) (upd H p (.lst []))):=by
 intro pins s σ H xs us Q I r h
 obtain ⟨a,rfl,ha,q⟩:=h
 obtain ⟨u,rfl,ru⟩:=z4b r
 cases ru
 refine zef (I.ok.hd hc) (z7f I.hok ha) fun h' p e k hp g=>?_
 exact ⟨.ref _,_,I.laid (t':=s.toks) k hp (show ObjOk X.prog X.w _ _ _ (.lst []) from ⟨Q2 _,[],e,.nil,g⟩),rfl,q _ (I.hok.fresh hp)⟩
end
end L2
namespace DV
open PySem PySem.Spec PyProof.Rows L2 ST
theorem zcc:∀ (ks σ:List Str),(σ ++ ks).Nodup→ks.foldl dd σ=σ ++ ks
 | [],σ,_=>by simp
 | k :: ks,σ,nd=>by
  rw [Qn]
  have hk:k ∉ σ:=fun h=>(List.nodup_append.mp nd).2.2 k h k Wm rfl
  have e:dd σ k=σ ++ [k]:=by unfold dd; rw [if_neg hk]
  rw [e,zcc ks (σ ++ [k]) (by simpa using nd)]
  simp
theorem zbZ:∀ (ls js:List Str),ls.Perm js→ls.Nodup→ls.foldl flp js=[]
 | [],js,p,_=>by rw [p.symm.eq_nil]; rfl
 | k :: ls,js,p,nd=>by
  have nd':=WO.mp nd
  have hk:k ∈ js:=p.mem_iff.mp Wm
  rw [Qn]
  have e:flp js k=js.erase k:=by unfold flp; rw [if_pos hk]
  rw [e]
  refine zbZ ls _ ?_ nd'.2
  have:=p.erase k
  rwa [List.erase_cons_head] at this
theorem z7W:∀ {xs:List Tx},xs.Nodup→(xs.map toS).Nodup
 | [],_=>.nil
 | x :: xs,h=>by
  have h':=WO.mp h
  rw [Ws]
  refine WO.mpr ⟨fun z=>?_,z7W h'.2⟩
  obtain ⟨y,hy,e⟩:=Wp.mp z
  exact h'.1 (z5O e ▸ hy)
def tL:D→Option (List Tx)
 | .lst ds=>z30 ds
 | _=>none
theorem zdG {d:D} {xs:List Tx} (h:tL d=some xs):∃ ds,d = .lst ds∧z30 ds=some xs:=by
 cases d <;> first | exact ⟨_,rfl,h⟩ | cases h
def zc7 (f g:DE):DE:=fun δ=>(f δ).bind fun x δ1=>match tL x.d with
 | none=>.stuck
 | some xs=>if xs.length≤4∧ndT xs=true then (g δ1).bind fun y δ2=>if tL y.d=some xs then .ok (.own (.lst [])) δ2 else .stuck else .stuck
section
variable {X:Cx} {c:Fc} {a b:Expr} {f g:DE} {pp pos p1 p2' p3 p4 p5:Pos}
theorem zei (hc:X.calm=true) (hg:Gl X "sorted") (hm:X.mg "sorted" = none) (hg':Gl X "set") (hm':X.mg "set" = none) (ha:SE X c a f) (hb:SE X c b g)
  (h1:We [a] X.env=(false,eval a X.env) :: We [] X.env:=by rfl) (h2:We [b] X.env=(false,eval b X.env) :: We [] X.env:=by rfl)
  (h3:We [.BinOp (.Call (.Name "set" p1) [a] [] p2') .BitXor (.Call (.Name "set" p3) [b] [] p4) p5] X.env=(false,eval (.BinOp (.Call (.Name "set" p1) [a] [] p2') .BitXor (.Call (.Name "set" p3) [b] [] p4) p5) X.env) :: We [] X.env:=by rfl) :
  SE X c (.Call (.Name "sorted" pp) [.BinOp (.Call (.Name "set" p1) [a] [] p2') .BitXor (.Call (.Name "set" p3) [b] [] p4) p5] [] pos) (zc7 f g) :=
 PE.weak (z5I (zat hc) hg hm PyProof.Rows.boot_sorted (z1x (zex zeE (z60 (z8N hc) hg' hm' PyProof.Rows.boot_set (z1x ha z32 h1) (by decide) (by decide) h1) (z60 (z8N hc) hg' hm' PyProof.Rows.boot_set (z1x hb z32 h2) (by decide) (by decide) h2)) z32 h3) (by decide) (by decide) h3) fun σ H Q ⟨δ,k,q⟩=>by
  unfold zc7 at q
  rw [z06] at q
  refine ⟨δ,k,z03 q fun x δ1 q1 v H1 a1 r1=>?_⟩
  cases ex:tL x.d with
  | none=>rw [ex] at q1; exact q1.elim
  | some xs =>
   rw [ex] at q1
   simp only at q1
   split at q1
   ·rename_i hx
    rw [z06] at q1
    obtain ⟨ds,ed,et⟩:=zdG ex
    have hr:=r1.rep
    rw [ed] at hr
    obtain ⟨l1,vs,ea,hl1,rl1⟩:=(show RepB c σ δ1 H1 v (.lst ds) from .inl hr).lst
    have ev:=z1Y et rl1
    have nd:=z7W (zbw hx.2)
    have n4:(xs.map toS).length≤4:=by rw [Wo]; exact hx.1
    have es:(xs.map toS).foldl dd []=xs.map toS:=zcc _ _ (by simpa using nd)
    refine ⟨l1,xs.map toS,by rw [ea],.inl (by rw [ev] at hl1; rw [WB]; exact hl1),by omega,fun p hp=>?_⟩
    rw [es]
    have b1:=Aft.alloc a1.ok hp (setO X p (xs.map toS))
    have np:¬ Own σ δ1 p:=fun z=>by
     obtain ⟨o,e⟩:=a1.ok.othere z
     rw [hp] at e; cases e
    refine ⟨δ1,b1.ok,z03 q1 fun y δ2 q2 u H2 a2 r2=>?_⟩
    split at q2
    ·rename_i ey
     obtain ⟨ds2,ed2,et2⟩:=zdG ey
     have hr2:=r2.rep
     rw [ed2] at hr2
     obtain ⟨l2,vs2,ea2,hl2,rl2⟩:=(show RepB c σ δ2 H2 u (.lst ds2) from .inl hr2).lst
     have ev2:=z1Y et2 rl2
     refine ⟨l2,xs.map toS,by rw [ea2],.inl (by rw [ev2] at hl2; rw [WB]; exact hl2),by omega,fun p2 hp2=>?_⟩
     rw [es]
     have b2:=Aft.alloc a2.ok hp2 (setO X p2 (xs.map toS))
     have g1:H2 p=some (setO X p (xs.map toS)):=a2.keep p _ z0M np
     refine ⟨p,p2,xs.map toS,xs.map toS,rfl,rfl,by rw [z0t (z0P g1 hp2)]; exact g1,z0M,n4,by omega,fun p3 ls hp3 pl=>?_⟩
     rw [zbZ ls _ pl (pl.nodup_iff.mpr nd)]
     have b3:=Aft.alloc b2.ok hp3 (setO X p3 [])
     refine ⟨p3,rfl,z0M,fun p4 hp4=>?_⟩
     exact q2 _ _ ((((a1.trans b1).trans a2).trans b2).trans (b3.trans (.alloc b3.ok hp4 _))) (RepS.back (RepS.newL b3.ok .nil hp4) ((((a1.trans b1).trans a2).trans b2).trans b3))
    ·exact q2.elim
   ·exact q1.elim
end
open PySem (sizeLine)
section
variable {α β:Type}
@[simp] theorem z1l (a:α) (δ:Dl) (f:α→Dl→Rs β):(Rs.ok a δ).bind f=f a δ:=id rfl
@[simp] theorem zdm (f:α→Dl→Rs β):(Rs.stuck:Rs α).bind f = .stuck:=id rfl
@[simp] theorem ev_d1 (d:D):(S.pure d).d=d:=id rfl
@[simp] theorem ev_d2 (d:D):(S.own d).d=d:=id rfl
end
section
variable (δ:Dl) (i:Nat) (d e:D) (f g:DE) (fb:BE) (t u:DT) (p:D→D→Option S)
@[simp] theorem ev_eD:eD d δ = .ok (.pure d) δ:=id rfl
@[simp] theorem zgV:bOf f δ=(f δ).bind fun r δ'=>.ok r.d δ':=id rfl
@[simp] theorem zgU:eOp p f fb δ=(f δ).bind fun x δ1=>(fb δ1).bind fun y δ2=>p2 p x.d y δ2:=id rfl
@[simp] theorem ev_dAnd:dAnd t u δ=(t δ).bind fun b δ1=>if b then u δ1 else .ok false δ1:=id rfl
@[simp] theorem ev_dOr:dOr t u δ=(t δ).bind fun b δ1=>if b then .ok true δ1 else u δ1:=id rfl
@[simp] theorem ev_dNot:dNot t δ=(t δ).bind fun b δ1=>.ok (!b) δ1:=id rfl
@[simp] theorem ev_eIf:eIf t f g δ=(t δ).bind fun b δ1=>if b then f δ1 else g δ1:=id rfl
@[simp] theorem ev_dNext:z0I δ = .ok .next δ:=id rfl
@[simp] theorem ev_dYes:dYes δ = .ok true δ:=id rfl
@[simp] theorem ev_dDrop:z6q f δ=(f δ).bind fun _ δ1=>.ok .next δ1:=id rfl
@[simp] theorem ev_dRet:dRet f δ=(f δ).bind fun r δ1=>.ok (.ret r) δ1:=id rfl
@[simp] theorem ev_dIf (a b:DS):dIf t a b δ=(t δ).bind fun x δ1=>if x then a δ1 else b δ1:=id rfl
@[simp] theorem zf6 (it:DI) (gg:DG) (b:DS):dFor it gg b δ=(it δ).bind fun ds δ1=>forL gg b ds δ1:=id rfl
@[simp] theorem ev_eTup (a:DA):eTup a δ=(a δ).bind fun ds δ'=>.ok (.pure (.tup ds)) δ':=id rfl
@[simp] theorem ev_eLst (a:DA):eLst a δ=(a δ).bind fun ds δ'=>.ok (.own (.lst ds)) δ':=id rfl
@[simp] theorem ev_eLstC (ds:List D):zf8 ds δ = .ok (.own (.lst ds)) δ:=id rfl
@[simp] theorem ev_aNil:aNil δ = .ok [] δ:=id rfl
@[simp] theorem ev_aCons (a:DA):z0u f a δ=(f δ).bind fun x δ1=>(a δ1).bind fun xs δ2=>.ok (x.d :: xs) δ2:=id rfl
@[simp] theorem ev_eC1 (q:D→Option S):eC1 q fb δ=(fb δ).bind fun x δ1=>p1 q x δ1:=id rfl
@[simp] theorem ev_eMax:eMax f g δ=(f δ).bind fun x δ1=>(g δ1).bind fun y δ2=>p2 pMax x.d y.d δ2:=id rfl
@[simp] theorem ev_eSl (fl fh:DOp):eSl f fl fh δ=(f δ).bind fun x δ1=>(fl δ1).bind fun l δ2=>(fh δ2).bind fun h δ3=>p1 (pSl l h) x.d δ3:=id rfl
@[simp] theorem ev_oNone:z6H δ = .ok none δ:=id rfl
@[simp] theorem ev_eComp (cs:List Nat) (it:DI) (gg:DG) (el:DE):z1G cs it gg t el δ=(it δ).bind fun ds δ1=>if cs.any (z14 δ1) then .stuck else
 (z28 cs gg t el ds (clrD cs δ1) []).bind fun acc δ2=>.ok (.own (.lst acc)) (z1H cs δ1 δ2):=id rfl
@[simp] theorem ev_gNm (np:List Nat) (r:S):gNm np i r δ=if np.contains i then none else some (δ.set i (some r)):=id rfl
@[simp] theorem zf4 (gg:DG) (b:DS):forL gg b [] δ = .ok .next δ:=id rfl
end
section
variable (δ:Dl) (i:Nat) (d e:D) (f g:DE) (fb:BE) (p:D→D→Option S) (s:S)
@[simp] theorem ev_p2 (x y:D):p2 p x y δ=match p x y with | some s=>.ok s δ | none=>.stuck:=id rfl
@[simp] theorem ev_p1 (q:D→Option S) (x:D):p1 q x δ=match q x with | some s=>.ok s δ | none=>.stuck:=id rfl
@[simp] theorem zf5 (a b:DS):dSeq a b δ=(a δ).bind fun fl δ1=>match fl with | .next=>b δ1 | .ret r=>.ok (.ret r) δ1 | .brk=>.ok .brk δ1 | .cont=>.ok .cont δ1:=id rfl
@[simp] theorem zfh {α β:Type} (c:Prop) [Decidable c] (x y:Rs α) (k:α→Dl→Rs β):(if c then x else y).bind k=if c then x.bind k else y.bind k:=by split <;> rfl
end
theorem z13:W6=16777216:=rfl
theorem z1D (xs:List α) (i:Nat):atI xs (i:Int)=xs[i]?:=by
 unfold atI ixN
 by_cases h:i < xs.length
 ·rw [if_pos (by omega),if_pos (by omega)]
  simp
 ·rw [if_pos (by omega),if_neg (by omega)]
  simp [Qb (Nat.le_of_not_lt h)]
theorem z9h (xs:List α):atI xs 2=xs[2]?:=z1D xs 2
theorem z2k (xs:List α):atI xs 0=xs[0]?:=z1D xs 0
theorem z7R (xs:List α):atI xs 1=xs[1]?:=z1D xs 1
theorem z3P (I:Dl→Prop) (R:D→D→Prop) :
  ∀ (ds:List D) (δ:Dl) (acc:List D),I δ→acc.length + ds.length≤W6 →
   (∀ d ∈ ds,∀ δ,I δ→∃ δ1 δ2 x δ3,g (.pure d) δ=some δ1∧t δ1 = .ok true δ2∧el δ2 = .ok x δ3∧I (clrD cs δ3)∧R d x.d) →
   ∃ xs δ',z28 cs g t el ds δ acc = .ok (acc ++ xs) δ'∧I δ'∧xs.length=ds.length∧∀ (i:Nat) d x,ds[i]? = some d→xs[i]? = some x→R d x
 | [],δ,acc,h,_,_=>⟨[],δ,by simp [z28],h,rfl,fun i d x e=>by simp at e⟩
 | d :: r,δ,acc,h,hl,hs=>by
  obtain ⟨δ1,δ2,x,δ3,e1,e2,e3,h3,hr⟩:=hs d Wm δ h
  have hl':acc.length < W6:=by simp at hl; omega
  obtain ⟨xs,δ',e4,h4,hn,hf⟩:=z3P (g:=g) (t:=t) (el:=el) I R r (clrD cs δ3) (acc ++ [x.d]) h3 (by simp at hl ⊢; omega) (fun d hd=>hs d (Wi _ hd))
  refine ⟨x.d :: xs,δ',?_,h4,by simp [hn],fun i d' x' f1 f2=>?_⟩
  ·unfold z28
   rw [e1]
   simp only [e2,z1l,if_true,e3,if_pos hl',e4]
   simp
  ·cases i with
   | zero=>simp at f1 f2; subst f1 f2; exact hr
   | succ i=>exact hf i d' x' (by simpa using f1) (by simpa using f2)
theorem z4Y (F:D→D) (δ:Dl) :
  ∀ (ds:List D) (acc:List D),acc.length + ds.length≤W6 →
   (∀ d ∈ ds,∃ δ1 δ2 x δ3,g (.pure d) δ=some δ1∧t δ1 = .ok true δ2∧el δ2 = .ok x δ3∧clrD cs δ3=δ∧x.d=F d) →
   z28 cs g t el ds δ acc = .ok (acc ++ ds.map F) δ:=by
 intro ds acc hl hs
 obtain ⟨xs,δ',e,h,hn,hf⟩:=z3P (cs:=cs) (g:=g) (t:=t) (el:=el) (fun δ'=>δ'=δ) (fun d x=>x=F d) ds δ acc rfl hl (fun d hd δ' h=>by
  subst h
  obtain ⟨δ1,δ2,x,δ3,a,b,c,d,e⟩:=hs d hd
  exact ⟨δ1,δ2,x,δ3,a,b,c,d,e⟩)
 subst h
 rw [e]
 congr 2
 apply List.ext_getElem?
 intro i
 by_cases hi:i < ds.length
 ·have:=hf i ds[i] (xs[i]'(by omega)) (by simp [hi]) (by simp [hn,hi])
  simp [hn,hi,this]
 ·rw [Qb (by omega),Qb (by simp; omega)]
theorem z2H (I:Nat→Dl→Prop) :
  ∀ (ds:List D) (n:Nat) (δ:Dl),I n δ →
   (∀ (i:Nat) d δ,ds[i]? = some d→I (n + i) δ→∃ δ1 δ2,g (.pure d) δ=some δ1∧b δ1 = .ok .next δ2∧I (n + i + 1) δ2) →
   ∃ δ',forL g b ds δ = .ok .next δ'∧I (n + ds.length) δ'
 | [],n,δ,h,_=>⟨δ,rfl,h⟩
 | d :: r,n,δ,h,hs=>by
  obtain ⟨δ1,δ2,e1,e2,h2⟩:=hs 0 d δ rfl h
  obtain ⟨δ',e3,h3⟩:=z2H (g:=g) (b:=b) I r (n + 1) δ2 h2 (fun i d' δ' e hi=>by
   have:=hs (i + 1) d' δ' (by simpa using e) (by rw [show n + (i + 1)=n + 1 + i by omega]; exact hi)
   rw [show n + (i + 1) + 1=n + 1 + i + 1 by omega] at this
   exact this)
  refine ⟨δ',?_,by rw [WC,show n + (r.length + 1)=n + 1 + r.length by omega]; exact h3⟩
  unfold forL
  rw [e1]
  simp only [e2,z1l,e3]
theorem z4W (xs:List Tx):z30 (xs.map .str)=some xs:=by
 induction xs with
 | nil=>rfl
 | cons x r ih=>simp [z30,ih]
theorem z2I:∀ ts:List Tx,z6f [] ts=ts.flatten
 | []=>rfl
 | [x]=>by simp [z6f]
 | x :: y :: r=>by rw [z6f,z2I (y :: r)]; simp
theorem zak (xs:List Nat):z2D (xs.map fun n=>[n])=xs.length:=by
 unfold z2D
 induction xs with
 | nil=>rfl
 | cons x r ih=>simp at ih ⊢; omega
theorem zdk (xs:List Nat):(xs.map fun n=>[n]).flatten=xs:=by
 induction xs with
 | nil=>rfl
 | cons x r ih=>simp [ih]
theorem z7K (xs:List Nat) (h:xs.length≤16777216):z1Z [] (.lst (xs.map fun n=>.str [n]))=some (.pure (.str xs)):=by
 have e:(xs.map fun n=>D.str [n])=(xs.map fun n=>[n]).map D.str:=by simp
 unfold z1Z
 simp only [e,z4W,zak,z2I,zdk]
 rw [if_pos (by simpa using h)]
theorem zdl (bs:List Bool):z6L (bs.map .bl)=some bs:=by
 induction bs with
 | nil=>rfl
 | cons x r ih=>simp [z6L,ih]
theorem z6m (r:Tx) (c:Nat) (h:c < r.length) (hl:r.length≤64):pIx (.str r) (.int c)=some (.pure (.str [r.getD c 0])):=by
 unfold pIx
 have:W6=16777216:=rfl
 simp only
 rw [if_pos (by omega),z1D]
 simp [h]
theorem z74 (r:Tx) (hl:r.length≤64):pLen (.str r)=some (.pure (.int r.length)):=by
 unfold pLen
 have:W6=16777216:=rfl
 simp only
 rw [if_pos (by omega)]
abbrev flD (fl:List Tx):D:=.tup (fl.map .str)
structure Rect (w:Nat) (fl:List Tx):Prop where
 h0:0 < fl.length
 h1:fl.length≤64
 w0:0 < w
 w1:w≤64
 all:∀ r ∈ fl,r.length=w
def turn (w:Nat) (fl:List Tx):List Tx:=(Wf w).map fun c=>fl.map fun r=>r.getD c 0
def back (fl:List Tx):List Tx:=fl.map List.reverse
theorem z9d (n:Nat) (fl:List Tx):flat (n + 1) (flD fl)=true:=by
 unfold flat
 induction fl with
 | nil=>rfl
 | cons x r ih=>simp [z46,flat] at ih ⊢; exact ih
theorem eq_fl (fl:List Tx):eqD (flD fl) (flD fl)=true:=z3j (z9d 0 fl)
theorem zc3 (fl:List Tx):pLen (flD fl)=some (.pure (.int fl.length)):=by simp [pLen]
theorem zf2 (h:Rect w fl):∃ r,fl[0]? = some r∧r.length=w:=by
 cases fl with
 | nil=>have:=h.h0; simp at this
 | cons r q=>exact ⟨r,rfl,h.all r Wm⟩
def rng (r:S) (δ1:Dl):Rs (List D):=match r with
 | .pure (.int j)=>if z5n j then .ok (z0H 0 j.toNat) δ1 else .stuck
 | _=>.stuck
@[simp] theorem zc2 (f:DE) (δ:Dl):z1d f δ=(f δ).bind fun r δ1=>rng r δ1:=id rfl
theorem zaK (w:Nat) (hw:w≤1000000):z5n (w:Int)=true:=by
 have h1 : -(4611686018427387904:Int)≤(w:Int):=by omega
 have h2:(w:Int) < 4611686018427387904:=by omega
 unfold z5n
 rw [Wa]
 exact ⟨decide_eq_true h1,decide_eq_true h2⟩
theorem zfI (j:Int) (hs:z5n j=true) (δ:Dl):rng (.pure (.int j)) δ = .ok (z0H 0 j.toNat) δ:=by unfold rng; simp only [hs,if_true]
theorem z6R (w:Nat) (hw:w≤1000000) (δ:Dl):rng (.pure (.int w)) δ = .ok (z0H 0 w) δ:=by
 have:=zfI (w:Int) (zaK w hw) δ
 rwa [JG] at this
theorem z27 (h:(z0H 0 n)[i]? = some d):i < n∧d = .int (i:Int):=by
 unfold z0H at h
 rw [Q0] at h
 by_cases hi:i < n
 ·rw [List.getElem?_range hi] at h
  simp at h
  exact ⟨hi,h.symm⟩
 ·rw [Qb (by simpa using hi)] at h
  cases h
theorem z3K (h:d ∈ z0H 0 n):∃ i:Nat,i < n∧d = .int (i:Int):=by
 obtain ⟨i,hi⟩:=List.getElem?_of_mem h
 exact ⟨i,z27 hi⟩
@[simp] theorem z8H (lo:Int) (n:Nat):(z0H lo n).length=n:=by simp [z0H]
def insN (x:Nat):List Nat→List Nat
 | []=>[x]
 | y :: r=>if y < x then y :: insN x r else x :: y :: r
def z56:List Nat→List Nat
 | []=>[]
 | x :: r=>insN x (z56 r)
theorem lt1 (a b:Nat):(([a]:Tx) < [b]) ↔ a < b:=by
 constructor
 ·intro h
  cases h with
  | cons h=>cases h
  | rel h=>exact h
 ·intro h; exact List.Lex.rel h
theorem zgN (x:Nat):∀ xs:List Nat,insT [x] (xs.map fun n=>[n])=(insN x xs).map fun n=>[n]
 | []=>rfl
 | y :: r=>by
  simp only [Ws,insT,insN]
  by_cases h:y < x
  ·rw [if_pos ((lt1 y x).mpr h),if_pos h,zgN x r]; rfl
  ·rw [if_neg fun z=>h ((lt1 y x).mp z),if_neg h]; rfl
theorem zdH:∀ xs:List Nat,z55 (xs.map fun n=>[n])=(z56 xs).map fun n=>[n]
 | []=>rfl
 | x :: r=>by rw [Ws,z55,zdH r,zgN]; rfl
theorem insN_mem:∀ {xs:List Nat},y ∈ insN x xs ↔ y=x∨y ∈ xs
 | []=>by simp [insN]
 | z :: r=>by
  unfold insN
  split
  ·simp [insN_mem (xs:=r)]; constructor <;> (rintro (h | h | h) <;> simp [h])
  ·simp
theorem sortN_mem:∀ {xs:List Nat},y ∈ z56 xs ↔ y ∈ xs
 | []=>by simp [z56]
 | x :: r=>by rw [z56,insN_mem,sortN_mem (xs:=r)]; simp
theorem z9J (x:Nat):∀ xs:List Nat,(insN x xs).length=xs.length + 1
 | []=>rfl
 | y :: r=>by unfold insN; split <;> simp [z9J x r]
theorem z7Y:∀ xs:List Nat,(z56 xs).length=xs.length
 | []=>rfl
 | x :: r=>by rw [z56,z9J,z7Y r]; rfl
theorem zbO:∀ {xs:List Nat},xs.Pairwise (· < ·)→x ∉ xs→(insN x xs).Pairwise (· < ·)
 | [],_,_=>by simp [insN]
 | y :: r,h,hx=>by
  rw [Qg] at h
  simp at hx
  unfold insN
  split
  ·rename_i hl
   rw [Qg]
   refine ⟨fun z hz=>?_,zbO h.2 hx.2⟩
   rcases insN_mem.mp hz with rfl | hz
   ·exact hl
   ·exact h.1 z hz
  ·rename_i hl
   rw [Qg]
   refine ⟨fun z hz=>?_,Qg.mpr h⟩
   rcases Wn.mp hz with rfl | hz
   ·omega
   ·have:=h.1 z hz; omega
theorem z9r:∀ {xs:List Nat},xs.Nodup→(z56 xs).Pairwise (· < ·)
 | [],_=>by simp [z56]
 | x :: r,h=>by
  rw [List.nodup_cons] at h
  exact zbO (z9r h.2) fun z=>h.1 (sortN_mem.mp z)
theorem z8Y {P:Nat→Prop}:∀ {xs:List D},(∀ x ∈ xs,∃ n,P n∧x = .str [n])→∃ row:List Nat,xs=row.map (fun n=>.str [n])∧∀ n ∈ row,P n
 | [],_=>⟨[],rfl,by simp⟩
 | x :: r,h=>by
  obtain ⟨n,hn,rfl⟩:=h x Wm
  obtain ⟨row,rfl,hr⟩:=z8Y (xs:=r) fun y hy=>h y (Wi _ hy)
  exact ⟨n :: row,rfl,by simpa using ⟨hn,hr⟩⟩
theorem zb2 {R:D→D→Prop} {ds xs:List D} {Q:D→Prop} (hn:xs.length=ds.length) (hf:∀ (i:Nat) d x,ds[i]? = some d→xs[i]? = some x→R d x) (hq:∀ d x,d ∈ ds→R d x→Q x):∀ x ∈ xs,Q x:=fun x hx=>by
 obtain ⟨i,hi⟩:=List.getElem?_of_mem hx
 have h1:=(Wc.mp hi).1
 have h2:ds[i]? = some (ds[i]'(by omega)):=by simp [show i < ds.length by omega]
 exact hq _ x (WP _) (hf i _ x h2 hi)
theorem z7j (w:Nat) (hw:w≤100000) (δ:Dl):rng (.pure (.int (1 + (w:Int)))) δ = .ok (z0H 0 (1 + w)) δ:=by
 have:=z6R (1 + w) (by omega) δ
 rwa [show (((1 + w:Nat):Int))=1 + (w:Int) by omega] at this
abbrev blD (b:Nat×List Tx):D:=.tup [.str [b.1],flD b.2]
abbrev ruD (h w:Nat) (bs:List (Nat×List Tx)):D:=.tup [.int h,.int w,.tup (bs.map blD)]
structure Rul (h w:Nat) (bs:List (Nat×List Tx)):Prop where
 h0:0 < h
 h1:h≤4
 w0:0 < w
 w1:w≤4
 hw:2 < h + w
 n0:0 < bs.length
 n1:bs.length≤26
 up:(bs.map (·.1)).Pairwise (· < ·)
 let':∀ b ∈ bs,97≤b.1∧b.1≤122
 blk:∀ b ∈ bs,b.2.length=h∧∀ r ∈ b.2,r.length=w∧∀ n ∈ r,n ∈ bs.map (·.1)
theorem Rul.rect (R:Rul h w bs) (hb:b ∈ bs):Rect w b.2:=by
 have:=R.blk b hb
 exact ⟨by have:=R.h0; omega,by have:=R.h1; omega,R.w0,by have:=R.w1; omega,fun r hr=>(this.2 r hr).1⟩
def z2Z (w:Nat) (bs:List (Nat×List Tx)):List (Nat×List Tx):=bs.map fun b=>(b.1,turn w b.2)
def z2e (bs:List (Nat×List Tx)):List (Nat×List Tx):=bs.map fun b=>(b.1,back b.2)
theorem z78 (R:Rul h w bs):Rul w h (z2Z w bs):=by
 have e:(z2Z w bs).map (·.1)=bs.map (·.1):=by simp [z2Z,Function.comp_def]
 refine ⟨R.w0,R.w1,R.h0,R.h1,by have:=R.hw; omega,by simp [z2Z]; exact R.n0,by simp [z2Z]; exact R.n1,by rw [e]; exact R.up,fun b hb=>?_,fun b hb=>?_⟩
 ·simp only [z2Z,Wp] at hb
  obtain ⟨c,hc,rfl⟩:=hb
  exact R.let' c hc
 ·rw [e]
  simp only [z2Z,Wp] at hb
  obtain ⟨c,hc,rfl⟩:=hb
  have hk:=R.blk c hc
  refine ⟨by simp [turn],fun r hr=>?_⟩
  simp only [turn,Wp,List.mem_range] at hr
  obtain ⟨k,hk',rfl⟩:=hr
  refine ⟨by simp [hk.1],fun n hn=>?_⟩
  simp only [Wp] at hn
  obtain ⟨q,hq,rfl⟩:=hn
  have hq2:=hk.2 q hq
  have hl:k < q.length:=by omega
  refine hq2.2 _ ?_
  simp [hl]
theorem backR_ok (R:Rul h w bs):Rul h w (z2e bs):=by
 have e:(z2e bs).map (·.1)=bs.map (·.1):=by simp [z2e,Function.comp_def]
 refine ⟨R.h0,R.h1,R.w0,R.w1,R.hw,by simp [z2e]; exact R.n0,by simp [z2e]; exact R.n1,by rw [e]; exact R.up,fun b hb=>?_,fun b hb=>?_⟩
 ·simp only [z2e,Wp] at hb
  obtain ⟨c,hc,rfl⟩:=hb
  exact R.let' c hc
 ·rw [e]
  simp only [z2e,Wp] at hb
  obtain ⟨c,hc,rfl⟩:=hb
  have hk:=R.blk c hc
  refine ⟨by simp [back,hk.1],fun r hr=>?_⟩
  simp only [back,Wp] at hr
  obtain ⟨q,hq,rfl⟩:=hr
  have hq2:=hk.2 q hq
  exact ⟨by simp [hq2.1],fun n hn=>hq2.2 n (by simpa using hn)⟩
theorem zc0 (h w:Nat) (bs:List (Nat×List Tx)):flat 50 (ruD h w bs)=true:=by
 have hb:∀ bs:List (Nat×List Tx),z46 48 (bs.map blD)=true:=fun bs=>by
  induction bs with
  | nil=>rfl
  | cons b r ih =>
   simp only [Ws,z46,Wa]
   refine ⟨?_,ih⟩
   have:=z9d 46 b.2
   simp only [blD,flat,z46] at this ⊢
   simp only [this,Bool.and_self]
 simp only [ruD,flat,z46,hb bs,Bool.and_self]
theorem ne_ru (h w:Nat) (bs:List (Nat×List Tx)):pNe (ruD h w bs) (ruD h w bs)=some (.pure (.bl false)):=by
 unfold pNe; rw [zc0,z3j (zc0 h w bs)]; rfl
theorem z21 (f F:A→D) (δ:Dl):∀ (as:List A) (acc:List D),acc.length + as.length≤W6 →
  (∀ a ∈ as,∃ δ1 δ2 x δ3,g (.pure (f a)) δ=some δ1∧t δ1 = .ok true δ2∧el δ2 = .ok x δ3∧clrD cs δ3=δ∧x.d=F a)→z28 cs g t el (as.map f) δ acc = .ok (acc ++ as.map F) δ
 | [],acc,_,_=>by simp [z28]
 | a :: r,acc,hl,hs=>by
  obtain ⟨δ1,δ2,x,δ3,e1,e2,e3,e4,e5⟩:=hs a Wm
  have hl':acc.length < W6:=by simp at hl; omega
  have ih:=z21 (cs:=cs) (g:=g) (t:=t) (el:=el) f F δ r (acc ++ [x.d]) (by simp at hl ⊢; omega) (fun a ha=>hs a (Wi _ ha))
  rw [Ws]
  unfold z28
  rw [e1]
  rw [e5] at ih
  simp only [e2,z1l,if_true,e3,if_pos hl',e4,e5,ih]
  simp
end DV
namespace K07
open PySem.W (nsIn keepIn codeIn findIn mroIn kitOne mg_of)
open PySem PySem.Spec PyProof.Rows L2 DV
def top (i:Nat):Stmt:=PySem.Challenge.pw_tilegrow_k07_whole_growing_goes_together.main.body.getD i (.Pass ⟨0,0,0,0⟩)
abbrev z2N:Stmt:=top 34
abbrev z3f:Stmt:=top 36
abbrev z4g:Stmt:=top 35
abbrev z4h:Stmt:=top 37
abbrev z2p:Stmt:=top 39
abbrev z4f:Stmt:=top 38
abbrev z2M:Stmt:=top 40
abbrev z2q:Stmt:=top 41
abbrev z2a:Stmt:=top 23
abbrev z2n:Stmt:=top 24
abbrev z3C:Stmt:=top 25
abbrev z3B:Stmt:=top 26
abbrev z3c:Stmt:=top 27
abbrev z3d:Stmt:=top 28
abbrev z3e:Stmt:=top 13
abbrev z2K:Stmt:=top 14
abbrev z3a:Stmt:=top 29
abbrev z2L:Stmt:=top 8
abbrev z3D:Stmt:=top 12
abbrev z2b:Stmt:=top 15
abbrev z2o:Stmt:=top 30
abbrev z3y:Stmt:=top 6
abbrev z2J:Stmt:=top 7
abbrev z3z:Stmt:=top 18
abbrev z4c:Stmt:=top 9
abbrev z4e:Stmt:=top 19
abbrev z1X:Stmt:=top 20
abbrev z5W:Stmt:=top 22
abbrev z3A:Stmt:=top 31
abbrev z3b:Stmt:=top 32
abbrev z4d:Stmt:=top 21
abbrev z1E:Stmt:=top 42
abbrev z1P:Stmt:=top 43
abbrev z7i:Stmt:=top 44
structure Txt (K:W1) (mg:Str→Option Value):Prop where
 z_all:mg "all" = none
 z_bool:mg "bool" = none
 z_dict:mg "dict" = none
 z_enumerate:mg "enumerate" = none
 z_int:mg "int" = none
 z_isinstance:mg "isinstance" = none
 z_len:mg "len" = none
 z_list:mg "list" = none
 z_max:mg "max" = none
 z_range:mg "range" = none
 z_set:mg "set" = none
 z_sorted:mg "sorted" = none
 z_str:mg "str" = none
 z_tuple:mg "tuple" = none
 ty_bool:TyK K "bool"
 ty_int:TyK K "int"
 ty_str:TyK K "str"
 ty_tuple:TyK K "tuple"
 g_MOST_SIZE:∃ t,mg "MOST_SIZE" = some (.int 4 t)
 g_MOST_TILES:∃ t,mg "MOST_TILES" = some (.int 64 t)
def z2Y:DS:=(dSeq (dIf (dTr (eOpF pLt 1 (bOf (eC1 pLen (bVar 0))))) (dRet (eOpF pIx 0 (bVar 1))) z0I) (dRet (eD (.int 0))))
def z0Z:DF:=gOf [] 2 z2Y
theorem z4T:z1k z0Z:=z0i
theorem z5U:FnScope ["script","k"] ["script","k"] (z0b z2N):=⟨rfl,rfl,rfl,by decide +kernel,rfl,by decide +kernel,by decide +kernel⟩
theorem z67 {K:W1} (F:Fun K "_law_cell_at" "_law_cell_at" z2N f fd) (hm:mg "_law_cell_at" = some (.ref f)) (hb:Binds K fd ["script","k"] []) (T:Txt K mg):KFn P w K mg base 1 "_law_cell_at" 2 z0Z :=
 z0U (np:=[]) (fb:=z2Y) F hm hb z5U (fun c cdv A outer s H E hr hnp=>by
  have hq:=z1v hr
  refine (z05 ?_ ?_)
  ·refine (z1o ?_ ?_ ?_)
   ·exact (z53 zgm o2_lt (pv 1) (z0e (z1A rfl T.z_len (z0l (pv 0)) (by rfl))) (z0R _))
   ·refine (z0c ?_)
    refine (z0p ?_)
    exact (z0B z0y z18 (pv 0) (z0l (pv 1)) (fun _ _=>rfl))
   ·exact z0S
  refine (z0c ?_)
  refine (z0p ?_)
  exact z09) fun ss y h=>z0v h
def z3s:DS:=(dSeq (dAsg (eMax (eVar 0) (eOp pSub (eD (.int 0)) (bVar 0))) (gNm [] 1)) (dRet (eLst (z0u (eVar 1) (z0u (eC1 pInt (bOf (eOpF pGe 1 (bOf (eOp pPow (eD (.int 10)) (bOf (eD (.int 18)))))))) (z0u (eOpF pMod 1 (bOf (eD (.int 1000003)))) aNil))))))
def z0W:DF:=gOf [] 2 z3s
theorem z5i:z1k z0W:=z0i
theorem sc__law_pen_of:FnScope ["cell","left"] ["cell"] (z0b z3f):=⟨rfl,rfl,rfl,by decide +kernel,rfl,by decide +kernel,by decide +kernel⟩
theorem z6G {K:W1} (F:Fun K "_law_pen_of" "_law_pen_of" z3f f fd) (hm:mg "_law_pen_of" = some (.ref f)) (hb:Binds K fd ["cell"] []) (T:Txt K mg):KFn P w K mg base 1 "_law_pen_of" 1 z0W :=
 z0U (np:=[]) (fb:=z3s) F hm hb sc__law_pen_of (fun c cdv A outer s H E hr hnp=>by
  have hq:=z1v hr
  refine (z05 ?_ ?_)
  ·exact (@z0O _ _ _ _ _ _ ([]) (1) _ hnp sc__law_pen_of.nd rfl (Or.inl rfl) (zfD rfl rfl T.z_max (z02 (pv 0)) (z1V zgk zgr z09 (z0l (pv 0))) (by rfl) (by rfl) (by rfl)) rfl (Or.inl rfl))
  refine (z0c ?_)
  refine (z0p ?_)
  exact (z5Q (z0m (z02 (pv 1)) (z0m (zej rfl T.z_int (z0e (z5S zgp z1B (pv 1) (z0e (z1V zgl zgs z09 (z0e z09))) (z0R _))) (by rfl)) (z0m (z4E z62 z68 (pv 1) (z0e z09)) z1J (by rfl)) (by rfl)) (by rfl)) (by decide))) fun ss y h=>z0v h
def z4z:DS:=(dSeq (dAsg (eOp pMod (eOpF pAdd 0 (bOf (eD (.int 7919)))) (bOf (eD (.int 2147483647)))) (gNm [] 0)) (dRet (eOp pMod (eOp pAdd (eOp pAdd (eOpF z2P 0 (bVar 0)) (bOf (eOp z2P (eD (.int 48271)) (bVar 0)))) (bOf (eD (.int 12345)))) (bOf (eD (.int 2147483629))))))
def z1t:DF:=gOf [] 1 z4z
theorem z3I:z1k z1t:=z0i
theorem sc__law_next:FnScope ["seed"] ["seed"] (z0b z4g):=⟨rfl,rfl,rfl,by decide +kernel,rfl,by decide +kernel,by decide +kernel⟩
theorem z8n {K:W1} (F:Fun K "_law_next" "_law_next" z4g f fd) (hm:mg "_law_next" = some (.ref f)) (hb:Binds K fd ["seed"] []) (T:Txt K mg):KFn P w K mg base 1 "_law_next" 1 z1t :=
 z0U (np:=[]) (fb:=z4z) F hm hb sc__law_next (fun c cdv A outer s H E hr hnp=>by
  have hq:=z1v hr
  refine (z05 ?_ ?_)
  ·exact (@z0O _ _ _ _ _ _ ([]) (0) _ hnp sc__law_next.nd rfl (Or.inl rfl) (z1V z62 z68 (z4E z1F z2r (pv 0) (z0e z09)) (z0e z09)) rfl (Or.inl rfl))
  refine (z0c ?_)
  refine (z0p ?_)
  exact (z1V z62 z68 (z1V z1F z2r (z1V z1F z2r (z4E z2Q z2R (pv 0) (z0l (pv 0))) (z0e (z1V z2Q z2R z09 (z0l (pv 0))))) (z0e z09)) (z0e z09))) fun ss y h=>z0v h
def z4A:DS:=(dSeq (dIf (dTr (eOp pEq (eOpF pIx 0 (bOf (eD (.int 1)))) (bOf (eD (.int 1))))) (dSeq (dAsg (eOp pMod (eOpF pIx 0 (bOf (eD (.int 0)))) (bVar 1)) (gNm [0] 2)) (dSeq (zan 0 (eD (.int 0)) (eOp pDiv (eOpF pIx 0 (bOf (eD (.int 0)))) (bVar 1))) (dRet (eVar 2)))) z0I) (dSeq (zan 0 (eD (.int 2)) (z01 z1t [.val (eOp pAdd (z01 z1t [.val (eOpF pIx 0 (bOf (eD (.int 2))))]) (bOf (eD (.int 7))))])) (dRet (eOp pMod (eOp pDiv (eOpF pIx 0 (bOf (eD (.int 2)))) (bOf (eD (.int 64)))) (bVar 1)))))
def z0a:DF:=gOf [0] 3 z4A
theorem z0n:z1k z0a:=z0i
theorem sc__law_draw:FnScope ["pen","many","found"] ["pen","many"] (z0b z4h):=⟨rfl,rfl,rfl,by decide +kernel,rfl,by decide +kernel,by decide +kernel⟩
theorem z8o {K:W1} (F:Fun K "_law_draw" "_law_draw" z4h f fd) (hm:mg "_law_draw" = some (.ref f)) (hb:Binds K fd ["pen","many"] []) (T:Txt K mg) (k__law_next:KFn P w K mg base 1 "_law_next" 1 z1t):KFn P w K mg base 2 "_law_draw" 2 z0a :=
 z0U (np:=[0]) (fb:=z4A) F hm hb sc__law_draw (fun c cdv A outer s H E hr hnp=>by
  have hq:=z1v hr
  refine (z05 ?_ ?_)
  ·refine (z1o ?_ ?_ ?_)
   ·exact (z1j (z3t hq) z5x (z0B z0y z18 (pv 0) (z0e z09) (fun _ _=>rfl)) (z0e z09) (z0R _))
   ·refine (z05 ?_ ?_)
    ·exact (@z0O _ _ _ _ _ _ ([0]) (2) _ hnp sc__law_draw.nd rfl (Or.inl rfl) (z1V z62 z68 (z0B z0y z18 (pv 0) (z0e z09) (fun _ _=>rfl)) (z0l (pv 1))) rfl (Or.inl rfl))
    refine (z05 ?_ ?_)
    ·exact (zaG (pv 0) z09 (z1V zbq zdM (z0B z0y z18 (pv 0) (z0e z09) (fun _ _=>rfl)) (z0l (pv 1))) (by intro _; rfl) (by rfl) (by rfl) (by rfl))
    refine (z0c ?_)
    refine (z0p ?_)
    exact (z02 (pv 2))
   ·exact z0S
  refine (z05 ?_ ?_)
  ·exact (zaG (pv 0) z09 (@z07 _ _ _ _ _ (1) _ _ _ _ _ k__law_next z3I (hr.mono (by decide)) rfl (z00 (z1V z1F z2r (@z07 _ _ _ _ _ (1) _ _ _ _ _ k__law_next z3I (hr.mono (by decide)) rfl (z00 (z0B z0y z18 (pv 0) (z0e z09) (fun _ _=>rfl)) z0f (by rfl)) rfl (by decide) (by rfl) (by rfl)) (z0e z09)) z0f (by rfl)) rfl (by decide) (by rfl) (by rfl)) (by intro _; rfl) (by rfl) (by rfl) (by rfl))
  refine (z0c ?_)
  refine (z0p ?_)
  exact (z1V z62 z68 (z1V zbq zdM (z0B z0y z18 (pv 0) (z0e z09) (fun _ _=>rfl)) (z0e z09)) (z0l (pv 1)))) fun ss y h=>z0v h
def z2x:DS:=(dSeq (dAsg (eOp pAdd (eD (.int 1)) (bOf (z01 z0a [.io 0,.val (eD (.int 3))]))) (gNm [0] 1)) (dSeq (dAsg (eOp pAdd (eD (.int 1)) (bOf (z01 z0a [.io 0,.val (eD (.int 3))]))) (gNm [0] 2)) (dSeq (dIf (dTr (eOp pEq (z01 z0a [.io 0,.val (eD (.int 8))]) (bOf (eD (.int 0))))) (dAsg (eOp pIx (zf8 [.tup [.int 4,.int 1],.tup [.int 1,.int 4],.tup [.int 4,.int 4],.tup [.int 4,.int 3],.tup [.int 1,.int 2],.tup [.int 2,.int 1]]) (bOf (z01 z0a [.io 0,.val (eD (.int 6))]))) (gTp 2 (z0d (gNm [0] 1) (z0d (gNm [0] 2) z10)))) z0I) (dSeq (dIf (dTr (eOp pEq (eOpF pAdd 1 (bVar 2)) (bOf (eD (.int 2))))) (dAsg (eD (.int 2)) (gNm [0] 2)) z0I) (dRet (eTup (z0u (eVar 1) (z0u (eVar 2) aNil))))))))
def z16:DF:=gOf [0] 3 z2x
theorem z4m:z1k z16:=z0i
theorem sc__law_sizes_by:FnScope ["pen","high","wide"] ["pen"] (z0b z2p):=⟨rfl,rfl,rfl,by decide +kernel,rfl,by decide +kernel,by decide +kernel⟩
theorem z5v {K:W1} (F:Fun K "_law_sizes_by" "_law_sizes_by" z2p f fd) (hm:mg "_law_sizes_by" = some (.ref f)) (hb:Binds K fd ["pen"] []) (T:Txt K mg) (k__law_draw:KFn P w K mg base 2 "_law_draw" 2 z0a):KFn P w K mg base 3 "_law_sizes_by" 1 z16 :=
 z0U (np:=[0]) (fb:=z2x) F hm hb sc__law_sizes_by (fun c cdv A outer s H E hr hnp=>by
  have hq:=z1v hr
  refine (@z05 _ _ _ _ _ _ ?_ ?_)
  ·exact (@z0O _ _ _ _ _ _ ([0]) (1) _ hnp sc__law_sizes_by.nd rfl (Or.inl rfl) (@z1V _ _ _ _ _ _ _ _ _ _ z1F z2r (@z09 _ _ _ _ _) (@z0e _ _ _ _ (@z07 _ _ _ _ _ (2) _ _ _ _ _ k__law_draw z0n (hr.mono (by decide)) rfl (@z1S _ _ _ _ _ _ (pv 0) (@z00 _ _ _ _ _ _ (@z09 _ _ _ _ _) (@z0f _ _) (by rfl)) (by rfl)) rfl (by decide) (by rfl) (by rfl)))) rfl (Or.inl rfl))
  refine (@z05 _ _ _ _ _ _ ?_ ?_)
  ·exact (@z0O _ _ _ _ _ _ ([0]) (2) _ hnp sc__law_sizes_by.nd rfl (Or.inl rfl) (@z1V _ _ _ _ _ _ _ _ _ _ z1F z2r (@z09 _ _ _ _ _) (@z0e _ _ _ _ (@z07 _ _ _ _ _ (2) _ _ _ _ _ k__law_draw z0n (hr.mono (by decide)) rfl (@z1S _ _ _ _ _ _ (pv 0) (@z00 _ _ _ _ _ _ (@z09 _ _ _ _ _) (@z0f _ _) (by rfl)) (by rfl)) rfl (by decide) (by rfl) (by rfl)))) rfl (Or.inl rfl))
  refine (@z05 _ _ _ _ _ _ ?_ ?_)
  ·refine (@z1o _ _ _ _ _ _ _ _ _ ?_ ?_ ?_)
   ·exact (@z1j _ _ _ _ _ _ _ _ _ _ (z3t hq) z5x (@z07 _ _ _ _ _ (2) _ _ _ _ _ k__law_draw z0n (hr.mono (by decide)) rfl (@z1S _ _ _ _ _ _ (pv 0) (@z00 _ _ _ _ _ _ (@z09 _ _ _ _ _) (@z0f _ _) (by rfl)) (by rfl)) rfl (by decide) (by rfl) (by rfl)) (@z0e _ _ _ _ (@z09 _ _ _ _ _)) (z0R _))
   ·refine (@z0c _ _ _ _ ?_)
    refine (@z5P _ _ _ _ _ _ _ ?_ ?_ (by rfl) (by rfl) (by rfl))
    ·exact (@zfE _ _ _ _ _ _ _ _ _ z0y z18 (@zaR _ _ _ _ _ (by rfl) (by decide)) (@z0e _ _ _ _ (@z07 _ _ _ _ _ (2) _ _ _ _ _ k__law_draw z0n (hr.mono (by decide)) rfl (@z1S _ _ _ _ _ _ (pv 0) (@z00 _ _ _ _ _ _ (@z09 _ _ _ _ _) (@z0f _ _) (by rfl)) (by rfl)) rfl (by decide) (by rfl) (by rfl))) (fun _ _=>rfl))
    ·exact (@z4D _ _ _ _ _ _ _ rfl (@z0N _ _ _ _ _ _ (@z0z _ _ _ ([0]) (1) _ hnp sc__law_sizes_by.nd rfl (Or.inl rfl) (Or.inl rfl)) (@z0N _ _ _ _ _ _ (@z0z _ _ _ ([0]) (2) _ hnp sc__law_sizes_by.nd rfl (Or.inl rfl) (Or.inl rfl)) (@z39 _ _) (by rfl)) (by rfl)) (by rfl) (by rfl))
   ·exact z0S
  refine (@z05 _ _ _ _ _ _ ?_ ?_)
  ·refine (@z1o _ _ _ _ _ _ _ _ _ ?_ ?_ ?_)
   ·exact (@z1j _ _ _ _ _ _ _ _ _ _ (z3t hq) z5x (@z4E _ _ _ _ _ _ _ _ _ _ z1F z2r (pv 1) (@z0l _ _ _ _ (pv 2))) (@z0e _ _ _ _ (@z09 _ _ _ _ _)) (z0R _))
   ·refine (@z0c _ _ _ _ ?_)
    exact (@z0O _ _ _ _ _ _ ([0]) (2) _ hnp sc__law_sizes_by.nd rfl (Or.inl rfl) (@z09 _ _ _ _ _) rfl (Or.inl rfl))
   ·exact z0S
  refine (@z0c _ _ _ _ ?_)
  refine (@z0p _ _ _ _ _ ?_)
  exact (@z2B _ _ _ _ _ _ (@z0m _ _ _ _ _ _ (@z02 _ _ _ _ (pv 1)) (@z0m _ _ _ _ _ _ (@z02 _ _ _ _ (pv 2)) (@z1J _ _) (by rfl)) (by rfl)) (by decide))) fun ss y h=>z0v h
def z4y:DS:=(dSeq (dIf (dTr (eOpF pEq 3 (bOf (eD (.int 1))))) (dRet (eOpF pIx 1 (bOf (z01 z0a [.io 0,.val (eOpF pAdd 2 (bOf (eD (.int 1))))])))) z0I) (dSeq (dIf (dTr (eOpF pEq 3 (bOf (eD (.int 2))))) (dRet (eOpF pIx 1 (bOf (eOp pMod (eOpF pAdd 2 (bOf (eD (.int 1)))) (bOf (eC1 pLen (bVar 1))))))) z0I) (dSeq (dIf (dAnd (dTr (eOpF pEq 3 (bOf (eD (.int 3))))) (dTr (eOp pGt (z01 z0a [.io 0,.val (eD (.int 4))]) (bOf (eD (.int 0)))))) (dRet (eOpF pIx 1 (bVar 2))) z0I) (dRet (eOpF pIx 1 (bOf (z01 z0a [.io 0,.val (eC1 pLen (bVar 1))])))))))
def z0Q:DF:=gOf [0] 4 z4y
theorem z6e:z1k z0Q:=z0i
theorem z84:FnScope ["pen","tiles","place","way"] ["pen","tiles","place","way"] (z0b z4f):=⟨rfl,rfl,rfl,by decide +kernel,rfl,by decide +kernel,by decide +kernel⟩
theorem z8m {K:W1} (F:Fun K "_law_pick" "_law_pick" z4f f fd) (hm:mg "_law_pick" = some (.ref f)) (hb:Binds K fd ["pen","tiles","place","way"] []) (T:Txt K mg) (k__law_draw:KFn P w K mg base 2 "_law_draw" 2 z0a):KFn P w K mg base 3 "_law_pick" 4 z0Q :=
 z0U (np:=[0]) (fb:=z4y) F hm hb z84 (fun c cdv A outer s H E hr hnp=>by
  have hq:=z1v hr
  refine (z05 ?_ ?_)
  ·refine (z1o ?_ ?_ ?_)
   ·exact (z53 (z3t hq) z5x (pv 3) (z0e z09) (z0R _))
   ·refine (z0c ?_)
    refine (z0p ?_)
    exact (z0B z0y z18 (pv 1) (z0e (@z07 _ _ _ _ _ (2) _ _ _ _ _ k__law_draw z0n (hr.mono (by decide)) rfl (z1S (pv 0) (z00 (z4E z1F z2r (pv 2) (z0e z09)) z0f (by rfl)) (by rfl)) rfl (by decide) (by rfl) (by rfl))) (fun _ _=>rfl))
   ·exact z0S
  refine (z05 ?_ ?_)
  ·refine (z1o ?_ ?_ ?_)
   ·exact (z53 (z3t hq) z5x (pv 3) (z0e z09) (z0R _))
   ·refine (z0c ?_)
    refine (z0p ?_)
    exact (z0B z0y z18 (pv 1) (z0e (z1V z62 z68 (z4E z1F z2r (pv 2) (z0e z09)) (z0e (z1A rfl T.z_len (z0l (pv 1)) (by rfl))))) (fun _ _=>rfl))
   ·exact z0S
  refine (z05 ?_ ?_)
  ·refine (z1o ?_ ?_ ?_)
   ·exact (z38 (zfB (z53 (z3t hq) z5x (pv 3) (z0e z09) (z0R _)) (zea (z1j z49 z1B (@z07 _ _ _ _ _ (2) _ _ _ _ _ k__law_draw z0n (hr.mono (by decide)) rfl (z1S (pv 0) (z00 z09 z0f (by rfl)) (by rfl)) rfl (by decide) (by rfl) (by rfl)) (z0e z09) (z0R _)))))
   ·refine (z0c ?_)
    refine (z0p ?_)
    exact (z0B z0y z18 (pv 1) (z0l (pv 2)) (fun _ _=>rfl))
   ·exact z0S
  refine (z0c ?_)
  refine (z0p ?_)
  exact (z0B z0y z18 (pv 1) (z0e (@z07 _ _ _ _ _ (2) _ _ _ _ _ k__law_draw z0n (hr.mono (by decide)) rfl (z1S (pv 0) (z00 (z1A rfl T.z_len (z0l (pv 1)) (by rfl)) z0f (by rfl)) (by rfl)) rfl (by decide) (by rfl) (by rfl))) (fun _ _=>rfl))) fun ss y h=>z0v h
def z2X:DS:=(dSeq (dAsg (z01 z16 [.io 0]) (gTp 2 (z0d (gNm [0] 2) (z0d (gNm [0] 3) z10)))) (dSeq (dAsg (eOp pAdd (eD (.int 1)) (bOf (z01 z0a [.io 0,.val (eVar 1)]))) (gNm [0] 4)) (dSeq (dAsg (z01 z0a [.io 0,.val (eD (.int 26))]) (gNm [0] 5)) (dSeq (dAsg (eD (.str [97,98,99,100,101,102,103,104,105,106,107,108,109,110,111,112,113,114,115,116,117,118,119,120,121,122])) (gNm [0] 6)) (dSeq (dAsg (eC1 z5b (bOf (z1G [13] (z1d (eVar 4)) (gNm [0] 13) dYes (eOpF pIx 6 (bOf (eOp pMod (eOpF pAdd 5 (bOf (eOp z2P (eD (.int 5)) (bVar 13)))) (bOf (eD (.int 26))))))))) (gNm [0] 7)) (dSeq (dAsg (z01 z0a [.io 0,.val (eD (.int 5))]) (gNm [0] 8)) (dSeq (dAsg (eLst aNil) (gNm [0] 9)) (dSeq (dFor (z1d (eVar 4)) (gNm [0] 10) (dSeq (dAsg (eLst aNil) (gNm [0] 11)) (dSeq (dFor (z1d (eVar 2)) (gNm [0] 12) (z1e 11 (eC1 (z1Z []) (bOf (z1G [14] (z1d (eVar 3)) (gNm [0] 14) dYes (z01 z0Q [.io 0,.val (eVar 7),.val (eVar 10),.val (eVar 8)])))))) (z1e 9 (eTup (z0u (eOpF pIx 7 (bVar 10)) (z0u (eC1 z12 (bVar 11)) aNil))))))) (dRet (eTup (z0u (eVar 2) (z0u (eVar 3) (z0u (eC1 z12 (bVar 9)) aNil)))))))))))))
def z0J:DF:=gOf [0] 15 z2X
theorem z4S:z1k z0J:=z0i
theorem sc__law_rule_by:FnScope ["pen","most","high","wide","size","first","letters","tiles","way","blocks","place","block","row","k","column"] ["pen","most"] (z0b z2M):=⟨rfl,rfl,rfl,by decide +kernel,rfl,by decide +kernel,by decide +kernel⟩
theorem z66 {K:W1} (F:Fun K "_law_rule_by" "_law_rule_by" z2M f fd) (hm:mg "_law_rule_by" = some (.ref f)) (hb:Binds K fd ["pen","most"] []) (T:Txt K mg) (k__law_draw:KFn P w K mg base 2 "_law_draw" 2 z0a) (k__law_sizes_by:KFn P w K mg base 3 "_law_sizes_by" 1 z16) (k__law_pick:KFn P w K mg base 3 "_law_pick" 4 z0Q):KFn P w K mg base 4 "_law_rule_by" 2 z0J :=
 z0U (np:=[0]) (fb:=z2X) F hm hb sc__law_rule_by (fun c cdv A outer s H E hr hnp=>by
  have hq:=z1v hr
  refine (@z05 _ _ _ _ _ _ ?_ ?_)
  ·refine (@z5P _ _ _ _ _ _ _ ?_ ?_ (by rfl) (by rfl) (by rfl))
   ·exact (@z07 _ _ _ _ _ (3) _ _ _ _ _ k__law_sizes_by z4m (hr.mono (by decide)) rfl (@z1S _ _ _ _ _ _ (pv 0) (@z0f _ _) (by rfl)) rfl (by decide) (by rfl) (by rfl))
   ·exact (@z4D _ _ _ _ _ _ _ rfl (@z0N _ _ _ _ _ _ (@z0z _ _ _ ([0]) (2) _ hnp sc__law_rule_by.nd rfl (by first | exact Or.inl rfl | exact Or.inr rfl) (Or.inl rfl)) (@z0N _ _ _ _ _ _ (@z0z _ _ _ ([0]) (3) _ hnp sc__law_rule_by.nd rfl (by first | exact Or.inl rfl | exact Or.inr rfl) (Or.inl rfl)) (@z39 _ _) (by rfl)) (by rfl)) (by rfl) (by rfl))
  refine (@z05 _ _ _ _ _ _ ?_ ?_)
  ·exact (@z0O _ _ _ _ _ _ ([0]) (4) _ hnp sc__law_rule_by.nd rfl (by first | exact Or.inl rfl | exact Or.inr rfl) (@z1V _ _ _ _ _ _ _ _ _ _ z1F z2r (@z09 _ _ _ _ _) (@z0e _ _ _ _ (@z07 _ _ _ _ _ (2) _ _ _ _ _ k__law_draw z0n (hr.mono (by decide)) rfl (@z1S _ _ _ _ _ _ (pv 0) (@z00 _ _ _ _ _ _ (@z02 _ _ _ _ (pv 1)) (@z0f _ _) (by rfl)) (by rfl)) rfl (by decide) (by rfl) (by rfl)))) rfl (Or.inl rfl))
  refine (@z05 _ _ _ _ _ _ ?_ ?_)
  ·exact (@z0O _ _ _ _ _ _ ([0]) (5) _ hnp sc__law_rule_by.nd rfl (by first | exact Or.inl rfl | exact Or.inr rfl) (@z07 _ _ _ _ _ (2) _ _ _ _ _ k__law_draw z0n (hr.mono (by decide)) rfl (@z1S _ _ _ _ _ _ (pv 0) (@z00 _ _ _ _ _ _ (@z09 _ _ _ _ _) (@z0f _ _) (by rfl)) (by rfl)) rfl (by decide) (by rfl) (by rfl)) rfl (Or.inl rfl))
  refine (@z05 _ _ _ _ _ _ ?_ ?_)
  ·exact (@z0O _ _ _ _ _ _ ([0]) (6) _ hnp sc__law_rule_by.nd rfl (by first | exact Or.inl rfl | exact Or.inr rfl) (@z80 _ _ _ _ _ [97,98,99,100,101,102,103,104,105,106,107,108,109,110,111,112,113,114,115,116,117,118,119,120,121,122] (by decide +kernel)) rfl (Or.inl rfl))
  refine (@z05 _ _ _ _ _ _ ?_ ?_)
  ·exact (@z0O _ _ _ _ _ _ ([0]) (7) _ hnp sc__law_rule_by.nd rfl (by first | exact Or.inl rfl | exact Or.inr rfl) (@zaO _ _ _ _ _ _ rfl T.z_sorted (@z0e _ _ _ _ (@z1O _ _ ([13]) _ _ _ _ _ _ _ _ _ _ rfl (@z19 _ _ _ rfl rfl) (@z1z _ _ _ _ _ _ _ rfl T.z_range (@z02 _ _ _ _ (pv 4)) (by rfl)) (fun l s0 H0 ex=>(@z17 _ _ _ _ ([0]) (13) _ hnp sc__law_rule_by.nd rfl (by first | exact Or.inl rfl | exact Or.inr rfl) (by first | exact Or.inl rfl | exact Or.inr rfl) (by decide))) (fun l s0 H0 ex=>(@z1M _ _)) (fun l s0 H0 ex=>(@z0B _ _ _ _ _ _ _ _ _ z0y z18 (pv 6) (@z0e _ _ _ _ (@z1V _ _ _ _ _ _ _ _ _ _ z62 z68 (@z4E _ _ _ _ _ _ _ _ _ _ z1F z2r (pv 5) (@z0e _ _ _ _ (@z1V _ _ _ _ _ _ _ _ _ _ z2Q z2R (@z09 _ _ _ _ _) (@z0l _ _ _ _ (pv 13))))) (@z0e _ _ _ _ (@z09 _ _ _ _ _)))) (fun _ _=>rfl))) (z2C hnp rfl) (by intro _; rfl))) (by rfl)) rfl (Or.inl rfl))
  refine (@z05 _ _ _ _ _ _ ?_ ?_)
  ·exact (@z0O _ _ _ _ _ _ ([0]) (8) _ hnp sc__law_rule_by.nd rfl (by first | exact Or.inl rfl | exact Or.inr rfl) (@z07 _ _ _ _ _ (2) _ _ _ _ _ k__law_draw z0n (hr.mono (by decide)) rfl (@z1S _ _ _ _ _ _ (pv 0) (@z00 _ _ _ _ _ _ (@z09 _ _ _ _ _) (@z0f _ _) (by rfl)) (by rfl)) rfl (by decide) (by rfl) (by rfl)) rfl (Or.inl rfl))
  refine (@z05 _ _ _ _ _ _ ?_ ?_)
  ·exact (@z0O _ _ _ _ _ _ ([0]) (9) _ hnp sc__law_rule_by.nd rfl (by first | exact Or.inl rfl | exact Or.inr rfl) (@z5Q _ _ _ _ _ (@z1J _ _) (by decide)) rfl (Or.inl rfl))
  refine (@z05 _ _ _ _ _ _ ?_ ?_)
  ·refine (@z2A _ _ _ _ _ _ _ _ _ PassesOwn.never rfl ?_ ?_ ?_ (by intro _; rfl))
   ·exact (@z1z _ _ _ _ _ _ _ rfl T.z_range (@z02 _ _ _ _ (pv 4)) (by rfl))
   ·exact (@z0z _ _ _ ([0]) (10) _ hnp sc__law_rule_by.nd rfl (by first | exact Or.inl rfl | exact Or.inr rfl) (Or.inl rfl))
   ·refine (@z05 _ _ _ _ _ _ ?_ ?_)
    ·exact (@z0O _ _ _ _ _ _ ([0]) (11) _ hnp sc__law_rule_by.nd rfl (by first | exact Or.inl rfl | exact Or.inr rfl) (@z5Q _ _ _ _ _ (@z1J _ _) (by decide)) rfl (Or.inl rfl))
    refine (@z05 _ _ _ _ _ _ ?_ ?_)
    ·refine (@z2A _ _ _ _ _ _ _ _ _ PassesOwn.never rfl ?_ ?_ ?_ (by intro _; rfl))
     ·exact (@z1z _ _ _ _ _ _ _ rfl T.z_range (@z02 _ _ _ _ (pv 2)) (by rfl))
     ·exact (@z0z _ _ _ ([0]) (12) _ hnp sc__law_rule_by.nd rfl (by first | exact Or.inl rfl | exact Or.inr rfl) (Or.inl rfl))
     ·refine (@z0c _ _ _ _ ?_)
      exact (@z3Z _ _ _ _ _ _ _ _ _ (pv 11) (@z58 _ _ _ _ _ _ _ _ _ [] (@z0e _ _ _ _ (@z1O _ _ ([14]) _ _ _ _ _ _ _ _ _ _ rfl (@z19 _ _ _ rfl rfl) (@z1z _ _ _ _ _ _ _ rfl T.z_range (@z02 _ _ _ _ (pv 3)) (by rfl)) (fun l s0 H0 ex=>(@z17 _ _ _ _ ([0]) (14) _ hnp sc__law_rule_by.nd rfl (by first | exact Or.inl rfl | exact Or.inr rfl) (by first | exact Or.inl rfl | exact Or.inr rfl) (by decide))) (fun l s0 H0 ex=>(@z1M _ _)) (fun l s0 H0 ex=>(@z07 _ _ _ _ _ (3) _ _ _ _ _ k__law_pick z6e (hr.mono (by decide)) rfl (@z1S _ _ _ _ _ _ (pv 0) (@z00 _ _ _ _ _ _ (@z02 _ _ _ _ (pv 7)) (@z00 _ _ _ _ _ _ (@z02 _ _ _ _ (pv 10)) (@z00 _ _ _ _ _ _ (@z02 _ _ _ _ (pv 8)) (@z0f _ _) (by rfl)) (by rfl)) (by rfl)) (by rfl)) rfl (by decide) (by rfl) (by rfl))) (z2C hnp rfl) (by intro _; rfl))) (by decide +kernel) (by rfl) (by rfl) (by rfl) (by rfl)) (by rfl) (by rfl) (by rfl) (by rfl) (by rfl))
    refine (@z0c _ _ _ _ ?_)
    exact (@z3Z _ _ _ _ _ _ _ _ _ (pv 9) (@z2B _ _ _ _ _ _ (@z0m _ _ _ _ _ _ (@z0B _ _ _ _ _ _ _ _ _ z0y z18 (pv 7) (@z0l _ _ _ _ (pv 10)) (fun _ _=>rfl)) (@z0m _ _ _ _ _ _ (@z1N _ _ _ _ _ _ rfl T.z_tuple (@z0l _ _ _ _ (pv 11)) (by rfl)) (@z1J _ _) (by rfl)) (by rfl)) (by decide)) (by rfl) (by rfl) (by rfl) (by rfl) (by rfl))
  refine (@z0c _ _ _ _ ?_)
  refine (@z0p _ _ _ _ _ ?_)
  exact (@z2B _ _ _ _ _ _ (@z0m _ _ _ _ _ _ (@z02 _ _ _ _ (pv 2)) (@z0m _ _ _ _ _ _ (@z02 _ _ _ _ (pv 3)) (@z0m _ _ _ _ _ _ (@z1N _ _ _ _ _ _ rfl T.z_tuple (@z0l _ _ _ _ (pv 9)) (by rfl)) (@z1J _ _) (by rfl)) (by rfl)) (by rfl)) (by decide))) fun ss y h=>z0v h
def z2y:DS:=(dSeq (dAsg (eOp pAdd (eD (.int 1)) (bOf (z01 z0a [.io 0,.val (eVar 2)]))) (gNm [0] 3)) (dSeq (dAsg (eLst aNil) (gNm [0] 4)) (dSeq (dFor (z1d (eOp pAdd (eD (.int 1)) (bOf (z01 z0a [.io 0,.val (eVar 2)])))) (gNm [0] 5) (z1e 4 (eC1 (z1Z []) (bOf (z1G [6] (z1d (eVar 3)) (gNm [0] 6) dYes (eOpF pIx 1 (bOf (z01 z0a [.io 0,.val (eC1 pLen (bVar 1))])))))))) (dRet (eC1 z12 (bVar 4))))))
def z0D:DF:=gOf [0] 7 z2y
theorem z4n:z1k z0D:=z0i
theorem sc__law_floor_by:FnScope ["pen","tiles","most","wide","rows","row","column"] ["pen","tiles","most"] (z0b z2q):=⟨rfl,rfl,rfl,by decide +kernel,rfl,by decide +kernel,by decide +kernel⟩
theorem z5w {K:W1} (F:Fun K "_law_floor_by" "_law_floor_by" z2q f fd) (hm:mg "_law_floor_by" = some (.ref f)) (hb:Binds K fd ["pen","tiles","most"] []) (T:Txt K mg) (k__law_draw:KFn P w K mg base 2 "_law_draw" 2 z0a):KFn P w K mg base 3 "_law_floor_by" 3 z0D :=
 z0U (np:=[0]) (fb:=z2y) F hm hb sc__law_floor_by (fun c cdv A outer s H E hr hnp=>by
  have hq:=z1v hr
  refine (z05 ?_ ?_)
  ·exact (@z0O _ _ _ _ _ _ ([0]) (3) _ hnp sc__law_floor_by.nd rfl (by first | exact Or.inl rfl | exact Or.inr rfl) (z1V z1F z2r z09 (z0e (@z07 _ _ _ _ _ (2) _ _ _ _ _ k__law_draw z0n (hr.mono (by decide)) rfl (z1S (pv 0) (z00 (z02 (pv 2)) z0f (by rfl)) (by rfl)) rfl (by decide) (by rfl) (by rfl)))) rfl (Or.inl rfl))
  refine (z05 ?_ ?_)
  ·exact (@z0O _ _ _ _ _ _ ([0]) (4) _ hnp sc__law_floor_by.nd rfl (by first | exact Or.inl rfl | exact Or.inr rfl) (z5Q z1J (by decide)) rfl (Or.inl rfl))
  refine (z05 ?_ ?_)
  ·refine (z2A PassesOwn.never rfl ?_ ?_ ?_ (by intro _; rfl))
   ·exact (z1z rfl T.z_range (z1V z1F z2r z09 (z0e (@z07 _ _ _ _ _ (2) _ _ _ _ _ k__law_draw z0n (hr.mono (by decide)) rfl (z1S (pv 0) (z00 (z02 (pv 2)) z0f (by rfl)) (by rfl)) rfl (by decide) (by rfl) (by rfl)))) (by rfl))
   ·exact (@z0z _ _ _ ([0]) (5) _ hnp sc__law_floor_by.nd rfl (by first | exact Or.inl rfl | exact Or.inr rfl) (Or.inl rfl))
   ·refine (z0c ?_)
    exact (z3Z (pv 4) (z58 [] (z0e (@z1O _ _ ([6]) _ _ _ _ _ _ _ _ _ _ rfl (z19 rfl rfl) (z1z rfl T.z_range (z02 (pv 3)) (by rfl)) (fun l s0 H0 ex=>(@z17 _ _ _ _ ([0]) (6) _ hnp sc__law_floor_by.nd rfl (by first | exact Or.inl rfl | exact Or.inr rfl) (by first | exact Or.inl rfl | exact Or.inr rfl) (by decide))) (fun l s0 H0 ex=>z1M) (fun l s0 H0 ex=>(z0B z0y z18 (pv 1) (z0e (@z07 _ _ _ _ _ (2) _ _ _ _ _ k__law_draw z0n (hr.mono (by decide)) rfl (z1S (pv 0) (z00 (z1A rfl T.z_len (z0l (pv 1)) (by rfl)) z0f (by rfl)) (by rfl)) rfl (by decide) (by rfl) (by rfl))) (fun _ _=>rfl))) (z2C hnp rfl) (by intro _; rfl))) (by decide +kernel) (by rfl) (by rfl) (by rfl) (by rfl)) (by rfl) (by rfl) (by rfl) (by rfl) (by rfl))
  refine (z0c ?_)
  refine (z0p ?_)
  exact (z1N rfl T.z_tuple (z0l (pv 4)) (by rfl))) fun ss y h=>z0v h
def z2f:DS:=(dFor (iSq (eC1 (z1Z []) (bVar 1))) (gNm [] 2) (dIf (dTr (eOp (pIn true) (eVar 2) (bVar 0))) z3O z0I))
def z0T:DF:=gOf [] 3 z2f
theorem z45:z1k z0T:=z0i
theorem sc_refuse_strange:FnScope ["block_of","floor","tile"] ["block_of","floor"] (z0b z2a):=⟨rfl,rfl,rfl,by decide +kernel,rfl,by decide +kernel,by decide +kernel⟩
theorem z5c {K:W1} (F:Fun K "refuse_strange" "refuse_strange" z2a f fd) (hm:mg "refuse_strange" = some (.ref f)) (hb:Binds K fd ["block_of","floor"] []) (T:Txt K mg):KFn P w K mg base 1 "refuse_strange" 2 z0T :=
 z0U (np:=[]) (fb:=z2f) F hm hb sc_refuse_strange (fun c cdv A outer s H E hr hnp=>by
  have hq:=z1v hr
  refine (z0c ?_)
  refine (z2A PassesOwn.never rfl ?_ ?_ ?_ (by intro _; rfl))
  ·exact (z41 (z58 [] (z0l (pv 1)) (by decide +kernel) (by rfl) (by rfl) (by rfl) (by rfl)))
  ·exact (@z0z _ _ _ ([]) (2) _ hnp sc_refuse_strange.nd rfl (Or.inl rfl) (Or.inl rfl))
  ·refine (z0c ?_)
   refine (z1o ?_ ?_ ?_)
   ·exact (z1j (z61 hq) (z7B true) (z02 (pv 2)) (z0l (pv 0)) rfl)
   ·refine (z0c ?_)
    exact z2z
   ·exact z0S) fun ss y h=>z0v h
def z2v:DS:=(dSeq (dIf (dTr (eOpF pGt 0 (bVar 2))) z3O z0I) (dIf (dTr (eOpF pGt 1 (bVar 2))) z3O z0I))
def z0w:DF:=gOf [] 3 z2v
theorem z2s:z1k z0w:=z0i
theorem z5s:FnScope ["rows","columns","most"] ["rows","columns","most"] (z0b z2n):=⟨rfl,rfl,rfl,by decide +kernel,rfl,by decide +kernel,by decide +kernel⟩
theorem z5t {K:W1} (F:Fun K "refuse_beyond" "refuse_beyond" z2n f fd) (hm:mg "refuse_beyond" = some (.ref f)) (hb:Binds K fd ["rows","columns","most"] []) (T:Txt K mg):KFn P w K mg base 1 "refuse_beyond" 3 z0w :=
 z0U (np:=[]) (fb:=z2v) F hm hb z5s (fun c cdv A outer s H E hr hnp=>by
  have hq:=z1v hr
  refine (z05 ?_ ?_)
  ·refine (z1o ?_ ?_ ?_)
   ·exact (z53 z49 z1B (pv 0) (z0l (pv 2)) (z0R _))
   ·refine (z0c ?_)
    exact z2z
   ·exact z0S
  refine (z0c ?_)
  refine (z1o ?_ ?_ ?_)
  ·exact (z53 z49 z1B (pv 1) (z0l (pv 2)) (z0R _))
  ·refine (z0c ?_)
   exact z2z
  ·exact z0S) fun ss y h=>z0v h
def z3W:DS:=(dSeq (dFor (z1d (eVar 2)) (gNm [] 3) (dAsg (eOpF z2P 0 (bVar 1)) (gNm [] 0))) (dRet (eVar 0)))
def z0C:DF:=gOf [] 4 z3W
theorem z3w:z1k z0C:=z0i
theorem sc_grown_size:FnScope ["size","factor","often","growing"] ["size","factor","often"] (z0b z3C):=⟨rfl,rfl,rfl,by decide +kernel,rfl,by decide +kernel,by decide +kernel⟩
theorem z7y {K:W1} (F:Fun K "grown_size" "grown_size" z3C f fd) (hm:mg "grown_size" = some (.ref f)) (hb:Binds K fd ["size","factor","often"] []) (T:Txt K mg):KFn P w K mg base 1 "grown_size" 3 z0C :=
 z0U (np:=[]) (fb:=z3W) F hm hb sc_grown_size (fun c cdv A outer s H E hr hnp=>by
  have hq:=z1v hr
  refine (z05 ?_ ?_)
  ·refine (z2A PassesOwn.never rfl ?_ ?_ ?_ (by intro _; rfl))
   ·exact (z1z rfl T.z_range (z02 (pv 2)) (by rfl))
   ·exact (@z0z _ _ _ ([]) (3) _ hnp sc_grown_size.nd rfl (Or.inl rfl) (Or.inl rfl))
   ·refine (z0c ?_)
    exact (@z0O _ _ _ _ _ _ ([]) (0) _ hnp sc_grown_size.nd rfl (Or.inl rfl) (z4E z2Q z2R (pv 0) (z0l (pv 1))) rfl (Or.inl rfl))
  refine (z0c ?_)
  refine (z0p ?_)
  exact (z02 (pv 0))) fun ss y h=>z0v h
abbrev z3m :DS:=(dSeq (dAsg (eLst aNil) (gNm [] 3)) (dSeq (dFor (iSq (eVar 2)) (gNm [] 4) (dFor (z1d (eVar 1)) (gNm [] 5) (z1e 3 (eC1 (z1Z []) (bOf (z1G [6] (iSq (eVar 4)) (gNm [] 6) dYes (eOp pIx (eOpF pIxX 0 (bVar 6)) (bVar 5)))))))) (dRet (eC1 z12 (bVar 3)))))
def z3V:DS:=z3m
def z0Y:DF:=gOf [] 7 z3V
theorem z5B:z1k z0Y:=z0i
theorem sc_laid_floor:FnScope ["block_of","high","floor","rows","row","line","tile"] ["block_of","high","floor"] (z0b z3B):=⟨rfl,rfl,rfl,by decide +kernel,rfl,by decide +kernel,by decide +kernel⟩
theorem z7x {K:W1} (F:Fun K "laid_floor" "laid_floor" z3B f fd) (hm:mg "laid_floor" = some (.ref f)) (hb:Binds K fd ["block_of","high","floor"] []) (T:Txt K mg):KFn P w K mg base 1 "laid_floor" 3 z0Y :=
 z0U (np:=[]) (fb:=z3V) F hm hb sc_laid_floor (fun c cdv A outer s H E hr hnp=>by
  have hq:=z1v hr
  refine (z05 ?_ ?_)
  ·exact (@z0O _ _ _ _ _ _ ([]) (3) _ hnp sc_laid_floor.nd rfl (by first | exact Or.inl rfl | exact Or.inr rfl) (z5Q z1J (by decide)) rfl (Or.inl rfl))
  refine (z05 ?_ ?_)
  ·refine (z2A PassesOwn.never rfl ?_ ?_ ?_ (by intro _; rfl))
   ·exact (z41 (z02 (pv 2)))
   ·exact (@z0z _ _ _ ([]) (4) _ hnp sc_laid_floor.nd rfl (by first | exact Or.inl rfl | exact Or.inr rfl) (Or.inl rfl))
   ·refine (z0c ?_)
    refine (z2A PassesOwn.never rfl ?_ ?_ ?_ (by intro _; rfl))
    ·exact (z1z rfl T.z_range (z02 (pv 1)) (by rfl))
    ·exact (@z0z _ _ _ ([]) (5) _ hnp sc_laid_floor.nd rfl (by first | exact Or.inl rfl | exact Or.inr rfl) (Or.inl rfl))
    ·refine (z0c ?_)
     exact (z3Z (pv 3) (z58 [] (z0e (@z1O _ _ ([6]) _ _ _ _ _ _ _ _ _ _ rfl (z19 rfl rfl) (z41 (z02 (pv 4))) (fun l s0 H0 ex=>(@z17 _ _ _ _ ([]) (6) _ hnp sc_laid_floor.nd rfl (by first | exact Or.inl rfl | exact Or.inr rfl) (by first | exact Or.inl rfl | exact Or.inr rfl) (by decide))) (fun l s0 H0 ex=>z1M) (fun l s0 H0 ex=>(zfE z0y z18 (z0B (ix_X hq) zgu (pv 0) (z0l (pv 6)) (fun _ _=>rfl)) (z0l (pv 5)) (fun _ _=>rfl))) (z2C hnp rfl) (by intro _; rfl))) (by decide +kernel) (by rfl) (by rfl) (by rfl) (by rfl)) (by rfl) (by rfl) (by rfl) (by rfl) (by rfl))
  refine (z0c ?_)
  refine (z0p ?_)
  exact (z1N rfl T.z_tuple (z0l (pv 3)) (by rfl))) fun ss y h=>z0v h
def z3p:DS:=(dSeq (dAsg (eVar 0) (gTp 3 (z0d (gNm [] 3) (z0d (gNm [] 4) (z0d (gNm [] 5) z10))))) (dSeq (dAsg (eC1 z2c (bVar 5)) (gNm [] 6)) (dSeq (z6q (z01 z0T [.val (eVar 6),.val (eVar 1)])) (dSeq (z6q (z01 z0w [.val (z01 z0C [.val (eC1 pLen (bVar 1)),.val (eVar 3),.val (eVar 2)]),.val (z01 z0C [.val (eC1 pLen (bOf (eOpF pIx 1 (bOf (eD (.int 0)))))),.val (eVar 4),.val (eVar 2)]),.val (eD (.int 64))])) (dSeq (dAsg (eVar 1) (gNm [] 7)) (dSeq (dFor (z1d (eVar 2)) (gNm [] 8) (dAsg (z01 z0Y [.val (eVar 6),.val (eVar 3),.val (eVar 7)]) (gNm [] 7))) (dRet (eVar 7))))))))
def z0q:DF:=gOf [] 9 z3p
theorem z1u:z1k z0q:=z0i
theorem sc_grown_often:FnScope ["rule","floor","often","high","wide","blocks","block_of","grown","growing"] ["rule","floor","often"] (z0b z3c):=⟨rfl,rfl,rfl,by decide +kernel,rfl,by decide +kernel,by decide +kernel⟩
theorem z6D {K:W1} (F:Fun K "grown_often" "grown_often" z3c f fd) (hm:mg "grown_often" = some (.ref f)) (hb:Binds K fd ["rule","floor","often"] []) (T:Txt K mg) (k_refuse_strange:KFn P w K mg base 1 "refuse_strange" 2 z0T) (k_refuse_beyond:KFn P w K mg base 1 "refuse_beyond" 3 z0w) (k_grown_size:KFn P w K mg base 1 "grown_size" 3 z0C) (k_laid_floor:KFn P w K mg base 1 "laid_floor" 3 z0Y):KFn P w K mg base 2 "grown_often" 3 z0q :=
 z0U (np:=[]) (fb:=z3p) F hm hb sc_grown_often (fun c cdv A outer s H E hr hnp=>by
  have hq:=z1v hr
  refine (z05 ?_ ?_)
  ·refine (z5P ?_ ?_ (by rfl) (by rfl) (by rfl))
   ·exact (z02 (pv 0))
   ·exact (z4D rfl (z0N (@z0z _ _ _ ([]) (3) _ hnp sc_grown_often.nd rfl (Or.inl rfl) (Or.inl rfl)) (z0N (@z0z _ _ _ ([]) (4) _ hnp sc_grown_often.nd rfl (Or.inl rfl) (Or.inl rfl)) (z0N (@z0z _ _ _ ([]) (5) _ hnp sc_grown_often.nd rfl (Or.inl rfl) (Or.inl rfl)) z39 (by rfl)) (by rfl)) (by rfl)) (by rfl) (by rfl))
  refine (z05 ?_ ?_)
  ·exact (@z0O _ _ _ _ _ _ ([]) (6) _ hnp sc_grown_often.nd rfl (Or.inl rfl) (z81 rfl rfl T.z_dict (z0l (pv 5)) (by rfl)) rfl (Or.inl rfl))
  refine (z05 ?_ ?_)
  ·exact (z7b (@z07 _ _ _ _ _ (1) _ _ _ _ _ k_refuse_strange z45 (hr.mono (by decide)) rfl (z00 (z02 (pv 6)) (z00 (z02 (pv 1)) z0f (by rfl)) (by rfl)) rfl (by decide) (by rfl) (by rfl)) (by rfl))
  refine (z05 ?_ ?_)
  ·exact (z7b (@z07 _ _ _ _ _ (1) _ _ _ _ _ k_refuse_beyond z2s (hr.mono (by decide)) rfl (z00 (@z07 _ _ _ _ _ (1) _ _ _ _ _ k_grown_size z3w (hr.mono (by decide)) rfl (z00 (z1A rfl T.z_len (z0l (pv 1)) (by rfl)) (z00 (z02 (pv 3)) (z00 (z02 (pv 2)) z0f (by rfl)) (by rfl)) (by rfl)) rfl (by decide) (by rfl) (by rfl)) (z00 (@z07 _ _ _ _ _ (1) _ _ _ _ _ k_grown_size z3w (hr.mono (by decide)) rfl (z00 (z1A rfl T.z_len (z0e (z0B z0y z18 (pv 1) (z0e z09) (fun _ _=>rfl))) (by rfl)) (z00 (z02 (pv 4)) (z00 (z02 (pv 2)) z0f (by rfl)) (by rfl)) (by rfl)) rfl (by decide) (by rfl) (by rfl)) (z00 (z1W rfl T.g_MOST_TILES (by decide)) z0f (by rfl)) (by rfl)) (by rfl)) rfl (by decide) (by rfl) (by rfl)) (by rfl))
  refine (z05 ?_ ?_)
  ·exact (@z0O _ _ _ _ _ _ ([]) (7) _ hnp sc_grown_often.nd rfl (Or.inl rfl) (z02 (pv 1)) rfl (Or.inl rfl))
  refine (z05 ?_ ?_)
  ·refine (z2A PassesOwn.never rfl ?_ ?_ ?_ (by intro _; rfl))
   ·exact (z1z rfl T.z_range (z02 (pv 2)) (by rfl))
   ·exact (@z0z _ _ _ ([]) (8) _ hnp sc_grown_often.nd rfl (Or.inl rfl) (Or.inl rfl))
   ·refine (z0c ?_)
    exact (@z0O _ _ _ _ _ _ ([]) (7) _ hnp sc_grown_often.nd rfl (Or.inl rfl) (@z07 _ _ _ _ _ (1) _ _ _ _ _ k_laid_floor z5B (hr.mono (by decide)) rfl (z00 (z02 (pv 6)) (z00 (z02 (pv 3)) (z00 (z02 (pv 7)) z0f (by rfl)) (by rfl)) (by rfl)) rfl (by decide) (by rfl) (by rfl)) rfl (Or.inl rfl))
  refine (z0c ?_)
  refine (z0p ?_)
  exact (z02 (pv 7))) fun ss y h=>z0v h
def z3q:DS:=(dRet (z01 z0q [.val (eVar 0),.val (eVar 1),.val (eD (.int 1))]))
def z04:DF:=gOf [] 2 z3q
theorem z0s:z1k z04:=z0i
theorem z6z:FnScope ["rule","floor"] ["rule","floor"] (z0b z3d):=⟨rfl,rfl,rfl,by decide +kernel,rfl,by decide +kernel,by decide +kernel⟩
theorem z6E {K:W1} (F:Fun K "grown_floor" "grown_floor" z3d f fd) (hm:mg "grown_floor" = some (.ref f)) (hb:Binds K fd ["rule","floor"] []) (T:Txt K mg) (k_grown_often:KFn P w K mg base 2 "grown_often" 3 z0q):KFn P w K mg base 3 "grown_floor" 2 z04 :=
 z0U (np:=[]) (fb:=z3q) F hm hb z6z (fun c cdv A outer s H E hr hnp=>by
  have hq:=z1v hr
  refine (z0c ?_)
  refine (z0p ?_)
  exact (@z07 _ _ _ _ _ (2) _ _ _ _ _ k_grown_often z1u (hr.mono (by decide)) rfl (z00 (z02 (pv 0)) (z00 (z02 (pv 1)) (z00 z09 z0f (by rfl)) (by rfl)) (by rfl)) rfl (by decide) (by rfl) (by rfl))) fun ss y h=>z0v h
def z3r:DS:=(dRet (eC1 (z1Z []) (bOf (z1G [2] (iSq (eVar 0)) (gNm [] 2) dYes (eOpF pIx 2 (bVar 1))))))
def z1b:DF:=gOf [] 3 z3r
theorem z5h:z1k z1b:=z0i
theorem sc_column_text:FnScope ["floor","column","row"] ["floor","column"] (z0b z3e):=⟨rfl,rfl,rfl,by decide +kernel,rfl,by decide +kernel,by decide +kernel⟩
theorem z6F {K:W1} (F:Fun K "column_text" "column_text" z3e f fd) (hm:mg "column_text" = some (.ref f)) (hb:Binds K fd ["floor","column"] []) (T:Txt K mg):KFn P w K mg base 1 "column_text" 2 z1b :=
 z0U (np:=[]) (fb:=z3r) F hm hb sc_column_text (fun c cdv A outer s H E hr hnp=>by
  have hq:=z1v hr
  refine (z0c ?_)
  refine (z0p ?_)
  exact (z58 [] (z0e (@z1O _ _ ([2]) _ _ _ _ _ _ _ _ _ _ rfl (z19 rfl rfl) (z41 (z02 (pv 0))) (fun l s0 H0 ex=>(@z17 _ _ _ _ ([]) (2) _ hnp sc_column_text.nd rfl (by first | exact Or.inl rfl | exact Or.inr rfl) (by first | exact Or.inl rfl | exact Or.inr rfl) (by decide))) (fun l s0 H0 ex=>z1M) (fun l s0 H0 ex=>(z0B z0y z18 (pv 2) (z0l (pv 1)) (fun _ _=>rfl))) (z2C hnp rfl) (by intro _; rfl))) (by decide +kernel) (by rfl) (by rfl) (by rfl) (by rfl))) fun ss y h=>z0v h
def z2V:DS:=(dRet (eC1 z12 (bOf (z1G [1] (z1d (eC1 pLen (bOf (eOpF pIx 0 (bOf (eD (.int 0))))))) (gNm [] 1) dYes (z01 z1b [.val (eVar 0),.val (eVar 1)])))))
def z0o:DF:=gOf [] 2 z2V
theorem z1Q:z1k z0o:=z0i
theorem sc_turned_floor:FnScope ["floor","column"] ["floor"] (z0b z2K):=⟨rfl,rfl,rfl,by decide +kernel,rfl,by decide +kernel,by decide +kernel⟩
theorem z64 {K:W1} (F:Fun K "turned_floor" "turned_floor" z2K f fd) (hm:mg "turned_floor" = some (.ref f)) (hb:Binds K fd ["floor"] []) (T:Txt K mg) (k_column_text:KFn P w K mg base 1 "column_text" 2 z1b):KFn P w K mg base 2 "turned_floor" 1 z0o :=
 z0U (np:=[]) (fb:=z2V) F hm hb sc_turned_floor (fun c cdv A outer s H E hr hnp=>by
  have hq:=z1v hr
  refine (z0c ?_)
  refine (z0p ?_)
  exact (z1N rfl T.z_tuple (z0e (@z1O _ _ ([1]) _ _ _ _ _ _ _ _ _ _ rfl (z19 rfl rfl) (z1z rfl T.z_range (z1A rfl T.z_len (z0e (z0B z0y z18 (pv 0) (z0e z09) (fun _ _=>rfl))) (by rfl)) (by rfl)) (fun l s0 H0 ex=>(@z17 _ _ _ _ ([]) (1) _ hnp sc_turned_floor.nd rfl (by first | exact Or.inl rfl | exact Or.inr rfl) (by first | exact Or.inl rfl | exact Or.inr rfl) (by decide))) (fun l s0 H0 ex=>z1M) (fun l s0 H0 ex=>(@z07 _ _ _ _ _ (1) _ _ _ _ _ k_column_text z5h (hr.mono (by decide)) rfl (z00 (z02 (pv 0)) (z00 (z02 (pv 1)) z0f (by rfl)) (by rfl)) rfl (by decide) (by rfl) (by rfl))) (z2C hnp rfl) (by intro _; rfl))) (by rfl))) fun ss y h=>z0v h
def z3n:DS:=(dSeq (dAsg (eVar 0) (gTp 3 (z0d (gNm [] 1) (z0d (gNm [] 2) (z0d (gNm [] 3) z10))))) (dRet (eTup (z0u (eVar 2) (z0u (eVar 1) (z0u (eC1 z12 (bOf (z1G [4,5] (iSq (eVar 3)) (gTp 2 (z0d (gNm [] 4) (z0d (gNm [] 5) z10))) dYes (eTup (z0u (eVar 4) (z0u (z01 z0o [.val (eVar 5)]) aNil)))))) aNil))))))
def z0E:DF:=gOf [] 6 z3n
theorem z35:z1k z0E:=z0i
theorem sc_turned_rule:FnScope ["rule","high","wide","blocks","tile","block"] ["rule"] (z0b z3a):=⟨rfl,rfl,rfl,by decide +kernel,rfl,by decide +kernel,by decide +kernel⟩
theorem z6B {K:W1} (F:Fun K "turned_rule" "turned_rule" z3a f fd) (hm:mg "turned_rule" = some (.ref f)) (hb:Binds K fd ["rule"] []) (T:Txt K mg) (k_turned_floor:KFn P w K mg base 2 "turned_floor" 1 z0o):KFn P w K mg base 3 "turned_rule" 1 z0E :=
 z0U (np:=[]) (fb:=z3n) F hm hb sc_turned_rule (fun c cdv A outer s H E hr hnp=>by
  have hq:=z1v hr
  refine (z05 ?_ ?_)
  ·refine (z5P ?_ ?_ (by rfl) (by rfl) (by rfl))
   ·exact (z02 (pv 0))
   ·exact (z4D rfl (z0N (@z0z _ _ _ ([]) (1) _ hnp sc_turned_rule.nd rfl (by first | exact Or.inl rfl | exact Or.inr rfl) (Or.inl rfl)) (z0N (@z0z _ _ _ ([]) (2) _ hnp sc_turned_rule.nd rfl (by first | exact Or.inl rfl | exact Or.inr rfl) (Or.inl rfl)) (z0N (@z0z _ _ _ ([]) (3) _ hnp sc_turned_rule.nd rfl (by first | exact Or.inl rfl | exact Or.inr rfl) (Or.inl rfl)) z39 (by rfl)) (by rfl)) (by rfl)) (by rfl) (by rfl))
  refine (z0c ?_)
  refine (z0p ?_)
  exact (z2B (z0m (z02 (pv 2)) (z0m (z02 (pv 1)) (z0m (z1N rfl T.z_tuple (z0e (@z1O _ _ ([4,5]) _ _ _ _ _ _ _ _ _ _ rfl (z19 rfl rfl) (z41 (z02 (pv 3))) (fun l s0 H0 ex=>(z7e rfl (z23 (@z17 _ _ _ _ ([]) (4) _ hnp sc_turned_rule.nd rfl (by first | exact Or.inl rfl | exact Or.inr rfl) (by first | exact Or.inl rfl | exact Or.inr rfl) (by decide)) (z23 (@z17 _ _ _ _ ([]) (5) _ hnp sc_turned_rule.nd rfl (by first | exact Or.inl rfl | exact Or.inr rfl) (by first | exact Or.inl rfl | exact Or.inr rfl) (by decide)) z5F (by rfl)) (by rfl)) (by rfl) (by rfl))) (fun l s0 H0 ex=>z1M) (fun l s0 H0 ex=>(z2B (z0m (z02 (pv 4)) (z0m (@z07 _ _ _ _ _ (2) _ _ _ _ _ k_turned_floor z1Q (hr.mono (by decide)) rfl (z00 (z02 (pv 5)) z0f (by rfl)) rfl (by decide) (by rfl) (by rfl)) z1J (by rfl)) (by rfl)) (by decide))) (z2C hnp rfl) (by intro _; rfl))) (by rfl)) z1J (by rfl)) (by rfl)) (by rfl)) (by decide))) fun ss y h=>z0v h
def z2W:DS:=(dSeq (dIf (dOr (dNot (dTr (eIsi "str" (bVar 0)))) (dNot (dTr (z4X pLe pLe (eD (.int 1)) (eC1 pLen (bVar 0)) (bVar 1))))) (dRet (eD (.bl false))) z0I) (dRet (eC1 pAll (bOf (z1G [2] (iSq (eVar 0)) (gNm [] 2) dYes (z4X pLe pLe (eD (.str [97])) (eVar 2) (bOf (eD (.str [122])))))))))
def z0x:DF:=gOf [] 3 z2W
theorem z2F:z1k z0x:=z0i
theorem sc_letters_good:FnScope ["thing","most","sign"] ["thing","most"] (z0b z2L):=⟨rfl,rfl,rfl,by decide +kernel,rfl,by decide +kernel,by decide +kernel⟩
theorem z65 {K:W1} (F:Fun K "letters_good" "letters_good" z2L f fd) (hm:mg "letters_good" = some (.ref f)) (hb:Binds K fd ["thing","most"] []) (T:Txt K mg):KFn P w K mg base 1 "letters_good" 2 z0x :=
 z0U (np:=[]) (fb:=z2W) F hm hb sc_letters_good (fun c cdv A outer s H E hr hnp=>by
  have hq:=z1v hr
  refine (z05 ?_ ?_)
  ·refine (z1o ?_ ?_ ?_)
   ·exact (z38 (z37 (z1m (z1w (z5R T.ty_str rfl T.z_isinstance rfl T.z_str boot_str (z0l (pv 0)) (by decide) (by decide) (by rfl) (by rfl)) (by intro _; rfl))) (z1T (z1m (z9p z4M z4M z1B z1B z09 (z1A rfl T.z_len (z0l (pv 0)) (by rfl)) (z0l (pv 1)) (by with_unfolding_all rfl))))))
   ·refine (z0c ?_)
    refine (z0p ?_)
    exact z2m
   ·exact z0S
  refine (z0c ?_)
  refine (z0p ?_)
  exact (zfF rfl rfl T.z_all (z0e (@z1O _ _ ([2]) _ _ _ _ _ _ _ _ _ _ rfl (z19 rfl rfl) (z41 (z02 (pv 0))) (fun l s0 H0 ex=>(@z17 _ _ _ _ ([]) (2) _ hnp sc_letters_good.nd rfl (by first | exact Or.inl rfl | exact Or.inr rfl) (by first | exact Or.inl rfl | exact Or.inr rfl) (by decide))) (fun l s0 H0 ex=>z1M) (fun l s0 H0 ex=>(zcL z4M z4M z1B z1B (z80 [97] (by decide +kernel)) (z02 (pv 2)) (z0e (z80 [122] (by decide +kernel))) (by with_unfolding_all rfl))) (z2C hnp rfl) (by intro _; rfl))) (by rfl))) fun ss y h=>z0v h
def z3X:DS:=(dSeq (dIf (dOr (dNot (dTr (eIsi "tuple" (bVar 0)))) (dNot (dTr (z4X pLe pLe (eD (.int 1)) (eC1 pLen (bVar 0)) (bOf (eD (.int 64))))))) (dRet (eD (.bl false))) z0I) (dSeq (dFor (iSq (eVar 0)) (gNm [] 1) (dIf (dOr (dNot (dTr (z01 z0x [.val (eVar 1),.val (eD (.int 64))]))) (dTr (eOp pNe (eC1 pLen (bVar 1)) (bOf (eC1 pLen (bOf (eOpF pIx 0 (bOf (eD (.int 0)))))))))) (dRet (eD (.bl false))) z0I)) (dRet (eD (.bl true)))))
def z0G:DF:=gOf [] 2 z3X
theorem z3x:z1k z0G:=z0i
theorem sc_floor_good:FnScope ["thing","row"] ["thing"] (z0b z3D):=⟨rfl,rfl,rfl,by decide +kernel,rfl,by decide +kernel,by decide +kernel⟩
theorem z7z {K:W1} (F:Fun K "floor_good" "floor_good" z3D f fd) (hm:mg "floor_good" = some (.ref f)) (hb:Binds K fd ["thing"] []) (T:Txt K mg) (k_letters_good:KFn P w K mg base 1 "letters_good" 2 z0x):KFn P w K mg base 2 "floor_good" 1 z0G :=
 z0U (np:=[]) (fb:=z3X) F hm hb sc_floor_good (fun c cdv A outer s H E hr hnp=>by
  have hq:=z1v hr
  refine (z05 ?_ ?_)
  ·refine (z1o ?_ ?_ ?_)
   ·exact (z38 (z37 (z1m (z1w (z5R T.ty_tuple rfl T.z_isinstance rfl T.z_tuple boot_tuple (z0l (pv 0)) (by decide) (by decide) (by rfl) (by rfl)) (by intro _; rfl))) (z1T (z1m (z9p z4M z4M z1B z1B z09 (z1A rfl T.z_len (z0l (pv 0)) (by rfl)) (z0e (z1W rfl T.g_MOST_TILES (by decide))) (by with_unfolding_all rfl))))))
   ·refine (z0c ?_)
    refine (z0p ?_)
    exact z2m
   ·exact z0S
  refine (z05 ?_ ?_)
  ·refine (z2A PassesOwn.never rfl ?_ ?_ ?_ (by intro _; rfl))
   ·exact (z41 (z02 (pv 0)))
   ·exact (@z0z _ _ _ ([]) (1) _ hnp sc_floor_good.nd rfl (Or.inl rfl) (Or.inl rfl))
   ·refine (z0c ?_)
    refine (z1o ?_ ?_ ?_)
    ·exact (z38 (z37 (z1m (z1w (@z07 _ _ _ _ _ (1) _ _ _ _ _ k_letters_good z2F (hr.mono (by decide)) rfl (z00 (z02 (pv 1)) (z00 (z1W rfl T.g_MOST_TILES (by decide)) z0f (by rfl)) (by rfl)) rfl (by decide) (by rfl) (by rfl)) (by intro _; rfl))) (z1T (z1j (z4L hq) z7A (z1A rfl T.z_len (z0l (pv 1)) (by rfl)) (z0e (z1A rfl T.z_len (z0e (z0B z0y z18 (pv 0) (z0e z09) (fun _ _=>rfl))) (by rfl))) (z0R _)))))
    ·refine (z0c ?_)
     refine (z0p ?_)
     exact z2m
    ·exact z0S
  refine (z0c ?_)
  refine (z0p ?_)
  exact z2m) fun ss y h=>z0v h
def z2g:DS:=(dRet (eC1 z12 (bOf (z1G [1] (iSq (eVar 0)) (gNm [] 1) dYes (eC1 z42 (bVar 1))))))
def z0j:DF:=gOf [] 2 z2g
theorem z1y:z1k z0j:=z0i
theorem sc_mirrored_floor:FnScope ["floor","row"] ["floor"] (z0b z2b):=⟨rfl,rfl,rfl,by decide +kernel,rfl,by decide +kernel,by decide +kernel⟩
theorem z5d {K:W1} (F:Fun K "mirrored_floor" "mirrored_floor" z2b f fd) (hm:mg "mirrored_floor" = some (.ref f)) (hb:Binds K fd ["floor"] []) (T:Txt K mg):KFn P w K mg base 1 "mirrored_floor" 1 z0j :=
 z0U (np:=[]) (fb:=z2g) F hm hb sc_mirrored_floor (fun c cdv A outer s H E hr hnp=>by
  have hq:=z1v hr
  refine (z0c ?_)
  refine (z0p ?_)
  exact (z1N rfl T.z_tuple (z0e (@z1O _ _ ([1]) _ _ _ _ _ _ _ _ _ _ rfl (z19 rfl rfl) (z41 (z02 (pv 0))) (fun l s0 H0 ex=>(@z17 _ _ _ _ ([]) (1) _ hnp sc_mirrored_floor.nd rfl (by first | exact Or.inl rfl | exact Or.inr rfl) (by first | exact Or.inl rfl | exact Or.inr rfl) (by decide))) (fun l s0 H0 ex=>z1M) (fun l s0 H0 ex=>(zaQ (z0l (pv 1)) z8r)) (z2C hnp rfl) (by intro _; rfl))) (by rfl))) fun ss y h=>z0v h
def z2w:DS:=(dSeq (dAsg (eVar 0) (gTp 3 (z0d (gNm [] 1) (z0d (gNm [] 2) (z0d (gNm [] 3) z10))))) (dRet (eTup (z0u (eVar 1) (z0u (eVar 2) (z0u (eC1 z12 (bOf (z1G [4,5] (iSq (eVar 3)) (gTp 2 (z0d (gNm [] 4) (z0d (gNm [] 5) z10))) dYes (eTup (z0u (eVar 4) (z0u (z01 z0j [.val (eVar 5)]) aNil)))))) aNil))))))
def z0K:DF:=gOf [] 6 z2w
theorem z4l:z1k z0K:=z0i
theorem sc_mirrored_rule:FnScope ["rule","high","wide","blocks","tile","block"] ["rule"] (z0b z2o):=⟨rfl,rfl,rfl,by decide +kernel,rfl,by decide +kernel,by decide +kernel⟩
theorem z5u {K:W1} (F:Fun K "mirrored_rule" "mirrored_rule" z2o f fd) (hm:mg "mirrored_rule" = some (.ref f)) (hb:Binds K fd ["rule"] []) (T:Txt K mg) (k_mirrored_floor:KFn P w K mg base 1 "mirrored_floor" 1 z0j):KFn P w K mg base 2 "mirrored_rule" 1 z0K :=
 z0U (np:=[]) (fb:=z2w) F hm hb sc_mirrored_rule (fun c cdv A outer s H E hr hnp=>by
  have hq:=z1v hr
  refine (z05 ?_ ?_)
  ·refine (z5P ?_ ?_ (by rfl) (by rfl) (by rfl))
   ·exact (z02 (pv 0))
   ·exact (z4D rfl (z0N (@z0z _ _ _ ([]) (1) _ hnp sc_mirrored_rule.nd rfl (by first | exact Or.inl rfl | exact Or.inr rfl) (Or.inl rfl)) (z0N (@z0z _ _ _ ([]) (2) _ hnp sc_mirrored_rule.nd rfl (by first | exact Or.inl rfl | exact Or.inr rfl) (Or.inl rfl)) (z0N (@z0z _ _ _ ([]) (3) _ hnp sc_mirrored_rule.nd rfl (by first | exact Or.inl rfl | exact Or.inr rfl) (Or.inl rfl)) z39 (by rfl)) (by rfl)) (by rfl)) (by rfl) (by rfl))
  refine (z0c ?_)
  refine (z0p ?_)
  exact (z2B (z0m (z02 (pv 1)) (z0m (z02 (pv 2)) (z0m (z1N rfl T.z_tuple (z0e (@z1O _ _ ([4,5]) _ _ _ _ _ _ _ _ _ _ rfl (z19 rfl rfl) (z41 (z02 (pv 3))) (fun l s0 H0 ex=>(z7e rfl (z23 (@z17 _ _ _ _ ([]) (4) _ hnp sc_mirrored_rule.nd rfl (by first | exact Or.inl rfl | exact Or.inr rfl) (by first | exact Or.inl rfl | exact Or.inr rfl) (by decide)) (z23 (@z17 _ _ _ _ ([]) (5) _ hnp sc_mirrored_rule.nd rfl (by first | exact Or.inl rfl | exact Or.inr rfl) (by first | exact Or.inl rfl | exact Or.inr rfl) (by decide)) z5F (by rfl)) (by rfl)) (by rfl) (by rfl))) (fun l s0 H0 ex=>z1M) (fun l s0 H0 ex=>(z2B (z0m (z02 (pv 4)) (z0m (@z07 _ _ _ _ _ (1) _ _ _ _ _ k_mirrored_floor z1y (hr.mono (by decide)) rfl (z00 (z02 (pv 5)) z0f (by rfl)) rfl (by decide) (by rfl) (by rfl)) z1J (by rfl)) (by rfl)) (by decide))) (z2C hnp rfl) (by intro _; rfl))) (by rfl)) z1J (by rfl)) (by rfl)) (by rfl)) (by decide))) fun ss y h=>z0v h
def z3S:DS:=(dRet (eAnd (eIsi "int" (bVar 0)) (eAnd (eNot (eIsi "bool" (bVar 0))) (eOpF pLe 1 (bVar 0)))))
def z1q:DF:=gOf [] 2 z3S
theorem z5A:z1k z1q:=z0i
theorem z7g:FnScope ["thing","least"] ["thing","least"] (z0b z3y):=⟨rfl,rfl,rfl,by decide +kernel,rfl,by decide +kernel,by decide +kernel⟩
theorem z7u {K:W1} (F:Fun K "whole_from" "whole_from" z3y f fd) (hm:mg "whole_from" = some (.ref f)) (hb:Binds K fd ["thing","least"] []) (T:Txt K mg):KFn P w K mg base 1 "whole_from" 2 z1q :=
 z0U (np:=[]) (fb:=z3S) F hm hb z7g (fun c cdv A outer s H E hr hnp=>by
  have hq:=z1v hr
  refine (z0c ?_)
  refine (z0p ?_)
  exact (z9u (z5R T.ty_int rfl T.z_isinstance rfl T.z_int boot_int (z0l (pv 0)) (by decide) (by decide) (by rfl) (by rfl)) (z9u (zfC (z5R T.ty_bool rfl T.z_isinstance rfl T.z_bool boot_bool (z0l (pv 0)) (by decide) (by decide) (by rfl) (by rfl))) (z9s (z5S z4M z1B (pv 1) (z0l (pv 0)) (z0R _)))))) fun ss y h=>z0v h
def z2U:DS:=(dRet (eAnd (z01 z1q [.val (eVar 0),.val (eVar 1)]) (eOpF pLe 0 (bVar 2))))
def z0X:DF:=gOf [] 3 z2U
theorem z2E:z1k z0X:=z0i
theorem z5T:FnScope ["thing","least","most"] ["thing","least","most"] (z0b z2J):=⟨rfl,rfl,rfl,by decide +kernel,rfl,by decide +kernel,by decide +kernel⟩
theorem z63 {K:W1} (F:Fun K "whole_within" "whole_within" z2J f fd) (hm:mg "whole_within" = some (.ref f)) (hb:Binds K fd ["thing","least","most"] []) (T:Txt K mg) (k_whole_from:KFn P w K mg base 1 "whole_from" 2 z1q):KFn P w K mg base 2 "whole_within" 3 z0X :=
 z0U (np:=[]) (fb:=z2U) F hm hb z5T (fun c cdv A outer s H E hr hnp=>by
  have hq:=z1v hr
  refine (z0c ?_)
  refine (z0p ?_)
  exact (z9u (@z07 _ _ _ _ _ (1) _ _ _ _ _ k_whole_from z5A (hr.mono (by decide)) rfl (z00 (z02 (pv 0)) (z00 (z02 (pv 1)) z0f (by rfl)) (by rfl)) rfl (by decide) (by rfl) (by rfl)) (z9s (z5S z4M z1B (pv 0) (z0l (pv 2)) (z0R _))))) fun ss y h=>z0v h
def z3T:DS:=(dSeq (dIf (dOr (dNot (dTr (z01 z0X [.val (eVar 0),.val (eD (.int 1)),.val (eD (.int 4))]))) (dNot (dTr (z01 z0X [.val (eVar 1),.val (eD (.int 1)),.val (eD (.int 4))])))) (dRet (eD (.bl false))) z0I) (dRet (eOr (eOpF pGt 0 (bOf (eD (.int 1)))) (eOpF pGt 1 (bOf (eD (.int 1)))))))
def z1a:DF:=gOf [] 2 z3T
theorem z3u:z1k z1a:=z0i
theorem z7h:FnScope ["high","wide"] ["high","wide"] (z0b z3z):=⟨rfl,rfl,rfl,by decide +kernel,rfl,by decide +kernel,by decide +kernel⟩
theorem z7v {K:W1} (F:Fun K "sizes_good" "sizes_good" z3z f fd) (hm:mg "sizes_good" = some (.ref f)) (hb:Binds K fd ["high","wide"] []) (T:Txt K mg) (k_whole_within:KFn P w K mg base 2 "whole_within" 3 z0X):KFn P w K mg base 3 "sizes_good" 2 z1a :=
 z0U (np:=[]) (fb:=z3T) F hm hb z7h (fun c cdv A outer s H E hr hnp=>by
  have hq:=z1v hr
  refine (z05 ?_ ?_)
  ·refine (z1o ?_ ?_ ?_)
   ·exact (z38 (z37 (z1m (z1w (@z07 _ _ _ _ _ (2) _ _ _ _ _ k_whole_within z2E (hr.mono (by decide)) rfl (z00 (z02 (pv 0)) (z00 z09 (z00 (z1W rfl T.g_MOST_SIZE (by decide)) z0f (by rfl)) (by rfl)) (by rfl)) rfl (by decide) (by rfl) (by rfl)) (by intro _; rfl))) (z1T (z1m (z1w (@z07 _ _ _ _ _ (2) _ _ _ _ _ k_whole_within z2E (hr.mono (by decide)) rfl (z00 (z02 (pv 1)) (z00 z09 (z00 (z1W rfl T.g_MOST_SIZE (by decide)) z0f (by rfl)) (by rfl)) (by rfl)) rfl (by decide) (by rfl) (by rfl)) (by intro _; rfl))))))
   ·refine (z0c ?_)
    refine (z0p ?_)
    exact z2m
   ·exact z0S
  refine (z0c ?_)
  refine (z0p ?_)
  exact (se_or (z5S z49 z1B (pv 0) (z0e z09) (z0R _)) (z9s (z5S z49 z1B (pv 1) (z0e z09) (z0R _))))) fun ss y h=>z0v h
def z4v:DS:=(dRet (z01 z0x [.val (eVar 0),.val (eD (.int 1))]))
def z1I:DF:=gOf [] 1 z4v
theorem z6c:z1k z1I:=z0i
theorem z83:FnScope ["thing"] ["thing"] (z0b z4c):=⟨rfl,rfl,rfl,by decide +kernel,rfl,by decide +kernel,by decide +kernel⟩
theorem z8j {K:W1} (F:Fun K "tile_good" "tile_good" z4c f fd) (hm:mg "tile_good" = some (.ref f)) (hb:Binds K fd ["thing"] []) (T:Txt K mg) (k_letters_good:KFn P w K mg base 1 "letters_good" 2 z0x):KFn P w K mg base 2 "tile_good" 1 z1I :=
 z0U (np:=[]) (fb:=z4v) F hm hb z83 (fun c cdv A outer s H E hr hnp=>by
  have hq:=z1v hr
  refine (z0c ?_)
  refine (z0p ?_)
  exact (@z07 _ _ _ _ _ (1) _ _ _ _ _ k_letters_good z2F (hr.mono (by decide)) rfl (z00 (z02 (pv 0)) (z00 z09 z0f (by rfl)) (by rfl)) rfl (by decide) (by rfl) (by rfl))) fun ss y h=>z0v h
def z4x:DS:=(dSeq (dIf (dOr (dNot (dTr (eIsi "tuple" (bVar 2)))) (dTr (eOp pNe (eC1 pLen (bVar 2)) (bOf (eD (.int 2)))))) (dRet (eD (.bl false))) z0I) (dSeq (dAsg (eVar 2) (gTp 2 (z0d (gNm [] 3) (z0d (gNm [] 4) z10)))) (dSeq (dIf (dOr (dNot (dTr (z01 z1I [.val (eVar 3)]))) (dNot (dTr (z01 z0G [.val (eVar 4)])))) (dRet (eD (.bl false))) z0I) (dRet (eAnd (eOp pEq (eC1 pLen (bVar 4)) (bVar 0)) (eOp pEq (eC1 pLen (bOf (eOpF pIx 4 (bOf (eD (.int 0)))))) (bVar 1)))))))
def z15:DF:=gOf [] 5 z4x
theorem z3H:z1k z15:=z0i
theorem sc_pair_good:FnScope ["high","wide","thing","tile","block"] ["high","wide","thing"] (z0b z4e):=⟨rfl,rfl,rfl,by decide +kernel,rfl,by decide +kernel,by decide +kernel⟩
theorem z8l {K:W1} (F:Fun K "pair_good" "pair_good" z4e f fd) (hm:mg "pair_good" = some (.ref f)) (hb:Binds K fd ["high","wide","thing"] []) (T:Txt K mg) (k_floor_good:KFn P w K mg base 2 "floor_good" 1 z0G) (k_tile_good:KFn P w K mg base 2 "tile_good" 1 z1I):KFn P w K mg base 3 "pair_good" 3 z15 :=
 z0U (np:=[]) (fb:=z4x) F hm hb sc_pair_good (fun c cdv A outer s H E hr hnp=>by
  have hq:=z1v hr
  refine (z05 ?_ ?_)
  ·refine (z1o ?_ ?_ ?_)
   ·exact (z38 (z37 (z1m (z1w (z5R T.ty_tuple rfl T.z_isinstance rfl T.z_tuple boot_tuple (z0l (pv 2)) (by decide) (by decide) (by rfl) (by rfl)) (by intro _; rfl))) (z1T (z1j (z4L hq) z7A (z1A rfl T.z_len (z0l (pv 2)) (by rfl)) (z0e z09) (z0R _)))))
   ·refine (z0c ?_)
    refine (z0p ?_)
    exact z2m
   ·exact z0S
  refine (z05 ?_ ?_)
  ·refine (z5P ?_ ?_ (by rfl) (by rfl) (by rfl))
   ·exact (z02 (pv 2))
   ·exact (z4D rfl (z0N (@z0z _ _ _ ([]) (3) _ hnp sc_pair_good.nd rfl (Or.inl rfl) (Or.inl rfl)) (z0N (@z0z _ _ _ ([]) (4) _ hnp sc_pair_good.nd rfl (Or.inl rfl) (Or.inl rfl)) z39 (by rfl)) (by rfl)) (by rfl) (by rfl))
  refine (z05 ?_ ?_)
  ·refine (z1o ?_ ?_ ?_)
   ·exact (z38 (z37 (z1m (z1w (@z07 _ _ _ _ _ (2) _ _ _ _ _ k_tile_good z6c (hr.mono (by decide)) rfl (z00 (z02 (pv 3)) z0f (by rfl)) rfl (by decide) (by rfl) (by rfl)) (by intro _; rfl))) (z1T (z1m (z1w (@z07 _ _ _ _ _ (2) _ _ _ _ _ k_floor_good z3x (hr.mono (by decide)) rfl (z00 (z02 (pv 4)) z0f (by rfl)) rfl (by decide) (by rfl) (by rfl)) (by intro _; rfl))))))
   ·refine (z0c ?_)
    refine (z0p ?_)
    exact z2m
   ·exact z0S
  refine (z0c ?_)
  refine (z0p ?_)
  exact (z9u (z82 (z3t hq) z5x (z1A rfl T.z_len (z0l (pv 4)) (by rfl)) (z0l (pv 0)) (z0R _)) (z9s (z82 (z3t hq) z5x (z1A rfl T.z_len (z0e (z0B z0y z18 (pv 4) (z0e z09) (fun _ _=>rfl))) (by rfl)) (z0l (pv 1)) (z0R _))))) fun ss y h=>z0v h
def z11:DS:=(dSeq (dAsg (eC1 z2c (bVar 0)) (gNm [] 1)) (dSeq (dFor (z9c (eVar 0)) (gTp 2 (z0d (gNm [] 2) (z0d (gNm [] 3) z10))) (dFor (iSq (eC1 (z1Z []) (bOf (eOpF pIx 3 (bOf (eD (.int 1))))))) (gNm [] 4) (dIf (dTr (eOp (pIn true) (eVar 4) (bVar 1))) (dRet (eVar 2)) z0I))) (dRet (eD .non))))
def z0r:DF:=gOf [] 5 z11
theorem z25:z1k z0r:=z0i
theorem sc_first_unblocked:FnScope ["pairs","block_of","place","pair","tile"] ["pairs"] (z0b z1X):=⟨rfl,rfl,rfl,by decide +kernel,rfl,by decide +kernel,by decide +kernel⟩
theorem z4N {K:W1} (F:Fun K "first_unblocked" "first_unblocked" z1X f fd) (hm:mg "first_unblocked" = some (.ref f)) (hb:Binds K fd ["pairs"] []) (T:Txt K mg):KFn P w K mg base 1 "first_unblocked" 1 z0r :=
 z0U (np:=[]) (fb:=z11) F hm hb sc_first_unblocked (fun c cdv A outer s H E hr hnp=>by
  have hq:=z1v hr
  refine (z05 ?_ ?_)
  ·exact (@z0O _ _ _ _ _ _ ([]) (1) _ hnp sc_first_unblocked.nd rfl (Or.inl rfl) (z81 rfl rfl T.z_dict (z0l (pv 0)) (by rfl)) rfl (Or.inl rfl))
  refine (z05 ?_ ?_)
  ·refine (z2A PassesOwn.never rfl ?_ ?_ ?_ (by intro _; rfl))
   ·exact (zaM rfl T.z_enumerate (z02 (pv 0)) (by rfl))
   ·exact (z4D rfl (z0N (@z0z _ _ _ ([]) (2) _ hnp sc_first_unblocked.nd rfl (Or.inl rfl) (Or.inl rfl)) (z0N (@z0z _ _ _ ([]) (3) _ hnp sc_first_unblocked.nd rfl (Or.inl rfl) (Or.inl rfl)) z39 (by rfl)) (by rfl)) (by rfl) (by rfl))
   ·refine (z0c ?_)
    refine (z2A PassesOwn.never rfl ?_ ?_ ?_ (by intro _; rfl))
    ·exact (z41 (z58 [] (z0e (z0B z0y z18 (pv 3) (z0e z09) (fun _ _=>rfl))) (by decide +kernel) (by rfl) (by rfl) (by rfl) (by rfl)))
    ·exact (@z0z _ _ _ ([]) (4) _ hnp sc_first_unblocked.nd rfl (Or.inl rfl) (Or.inl rfl))
    ·refine (z0c ?_)
     refine (z1o ?_ ?_ ?_)
     ·exact (z1j (z61 hq) (z7B true) (z02 (pv 4)) (z0l (pv 1)) rfl)
     ·refine (z0c ?_)
      refine (z0p ?_)
      exact (z02 (pv 2))
     ·exact z0S
  refine (z0c ?_)
  refine (z0p ?_)
  exact z9t) fun ss y h=>z0v h
def z6v:DS:=(dSeq (dIf (dNot (dTr (z01 z1a [.val (eVar 0),.val (eVar 1)]))) z3O z0I) (dSeq (dAsg zdW (gNm [] 3)) (dSeq (dFor (z9c (eVar 2)) (gTp 2 (z0d (gNm [] 4) (z0d (gNm [] 5) z10))) (dSeq (dIf (dOr (dNot (dTr (z01 z15 [.val (eVar 0),.val (eVar 1),.val (eVar 5)]))) (dTr (eOp (pIn false) (eOpF pIx 5 (bOf (eD (.int 0)))) (bVar 3)))) z3O z0I) (zcg 3 (eOpF pIx 5 (bOf (eD (.int 0)))) (eD (.bl true))))) (dSeq (dIf (dTr (eOp pEq (eC1 pLen (bVar 2)) (bOf (eD (.int 0))))) z3O z0I) (dSeq (dAsg (z01 z0r [.val (eVar 2)]) (gNm [] 6)) (dSeq (dIf (dTr (eOp (pIsN true) (eVar 6) (bOf (eD .non)))) z3O z0I) (dRet (eTup (z0u (eVar 0) (z0u (eVar 1) (z0u (eC1 z12 (bOf (eC1 z6V (bVar 2)))) aNil)))))))))))
def z1r:DF:=gOf [] 7 z6v
theorem z7D:z1k z1r:=z0i
theorem sc_rule_of:FnScope ["high","wide","things","seen","place","thing","lacking"] ["high","wide","things"] (z0b z5W):=⟨rfl,rfl,rfl,by decide +kernel,rfl,by decide +kernel,by decide +kernel⟩
theorem zac {K:W1} (F:Fun K "rule_of" "rule_of" z5W f fd) (hm:mg "rule_of" = some (.ref f)) (hb:Binds K fd ["high","wide","things"] []) (T:Txt K mg) (k_sizes_good:KFn P w K mg base 3 "sizes_good" 2 z1a) (k_pair_good:KFn P w K mg base 3 "pair_good" 3 z15) (k_first_unblocked:KFn P w K mg base 1 "first_unblocked" 1 z0r):KFn P w K mg base 4 "rule_of" 3 z1r :=
 z0U (np:=[]) (fb:=z6v) F hm hb sc_rule_of (fun c cdv A outer s H E hr hnp=>by
  have hq:=z1v hr
  refine (z05 ?_ ?_)
  ·refine (z1o ?_ ?_ ?_)
   ·exact (z1m (z1w (@z07 _ _ _ _ _ (3) _ _ _ _ _ k_sizes_good z3u (hr.mono (by decide)) rfl (z00 (z02 (pv 0)) (z00 (z02 (pv 1)) z0f (by rfl)) (by rfl)) rfl (by decide) (by rfl) (by rfl)) (by intro _; rfl)))
   ·refine (z0c ?_)
    exact z2z
   ·exact z0S
  refine (z05 ?_ ?_)
  ·exact (@z0O _ _ _ _ _ _ ([]) (3) _ hnp sc_rule_of.nd rfl (Or.inl rfl) zcK rfl (Or.inl rfl))
  refine (z05 ?_ ?_)
  ·refine (z2A PassesOwn.never rfl ?_ ?_ ?_ (by intro _; rfl))
   ·exact (zaM rfl T.z_enumerate (z02 (pv 2)) (by rfl))
   ·exact (z4D rfl (z0N (@z0z _ _ _ ([]) (4) _ hnp sc_rule_of.nd rfl (Or.inl rfl) (Or.inl rfl)) (z0N (@z0z _ _ _ ([]) (5) _ hnp sc_rule_of.nd rfl (Or.inl rfl) (Or.inl rfl)) z39 (by rfl)) (by rfl)) (by rfl) (by rfl))
   ·refine (z05 ?_ ?_)
    ·refine (z1o ?_ ?_ ?_)
     ·exact (z38 (z37 (z1m (z1w (@z07 _ _ _ _ _ (3) _ _ _ _ _ k_pair_good z3H (hr.mono (by decide)) rfl (z00 (z02 (pv 0)) (z00 (z02 (pv 1)) (z00 (z02 (pv 5)) z0f (by rfl)) (by rfl)) (by rfl)) rfl (by decide) (by rfl) (by rfl)) (by intro _; rfl))) (z1T (z1j (zd0 hq) (z7B false) (z0B z0y z18 (pv 5) (z0e z09) (fun _ _=>rfl)) (z0l (pv 3)) rfl))))
     ·refine (z0c ?_)
      exact z2z
     ·exact z0S
    refine (z0c ?_)
    exact (zed hq (pv 3) (z0B z0y z18 (pv 5) (z0e z09) (fun _ _=>rfl)) z2m (by rfl))
  refine (z05 ?_ ?_)
  ·refine (z1o ?_ ?_ ?_)
   ·exact (z1j (z3t hq) z5x (z1A rfl T.z_len (z0l (pv 2)) (by rfl)) (z0e z09) (z0R _))
   ·refine (z0c ?_)
    exact z2z
   ·exact z0S
  refine (z05 ?_ ?_)
  ·exact (@z0O _ _ _ _ _ _ ([]) (6) _ hnp sc_rule_of.nd rfl (Or.inl rfl) (@z07 _ _ _ _ _ (1) _ _ _ _ _ k_first_unblocked z25 (hr.mono (by decide)) rfl (z00 (z02 (pv 2)) z0f (by rfl)) rfl (by decide) (by rfl) (by rfl)) rfl (Or.inl rfl))
  refine (z05 ?_ ?_)
  ·refine (z1o ?_ ?_ ?_)
   ·exact (z1j zeG zeJ (z02 (pv 6)) (z0e z9t) rfl)
   ·refine (z0c ?_)
    exact z2z
   ·exact z0S
  refine (z0c ?_)
  refine (z0p ?_)
  exact (z2B (z0m (z02 (pv 0)) (z0m (z02 (pv 1)) (z0m (z1N rfl T.z_tuple (z0e (zcI rfl T.z_sorted (z0l (pv 2)))) (by rfl)) z1J (by rfl)) (by rfl)) (by rfl)) (by decide))) fun ss y h=>z0v h
def z3U:DS:=(dRet (z1G [1,2] (iSq (eOpF pIx 0 (bOf (eD (.int 2))))) (gTp 2 (z0d (gNm [] 1) (z0d (gNm [] 2) z10))) dYes (eVar 1)))
def z0L:DF:=gOf [] 3 z3U
theorem z3v:z1k z0L:=z0i
theorem sc_rule_tiles:FnScope ["rule","tile","block"] ["rule"] (z0b z3A):=⟨rfl,rfl,rfl,by decide +kernel,rfl,by decide +kernel,by decide +kernel⟩
theorem z7w {K:W1} (F:Fun K "rule_tiles" "rule_tiles" z3A f fd) (hm:mg "rule_tiles" = some (.ref f)) (hb:Binds K fd ["rule"] []) (T:Txt K mg):KFn P w K mg base 1 "rule_tiles" 1 z0L :=
 z0U (np:=[]) (fb:=z3U) F hm hb sc_rule_tiles (fun c cdv A outer s H E hr hnp=>by
  have hq:=z1v hr
  refine (z0c ?_)
  refine (z0p ?_)
  exact (@z1O _ _ ([1,2]) _ _ _ _ _ _ _ _ _ _ rfl (z19 rfl rfl) (z41 (z0B z0y z18 (pv 0) (z0e z09) (fun _ _=>rfl))) (fun l s0 H0 ex=>(z7e rfl (z23 (@z17 _ _ _ _ ([]) (1) _ hnp sc_rule_tiles.nd rfl (by first | exact Or.inl rfl | exact Or.inr rfl) (by first | exact Or.inl rfl | exact Or.inr rfl) (by decide)) (z23 (@z17 _ _ _ _ ([]) (2) _ hnp sc_rule_tiles.nd rfl (by first | exact Or.inl rfl | exact Or.inr rfl) (by first | exact Or.inl rfl | exact Or.inr rfl) (by decide)) z5F (by rfl)) (by rfl)) (by rfl) (by rfl))) (fun l s0 H0 ex=>z1M) (fun l s0 H0 ex=>(z02 (pv 1))) (z2C hnp rfl) (by intro _; rfl))) fun ss y h=>z0v h
def z3o:DS:=(dSeq (dAsg (zc7 (z01 z0L [.val (eVar 0)]) (z01 z0L [.val (eVar 1)])) (gNm [] 2)) (dSeq (dIf (dTr (eOp pGt (eC1 pLen (bVar 2)) (bOf (eD (.int 0))))) z3O z0I) (dSeq (dAsg (eOp z2P (eOpF pIx 0 (bOf (eD (.int 0)))) (bOf (eOpF pIx 1 (bOf (eD (.int 0)))))) (gNm [] 3)) (dSeq (dAsg (eOp z2P (eOpF pIx 0 (bOf (eD (.int 1)))) (bOf (eOpF pIx 1 (bOf (eD (.int 1)))))) (gNm [] 4)) (dSeq (z6q (z01 z0w [.val (eVar 3),.val (eVar 4),.val (eD (.int 4))])) (dRet (eTup (z0u (eVar 3) (z0u (eVar 4) (z0u (eC1 z12 (bOf (z1G [5,6] (iSq (eOpF pIx 0 (bOf (eD (.int 2))))) (gTp 2 (z0d (gNm [] 5) (z0d (gNm [] 6) z10))) dYes (eTup (z0u (eVar 5) (z0u (z01 z04 [.val (eVar 1),.val (eVar 6)]) aNil)))))) aNil))))))))))
def z1i:DF:=gOf [] 7 z3o
theorem z5g:z1k z1i:=z0i
theorem sc_joined_rule:FnScope ["rule","other","lone","high","wide","tile","block"] ["rule","other"] (z0b z3b):=⟨rfl,rfl,rfl,by decide +kernel,rfl,by decide +kernel,by decide +kernel⟩
theorem z6C {K:W1} (F:Fun K "joined_rule" "joined_rule" z3b f fd) (hm:mg "joined_rule" = some (.ref f)) (hb:Binds K fd ["rule","other"] []) (T:Txt K mg) (k_refuse_beyond:KFn P w K mg base 1 "refuse_beyond" 3 z0w) (k_grown_floor:KFn P w K mg base 3 "grown_floor" 2 z04) (k_rule_tiles:KFn P w K mg base 1 "rule_tiles" 1 z0L):KFn P w K mg base 4 "joined_rule" 2 z1i :=
 z0U (np:=[]) (fb:=z3o) F hm hb sc_joined_rule (fun c cdv A outer s H E hr hnp=>by
  have hq:=z1v hr
  refine (z05 ?_ ?_)
  ·exact (@z0O _ _ _ _ _ _ ([]) (2) _ hnp sc_joined_rule.nd rfl (by first | exact Or.inl rfl | exact Or.inr rfl) (zei rfl rfl T.z_sorted rfl T.z_set (@z07 _ _ _ _ _ (1) _ _ _ _ _ k_rule_tiles z3v (hr.mono (by decide)) rfl (z00 (z02 (pv 0)) z0f (by rfl)) rfl (by decide) (by rfl) (by rfl)) (@z07 _ _ _ _ _ (1) _ _ _ _ _ k_rule_tiles z3v (hr.mono (by decide)) rfl (z00 (z02 (pv 1)) z0f (by rfl)) rfl (by decide) (by rfl) (by rfl))) rfl (Or.inl rfl))
  refine (z05 ?_ ?_)
  ·refine (z1o ?_ ?_ ?_)
   ·exact (z1j z49 z1B (z1A rfl T.z_len (z0l (pv 2)) (by rfl)) (z0e z09) (z0R _))
   ·refine (z0c ?_)
    exact z2z
   ·exact z0S
  refine (z05 ?_ ?_)
  ·exact (@z0O _ _ _ _ _ _ ([]) (3) _ hnp sc_joined_rule.nd rfl (by first | exact Or.inl rfl | exact Or.inr rfl) (z1V z2Q z2R (z0B z0y z18 (pv 0) (z0e z09) (fun _ _=>rfl)) (z0e (z0B z0y z18 (pv 1) (z0e z09) (fun _ _=>rfl)))) rfl (Or.inl rfl))
  refine (z05 ?_ ?_)
  ·exact (@z0O _ _ _ _ _ _ ([]) (4) _ hnp sc_joined_rule.nd rfl (by first | exact Or.inl rfl | exact Or.inr rfl) (z1V z2Q z2R (z0B z0y z18 (pv 0) (z0e z09) (fun _ _=>rfl)) (z0e (z0B z0y z18 (pv 1) (z0e z09) (fun _ _=>rfl)))) rfl (Or.inl rfl))
  refine (z05 ?_ ?_)
  ·exact (z7b (@z07 _ _ _ _ _ (1) _ _ _ _ _ k_refuse_beyond z2s (hr.mono (by decide)) rfl (z00 (z02 (pv 3)) (z00 (z02 (pv 4)) (z00 (z1W rfl T.g_MOST_SIZE (by decide)) z0f (by rfl)) (by rfl)) (by rfl)) rfl (by decide) (by rfl) (by rfl)) (by rfl))
  refine (z0c ?_)
  refine (z0p ?_)
  exact (z2B (z0m (z02 (pv 3)) (z0m (z02 (pv 4)) (z0m (z1N rfl T.z_tuple (z0e (@z1O _ _ ([5,6]) _ _ _ _ _ _ _ _ _ _ rfl (z19 rfl rfl) (z41 (z0B z0y z18 (pv 0) (z0e z09) (fun _ _=>rfl))) (fun l s0 H0 ex=>(z7e rfl (z23 (@z17 _ _ _ _ ([]) (5) _ hnp sc_joined_rule.nd rfl (by first | exact Or.inl rfl | exact Or.inr rfl) (by first | exact Or.inl rfl | exact Or.inr rfl) (by decide)) (z23 (@z17 _ _ _ _ ([]) (6) _ hnp sc_joined_rule.nd rfl (by first | exact Or.inl rfl | exact Or.inr rfl) (by first | exact Or.inl rfl | exact Or.inr rfl) (by decide)) z5F (by rfl)) (by rfl)) (by rfl) (by rfl))) (fun l s0 H0 ex=>z1M) (fun l s0 H0 ex=>(z2B (z0m (z02 (pv 5)) (z0m (@z07 _ _ _ _ _ (3) _ _ _ _ _ k_grown_floor z0s (hr.mono (by decide)) rfl (z00 (z02 (pv 1)) (z00 (z02 (pv 6)) z0f (by rfl)) (by rfl)) rfl (by decide) (by rfl) (by rfl)) z1J (by rfl)) (by rfl)) (by decide))) (z2C hnp rfl) (by intro _; rfl))) (by rfl)) z1J (by rfl)) (by rfl)) (by rfl)) (by decide))) fun ss y h=>z0v h
def z4w:DS:=(dSeq (dIf (dOr (dNot (dTr (eIsi "tuple" (bVar 0)))) (dTr (eOp pNe (eC1 pLen (bVar 0)) (bOf (eD (.int 3)))))) (dRet (eD (.bl false))) z0I) (dSeq (dAsg (eVar 0) (gTp 3 (z0d (gNm [] 1) (z0d (gNm [] 2) (z0d (gNm [] 3) z10))))) (dSeq (dIf (dOr (dNot (dTr (z01 z1a [.val (eVar 1),.val (eVar 2)]))) (dOr (dNot (dTr (eIsi "tuple" (bVar 3)))) (dTr (eOp pEq (eC1 pLen (bVar 3)) (bOf (eD (.int 0))))))) (dRet (eD (.bl false))) z0I) (dSeq (dAsg (eD (.str [])) (gNm [] 4)) (dSeq (dFor (iSq (eVar 3)) (gNm [] 5) (dSeq (dIf (dOr (dNot (dTr (z01 z15 [.val (eVar 1),.val (eVar 2),.val (eVar 5)]))) (dTr (eOp pLe (eOpF pIx 5 (bOf (eD (.int 0)))) (bVar 4)))) (dRet (eD (.bl false))) z0I) (dAsg (eOpF pIx 5 (bOf (eD (.int 0)))) (gNm [] 4)))) (dRet (eOp (pIsN false) (z01 z0r [.val (eVar 3)]) (bOf (eD .non)))))))))
def z1s:DF:=gOf [] 6 z4w
theorem z6d:z1k z1s:=z0i
theorem sc_rule_good:FnScope ["thing","high","wide","blocks","ahead","pair"] ["thing"] (z0b z4d):=⟨rfl,rfl,rfl,by decide +kernel,rfl,by decide +kernel,by decide +kernel⟩
theorem z8k {K:W1} (F:Fun K "rule_good" "rule_good" z4d f fd) (hm:mg "rule_good" = some (.ref f)) (hb:Binds K fd ["thing"] []) (T:Txt K mg) (k_sizes_good:KFn P w K mg base 3 "sizes_good" 2 z1a) (k_pair_good:KFn P w K mg base 3 "pair_good" 3 z15) (k_first_unblocked:KFn P w K mg base 1 "first_unblocked" 1 z0r):KFn P w K mg base 4 "rule_good" 1 z1s :=
 z0U (np:=[]) (fb:=z4w) F hm hb sc_rule_good (fun c cdv A outer s H E hr hnp=>by
  have hq:=z1v hr
  refine (z05 ?_ ?_)
  ·refine (z1o ?_ ?_ ?_)
   ·exact (z38 (z37 (z1m (z1w (z5R T.ty_tuple rfl T.z_isinstance rfl T.z_tuple boot_tuple (z0l (pv 0)) (by decide) (by decide) (by rfl) (by rfl)) (by intro _; rfl))) (z1T (z1j (z4L hq) z7A (z1A rfl T.z_len (z0l (pv 0)) (by rfl)) (z0e z09) (z0R _)))))
   ·refine (z0c ?_)
    refine (z0p ?_)
    exact z2m
   ·exact z0S
  refine (z05 ?_ ?_)
  ·refine (z5P ?_ ?_ (by rfl) (by rfl) (by rfl))
   ·exact (z02 (pv 0))
   ·exact (z4D rfl (z0N (@z0z _ _ _ ([]) (1) _ hnp sc_rule_good.nd rfl (Or.inl rfl) (Or.inl rfl)) (z0N (@z0z _ _ _ ([]) (2) _ hnp sc_rule_good.nd rfl (Or.inl rfl) (Or.inl rfl)) (z0N (@z0z _ _ _ ([]) (3) _ hnp sc_rule_good.nd rfl (Or.inl rfl) (Or.inl rfl)) z39 (by rfl)) (by rfl)) (by rfl)) (by rfl) (by rfl))
  refine (z05 ?_ ?_)
  ·refine (z1o ?_ ?_ ?_)
   ·exact (z38 (z37 (z1m (z1w (@z07 _ _ _ _ _ (3) _ _ _ _ _ k_sizes_good z3u (hr.mono (by decide)) rfl (z00 (z02 (pv 1)) (z00 (z02 (pv 2)) z0f (by rfl)) (by rfl)) rfl (by decide) (by rfl) (by rfl)) (by intro _; rfl))) (z37 (z1m (z1w (z5R T.ty_tuple rfl T.z_isinstance rfl T.z_tuple boot_tuple (z0l (pv 3)) (by decide) (by decide) (by rfl) (by rfl)) (by intro _; rfl))) (z1T (z1j (z3t hq) z5x (z1A rfl T.z_len (z0l (pv 3)) (by rfl)) (z0e z09) (z0R _))))))
   ·refine (z0c ?_)
    refine (z0p ?_)
    exact z2m
   ·exact z0S
  refine (z05 ?_ ?_)
  ·exact (@z0O _ _ _ _ _ _ ([]) (4) _ hnp sc_rule_good.nd rfl (Or.inl rfl) (z80 [] (by decide +kernel)) rfl (Or.inl rfl))
  refine (z05 ?_ ?_)
  ·refine (z2A PassesOwn.never rfl ?_ ?_ ?_ (by intro _; rfl))
   ·exact (z41 (z02 (pv 3)))
   ·exact (@z0z _ _ _ ([]) (5) _ hnp sc_rule_good.nd rfl (Or.inl rfl) (Or.inl rfl))
   ·refine (z05 ?_ ?_)
    ·refine (z1o ?_ ?_ ?_)
     ·exact (z38 (z37 (z1m (z1w (@z07 _ _ _ _ _ (3) _ _ _ _ _ k_pair_good z3H (hr.mono (by decide)) rfl (z00 (z02 (pv 1)) (z00 (z02 (pv 2)) (z00 (z02 (pv 5)) z0f (by rfl)) (by rfl)) (by rfl)) rfl (by decide) (by rfl) (by rfl)) (by intro _; rfl))) (z1T (z1j z4M z1B (z0B z0y z18 (pv 5) (z0e z09) (fun _ _=>rfl)) (z0l (pv 4)) (z0R _)))))
     ·refine (z0c ?_)
      refine (z0p ?_)
      exact z2m
     ·exact z0S
    refine (z0c ?_)
    exact (@z0O _ _ _ _ _ _ ([]) (4) _ hnp sc_rule_good.nd rfl (Or.inl rfl) (z0B z0y z18 (pv 5) (z0e z09) (fun _ _=>rfl)) rfl (Or.inl rfl))
  refine (z0c ?_)
  refine (z0p ?_)
  exact (z82 zgn zgv (@z07 _ _ _ _ _ (1) _ _ _ _ _ k_first_unblocked z25 (hr.mono (by decide)) rfl (z00 (z02 (pv 3)) z0f (by rfl)) rfl (by decide) (by rfl) (by rfl)) (z0e z9t) rfl)) fun ss y h=>z0v h
def z1h:DS:=(dSeq (dIf (dOr (dTr (eOp pGt (eOp z2P (eOpF pIx 0 (bOf (eD (.int 0)))) (bOf (eOpF pIx 1 (bOf (eD (.int 0)))))) (bOf (eD (.int 4))))) (dTr (eOp pGt (eOp z2P (eOpF pIx 0 (bOf (eD (.int 1)))) (bOf (eOpF pIx 1 (bOf (eD (.int 1)))))) (bOf (eD (.int 4)))))) (dRet (eD (.bl true))) z0I) (dSeq (dAsg (z01 z1i [.val (eVar 0),.val (eVar 1)]) (gNm [] 3)) (dSeq (dIf (dNot (dTr (z01 z1s [.val (eVar 3)]))) (dRet (eD (.bl false))) z0I) (dRet (eOp pEq (z01 z04 [.val (eVar 3),.val (eVar 2)]) (bOf (z01 z04 [.val (eVar 1),.val (z01 z04 [.val (eVar 0),.val (eVar 2)])])))))))
def z08:DF:=gOf [] 4 z1h
theorem z0V:z1k z08:=z0i
theorem sc__law_joined_right:FnScope ["rule","other","floor","both"] ["rule","other","floor"] (z0b z1E):=⟨rfl,rfl,rfl,by decide +kernel,rfl,by decide +kernel,by decide +kernel⟩
theorem z43 {K:W1} (F:Fun K "_law_joined_right" "_law_joined_right" z1E f fd) (hm:mg "_law_joined_right" = some (.ref f)) (hb:Binds K fd ["rule","other","floor"] []) (T:Txt K mg) (k_grown_floor:KFn P w K mg base 3 "grown_floor" 2 z04) (k_joined_rule:KFn P w K mg base 4 "joined_rule" 2 z1i) (k_rule_good:KFn P w K mg base 4 "rule_good" 1 z1s):KFn P w K mg base 5 "_law_joined_right" 3 z08 :=
 z0U (np:=[]) (fb:=z1h) F hm hb sc__law_joined_right (fun c cdv A outer s H E hr hnp=>by
  have hq:=z1v hr
  refine (z05 ?_ ?_)
  ·refine (z1o ?_ ?_ ?_)
   ·exact (z38 (z37 (z1j z49 z1B (z1V z2Q z2R (z0B z0y z18 (pv 0) (z0e z09) (fun _ _=>rfl)) (z0e (z0B z0y z18 (pv 1) (z0e z09) (fun _ _=>rfl)))) (z0e z09) (z0R _)) (z1T (z1j z49 z1B (z1V z2Q z2R (z0B z0y z18 (pv 0) (z0e z09) (fun _ _=>rfl)) (z0e (z0B z0y z18 (pv 1) (z0e z09) (fun _ _=>rfl)))) (z0e z09) (z0R _)))))
   ·refine (z0c ?_)
    refine (z0p ?_)
    exact z2m
   ·exact z0S
  refine (z05 ?_ ?_)
  ·exact (@z0O _ _ _ _ _ _ ([]) (3) _ hnp sc__law_joined_right.nd rfl (Or.inl rfl) (@z07 _ _ _ _ _ (4) _ _ _ _ _ k_joined_rule z5g (hr.mono (by decide)) rfl (z00 (z02 (pv 0)) (z00 (z02 (pv 1)) z0f (by rfl)) (by rfl)) rfl (by decide) (by rfl) (by rfl)) rfl (Or.inl rfl))
  refine (z05 ?_ ?_)
  ·refine (z1o ?_ ?_ ?_)
   ·exact (z1m (z1w (@z07 _ _ _ _ _ (4) _ _ _ _ _ k_rule_good z6d (hr.mono (by decide)) rfl (z00 (z02 (pv 3)) z0f (by rfl)) rfl (by decide) (by rfl) (by rfl)) (by intro _; rfl)))
   ·refine (z0c ?_)
    refine (z0p ?_)
    exact z2m
   ·exact z0S
  refine (z0c ?_)
  refine (z0p ?_)
  exact (z82 (z3t hq) z5x (@z07 _ _ _ _ _ (3) _ _ _ _ _ k_grown_floor z0s (hr.mono (by decide)) rfl (z00 (z02 (pv 3)) (z00 (z02 (pv 2)) z0f (by rfl)) (by rfl)) rfl (by decide) (by rfl) (by rfl)) (z0e (@z07 _ _ _ _ _ (3) _ _ _ _ _ k_grown_floor z0s (hr.mono (by decide)) rfl (z00 (z02 (pv 1)) (z00 (@z07 _ _ _ _ _ (3) _ _ _ _ _ k_grown_floor z0s (hr.mono (by decide)) rfl (z00 (z02 (pv 0)) (z00 (z02 (pv 2)) z0f (by rfl)) (by rfl)) rfl (by decide) (by rfl) (by rfl)) z0f (by rfl)) (by rfl)) rfl (by decide) (by rfl) (by rfl))) (z0R _))) fun ss y h=>z0v h
def z1R:DS:=(dSeq (dAsg (z01 z04 [.val (eVar 0),.val (eVar 1)]) (gNm [] 2)) (dSeq (dIf (dOr (dTr (eOp pNe (z01 z0q [.val (eVar 0),.val (eVar 1),.val (eD (.int 0))]) (bVar 1))) (dTr (eOp pNe (z01 z0q [.val (eVar 0),.val (eVar 1),.val (eD (.int 1))]) (bVar 2)))) (dRet (eD (.bl false))) z0I) (dSeq (dIf (dOr (dTr (eOp pGt (eOp z2P (eC1 pLen (bVar 2)) (bOf (eOpF pIx 0 (bOf (eD (.int 0)))))) (bOf (eD (.int 64))))) (dTr (eOp pGt (eOp z2P (eC1 pLen (bOf (eOpF pIx 2 (bOf (eD (.int 0)))))) (bOf (eOpF pIx 0 (bOf (eD (.int 1)))))) (bOf (eD (.int 64)))))) (dRet (eD (.bl true))) z0I) (dRet (eOp pEq (z01 z0q [.val (eVar 0),.val (eVar 1),.val (eD (.int 2))]) (bOf (z01 z04 [.val (eVar 0),.val (eVar 2)])))))))
def z0k:DF:=gOf [] 3 z1R
theorem z1U:z1k z0k:=z0i
theorem sc__law_often_right:FnScope ["rule","floor","twice"] ["rule","floor"] (z0b z1P):=⟨rfl,rfl,rfl,by decide +kernel,rfl,by decide +kernel,by decide +kernel⟩
theorem z4i {K:W1} (F:Fun K "_law_often_right" "_law_often_right" z1P f fd) (hm:mg "_law_often_right" = some (.ref f)) (hb:Binds K fd ["rule","floor"] []) (T:Txt K mg) (k_grown_often:KFn P w K mg base 2 "grown_often" 3 z0q) (k_grown_floor:KFn P w K mg base 3 "grown_floor" 2 z04):KFn P w K mg base 4 "_law_often_right" 2 z0k :=
 z0U (np:=[]) (fb:=z1R) F hm hb sc__law_often_right (fun c cdv A outer s H E hr hnp=>by
  have hq:=z1v hr
  refine (z05 ?_ ?_)
  ·exact (@z0O _ _ _ _ _ _ ([]) (2) _ hnp sc__law_often_right.nd rfl (Or.inl rfl) (@z07 _ _ _ _ _ (3) _ _ _ _ _ k_grown_floor z0s (hr.mono (by decide)) rfl (z00 (z02 (pv 0)) (z00 (z02 (pv 1)) z0f (by rfl)) (by rfl)) rfl (by decide) (by rfl) (by rfl)) rfl (Or.inl rfl))
  refine (z05 ?_ ?_)
  ·refine (z1o ?_ ?_ ?_)
   ·exact (z38 (z37 (z1j (z4L hq) z7A (@z07 _ _ _ _ _ (2) _ _ _ _ _ k_grown_often z1u (hr.mono (by decide)) rfl (z00 (z02 (pv 0)) (z00 (z02 (pv 1)) (z00 z09 z0f (by rfl)) (by rfl)) (by rfl)) rfl (by decide) (by rfl) (by rfl)) (z0l (pv 1)) (z0R _)) (z1T (z1j (z4L hq) z7A (@z07 _ _ _ _ _ (2) _ _ _ _ _ k_grown_often z1u (hr.mono (by decide)) rfl (z00 (z02 (pv 0)) (z00 (z02 (pv 1)) (z00 z09 z0f (by rfl)) (by rfl)) (by rfl)) rfl (by decide) (by rfl) (by rfl)) (z0l (pv 2)) (z0R _)))))
   ·refine (z0c ?_)
    refine (z0p ?_)
    exact z2m
   ·exact z0S
  refine (z05 ?_ ?_)
  ·refine (z1o ?_ ?_ ?_)
   ·exact (z38 (z37 (z1j z49 z1B (z1V z2Q z2R (z1A rfl T.z_len (z0l (pv 2)) (by rfl)) (z0e (z0B z0y z18 (pv 0) (z0e z09) (fun _ _=>rfl)))) (z0e z09) (z0R _)) (z1T (z1j z49 z1B (z1V z2Q z2R (z1A rfl T.z_len (z0e (z0B z0y z18 (pv 2) (z0e z09) (fun _ _=>rfl))) (by rfl)) (z0e (z0B z0y z18 (pv 0) (z0e z09) (fun _ _=>rfl)))) (z0e z09) (z0R _)))))
   ·refine (z0c ?_)
    refine (z0p ?_)
    exact z2m
   ·exact z0S
  refine (z0c ?_)
  refine (z0p ?_)
  exact (z82 (z3t hq) z5x (@z07 _ _ _ _ _ (2) _ _ _ _ _ k_grown_often z1u (hr.mono (by decide)) rfl (z00 (z02 (pv 0)) (z00 (z02 (pv 1)) (z00 z09 z0f (by rfl)) (by rfl)) (by rfl)) rfl (by decide) (by rfl) (by rfl)) (z0e (@z07 _ _ _ _ _ (3) _ _ _ _ _ k_grown_floor z0s (hr.mono (by decide)) rfl (z00 (z02 (pv 0)) (z00 (z02 (pv 2)) z0f (by rfl)) (by rfl)) rfl (by decide) (by rfl) (by rfl))) (z0R _))) fun ss y h=>z0v h
def zfe:DS:=(dSeq (dFor (iSq (eOp pAdd (eLst (z0u (z01 z0Z [.val (eVar 0),.val (eD (.int 0))]) aNil)) (bOf (eSlN 0 (z3G (eD (.int 1))) (z3G (eD (.int 4))))))) (gNm [] 1) (dSeq (dAsg (z01 z0W [.val (eVar 1)]) (gNm [] 2)) (dSeq (dAsg (z01 z0J [.io 2,.val (eD (.int 4))]) (gNm [] 3)) (dSeq (dAsg (z1G [9] (iSq (eOpF pIx 3 (bOf (eD (.int 2))))) (gNm [] 9) dYes (eOpF pIx 9 (bOf (eD (.int 0))))) (gNm [] 4)) (dSeq (dAsg (z01 z0D [.io 2,.val (eVar 4),.val (eD (.int 4))]) (gNm [] 5)) (dSeq (dAsg (z01 z04 [.val (eVar 3),.val (eVar 5)]) (gNm [] 6)) (dSeq (dIf (dOr (dNot (dTr (z01 z0G [.val (eVar 6)]))) (dTr (eOp pNe (z01 z04 [.val (z01 z0E [.val (eVar 3)]),.val (z01 z0o [.val (eVar 5)])]) (bOf (z01 z0o [.val (eVar 6)]))))) (dRet (eD (.bl false))) z0I) (dSeq (dIf (dTr (eOp pNe (z01 z04 [.val (z01 z0K [.val (eVar 3)]),.val (z01 z0j [.val (eVar 5)])]) (bOf (z01 z0j [.val (eVar 6)])))) (dRet (eD (.bl false))) z0I) (dSeq (dIf (dOr (dTr (eOp pNe (z01 z04 [.val (eVar 3),.val (eSlN 5 z6H (z3G (eD (.int 1))))]) (bOf (eSlN 6 z6H (z3G (eOpF pIx 3 (bOf (eD (.int 0))))))))) (dTr (eOp pNe (z01 z1r [.val (eOpF pIx 3 (bOf (eD (.int 0)))),.val (eOpF pIx 3 (bOf (eD (.int 1)))),.val (eC1 z42 (bOf (eC1 z48 (bOf (eOpF pIx 3 (bOf (eD (.int 2))))))))]) (bVar 3)))) (dRet (eD (.bl false))) z0I) (dSeq (dAsg (eC1 z12 (bOf (z1G [10] (iSq (eVar 4)) (gNm [] 10) dYes (eTup (z0u (eVar 10) (z0u (eTup (z0u (eOpF pAdd 10 (bOf (eOpF pIx 4 (bOf (z01 z0a [.io 2,.val (eC1 pLen (bVar 4))]))))) aNil)) aNil)))))) (gNm [] 7)) (dSeq (dAsg (eTup (z0u (eD (.int 1)) (z0u (eD (.int 2)) (z0u (eVar 7) aNil)))) (gNm [] 8)) (dSeq (dIf (dOr (dNot (dTr (z01 z08 [.val (eVar 3),.val (eVar 8),.val (eVar 5)]))) (dNot (dTr (z01 z08 [.val (eVar 8),.val (eVar 3),.val (eVar 5)])))) (dRet (eD (.bl false))) z0I) (dSeq (dIf (dOr (dNot (dTr (z01 z08 [.val (eVar 3),.val (z01 z0E [.val (eVar 8)]),.val (eVar 5)]))) (dNot (dTr (z01 z08 [.val (eVar 8),.val (eVar 8),.val (eVar 5)])))) (dRet (eD (.bl false))) z0I) (dIf (dOr (dNot (dTr (z01 z0k [.val (eVar 3),.val (eVar 5)]))) (dNot (dTr (z01 z0k [.val (eVar 8),.val (eVar 5)])))) (dRet (eD (.bl false))) z0I)))))))))))))) (dRet (eD (.bl true))))
def G_law:DF:=gOf [] 11 zfe
theorem zgI:z1k G_law:=z0i
theorem sc_law:FnScope ["script","cell","pen","rule","tiles","floor","grown","flat","line","pair","tile"] ["script"] (z0b z7i):=⟨rfl,rfl,rfl,by decide +kernel,rfl,by decide +kernel,by decide +kernel⟩
theorem zgq {K:W1} (F:Fun K "law" "law" z7i f fd) (T:Txt K mg) (k__law_cell_at:KFn P w K mg base 1 "_law_cell_at" 2 z0Z) (k__law_pen_of:KFn P w K mg base 1 "_law_pen_of" 1 z0W) (k__law_draw:KFn P w K mg base 2 "_law_draw" 2 z0a) (k__law_rule_by:KFn P w K mg base 4 "_law_rule_by" 2 z0J) (k__law_floor_by:KFn P w K mg base 3 "_law_floor_by" 3 z0D) (k_grown_floor:KFn P w K mg base 3 "grown_floor" 2 z04) (k_turned_floor:KFn P w K mg base 2 "turned_floor" 1 z0o) (k_turned_rule:KFn P w K mg base 3 "turned_rule" 1 z0E) (k_floor_good:KFn P w K mg base 2 "floor_good" 1 z0G) (k_mirrored_floor:KFn P w K mg base 1 "mirrored_floor" 1 z0j) (k_mirrored_rule:KFn P w K mg base 2 "mirrored_rule" 1 z0K) (k_rule_of:KFn P w K mg base 4 "rule_of" 3 z1r) (k__law_joined_right:KFn P w K mg base 5 "_law_joined_right" 3 z08) (k__law_often_right:KFn P w K mg base 4 "_law_often_right" 2 z0k):FnOk P w K mg base CX0 6 f fd ["script"] (spD 1 G_law) :=
 zgS (np:=[]) (fb:=zfe) F sc_law (fun c cdv A outer s H E hr hnp=>by
  have hq:=z1v hr
  refine (@z05 _ _ _ _ _ _ ?_ ?_)
  ·refine (@z2A _ _ _ _ _ _ _ _ _ PassesOwn.never rfl ?_ ?_ ?_ (by intro _; rfl))
   ·exact (@z41 _ _ _ _ _ (@z1V _ _ _ _ _ _ _ _ _ _ z1F z2r (@z5Q _ _ _ _ _ (@z0m _ _ _ _ _ _ (@z07 _ _ _ _ _ (1) _ _ _ _ _ k__law_cell_at z4T (hr.mono (by decide)) rfl (@z00 _ _ _ _ _ _ (@z02 _ _ _ _ (pv 0)) (@z00 _ _ _ _ _ _ (@z09 _ _ _ _ _) (@z0f _ _) (by rfl)) (by rfl)) rfl (by decide) (by rfl) (by rfl)) (@z1J _ _) (by rfl)) (by decide)) (@z0e _ _ _ _ (@zaP _ _ _ _ _ _ _ _ _ _ (pv 0) (@z7c _ _ _ _ (@z09 _ _ _ _ _)) (@z7c _ _ _ _ (@z09 _ _ _ _ _))))))
   ·exact (@z0z _ _ _ ([]) (1) _ hnp sc_law.nd rfl (by first | exact Or.inl rfl | exact Or.inr rfl) (Or.inl rfl))
   ·refine (@z05 _ _ _ _ _ _ ?_ ?_)
    ·exact (@z0O _ _ _ _ _ _ ([]) (2) _ hnp sc_law.nd rfl (by first | exact Or.inl rfl | exact Or.inr rfl) (@z07 _ _ _ _ _ (1) _ _ _ _ _ k__law_pen_of z5i (hr.mono (by decide)) rfl (@z00 _ _ _ _ _ _ (@z02 _ _ _ _ (pv 1)) (@z0f _ _) (by rfl)) rfl (by decide) (by rfl) (by rfl)) rfl (Or.inl rfl))
    refine (@z05 _ _ _ _ _ _ ?_ ?_)
    ·exact (@z0O _ _ _ _ _ _ ([]) (3) _ hnp sc_law.nd rfl (by first | exact Or.inl rfl | exact Or.inr rfl) (@z07 _ _ _ _ _ (4) _ _ _ _ _ k__law_rule_by z4S (hr.mono (by decide)) rfl (@z1S _ _ _ _ _ _ (pv 2) (@z00 _ _ _ _ _ _ (@z09 _ _ _ _ _) (@z0f _ _) (by rfl)) (by rfl)) rfl (by decide) (by rfl) (by rfl)) rfl (Or.inl rfl))
    refine (@z05 _ _ _ _ _ _ ?_ ?_)
    ·exact (@z0O _ _ _ _ _ _ ([]) (4) _ hnp sc_law.nd rfl (by first | exact Or.inl rfl | exact Or.inr rfl) (@z1O _ _ ([9]) _ _ _ _ _ _ _ _ _ _ rfl (@z19 _ _ _ rfl rfl) (@z41 _ _ _ _ _ (@z0B _ _ _ _ _ _ _ _ _ z0y z18 (pv 3) (@z0e _ _ _ _ (@z09 _ _ _ _ _)) (fun _ _=>rfl))) (fun l s0 H0 ex=>(@z17 _ _ _ _ ([]) (9) _ hnp sc_law.nd rfl (by first | exact Or.inl rfl | exact Or.inr rfl) (by first | exact Or.inl rfl | exact Or.inr rfl) (by decide))) (fun l s0 H0 ex=>(@z1M _ _)) (fun l s0 H0 ex=>(@z0B _ _ _ _ _ _ _ _ _ z0y z18 (pv 9) (@z0e _ _ _ _ (@z09 _ _ _ _ _)) (fun _ _=>rfl))) (z2C hnp rfl) (by intro _; rfl)) rfl (Or.inl rfl))
    refine (@z05 _ _ _ _ _ _ ?_ ?_)
    ·exact (@z0O _ _ _ _ _ _ ([]) (5) _ hnp sc_law.nd rfl (by first | exact Or.inl rfl | exact Or.inr rfl) (@z07 _ _ _ _ _ (3) _ _ _ _ _ k__law_floor_by z4n (hr.mono (by decide)) rfl (@z1S _ _ _ _ _ _ (pv 2) (@z00 _ _ _ _ _ _ (@z02 _ _ _ _ (pv 4)) (@z00 _ _ _ _ _ _ (@z09 _ _ _ _ _) (@z0f _ _) (by rfl)) (by rfl)) (by rfl)) rfl (by decide) (by rfl) (by rfl)) rfl (Or.inl rfl))
    refine (@z05 _ _ _ _ _ _ ?_ ?_)
    ·exact (@z0O _ _ _ _ _ _ ([]) (6) _ hnp sc_law.nd rfl (by first | exact Or.inl rfl | exact Or.inr rfl) (@z07 _ _ _ _ _ (3) _ _ _ _ _ k_grown_floor z0s (hr.mono (by decide)) rfl (@z00 _ _ _ _ _ _ (@z02 _ _ _ _ (pv 3)) (@z00 _ _ _ _ _ _ (@z02 _ _ _ _ (pv 5)) (@z0f _ _) (by rfl)) (by rfl)) rfl (by decide) (by rfl) (by rfl)) rfl (Or.inl rfl))
    refine (@z05 _ _ _ _ _ _ ?_ ?_)
    ·refine (@z1o _ _ _ _ _ _ _ _ _ ?_ ?_ ?_)
     ·exact (@z38 _ _ _ _ (@z37 _ _ _ _ _ _ _ _ (@z1m _ _ _ _ _ (@z1w _ _ _ _ (@z07 _ _ _ _ _ (2) _ _ _ _ _ k_floor_good z3x (hr.mono (by decide)) rfl (@z00 _ _ _ _ _ _ (@z02 _ _ _ _ (pv 6)) (@z0f _ _) (by rfl)) rfl (by decide) (by rfl) (by rfl)) (by intro _; rfl))) (@z1T _ _ _ _ _ (@z1j _ _ _ _ _ _ _ _ _ _ (z4L hq) z7A (@z07 _ _ _ _ _ (3) _ _ _ _ _ k_grown_floor z0s (hr.mono (by decide)) rfl (@z00 _ _ _ _ _ _ (@z07 _ _ _ _ _ (3) _ _ _ _ _ k_turned_rule z35 (hr.mono (by decide)) rfl (@z00 _ _ _ _ _ _ (@z02 _ _ _ _ (pv 3)) (@z0f _ _) (by rfl)) rfl (by decide) (by rfl) (by rfl)) (@z00 _ _ _ _ _ _ (@z07 _ _ _ _ _ (2) _ _ _ _ _ k_turned_floor z1Q (hr.mono (by decide)) rfl (@z00 _ _ _ _ _ _ (@z02 _ _ _ _ (pv 5)) (@z0f _ _) (by rfl)) rfl (by decide) (by rfl) (by rfl)) (@z0f _ _) (by rfl)) (by rfl)) rfl (by decide) (by rfl) (by rfl)) (@z0e _ _ _ _ (@z07 _ _ _ _ _ (2) _ _ _ _ _ k_turned_floor z1Q (hr.mono (by decide)) rfl (@z00 _ _ _ _ _ _ (@z02 _ _ _ _ (pv 6)) (@z0f _ _) (by rfl)) rfl (by decide) (by rfl) (by rfl))) (z0R _)))))
     ·refine (@z0c _ _ _ _ ?_)
      refine (@z0p _ _ _ _ _ ?_)
      exact (@z2m _ _ _ _ _)
     ·exact z0S
    refine (@z05 _ _ _ _ _ _ ?_ ?_)
    ·refine (@z1o _ _ _ _ _ _ _ _ _ ?_ ?_ ?_)
     ·exact (@z1j _ _ _ _ _ _ _ _ _ _ (z4L hq) z7A (@z07 _ _ _ _ _ (3) _ _ _ _ _ k_grown_floor z0s (hr.mono (by decide)) rfl (@z00 _ _ _ _ _ _ (@z07 _ _ _ _ _ (2) _ _ _ _ _ k_mirrored_rule z4l (hr.mono (by decide)) rfl (@z00 _ _ _ _ _ _ (@z02 _ _ _ _ (pv 3)) (@z0f _ _) (by rfl)) rfl (by decide) (by rfl) (by rfl)) (@z00 _ _ _ _ _ _ (@z07 _ _ _ _ _ (1) _ _ _ _ _ k_mirrored_floor z1y (hr.mono (by decide)) rfl (@z00 _ _ _ _ _ _ (@z02 _ _ _ _ (pv 5)) (@z0f _ _) (by rfl)) rfl (by decide) (by rfl) (by rfl)) (@z0f _ _) (by rfl)) (by rfl)) rfl (by decide) (by rfl) (by rfl)) (@z0e _ _ _ _ (@z07 _ _ _ _ _ (1) _ _ _ _ _ k_mirrored_floor z1y (hr.mono (by decide)) rfl (@z00 _ _ _ _ _ _ (@z02 _ _ _ _ (pv 6)) (@z0f _ _) (by rfl)) rfl (by decide) (by rfl) (by rfl))) (z0R _))
     ·refine (@z0c _ _ _ _ ?_)
      refine (@z0p _ _ _ _ _ ?_)
      exact (@z2m _ _ _ _ _)
     ·exact z0S
    refine (@z05 _ _ _ _ _ _ ?_ ?_)
    ·refine (@z1o _ _ _ _ _ _ _ _ _ ?_ ?_ ?_)
     ·exact (@z38 _ _ _ _ (@z37 _ _ _ _ _ _ _ _ (@z1j _ _ _ _ _ _ _ _ _ _ (z4L hq) z7A (@z07 _ _ _ _ _ (3) _ _ _ _ _ k_grown_floor z0s (hr.mono (by decide)) rfl (@z00 _ _ _ _ _ _ (@z02 _ _ _ _ (pv 3)) (@z00 _ _ _ _ _ _ (@zaP _ _ _ _ _ _ _ _ _ _ (pv 5) (@zaJ _ _) (@z7c _ _ _ _ (@z09 _ _ _ _ _))) (@z0f _ _) (by rfl)) (by rfl)) rfl (by decide) (by rfl) (by rfl)) (@z0e _ _ _ _ (@zaP _ _ _ _ _ _ _ _ _ _ (pv 6) (@zaJ _ _) (@z7c _ _ _ _ (@z0B _ _ _ _ _ _ _ _ _ z0y z18 (pv 3) (@z0e _ _ _ _ (@z09 _ _ _ _ _)) (fun _ _=>rfl))))) (z0R _)) (@z1T _ _ _ _ _ (@z1j _ _ _ _ _ _ _ _ _ _ (z4L hq) z7A (@z07 _ _ _ _ _ (4) _ _ _ _ _ k_rule_of z7D (hr.mono (by decide)) rfl (@z00 _ _ _ _ _ _ (@z0B _ _ _ _ _ _ _ _ _ z0y z18 (pv 3) (@z0e _ _ _ _ (@z09 _ _ _ _ _)) (fun _ _=>rfl)) (@z00 _ _ _ _ _ _ (@z0B _ _ _ _ _ _ _ _ _ z0y z18 (pv 3) (@z0e _ _ _ _ (@z09 _ _ _ _ _)) (fun _ _=>rfl)) (@z00 _ _ _ _ _ _ (@zaQ _ _ _ _ _ _ _ (@z0e _ _ _ _ (@zcJ _ _ _ _ _ _ rfl rfl T.z_list (@z0e _ _ _ _ (@z0B _ _ _ _ _ _ _ _ _ z0y z18 (pv 3) (@z0e _ _ _ _ (@z09 _ _ _ _ _)) (fun _ _=>rfl))) (by rfl))) (@z8r _ _ _ _)) (@z0f _ _) (by rfl)) (by rfl)) (by rfl)) rfl (by decide) (by rfl) (by rfl)) (@z0l _ _ _ _ (pv 3)) (z0R _)))))
     ·refine (@z0c _ _ _ _ ?_)
      refine (@z0p _ _ _ _ _ ?_)
      exact (@z2m _ _ _ _ _)
     ·exact z0S
    refine (@z05 _ _ _ _ _ _ ?_ ?_)
    ·exact (@z0O _ _ _ _ _ _ ([]) (7) _ hnp sc_law.nd rfl (by first | exact Or.inl rfl | exact Or.inr rfl) (@z1N _ _ _ _ _ _ rfl T.z_tuple (@z0e _ _ _ _ (@z1O _ _ ([10]) _ _ _ _ _ _ _ _ _ _ rfl (@z19 _ _ _ rfl rfl) (@z41 _ _ _ _ _ (@z02 _ _ _ _ (pv 4))) (fun l s0 H0 ex=>(@z17 _ _ _ _ ([]) (10) _ hnp sc_law.nd rfl (by first | exact Or.inl rfl | exact Or.inr rfl) (by first | exact Or.inl rfl | exact Or.inr rfl) (by decide))) (fun l s0 H0 ex=>(@z1M _ _)) (fun l s0 H0 ex=>(@z2B _ _ _ _ _ _ (@z0m _ _ _ _ _ _ (@z02 _ _ _ _ (pv 10)) (@z0m _ _ _ _ _ _ (@z2B _ _ _ _ _ _ (@z0m _ _ _ _ _ _ (@z4E _ _ _ _ _ _ _ _ _ _ z1F z2r (pv 10) (@z0e _ _ _ _ (@z0B _ _ _ _ _ _ _ _ _ z0y z18 (pv 4) (@z0e _ _ _ _ (@z07 _ _ _ _ _ (2) _ _ _ _ _ k__law_draw z0n (hr.mono (by decide)) rfl (@z1S _ _ _ _ _ _ (pv 2) (@z00 _ _ _ _ _ _ (@z1A _ _ _ _ _ _ rfl T.z_len (@z0l _ _ _ _ (pv 4)) (by rfl)) (@z0f _ _) (by rfl)) (by rfl)) rfl (by decide) (by rfl) (by rfl))) (fun _ _=>rfl)))) (@z1J _ _) (by rfl)) (by decide)) (@z1J _ _) (by rfl)) (by rfl)) (by decide))) (z2C hnp rfl) (by intro _; rfl))) (by rfl)) rfl (Or.inl rfl))
    refine (@z05 _ _ _ _ _ _ ?_ ?_)
    ·exact (@z0O _ _ _ _ _ _ ([]) (8) _ hnp sc_law.nd rfl (by first | exact Or.inl rfl | exact Or.inr rfl) (@z2B _ _ _ _ _ _ (@z0m _ _ _ _ _ _ (@z09 _ _ _ _ _) (@z0m _ _ _ _ _ _ (@z09 _ _ _ _ _) (@z0m _ _ _ _ _ _ (@z02 _ _ _ _ (pv 7)) (@z1J _ _) (by rfl)) (by rfl)) (by rfl)) (by decide)) rfl (Or.inl rfl))
    refine (@z05 _ _ _ _ _ _ ?_ ?_)
    ·refine (@z1o _ _ _ _ _ _ _ _ _ ?_ ?_ ?_)
     ·exact (@z38 _ _ _ _ (@z37 _ _ _ _ _ _ _ _ (@z1m _ _ _ _ _ (@z1w _ _ _ _ (@z07 _ _ _ _ _ (5) _ _ _ _ _ k__law_joined_right z0V (hr.mono (by decide)) rfl (@z00 _ _ _ _ _ _ (@z02 _ _ _ _ (pv 3)) (@z00 _ _ _ _ _ _ (@z02 _ _ _ _ (pv 8)) (@z00 _ _ _ _ _ _ (@z02 _ _ _ _ (pv 5)) (@z0f _ _) (by rfl)) (by rfl)) (by rfl)) rfl (by decide) (by rfl) (by rfl)) (by intro _; rfl))) (@z1T _ _ _ _ _ (@z1m _ _ _ _ _ (@z1w _ _ _ _ (@z07 _ _ _ _ _ (5) _ _ _ _ _ k__law_joined_right z0V (hr.mono (by decide)) rfl (@z00 _ _ _ _ _ _ (@z02 _ _ _ _ (pv 8)) (@z00 _ _ _ _ _ _ (@z02 _ _ _ _ (pv 3)) (@z00 _ _ _ _ _ _ (@z02 _ _ _ _ (pv 5)) (@z0f _ _) (by rfl)) (by rfl)) (by rfl)) rfl (by decide) (by rfl) (by rfl)) (by intro _; rfl))))))
     ·refine (@z0c _ _ _ _ ?_)
      refine (@z0p _ _ _ _ _ ?_)
      exact (@z2m _ _ _ _ _)
     ·exact z0S
    refine (@z05 _ _ _ _ _ _ ?_ ?_)
    ·refine (@z1o _ _ _ _ _ _ _ _ _ ?_ ?_ ?_)
     ·exact (@z38 _ _ _ _ (@z37 _ _ _ _ _ _ _ _ (@z1m _ _ _ _ _ (@z1w _ _ _ _ (@z07 _ _ _ _ _ (5) _ _ _ _ _ k__law_joined_right z0V (hr.mono (by decide)) rfl (@z00 _ _ _ _ _ _ (@z02 _ _ _ _ (pv 3)) (@z00 _ _ _ _ _ _ (@z07 _ _ _ _ _ (3) _ _ _ _ _ k_turned_rule z35 (hr.mono (by decide)) rfl (@z00 _ _ _ _ _ _ (@z02 _ _ _ _ (pv 8)) (@z0f _ _) (by rfl)) rfl (by decide) (by rfl) (by rfl)) (@z00 _ _ _ _ _ _ (@z02 _ _ _ _ (pv 5)) (@z0f _ _) (by rfl)) (by rfl)) (by rfl)) rfl (by decide) (by rfl) (by rfl)) (by intro _; rfl))) (@z1T _ _ _ _ _ (@z1m _ _ _ _ _ (@z1w _ _ _ _ (@z07 _ _ _ _ _ (5) _ _ _ _ _ k__law_joined_right z0V (hr.mono (by decide)) rfl (@z00 _ _ _ _ _ _ (@z02 _ _ _ _ (pv 8)) (@z00 _ _ _ _ _ _ (@z02 _ _ _ _ (pv 8)) (@z00 _ _ _ _ _ _ (@z02 _ _ _ _ (pv 5)) (@z0f _ _) (by rfl)) (by rfl)) (by rfl)) rfl (by decide) (by rfl) (by rfl)) (by intro _; rfl))))))
     ·refine (@z0c _ _ _ _ ?_)
      refine (@z0p _ _ _ _ _ ?_)
      exact (@z2m _ _ _ _ _)
     ·exact z0S
    refine (@z0c _ _ _ _ ?_)
    refine (@z1o _ _ _ _ _ _ _ _ _ ?_ ?_ ?_)
    ·exact (@z38 _ _ _ _ (@z37 _ _ _ _ _ _ _ _ (@z1m _ _ _ _ _ (@z1w _ _ _ _ (@z07 _ _ _ _ _ (4) _ _ _ _ _ k__law_often_right z1U (hr.mono (by decide)) rfl (@z00 _ _ _ _ _ _ (@z02 _ _ _ _ (pv 3)) (@z00 _ _ _ _ _ _ (@z02 _ _ _ _ (pv 5)) (@z0f _ _) (by rfl)) (by rfl)) rfl (by decide) (by rfl) (by rfl)) (by intro _; rfl))) (@z1T _ _ _ _ _ (@z1m _ _ _ _ _ (@z1w _ _ _ _ (@z07 _ _ _ _ _ (4) _ _ _ _ _ k__law_often_right z1U (hr.mono (by decide)) rfl (@z00 _ _ _ _ _ _ (@z02 _ _ _ _ (pv 8)) (@z00 _ _ _ _ _ _ (@z02 _ _ _ _ (pv 5)) (@z0f _ _) (by rfl)) (by rfl)) rfl (by decide) (by rfl) (by rfl)) (by intro _; rfl))))))
    ·refine (@z0c _ _ _ _ ?_)
     refine (@z0p _ _ _ _ _ ?_)
     exact (@z2m _ _ _ _ _)
    ·exact z0S
  refine (@z0c _ _ _ _ ?_)
  refine (@z0p _ _ _ _ _ ?_)
  exact (@z2m _ _ _ _ _)) fun ss y h=>z0v h
theorem all_mk {l:PySem.W.OpenLaw} {w:Wq} {K:W1} {h:Heap} {mg:Str→Option Value} {fa:Addr} (X:K.In h) (G:h.Ns Wz mg) (hfa:mg "law" = some (.ref fa))
  (d0:FnH K "_law_cell_at" z2N)
  (d1:FnH K "_law_pen_of" z3f)
  (d2:FnH K "_law_next" z4g)
  (d3:FnH K "_law_draw" z4h)
  (d4:FnH K "_law_sizes_by" z2p)
  (d5:FnH K "_law_pick" z4f)
  (d6:FnH K "_law_rule_by" z2M)
  (d7:FnH K "_law_floor_by" z2q)
  (d8:FnH K "refuse_strange" z2a)
  (d9:FnH K "refuse_beyond" z2n)
  (d10:FnH K "grown_size" z3C)
  (d11:FnH K "laid_floor" z3B)
  (d12:FnH K "grown_often" z3c)
  (d13:FnH K "grown_floor" z3d)
  (d14:FnH K "column_text" z3e)
  (d15:FnH K "turned_floor" z2K)
  (d16:FnH K "turned_rule" z3a)
  (d17:FnH K "letters_good" z2L)
  (d18:FnH K "floor_good" z3D)
  (d19:FnH K "mirrored_floor" z2b)
  (d20:FnH K "mirrored_rule" z2o)
  (d21:FnH K "whole_from" z3y)
  (d22:FnH K "whole_within" z2J)
  (d23:FnH K "sizes_good" z3z)
  (d24:FnH K "tile_good" z4c)
  (d25:FnH K "pair_good" z4e)
  (d26:FnH K "first_unblocked" z1X)
  (d27:FnH K "rule_of" z5W)
  (d28:FnH K "rule_tiles" z3A)
  (d29:FnH K "joined_rule" z3b)
  (d30:FnH K "rule_good" z4d)
  (d31:FnH K "_law_joined_right" z1E)
  (d32:FnH K "_law_often_right" z1P)
  (a33:nsIn K Wz "law" = some (some (.ref f33)))
  (l33:K.lookup f33=some ⟨oc33,od33,.func (QF "law" "law" (z3N z7i) (z2u z7i) (z0b z7i) .none kV33 dc33 pm33 an33 cd33 ct33),sl33⟩)
  (c33:codeIn K cd33 "law" = true)
  (k33:keepIn K (.ref f33)=true)
  (z_all:nsIn K Wz "all" = some none)
  (z_bool:nsIn K Wz "bool" = some none)
  (z_dict:nsIn K Wz "dict" = some none)
  (z_enumerate:nsIn K Wz "enumerate" = some none)
  (z_int:nsIn K Wz "int" = some none)
  (z_isinstance:nsIn K Wz "isinstance" = some none)
  (z_len:nsIn K Wz "len" = some none)
  (z_list:nsIn K Wz "list" = some none)
  (z_max:nsIn K Wz "max" = some none)
  (z_range:nsIn K Wz "range" = some none)
  (z_set:nsIn K Wz "set" = some none)
  (z_sorted:nsIn K Wz "sorted" = some none)
  (z_str:nsIn K Wz "str" = some none)
  (z_tuple:nsIn K Wz "tuple" = some none)
  (g_MOST_SIZE:nsIn K Wz "MOST_SIZE" = some (some (.int 4 t_MOST_SIZE)))
  (g_MOST_TILES:nsIn K Wz "MOST_TILES" = some (some (.int 64 t_MOST_TILES)))
  : ∃ fd:Q7,(∀ (s:W2) (v:Value),BindsTo s fd ⟨[v],[]⟩ [("script",v)])∧∀ base:Heap,K.In base→base.Ns Wz mg→FnOk l.prog w K mg base CX0 6 fa fd ["script"] (spD 1 G_law):=by
 have e:=hfa.symm.trans (mg_of X G a33)
 cases e
 have T:Txt K mg:=⟨WL X G z_all,WL X G z_bool,WL X G z_dict,WL X G z_enumerate,WL X G z_int,WL X G z_isinstance,WL X G z_len,WL X G z_list,WL X G z_max,WL X G z_range,WL X G z_set,WL X G z_sorted,WL X G z_str,WL X G z_tuple,zcC,ze5,ze4,zaA,⟨_,mg_of X G g_MOST_SIZE⟩,⟨_,mg_of X G g_MOST_TILES⟩⟩
 obtain ⟨f0,fd0,F0,m0⟩:=fnH X G d0
 obtain ⟨f1,fd1,F1,m1⟩:=fnH X G d1
 obtain ⟨f2,fd2,F2,m2⟩:=fnH X G d2
 obtain ⟨f3,fd3,F3,m3⟩:=fnH X G d3
 obtain ⟨f4,fd4,F4,m4⟩:=fnH X G d4
 obtain ⟨f5,fd5,F5,m5⟩:=fnH X G d5
 obtain ⟨f6,fd6,F6,m6⟩:=fnH X G d6
 obtain ⟨f7,fd7,F7,m7⟩:=fnH X G d7
 obtain ⟨f8,fd8,F8,m8⟩:=fnH X G d8
 obtain ⟨f9,fd9,F9,m9⟩:=fnH X G d9
 obtain ⟨f10,fd10,F10,m10⟩:=fnH X G d10
 obtain ⟨f11,fd11,F11,m11⟩:=fnH X G d11
 obtain ⟨f12,fd12,F12,m12⟩:=fnH X G d12
 obtain ⟨f13,fd13,F13,m13⟩:=fnH X G d13
 obtain ⟨f14,fd14,F14,m14⟩:=fnH X G d14
 obtain ⟨f15,fd15,F15,m15⟩:=fnH X G d15
 obtain ⟨f16,fd16,F16,m16⟩:=fnH X G d16
 obtain ⟨f17,fd17,F17,m17⟩:=fnH X G d17
 obtain ⟨f18,fd18,F18,m18⟩:=fnH X G d18
 obtain ⟨f19,fd19,F19,m19⟩:=fnH X G d19
 obtain ⟨f20,fd20,F20,m20⟩:=fnH X G d20
 obtain ⟨f21,fd21,F21,m21⟩:=fnH X G d21
 obtain ⟨f22,fd22,F22,m22⟩:=fnH X G d22
 obtain ⟨f23,fd23,F23,m23⟩:=fnH X G d23
 obtain ⟨f24,fd24,F24,m24⟩:=fnH X G d24
 obtain ⟨f25,fd25,F25,m25⟩:=fnH X G d25
 obtain ⟨f26,fd26,F26,m26⟩:=fnH X G d26
 obtain ⟨f27,fd27,F27,m27⟩:=fnH X G d27
 obtain ⟨f28,fd28,F28,m28⟩:=fnH X G d28
 obtain ⟨f29,fd29,F29,m29⟩:=fnH X G d29
 obtain ⟨f30,fd30,F30,m30⟩:=fnH X G d30
 obtain ⟨f31,fd31,F31,m31⟩:=fnH X G d31
 obtain ⟨f32,fd32,F32,m32⟩:=fnH X G d32
 have F33:=zdS (st:=z7i) l33 c33 k33
 refine ⟨QF "law" "law" (z3N z7i) (z2u z7i) (z0b z7i) .none kV33 dc33 pm33 an33 cd33 ct33,fun s v=>.of_eq rfl,fun base _ _=>?_⟩
 have k__law_cell_at:KFn l.prog w K mg base 1 "_law_cell_at" 2 z0Z:=z67 F0 m0 (bd2 F0 fun _ _ _ _ _ _ _ _=>rfl) T
 have k__law_pen_of:KFn l.prog w K mg base 1 "_law_pen_of" 1 z0W:=z6G F1 m1 (bd1 F1 fun _ _ _ _ _ _ _=>rfl) T
 have k__law_next:KFn l.prog w K mg base 1 "_law_next" 1 z1t:=z8n F2 m2 (bd1 F2 fun _ _ _ _ _ _ _=>rfl) T
 have k__law_draw:KFn l.prog w K mg base 2 "_law_draw" 2 z0a:=z8o F3 m3 (bd2 F3 fun _ _ _ _ _ _ _ _=>rfl) T k__law_next
 have k__law_sizes_by:KFn l.prog w K mg base 3 "_law_sizes_by" 1 z16:=z5v F4 m4 (bd1 F4 fun _ _ _ _ _ _ _=>rfl) T k__law_draw
 have k__law_pick:KFn l.prog w K mg base 3 "_law_pick" 4 z0Q:=z8m F5 m5 (bd4 F5 fun _ _ _ _ _ _ _ _ _ _=>rfl) T k__law_draw
 have k__law_rule_by:KFn l.prog w K mg base 4 "_law_rule_by" 2 z0J:=z66 F6 m6 (bd2 F6 fun _ _ _ _ _ _ _ _=>rfl) T k__law_draw k__law_sizes_by k__law_pick
 have k__law_floor_by:KFn l.prog w K mg base 3 "_law_floor_by" 3 z0D:=z5w F7 m7 (bd3 F7 fun _ _ _ _ _ _ _ _ _=>rfl) T k__law_draw
 have k_refuse_strange:KFn l.prog w K mg base 1 "refuse_strange" 2 z0T:=z5c F8 m8 (bd2 F8 fun _ _ _ _ _ _ _ _=>rfl) T
 have k_refuse_beyond:KFn l.prog w K mg base 1 "refuse_beyond" 3 z0w:=z5t F9 m9 (bd3 F9 fun _ _ _ _ _ _ _ _ _=>rfl) T
 have k_grown_size:KFn l.prog w K mg base 1 "grown_size" 3 z0C:=z7y F10 m10 (bd3 F10 fun _ _ _ _ _ _ _ _ _=>rfl) T
 have k_laid_floor:KFn l.prog w K mg base 1 "laid_floor" 3 z0Y:=z7x F11 m11 (bd3 F11 fun _ _ _ _ _ _ _ _ _=>rfl) T
 have k_grown_often:KFn l.prog w K mg base 2 "grown_often" 3 z0q:=z6D F12 m12 (bd3 F12 fun _ _ _ _ _ _ _ _ _=>rfl) T k_refuse_strange k_refuse_beyond k_grown_size k_laid_floor
 have k_grown_floor:KFn l.prog w K mg base 3 "grown_floor" 2 z04:=z6E F13 m13 (bd2 F13 fun _ _ _ _ _ _ _ _=>rfl) T k_grown_often
 have k_column_text:KFn l.prog w K mg base 1 "column_text" 2 z1b:=z6F F14 m14 (bd2 F14 fun _ _ _ _ _ _ _ _=>rfl) T
 have k_turned_floor:KFn l.prog w K mg base 2 "turned_floor" 1 z0o:=z64 F15 m15 (bd1 F15 fun _ _ _ _ _ _ _=>rfl) T k_column_text
 have k_turned_rule:KFn l.prog w K mg base 3 "turned_rule" 1 z0E:=z6B F16 m16 (bd1 F16 fun _ _ _ _ _ _ _=>rfl) T k_turned_floor
 have k_letters_good:KFn l.prog w K mg base 1 "letters_good" 2 z0x:=z65 F17 m17 (bd2 F17 fun _ _ _ _ _ _ _ _=>rfl) T
 have k_floor_good:KFn l.prog w K mg base 2 "floor_good" 1 z0G:=z7z F18 m18 (bd1 F18 fun _ _ _ _ _ _ _=>rfl) T k_letters_good
 have k_mirrored_floor:KFn l.prog w K mg base 1 "mirrored_floor" 1 z0j:=z5d F19 m19 (bd1 F19 fun _ _ _ _ _ _ _=>rfl) T
 have k_mirrored_rule:KFn l.prog w K mg base 2 "mirrored_rule" 1 z0K:=z5u F20 m20 (bd1 F20 fun _ _ _ _ _ _ _=>rfl) T k_mirrored_floor
 have k_whole_from:KFn l.prog w K mg base 1 "whole_from" 2 z1q:=z7u F21 m21 (bd2 F21 fun _ _ _ _ _ _ _ _=>rfl) T
 have k_whole_within:KFn l.prog w K mg base 2 "whole_within" 3 z0X:=z63 F22 m22 (bd3 F22 fun _ _ _ _ _ _ _ _ _=>rfl) T k_whole_from
 have k_sizes_good:KFn l.prog w K mg base 3 "sizes_good" 2 z1a:=z7v F23 m23 (bd2 F23 fun _ _ _ _ _ _ _ _=>rfl) T k_whole_within
 have k_tile_good:KFn l.prog w K mg base 2 "tile_good" 1 z1I:=z8j F24 m24 (bd1 F24 fun _ _ _ _ _ _ _=>rfl) T k_letters_good
 have k_pair_good:KFn l.prog w K mg base 3 "pair_good" 3 z15:=z8l F25 m25 (bd3 F25 fun _ _ _ _ _ _ _ _ _=>rfl) T k_floor_good k_tile_good
 have k_first_unblocked:KFn l.prog w K mg base 1 "first_unblocked" 1 z0r:=z4N F26 m26 (bd1 F26 fun _ _ _ _ _ _ _=>rfl) T
 have k_rule_of:KFn l.prog w K mg base 4 "rule_of" 3 z1r:=zac F27 m27 (bd3 F27 fun _ _ _ _ _ _ _ _ _=>rfl) T k_sizes_good k_pair_good k_first_unblocked
 have k_rule_tiles:KFn l.prog w K mg base 1 "rule_tiles" 1 z0L:=z7w F28 m28 (bd1 F28 fun _ _ _ _ _ _ _=>rfl) T
 have k_joined_rule:KFn l.prog w K mg base 4 "joined_rule" 2 z1i:=z6C F29 m29 (bd2 F29 fun _ _ _ _ _ _ _ _=>rfl) T k_refuse_beyond k_grown_floor k_rule_tiles
 have k_rule_good:KFn l.prog w K mg base 4 "rule_good" 1 z1s:=z8k F30 m30 (bd1 F30 fun _ _ _ _ _ _ _=>rfl) T k_sizes_good k_pair_good k_first_unblocked
 have k__law_joined_right:KFn l.prog w K mg base 5 "_law_joined_right" 3 z08:=z43 F31 m31 (bd3 F31 fun _ _ _ _ _ _ _ _ _=>rfl) T k_grown_floor k_joined_rule k_rule_good
 have k__law_often_right:KFn l.prog w K mg base 4 "_law_often_right" 2 z0k:=z4i F32 m32 (bd2 F32 fun _ _ _ _ _ _ _ _=>rfl) T k_grown_often k_grown_floor
 exact zgq F33 T k__law_cell_at k__law_pen_of k__law_draw k__law_rule_by k__law_floor_by k_grown_floor k_turned_floor k_turned_rule k_floor_good k_mirrored_floor k_mirrored_rule k_rule_of k__law_joined_right k__law_often_right
open PySem (sizeLine)
def blk (bs:List (Nat×List Tx)) (n:Nat):List Tx:=((bs.find? fun b=>decide (b.1=n)).map (·.2)).getD []
theorem z4u (h:n ∈ bs.map (·.1)):∃ b ∈ bs,b.1=n∧(bs.find? fun b=>decide (b.1=n))=some b∧blk bs n=b.2:=by
 cases e:bs.find? fun b=>decide (b.1=n) with
 | none =>
  obtain ⟨b,hb,rfl⟩:=Wp.mp h
  have:=List.find?_eq_none.mp e b hb
  simp at this
 | some b =>
  have h1:=List.mem_of_find?_eq_some e
  have h2:=List.find?_some e
  refine ⟨b,h1,by simpa using h2,rfl,?_⟩
  unfold blk
  rw [e]
  rfl
def nt (bs:List (Nat×List Tx)) (n i j:Nat):Nat:=((blk bs n).getD i []).getD j 0
theorem nt_ok (R:Rul h w bs) (hn:n ∈ bs.map (·.1)) (hi:i < h) (hj:j < w) :
  nt bs n i j ∈ bs.map (·.1)∧pIx (flD (blk bs n)) (.int i)=some (.pure (.str ((blk bs n).getD i [])))∧pIx (.str ((blk bs n).getD i [])) (.int j)=some (.pure (.str [nt bs n i j])):=by
 obtain ⟨b,hb,_,_,e2⟩:=z4u hn
 have hB:=R.blk b hb
 have h1:=R.h1
 have w1:=R.w1
 have hi':i < b.2.length:=by omega
 have hm:b.2.getD i [] ∈ b.2:=by
  rw [WN,Wh hi']
  exact WP hi'
 have hr:=hB.2 _ hm
 unfold nt
 rw [e2]
 refine ⟨hr.2 _ ?_,?_,?_⟩
 ·have hj':j < (b.2.getD i []).length:=by omega
  generalize b.2.getD i []=row at hj'
  rw [WN,Wh hj']
  exact WP hj'
 ·simp [pIx,z1D,hi']
 ·exact z6m _ j (by omega) (by omega)
def lay1 (bs:List (Nat×List Tx)) (l:Nat) (row:Tx):Tx:=(row.map fun n=>(blk bs n).getD l []).flatten
def layR (h:Nat) (bs:List (Nat×List Tx)) (row:Tx):List Tx:=(Wf h).map fun l=>lay1 bs l row
def lay (h:Nat) (bs:List (Nat×List Tx)) (fl:List Tx):List Tx:=fl.flatMap (layR h bs)
structure Fl2 (bs:List (Nat×List Tx)) (R C:Nat) (fl:List Tx):Prop where
 rows:fl.length=R
 cols:∀ r ∈ fl,r.length=C
 tl:∀ r ∈ fl,∀ n ∈ r,n ∈ bs.map (·.1)
theorem z9w (R:Rul h w bs) (hn:n ∈ bs.map (·.1)) (hl:l < h):((blk bs n).getD l []).length=w∧(∀ k ∈ (blk bs n).getD l [],k ∈ bs.map (·.1))∧pIx (flD (blk bs n)) (.int l)=some (.pure (.str ((blk bs n).getD l []))):=by
 obtain ⟨b,hb,_,_,e2⟩:=z4u hn
 have hB:=R.blk b hb
 have hi':l < b.2.length:=by omega
 have hm:b.2.getD l [] ∈ b.2:=by
  rw [WN,Wh hi']
  exact WP hi'
 have hr:=hB.2 _ hm
 rw [e2]
 exact ⟨hr.1,hr.2,by simp [pIx,z1D,hi']⟩
theorem z9a (R:Rul h w bs) (hl:l < h):∀ row:Tx,(∀ n ∈ row,n ∈ bs.map (·.1))→(lay1 bs l row).length=row.length * w∧∀ k ∈ lay1 bs l row,k ∈ bs.map (·.1)
 | [],_=>by simp [lay1]
 | n :: r,h'=>by
  have ih:=z9a R hl r fun k hk=>h' k (Wi _ hk)
  have h1:=z9w R (h' n Wm) hl
  have e:lay1 bs l (n :: r)=(blk bs n).getD l [] ++ lay1 bs l r:=rfl
  rw [e]
  refine ⟨by rw [Qp,h1.1,ih.1,WC,JL,JM],fun k hk=>?_⟩
  rcases J5.mp hk with hk | hk
  ·exact h1.2.1 k hk
  ·exact ih.2 k hk
theorem z6Z (R:Rul h w bs) (F:Fl2 bs A C fl):Fl2 bs (A * h) (C * w) (lay h bs fl):=by
 refine ⟨?_,fun r hr=>?_,fun r hr=>?_⟩
 ·rw [← F.rows]
  clear F
  induction fl with
  | nil=>simp [lay]
  | cons x q ih =>
   have e:lay h bs (x :: q)=layR h bs x ++ lay h bs q:=rfl
   rw [e,Qp,ih,WC,JL]
   simp [layR,JM]
 ·simp only [lay,List.mem_flatMap,layR,Wp,List.mem_range] at hr
  obtain ⟨x,hx,l,hl,rfl⟩:=hr
  rw [(z9a R hl x (F.tl x hx)).1,F.cols x hx]
 ·simp only [lay,List.mem_flatMap,layR,Wp,List.mem_range] at hr
  obtain ⟨x,hx,l,hl,rfl⟩:=hr
  exact (z9a R hl x (F.tl x hx)).2
def grid (f:Nat→Nat→Nat) (A C:Nat):List Tx:=(Wf A).map fun i=>(Wf C).map (f i)
theorem z5k (h:∀ i,i < A→∀ j,j < C→f i j=g i j):grid f A C=grid g A C:=by
 unfold grid
 refine WM fun i hi=>?_
 refine WM fun j hj=>?_
 exact h i (by simpa using hi) j (by simpa using hj)
theorem z89 (a:Nat):∀ b,Wf (a + b)=Wf a ++ (Wf b).map (a + ·)
 | 0=>by simp
 | b + 1=>by
  rw [← Nat.add_assoc,Ja,z89 a b,Ja]
  simp
theorem z59 (φ:Nat→Nat→α) (w0:0 < w):∀ C,(Wf C).flatMap (fun j=>(Wf w).map (φ j))=(Wf (C * w)).map fun b=>φ (b / w) (b % w)
 | 0=>by simp
 | C + 1=>by
  rw [Ja,List.flatMap_append,z59 φ w0 C,JL,z89,List.map_append]
  congr 1
  simp only [List.flatMap_cons,List.flatMap_nil,J7,WB]
  refine WM fun m hm=>?_
  have hm':m < w:=by simpa using hm
  simp only [Function.comp_def]
  rw [show (C * w + m) / w=C by rw [JM,Nat.add_mul_div_right _ _ w0,Nat.div_eq_of_lt hm',Qq],show (C * w + m) % w=m by rw [JM,Nat.add_mul_mod_self_right,Nat.mod_eq_of_lt hm']]
theorem z86 (R:Rul h w bs) (hx:x ∈ bs.map (·.1)) (hl:l < h):(blk bs x).getD l []=(Wf w).map (nt bs x l):=by
 have h1:=(z9w R hx hl).1
 apply QB
 ·simpa using h1
 ·intro j h2 h3
  rw [JJ,List.getElem_range]
  unfold nt
  generalize (blk bs x).getD l []=row at *
  simp [h2]
theorem z22 (R:Rul h w bs) (f:Nat→Nat→Nat) (A C:Nat) (hf:∀ i j,f i j ∈ bs.map (·.1)):lay h bs (grid f A C)=grid (fun a b=>nt bs (f (a / h) (b / w)) (a % h) (b % w)) (A * h) (C * w):=by
 have e1:∀ i l,l < h→lay1 bs l ((Wf C).map (f i))=(Wf (C * w)).map fun b=>nt bs (f i (b / w)) l (b % w):=fun i l hl=>by
  unfold lay1
  rw [WB]
  have:(Wf C).map ((fun n=>(blk bs n).getD l []) ∘ f i)=(Wf C).map fun j=>(Wf w).map (nt bs (f i j) l):=WM fun j _=>z86 R (hf i j) hl
  rw [this,← List.flatMap_def,z59 (fun j m=>nt bs (f i j) l m) R.w0 C]
 have e2:∀ i,layR h bs ((Wf C).map (f i))=(Wf h).map fun l=>(Wf (C * w)).map fun b=>nt bs (f i (b / w)) l (b % w):=fun i=>by
  unfold layR
  exact WM fun l hl=>e1 i l (by simpa using hl)
 unfold lay grid
 rw [List.flatMap_map]
 have e3:(Wf A).flatMap (fun i=>layR h bs ((Wf C).map (f i)))=(Wf A).flatMap fun i=>(Wf h).map fun l=>(Wf (C * w)).map fun b=>nt bs (f i (b / w)) l (b % w):=by
  rw [List.flatMap_def,List.flatMap_def]
  congr 1
  exact WM fun i _=>e2 i
 rw [e3,z59 (fun i l=>(Wf (C * w)).map fun b=>nt bs (f i (b / w)) l (b % w)) R.h0 A]
theorem z9K (A C:Nat) (hf:∀ i j,f i j ∈ bs.map (·.1)):Fl2 bs A C (grid f A C):=by
 refine ⟨by simp [grid],fun r hr=>?_,fun r hr x hx=>?_⟩
 ·simp [grid] at hr; obtain ⟨i,_,rfl⟩:=hr; simp
 ·simp only [grid,Wp] at hr; obtain ⟨i,_,rfl⟩:=hr
  obtain ⟨j,_,rfl⟩:=Wp.mp hx
  exact hf i j
def ent (t0:Nat) (fl:List Tx) (i j:Nat):Nat:=(((fl[i]?).getD [])[j]?).getD t0
theorem z3k {bs:List (Nat×List Tx)} {t0 A C:Nat} {fl:List Tx} (F:Fl2 bs A C fl):fl=grid (ent t0 fl) A C:=by
 have hA:=F.rows
 apply QB
 ·simp [grid,hA]
 ·intro i h1 h2
  simp only [grid,JJ,List.getElem_range]
  have hC:(fl[i]).length=C:=F.cols _ (WP h1)
  apply QB
  ·simp [hC]
  ·intro j h3 h4
   simp [ent,h1,h3]
theorem z4r {bs:List (Nat×List Tx)} {t0 A C:Nat} {fl:List Tx} (F:Fl2 bs A C fl) (h0:t0 ∈ bs.map (·.1)) (i j:Nat):ent t0 fl i j ∈ bs.map (·.1):=by
 unfold ent
 cases e:fl[i]? with
 | none=>simpa using h0
 | some r =>
  simp only [J0]
  cases e2:r[j]? with
  | none=>simpa using h0
  | some n =>
   simp only [J0]
   exact F.tl r (WD e) n (WD e2)
theorem z4B (f:Nat→Nat→Nat) (A C:Nat):turn C (grid f A C)=grid (fun a b=>f b a) C A:=by
 unfold turn grid
 refine WM fun c hc=>?_
 have hc':c < C:=by simpa using hc
 rw [WB]
 refine WM fun r hr=>?_
 simp [hc']
theorem z4Z (f:Nat→Nat→Nat) (A C:Nat):back (grid f A C)=grid (fun a b=>f a (C - 1 - b)) A C:=by
 unfold back grid
 rw [WB]
 refine WM fun a _=>?_
 simp only [Function.comp]
 apply QB
 ·simp
 ·intro j h1 h2
  simp at h1
  simp [List.getElem_reverse]
theorem z7X (f:Nat→Nat→Nat) (A C k:Nat) (h:k≤A):(grid f A C).take k=grid f k C:=by
 unfold grid
 rw [← List.map_take,List.take_range,Nat.min_eq_left h]
theorem zcu {bs:List (Nat×List Tx)} (T:List Tx→List Tx) (hT:T []=[]) (n:Nat):blk (bs.map fun b=>(b.1,T b.2)) n=T (blk bs n):=by
 unfold blk
 rw [List.find?_map]
 simp only [Function.comp_def]
 cases bs.find? fun b=>decide (b.1=n) with
 | none=>simp [hT]
 | some b=>simp
theorem z7P {h w n:Nat} {bs:List (Nat×List Tx)} (R:Rul h w bs) (hn:n ∈ bs.map (·.1)):blk bs n=grid (nt bs n) h w:=by
 obtain ⟨b,hb,_,_,e⟩:=z4u hn
 have hB:=R.blk b hb
 apply QB
 ·rw [e]; simp [grid,hB.1]
 ·intro i h1 h2
  have hi:i < h:=by rw [e,hB.1] at h1; exact h1
  have:=z86 R hn hi
  simp only [grid,JJ,List.getElem_range]
  rw [← this]
  simp [h1]
theorem z5j (f:Nat→Nat→Nat) {A C i j:Nat} (hi:i < A) (hj:j < C):((grid f A C).getD i []).getD j 0=f i j:=by
 simp [grid,hi,hj]
theorem zeL {h w n i j:Nat} {bs:List (Nat×List Tx)} (R:Rul h w bs) (hn:n ∈ bs.map (·.1)) (hi:i < w) (hj:j < h):nt (z2Z w bs) n i j=nt bs n j i:=by
 obtain ⟨b,hb,e1,e2,e3⟩:=z4u hn
 have e:blk (z2Z w bs) n=turn w (blk bs n):=by
  unfold z2Z blk
  rw [List.find?_map]
  simp only [Function.comp_def]
  rw [e2]
  simp
 unfold nt
 rw [e,z7P R hn,z4B,z5j _ hi hj,z5j _ hj hi]
theorem zeN {h w n i j:Nat} {bs:List (Nat×List Tx)} (R:Rul h w bs) (hn:n ∈ bs.map (·.1)) (hi:i < h) (hj:j < w):nt (z2e bs) n i j=nt bs n i (w - 1 - j):=by
 have e:blk (z2e bs) n=back (blk bs n):=zcu back rfl n
 unfold nt
 rw [e,z7P R hn,z4Z,z5j _ hi hj,z5j _ hi (by omega)]
theorem zd9 {h w A C:Nat} {bs:List (Nat×List Tx)} (R:Rul h w bs) {fl:List Tx} (F:Fl2 bs A C fl):lay w (z2Z w bs) (turn C fl)=turn (C * w) (lay h bs fl):=by
 obtain ⟨t0,h0⟩:∃ t0,t0 ∈ bs.map (·.1):=by
  have:=R.n0
  exact ⟨(bs[0]).1,WG (WP _)⟩
 have hm:=z4r F h0
 have e:(z2Z w bs).map (·.1)=bs.map (·.1):=by simp [z2Z,Function.comp_def]
 have R':=z78 R
 rw [z3k (t0:=t0) F,z4B,z22 R' _ _ _ (fun i j=>by rw [e]; exact hm j i),z22 R _ _ _ hm,z4B]
 refine z5k fun i hi j hj=>?_
 have w0:=R.w0
 have hh0:=R.h0
 exact zeL R (hm _ _) (Qv _ w0) (Qv _ hh0)
theorem zeb {C w b:Nat} (w0:0 < w) (hb:b < C * w):(C * w - 1 - b) / w=C - 1 - b / w∧(C * w - 1 - b) % w=w - 1 - b % w:=by
 have h1:=Nat.div_add_mod b w
 have h2:=Qv b w0
 have h3:b / w < C:=Nat.div_lt_of_lt_mul (by rw [Qc]; exact hb)
 have e:C * w - 1 - b=(w - 1 - b % w) + w * (C - 1 - b / w):=by
  obtain ⟨k,rfl⟩:∃ k,C=b / w + 1 + k:=⟨C - 1 - b / w,by omega⟩
  have:b / w + 1 + k - 1 - b / w=k:=by omega
  rw [this]
  have e2:(b / w + 1 + k) * w=w * (b / w) + w + w * k:=by
   rw [Nat.add_mul,Nat.add_mul,Nat.one_mul,Qc (b / w),Qc k]
  omega
 rw [e]
 constructor
 ·rw [Nat.add_mul_div_left _ _ w0,Nat.div_eq_of_lt (by omega)]; omega
 ·rw [Nat.add_mul_mod_self_left,Nat.mod_eq_of_lt (by omega)]
theorem backR_ok (R:Rul h w bs):Rul h w (z2e bs):=by
 have e:(z2e bs).map (·.1)=bs.map (·.1):=by simp [z2e,Function.comp_def]
 refine ⟨R.h0,R.h1,R.w0,R.w1,R.hw,by simp [z2e]; exact R.n0,by simp [z2e]; exact R.n1,by rw [e]; exact R.up,fun b hb=>?_,fun b hb=>?_⟩
 ·simp only [z2e,Wp] at hb
  obtain ⟨b',hb',rfl⟩:=hb
  exact R.let' b' hb'
 ·rw [e]
  simp only [z2e,Wp] at hb
  obtain ⟨b',hb',rfl⟩:=hb
  obtain ⟨k1,k2⟩:=R.blk b' hb'
  refine ⟨by simp [back,k1],fun r hr=>?_⟩
  simp only [back,Wp] at hr
  obtain ⟨r',hr',rfl⟩:=hr
  obtain ⟨k3,k4⟩:=k2 r' hr'
  exact ⟨by simp [k3],fun n hn=>k4 n (by simpa using hn)⟩
theorem zdc {h w A C:Nat} {bs:List (Nat×List Tx)} (R:Rul h w bs) {fl:List Tx} (F:Fl2 bs A C fl):lay h (z2e bs) (back fl)=back (lay h bs fl):=by
 obtain ⟨t0,h0⟩:∃ t0,t0 ∈ bs.map (·.1):=by
  have:=R.n0
  exact ⟨(bs[0]).1,WG (WP _)⟩
 have hm:=z4r F h0
 have e:(z2e bs).map (·.1)=bs.map (·.1):=by simp [z2e,Function.comp_def]
 have R':=backR_ok R
 rw [z3k (t0:=t0) F,z4Z,z22 R' _ _ _ (fun i j=>by rw [e]; exact hm i _),z22 R _ _ _ hm,z4Z]
 refine z5k fun i hi j hj=>?_
 have w0:=R.w0
 have hh0:=R.h0
 obtain ⟨q1,q2⟩:=zeb w0 hj
 rw [zeN R (hm _ _) (Qv _ hh0) (Qv _ w0),q1,q2]
theorem zda {h w A C:Nat} {bs:List (Nat×List Tx)} (R:Rul h w bs) {fl:List Tx} (F:Fl2 bs A C fl) (hA:0 < A):lay h bs (fl.take 1)=(lay h bs fl).take h:=by
 obtain ⟨t0,h0⟩:∃ t0,t0 ∈ bs.map (·.1):=by
  have:=R.n0
  exact ⟨(bs[0]).1,WG (WP _)⟩
 have hm:=z4r F h0
 rw [z3k (t0:=t0) F,z7X _ _ _ _ hA,z22 R _ _ _ hm,z22 R _ _ _ hm,Nat.one_mul,z7X _ _ _ _ (by
  calc h=1 * h:=(Nat.one_mul h).symm
   _≤A * h:=Nat.mul_le_mul_right h hA)]
def z2i (h':Nat) (bs' bs:List (Nat×List Tx)):List (Nat×List Tx):=bs.map fun b=>(b.1,lay h' bs' b.2)
theorem zeM {h w h' w' n i j:Nat} {bs bs':List (Nat×List Tx)} (R:Rul h w bs) (R':Rul h' w' bs') (ht:bs'.map (·.1)=bs.map (·.1)) (hn:n ∈ bs.map (·.1)) (hi:i < h * h') (hj:j < w * w') :
  nt (z2i h' bs' bs) n i j=nt bs' (nt bs n (i / h') (j / w')) (i % h') (j % w'):=by
 have e:blk (z2i h' bs' bs) n=lay h' bs' (blk bs n):=zcu (lay h' bs') rfl n
 obtain ⟨b,hb,_,_,e2⟩:=z4u hn
 have hB:=R.blk b hb
 have F:Fl2 bs' h w (blk bs n):=⟨by rw [e2,hB.1],fun r hr=>(hB.2 r (by rw [← e2]; exact hr)).1,fun r hr k hk=>by rw [ht]; exact (hB.2 r (by rw [← e2]; exact hr)).2 k hk⟩
 have hm:=z4r F (t0:=n) (by rw [ht]; exact hn)
 have h0':=R'.h0
 have w0':=R'.w0
 have g:=z7P R hn
 unfold nt
 rw [e]
 conv=>lhs; rw [z3k (t0:=n) F]
 rw [z22 R' _ _ _ hm,z5j _ hi hj]
 have k1:i / h' < h:=Nat.div_lt_of_lt_mul (by rw [Qc]; exact hi)
 have k2:j / w' < w:=Nat.div_lt_of_lt_mul (by rw [Qc]; exact hj)
 have k3:ent n (blk bs n) (i / h') (j / w')=((blk bs n).getD (i / h') []).getD (j / w') 0:=by
  rw [g,z5j _ k1 k2]
  unfold ent
  simp [grid,k1,k2]
 rw [k3]
 rfl
theorem zdb {h w h' w' A C:Nat} {bs bs':List (Nat×List Tx)} (R:Rul h w bs) (R':Rul h' w' bs') (ht:bs'.map (·.1)=bs.map (·.1)) (RJ:Rul (h * h') (w * w') (z2i h' bs' bs)) {fl:List Tx} (F:Fl2 bs A C fl) :
  lay (h * h') (z2i h' bs' bs) fl=lay h' bs' (lay h bs fl):=by
 obtain ⟨t0,h0⟩:∃ t0,t0 ∈ bs.map (·.1):=by
  have:=R.n0
  exact ⟨(bs[0]).1,WG (WP _)⟩
 have hm:=z4r F h0
 have e:(z2i h' bs' bs).map (·.1)=bs.map (·.1):=by simp [z2i,Function.comp_def]
 have h0':=R'.h0
 have w0':=R'.w0
 have hh:=R.h0
 have hw:=R.w0
 have hm2:∀ i j,nt bs (ent t0 fl (i / h) (j / w)) (i % h) (j % w) ∈ bs'.map (·.1):=fun i j=>by
  rw [ht]; exact (nt_ok R (hm _ _) (Qv _ hh) (Qv _ hw)).1
 rw [z3k (t0:=t0) F,z22 RJ _ _ _ (fun i j=>by rw [e]; exact hm i j),z22 R _ _ _ hm,z22 R' _ _ _ hm2,J3,J3]
 refine z5k fun i hi j hj=>?_
 rw [zeM R R' ht (hm _ _) (Qv _ (Jc hh h0')) (Qv _ (Jc hw w0'))]
 have d1:i / (h * h')=i / h' / h:=by rw [Nat.div_div_eq_div_mul,Qc h h']
 have d2:j / (w * w')=j / w' / w:=by rw [Nat.div_div_eq_div_mul,Qc w w']
 have m1:i % (h * h') / h'=i / h' % h:=by rw [Qc h h',Nat.mod_mul_right_div_self]
 have m2:j % (w * w') / w'=j / w' % w:=by rw [Qc w w',Nat.mod_mul_right_div_self]
 have n1:i % (h * h') % h'=i % h':=Nat.mod_mul_left_mod i h h'
 have n2:j % (w * w') % w'=j % w':=Nat.mod_mul_left_mod j w w'
 rw [d1,d2,m1,m2,n1,n2]
theorem zde {h w h' w':Nat} {bs bs':List (Nat×List Tx)} (R:Rul h w bs) (R':Rul h' w' bs') (ht:bs'.map (·.1)=bs.map (·.1)) (h4:h * h'≤4) (w4:w * w'≤4):Rul (h * h') (w * w') (z2i h' bs' bs):=by
 have e:(z2i h' bs' bs).map (·.1)=bs.map (·.1):=by simp [z2i,Function.comp_def]
 have a1:=R.h0
 have a2:=R.w0
 have a3:=R'.h0
 have a4:=R'.w0
 have p1:0 < h * h':=Jc a1 a3
 have p2:0 < w * w':=Jc a2 a4
 have q1:h≤h * h':=Nat.le_mul_of_pos_right h a3
 have q2:w≤w * w':=Nat.le_mul_of_pos_right w a4
 have hw:=R.hw
 refine ⟨p1,h4,p2,w4,by omega,by simp [z2i]; exact R.n0,by simp [z2i]; exact R.n1,by rw [e]; exact R.up,fun b hb=>?_,fun b hb=>?_⟩
 ·simp only [z2i,Wp] at hb
  obtain ⟨b',hb',rfl⟩:=hb
  exact R.let' b' hb'
 ·rw [e]
  simp only [z2i,Wp] at hb
  obtain ⟨b',hb',rfl⟩:=hb
  obtain ⟨k1,k2⟩:=R.blk b' hb'
  have F:Fl2 bs' h w b'.2:=⟨k1,fun r hr=>(k2 r hr).1,fun r hr n hn=>by rw [ht]; exact (k2 r hr).2 n hn⟩
  have L:=z6Z R' F
  exact ⟨L.rows,fun r hr=>⟨L.cols r hr,fun n hn=>by rw [← ht]; exact L.tl r hr n hn⟩⟩
theorem zb0:∀ {as bs:List (Nat×List Tx)},as.Perm bs→(as.map (·.1)).Pairwise (· < ·)→(bs.map (·.1)).Pairwise (· < ·)→as=bs
 | [],bs,p,_,_=>(List.Perm.nil_eq p)
 | a :: as,[],p,_,_=>by have:=p.length_eq; simp at this
 | a :: as,b :: bs,p,h1,h2=>by
  rw [Ws,Qg] at h1 h2
  have hab:a=b:=by
   have m1:a ∈ b :: bs:=p.mem_iff.mp (by simp)
   have m2:b ∈ a :: as:=p.mem_iff.mpr (by simp)
   rcases Wn.mp m1 with e | m1
   ·exact e
   ·rcases Wn.mp m2 with e | m2
    ·exact e.symm
    ·have c1:=h2.1 a.1 (WG m1)
     have c2:=h1.1 b.1 (WG m2)
     omega
  subst hab
  rw [zb0 (List.Perm.cons_inv p) h1.2 h2.2]
theorem z2T (f:DE) (δ:Dl):iSq f δ=(f δ).bind fun r δ1=>match r.d with
 | .lst ds=>.ok ds δ1
 | .tup ds=>.ok ds δ1
 | .str x=>.ok (x.map fun n=>.str [n]) δ1
 | _=>.stuck:=id rfl
theorem z2j (p p':D→D→Option S) (fa fb:DE) (fc:BE) (δ:Dl):z4X p p' fa fb fc δ=(fa δ).bind fun x δ1=>(fb δ1).bind fun y δ2=>(p2 p x.d y.d δ2).bind fun z δ3=>match z with
 | .pure (.bl true)=>(fc δ3).bind fun w δ4=>p2 p' y.d w δ4
 | .pure (.bl false)=>.ok (.pure (.bl false)) δ3
 | _=>.stuck:=id rfl
theorem ev_inR (neg:Bool) (fa f g:DE) (δ:Dl):eInR neg fa f g δ=(fa δ).bind fun v δ1=>(f δ1).bind fun lo δ2=>(g δ2).bind fun hi δ3=>match v.d,lo.d,hi.d with
 | .int i,.int l,.int h=>.ok (.pure (.bl (if neg then !(decide (l≤i) && decide (i < h)) else (decide (l≤i) && decide (i < h))))) δ3
 | _,_,_=>.stuck:=id rfl
theorem z6l (I:Nat→Dl→Prop) (bad:D→Bool) (r:S) (R:Dl→Prop) :
  ∀ (ds:List D) (n:Nat) (δ:Dl),I n δ →
   (∀ (i:Nat) d δ,ds[i]? = some d→I (n + i) δ→∃ δ1,g (.pure d) δ=some δ1∧((bad d=true∧∃ δ2,b δ1 = .ok (.ret r) δ2∧R δ2)∨(bad d=false∧∃ δ2,b δ1 = .ok .next δ2∧I (n + i + 1) δ2))) →
   (ds.any bad=true∧∃ δ',forL g b ds δ = .ok (.ret r) δ'∧R δ')∨(ds.any bad=false∧∃ δ',forL g b ds δ = .ok .next δ'∧I (n + ds.length) δ')
 | [],n,δ,h,_=>.inr ⟨rfl,δ,rfl,h⟩
 | d :: rs,n,δ,h,hs=>by
  obtain ⟨δ1,e1,hh⟩:=hs 0 d δ rfl h
  rcases hh with ⟨hb,δ2,e2,h2⟩ | ⟨hb,δ2,e2,h2⟩
  ·refine .inl ⟨by simp [hb],δ2,?_,h2⟩
   unfold forL
   rw [e1]
   simp only [e2,z1l]
  ·have ih:=z6l (g:=g) (b:=b) I bad r R rs (n + 1) δ2 h2 (fun i d' δ' e hi=>by
    have:=hs (i + 1) d' δ' (by simpa using e) (by rw [show n + (i + 1)=n + 1 + i by omega]; exact hi)
    rw [show n + (i + 1) + 1=n + 1 + i + 1 by omega] at this
    exact this)
   have ef:∀ x,forL g b rs δ2=x→forL g b (d :: rs) δ=x:=fun x hx=>by
    unfold forL
    rw [e1]
    simp only [e2,z1l,hx]
   rcases ih with ⟨ha,δ',e3,h3⟩ | ⟨ha,δ',e3,h3⟩
   ·exact .inl ⟨by simp [ha],δ',ef _ e3,h3⟩
   ·exact .inr ⟨by simp [hb,ha],δ',ef _ e3,by rw [WC,show n + (rs.length + 1)=n + 1 + rs.length by omega]; exact h3⟩
def nx (s:Int):Int:=(((s + 7919) % 2147483647) * ((s + 7919) % 2147483647) + 48271 * ((s + 7919) % 2147483647) + 12345) % 2147483629
theorem zfN (s:Int):z1t [.pure (.int s)]=some (.pure (.int (nx s)),[.pure (.int s)]):=by
 unfold z1t gOf z4z runD
 have h1:=JN (s + 7919) (b:=2147483647) (by decide)
 have h2:=JA (s + 7919) (b:=2147483647) (by decide)
 have c1:cMul ((s + 7919) % 2147483647) ((s + 7919) % 2147483647)=true:=by unfold cMul; simp; omega
 have c2:cMul 48271 ((s + 7919) % 2147483647)=true:=by unfold cMul; simp
 simp [ioOk,z0g,dAsg,eOpF,eOpN,bVar,pAdd,pMod,pII,z2P,pMul,c1,c2,z0F,z0h]
 rfl
def Pen (d:D):Prop:=∃ l f s:Int,d = .lst [.int l,.int f,.int s]∧0≤l
theorem z5q (hp:Pen d) (m:Nat) (h0:0 < m) (h1:m < 1073741824):∃ (r:Nat) (d':D),z0a [.own d,.pure (.int m)]=some (.pure (.int r),[.own d',.pure (.int m)])∧r < m∧Pen d':=by
 obtain ⟨l,f,s,rfl,hl⟩:=hp
 have hm:(0:Int) < (m:Int):=by omega
 have hd:cDiv l m=true:=by unfold cDiv; simp; omega
 unfold z0a gOf z4A runD
 by_cases hf:f=1
 ·subst hf
  have e1:=JN l (b:=(m:Int)) (by omega)
  have e2:=JA l hm
  refine ⟨(l % (m:Int)).toNat,.lst [.int (l / m),.int 1,.int s],?_,by omega,⟨_,_,_,rfl,Int.ediv_nonneg hl (by omega)⟩⟩
  simp [ioOk,z0g,dAsg,eOpF,eOpN,bVar,eVar,pIx,pEq,eqD,flat,z2k,z7R,z9h,dTr,pMod,pDiv,pII,h0,hd,zan,z3J,putL,z0F,z0h,ixN]
  omega
 ·have e1:=JN (nx (nx s + 7) / 64) (b:=(m:Int)) (by omega)
  have e2:=JA (nx (nx s + 7) / 64) hm
  refine ⟨(nx (nx s + 7) / 64 % (m:Int)).toNat,.lst [.int l,.int f,.int (nx (nx s + 7))],?_,by omega,⟨_,_,_,rfl,hl⟩⟩
  simp [ioOk,z0g,dAsg,eOpF,eOpN,bVar,eVar,pIx,pEq,eqD,flat,z2k,z7R,z9h,dTr,pMod,pDiv,pII,h0,hd,zan,z3J,putL,z0F,z0h,ixN,hf,z01,ios,z14,ndup,evX,mkA,zfN,pAdd,putA,cDiv]
  omega
theorem r_pen (c:Int):∃ d,z0W [.pure (.int c)]=some (.own d,[.pure (.int c)])∧Pen d:=by
 unfold z0W gOf z3s runD
 refine ⟨.lst [.int (if 0 - c > c then 0 - c else c),.int (if decide (1000000000000000000≤(if 0 - c > c then 0 - c else c)) then 1 else 0),.int ((if 0 - c > c then 0 - c else c) % 1000003)],?_,⟨_,_,_,rfl,by split <;> omega⟩⟩
 simp [ioOk,z0g,dAsg,eOpF,eOpN,bVar,eVar,pMax,pSub,pII,pInt,pGe,pCmp,pPow,cPow,pMod,z0F,z0h]
theorem z93 (ns:List Int):∃ c:Int,z0Z [.pure (.lst (ns.map .int)),.pure (.int 0)]=some (.pure (.int c),[.pure (.lst (ns.map .int)),.pure (.int 0)]):=by
 unfold z0Z gOf z2Y runD
 cases ns with
 | nil=>exact ⟨0,by simp [ioOk,z0g,eOpF,eOpN,bVar,pLt,pCmp,dTr,pLen,z0F,z0h]⟩
 | cons n r=>exact ⟨n,by
   have:(0:Int) < (r.length:Int) + 1:=by omega
   simp [ioOk,z0g,eOpF,eOpN,bVar,pLt,pCmp,dTr,pLen,z0F,z0h,pIx,z2k,this]⟩
theorem z3F (hp:Pen d) (m:Nat) (i:Int) (hi:i=m) (h0:0 < m) (h1:m < 1073741824):∃ (r:Nat) (d':D),z0a [.own d,.pure (.int i)]=some (.pure (.int r),[.own d',.pure (.int i)])∧r < m∧Pen d':=by
 subst hi
 exact z5q hp m h0 h1
def letN (n:Nat):Bool:=decide (97≤n) && decide (n≤122)
def lg (m:Nat):D→Bool
 | .str x=>decide (1≤x.length) && decide (x.length≤m) && x.all letN
 | _=>false
def z2d (w:Nat):D→Bool
 | .str x=>lg 64 (.str x) && x.length == w
 | _=>false
def len0:List D→Nat
 | .str x :: _=>x.length
 | _=>0
def isFl:D→Bool
 | .tup ds=>decide (1≤ds.length) && decide (ds.length≤64) && ds.all (z2d (len0 ds))
 | _=>false
def Sm:D→Prop
 | .str x=>x.length≤1000
 | .exc _ _=>False
 | .xd _=>False
 | _=>True
def SmT:D→Prop
 | .tup ds=>ds.length≤1000∧∀ d ∈ ds,Sm d
 | .exc _ _=>False
 | .xd _=>False
 | _=>True
theorem le_a (n:Nat):pLe (.str [97]) (.str [n])=some (.pure (.bl (decide (97≤n)))):=by
 unfold pLe pCmp
 simp only [lt1]
 congr 3
 by_cases h:97≤n <;> simp [h] <;> omega
theorem le_z (n:Nat):pLe (.str [n]) (.str [122])=some (.pure (.bl (decide (n≤122)))):=by
 unfold pLe pCmp
 simp only [lt1]
 congr 3
 by_cases h:n≤122 <;> simp [h] <;> omega
theorem le_int (i j:Int):pLe (.int i) (.int j)=some (.pure (.bl (decide (i≤j)))):=rfl
theorem z2h (x:Tx) (h:x.length≤1000):pLen (.str x)=some (.pure (.int x.length)):=by
 unfold pLen
 have:W6=16777216:=rfl
 simp only
 rw [if_pos (by omega)]
theorem zcz (xs:List Nat) (p:Nat→Bool):pAll (.lst (xs.map fun n=>.bl (p n)))=some (.pure (.bl (xs.all p))):=by
 have e:(xs.map fun n=>D.bl (p n))=(xs.map p).map D.bl:=by simp
 unfold pAll
 simp only [e,zdl,WK]
 simp [Ji,Function.comp_def]
theorem z8b (d:D) (m:Nat) (hd:Sm d):z0x [.pure d,.pure (.int m)]=some (.pure (.bl (lg m d)),[.pure d,.pure (.int m)]):=by
 unfold z0x gOf z2W runD
 cases d with
 | str x =>
  have hx:x.length≤1000:=hd
  by_cases h1:1≤x.length
  ·by_cases h2:x.length≤m
   ·have e:=z21 (cs:=[2]) (g:=gNm [] 2) (t:=dYes) (el:=z4X pLe pLe (eD (.str [97])) (eVar 2) (bOf (eD (.str [122])))) (fun n:Nat=>D.str [n]) (fun n=>.bl (letN n)) [some (.pure (.str x)),some (.pure (.int m)),none] x [] (by rw [z13]; simp; omega) (fun n hn=>by
     refine ⟨_,_,.pure (.bl (letN n)),[some (.pure (.str x)),some (.pure (.int m)),some (.pure (.str [n]))],rfl,rfl,?_,rfl,rfl⟩
     unfold letN
     by_cases ha:97≤n
     ·simp [z2j,eVar,le_a,le_z,ha]
     ·simp [z2j,eVar,le_a,ha])
    have ea:=zcz x letN
    simp only [Qf] at e
    have c1:(1:Int)≤(x.length:Int):=by omega
    simp [ioOk,z0g,dTr,eIsi,isTy,bVar,eVar,z2j,z2h x hx,le_int,h2,c1,z2T,z14,clrD]
    rw [e]
    simp [ea,z1H,z0F,z0h,lg,h1,h2]
   ·have c1:(1:Int)≤(x.length:Int):=by omega
    simp [ioOk,z0g,dTr,eIsi,isTy,bVar,z2j,z2h x hx,le_int,h2,c1,z0F,z0h,lg]
  ·have c1:¬ (1:Int)≤(x.length:Int):=by omega
   simp [ioOk,z0g,dTr,eIsi,isTy,bVar,z2j,z2h x hx,le_int,c1,z0F,z0h,lg,h1]
 | exc _ _=>exact hd.elim
 | xd _=>exact hd.elim
 | _=>simp [ioOk,z0g,dTr,eIsi,isTy,bVar,z0F,z0h,lg]
theorem z4P (i j:Int):pNe (.int i) (.int j)=some (.pure (.bl (!(i == j)))):=rfl
theorem z2S (ds:List D):pLen (.tup ds)=some (.pure (.int ds.length)):=rfl
theorem ix0 (ds:List D) (d:D) (h:ds[0]? = some d):pIx (.tup ds) (.int 0)=some (.pure d):=by simp [pIx,z2k,h]
theorem z5p (d:D) (hd:SmT d):z0G [.pure d]=some (.pure (.bl (isFl d)),[.pure d]):=by
 unfold z0G gOf z3X runD
 cases d with
 | tup ds =>
  obtain ⟨hl,hs⟩:=hd
  by_cases h1:1≤ds.length
  ·have c1:(1:Int)≤(ds.length:Int):=by omega
   by_cases h2:ds.length≤64
   ·have c2:(ds.length:Int)≤64:=by omega
    obtain ⟨d0,h0⟩:∃ d0,ds[0]? = some d0:=⟨ds[0],by simp [h1]⟩
    have hw:∀ x,d0 = .str x→len0 ds=x.length:=fun x e=>by
     cases ds with
     | nil=>simp at h0
     | cons a r=>simp at h0; subst h0; subst e; rfl
    have F:=z6l (g:=gNm [] 1) (b:=(dIf (dOr (dNot (dTr (z01 z0x [.val (eVar 1),.val (eD (.int 64))]))) (dTr (eOp pNe (eC1 pLen (bVar 1)) (bOf (eC1 pLen (bOf (eOpF pIx 0 (bOf (eD (.int 0)))))))))) (dRet (eD (.bl false))) z0I))
     (fun n δ=>(∃ a,δ=[some (.pure (.tup ds)),a])∧(0 < n→∃ x,d0 = .str x∧x.length≤1000)) (fun d=>!z2d (len0 ds) d) (.pure (.bl false)) (fun _=>True) ds 0 [some (.pure (.tup ds)),none] ⟨⟨_,rfl⟩,fun h=>absurd h (by omega)⟩ (fun i d δ hi ⟨⟨a,e⟩,hx⟩=>by
      subst e
      have hm:Sm d:=hs d (WD hi)
      have el:=z8b d 64 hm
      have el':z0x [.pure d,.pure (.int 64)]=some (.pure (.bl (lg 64 d)),[.pure d,.pure (.int 64)]):=el
      refine ⟨[some (.pure (.tup ds)),some (.pure d)],rfl,?_⟩
      cases hg:lg 64 d with
      | false =>
       refine .inl ⟨?_,[some (.pure (.tup ds)),some (.pure d)],?_,trivial⟩
       ·cases d <;> simp [z2d] at hg ⊢
        simp [hg]
       ·rw [hg] at el'
        simp [dTr,z01,ios,ndup,evX,eVar,mkA,el',putA]
      | true =>
       obtain ⟨x,rfl⟩:∃ x,d = .str x:=by cases d <;> simp [lg] at hg <;> exact ⟨_,rfl⟩
       have hx1:x.length≤1000:=hm
       obtain ⟨x0,ex0,hx0⟩:∃ x,d0 = .str x∧x.length≤1000:=by
        cases i with
        | zero=>rw [h0] at hi; cases hi; exact ⟨x,rfl,hx1⟩
        | succ i=>exact hx (by omega)
       have ei:=ix0 ds d0 h0
       rw [ex0] at ei
       rw [hg] at el'
       have hw':=hw x0 ex0
       by_cases hc:x.length=x0.length
       ·refine .inr ⟨by simp [z2d,hg,hw',hc],[some (.pure (.tup ds)),some (.pure (.str x))],?_,⟨⟨_,rfl⟩,fun _=>⟨x0,ex0,hx0⟩⟩⟩
        simp [dTr,z01,ios,ndup,evX,eVar,mkA,el',putA,bVar,z2h x hx1,eOpF,eOpN,ei,z2h x0 hx0,z4P,hc]
       ·refine .inl ⟨by simp [z2d,hg,hw',hc],[some (.pure (.tup ds)),some (.pure (.str x))],?_,trivial⟩
        have hc':¬ (x.length:Int)=(x0.length:Int):=by omega
        simp [dTr,z01,ios,ndup,evX,eVar,mkA,el',putA,bVar,z2h x hx1,eOpF,eOpN,ei,z2h x0 hx0,z4P,hc'])
    have hall:ds.any (fun d=>!z2d (len0 ds) d) = !ds.all (z2d (len0 ds)):=by rw [List.any_eq_not_all_not]; simp
    rcases F with ⟨ha,δ',e,_⟩ | ⟨ha,δ',e,⟨a,rfl⟩,_⟩
    ·have:ds.all (z2d (len0 ds))=false:=by rw [hall] at ha; simpa using ha
     simp [ioOk,z0g,dTr,eIsi,isTy,bVar,z2j,z2S,le_int,c1,c2,z2T,eVar]
     rw [e]
     simp [z0F,z0h,isFl,h1,h2,this]
    ·have:ds.all (z2d (len0 ds))=true:=by rw [hall] at ha; simpa using ha
     simp [ioOk,z0g,dTr,eIsi,isTy,bVar,z2j,z2S,le_int,c1,c2,z2T,eVar]
     rw [e]
     simp [z0F,z0h,isFl,h1,h2,this]
   ·have c2:¬ (ds.length:Int)≤64:=by omega
    simp [ioOk,z0g,dTr,eIsi,isTy,bVar,z2j,z2S,le_int,c1,c2,z0F,z0h,isFl,h2]
  ·have c1:¬ (1:Int)≤(ds.length:Int):=by omega
   simp [ioOk,z0g,dTr,eIsi,isTy,bVar,z2j,z2S,le_int,c1,z0F,z0h,isFl,h1]
 | exc _ _=>exact hd.elim
 | xd _=>exact hd.elim
 | _=>simp [ioOk,z0g,dTr,eIsi,isTy,bVar,z0F,z0h,isFl]
def lettersT:Tx:=[97,98,99,100,101,102,103,104,105,106,107,108,109,110,111,112,113,114,115,116,117,118,119,120,121,122]
theorem zel (hp:Pen d):∃ (h w:Nat) (d':D),z16 [.own d]=some (.pure (.tup [.int h,.int w]),[.own d'])∧0 < h∧h≤4∧0 < w∧w≤4∧2 < h + w∧Pen d':=by
 obtain ⟨r1,d1,e1,l1,p1⟩:=z3F hp 3 3 rfl (by decide) (by decide)
 obtain ⟨r2,d2,e2,l2,p2⟩:=z3F p1 3 3 rfl (by decide) (by decide)
 obtain ⟨r3,d3,e3,l3,p3⟩:=z3F p2 8 8 rfl (by decide) (by decide)
 obtain ⟨r4,d4,e4,l4,p4⟩:=z3F p3 6 6 rfl (by decide) (by decide)
 unfold z16 gOf z2x runD
 by_cases h3:r3=0
 ·subst h3
  have:r4=0∨r4=1∨r4=2∨r4=3∨r4=4∨r4=5:=by omega
  rcases this with rfl | rfl | rfl | rfl | rfl | rfl
  ·exact ⟨4,1,d4,by simp [ioOk,z0g,dAsg,z01,ios,ndup,z14,evX,mkA,e1,e2,e3,e4,putA,pAdd,pEq,eqD,flat,dTr,pIx,atI,ixN,gTp,z0d,z10,eOpF,eOpN,bVar,eVar,z0F,z0h],by decide,by decide,by decide,by decide,by decide,p4⟩
  ·exact ⟨1,4,d4,by simp [ioOk,z0g,dAsg,z01,ios,ndup,z14,evX,mkA,e1,e2,e3,e4,putA,pAdd,pEq,eqD,flat,dTr,pIx,atI,ixN,gTp,z0d,z10,eOpF,eOpN,bVar,eVar,z0F,z0h],by decide,by decide,by decide,by decide,by decide,p4⟩
  ·exact ⟨4,4,d4,by simp [ioOk,z0g,dAsg,z01,ios,ndup,z14,evX,mkA,e1,e2,e3,e4,putA,pAdd,pEq,eqD,flat,dTr,pIx,atI,ixN,gTp,z0d,z10,eOpF,eOpN,bVar,eVar,z0F,z0h],by decide,by decide,by decide,by decide,by decide,p4⟩
  ·exact ⟨4,3,d4,by simp [ioOk,z0g,dAsg,z01,ios,ndup,z14,evX,mkA,e1,e2,e3,e4,putA,pAdd,pEq,eqD,flat,dTr,pIx,atI,ixN,gTp,z0d,z10,eOpF,eOpN,bVar,eVar,z0F,z0h],by decide,by decide,by decide,by decide,by decide,p4⟩
  ·exact ⟨1,2,d4,by simp [ioOk,z0g,dAsg,z01,ios,ndup,z14,evX,mkA,e1,e2,e3,e4,putA,pAdd,pEq,eqD,flat,dTr,pIx,atI,ixN,gTp,z0d,z10,eOpF,eOpN,bVar,eVar,z0F,z0h],by decide,by decide,by decide,by decide,by decide,p4⟩
  ·exact ⟨2,1,d4,by simp [ioOk,z0g,dAsg,z01,ios,ndup,z14,evX,mkA,e1,e2,e3,e4,putA,pAdd,pEq,eqD,flat,dTr,pIx,atI,ixN,gTp,z0d,z10,eOpF,eOpN,bVar,eVar,z0F,z0h],by decide,by decide,by decide,by decide,by decide,p4⟩
 ·by_cases hs:r1=0∧r2=0
  ·obtain ⟨rfl,rfl⟩:=hs
   refine ⟨1,2,d3,?_,by decide,by decide,by decide,by decide,by decide,p3⟩
   simp [ioOk,z0g,dAsg,z01,ios,ndup,z14,evX,mkA,e1,e2,e3,putA,pAdd,pEq,eqD,flat,dTr,h3,eOpF,eOpN,bVar,eVar,z0F,z0h]
  ·have hn:¬ (1 + (r1:Int) + (1 + (r2:Int))=2):=by omega
   refine ⟨1 + r1,1 + r2,d3,?_,by omega,by omega,by omega,by omega,by omega,p3⟩
   simp [ioOk,z0g,dAsg,z01,ios,ndup,z14,evX,mkA,e1,e2,e3,putA,pAdd,pEq,eqD,flat,dTr,h3,hn,eOpF,eOpN,bVar,eVar,z0F,z0h]
theorem z6n (ts:List Nat) (r:Nat) (h:r < ts.length):pIx (.lst (ts.map fun n=>.str [n])) (.int r)=some (.pure (.str [ts.getD r 0])):=by
 simp [pIx,z1D,h]
theorem zfM (hp:Pen d) (ts:List Nat) (place way:Nat) (h1:place < ts.length) (h2:ts.length≤64):∃ (n:Nat) (d':D),
  z0Q [.own d,.pure (.lst (ts.map fun n=>.str [n])),.pure (.int place),.pure (.int way)]=some (.pure (.str [n]),[.own d',.pure (.lst (ts.map fun n=>.str [n])),.pure (.int place),.pure (.int way)])∧n ∈ ts∧Pen d':=by
 have mem:∀ r,r < ts.length→ts.getD r 0 ∈ ts:=fun r h=>by simp [h]
 unfold z0Q gOf z4y runD
 by_cases w1:way=1
 ·subst w1
  obtain ⟨r,d1,e1,l1,p1⟩:=z3F hp (place + 1) ((place:Int) + 1) (by omega) (by omega) (by omega)
  refine ⟨ts.getD r 0,d1,?_,mem r (by omega),p1⟩
  simp [ioOk,z0g,eOpF,eOpN,bVar,pEq,eqD,flat,dTr,z01,ios,ndup,z14,evX,pAdd,mkA,e1,putA,pIx,z1D,z0F,z0h,show r < ts.length by omega]
 ·by_cases w2:way=2
  ·subst w2
   have hr:(place + 1) % ts.length < ts.length:=Qv _ (by omega)
   refine ⟨ts.getD ((place + 1) % ts.length) 0,d,?_,mem _ hr,hp⟩
   have hm:pMod (.int ((place:Int) + 1)) (.int ts.length)=some (.pure (.int (((place + 1) % ts.length:Nat):Int))):=by
    simp only [pMod,pII]
    rw [if_pos (by simp; omega)]
    simp
   simp [ioOk,z0g,eOpF,eOpN,bVar,pEq,eqD,flat,dTr,pAdd,pLen,hm,z0F,z0h]
   have hx:=z6n ts ((place + 1) % ts.length) hr
   simp at hx
   simp [hx]
  ·by_cases w3:way=3
   ·subst w3
    obtain ⟨r,d1,e1,l1,p1⟩:=z3F hp 4 4 rfl (by decide) (by decide)
    by_cases hr:0 < r
    ·refine ⟨ts.getD place 0,d1,?_,mem place h1,p1⟩
     simp [ioOk,z0g,eOpF,eOpN,bVar,pEq,eqD,flat,dTr,z01,ios,ndup,z14,evX,mkA,e1,putA,pGt,pCmp,hr,pIx,z1D,h1,z0F,z0h]
    ·obtain ⟨r',d2,e2,l2,p2⟩:=z5q p1 ts.length (by omega) (by omega)
     refine ⟨ts.getD r' 0,d2,?_,mem r' l2,p2⟩
     simp [ioOk,z0g,eOpF,eOpN,bVar,pEq,eqD,flat,dTr,z01,ios,ndup,z14,evX,mkA,e1,putA,pGt,pCmp,hr,pLen,e2,pIx,z1D,l2,z0F,z0h]
   ·obtain ⟨r',d2,e2,l2,p2⟩:=z5q hp ts.length (by omega) (by omega)
    refine ⟨ts.getD r' 0,d2,?_,mem r' l2,p2⟩
    have c1:¬ (way:Int)=1:=by omega
    have c2:¬ (way:Int)=2:=by omega
    have c3:¬ (way:Int)=3:=by omega
    simp [ioOk,z0g,eOpF,eOpN,bVar,pEq,eqD,flat,dTr,z01,ios,ndup,z14,evX,mkA,putA,c1,c2,c3,pLen,e2,pIx,z1D,l2,z0F,z0h]
theorem zaf:∀ k,k < 26→lettersT.getD k 0=97 + k:=by decide
theorem zaj (xs:List Nat) (h:xs.length < 64):z5b (.lst (xs.map fun n=>.str [n]))=some (.own (.lst ((z56 xs).map fun n=>.str [n]))):=by
 have e:(xs.map fun n=>D.str [n])=(xs.map fun n=>[n]).map D.str:=by simp
 unfold z5b
 simp only [e,z4W]
 rw [if_pos (by simpa using h),zdH]
 simp
def rawT (f n:Nat):List Nat:=(Wf n).map fun k=>97 + (f + 5 * k) % 26
theorem zb3 (f n:Nat) (hn:n≤26):(rawT f n).Nodup:=by
 unfold rawT
 rw [QT,Je]
 refine (List.pairwise_lt_range (n:=n)).imp_of_mem ?_
 intro a b ha hb hab e
 simp at ha hb
 omega
def rb (pd:D) (m h w n f:Nat) (s7:S) (wy:Nat) (blocks:List D) (a b c:Option S):Dl :=
 [some (.own pd),some (.pure (.int m)),some (.pure (.int h)),some (.pure (.int w)),some (.pure (.int (1 + (n:Int)))),some (.pure (.int f)),some (.pure (.str lettersT)),some s7,some (.pure (.int wy)),some (.own (.lst blocks)),a,b,c,none,none]
def tD (ts:List Nat):D:=.lst (ts.map fun n=>.str [n])
def sT (ts:List Nat) (s:S):Prop:=s = .own (tD ts)∨s = .pure (tD ts)
theorem za7 (hts:ts.length≤64) (hw:w≤4) (hpd:Pen pd) (h7:sT ts s7) (blocks:List D) (place:Nat) (hpl:place < ts.length) (block:List D) (row:Nat) :
  ∃ (x:Tx) (pd':D) (s7':S),z28 [14] (gNm [0] 14) dYes (z01 z0Q [.io 0,.val (eVar 7),.val (eVar 10),.val (eVar 8)]) (z0H 0 w) (rb pd m h w n f s7 wy blocks (some (.pure (.int place))) (some (.own (.lst block))) (some (.pure (.int row)))) []
   = .ok (x.map fun n=>.str [n]) (rb pd' m h w n f s7' wy blocks (some (.pure (.int place))) (some (.own (.lst block))) (some (.pure (.int row))))∧x.length=w∧(∀ n ∈ x,n ∈ ts)∧Pen pd'∧sT ts s7':=by
 obtain ⟨xs,δ',e,⟨pd',s7',hpd',h7',rfl⟩,hn,hf⟩:=z3P (cs:=[14]) (g:=gNm [0] 14) (t:=dYes) (el:=z01 z0Q [.io 0,.val (eVar 7),.val (eVar 10),.val (eVar 8)]) (fun δ=>∃ pd s7,Pen pd∧sT ts s7∧δ=rb pd m h w n f s7 wy blocks (some (.pure (.int place))) (some (.own (.lst block))) (some (.pure (.int row))))
  (fun _ x=>∃ n,n ∈ ts∧x = .str [n]) (z0H 0 w) _ [] ⟨pd,s7,hpd,h7,rfl⟩ (by rw [z13]; simp; omega) (fun d hd δ ⟨pd,s7,hpd,h7,e⟩=>by
   subst e
   obtain ⟨i,hi,rfl⟩:=z3K hd
   obtain ⟨k,d',e,hk,p⟩:=zfM hpd ts place wy hpl hts
   have e':z0Q [.own pd,.pure (tD ts),.pure (.int place),.pure (.int wy)]=some (.pure (.str [k]),[.own d',.pure (tD ts),.pure (.int place),.pure (.int wy)]):=e
   refine ⟨_,_,.pure (.str [k]),(rb d' m h w n f (.pure (tD ts)) wy blocks (some (.pure (.int place))) (some (.own (.lst block))) (some (.pure (.int row)))).set 14 (some (.pure (.int i))),rfl,rfl,?_,⟨d',_,p,.inr rfl,rfl⟩,⟨_,hk,rfl⟩⟩
   rcases h7 with rfl | rfl
   ·simp [rb,z01,ios,ndup,z14,evX,eVar,mkA,e',putA]
   ·simp [rb,z01,ios,ndup,z14,evX,eVar,mkA,e',putA])
 obtain ⟨x,rfl,hx⟩:=z8Y (P:=fun n=>n ∈ ts) (zb2 hn hf fun d x _ h=>h)
 exact ⟨x,pd',s7',by simpa using e,by simpa using hn,hx,hpd',h7'⟩
theorem z8a (hts:ts.length≤64) (hw:w≤4) (hh:h≤4) (hpd:Pen pd) (h7:sT ts s7) (blocks:List D) (place:Nat) (hpl:place < ts.length) (rs:Option S) :
  ∃ (fl:List Tx) (pd':D) (s7':S) (rs':Option S),forL (gNm [0] 12) (z1e 11 (eC1 (z1Z []) (bOf (z1G [14] (z1d (eVar 3)) (gNm [0] 14) dYes (z01 z0Q [.io 0,.val (eVar 7),.val (eVar 10),.val (eVar 8)]))))) (z0H 0 h) (rb pd m h w n f s7 wy blocks (some (.pure (.int place))) (some (.own (.lst []))) rs)
   = .ok .next (rb pd' m h w n f s7' wy blocks (some (.pure (.int place))) (some (.own (.lst (fl.map .str)))) rs')∧fl.length=h∧(∀ r ∈ fl,r.length=w∧∀ n ∈ r,n ∈ ts)∧Pen pd'∧sT ts s7':=by
 obtain ⟨δ',e3,pd',s7',fl,rs',hpd',h7',hfl,hall,rfl⟩:=z2H (g:=gNm [0] 12) (b:=z1e 11 (eC1 (z1Z []) (bOf (z1G [14] (z1d (eVar 3)) (gNm [0] 14) dYes (z01 z0Q [.io 0,.val (eVar 7),.val (eVar 10),.val (eVar 8)]))))) (fun k δ=>∃ (pd:D) (s7:S) (fl:List Tx) (rs:Option S),Pen pd∧sT ts s7∧fl.length=k∧(∀ r ∈ fl,r.length=w∧∀ n ∈ r,n ∈ ts)∧δ=rb pd m h w n f s7 wy blocks (some (.pure (.int place))) (some (.own (.lst (fl.map .str)))) rs)
  (z0H 0 h) 0 _ ⟨pd,s7,[],rs,hpd,h7,rfl,by simp,rfl⟩ (fun i d δ hd ⟨pd,s7,fl,rs,hpd,h7,hfl,hall,e⟩=>by
   subst e
   obtain ⟨hi,rfl⟩:=z27 hd
   obtain ⟨x,pd',s7',e,hx,hxt,hpd',h7'⟩:=za7 (m:=m) (h:=h) (n:=n) (f:=f) (wy:=wy) hts hw hpd h7 blocks place hpl (fl.map .str) i
   have hz:fl.length < W6:=by rw [z13]; omega
   have ej:=z7K x (by omega)
   refine ⟨_,rb pd' m h w n f s7' wy blocks (some (.pure (.int place))) (some (.own (.lst ((fl ++ [x]).map .str)))) (some (.pure (.int i))),rfl,?_,⟨pd',s7',fl ++ [x],_,hpd',h7',by simp [hfl],?_,rfl⟩⟩
   ·unfold rb at e ⊢
    simp [z1e,z3J,eVar,z6R w (by omega),z14,clrD]
    rw [e]
    simp [ej,z1H,putL,hz]
   ·intro r hr
    rcases J5.mp hr with hr | hr
    ·exact hall r hr
    ·simp at hr; subst hr; exact ⟨hx,hxt⟩)
 exact ⟨fl,pd',s7',rs',e3,by simpa using hfl,hall,hpd',h7'⟩
theorem zb8 (hp:Pen d) (m:Nat) (hm0:0 < m) (hm1:m≤26):∃ (h w:Nat) (bs:List (Nat×List Tx)) (d':D),
  z0J [.own d,.pure (.int m)]=some (.pure (ruD h w bs),[.own d',.pure (.int m)])∧Rul h w bs∧bs.length≤m∧Pen d':=by
 obtain ⟨h,w,d1,e1,h0,h1,w0,w1,hw,p1⟩:=zel hp
 obtain ⟨r,d2,e2,l2,p2⟩:=z5q p1 m hm0 (by omega)
 obtain ⟨f,d3,e3,l3,p3⟩:=z3F p2 26 26 rfl (by decide) (by decide)
 obtain ⟨wy,d4,e4,l4,p4⟩:=z3F p3 5 5 rfl (by decide) (by decide)
 -- the tiles
 have ec:=z4Y (cs:=[13]) (g:=gNm [0] 13) (t:=dYes) (el:=eOpF pIx 6 (bOf (eOp pMod (eOpF pAdd 5 (bOf (eOp z2P (eD (.int 5)) (bVar 13)))) (bOf (eD (.int 26)))))) (fun d=>match d with | .int k=>.str [97 + (f + 5 * k.toNat) % 26] | _=>.non)
  [some (.own d3),some (.pure (.int m)),some (.pure (.int h)),some (.pure (.int w)),some (.pure (.int (1 + (r:Int)))),some (.pure (.int f)),some (.pure (.str lettersT)),none,none,none,none,none,none,none,none] (z0H 0 (1 + r)) [] (by rw [z13]; simp; omega) (fun d hd=>by
   obtain ⟨i,hi,rfl⟩:=z3K hd
   refine ⟨_,_,.pure (.str [97 + (f + 5 * i) % 26]),[some (.own d3),some (.pure (.int m)),some (.pure (.int h)),some (.pure (.int w)),some (.pure (.int (1 + (r:Int)))),some (.pure (.int f)),some (.pure (.str lettersT)),none,none,none,none,none,none,some (.pure (.int i)),none],rfl,rfl,?_,rfl,rfl⟩
   have hk:(f + 5 * i) % 26 < 26:=Qv _ (by decide)
   have hx:=z6m lettersT ((f + 5 * i) % 26) hk (by decide)
   rw [zaf _ hk] at hx
   have hc:((f:Int) + 5 * (i:Int)) % 26=(((f + 5 * i) % 26:Nat):Int):=by omega
   have hmul:z2P (.int 5) (.int i)=some (.pure (.int (5 * (i:Int)))):=by
    unfold z2P pMul pII
    have:cMul 5 i=true:=by unfold cMul; simp
    simp only [this,if_true]
   have hmod:pMod (.int ((f:Int) + 5 * (i:Int))) (.int 26)=some (.pure (.int (((f + 5 * i) % 26:Nat):Int))):=by
    rw [← hc]; rfl
   generalize lettersT=lt at hx ⊢
   simp only [eOpF,eOpN,bVar,zgV,zgU,ev_eD,z1l,ev_p2,List.set_cons_succ,List.set_cons_zero,List.getElem?_cons_succ,List.getElem?_cons_zero,ev_d1,hmul,pAdd,hmod,hx])
 have hraw:List.map (fun (d:D)=>match d with | .int k=>D.str [97 + (f + 5 * k.toNat) % 26] | _=>.non) (z0H 0 (1 + r))=(rawT f (1 + r)).map fun n=>.str [n]:=by
  simp [z0H,rawT]
 rw [hraw] at ec
 simp only [Qf] at ec
 have hrl:(rawT f (1 + r)).length=1 + r:=by simp [rawT]
 have es:=zaj (rawT f (1 + r)) (by rw [hrl]; omega)
 have hts:(z56 (rawT f (1 + r))).length=1 + r:=by rw [z7Y,hrl]
 have hlt:=z9r (zb3 f (1 + r) (by omega))
 have hle:∀ t ∈ z56 (rawT f (1 + r)),97≤t∧t≤122:=fun t ht=>by
  rw [sortN_mem] at ht
  simp [rawT] at ht
  obtain ⟨k,_,rfl⟩:=ht
  omega
 generalize z56 (rawT f (1 + r))=ts at es hts hlt hle
 -- the blocks
 obtain ⟨δ',e5,pd,s7,bs,a,b,c,hpd,h7,hbl,hbt,hall,rfl⟩:=z2H (g:=gNm [0] 10) (b:=(dSeq (dAsg (eLst aNil) (gNm [0] 11)) (dSeq (dFor (z1d (eVar 2)) (gNm [0] 12) (z1e 11 (eC1 (z1Z []) (bOf (z1G [14] (z1d (eVar 3)) (gNm [0] 14) dYes (z01 z0Q [.io 0,.val (eVar 7),.val (eVar 10),.val (eVar 8)])))))) (z1e 9 (eTup (z0u (eOpF pIx 7 (bVar 10)) (z0u (eC1 z12 (bVar 11)) aNil)))))))
  (fun k δ=>∃ (pd:D) (s7:S) (bs:List (Nat×List Tx)) (a b c:Option S),Pen pd∧sT ts s7∧bs.length=k∧bs.map (·.1)=ts.take k∧(∀ b ∈ bs,b.2.length=h∧∀ r ∈ b.2,r.length=w∧∀ n ∈ r,n ∈ ts)∧δ=rb pd m h w r f s7 wy (bs.map blD) a b c)
  (z0H 0 (1 + r)) 0 (rb d4 m h w r f (.own (tD ts)) wy [] none none none) ⟨d4,_,[],none,none,none,p4,.inl rfl,rfl,rfl,by simp,rfl⟩ (fun i d δ hd ⟨pd,s7,bs,a,b,c,hpd,h7,hbl,hbt,hall,e⟩=>by
   subst e
   obtain ⟨hi,rfl⟩:=z27 hd
   rw [Qq] at hbl hbt
   obtain ⟨fl,pd',s7',rs',e,hfl,hflt,hpd',h7'⟩:=z8a (m:=m) (n:=r) (f:=f) (wy:=wy) (ts:=ts) (by omega) w1 h1 hpd h7 (bs.map blD) i (by omega) c
   have hz:bs.length < W6:=by rw [z13]; omega
   have hx:=z6n ts i (by omega)
   refine ⟨_,rb pd' m h w r f s7' wy ((bs ++ [(ts.getD i 0,fl)]).map blD) (some (.pure (.int i))) (some (.own (.lst (fl.map .str)))) rs',rfl,?_,⟨pd',s7',bs ++ [(ts.getD i 0,fl)],_,_,_,hpd',h7',by simp [hbl],?_,?_,rfl⟩⟩
   ·unfold rb at e ⊢
    simp [dAsg,eVar,z6R h (by omega)]
    rw [e]
    rcases h7' with rfl | rfl
    ·simp [z1e,z3J,eOpF,eOpN,bVar,tD,hx,z12,putL,hz,blD]
    ·simp [z1e,z3J,eOpF,eOpN,bVar,tD,hx,z12,putL,hz,blD]
   ·rw [Qq,List.map_append,hbt,List.take_add_one]
    simp [show i < ts.length by omega]
   ·intro b hb
    rcases J5.mp hb with hb | hb
    ·exact hall b hb
    ·simp at hb; subst hb; exact ⟨hfl,hflt⟩)
 have hbl':bs.length=1 + r:=by simpa using hbl
 have hbt':bs.map (·.1)=ts:=by
  rw [hbt,List.take_of_length_le]
  simp [hts]
 refine ⟨h,w,bs,pd,?_,⟨h0,h1,w0,w1,hw,by omega,by omega,by rw [hbt']; exact hlt,fun b hb=>hle _ (by rw [← hbt']; exact WG hb),fun b hb=>by rw [hbt']; exact hall b hb⟩,by omega,hpd⟩
 unfold z0J gOf z2X runD
 unfold lettersT at ec
 simp [ioOk,z0g,dAsg,z01,ios,ndup,z14,evX,mkA,e1,putA,gTp,z0d,z10,eVar,e2,pAdd,e3,z7j r (by omega),clrD]
 rw [ec]
 simp [z1H,es,e4,putA,eVar,z7j r (by omega)]
 unfold rb lettersT tD at e5
 rw [e5]
 simp [bVar,z12,z0F,z0h,eVar]
def wh:D→Bool
 | .int i=>decide (1≤i) && decide (i≤4)
 | _=>false
theorem gt_int (i j:Int):pGt (.int i) (.int j)=some (.pure (.bl (decide (j < i)))):=rfl
theorem z8I (i j:Int):pEq (.int i) (.int j)=some (.pure (.bl (i == j))):=rfl
theorem add_int (i j:Int):pAdd (.int i) (.int j)=some (.pure (.int (i + j))):=rfl
def NX:D→Prop
 | .exc _ _=>False
 | .xd _=>False
 | _=>True
theorem zfQ (d:D) (hd:NX d):z1q [.pure d,.pure (.int 1)]=some (.pure (.bl (match d with | .int i=>decide (1≤i) | _=>false)),[.pure d,.pure (.int 1)]):=by
 unfold z1q gOf z3S runD
 cases d with
 | int i=>simp [ioOk,z0g,eAnd,eNot,eIsi,isTy,bVar,eVar,eOpF,eOpN,le_int,z0F,z0h]
 | exc _ _=>exact hd.elim
 | xd _=>exact hd.elim
 | _=>simp [ioOk,z0g,eAnd,eNot,eIsi,isTy,bVar,eVar,z0F,z0h]
theorem z9z (d:D) (hd:NX d):z0X [.pure d,.pure (.int 1),.pure (.int 4)]=some (.pure (.bl (wh d)),[.pure d,.pure (.int 1),.pure (.int 4)]):=by
 unfold z0X gOf z2U runD
 have e:=zfQ d hd
 cases d with
 | int i =>
  by_cases h1:1≤i
  ·simp [h1] at e
   simp [ioOk,z0g,eAnd,z01,ios,ndup,z14,evX,mkA,e,putA,bVar,eVar,eOpF,eOpN,le_int,h1,z0F,z0h,wh]
  ·simp [h1] at e
   simp [ioOk,z0g,eAnd,z01,ios,ndup,z14,evX,mkA,e,putA,bVar,eVar,h1,z0F,z0h,wh]
 | exc _ _=>exact hd.elim
 | xd _=>exact hd.elim
 | _=>simp [ioOk,z0g,eAnd,z01,ios,ndup,z14,evX,mkA,e,putA,bVar,eVar,z0F,z0h,wh]
def szD (a b:D):Bool:=match a,b with
 | .int h,.int w=>wh (.int h) && wh (.int w) && (decide (1 < h) || decide (1 < w))
 | _,_=>false
theorem zfz (h:wh a=false):szD a b=false:=by
 cases a <;> cases b <;> simp [szD,h]
theorem zfy (h:wh b=false):szD a b=false:=by
 cases a <;> cases b <;> simp [szD,h]
theorem zdD (h:wh a=true):∃ i,a = .int i∧1≤i∧i≤4:=by
 cases a <;> simp [wh] at h
 exact ⟨_,rfl,h.1,h.2⟩
theorem z5o (a b:D) (ha:NX a) (hb:NX b):z1a [.pure a,.pure b]=some (.pure (.bl (szD a b)),[.pure a,.pure b]):=by
 have ea:=z9z a ha
 have eb:=z9z b hb
 clear ha hb
 unfold z1a gOf z3T runD
 cases ha:wh a with
 | false =>
  rw [ha] at ea
  simp [ioOk,z0g,dTr,z01,ios,ndup,evX,eVar,mkA,ea,putA,z0F,z0h,zfz ha]
 | true =>
  rw [ha] at ea
  cases hb:wh b with
  | false =>
   rw [hb] at eb
   simp [ioOk,z0g,dTr,z01,ios,ndup,evX,eVar,mkA,ea,eb,putA,z0F,z0h,zfy hb]
  | true =>
   rw [hb] at eb
   obtain ⟨i,rfl,i1,i4⟩:=zdD ha
   obtain ⟨j,rfl,j1,j4⟩:=zdD hb
   by_cases h1:1 < i
   ·simp [ioOk,z0g,dTr,z01,ios,ndup,evX,eVar,mkA,ea,eb,putA,eOr,eOpF,eOpN,bVar,gt_int,h1,z0F,z0h,szD,ha,hb]
   ·simp [ioOk,z0g,dTr,z01,ios,ndup,evX,eVar,mkA,ea,eb,putA,eOr,eOpF,eOpN,bVar,gt_int,h1,z0F,z0h,szD,ha,hb]
theorem zfL (d:D) (hd:Sm d):z1I [.pure d]=some (.pure (.bl (lg 1 d)),[.pure d]):=by
 have e:=z8b d 1 hd
 have e':z0x [.pure d,.pure (.int 1)]=some (.pure (.bl (lg 1 d)),[.pure d,.pure (.int 1)]):=e
 unfold z1I gOf z4v runD
 simp [ioOk,z0g,z01,ios,ndup,evX,eVar,mkA,e',putA,z0F,z0h]
def dims (h w:Int):D→Bool
 | .tup ds=>((ds.length:Int) == h) && ((len0 ds:Int) == w)
 | _=>false
def isPr (h w:Int):D→Bool
 | .tup [t,b]=>lg 1 t && isFl b && dims h w b
 | _=>false
def SmP:D→Prop
 | .tup [t,b]=>Sm t∧SmT b
 | .exc _ _=>False
 | .xd _=>False
 | _=>True
theorem zgT (h:isFl b=true) (hs:SmT b):∃ ds x,b = .tup ds∧ds[0]? = some (.str x)∧x.length≤1000∧len0 ds=x.length:=by
 cases b <;> simp [isFl] at h
 rename_i ds
 obtain ⟨⟨h1,h2⟩,h3⟩:=h
 cases ds with
 | nil=>simp at h1
 | cons a r =>
  have ha:=h3 a (by simp)
  cases a <;> simp [z2d] at ha
  rename_i x
  have:=hs.2 (.str x) (by simp)
  exact ⟨_,x,rfl,rfl,this,rfl⟩
theorem tup2 (ds:List D) (h:ds.length=2):∃ a b,ds=[a,b]:=by
 match ds,h with
 | [a,b],_=>exact ⟨a,b,rfl⟩
theorem z5Y (h w:Int) (d:D) (hd:SmP d):z15 [.pure (.int h),.pure (.int w),.pure d]=some (.pure (.bl (isPr h w d)),[.pure (.int h),.pure (.int w),.pure d]):=by
 unfold z15 gOf z4x runD
 cases d with
 | tup ds =>
  by_cases hl:ds.length=2
  ·obtain ⟨t,b,rfl⟩:=tup2 ds hl
   obtain ⟨ht,hb⟩:=hd
   have et:=zfL t ht
   have eb:=z5p b hb
   have el:pLen (.tup [t,b])=some (.pure (.int 2)):=rfl
   cases h1:lg 1 t with
   | false =>
    rw [h1] at et
    simp [ioOk,z0g,dTr,eIsi,isTy,bVar,el,z4P,dAsg,eVar,gTp,z0d,z10,z01,ios,ndup,evX,mkA,et,putA,z0F,z0h,isPr,h1]
   | true =>
    rw [h1] at et
    cases h2:isFl b with
    | false =>
     rw [h2] at eb
     simp [ioOk,z0g,dTr,eIsi,isTy,bVar,el,z4P,dAsg,eVar,gTp,z0d,z10,z01,ios,ndup,evX,mkA,et,eb,putA,z0F,z0h,isPr,h2]
    | true =>
     rw [h2] at eb
     obtain ⟨rs,x,rfl,h0,hx,hx0⟩:=zgT h2 hb
     have ei:=ix0 rs _ h0
     by_cases hh:(rs.length:Int)=h
     ·simp [ioOk,z0g,dTr,eIsi,isTy,bVar,el,z4P,dAsg,eVar,gTp,z0d,z10,z01,ios,ndup,evX,mkA,et,eb,putA,z0F,z0h,isPr,h1,h2,dims,eAnd,z2S,z8I,hh,eOpF,eOpN,ei,z2h x hx,hx0]
     ·have hh':((rs.length:Int) == h)=false:=by simpa using hh
      simp [ioOk,z0g,dTr,eIsi,isTy,bVar,el,z4P,dAsg,eVar,gTp,z0d,z10,z01,ios,ndup,evX,mkA,et,eb,putA,z0F,z0h,isPr,h1,h2,dims,eAnd,z2S,z8I,hh']
  ·have hl':¬ (ds.length:Int)=2:=by omega
   have hp:isPr h w (.tup ds)=false:=by
    unfold isPr
    split
    ·rename_i heq; cases heq; simp at hl
    ·rfl
   simp [ioOk,z0g,dTr,eIsi,isTy,bVar,z2S,z4P,hl',z0F,z0h,hp]
 | exc _ _=>exact hd.elim
 | xd _=>exact hd.elim
 | _=>simp [ioOk,z0g,dTr,eIsi,isTy,bVar,z0F,z0h,isPr]
theorem ix1 (a b:D) (r:List D):pIx (.tup (a :: b :: r)) (.int 1)=some (.pure b):=by simp [pIx,z7R]
theorem ix00 (a:D) (r:List D):pIx (.tup (a :: r)) (.int 0)=some (.pure a):=by simp [pIx,z2k]
structure GP (h w:Int) (b:Nat×List Tx):Prop where
 t:letN b.1=true
 l:(b.2.length:Int)=h
 n:b.2.length≤64
 r:∀ r ∈ b.2,r.length≤64
theorem z9S:∀ {ds:List D},ds.all (z2d w)=true→∃ fl:List Tx,ds=fl.map .str∧∀ r ∈ fl,r.length≤64
 | [],_=>⟨[],rfl,by simp⟩
 | d :: ds,h=>by
  simp only [Q5,Wa] at h
  obtain ⟨fl,rfl,hf⟩:=z9S h.2
  cases d <;> simp [z2d] at h
  rename_i x
  refine ⟨x :: fl,rfl,fun r hr=>?_⟩
  rcases Wn.mp hr with rfl | hr
  ·have:=h.1.1
   simp [lg] at this
   exact this.1.2
  ·exact hf r hr
theorem zes (hp:isPr h w d=true):∃ b,d=blD b∧GP h w b:=by
 cases d with
 | tup ds =>
  unfold isPr at hp
  split at hp
  ·rename_i t b heq
   cases heq
   simp only [Wa] at hp
   obtain ⟨⟨h1,h2⟩,h3⟩:=hp
   cases t <;> simp [lg] at h1
   rename_i x
   obtain ⟨⟨l1,l2⟩,ha⟩:=h1
   obtain ⟨n,rfl⟩:∃ n,x=[n]:=by
    match x,l1,l2 with
    | [n],_,_=>exact ⟨n,rfl⟩
   cases b <;> simp [isFl] at h2
   rename_i rs
   obtain ⟨fl,rfl,hf⟩:=z9S (w:=len0 rs) (by simpa [WF] using h2.2)
   simp only [dims,Wa,beq_iff_eq] at h3
   refine ⟨(n,fl),rfl,⟨by simpa using ha,by simpa using h3.1,by simpa using h2.1.2,hf⟩⟩
  ·cases hp
 | _=>simp [isPr] at hp
theorem zbd:∀ {ps:List D},ps.all (isPr h w)=true→∃ bs:List (Nat×List Tx),ps=bs.map blD∧∀ b ∈ bs,GP h w b
 | [],_=>⟨[],rfl,by simp⟩
 | d :: ps,hp=>by
  simp only [Q5,Wa] at hp
  obtain ⟨b,rfl,hb⟩:=zes hp.1
  obtain ⟨bs,rfl,hbs⟩:=zbd hp.2
  refine ⟨b :: bs,rfl,fun c hc=>?_⟩
  rcases Wn.mp hc with rfl | hc
  ·exact hb
  ·exact hbs c hc
theorem z7q (bs:List (Nat×List Tx)):z47 (bs.map blD)=some (bs.map fun b=>(Sum.inr [b.1],flD b.2)):=by
 induction bs with
 | nil=>rfl
 | cons b r ih=>simp [z47,keyD,ih]
theorem z9D (kvs:List (DKey×D)) (k j:DKey) (v:D):((putD kvs k v).any fun kv=>decide (kv.1=j))=(decide (k=j) || kvs.any fun kv=>decide (kv.1=j)):=by
 unfold putD
 split
 ·rename_i h
  have e:((kvs.map fun kv=>if kv.1=k then (kv.1,v) else kv).any fun kv=>decide (kv.1=j))=kvs.any fun kv=>decide (kv.1=j):=by
   rw [Jk]
   congr 1
   funext kv
   simp only [Function.comp]
   split <;> rfl
  rw [e]
  by_cases hk:k=j
  ·subst hk; simp [h]
  ·simp [hk]
 ·rw [List.any_append]
  simp [Bool.or_comm]
theorem z8e (j:DKey):∀ (kps acc:List (DKey×D)),((z6A kps acc).any fun kv=>decide (kv.1=j))=((kps.any fun kv=>decide (kv.1=j)) || acc.any fun kv=>decide (kv.1=j))
 | [],acc=>rfl
 | p :: kps,acc=>by
  show ((z6A kps (putD acc p.1 p.2)).any fun kv=>decide (kv.1=j))=_
  rw [z8e j kps,z9D,QK]
  cases (decide (p.1=j)) <;> cases (kps.any fun kv=>decide (kv.1=j)) <;> simp
theorem z5N (kvs:List (DKey×D)) (k:DKey):(valD kvs k).isSome=kvs.any fun kv=>decide (kv.1=k):=by
 unfold valD
 rw [JE,List.isSome_find?]
theorem z6b:∀ fl:List Tx,(∀ r ∈ fl,r.length≤64)→z2D fl≤fl.length * 64
 | [],_=>by simp [z2D]
 | x :: fl,h=>by
  have h1:=h x (by simp)
  have h2:=z6b fl fun r hr=>h r (by simp [hr])
  unfold z2D at h2 ⊢
  rw [Ws,List.sum_cons,WC]
  omega
theorem zbE (g:GP h w b):z1Z [] (flD b.2)=some (.pure (.str b.2.flatten)):=by
 have hl:=z6b b.2 g.r
 have hn:=g.n
 unfold z1Z
 simp only [z4W,z2I]
 rw [if_pos (by have:W6=16777216:=rfl; simp; omega)]
theorem z72 (I:Nat→Dl→Prop) (bad:D→Bool) (Rr:S→Prop) :
  ∀ (ds:List D) (n:Nat) (δ:Dl),I n δ →
   (∀ (i:Nat) d δ,ds[i]? = some d→I (n + i) δ→∃ δ1,g (.pure d) δ=some δ1∧((bad d=true∧∃ r δ2,b δ1 = .ok (.ret r) δ2∧Rr r)∨(bad d=false∧∃ δ2,b δ1 = .ok .next δ2∧I (n + i + 1) δ2))) →
   (ds.any bad=true∧∃ r δ',forL g b ds δ = .ok (.ret r) δ'∧Rr r)∨(ds.any bad=false∧∃ δ',forL g b ds δ = .ok .next δ'∧I (n + ds.length) δ')
 | [],n,δ,h,_=>.inr ⟨rfl,δ,rfl,h⟩
 | d :: rs,n,δ,h,hs=>by
  obtain ⟨δ1,e1,hh⟩:=hs 0 d δ rfl h
  rcases hh with ⟨hb,r,δ2,e2,h2⟩ | ⟨hb,δ2,e2,h2⟩
  ·refine .inl ⟨by simp [hb],r,δ2,?_,h2⟩
   unfold forL
   rw [e1]
   simp only [e2,z1l]
  ·have ih:=z72 (g:=g) (b:=b) I bad Rr rs (n + 1) δ2 h2 (fun i d' δ' e hi=>by
    have:=hs (i + 1) d' δ' (by simpa using e) (by rw [show n + (i + 1)=n + 1 + i by omega]; exact hi)
    rw [show n + (i + 1) + 1=n + 1 + i + 1 by omega] at this
    exact this)
   have ef:∀ x,forL g b rs δ2=x→forL g b (d :: rs) δ=x:=fun x hx=>by
    unfold forL
    rw [e1]
    simp only [e2,z1l,hx]
   rcases ih with ⟨ha,r,δ',e3,h3⟩ | ⟨ha,δ',e3,h3⟩
   ·exact .inl ⟨by simp [ha],r,δ',ef _ e3,h3⟩
   ·exact .inr ⟨by simp [hb,ha],δ',ef _ e3,by rw [WC,show n + (rs.length + 1)=n + 1 + rs.length by omega]; exact h3⟩
def txt:D→Tx
 | .str x=>x
 | _=>[]
theorem txts (fl:List Tx):(fl.map D.str).map txt=fl:=by simp [Function.comp_def,txt]
def okB (ts:List Nat):D→Bool
 | .tup [_,.tup rs]=>(rs.map txt).flatten.all fun c=>ts.contains c
 | _=>false
theorem z6W (ts:List Nat) (b:Nat×List Tx):okB ts (blD b)=b.2.flatten.all fun c=>ts.contains c:=by
 show (((b.2.map D.str).map txt).flatten.all fun c=>ts.contains c)=_
 rw [txts]
def snd:D→D
 | .tup [_,d]=>d
 | d=>d
theorem zdn (ds:List D):(z4q ds).map snd=ds:=by
 apply QB
 ·simp [z4q]
 ·intro i h1 h2
  simp [z4q,snd]
theorem zdo (ds:List D) (p:D→Bool):((z4q ds).any fun d=>p (snd d))=ds.any p:=by
 conv=>rhs; rw [← zdn ds]
 rw [Jk]
 rfl
def z8L (bs:List (Nat×List Tx)):Bool:=bs.all fun b=>b.2.flatten.all fun c=>(bs.map (·.1)).contains c
def dcD (bs:List (Nat×List Tx)):D:=.dct (z6A (bs.map fun b=>(Sum.inr [b.1],flD b.2)) [])
theorem zgP (bs:List (Nat×List Tx)) (n:Nat):pIn true (.str [n]) (dcD bs)=some (.pure (.bl (!(bs.map (·.1)).contains n))):=by
 unfold dcD pIn
 simp only [keyD,WK,if_true,z5N,z8e]
 congr 4
 simp only [List.any_nil,Bool.or_false,Jk]
 rw [List.contains_eq_any_beq,Jk]
 congr 1
 funext b
 simp only [Function.comp]
 by_cases e:b.1=n
 ·subst e; simp
 ·have:¬ n=b.1:=fun z=>e z.symm
  simp [e,this]
theorem zfa (bs:List (Nat×List Tx)) (hn:bs.length≤1000):z2c (.tup (bs.map blD))=some (.own (dcD bs)):=by
 unfold z2c
 simp only [z7q,WX]
 rw [if_pos (by have:W6=16777216:=rfl; simp; omega)]
 rfl
theorem z7L (f:DE) (δ:Dl):z9c f δ=(f δ).bind fun r δ1=>match r.d with
 | .lst ds=>.ok (z4q ds) δ1
 | .tup ds=>.ok (z4q ds) δ1
 | _=>.stuck:=id rfl
theorem zem (bs:List (Nat×List Tx)) (hn:bs.length≤1000) (hg:∀ b ∈ bs,GP h w b):∃ r,z0r [.pure (.tup (bs.map blD))]=some (.pure r,[.pure (.tup (bs.map blD))])∧z6g r=z8L bs:=by
 have F:=z72 (g:=gTp 2 (z0d (gNm [] 2) (z0d (gNm [] 3) z10))) (b:=(dFor (iSq (eC1 (z1Z []) (bOf (eOpF pIx 3 (bOf (eD (.int 1))))))) (gNm [] 4) (dIf (dTr (eOp (pIn true) (eVar 4) (bVar 1))) (dRet (eVar 2)) z0I)))
  (fun _ δ=>∃ a b c,δ=[some (.pure (.tup (bs.map blD))),some (.own (dcD bs)),a,b,c]) (fun d=>!okB (bs.map (·.1)) (snd d)) (fun r=>∃ i:Int,r = .pure (.int i)) (z4q (bs.map blD)) 0 [some (.pure (.tup (bs.map blD))),some (.own (dcD bs)),none,none,none] ⟨_,_,_,rfl⟩ (fun i d δ hi ⟨a,b,c,e⟩=>by
   subst e
   obtain ⟨d',e',rfl⟩:=z6p hi
   obtain ⟨bb,hb,rfl⟩:=Wp.mp (WD e')
   have gb:=hg bb hb
   refine ⟨[some (.pure (.tup (bs.map blD))),some (.own (dcD bs)),some (.pure (.int i)),some (.pure (blD bb)),c],rfl,?_⟩
   have ej:=zbE gb
   have e1:=ix1 (.str [bb.1]) (flD bb.2) []
   have Fi:=z6l (g:=gNm [] 4) (b:=(dIf (dTr (eOp (pIn true) (eVar 4) (bVar 1))) (dRet (eVar 2)) z0I)) (fun _ δ=>∃ c,δ=[some (.pure (.tup (bs.map blD))),some (.own (dcD bs)),some (.pure (.int i)),some (.pure (blD bb)),c])
    (fun d=>!((txt d).all fun c=>(bs.map (·.1)).contains c)) (.pure (.int i)) (fun _=>True) (bb.2.flatten.map fun n=>D.str [n]) 0 [some (.pure (.tup (bs.map blD))),some (.own (dcD bs)),some (.pure (.int i)),some (.pure (blD bb)),c] ⟨_,rfl⟩ (fun j d δ hj ⟨c,e⟩=>by
     subst e
     rw [Q0] at hj
     cases en:bb.2.flatten[j]? with
     | none=>rw [en] at hj; cases hj
     | some n =>
      rw [en] at hj
      cases hj
      have hin:=zgP bs n
      refine ⟨[some (.pure (.tup (bs.map blD))),some (.own (dcD bs)),some (.pure (.int i)),some (.pure (blD bb)),some (.pure (.str [n]))],rfl,?_⟩
      cases hc:(bs.map (·.1)).contains n with
      | true =>
       rw [hc] at hin
       refine .inr ⟨by simp only [txt,Q5,List.all_nil,hc]; rfl,[some (.pure (.tup (bs.map blD))),some (.own (dcD bs)),some (.pure (.int i)),some (.pure (blD bb)),some (.pure (.str [n]))],?_,⟨_,rfl⟩⟩
       simp [dTr,eVar,bVar,hin]
      | false =>
       rw [hc] at hin
       refine .inl ⟨by simp only [txt,Q5,List.all_nil,hc]; rfl,[some (.pure (.tup (bs.map blD))),some (.own (dcD bs)),some (.pure (.int i)),some (.pure (blD bb)),some (.pure (.str [n]))],?_,trivial⟩
       simp [dTr,eVar,bVar,hin])
   have ha:((bb.2.flatten.map fun n=>D.str [n]).any fun d=>!((txt d).all fun c=>(bs.map (·.1)).contains c)) = !okB (bs.map (·.1)) (blD bb):=by
    rw [z6W,Jk,List.any_eq_not_all_not]
    simp [Function.comp_def,txt]
   rw [ha] at Fi
   have hs:snd (.tup [.int (i:Nat),blD bb])=blD bb:=rfl
   rw [hs]
   rcases Fi with ⟨hq,δ',e3,_⟩ | ⟨hq,δ',e3,c',rfl⟩
   ·refine .inl ⟨hq,.pure (.int i),δ',?_,⟨i,rfl⟩⟩
    simp [-List.map_flatten,z2T,eOpF,eOpN,bVar,e1,ej]
    rw [e3]
   ·refine .inr ⟨hq,[some (.pure (.tup (bs.map blD))),some (.own (dcD bs)),some (.pure (.int i)),some (.pure (blD bb)),c'],?_,⟨_,_,_,rfl⟩⟩
    simp [-List.map_flatten,z2T,eOpF,eOpN,bVar,e1,ej]
    rw [e3])
 have hany:((z4q (bs.map blD)).any fun d=>!okB (bs.map (·.1)) (snd d)) = !z8L bs:=by
  rw [zdo (bs.map blD) fun d=>!okB (bs.map (·.1)) d,Jk,List.any_eq_not_all_not]
  unfold z8L
  congr 2
  funext b
  simp only [Function.comp,z6W,Bool.not_not]
 rw [hany] at F
 have ed:=zfa bs hn
 rcases F with ⟨hc,r,δ',e,i,rfl⟩ | ⟨hc,δ',e,a,b,c,rfl⟩
 ·refine ⟨.int i,?_,by simp only [z6g]; simpa using hc⟩
  unfold z0r gOf z11 runD
  simp [ioOk,z0g,dAsg,bVar,ed,z7L,eVar]
  rw [e]
  simp [z0F,z0h]
 ·refine ⟨.non,?_,by simp only [z6g]; simpa using hc⟩
  unfold z0r gOf z11 runD
  simp [ioOk,z0g,dAsg,bVar,ed,z7L,eVar]
  rw [e]
  simp [z0F,z0h]
def z4C:D→Tx
 | .tup (.str x :: _)=>x
 | _=>[]
def SmR:D→Prop
 | .tup [_,_,.tup ps]=>flat 50 (.tup ps)=true∧ps.length≤1000∧∀ p ∈ ps,SmP p
 | _=>True
def upN:List Nat→Bool
 | []=>true
 | [_]=>true
 | a :: b :: r=>decide (a < b) && upN (b :: r)
def isRu:D→Bool
 | .tup [a,b,.tup ps]=>szD a b && !ps.isEmpty && ps.all (isPr (match a with | .int h=>h | _=>0) (match b with | .int w=>w | _=>0)) && upN (ps.map fun p=>(z4C p).getD 0 0) &&
   ps.all fun p=>okB (ps.map fun p=>(z4C p).getD 0 0) p
 | _=>false
theorem z7E (h w:Int) (ps:List D):isRu (.tup [.int h,.int w,.tup ps])=(szD (.int h) (.int w) && !ps.isEmpty && ps.all (isPr h w) && upN (ps.map fun p=>(z4C p).getD 0 0) && ps.all fun p=>okB (ps.map fun p=>(z4C p).getD 0 0) p):=rfl
theorem z7a (bs:List (Nat×List Tx)):((bs.map blD).map fun p=>(z4C p).getD 0 0)=bs.map (·.1):=by
 simp [Function.comp_def,z4C]
theorem ok_bl (bs:List (Nat×List Tx)):((bs.map blD).all fun p=>okB (bs.map (·.1)) p)=z8L bs:=by
 rw [Ji]
 unfold z8L
 congr 1
 funext b
 exact z6W _ b
theorem zfq (ts:List Nat):z30 (ts.map fun n=>D.str [n])=some (ts.map fun n=>[n]):=by
 have:=z4W (ts.map fun n=>[n])
 simpa [WB,Function.comp_def] using this
theorem sub_int (i j:Int):pSub (.int i) (.int j)=some (.pure (.int (i - j))):=rfl
theorem sl_tup (ds:List D) (lo hi:Option Int):pSl lo hi (.tup ds)=some (.pure (.tup (cutL ds lo hi))):=rfl
theorem sl_str (x:Tx) (h:x.length≤1000) (lo hi:Option Int):pSl lo hi (.str x)=some (.pure (.str (cutL x lo hi))):=by
 simp only [pSl]
 rw [if_pos (by rw [z13]; omega)]
theorem add_str (x y:Tx) (h:x.length + y.length≤1000):pAdd (.str x) (.str y)=some (.pure (.str (x ++ y))):=by
 simp only [pAdd]
 rw [if_pos (by rw [z13]; omega)]
theorem z1f (h:a δ = .ok .next δ1) (h2:b δ1=x):dSeq a b δ=x:=by
 rw [zf5,h]
 exact h2
theorem zfc {α β:Type} (f:α→β) (xs:List α) (lo hi:Option Int):cutL (xs.map f) lo hi=(cutL xs lo hi).map f:=by
 unfold cutL
 simp [List.map_take,List.map_drop]
def TS (e:D):Prop:=(∃ xs:List Tx,(e = .tup (xs.map .str)∨e = .lst (xs.map .str))∧xs.length≤100∧∀ x ∈ xs,x.length≤100)∨e = .non∨∃ x:Tx,e = .str x∧x.length≤100
theorem z8F (n:Nat) (xs:List Tx):z46 n (xs.map .str)=true:=by
 induction xs with
 | nil=>rfl
 | cons x r ih=>simp [z46,flat,ih]
theorem TS.ok (h:TS e):SmT e∧flat 48 e=true:=by
 rcases h with ⟨xs,h,hl,hx⟩ | rfl | ⟨x,rfl,hx⟩
 ·rcases h with rfl | rfl
  ·exact ⟨⟨by simp; omega,fun d hd=>by
    obtain ⟨x,hm,rfl⟩:=Wp.mp hd
    have:=hx x hm
    show x.length≤1000
    omega⟩,z8F 47 xs⟩
  ·exact ⟨trivial,z8F 47 xs⟩
 ·exact ⟨trivial,rfl⟩
 ·exact ⟨trivial,rfl⟩
theorem TS.fl (R:Rul h w bs) (hb:b ∈ bs):b.2.length≤4∧∀ r ∈ b.2,r.length≤4:=by
 have k:=R.blk b hb
 have h1:=R.h1
 have w1:=R.w1
 exact ⟨by omega,fun r hr=>by have:=(k.2 r hr).1; omega⟩
def PEok (p:D):Prop:=SmP p∧flat 49 p=true
theorem PEok.bl (R:Rul h w bs) (hb:b ∈ bs):PEok (blD b):=by
 obtain ⟨h1,h2⟩:=TS.fl R hb
 have:TS (flD b.2):=.inl ⟨b.2,.inl rfl,by omega,fun x hx=>by have:=h2 x hx; omega⟩
 obtain ⟨s,f⟩:=this.ok
 refine ⟨⟨by show 1≤1000; decide,s⟩,?_⟩
 show (flat 48 (.str [b.1]) && (flat 48 (flD b.2) && true))=true
 rw [f]
 rfl
theorem zdt (ns:List Int) (lo hi:Option Int):cutL (ns.map D.int) lo hi=(cutL ns lo hi).map D.int:=zfc _ _ _ _
def chB (h w:Int):Tx→List D→Bool
 | _,[]=>true
 | a,p :: ps=>isPr h w p && decide (a < z4C p) && chB h w (z4C p) ps
theorem zgC (x y:Tx):pLe (.str x) (.str y)=some (.pure (.bl (!decide (y < x)))):=by
 unfold pLe pCmp
 rfl
abbrev z9f:DS:=(dSeq (dIf (dOr (dNot (dTr (z01 z15 [.val (eVar 1),.val (eVar 2),.val (eVar 5)]))) (dTr (eOp pLe (eOpF pIx 5 (bOf (eD (.int 0)))) (bVar 4)))) (dRet (eD (.bl false))) z0I) (dAsg (eOpF pIx 5 (bOf (eD (.int 0)))) (gNm [] 4)))
theorem z8s {h w:Int} {T B:D}:∀ (ps:List D) (a:Tx) (x5:Option S),(∀ p ∈ ps,SmP p) →
  (chB h w a ps=true∧∃ a' x',forL (gNm [] 5) z9f ps [some (.pure T),some (.pure (.int h)),some (.pure (.int w)),some (.pure B),some (.pure (.str a)),x5] = .ok .next [some (.pure T),some (.pure (.int h)),some (.pure (.int w)),some (.pure B),some (.pure (.str a')),x']) ∨
  (chB h w a ps=false∧∃ δ',forL (gNm [] 5) z9f ps [some (.pure T),some (.pure (.int h)),some (.pure (.int w)),some (.pure B),some (.pure (.str a)),x5] = .ok (.ret (.pure (.bl false))) δ')
 | [],a,x5,_=>.inl ⟨rfl,a,x5,rfl⟩
 | p :: ps,a,x5,hp=>by
  have ep:=z5Y h w p (hp p (by simp))
  cases hi:isPr h w p with
  | false =>
   rw [hi] at ep
   refine .inr ⟨by simp [chB,hi],[some (.pure T),some (.pure (.int h)),some (.pure (.int w)),some (.pure B),some (.pure (.str a)),some (.pure p)],?_⟩
   unfold forL
   simp [z9f,dTr,z01,ios,ndup,evX,eVar,mkA,ep,putA]
  | true =>
   rw [hi] at ep
   obtain ⟨b,rfl,gb⟩:=zes hi
   have e0:=ix00 (.str [b.1]) [flD b.2]
   have el:=zgC [b.1] a
   by_cases hc:a < [b.1]
   ·have hc':decide (a < z4C (blD b))=true:=decide_eq_true (show a < [b.1] from hc)
    have hcd:decide (a < [b.1])=true:=decide_eq_true hc
    rw [hcd] at el
    have step:∀ x,forL (gNm [] 5) z9f ps [some (.pure T),some (.pure (.int h)),some (.pure (.int w)),some (.pure B),some (.pure (.str [b.1])),some (.pure (blD b))]=x →
      forL (gNm [] 5) z9f (blD b :: ps) [some (.pure T),some (.pure (.int h)),some (.pure (.int w)),some (.pure B),some (.pure (.str a)),x5]=x:=fun x hx=>by
     subst hx
     conv=>lhs; unfold forL
     simp [z9f,dTr,z01,ios,ndup,evX,eVar,mkA,ep,putA,eOpF,eOpN,bVar,e0,el,dAsg]
    rcases z8s (T:=T) (B:=B) ps [b.1] (some (.pure (blD b))) (fun p hq=>hp p (by simp [hq])) with ⟨h1,a',x',e⟩ | ⟨h1,δ',e⟩
    ·refine .inl ⟨by simp only [chB,hi,hc',Jo]; exact h1,a',x',step _ e⟩
    ·refine .inr ⟨by simp only [chB,hi,hc',Jo]; exact h1,δ',step _ e⟩
   ·have hc':decide (a < z4C (blD b))=false:=decide_eq_false (show ¬ a < [b.1] from hc)
    refine .inr ⟨by simp only [chB,hi,hc',Bool.and_false,JB],[some (.pure T),some (.pure (.int h)),some (.pure (.int w)),some (.pure B),some (.pure (.str a)),some (.pure (blD b))],?_⟩
    have hcd:decide (a < [b.1])=false:=decide_eq_false hc
    rw [hcd] at el
    unfold forL
    simp [z9f,dTr,z01,ios,ndup,evX,eVar,mkA,ep,putA,eOpF,eOpN,bVar,e0,el]
theorem zcl {h w:Int}:∀ {ps:List D} {a:Tx},chB h w a ps=true→ps.all (isPr h w)=true
 | [],_,_=>rfl
 | p :: ps,a,hc=>by
  simp only [chB,Wa] at hc
  simp only [Q5,hc.1.1,zcl hc.2,Bool.and_self]
theorem zdZ {h w:Int}:∀ (bs:List (Nat×List Tx)) (a:Nat),(bs.map blD).all (isPr h w)=true→chB h w [a] (bs.map blD)=upN (a :: bs.map (·.1))
 | [],a,_=>rfl
 | b :: bs,a,hp=>by
  simp only [Ws,Q5,Wa] at hp
  have ih:=zdZ bs b.1 hp.2
  have ht:z4C (blD b)=[b.1]:=rfl
  have hd:decide (([a]:Tx) < [b.1])=decide (a < b.1):=decide_eq_decide.mpr (lt1 a b.1)
  simp only [Ws,chB,hp.1,ht,hd,ih,Jo,upN]
theorem zck {h w:Int} (bs:List (Nat×List Tx)) (hp:(bs.map blD).all (isPr h w)=true):chB h w [] (bs.map blD)=upN (bs.map (·.1)):=by
 cases bs with
 | nil=>rfl
 | cons b bs =>
  simp only [Ws,Q5,Wa] at hp
  have ht:z4C (blD b)=[b.1]:=rfl
  have hd:decide (([]:Tx) < [b.1])=true:=by simp
  simp only [Ws,chB,hp.1,ht,hd,zdZ bs b.1 hp.2,Jo]
theorem z92 {h w:Int} (hs:szD (.int h) (.int w)=true) {ps:List D} (hn:ps.length≤1000) (hp:∀ p ∈ ps,SmP p) (hz:ps.length≠0):z1s [.pure (.tup [.int h,.int w,.tup ps])]=some (.pure (.bl (isRu (.tup [.int h,.int w,.tup ps]))),[.pure (.tup [.int h,.int w,.tup ps])]):=by
 unfold z1s gOf z4w runD
 have es:=z5o (.int h) (.int w) trivial trivial
 rw [hs] at es
 have el:pLen (.tup [.int h,.int w,.tup ps])=some (.pure (.int 3)):=rfl
 have hz':((ps.length:Int) == 0)=false:=beq_eq_false_iff_ne.mpr (by omega)
 have hne:ps.isEmpty=false:=by cases ps <;> simp at hz ⊢
 rcases z8s (h:=h) (w:=w) (T:=.tup [.int h,.int w,.tup ps]) (B:=.tup ps) ps [] none hp with ⟨h1,a',x',e⟩ | ⟨h1,δ',e⟩
 ·have hall:=zcl h1
  obtain ⟨bs,rfl,hg⟩:=zbd hall
  obtain ⟨r,ef,hr⟩:=zem bs (by simpa using hn) hg
  have hru:isRu (.tup [.int h,.int w,.tup (bs.map blD)])=z6g r:=by
   rw [hr]
   have hu:=zck bs hall
   rw [h1] at hu
   rw [z7E,z7a,ok_bl]
   simp only [hs,hne,hall,← hu,Jo,Bool.not_false]
  simp [-Wo,ioOk,z0g,dTr,eIsi,isTy,bVar,el,z4P,dAsg,eVar,gTp,z0d,z10,z01,ios,ndup,evX,mkA,es,putA,z2S,z8I,hz',z2T]
  rw [e]
  simp [ef,mkA,putA,pIsN,z0F,z0h,hru]
 ·have hru:isRu (.tup [.int h,.int w,.tup ps])=false:=by
   cases hall:ps.all (isPr h w) with
   | false=>simp only [z7E,hall,Bool.and_false,JB]
   | true =>
    obtain ⟨bs,rfl,hg⟩:=zbd hall
    have hu:=zck bs hall
    rw [h1] at hu
    rw [z7E,z7a]
    simp only [← hu,Bool.and_false,JB]
  simp [ioOk,z0g,dTr,eIsi,isTy,bVar,el,z4P,dAsg,eVar,gTp,z0d,z10,z01,ios,ndup,evX,mkA,es,putA,z2S,z8I,hz',z2T]
  rw [e]
  simp [z0F,z0h,hru]
theorem zcQ {w:Nat} {fl:List Tx} (h:Rect w fl) (c:Nat) (hc:c < w):z1b [.pure (flD fl),.pure (.int c)]=some (.pure (.str (fl.map fun r=>r.getD c 0)),[.pure (flD fl),.pure (.int c)]):=by
 have h1:=h.h1
 have e:=z4Y (cs:=[2]) (g:=gNm [] 2) (t:=dYes) (el:=eOpF pIx 2 (bVar 1)) (fun d=>match d with | .str r=>.str [r.getD c 0] | _=>.non) [some (.pure (flD fl)),some (.pure (.int c)),none] (fl.map .str) [] (by rw [z13]; simp; omega) (fun d hd=>by
  simp at hd
  obtain ⟨r,hr,rfl⟩:=hd
  have hl:=h.all r hr
  have:=h.w1
  exact ⟨_,_,_,_,rfl,rfl,by simp [eOpF,eOpN,bVar,z6m r c (by omega) (by omega)]; exact ⟨rfl,rfl⟩,rfl,rfl⟩)
 unfold z1b gOf z3r runD
 have ej:=z7K (fl.map fun r=>r.getD c 0) (by simp; omega)
 simp [WB,Function.comp_def] at ej e
 simp [ioOk,z0g,z2T,eVar,z14,clrD,e,ej,z0F,z0h,z1H,WB,Function.comp_def]
theorem z7l {w:Nat} {fl:List Tx} (h:Rect w fl):z0o [.pure (flD fl)]=some (.pure (flD (turn w fl)),[.pure (flD fl)]):=by
 obtain ⟨r0,hr0,hl0⟩:=zf2 h
 have hw:=h.w1
 have e:=z4Y (cs:=[1]) (g:=gNm [] 1) (t:=dYes) (el:=z01 z1b [.val (eVar 0),.val (eVar 1)]) (fun d=>match d with | .int c=>.str (fl.map fun r=>r.getD c.toNat 0) | _=>.non) [some (.pure (flD fl)),none] (z0H 0 w) [] (by rw [z13]; simp [z0H]; omega) (fun d hd=>by
  simp [z0H] at hd
  obtain ⟨c,hc,rfl⟩:=hd
  exact ⟨_,_,_,_,rfl,rfl,by simp [z01,ios,ndup,evX,eVar,mkA,zcQ h c hc,putA]; exact ⟨rfl,rfl⟩,rfl,rfl⟩)
 unfold z0o gOf z2V runD
 have hm:List.map (fun (d:D)=>match d with | .int c=>D.str (fl.map fun (r:Tx)=>r.getD c.toNat 0) | _=>.non) (z0H 0 w)=(turn w fl).map .str:=by
  simp [z0H,turn]
 rw [hm] at e
 simp at e
 have e0:pIx (flD fl) (.int 0)=some (.pure (.str r0)):=by simp [pIx,z2k,hr0]
 simp [ioOk,z0g,eOpF,eOpN,bVar,e0,z74 r0 (by omega),hl0,z6R w (by omega),z14,clrD,e,z12,z0F,z0h,z1H]
theorem z5a {w:Nat} {fl:List Tx} (h:Rect w fl):z0j [.pure (flD fl)]=some (.pure (flD (back fl)),[.pure (flD fl)]):=by
 have h1:=h.h1
 have e:=z4Y (cs:=[1]) (g:=gNm [] 1) (t:=dYes) (el:=eC1 z42 (bVar 1)) (fun d=>match d with | .str r=>.str r.reverse | _=>.non) [some (.pure (flD fl)),none] (fl.map .str) [] (by rw [z13]; simp; omega) (fun d hd=>by
  simp at hd
  obtain ⟨r,hr,rfl⟩:=hd
  have hl:=h.all r hr
  have:=h.w1
  have hz:r.length≤W6:=by rw [z13]; omega
  have rv:z42 (.str r)=some (.pure (.str r.reverse)):=by simp [z42,pRev,hz]
  exact ⟨_,_,.pure (.str r.reverse),[some (.pure (flD fl)),some (.pure (.str r))],rfl,rfl,by simp [bVar,rv],rfl,rfl⟩)
 unfold z0j gOf z2g runD
 simp [WB,Function.comp_def] at e
 simp [ioOk,z0g,z2T,eVar,z14,clrD,e,z12,z0F,z0h,z1H,back,WB,Function.comp_def]
theorem z6u {G:DF} {T:Nat×List Tx→List Tx} {pre:Dl} {bs:List (Nat×List Tx)} (i j:Nat) (hij:i=pre.length∧j=pre.length + 1) (hn:bs.length≤26) (hG:∀ b ∈ bs,G [.pure (flD b.2)]=some (.pure (flD (T b)),[.pure (flD b.2)])) :
  z28 [i,j] (gTp 2 (z0d (gNm [] i) (z0d (gNm [] j) z10))) dYes (eTup (z0u (eVar i) (z0u (z01 G [.val (eVar j)]) aNil))) (bs.map blD) (pre ++ [none,none]) [] = .ok ((bs.map fun b=>(b.1,T b)).map blD) (pre ++ [none,none]):=by
 obtain ⟨rfl,rfl⟩:=hij
 have:=z21 (cs:=[pre.length,pre.length + 1]) (g:=gTp 2 (z0d (gNm [] pre.length) (z0d (gNm [] (pre.length + 1)) z10))) (t:=dYes) (el:=eTup (z0u (eVar pre.length) (z0u (z01 G [.val (eVar (pre.length + 1))]) aNil))) blD (fun b=>blD (b.1,T b)) (pre ++ [none,none]) bs [] (by rw [z13]; simp; omega) (fun b hb=>by
  refine ⟨pre ++ [some (.pure (.str [b.1])),some (.pure (flD b.2))],_,.pure (blD (b.1,T b)),pre ++ [some (.pure (.str [b.1])),some (.pure (flD b.2))],?_,rfl,?_,?_,rfl⟩
  ·simp [gTp,blD,z0d,z10,List.set_append]
  ·simp [eVar,z01,ios,ndup,evX,mkA,hG b hb,putA,List.getElem?_append]
  ·simp [clrD,List.set_append])
 rw [this]
 simp [WB,Function.comp_def]
theorem z4I {h w:Nat} {bs:List (Nat×List Tx)} (R:Rul h w bs):z0E [.pure (ruD h w bs)]=some (.pure (ruD w h (z2Z w bs)),[.pure (ruD h w bs)]):=by
 have e:=z6u (G:=z0o) (T:=fun b=>turn w b.2) (pre:=[some (.pure (ruD h w bs)),some (.pure (.int h)),some (.pure (.int w)),some (.pure (.tup (bs.map blD)))]) 4 5 ⟨rfl,rfl⟩ R.n1 (fun b hb=>z7l (R.rect hb))
 unfold z0E gOf z3n runD
 simp only [List.cons_append,Qf] at e
 simp [ioOk,z0g,dAsg,eVar,gTp,z0d,z10,z2T,z14,clrD]
 rw [e]
 simp [z12,z1H,z0F,z0h,z2Z]
theorem z5Z {h w:Nat} {bs:List (Nat×List Tx)} (R:Rul h w bs):z0K [.pure (ruD h w bs)]=some (.pure (ruD h w (z2e bs)),[.pure (ruD h w bs)]):=by
 have e:=z6u (G:=z0j) (T:=fun b=>back b.2) (pre:=[some (.pure (ruD h w bs)),some (.pure (.int h)),some (.pure (.int w)),some (.pure (.tup (bs.map blD)))]) 4 5 ⟨rfl,rfl⟩ R.n1 (fun b hb=>z5a (R.rect hb))
 unfold z0K gOf z2w runD
 simp only [List.cons_append,Qf] at e
 simp [ioOk,z0g,dAsg,eVar,gTp,z0d,z10,z2T,z14,clrD]
 rw [e]
 simp [z12,z1H,z0F,z0h,z2e]
theorem cut1 {α:Type} (xs:List α) (h:0 < xs.length):cutL xs none (some 1)=xs.take 1:=by
 unfold cutL HT.sIx
 simp
theorem z8D (emb:A→D) (mk:B→J→Dl) (f:B→A→B) (P:B→Prop) (Q:A→Prop) (hf:∀ x a,P x→Q a→P (f x a)) (step:∀ x j a,P x→Q a→∃ δ1 j',g (.pure (emb a)) (mk x j)=some δ1∧b δ1 = .ok .next (mk (f x a) j')) :
  ∀ (as:List A) (x:B) (j:J),P x→(∀ a ∈ as,Q a)→∃ j',forL g b (as.map emb) (mk x j) = .ok .next (mk (as.foldl f x) j')∧P (as.foldl f x)
 | [],x,j,hp,_=>⟨j,rfl,hp⟩
 | a :: r,x,j,hp,hq=>by
  obtain ⟨δ1,j',e1,e2⟩:=step x j a hp (hq a Wm)
  obtain ⟨j'',e3,h3⟩:=z8D emb mk f P Q hf step r (f x a) j' (hf x a hp (hq a Wm)) fun b hb=>hq b (Wi _ hb)
  refine ⟨j'',?_,h3⟩
  rw [Ws]
  unfold forL
  rw [e1]
  simp only [e2,z1l,e3]
  rfl
theorem z4p (np:List Nat) (n:Nat) (b:DS) (ss:List S):gOf np n b ss=if ioOk np 0 ss then (match b (z0g n ss) with
 | .ok fl δ=>(z0F fl).bind fun r=>(z0h 0 ss δ).map fun outs=>(r,outs)
 | _=>none) else none:=rfl
def dcM (bs:List (Nat×List Tx)):D:=.dct (bs.map fun b=>(Sum.inr [b.1],flD b.2))
theorem zb4 (n:Nat):z0H 0 n=(Wf n).map fun k:Nat=>D.int (k:Int):=by simp [z0H]
theorem z8d:∀ (kps acc:List (DKey×D)),((acc ++ kps).map (·.1)).Nodup→z6A kps acc=acc ++ kps
 | [],acc,_=>by simp [z6A]
 | p :: r,acc,h=>by
  have hn:(acc.any fun kv=>decide (kv.1=p.1))=false:=by
   rw [List.any_eq_false]
   intro kv hkv
   simp only [decide_eq_true_eq]
   intro e
   rw [List.map_append,List.nodup_append] at h
   exact h.2.2 kv.1 (WG hkv) p.1 (WG Wm) e
  have hp:putD acc p.1 p.2=acc ++ [p]:=by
   unfold putD
   rw [hn]
   simp
  show z6A r (putD acc p.1 p.2)=_
  rw [hp,z8d r (acc ++ [p]) (by simpa using h)]
  simp
theorem dictM {h w:Nat} {bs:List (Nat×List Tx)} (R:Rul h w bs):z2c (.tup (bs.map blD))=some (.own (dcM bs)):=by
 unfold z2c
 simp only [z7q,WX,Wo]
 have hz:W6=16777216:=rfl
 rw [if_pos (by have:=R.n1; omega),z8d]
 ·rfl
 ·simp only [Qf,WB]
  rw [QT,Je]
  have:=R.up
  rw [Je] at this
  exact this.imp fun {a b} hab=>by simp; omega
theorem zdE (bs:List (Nat×List Tx)) (n:Nat):valD (bs.map fun b=>((Sum.inr [b.1]:DKey),flD b.2)) (.inr [n])=(bs.find? fun b=>decide (b.1=n)).map fun b=>flD b.2:=by
 unfold valD
 rw [List.find?_map]
 simp [Function.comp_def]
theorem ix_dc (h:n ∈ bs.map (·.1)):pIxX (dcM bs) (.str [n])=some (.pure (flD (blk bs n))):=by
 obtain ⟨b,hb,_,e,e2⟩:=z4u h
 show ((keyD (.str [n])).bind fun k=>(valD (bs.map fun b=>((Sum.inr [b.1]:DKey),flD b.2)) k).map S.pure)=_
 simp only [keyD,WX,zdE,e,WK,e2]
theorem zgO {bs:List (Nat×List Tx)} {n:Nat} (h:n ∈ bs.map (·.1)):pIn true (.str [n]) (dcM bs)=some (.pure (.bl false)):=by
 obtain ⟨b,hb,_,e,e2⟩:=z4u h
 show ((keyD (.str [n])).map fun k=>S.pure (.bl (if true then !(valD (bs.map fun b=>((Sum.inr [b.1]:DKey),flD b.2)) k).isSome else (valD (bs.map fun b=>((Sum.inr [b.1]:DKey),flD b.2)) k).isSome)))=_
 simp only [keyD,WK,zdE,e,WK]
 rfl
theorem z8t (xs:List Tx) (m:Nat) (h:∀ x ∈ xs,x.length≤m):z2D xs≤xs.length * m:=by
 induction xs with
 | nil=>simp [z2D]
 | cons x r ih =>
  have h1:=h x Wm
  have h2:=ih fun y hy=>h y (Wi _ hy)
  have e:z2D (x :: r)=x.length + z2D r:=by simp [z2D]
  rw [e,WC,JL]
  omega
theorem z70 (xs:List Tx) (h:z2D xs≤16777216):z1Z [] (.lst (xs.map .str))=some (.pure (.str xs.flatten)):=by
 unfold z1Z
 simp only [z4W,z2I]
 rw [if_pos (by simpa using h)]
theorem zfZ (R:Rul h w bs) (F:Fl2 bs A C fl) (hA:A≤1000) (hC:C≤1000) :
  gOf [] 7 (z3m) [.pure (dcM bs),.pure (.int h),.pure (flD fl)]=some (.pure (flD (lay h bs fl)),[.pure (dcM bs),.pure (.int h),.pure (flD fl)]):=by
 unfold z3m
 have h1:=R.h1
 have w1:=R.w1
 -- one new row
 have comp:∀ (acc:List Tx) (row:Tx) (l:Nat),row ∈ fl→l < h→z28 [6] (gNm [] 6) dYes (eOp pIx (eOpF pIxX 0 (bVar 6)) (bVar 5)) (row.map fun n=>.str [n]) [some (.pure (dcM bs)),some (.pure (.int h)),some (.pure (flD fl)),some (.own (.lst (acc.map .str))),some (.pure (.str row)),some (.pure (.int l)),none] [] = .ok ((row.map fun n=>(blk bs n).getD l []).map .str) [some (.pure (dcM bs)),some (.pure (.int h)),some (.pure (flD fl)),some (.own (.lst (acc.map .str))),some (.pure (.str row)),some (.pure (.int l)),none]:=fun acc row l hrow hl=>by
  have e:=z21 (cs:=[6]) (g:=gNm [] 6) (t:=dYes) (el:=(eOp pIx (eOpF pIxX 0 (bVar 6)) (bVar 5))) (fun n:Nat=>D.str [n]) (fun n=>.str ((blk bs n).getD l [])) [some (.pure (dcM bs)),some (.pure (.int h)),some (.pure (flD fl)),some (.own (.lst (acc.map .str))),some (.pure (.str row)),some (.pure (.int l)),none] row [] (by rw [z13,F.cols row hrow]; simp; omega) (fun n hn=>by
   have hm:=F.tl row hrow n hn
   have y1:=ix_dc hm
   have y2:=(z9w R hm hl).2.2
   refine ⟨_,_,.pure (.str ((blk bs n).getD l [])),[some (.pure (dcM bs)),some (.pure (.int h)),some (.pure (flD fl)),some (.own (.lst (acc.map .str))),some (.pure (.str row)),some (.pure (.int l)),some (.pure (.str [n]))],rfl,rfl,?_,rfl,rfl⟩
   generalize D.str ((blk bs n).getD l [])=dr at *
   generalize flD (blk bs n)=db at *
   generalize flD fl=df at *
   generalize dcM bs=dd at *
   generalize acc.map D.str=ad at *
   simp [eOpF,eOpN,bVar,y1,y2])
  rw [e]
  simp [Function.comp_def]
 -- the rows of one row
 have inner:∀ (acc:List Tx) (row:Tx) (o:Option S),row ∈ fl→acc.length≤100000→∃ o',forL (gNm [] 5) (z1e 3 (eC1 (z1Z []) (bOf (z1G [6] (iSq (eVar 4)) (gNm [] 6) dYes (eOp pIx (eOpF pIxX 0 (bVar 6)) (bVar 5)))))) (z0H 0 h) [some (.pure (dcM bs)),some (.pure (.int h)),some (.pure (flD fl)),some (.own (.lst (acc.map .str))),some (.pure (.str row)),o,none]
   = .ok .next [some (.pure (dcM bs)),some (.pure (.int h)),some (.pure (flD fl)),some (.own (.lst ((acc ++ layR h bs row).map .str))),some (.pure (.str row)),o',none]:=fun acc row o hrow hacc=>by
  obtain ⟨δ',e,o',rfl⟩:=z2H (g:=gNm [] 5) (b:=(z1e 3 (eC1 (z1Z []) (bOf (z1G [6] (iSq (eVar 4)) (gNm [] 6) dYes (eOp pIx (eOpF pIxX 0 (bVar 6)) (bVar 5))))))) (fun k δ=>∃ o,δ=[some (.pure (dcM bs)),some (.pure (.int h)),some (.pure (flD fl)),some (.own (.lst ((acc ++ layR k bs row).map .str))),some (.pure (.str row)),o,none]) (z0H 0 h) 0 [some (.pure (dcM bs)),some (.pure (.int h)),some (.pure (flD fl)),some (.own (.lst (acc.map .str))),some (.pure (.str row)),o,none] ⟨o,by simp [layR]⟩ (fun i d δ hd ⟨o,e⟩=>by
   subst e
   obtain ⟨hi,rfl⟩:=z27 hd
   rw [Qq]
   have hc:=comp (acc ++ layR i bs row) row i hrow hi
   have hj:z1Z [] (.lst ((row.map fun n=>(blk bs n).getD i []).map .str))=some (.pure (.str (lay1 bs i row))):=z70 _ (by
    have hs:=z8t (row.map fun n=>(blk bs n).getD i []) w (fun x hx=>by
     obtain ⟨n,hn,rfl⟩:=Wp.mp hx
     rw [(z9w R (F.tl row hrow n hn) hi).1]
     exact W8 _)
    rw [Wo,F.cols row hrow] at hs
    have:C * w≤1000 * 4:=WT hC w1
    omega)
   have hz:((acc ++ layR i bs row).map D.str).length < W6:=by
    rw [z13]
    simp [layR]
    omega
   have hE:(acc ++ layR (i + 1) bs row).map D.str=(acc ++ layR i bs row).map D.str ++ [.str (lay1 bs i row)]:=by
    simp [layR,Ja]
   refine ⟨_,[some (.pure (dcM bs)),some (.pure (.int h)),some (.pure (flD fl)),some (.own (.lst ((acc ++ layR (i + 1) bs row).map .str))),some (.pure (.str row)),some (.pure (.int i)),none],rfl,?_,_,rfl⟩
   rw [hE]
   generalize lay1 bs i row=nr at *
   generalize (row.map fun n=>(blk bs n).getD i []).map D.str=XS at *
   generalize (acc ++ layR i bs row).map D.str=AD at *
   generalize flD fl=df at *
   generalize dcM bs=dd at *
   simp [z1e,z3J,z2T,eVar,z14,clrD]
   rw [hc]
   simp [z1H,hj,putL,hz])
  rw [Qq,z8H] at e
  exact ⟨o',e⟩
 have outer:∃ o4 o5,forL (gNm [] 4) (dFor (z1d (eVar 1)) (gNm [] 5) (z1e 3 (eC1 (z1Z []) (bOf (z1G [6] (iSq (eVar 4)) (gNm [] 6) dYes (eOp pIx (eOpF pIxX 0 (bVar 6)) (bVar 5))))))) (fl.map .str) [some (.pure (dcM bs)),some (.pure (.int h)),some (.pure (flD fl)),some (.own (.lst [])),none,none,none]
   = .ok .next [some (.pure (dcM bs)),some (.pure (.int h)),some (.pure (flD fl)),some (.own (.lst ((lay h bs fl).map .str))),o4,o5,none]:=by
  obtain ⟨δ',e,o4,o5,rfl⟩:=z2H (g:=gNm [] 4) (b:=(dFor (z1d (eVar 1)) (gNm [] 5) (z1e 3 (eC1 (z1Z []) (bOf (z1G [6] (iSq (eVar 4)) (gNm [] 6) dYes (eOp pIx (eOpF pIxX 0 (bVar 6)) (bVar 5)))))))) (fun k δ=>∃ o4 o5,δ=[some (.pure (dcM bs)),some (.pure (.int h)),some (.pure (flD fl)),some (.own (.lst ((lay h bs (fl.take k)).map .str))),o4,o5,none]) (fl.map D.str) 0 [some (.pure (dcM bs)),some (.pure (.int h)),some (.pure (flD fl)),some (.own (.lst [])),none,none,none] ⟨none,none,by simp [lay]⟩ (fun i d δ hd ⟨o4,o5,e⟩=>by
   subst e
   rw [Q0,Option.map_eq_some_iff] at hd
   obtain ⟨row,hrow,rfl⟩:=hd
   rw [Qq]
   have hi:i < fl.length:=(Wc.mp hrow).1
   have hlen:(lay h bs (fl.take i)).length≤100000:=by
    have F':Fl2 bs (fl.take i).length C (fl.take i):=⟨rfl,fun r hr=>F.cols r (Jm hr),fun r hr=>F.tl r (Jm hr)⟩
    have:=(z6Z R F').rows
    rw [this]
    have h2:(fl.take i).length≤1000:=by have:=F.rows; rw [Jl]; omega
    have:(fl.take i).length * h≤1000 * 4:=WT h2 h1
    omega
   obtain ⟨o',e⟩:=inner (lay h bs (fl.take i)) row o5 (WD hrow) hlen
   have hE:lay h bs (fl.take (i + 1))=lay h bs (fl.take i) ++ layR h bs row:=by
    rw [List.take_add_one,hrow]
    simp [lay]
   refine ⟨_,[some (.pure (dcM bs)),some (.pure (.int h)),some (.pure (flD fl)),some (.own (.lst ((lay h bs (fl.take (i + 1))).map .str))),some (.pure (.str row)),o',none],rfl,?_,_,_,rfl⟩
   rw [hE]
   generalize (lay h bs (fl.take i) ++ layR h bs row).map D.str=AD at *
   generalize (lay h bs (fl.take i)).map D.str=AE at *
   generalize flD fl=df at *
   generalize dcM bs=dd at *
   simp only [zf6,zc2,eVar,List.set_cons_succ,List.set_cons_zero,List.getElem?_cons_succ,List.getElem?_cons_zero,z1l,z6R h (by omega:h≤1000000)]
   exact e)
  refine ⟨o4,o5,?_⟩
  rw [e]
  simp
 obtain ⟨o4,o5,e⟩:=outer
 have hsq:∀ δ:Dl,δ[2]? = some (some (.pure (flD fl)))→iSq (eVar 2) δ = .ok (fl.map .str) δ:=fun δ hδ=>by
  simp [z2T,eVar,hδ]
 rw [z4p]
 generalize hAD:(lay h bs fl).map D.str=AD at *
 generalize dcM bs=dd at *
 simp [ioOk,z0g,dAsg,z2T,eVar]
 rw [e]
 simp [bVar,z12,z0F,z0h]
 exact hAD.symm
theorem zfO (R:Rul h w bs) (F:Fl2 bs A C fl) (hA:A≤1000) (hC:C≤1000):z0Y [.pure (dcM bs),.pure (.int h),.pure (flD fl)]=some (.pure (flD (lay h bs fl)),[.pure (dcM bs),.pure (.int h),.pure (flD fl)]):=by
 rw [z0Y,z3V]
 exact zfZ R F hA hC
theorem mul_int (i j:Int) (h0:0≤j) (h1:j≤1000):z2P (.int i) (.int j)=some (.pure (.int (i * j))):=by
 unfold z2P pMul pII
 have:cMul i j=true:=by unfold cMul; simp; omega
 simp only [this,if_true]
theorem z9P (h:Nat):∀ (as:List Nat) (x:Nat),as.foldl (fun x _=>x * h) x=x * h ^ as.length
 | [],x=>by simp
 | a :: r,x=>by rw [Qn,z9P h r,WC,Jz,J3,Qc h]
theorem z9B (s h t:Nat) (h1:h≤1000) (t1:t≤1000):z0C [.pure (.int s),.pure (.int h),.pure (.int t)]=some (.pure (.int ((s * h ^ t:Nat):Int)),[.pure (.int s),.pure (.int h),.pure (.int t)]):=by
 obtain ⟨j',e,_⟩:=z8D (g:=gNm [] 3) (b:=dAsg (eOpF z2P 0 (bVar 1)) (gNm [] 0)) (fun k:Nat=>D.int (k:Int)) (fun (x:Nat) (j:Option S)=>[some (.pure (.int (x:Int))),some (.pure (.int h)),some (.pure (.int t)),j]) (fun x _=>x * h) (fun _=>True) (fun _=>True) (fun _ _ _ _=>trivial) (fun x j a _ _=>⟨_,some (.pure (.int a)),rfl,by
  have:=mul_int x h (by omega) (by omega)
  simp [dAsg,eOpF,eOpN,bVar,this]⟩) (Wf t) s none trivial (fun _ _=>trivial)
 rw [z9P,Jd,← zb4] at e
 rw [z0C,z4p,z3W]
 generalize ((s * h ^ t:Nat):Int)=P at *
 simp [ioOk,z0g,eVar,z6R t (by omega)]
 rw [e]
 simp [eVar,z0F,z0h]
theorem zbT {b:DS} {n:Nat} {x y:D} {v:S} {δ1:Dl} (e:b (z0g n [.pure x,.pure y]) = .ok (.ret v) δ1):gOf [] n b [.pure x,.pure y]=some (v,[.pure x,.pure y]):=by
 rw [z4p,e]; rfl
theorem zgR {b:DS} {n:Nat} {x y:D} {δ1:Dl} (e:b (z0g n [.pure x,.pure y]) = .ok .next δ1):gOf [] n b [.pure x,.pure y]=some (.pure .non,[.pure x,.pure y]):=by
 rw [z4p,e]; rfl
theorem z9O (e:b (z0g n [.pure x,.pure y,.pure z]) = .ok (.ret v) δ1):gOf [] n b [.pure x,.pure y,.pure z]=some (v,[.pure x,.pure y,.pure z]):=by
 rw [z4p,e]; rfl
theorem zbU (e:b (z0g n [.pure x]) = .ok (.ret v) δ1):gOf [] n b [.pure x]=some (v,[.pure x]):=by
 rw [z4p,e]; rfl
theorem z0A (h:a δ = .ok .next δ1):dSeq a b δ=b δ1:=by unfold dSeq; rw [h]; rfl
theorem z8Z (h:a δ = .ok (.ret v) δ1):dSeq a b δ = .ok (.ret v) δ1:=by unfold dSeq; rw [h]; rfl
theorem z6k (h:it δ = .ok ds δ1):dFor it g b δ=forL g b ds δ1:=by unfold dFor; rw [h]; rfl
theorem zb7 (F:Fl2 bs A C fl) (hA:A≤64) (hC:C≤64):z0T [.pure (dcM bs),.pure (flD fl)]=some (.pure .non,[.pure (dcM bs),.pure (flD fl)]):=by
 have hl:=z8t fl C (fun x hx=>Nat.le_of_eq (F.cols x hx))
 have ej:z1Z [] (flD fl)=some (.pure (.str fl.flatten)):=by
  have h1:=z70 fl (by
   rw [F.rows] at hl
   have:A * C≤64 * 64:=WT hA hC
   omega)
  exact h1
 obtain ⟨δ',e,c,rfl⟩:=z2H (g:=gNm [] 2) (b:=(dIf (dTr (eOp (pIn true) (eVar 2) (bVar 0))) z3O z0I)) (fun _ δ=>∃ c,δ=[some (.pure (dcM bs)),some (.pure (flD fl)),c]) (fl.flatten.map fun n=>D.str [n]) 0 [some (.pure (dcM bs)),some (.pure (flD fl)),none] ⟨_,rfl⟩ (fun i d δ hi ⟨c,eδ⟩=>by
  subst eδ
  rw [Q0] at hi
  cases en:fl.flatten[i]? with
  | none=>rw [en] at hi; cases hi
  | some n =>
   rw [en] at hi
   cases hi
   have hm:n ∈ bs.map (·.1):=by
    obtain ⟨r,hr,hn⟩:=List.mem_flatten.mp (WD en)
    exact F.tl r hr n hn
   have hin:=zgO hm
   refine ⟨_,[some (.pure (dcM bs)),some (.pure (flD fl)),some (.pure (.str [n]))],rfl,?_,_,rfl⟩
   generalize dcM bs=T at hin
   generalize flD fl=U
   simp [dTr,eVar,bVar,hin])
 rw [z0T]
 refine zgR (δ1:=[some (.pure (dcM bs)),some (.pure (flD fl)),c]) ?_
 rw [z2f]
 refine (z6k (δ1:=[some (.pure (dcM bs)),some (.pure (flD fl)),none]) (ds:=fl.flatten.map fun n=>D.str [n]) ?_).trans e
 generalize dcM bs=T
 generalize flD fl=U at ej
 simp [z0g,z2T,bVar,ej]
theorem z9C {a b m:Int} (ha:a≤m) (hb:b≤m):z0w [.pure (.int a),.pure (.int b),.pure (.int m)]=some (.pure .non,[.pure (.int a),.pure (.int b),.pure (.int m)]):=by
 have q1:=gt_int a m
 have q2:=gt_int b m
 rw [decide_eq_false (by omega)] at q1 q2
 rw [z0w,z4p,z2v]
 simp [ioOk,z0g,dTr,eOpF,eOpN,bVar,q1,q2,z0F,z0h]
def z5C (h:Nat) (bs:List (Nat×List Tx)) (fl:List Tx):Nat→List Tx
 | 0=>fl
 | k + 1=>lay h bs (z5C h bs fl k)
theorem zbR {h w:Nat} {bs:List (Nat×List Tx)} (R:Rul h w bs) {A C:Nat} {fl:List Tx} (F:Fl2 bs A C fl):∀ k,Fl2 bs (A * h ^ k) (C * w ^ k) (z5C h bs fl k)
 | 0=>by rw [Nat.pow_zero,Nat.pow_zero,Nat.mul_one,Nat.mul_one]; exact F
 | k + 1=>by
  have:=z6Z R (zbR R F k)
  rw [Jz,Jz,← J3,← J3]
  exact this
theorem zbS {h w:Nat} {bs:List (Nat×List Tx)} (R:Rul h w bs) {A C:Nat} {fl:List Tx} (F:Fl2 bs A C fl) (T0 T2 T4 T5:D):∀ (t k:Nat) (s8:Option S),(∀ i,i < k + t→A * h ^ i≤1000∧C * w ^ i≤1000) →
  ∃ s,forL (gNm [] 8) (dAsg (z01 z0Y [.val (eVar 6),.val (eVar 3),.val (eVar 7)]) (gNm [] 7)) (z0H (k:Int) t) [some (.pure T0),some (.pure (flD fl)),some (.pure T2),some (.pure (.int h)),some (.pure T4),some (.pure T5),some (.pure (dcM bs)),some (.pure (flD (z5C h bs fl k))),s8] =
   .ok .next [some (.pure T0),some (.pure (flD fl)),some (.pure T2),some (.pure (.int h)),some (.pure T4),some (.pure T5),some (.pure (dcM bs)),some (.pure (flD (z5C h bs fl (k + t)))),s]
 | 0,k,s8,_=>⟨s8,rfl⟩
 | t + 1,k,s8,hb=>by
  obtain ⟨b1,b2⟩:=hb k (by omega)
  have e:=zfO R (zbR R F k) b1 b2
  obtain ⟨s,e2⟩:=zbS R F T0 T2 T4 T5 t (k + 1) (some (.pure (.int k))) (fun i hi=>hb i (by omega))
  refine ⟨s,?_⟩
  have er:z0H (k:Int) (t + 1) = .int (k:Int) :: z0H ((k + 1:Nat):Int) t:=by
   unfold z0H
   rw [List.range_succ_eq_map,Ws,WB]
   simp only [Function.comp_def,List.cons.injEq,D.int.injEq]
   refine ⟨by simp,WM fun i _=>?_⟩
   simp only [D.int.injEq]
   push_cast
   omega
  rw [er,show k + (t + 1)=k + 1 + t by omega]
  refine Eq.trans ?_ e2
  show (dAsg (z01 z0Y [.val (eVar 6),.val (eVar 3),.val (eVar 7)]) (gNm [] 7) [some (.pure T0),some (.pure (flD fl)),some (.pure T2),some (.pure (.int h)),some (.pure T4),some (.pure T5),some (.pure (dcM bs)),some (.pure (flD (z5C h bs fl k))),some (.pure (.int k))]).bind _=_
  have st:dAsg (z01 z0Y [.val (eVar 6),.val (eVar 3),.val (eVar 7)]) (gNm [] 7) [some (.pure T0),some (.pure (flD fl)),some (.pure T2),some (.pure (.int h)),some (.pure T4),some (.pure T5),some (.pure (dcM bs)),some (.pure (flD (z5C h bs fl k))),some (.pure (.int k))] =
    .ok .next [some (.pure T0),some (.pure (flD fl)),some (.pure T2),some (.pure (.int h)),some (.pure T4),some (.pure T5),some (.pure (dcM bs)),some (.pure (flD (z5C h bs fl (k + 1)))),some (.pure (.int k))]:=by
   show _=Rs.ok Fl.next [some (.pure T0),some (.pure (flD fl)),some (.pure T2),some (.pure (.int h)),some (.pure T4),some (.pure T5),some (.pure (dcM bs)),some (.pure (flD (lay h bs (z5C h bs fl k)))),some (.pure (.int k))]
   generalize flD (lay h bs (z5C h bs fl k))=Y at *
   generalize flD (z5C h bs fl k)=X at *
   generalize flD fl=U at *
   generalize dcM bs=V at *
   simp [dAsg,z01,ios,ndup,evX,eVar,mkA,e,putA]
  rw [st]
  rfl
theorem z9g (U Y V W:D) {A C h w t r0 P Q:D} (g1:z0C [.pure A,.pure h,.pure t]=some (.pure P,[.pure A,.pure h,.pure t])) (g2:z0C [.pure C,.pure w,.pure t]=some (.pure Q,[.pure C,.pure w,.pure t]))
  (x0:pIx Y (.int 0)=some (.pure r0)) (l0:pLen r0=some (.pure C)) (l1:pLen Y=some (.pure A)) {M:D} (eb:z0w [.pure P,.pure Q,.pure M]=some (.pure .non,[.pure P,.pure Q,.pure M])) :
  z6q (z01 z0w [.val (z01 z0C [.val (eC1 pLen (bVar 1)),.val (eVar 3),.val (eVar 2)]),.val (z01 z0C [.val (eC1 pLen (bOf (eOpF pIx 1 (bOf (eD (.int 0)))))),.val (eVar 4),.val (eVar 2)]),.val (eD M)]) [some (.pure U),some (.pure Y),some (.pure t),some (.pure h),some (.pure w),some (.pure V),some (.pure W),none,none] =
   .ok .next [some (.pure U),some (.pure Y),some (.pure t),some (.pure h),some (.pure w),some (.pure V),some (.pure W),none,none]:=by
 have c1:z01 z0C [.val (eC1 pLen (bVar 1)),.val (eVar 3),.val (eVar 2)] [some (.pure U),some (.pure Y),some (.pure t),some (.pure h),some (.pure w),some (.pure V),some (.pure W),none,none] = .ok (.pure P) [some (.pure U),some (.pure Y),some (.pure t),some (.pure h),some (.pure w),some (.pure V),some (.pure W),none,none]:=by
  simp [z01,ios,ndup,evX,eVar,bVar,l1,mkA,g1,putA]
 have c2:z01 z0C [.val (eC1 pLen (bOf (eOpF pIx 1 (bOf (eD (.int 0)))))),.val (eVar 4),.val (eVar 2)] [some (.pure U),some (.pure Y),some (.pure t),some (.pure h),some (.pure w),some (.pure V),some (.pure W),none,none] = .ok (.pure Q) [some (.pure U),some (.pure Y),some (.pure t),some (.pure h),some (.pure w),some (.pure V),some (.pure W),none,none]:=by
  simp [z01,ios,ndup,evX,eVar,bVar,eOpF,eOpN,x0,l0,mkA,g2,putA]
 unfold z6q
 rw [z01]
 simp [ios,ndup,evX,c1,c2,mkA,eb,putA]
theorem z7m {h w t:Nat} {bs:List (Nat×List Tx)} (R:Rul h w bs) {A C:Nat} {fl:List Tx} (F:Fl2 bs A C fl) (hA0:0 < A) (ht:t≤10) (hA:A * h ^ t≤64) (hC:C * w ^ t≤64) :
  z0q [.pure (ruD h w bs),.pure (flD fl),.pure (.int t)]=some (.pure (flD (z5C h bs fl t)),[.pure (ruD h w bs),.pure (flD fl),.pure (.int t)]):=by
 have h1:=R.h1
 have w1:=R.w1
 have h0:=R.h0
 have w0:=R.w0
 have pA:∀ i,i≤t→A * h ^ i≤64:=fun i hi=>WV (Nat.mul_le_mul_left A (Nat.pow_le_pow_right h0 hi)) hA
 have pC:∀ i,i≤t→C * w ^ i≤64:=fun i hi=>WV (Nat.mul_le_mul_left C (Nat.pow_le_pow_right w0 hi)) hC
 have a64:A≤64:=by simpa using pA 0 (by omega)
 have c64:C≤64:=by simpa using pC 0 (by omega)
 obtain ⟨r0,hr0⟩:∃ r0,fl[0]? = some r0:=⟨fl[0]'(by rw [F.rows]; exact hA0),by simp [F.rows,hA0]⟩
 have lr:r0.length=C:=F.cols r0 (WD hr0)
 have x0:pIx (flD fl) (.int 0)=some (.pure (.str r0)):=by simp [pIx,z2k,hr0]
 have l0:pLen (.str r0)=some (.pure (.int C)):=by rw [z2h r0 (by omega),lr]
 have l1:pLen (flD fl)=some (.pure (.int A)):=by rw [z2S]; simp [F.rows]
 have ed:=dictM R
 have e1:=zb7 F a64 c64
 have g1:=z9B A h t (by omega) (by omega)
 have g2:=z9B C w t (by omega) (by omega)
 have eb:=z9C (a:=((A * h ^ t:Nat):Int)) (b:=((C * w ^ t:Nat):Int)) (m:=64) (by omega) (by omega)
 obtain ⟨s,el⟩:=zbS R F (ruD h w bs) (.int t) (.int w) (.tup (bs.map blD)) t 0 none (fun i hi=>⟨WV (pA i (by omega)) (by decide),WV (pC i (by omega)) (by decide)⟩)
 rw [Qq] at el
 have hsm:z5n (t:Int)=true:=by unfold z5n; simp; omega
 rw [z0q]
 refine z9O (δ1:=[some (.pure (ruD h w bs)),some (.pure (flD fl)),some (.pure (.int t)),some (.pure (.int h)),some (.pure (.int w)),some (.pure (.tup (bs.map blD))),some (.pure (dcM bs)),some (.pure (flD (z5C h bs fl t))),s]) ?_
 rw [z3p]
 rw [z0A (δ1:=[some (.pure (ruD h w bs)),some (.pure (flD fl)),some (.pure (.int t)),some (.pure (.int h)),some (.pure (.int w)),some (.pure (.tup (bs.map blD))),none,none,none]) (by simp [z0g,dAsg,eVar,gTp,z0d,z10])]
 rw [z0A (δ1:=[some (.pure (ruD h w bs)),some (.pure (flD fl)),some (.pure (.int t)),some (.pure (.int h)),some (.pure (.int w)),some (.pure (.tup (bs.map blD))),some (.own (dcM bs)),none,none]) (by
  clear el e1
  generalize ruD h w bs=U
  generalize D.tup (bs.map blD)=V at ed
  generalize dcM bs=W at ed
  simp [dAsg,bVar,ed])]
 rw [z0A (δ1:=[some (.pure (ruD h w bs)),some (.pure (flD fl)),some (.pure (.int t)),some (.pure (.int h)),some (.pure (.int w)),some (.pure (.tup (bs.map blD))),some (.pure (dcM bs)),none,none]) (by
  clear el ed
  generalize ruD h w bs=U
  generalize D.tup (bs.map blD)=V
  generalize dcM bs=W at e1
  generalize flD fl=Y at e1
  simp [z6q,z01,ios,ndup,evX,eVar,mkA,e1,putA])]
 rw [z0A (δ1:=[some (.pure (ruD h w bs)),some (.pure (flD fl)),some (.pure (.int t)),some (.pure (.int h)),some (.pure (.int w)),some (.pure (.tup (bs.map blD))),some (.pure (dcM bs)),none,none]) (by
  clear el ed e1
  generalize ruD h w bs=U
  generalize D.tup (bs.map blD)=V
  generalize dcM bs=W
  generalize flD fl=Y at x0 l1
  generalize ((A * h ^ t:Nat):Int)=P at g1 eb
  generalize ((C * w ^ t:Nat):Int)=Q at g2 eb
  exact z9g U Y V W g1 g2 x0 l0 l1 eb)]
 rw [z0A (δ1:=[some (.pure (ruD h w bs)),some (.pure (flD fl)),some (.pure (.int t)),some (.pure (.int h)),some (.pure (.int w)),some (.pure (.tup (bs.map blD))),some (.pure (dcM bs)),some (.pure (flD fl)),none]) (by simp [dAsg,eVar])]
 rw [z0A ((z6k (δ1:=[some (.pure (ruD h w bs)),some (.pure (flD fl)),some (.pure (.int t)),some (.pure (.int h)),some (.pure (.int w)),some (.pure (.tup (bs.map blD))),some (.pure (dcM bs)),some (.pure (flD fl)),none]) (ds:=z0H 0 t) (by simp [z1d,eVar,hsm])).trans el)]
 rfl
theorem z2O {h w:Nat} {bs:List (Nat×List Tx)} (R:Rul h w bs) {A C:Nat} {fl:List Tx} (F:Fl2 bs A C fl) (hA0:0 < A) (hA:A * h≤64) (hC:C * w≤64) :
  z04 [.pure (ruD h w bs),.pure (flD fl)]=some (.pure (flD (lay h bs fl)),[.pure (ruD h w bs),.pure (flD fl)]):=by
 have e:z0q [.pure (ruD h w bs),.pure (flD fl),.pure (.int 1)]=some (.pure (flD (lay h bs fl)),[.pure (ruD h w bs),.pure (flD fl),.pure (.int 1)]):=z7m (t:=1) R F hA0 (by decide) (by simpa using hA) (by simpa using hC)
 rw [z04]
 refine zbT (δ1:=[some (.pure (ruD h w bs)),some (.pure (flD fl))]) ?_
 rw [z3q]
 generalize ruD h w bs=U at *
 generalize flD fl=V at *
 simp [z0g,z01,ios,ndup,evX,eVar,mkA,e,putA]
def fs (ts:List Nat):List (Nat×List Tx)→Option Nat
 | []=>none
 | b :: bs=>if okB ts (blD b) then (fs ts bs).map (· + 1) else some 0
def enF:Nat→List D→List D
 | _,[]=>[]
 | k,p :: r=>.tup [.int k,p] :: enF (k + 1) r
theorem zc6:∀ (ds:List D) (k:Nat),ds.mapIdx (fun i d=>D.tup [.int ((i + k:Nat):Int),d])=enF k ds
 | [],k=>rfl
 | d :: r,k=>by
  rw [List.mapIdx_cons,enF]
  congr 1
  ·simp
  ·rw [← zc6 r (k + 1)]
   congr 1
   funext i d
   congr 4
   omega
theorem z9T (ds:List D):z4q ds=enF 0 ds:=zc6 ds 0
structure Seen (ts:List Nat) (kvs:List (DKey×D)):Prop where
 any:∀ n:Nat,(kvs.any fun kv=>decide (kv.1=Sum.inr [n]))=ts.contains n
 len:kvs.length≤ts.length
theorem Seen.put (s:Seen ts kvs) (m:Nat) (v:D):Seen (ts ++ [m]) (putD kvs (Sum.inr [m]) v) where
 any:=fun n=>by
  rw [z9D,s.any]
  by_cases e:m=n
  ·subst e; simp
  ·have e':¬ n=m:=fun z=>e z.symm
   simp [e,e']
 len:=by
  have:=s.len
  unfold putD
  split
  ·simp; omega
  ·simp; omega
theorem zeX (s:Seen ts kvs) (n:Nat):pIn false (.str [n]) (.dct kvs)=some (.pure (.bl (ts.contains n))):=by
 unfold pIn
 simp [keyD,z5N,s.any]
abbrev unI:DS:=(dIf (dTr (eOp (pIn true) (eVar 4) (bVar 1))) (dRet (eVar 2)) z0I)
abbrev unB:DS:=(dFor (iSq (eC1 (z1Z []) (bOf (eOpF pIx 3 (bOf (eD (.int 1))))))) (gNm [] 4) unI)
theorem zfn:∀ (xs:List Nat) (c:Option S),∃ c',forL (gNm [] 4) unI (xs.map fun n=>D.str [n]) [some (.pure L),some (.own (dcD all)),some (.pure (.int k)),some (.pure P),c] =
  (if xs.all (fun n=>(all.map (·.1)).contains n) then .ok .next [some (.pure L),some (.own (dcD all)),some (.pure (.int k)),some (.pure P),c'] else .ok (.ret (.pure (.int k))) [some (.pure L),some (.own (dcD all)),some (.pure (.int k)),some (.pure P),c'])
 | [],c=>⟨c,rfl⟩
 | n :: xs,c=>by
  have hin:=zgP all n
  have un:∀ x,(unI [some (.pure L),some (.own (dcD all)),some (.pure (.int k)),some (.pure P),some (.pure (.str [n]))]).bind (fun fl δ2=>match fl with
    | .next=>forL (gNm [] 4) unI (xs.map fun n=>D.str [n]) δ2
    | .cont=>forL (gNm [] 4) unI (xs.map fun n=>D.str [n]) δ2
    | .brk=>.ok .next δ2
    | .ret v=>.ok (.ret v) δ2)=x→forL (gNm [] 4) unI ((n :: xs).map fun n=>D.str [n]) [some (.pure L),some (.own (dcD all)),some (.pure (.int k)),some (.pure P),c]=x:=fun x e=>e
  cases hc:(all.map (·.1)).contains n with
  | true =>
   rw [hc] at hin
   have st:unI [some (.pure L),some (.own (dcD all)),some (.pure (.int k)),some (.pure P),some (.pure (.str [n]))] = .ok .next [some (.pure L),some (.own (dcD all)),some (.pure (.int k)),some (.pure P),some (.pure (.str [n]))]:=by
    generalize dcD all=T at hin
    simp [dTr,eVar,bVar,hin]
   rw [st] at un
   obtain ⟨c',e⟩:=zfn xs (some (.pure (.str [n])))
   refine ⟨c',un _ (e.trans ?_)⟩
   rw [Q5,hc,Jo]
  | false =>
   rw [hc] at hin
   have st:unI [some (.pure L),some (.own (dcD all)),some (.pure (.int k)),some (.pure P),some (.pure (.str [n]))] = .ok (.ret (.pure (.int k))) [some (.pure L),some (.own (dcD all)),some (.pure (.int k)),some (.pure P),some (.pure (.str [n]))]:=by
    generalize dcD all=T at hin
    simp [dTr,eVar,bVar,hin]
   rw [st] at un
   refine ⟨some (.pure (.str [n])),un _ ?_⟩
   rw [Q5,hc,JB]
   rfl
theorem ze3 (gb:GP h w b) (c:Option S):∃ c',unB [some (.pure L),some (.own (dcD all)),some (.pure (.int k)),some (.pure (blD b)),c] =
  (if okB (all.map (·.1)) (blD b) then .ok .next [some (.pure L),some (.own (dcD all)),some (.pure (.int k)),some (.pure (blD b)),c'] else .ok (.ret (.pure (.int k))) [some (.pure L),some (.own (dcD all)),some (.pure (.int k)),some (.pure (blD b)),c']):=by
 have ej:=zbE gb
 have e1:pIx (blD b) (.int 1)=some (.pure (flD b.2)):=ix1 (.str [b.1]) (flD b.2) []
 obtain ⟨c',e⟩:=zfn (all:=all) (L:=L) (P:=blD b) (k:=k) b.2.flatten c
 refine ⟨c',?_⟩
 rw [z6W]
 refine (z6k (δ1:=[some (.pure L),some (.own (dcD all)),some (.pure (.int k)),some (.pure (blD b)),c]) (ds:=b.2.flatten.map fun n=>D.str [n]) ?_).trans ?_
 rotate_left
 ·exact e
 ·generalize flD b.2=F at *
  generalize blD b=B at *
  simp [z2T,eOpF,eOpN,bVar,e1,ej]
theorem zaz:∀ (bs:List (Nat×List Tx)) (k:Nat) (s2 s3 c:Option S),(∀ b ∈ bs,GP h w b)→∃ δ',
  forL (gTp 2 (z0d (gNm [] 2) (z0d (gNm [] 3) z10))) unB (enF k (bs.map blD)) [some (.pure L),some (.own (dcD all)),s2,s3,c]=(match fs (all.map (·.1)) bs with
   | some j=>.ok (.ret (.pure (.int ((k + j:Nat):Int)))) δ'
   | none=>.ok .next δ')
 | [],k,s2,s3,c,hg=>⟨_,by simp [fs]; rfl⟩
 | b :: bs,k,s2,s3,c,hg=>by
  obtain ⟨c',st⟩:=ze3 (all:=all) (L:=L) (k:=k) (hg b (by simp)) c
  have un:∀ x,(unB [some (.pure L),some (.own (dcD all)),some (.pure (.int k)),some (.pure (blD b)),c]).bind (fun fl δ2=>match fl with
    | .next=>forL (gTp 2 (z0d (gNm [] 2) (z0d (gNm [] 3) z10))) unB (enF (k + 1) (bs.map blD)) δ2
    | .cont=>forL (gTp 2 (z0d (gNm [] 2) (z0d (gNm [] 3) z10))) unB (enF (k + 1) (bs.map blD)) δ2
    | .brk=>.ok .next δ2
    | .ret v=>.ok (.ret v) δ2)=x→forL (gTp 2 (z0d (gNm [] 2) (z0d (gNm [] 3) z10))) unB (enF k ((b :: bs).map blD)) [some (.pure L),some (.own (dcD all)),s2,s3,c]=x:=fun x e=>e
  rw [st] at un
  cases hc:okB (all.map (·.1)) (blD b) with
  | false =>
   rw [hc] at un
   exact ⟨_,un _ (by simp only [fs,hc]; rfl)⟩
  | true =>
   rw [hc] at un
   obtain ⟨δ',e⟩:=zaz (all:=all) (L:=L) bs (k + 1) (some (.pure (.int k))) (some (.pure (blD b))) c' (fun x hx=>hg x (by simp [hx]))
   refine ⟨δ',un _ ?_⟩
   show forL (gTp 2 (z0d (gNm [] 2) (z0d (gNm [] 3) z10))) unB (enF (k + 1) (bs.map blD)) [some (.pure L),some (.own (dcD all)),some (.pure (.int k)),some (.pure (blD b)),c']=_
   rw [e]
   have ef:fs (all.map (·.1)) (b :: bs)=(fs (all.map (·.1)) bs).map (· + 1):=by rw [fs,hc]; rfl
   rw [ef]
   cases fs (all.map (·.1)) bs with
   | none=>simp
   | some j =>
    simp only [WK]
    have:k + 1 + j=k + (j + 1):=by omega
    rw [this]
def zbA (bs:List (Nat×List Tx)):D:=match fs (bs.map (·.1)) bs with
 | some k=>.int k
 | none=>.non
theorem zcP (hn:bs.length≤1000) (hg:∀ b ∈ bs,GP h w b):z0r [.pure (.lst (bs.map blD))]=some (.pure (zbA bs),[.pure (.lst (bs.map blD))]):=by
 have ed:z2c (.lst (bs.map blD))=some (.own (dcD bs)):=by
  unfold z2c
  simp only [z7q,WX]
  rw [if_pos (by have:W6=16777216:=rfl; simp; omega)]
  rfl
 obtain ⟨δ',e⟩:=zaz (h:=h) (w:=w) (all:=bs) (L:=.lst (bs.map blD)) bs 0 none none none hg
 have key:∃ δ1,z11 [some (.pure (.lst (bs.map blD))),none,none,none,none] = .ok (.ret (.pure (zbA bs))) δ1:=by
  rw [z11]
  rw [z0A (δ1:=[some (.pure (.lst (bs.map blD))),some (.own (dcD bs)),none,none,none]) (by
   generalize dcD bs=T at ed
   generalize D.lst (bs.map blD)=L at ed
   simp [dAsg,bVar,ed])]
  have it:z9c (eVar 0) [some (.pure (.lst (bs.map blD))),some (.own (dcD bs)),none,none,none] = .ok (enF 0 (bs.map blD)) [some (.pure (.lst (bs.map blD))),some (.own (dcD bs)),none,none,none]:=by
   rw [z7L,← z9T]; rfl
  unfold zbA
  cases hf:fs (bs.map (·.1)) bs with
  | some j =>
   rw [hf] at e
   refine ⟨δ',?_⟩
   rw [z8Z ((z6k it).trans e)]
   simp
  | none =>
   rw [hf] at e
   refine ⟨δ',?_⟩
   rw [z0A ((z6k it).trans e)]
   rfl
 obtain ⟨δ1,e1⟩:=key
 exact zbU e1
theorem zbB:∀ bs:List (Nat×List Tx),z8w (bs.map blD)=some (bs.map fun b=>[b.1])
 | []=>rfl
 | b :: bs=>by
  show (z8w (bs.map blD)).map _=_
  rw [zbB bs]; rfl
theorem zbv:∀ {ks:List Tx},ks.Nodup→ndT ks=true
 | [],_=>rfl
 | x :: r,h=>by
  obtain ⟨h1,h2⟩:=WO.mp h
  simp only [ndT,zbv h2,Bool.and_true]
  simpa using h1
theorem zfj (bs:List (Nat×List Tx)) (nd:(bs.map (·.1)).Nodup) (hl:bs.length < 64):∃ sb:List (Nat×List Tx),z6V (.lst (bs.map blD))=some (.own (.lst (sb.map blD)))∧sb.Perm bs∧(sb.map (·.1)).Pairwise (· < ·):=by
 by_cases h2:bs.length < 2
 ·refine ⟨bs,by simp only [z6V,Wo]; rw [if_pos h2],.refl _,?_⟩
  match bs,h2 with
  | [],_=>exact .nil
  | [b],_=>exact List.pairwise_singleton _ _
 ·have e1:(bs.map fun b=>[b.1])=(bs.map (·.1)).map fun t=>[t]:=by rw [WB]; rfl
  have hnd:ndT (bs.map fun b=>[b.1])=true:=by
   rw [e1]
   refine zbv ?_
   rw [QT,Je]
   exact (List.nodup_iff_pairwise_ne.mp nd).imp fun h z=>h (by simpa using z)
  refine ⟨(ordK (bs.map fun b=>[b.1])).map fun i=>bs.getD i (0,[]),?_,?_,?_⟩
  ·simp only [z6V,Wo]
   rw [if_neg h2]
   simp only [z8h,zbB]
   rw [if_pos ⟨by simp; omega,by simpa using hl,hnd⟩,WB]
   have hp:=z33 (ks:=bs.map fun b=>[b.1]) (by simp; omega)
   congr 3
   refine WM fun i hi=>?_
   have:=hp.mem_iff.mp hi
   simp at this
   simp [this]
  ·have hp:=(z33 (ks:=bs.map fun b=>[b.1]) (by simp; omega)).map fun i=>bs.getD i (0,[])
   refine hp.trans ?_
   have:(Wf (bs.map fun b=>[b.1]).length).map (fun i=>bs.getD i (0,[]))=bs:=by
    apply QB
    ·simp
    ·intro i h1 h2
     simp at h1
     simp [h1]
   rw [this]
  ·have:=zeD (bs.map (·.1)) nd (by simp; omega)
   rw [← e1] at this
   rw [WB]
   have e2:((ordK (bs.map fun b=>[b.1])).map fun i=>(bs.map (·.1)).getD i 0)=(ordK (bs.map fun b=>[b.1])).map ((fun b:Nat×List Tx=>b.1) ∘ fun i=>bs.getD i (0,[])):=by
    refine WM fun i hi=>?_
    have hp:=z33 (ks:=bs.map fun b=>[b.1]) (by simp; omega)
    have:=hp.mem_iff.mp hi
    simp at this
    simp [this]
   rw [← e2]
   exact this
abbrev ruB:DS:=(dSeq (dIf (dOr (dNot (dTr (z01 z15 [.val (eVar 0),.val (eVar 1),.val (eVar 5)]))) (dTr (eOp (pIn false) (eOpF pIx 5 (bOf (eD (.int 0)))) (bVar 3)))) z3O z0I) (zcg 3 (eOpF pIx 5 (bOf (eD (.int 0)))) (eD (.bl true))))
abbrev d7 (h w:Int) (L:D) (a b c d:Option S):Dl:=[some (.pure (.int h)),some (.pure (.int w)),some (.pure L),a,b,c,d]
theorem zaX (hp:SmP (blD b)) (hi:isPr h w (blD b)=true) (sn:Seen ts kvs) (ht:ts.length≤1000) (hc:ts.contains b.1=false) (s6:Option S) :
  ruB (d7 h w A (some (.own (.dct kvs))) (some (.pure (.int k))) (some (.pure (blD b))) s6) = .ok .next (d7 h w A (some (.own (.dct (putD kvs (Sum.inr [b.1]) (.bl true))))) (some (.pure (.int k))) (some (.pure (blD b))) s6):=by
 have ep:=z5Y h w (blD b) hp
 rw [hi] at ep
 have e0:pIx (blD b) (.int 0)=some (.pure (.str [b.1])):=ix00 (.str [b.1]) [flD b.2]
 have en:=zeX sn b.1
 rw [hc] at en
 generalize blD b=B at ep e0
 unfold ruB
 rw [z0A (δ1:=d7 h w A (some (.own (.dct kvs))) (some (.pure (.int k))) (some (.pure B)) s6) (by
  simp [d7,dTr,z01,ios,ndup,evX,eVar,mkA,ep,putA,eOpF,eOpN,bVar,e0,en])]
 have hz:kvs.length < W6:=by have:=sn.len; rw [z13]; omega
 simp [d7,zcg,z8A,eOpF,eOpN,bVar,e0,keyD,hz]
theorem z85:∀ (bs:List (Nat×List Tx)) (k:Nat) (ts:List Nat) (kvs:List (DKey×D)) (s4 s5 s6:Option S),(∀ b ∈ bs,SmP (blD b)∧isPr h w (blD b)=true)→Seen ts kvs→ts.length + bs.length≤1000→(ts ++ bs.map (·.1)).Nodup →
  ∃ kvs' s s',forL (gTp 2 (z0d (gNm [] 4) (z0d (gNm [] 5) z10))) ruB (enF k (bs.map blD)) (d7 h w A (some (.own (.dct kvs))) s4 s5 s6) = .ok .next (d7 h w A (some (.own (.dct kvs'))) s s' s6)
 | [],k,ts,kvs,s4,s5,s6,hp,sn,hn,nd=>⟨kvs,s4,s5,rfl⟩
 | b :: bs,k,ts,kvs,s4,s5,s6,hp,sn,hn,nd=>by
  simp only [WC] at hn
  obtain ⟨h1,h2⟩:=hp b (by simp)
  have hc:ts.contains b.1=false:=by
   rw [List.nodup_append] at nd
   have:b.1 ∉ ts:=fun z=>nd.2.2 b.1 z b.1 (by simp) rfl
   simpa using this
  have st:=zaX (A:=A) (k:=k) h1 h2 sn (by omega) hc s6
  obtain ⟨kvs',s,s',e⟩:=z85 (A:=A) bs (k + 1) (ts ++ [b.1]) _ (some (.pure (.int k))) (some (.pure (blD b))) s6 (fun q hq=>hp q (by simp [hq])) (sn.put b.1 (.bl true)) (by simp; omega) (by simpa using nd)
  refine ⟨kvs',s,s',?_⟩
  have un:∀ x,(ruB (d7 h w A (some (.own (.dct kvs))) (some (.pure (.int k))) (some (.pure (blD b))) s6)).bind (fun fl δ2=>match fl with
    | .next=>forL (gTp 2 (z0d (gNm [] 4) (z0d (gNm [] 5) z10))) ruB (enF (k + 1) (bs.map blD)) δ2
    | .cont=>forL (gTp 2 (z0d (gNm [] 4) (z0d (gNm [] 5) z10))) ruB (enF (k + 1) (bs.map blD)) δ2
    | .brk=>.ok .next δ2
    | .ret v=>.ok (.ret v) δ2)=x→forL (gTp 2 (z0d (gNm [] 4) (z0d (gNm [] 5) z10))) ruB (enF k ((b :: bs).map blD)) (d7 h w A (some (.own (.dct kvs))) s4 s5 s6)=x:=fun x e=>e
  rw [st] at un
  exact un _ e
theorem zbV {ts:List Nat}:∀ {bs:List (Nat×List Tx)},(∀ b ∈ bs,okB ts (blD b)=true)→fs ts bs=none
 | [],_=>rfl
 | b :: bs,h=>by
  have e:fs ts bs=none:=zbV fun x hx=>h x (Wi _ hx)
  rw [fs,h b (by simp),e]
  rfl
theorem zeV:pIsN true .non .non=some (.pure (.bl false)):=rfl
theorem zf7 (n:Nat):pEq (.int (n:Int)) (.int 0)=some (.pure (.bl (n == 0))):=by
 rw [z8I]
 congr 3
 cases n <;> rfl
theorem zaZ {h w:Nat} {bs:List (Nat×List Tx)} (R:Rul h w bs) {b:Nat×List Tx} (hb:b ∈ bs):isPr h w (blD b)=true:=by
 obtain ⟨k1,k2⟩:=R.blk b hb
 obtain ⟨c1,c2⟩:=R.let' b hb
 have h0:=R.h0
 have h1:=R.h1
 have w0:=R.w0
 have w1:=R.w1
 have hl:∀ r ∈ b.2,∀ n ∈ r,letN n=true:=fun r hr n hn=>by
  obtain ⟨b',hb',e⟩:=Wp.mp ((k2 r hr).2 n hn)
  have:=R.let' b' hb'
  rw [← e]
  simp [letN]; omega
 have l0:len0 (b.2.map .str)=w:=by
  cases e:b.2 with
  | nil=>rw [e] at k1; simp at k1; omega
  | cons r rs =>
   show r.length=w
   exact (k2 r (by rw [e]; simp)).1
 have a1:lg 1 (.str [b.1])=true:=by simp [lg,letN]; omega
 have a2:isFl (flD b.2)=true:=by
  simp only [isFl,l0,Wo,Wa,decide_eq_true_eq,Ji]
  refine ⟨⟨by omega,by omega⟩,WF.mpr fun r hr=>?_⟩
  have hw:=(k2 r hr).1
  have g:lg 64 (.str r)=true:=by
   simp only [lg,Wa,decide_eq_true_eq]
   exact ⟨⟨by omega,by omega⟩,WF.mpr fun n hn=>hl r hr n hn⟩
  show (lg 64 (.str r) && r.length == w)=true
  rw [g,hw]
  simp
 have a3:dims h w (flD b.2)=true:=by
  simp only [dims,l0,Wo,k1]
  simp
 show (lg 1 (.str [b.1]) && isFl (flD b.2) && dims h w (flD b.2))=true
 rw [a1,a2,a3]
 rfl
theorem zaY {h w:Nat} {bs:List (Nat×List Tx)} (R:Rul h w bs):szD (.int h) (.int w)=true:=by
 have h0:=R.h0
 have h1:=R.h1
 have w0:=R.w0
 have w1:=R.w1
 have hw:=R.hw
 have e1:wh (.int h)=true:=by simp [wh]; omega
 have e2:wh (.int w)=true:=by simp [wh]; omega
 simp [szD,e1,e2]
 omega
theorem zfH {h w:Nat} {bs:List (Nat×List Tx)} (R:Rul h w bs) {b:Nat×List Tx} (hb:b ∈ bs):GP h w b:=by
 obtain ⟨b',e,g⟩:=zes (zaZ R hb)
 have:b=b':=by
  have e1:=congrArg z4C e
  have e2:b.1=b'.1:=by simpa [z4C] using e1
  have e3:b.2.map D.str=b'.2.map D.str:=by
   simp only [blD,flD,D.tup.injEq,List.cons.injEq] at e
   exact e.2.1
  refine Prod.ext e2 ?_
  have:=congrArg (List.map txt) e3
  rwa [txts,txts] at this
 rw [this]; exact g
theorem za8 {h w:Nat} {bs:List (Nat×List Tx)} (R:Rul h w bs):z1r [.pure (.int h),.pure (.int w),.pure (.lst (bs.map blD).reverse)]=some (.pure (ruD h w bs),[.pure (.int h),.pure (.int w),.pure (.lst (bs.map blD).reverse)]):=by
 have n0:=R.n0
 have n1:=R.n1
 have em:(bs.map blD).reverse=bs.reverse.map blD:=(List.map_reverse).symm
 have hs:=zaY R
 have es:=z5o (.int h) (.int w) trivial trivial
 rw [hs] at es
 have nd0:(bs.map (·.1)).Nodup:=R.up.imp fun h=>Wt h
 have nd:(bs.reverse.map (·.1)).Nodup:=by rw [List.map_reverse]; exact (List.reverse_perm _).nodup_iff.mpr nd0
 have hmem:∀ b ∈ bs.reverse,b ∈ bs:=fun b hb=>by simpa using hb
 obtain ⟨sb,e1,e2,e3⟩:=zfj bs.reverse nd (by simp; omega)
 have hsb:sb=bs:=zb0 (e2.trans (List.reverse_perm bs)) e3 R.up
 rw [hsb] at e1
 obtain ⟨kvs,s,s',el⟩:=z85 (h:=h) (w:=w) (A:=.lst (bs.reverse.map blD)) bs.reverse 0 [] [] none none none (fun b hb=>⟨(PEok.bl R (hmem b hb)).1,zaZ R (hmem b hb)⟩) ⟨fun n=>by simp,by simp⟩ (by simp; omega) (by simpa using nd)
 have ef:=zcP (h:=h) (w:=w) (bs:=bs.reverse) (by simp; omega) (fun b hb=>zfH R (hmem b hb))
 have hfs:fs (bs.reverse.map (·.1)) bs.reverse=none:=zbV fun b hb=>by
  rw [z6W,WF]
  intro c hc
  obtain ⟨r,hr,hcr⟩:=List.mem_flatten.mp hc
  have:=((R.blk b (hmem b hb)).2 r hr).2 c hcr
  simpa using this
 have elk:zbA bs.reverse = .non:=by unfold zbA; rw [hfs]
 rw [elk] at ef
 have ln:pLen (.lst (bs.reverse.map blD))=some (.pure (.int ((bs.reverse.map blD).length:Int))):=by rfl
 have q0:=zf7 (bs.reverse.map blD).length
 have hz:((bs.reverse.map blD).length == 0)=false:=by
  rw [beq_eq_false_iff_ne]
  simp only [Wo,Jr]
  omega
 rw [hz] at q0
 have et:z12 (.lst (bs.map blD))=some (.pure (.tup (bs.map blD))):=rfl
 have it:z9c (eVar 2) (d7 h w (.lst (bs.reverse.map blD)) (some (.own (.dct []))) none none none) = .ok (enF 0 (bs.reverse.map blD)) (d7 h w (.lst (bs.reverse.map blD)) (some (.own (.dct []))) none none none):=by
  rw [z7L,← z9T]; rfl
 rw [em]
 generalize hN:((bs.reverse.map blD).length:Int)=N at ln q0
 rw [z1r]
 refine z9O (δ1:=d7 h w (.lst (bs.reverse.map blD)) (some (.own (.dct kvs))) s s' (some (.pure .non))) ?_
 rw [z6v]
 rw [z0A (δ1:=d7 h w (.lst (bs.reverse.map blD)) none none none none) (by simp [z0g,dTr,z01,ios,ndup,evX,eVar,mkA,es,putA])]
 rw [z0A (δ1:=d7 h w (.lst (bs.reverse.map blD)) (some (.own (.dct []))) none none none) (by rfl)]
 refine (z0A ((z6k it).trans el)).trans ?_
 clear el it em
 generalize D.lst (bs.reverse.map blD)=L at *
 generalize D.lst (bs.map blD)=M at *
 show _=Rs.ok (Fl.ret (S.pure (.tup [.int h,.int w,.tup (bs.map blD)]))) _
 generalize D.tup (bs.map blD)=T at *
 rw [z0A (δ1:=d7 h w L (some (.own (.dct kvs))) s s' none) (by simp [d7,dTr,bVar,ln,q0])]
 rw [z0A (δ1:=d7 h w L (some (.own (.dct kvs))) s s' (some (.pure .non))) (by simp [d7,dAsg,z01,ios,ndup,evX,eVar,mkA,ef,putA])]
 rw [z0A (δ1:=d7 h w L (some (.own (.dct kvs))) s s' (some (.pure .non))) (by simp [d7,dTr,eVar,zeV])]
 simp [d7,dRet,eTup,z0u,aNil,eVar,bVar,e1,et]
theorem z91 (h w:Nat) (bs:List (Nat×List Tx)):pIx (ruD h w bs) (.int 0)=some (.pure (.int h))∧pIx (ruD h w bs) (.int 1)=some (.pure (.int w))∧pIx (ruD h w bs) (.int 2)=some (.pure (.tup (bs.map blD))):=by
 refine ⟨?_,?_,?_⟩
 ·simp [pIx,z2k]
 ·simp [pIx,z7R]
 ·simp [pIx,z9h]
theorem zb6 {h w:Nat} {bs:List (Nat×List Tx)} (R:Rul h w bs):z0L [.pure (ruD h w bs)]=some (.own (tD (bs.map (·.1))),[.pure (ruD h w bs)]):=by
 have n1:=R.n1
 obtain ⟨_,_,x2⟩:=z91 h w bs
 have e:=z21 (cs:=[1,2]) (g:=gTp 2 (z0d (gNm [] 1) (z0d (gNm [] 2) z10))) (t:=dYes) (el:=eVar 1) blD (fun b=>.str [b.1]) [some (.pure (ruD h w bs)),none,none] bs [] (by rw [z13]; simp; omega) (fun b hb=>by
  refine ⟨[some (.pure (ruD h w bs)),some (.pure (.str [b.1])),some (.pure (flD b.2))],_,.pure (.str [b.1]),[some (.pure (ruD h w bs)),some (.pure (.str [b.1])),some (.pure (flD b.2))],rfl,rfl,?_,rfl,rfl⟩
  simp [eVar])
 simp only [Qf] at e
 rw [z0L]
 refine zbU (δ1:=[some (.pure (ruD h w bs)),none,none]) ?_
 rw [z3U]
 have et:tD (bs.map (·.1)) = .lst (bs.map fun b=>D.str [b.1]):=by simp [tD,Function.comp_def]
 rw [et]
 show dRet (z1G [1,2] (iSq (eOpF pIx 0 (bOf (eD (.int 2))))) (gTp 2 (z0d (gNm [] 1) (z0d (gNm [] 2) z10))) dYes (eVar 1)) [some (.pure (ruD h w bs)),none,none]=_
 generalize ruD h w bs=U at *
 simp [z2T,eOpF,eOpN,bVar,x2,z14,clrD,e,z1H]
theorem zcE (ts:List Nat):z30 (ts.map fun n=>D.str [n])=some (ts.map fun n=>[n]):=zfq ts
theorem zbu {ts:List Nat} (nd:ts.Nodup):ndT (ts.map fun n=>[n])=true:=by
 refine zbv ?_
 rw [QT,Je]
 exact (List.nodup_iff_pairwise_ne.mp nd).imp fun h z=>h (by simpa using z)
theorem zbF {h' w':Nat} {bs bs':List (Nat×List Tx)} (U V:D) (a b c:Option S) (hV:V=ruD h' w' bs') (hn:bs.length≤26) (hG:∀ b ∈ bs,z04 [.pure V,.pure (flD b.2)]=some (.pure (flD (lay h' bs' b.2)),[.pure V,.pure (flD b.2)])) :
  z28 [5,6] (gTp 2 (z0d (gNm [] 5) (z0d (gNm [] 6) z10))) dYes (eTup (z0u (eVar 5) (z0u (z01 z04 [.val (eVar 1),.val (eVar 6)]) aNil))) (bs.map blD) [some (.pure U),some (.pure V),a,b,c,none,none] [] = .ok ((z2i h' bs' bs).map blD) [some (.pure U),some (.pure V),a,b,c,none,none]:=by
 have:=z21 (cs:=[5,6]) (g:=gTp 2 (z0d (gNm [] 5) (z0d (gNm [] 6) z10))) (t:=dYes) (el:=eTup (z0u (eVar 5) (z0u (z01 z04 [.val (eVar 1),.val (eVar 6)]) aNil))) blD (fun b=>blD (b.1,lay h' bs' b.2)) [some (.pure U),some (.pure V),a,b,c,none,none] bs [] (by rw [z13]; simp; omega) (fun x hx=>by
  have g:=hG x hx
  refine ⟨[some (.pure U),some (.pure V),a,b,c,some (.pure (.str [x.1])),some (.pure (flD x.2))],_,.pure (blD (x.1,lay h' bs' x.2)),[some (.pure U),some (.pure V),a,b,c,some (.pure (.str [x.1])),some (.pure (flD x.2))],rfl,rfl,?_,rfl,rfl⟩
  show _=Rs.ok (S.pure (.tup [.str [x.1],flD (lay h' bs' x.2)])) _
  generalize flD (lay h' bs' x.2)=Y at *
  generalize flD x.2=Z at *
  simp [eTup,z0u,aNil,eVar,z01,ios,ndup,evX,mkA,g,putA])
 rw [this]
 simp [z2i,WB,Function.comp_def]
theorem zfi {h w h' w':Nat} {bs bs':List (Nat×List Tx)} (R:Rul h w bs) (R':Rul h' w' bs') (ht:bs'.map (·.1)=bs.map (·.1)) (h4:bs.length≤4) (a b c d e:Option S) :
  zc7 (z01 z0L [.val (eVar 0)]) (z01 z0L [.val (eVar 1)]) [some (.pure (ruD h w bs)),some (.pure (ruD h' w' bs')),a,b,c,d,e] = .ok (.own (.lst [])) [some (.pure (ruD h w bs)),some (.pure (ruD h' w' bs')),a,b,c,d,e]:=by
 have t1:=zb6 R
 have t2:=zb6 R'
 rw [ht] at t2
 have nd:(bs.map (·.1)).Nodup:=R.up.imp fun h=>Wt h
 have q1:tL (tD (bs.map (·.1)))=some ((bs.map (·.1)).map fun n=>[n]):=zcE _
 have q2:=zbu nd
 have q3:((bs.map (·.1)).map fun n=>[n]).length≤4:=by simpa using h4
 unfold zc7
 generalize ruD h w bs=U at *
 generalize ruD h' w' bs'=V at *
 generalize tD (bs.map (·.1))=T at *
 generalize ((bs.map (·.1)).map fun n=>[n])=L at *
 have c1:z01 z0L [.val (eVar 0)] [some (.pure U),some (.pure V),a,b,c,d,e] = .ok (.own T) [some (.pure U),some (.pure V),a,b,c,d,e]:=by
  simp [z01,ios,ndup,evX,eVar,mkA,t1,putA]
 have c2:z01 z0L [.val (eVar 1)] [some (.pure U),some (.pure V),a,b,c,d,e] = .ok (.own T) [some (.pure U),some (.pure V),a,b,c,d,e]:=by
  simp [z01,ios,ndup,evX,eVar,mkA,t2,putA]
 rw [c1]
 simp [Rs.bind,S.d,q1,q2,q3,c2]
theorem zcO {h w h' w':Nat} {bs bs':List (Nat×List Tx)} (R:Rul h w bs) (R':Rul h' w' bs') (ht:bs'.map (·.1)=bs.map (·.1)) (n4:bs.length≤4) (h4:h * h'≤4) (w4:w * w'≤4) :
  z1i [.pure (ruD h w bs),.pure (ruD h' w' bs')]=some (.pure (ruD (h * h') (w * w') (z2i h' bs' bs)),[.pure (ruD h w bs),.pure (ruD h' w' bs')]):=by
 have hs:=zfi R R' ht n4
 obtain ⟨x0,x1,x2⟩:=z91 h w bs
 obtain ⟨y0,y1,_⟩:=z91 h' w' bs'
 have m1:=mul_int h h' (by omega) (by have:=R'.h1; omega)
 have m2:=mul_int w w' (by omega) (by have:=R'.w1; omega)
 have e1:(h:Int) * (h':Int)=((h * h':Nat):Int):=by simp
 have e2:(w:Int) * (w':Int)=((w * w':Nat):Int):=by simp
 rw [e1] at m1
 rw [e2] at m2
 have hb:=z9C (a:=((h * h':Nat):Int)) (b:=((w * w':Nat):Int)) (m:=4) (by omega) (by omega)
 have hg:∀ b ∈ bs,z04 [.pure (ruD h' w' bs'),.pure (flD b.2)]=some (.pure (flD (lay h' bs' b.2)),[.pure (ruD h' w' bs'),.pure (flD b.2)]):=fun b hb=>by
  obtain ⟨k1,k2⟩:=R.blk b hb
  have F:Fl2 bs' h w b.2:=⟨k1,fun r hr=>(k2 r hr).1,fun r hr n hn=>by rw [ht]; exact (k2 r hr).2 n hn⟩
  exact z2O R' F R.h0 (by omega) (by omega)
 have hj:=fun a b c=>zbF (ruD h w bs) (ruD h' w' bs') a b c rfl (by omega) hg
 have et:z12 (.lst ((z2i h' bs' bs).map blD))=some (.pure (.tup ((z2i h' bs' bs).map blD))):=rfl
 have l0:pLen (.lst [])=some (.pure (.int 0)):=rfl
 have g0:pGt (.int 0) (.int 0)=some (.pure (.bl false)):=rfl
 rw [z1i]
 refine zbT (δ1:=[some (.pure (ruD h w bs)),some (.pure (ruD h' w' bs')),some (.own (.lst [])),some (.pure (.int ((h * h':Nat):Int))),some (.pure (.int ((w * w':Nat):Int))),none,none]) ?_
 rw [z3o]
 show _=Rs.ok (Fl.ret (S.pure (.tup [.int ((h * h':Nat):Int),.int ((w * w':Nat):Int),.tup ((z2i h' bs' bs).map blD)]))) _
 generalize ruD h w bs=U at *
 generalize ruD h' w' bs'=V at *
 generalize ((h * h':Nat):Int)=A at *
 generalize ((w * w':Nat):Int)=C at *
 generalize (z2i h' bs' bs).map blD=J at *
 generalize bs.map blD=B at *
 generalize z04=GG at *
 rw [z0A (δ1:=[some (.pure U),some (.pure V),some (.own (.lst [])),none,none,none,none]) (by
  show dAsg _ _ [some (.pure U),some (.pure V),none,none,none,none,none]=_
  unfold dAsg
  rw [hs]
  rfl)]
 rw [z0A (δ1:=[some (.pure U),some (.pure V),some (.own (.lst [])),none,none,none,none]) (by simp [dTr,bVar,l0,g0])]
 rw [z0A (δ1:=[some (.pure U),some (.pure V),some (.own (.lst [])),some (.pure (.int A)),none,none,none]) (by simp [dAsg,eOpF,eOpN,bVar,x0,y0,m1])]
 rw [z0A (δ1:=[some (.pure U),some (.pure V),some (.own (.lst [])),some (.pure (.int A)),some (.pure (.int C)),none,none]) (by simp [dAsg,eOpF,eOpN,bVar,x1,y1,m2])]
 rw [z0A (δ1:=[some (.pure U),some (.pure V),some (.own (.lst [])),some (.pure (.int A)),some (.pure (.int C)),none,none]) (by simp [z6q,z01,ios,ndup,evX,eVar,mkA,hb,putA])]
 simp [dRet,eTup,z0u,aNil,eVar,z2T,eOpF,eOpN,bVar,x2,z14,clrD,hj,z1H,et]
theorem zfl:∀ {l:List Nat},l.Pairwise (· < ·)→upN l=true
 | [],_=>rfl
 | [_],_=>rfl
 | a :: b :: r,h=>by
  rw [Qg] at h
  simp only [upN,Wa,decide_eq_true_eq]
  exact ⟨h.1 b (by simp),zfl h.2⟩
theorem zfP {h w:Nat} {bs:List (Nat×List Tx)} (R:Rul h w bs):z1s [.pure (ruD h w bs)]=some (.pure (.bl true),[.pure (ruD h w bs)]):=by
 have n0:=R.n0
 have n1:=R.n1
 have e:=z92 (h:=h) (w:=w) (zaY R) (ps:=bs.map blD) (by simp; omega) (fun p hp=>by
  obtain ⟨b,hb,rfl⟩:=Wp.mp hp
  exact (PEok.bl R hb).1) (by simp; intro z; rw [z] at n0; simp at n0)
 have ok:isRu (.tup [.int h,.int w,.tup (bs.map blD)])=true:=by
  have k1:(bs.map blD).isEmpty=false:=by cases bs with
   | nil=>simp at n0
   | cons=>rfl
  have k2:(bs.map blD).all (isPr h w)=true:=by
   rw [WF]
   intro p hp
   obtain ⟨b,hb,rfl⟩:=Wp.mp hp
   exact zaZ R hb
  have k3:((bs.map blD).all fun p=>okB (bs.map (·.1)) p)=true:=by
   rw [WF]
   intro p hp
   obtain ⟨b,hb,rfl⟩:=Wp.mp hp
   rw [z6W,WF]
   intro c hc
   obtain ⟨r,hr,hcr⟩:=List.mem_flatten.mp hc
   have:=((R.blk b hb).2 r hr).2 c hcr
   simpa using this
  rw [z7E,z7a,zaY R,k1,k2,k3,zfl R.up]
  rfl
 rw [ok] at e
 exact e
theorem z9R (fl:List Tx):flat 50 (flD fl)=true:=by
 have:=z9d 49 fl
 exact this
theorem eq_fl (fl:List Tx):pEq (flD fl) (flD fl)=some (.pure (.bl true)):=by
 unfold pEq; rw [z9R,z3j (z9R fl)]; rfl
theorem zbt (fl:List Tx):pNe (flD fl) (flD fl)=some (.pure (.bl false)):=by
 unfold pNe; rw [z9R,z3j (z9R fl)]; rfl
theorem zdi (i j:Int):pGt (.int i) (.int j)=some (.pure (.bl (decide (i > j)))):=rfl
theorem Fl2.to {bs bs':List (Nat×List Tx)} {A C:Nat} {fl:List Tx} (F:Fl2 bs A C fl) (ht:bs'.map (·.1)=bs.map (·.1)):Fl2 bs' A C fl:=⟨F.rows,F.cols,fun r hr n hn=>by rw [ht]; exact F.tl r hr n hn⟩
theorem z5H {h w h' w' A C:Nat} {bs bs':List (Nat×List Tx)} {fl:List Tx} (R:Rul h w bs) (R':Rul h' w' bs') (ht:bs'.map (·.1)=bs.map (·.1)) (n4:bs.length≤4) (F:Fl2 bs A C fl) (A0:0 < A) (A4:A≤4) (C4:C≤4) :
  z08 [.pure (ruD h w bs),.pure (ruD h' w' bs'),.pure (flD fl)]=some (.pure (.bl true),[.pure (ruD h w bs),.pure (ruD h' w' bs'),.pure (flD fl)]):=by
 obtain ⟨x0,x1,x2⟩:=z91 h w bs
 obtain ⟨y0,y1,_⟩:=z91 h' w' bs'
 have h1:=R.h1
 have w1:=R.w1
 have h1':=R'.h1
 have w1':=R'.w1
 have m1:=mul_int h h' (by omega) (by omega)
 have m2:=mul_int w w' (by omega) (by omega)
 have e1:(h:Int) * (h':Int)=((h * h':Nat):Int):=by simp
 have e2:(w:Int) * (w':Int)=((w * w':Nat):Int):=by simp
 rw [e1] at m1
 rw [e2] at m2
 have k1:=zdi ((h * h':Nat):Int) 4
 have k2:=zdi ((w * w':Nat):Int) 4
 rw [z08]
 by_cases hh:h * h'≤4∧w * w'≤4
 ·obtain ⟨h4,w4⟩:=hh
  rw [decide_eq_false (by omega)] at k1 k2
  have RJ:=zde R R' ht h4 w4
  have j:=zcO R R' ht n4 h4 w4
  have g:=zfP RJ
  have eJ:(z2i h' bs' bs).map (·.1)=bs.map (·.1):=by simp [z2i,Function.comp_def]
  have L:=z6Z R F
  have b1:A * h≤16:=WT A4 h1
  have b2:C * w≤16:=WT C4 w1
  have b3:A * h * h'≤16 * 4:=WT b1 h1'
  have b4:C * w * w'≤16 * 4:=WT b2 w1'
  have g1:=z2O RJ (F.to eJ) A0 (by have:A * (h * h')≤4 * 4:=WT A4 h4; omega) (by have:C * (w * w')≤4 * 4:=WT C4 w4; omega)
  have g2:=z2O R F A0 (by omega) (by omega)
  have g3:=z2O R' (L.to ht) (Jc A0 R.h0) (by omega) (by omega)
  rw [zdb R R' ht RJ F] at g1
  have q:=eq_fl (lay h' bs' (lay h bs fl))
  refine z9O (δ1:=[some (.pure (ruD h w bs)),some (.pure (ruD h' w' bs')),some (.pure (flD fl)),some (.pure (ruD (h * h') (w * w') (z2i h' bs' bs)))]) ?_
  rw [z1h]
  generalize ruD (h * h') (w * w') (z2i h' bs' bs)=J at *
  generalize ruD h w bs=U at *
  generalize ruD h' w' bs'=V at *
  generalize flD (lay h' bs' (lay h bs fl))=Y at *
  generalize flD (lay h bs fl)=Z at *
  generalize flD fl=X at *
  generalize ((h * h':Nat):Int)=a at *
  generalize ((w * w':Nat):Int)=b at *
  have cI:z01 z04 [.val (eVar 1),.val (z01 z04 [.val (eVar 0),.val (eVar 2)])] [some (.pure U),some (.pure V),some (.pure X),some (.pure J)] = .ok (.pure Y) [some (.pure U),some (.pure V),some (.pure X),some (.pure J)]:=by
   have c0:z01 z04 [.val (eVar 0),.val (eVar 2)] [some (.pure U),some (.pure V),some (.pure X),some (.pure J)] = .ok (.pure Z) [some (.pure U),some (.pure V),some (.pure X),some (.pure J)]:=by simp [z01,ios,ndup,evX,eVar,mkA,g2,putA]
   rw [z01]
   simp [ios,ndup,evX,c0,eVar,mkA,g3,putA]
  have cJ:z01 z04 [.val (eVar 3),.val (eVar 2)] [some (.pure U),some (.pure V),some (.pure X),some (.pure J)] = .ok (.pure Y) [some (.pure U),some (.pure V),some (.pure X),some (.pure J)]:=by simp [z01,ios,ndup,evX,eVar,mkA,g1,putA]
  rw [z0A (δ1:=[some (.pure U),some (.pure V),some (.pure X),none]) (by simp [z0g,dTr,eOpF,eOpN,bVar,x0,y0,m1,k1,x1,y1,m2,k2])]
  rw [z0A (δ1:=[some (.pure U),some (.pure V),some (.pure X),some (.pure J)]) (by simp [dAsg,z01,ios,ndup,evX,eVar,mkA,j,putA])]
  rw [z0A (δ1:=[some (.pure U),some (.pure V),some (.pure X),some (.pure J)]) (by simp [dTr,z01,ios,ndup,evX,eVar,mkA,g,putA])]
  simp [dRet,cJ,cI,q]
 ·refine z9O (δ1:=[some (.pure (ruD h w bs)),some (.pure (ruD h' w' bs')),some (.pure (flD fl)),none]) ?_
  rw [z1h]
  generalize ruD h w bs=U at *
  generalize ruD h' w' bs'=V at *
  generalize flD fl=X at *
  by_cases ha:h * h'≤4
  ·have hb:¬ w * w'≤4:=fun z=>hh ⟨ha,z⟩
   rw [decide_eq_false (by omega)] at k1
   rw [decide_eq_true (by omega)] at k2
   generalize ((h * h':Nat):Int)=a at *
   generalize ((w * w':Nat):Int)=b at *
   refine z8Z ?_
   simp [z0g,dTr,eOpF,eOpN,bVar,x0,y0,m1,k1,x1,y1,m2,k2]
  ·rw [decide_eq_true (by omega)] at k1
   generalize ((h * h':Nat):Int)=a at *
   generalize ((w * w':Nat):Int)=b at *
   refine z8Z ?_
   simp [z0g,dTr,eOpF,eOpN,bVar,x0,y0,m1,k1,x1,y1,m2]
theorem z9A {h w A C:Nat} {bs:List (Nat×List Tx)} {fl:List Tx} (R:Rul h w bs) (F:Fl2 bs A C fl) (A0:0 < A) (A4:A≤4) (C4:C≤4) :
  z0k [.pure (ruD h w bs),.pure (flD fl)]=some (.pure (.bl true),[.pure (ruD h w bs),.pure (flD fl)]):=by
 obtain ⟨x0,x1,x2⟩:=z91 h w bs
 have h0:=R.h0
 have h1:=R.h1
 have w1:=R.w1
 have b1:A * h≤16:=WT A4 h1
 have b2:C * w≤16:=WT C4 w1
 have b3:A * h * h≤16 * 4:=WT b1 h1
 have b4:C * w * w≤16 * 4:=WT b2 w1
 have L:=z6Z R F
 have pA:0 < A * h:=Jc A0 h0
 have g1:=z2O R F A0 (by omega) (by omega)
 have g2:=z2O R L pA (by omega) (by omega)
 have o0:z0q [.pure (ruD h w bs),.pure (flD fl),.pure (.int 0)]=some (.pure (flD fl),[.pure (ruD h w bs),.pure (flD fl),.pure (.int 0)]):=z7m (t:=0) R F A0 (by decide) (by simp; omega) (by simp; omega)
 have o1:z0q [.pure (ruD h w bs),.pure (flD fl),.pure (.int 1)]=some (.pure (flD (lay h bs fl)),[.pure (ruD h w bs),.pure (flD fl),.pure (.int 1)]):=z7m (t:=1) R F A0 (by decide) (by simp; omega) (by simp; omega)
 have o2:z0q [.pure (ruD h w bs),.pure (flD fl),.pure (.int 2)]=some (.pure (flD (lay h bs (lay h bs fl))),[.pure (ruD h w bs),.pure (flD fl),.pure (.int 2)]):=z7m (t:=2) R F A0 (by decide) (by rw [Jz,Nat.pow_one,← J3]; omega) (by rw [Jz,Nat.pow_one,← J3]; omega)
 have n0:=zbt fl
 have n1:=zbt (lay h bs fl)
 have q:=eq_fl (lay h bs (lay h bs fl))
 have l1:pLen (flD (lay h bs fl))=some (.pure (.int ((A * h:Nat):Int))):=by rw [zc3,L.rows]
 obtain ⟨r0,er,hr⟩:∃ r0,(lay h bs fl)[0]? = some r0∧r0.length=C * w:=by
  have:0 < (lay h bs fl).length:=by rw [L.rows]; exact pA
  exact ⟨(lay h bs fl)[0],by simp [this],L.cols _ (WP _)⟩
 have i0:pIx (flD (lay h bs fl)) (.int 0)=some (.pure (.str r0)):=by
  have:∀ k:Nat,(lay h bs fl)[k]? = some r0→pIx (flD (lay h bs fl)) (.int (k:Int))=some (.pure (.str r0)):=fun k e=>by simp [pIx,z1D,e]
  exact this 0 er
 have l2:pLen (.str r0)=some (.pure (.int ((C * w:Nat):Int))):=by
  rw [z74 r0 (by omega),hr]
 have m1:=mul_int ((A * h:Nat):Int) h (by omega) (by omega)
 have m2:=mul_int ((C * w:Nat):Int) w (by omega) (by omega)
 rw [show ((A * h:Nat):Int) * (h:Int)=((A * h * h:Nat):Int) by simp] at m1
 rw [show ((C * w:Nat):Int) * (w:Int)=((C * w * w:Nat):Int) by simp] at m2
 have k1:=zdi ((A * h * h:Nat):Int) 64
 have k2:=zdi ((C * w * w:Nat):Int) 64
 rw [decide_eq_false (by omega)] at k1 k2
 rw [z0k]
 refine zbT (δ1:=[some (.pure (ruD h w bs)),some (.pure (flD fl)),some (.pure (flD (lay h bs fl)))]) ?_
 rw [z1R]
 generalize ((A * h * h:Nat):Int)=P at *
 generalize ((C * w * w:Nat):Int)=Q at *
 generalize ((A * h:Nat):Int)=P1 at *
 generalize ((C * w:Nat):Int)=Q1 at *
 generalize ruD h w bs=U at *
 generalize flD (lay h bs (lay h bs fl))=Y at *
 generalize flD (lay h bs fl)=Z at *
 generalize flD fl=X at *
 rw [z0A (δ1:=[some (.pure U),some (.pure X),some (.pure Z)]) (by simp [z0g,dAsg,z01,ios,ndup,evX,eVar,mkA,g1,putA])]
 rw [z0A (δ1:=[some (.pure U),some (.pure X),some (.pure Z)]) (by simp [dTr,z01,ios,ndup,evX,eVar,bVar,mkA,o0,o1,n0,n1,putA])]
 rw [z0A (δ1:=[some (.pure U),some (.pure X),some (.pure Z)]) (by simp [dTr,eOpF,eOpN,bVar,l1,x0,m1,k1,i0,l2,x1,m2,k2])]
 have c1:z01 z0q [.val (eVar 0),.val (eVar 1),.val (eD (.int 2))] [some (.pure U),some (.pure X),some (.pure Z)] = .ok (.pure Y) [some (.pure U),some (.pure X),some (.pure Z)]:=by simp [z01,ios,ndup,evX,eVar,mkA,o2,putA]
 have c2:z01 z04 [.val (eVar 0),.val (eVar 2)] [some (.pure U),some (.pure X),some (.pure Z)] = .ok (.pure Y) [some (.pure U),some (.pure X),some (.pure Z)]:=by simp [z01,ios,ndup,evX,eVar,mkA,g2,putA]
 simp [dRet,c1,c2,q]
theorem zdP (ts:List Nat):pLen (tD ts)=some (.pure (.int ts.length)):=by simp [tD,pLen]
theorem zgJ (ts:List Nat) (r:Nat) (h:r < ts.length):pIx (tD ts) (.int r)=some (.pure (.str [ts.getD r 0])):=z6n ts r h
theorem za9 {d:D} (hp:Pen d) (ts:Tx) (ht0:0 < ts.length) (ht1:ts.length≤64) (m:Nat) (hm0:0 < m) (hm1:m≤64):∃ (fl:List Tx) (w:Nat) (d':D),
  z0D [.own d,.pure (tD ts),.pure (.int m)]=some (.pure (flD fl),[.own d',.pure (tD ts),.pure (.int m)])∧Rect w fl∧fl.length≤m∧w≤m∧(∀ r ∈ fl,∀ n ∈ r,n ∈ ts)∧Pen d':=by
 obtain ⟨r1,d1,e1,l1,p1⟩:=z5q hp m hm0 (by omega)
 obtain ⟨r2,d2,e2,l2,p2⟩:=z5q p1 m hm0 (by omega)
 -- one row
 have row:∀ (pd:D) (rows:List D) (rs:Option S),Pen pd→∃ (x:Tx) (pd':D),z28 [6] (gNm [0] 6) dYes (eOpF pIx 1 (bOf (z01 z0a [.io 0,.val (eC1 pLen (bVar 1))]))) (z0H 0 (1 + r1)) [some (.own pd),some (.pure (tD ts)),some (.pure (.int m)),some (.pure (.int (1 + (r1:Int)))),some (.own (.lst rows)),rs,none] []
   = .ok (x.map fun n=>.str [n]) [some (.own pd'),some (.pure (tD ts)),some (.pure (.int m)),some (.pure (.int (1 + (r1:Int)))),some (.own (.lst rows)),rs,none]∧x.length=1 + r1∧(∀ n ∈ x,n ∈ ts)∧Pen pd':=fun pd rows rs hpd=>by
  obtain ⟨xs,δ',e,⟨pd',hpd',rfl⟩,hn,hf⟩:=z3P (cs:=[6]) (g:=gNm [0] 6) (t:=dYes) (el:=eOpF pIx 1 (bOf (z01 z0a [.io 0,.val (eC1 pLen (bVar 1))]))) (fun δ=>∃ pd,Pen pd∧δ=[some (.own pd),some (.pure (tD ts)),some (.pure (.int m)),some (.pure (.int (1 + (r1:Int)))),some (.own (.lst rows)),rs,none])
   (fun _ x=>∃ n,n ∈ ts∧x = .str [n]) (z0H 0 (1 + r1)) _ [] ⟨pd,hpd,rfl⟩ (by rw [z13]; simp; omega) (fun d hd δ ⟨pd,hpd,e⟩=>by
    subst e
    obtain ⟨i,hi,rfl⟩:=z3K hd
    obtain ⟨r,d',e,l,p⟩:=z5q hpd ts.length ht0 (by omega)
    refine ⟨_,_,.pure (.str [ts.getD r 0]),[some (.own d'),some (.pure (tD ts)),some (.pure (.int m)),some (.pure (.int (1 + (r1:Int)))),some (.own (.lst rows)),rs,some (.pure (.int i))],rfl,rfl,?_,⟨d',p,rfl⟩,⟨_,?_,rfl⟩⟩
    ·simp [eOpF,eOpN,bVar,z01,ios,ndup,z14,evX,zdP ts,mkA,e,putA]
     simp [zgJ ts r l]
    ·simp [l])
  obtain ⟨x,rfl,hx⟩:=z8Y (P:=fun n=>n ∈ ts) (zb2 hn hf fun d x _ h=>h)
  exact ⟨x,pd',by simpa using e,by simpa using hn,hx,hpd'⟩
 obtain ⟨δ',e3,pd,fl,rs,hpd,hfl,hall,rfl⟩:=z2H (g:=gNm [0] 5) (b:=z1e 4 (eC1 (z1Z []) (bOf (z1G [6] (z1d (eVar 3)) (gNm [0] 6) dYes (eOpF pIx 1 (bOf (z01 z0a [.io 0,.val (eC1 pLen (bVar 1))]))))))) (fun n δ=>∃ (pd:D) (fl:List Tx) (rs:Option S),Pen pd∧fl.length=n∧(∀ r ∈ fl,r.length=1 + r1∧∀ n ∈ r,n ∈ ts)∧δ=[some (.own pd),some (.pure (tD ts)),some (.pure (.int m)),some (.pure (.int (1 + (r1:Int)))),some (.own (.lst (fl.map .str))),rs,none])
  (z0H 0 (1 + r2)) 0 [some (.own d2),some (.pure (tD ts)),some (.pure (.int m)),some (.pure (.int (1 + (r1:Int)))),some (.own (.lst [])),none,none] ⟨d2,[],none,p2,rfl,by simp,rfl⟩ (fun i d δ hd ⟨pd,fl,rs,hpd,hfl,hall,e⟩=>by
   subst e
   obtain ⟨hi,rfl⟩:=z27 hd
   obtain ⟨x,pd',e,hx,hxt,hpd'⟩:=row pd (fl.map .str) (some (.pure (.int i))) hpd
   have hz:fl.length < W6:=by rw [z13]; omega
   have ej:=z7K x (by omega)
   refine ⟨_,[some (.own pd'),some (.pure (tD ts)),some (.pure (.int m)),some (.pure (.int (1 + (r1:Int)))),some (.own (.lst ((fl ++ [x]).map .str))),some (.pure (.int i)),none],rfl,?_,⟨pd',fl ++ [x],_,hpd',by simp [hfl],?_,rfl⟩⟩
   ·simp [z1e,z3J,eVar,z7j r1 (by omega),z14,clrD]
    rw [e]
    simp [ej,z1H,putL,hz]
   ·intro r hr
    rcases J5.mp hr with hr | hr
    ·exact hall r hr
    ·simp at hr; subst hr; exact ⟨hx,hxt⟩)
 simp at hfl
 refine ⟨fl,1 + r1,pd,?_,⟨by omega,by omega,by omega,by omega,fun r hr=>(hall r hr).1⟩,by omega,by omega,fun r hr=>(hall r hr).2,hpd⟩
 unfold z0D gOf z2y runD
 simp [ioOk,z0g,dAsg,z01,ios,ndup,z14,evX,eVar,mkA,e1,putA,pAdd,e2,z7j r2 (by omega)]
 rw [e3]
 simp [bVar,z12,z0F,z0h]
theorem zdC (a b:Nat):pAdd (.str [a]) (.str [b])=some (.pure (.str [a,b])):=by
 simp [pAdd,z13]
theorem zc1 (scr c ru:D) {pd:D} (hp:Pen pd) (ts:List Nat) (h0:0 < ts.length) (h1:ts.length≤64) (o5 o6 o7 o8 o9:Option S) :
  ∃ (ms:List Nat) (pd':D),z28 [10] (gNm [] 10) dYes (eTup (z0u (eVar 10) (z0u (eTup (z0u (eOpF pAdd 10 (bOf (eOpF pIx 4 (bOf (z01 z0a [.io 2,.val (eC1 pLen (bVar 4))]))))) aNil)) aNil))) (ts.map fun n=>D.str [n]) [some (.pure scr),some (.pure c),some (.own pd),some (.pure ru),some (.pure (tD ts)),o5,o6,o7,o8,o9,none] [] =
   .ok (((ts.zip ms).map fun p=>(p.1,[[p.1,p.2]])).map blD) [some (.pure scr),some (.pure c),some (.own pd'),some (.pure ru),some (.pure (tD ts)),o5,o6,o7,o8,o9,none]∧ms.length=ts.length∧(∀ m ∈ ms,m ∈ ts)∧Pen pd':=by
 have l0:=zdP ts
 obtain ⟨xs,δ',e,⟨pd',hpd',rfl⟩,hn,hf⟩:=z3P (cs:=[10]) (g:=gNm [] 10) (t:=dYes) (el:=(eTup (z0u (eVar 10) (z0u (eTup (z0u (eOpF pAdd 10 (bOf (eOpF pIx 4 (bOf (z01 z0a [.io 2,.val (eC1 pLen (bVar 4))]))))) aNil)) aNil)))) (fun δ=>∃ pd,Pen pd∧δ=[some (.pure scr),some (.pure c),some (.own pd),some (.pure ru),some (.pure (tD ts)),o5,o6,o7,o8,o9,none])
  (fun d x=>∃ n m,d = .str [n]∧m ∈ ts∧x=blD (n,[[n,m]])) (ts.map fun n=>D.str [n]) _ [] ⟨pd,hp,rfl⟩ (by rw [z13]; simp; omega) (fun d hd δ ⟨pd,hpd,e⟩=>by
   subst e
   obtain ⟨n,hn,rfl⟩:=Wp.mp hd
   obtain ⟨r,d',e,l,p⟩:=z5q hpd ts.length h0 (by omega)
   have ix:=zgJ ts r l
   have hm:ts.getD r 0 ∈ ts:=by
    rw [WN,Wh l]
    exact WP l
   have ad:=zdC n (ts.getD r 0)
   refine ⟨_,_,.pure (blD (n,[[n,ts.getD r 0]])),[some (.pure scr),some (.pure c),some (.own d'),some (.pure ru),some (.pure (tD ts)),o5,o6,o7,o8,o9,some (.pure (.str [n]))],rfl,rfl,?_,⟨d',p,rfl⟩,⟨n,_,rfl,hm,rfl⟩⟩
   generalize ts.getD r 0=m at *
   generalize tD ts=T at *
   generalize (ts.length:Int)=N at *
   simp [eTup,z0u,aNil,eVar,eOpF,eOpN,bVar,z01,ios,ndup,z14,evX,l0,mkA,e,putA,ix,ad,flD])
 simp only [Qf] at e
 rw [Wo] at hn
 have key:∀ (ts':List Nat) (xs:List D),xs.length=ts'.length→(∀ (i:Nat) d x,(ts'.map fun n=>D.str [n])[i]? = some d→xs[i]? = some x→∃ n m,d = .str [n]∧m ∈ ts∧x=blD (n,[[n,m]]))→∃ ms:List Nat,xs=((ts'.zip ms).map fun p=>(p.1,[[p.1,p.2]])).map blD∧ms.length=ts'.length∧∀ m ∈ ms,m ∈ ts:=by
  intro ts'
  induction ts' with
  | nil =>
   intro xs h _
   exact ⟨[],by rw [Qo h]; rfl,rfl,by simp⟩
  | cons n ts' ih =>
   intro xs h hf
   cases xs with
   | nil=>simp at h
   | cons x xs =>
    obtain ⟨n',m,e1,e2,e3⟩:=hf 0 _ x rfl rfl
    have:n=n':=by simpa using e1
    subst this
    obtain ⟨ms,q1,q2,q3⟩:=ih xs (by simpa using h) fun i d y h1 h2=>hf (i + 1) d y (by simpa using h1) (by simpa using h2)
    refine ⟨m :: ms,?_,by simp [q2],fun k hk=>?_⟩
    ·rw [e3,q1]
     rfl
    ·rcases Wn.mp hk with rfl | hk
     ·exact e2
     ·exact q3 k hk
 obtain ⟨ms,q1,q2,q3⟩:=key ts xs hn hf
 exact ⟨ms,pd',by rw [e,q1],q2,q3,hpd'⟩
theorem z8V:∀ (ts ms:List Nat),ms.length=ts.length→((ts.zip ms).map fun p=>(p.1,[[p.1,p.2]])).map (fun b:Nat×List Tx=>b.1)=ts
 | [],ms,h=>by simp
 | t :: ts,[],h=>by simp at h
 | t :: ts,m :: ms,h=>by
  have:=z8V ts ms (by simpa using h)
  simp only [List.zip_cons_cons,Ws]
  rw [this]
theorem zeP (R:Rul h w bs) (ms:List Nat) (hl:ms.length=(bs.map (·.1)).length) (hm:∀ m ∈ ms,m ∈ bs.map (·.1)):Rul 1 2 (((bs.map (·.1)).zip ms).map fun p=>(p.1,[[p.1,p.2]])):=by
 have e:=z8V (bs.map (·.1)) ms hl
 have z:(((bs.map (·.1)).zip ms).map fun p=>(p.1,[[p.1,p.2]])).length=bs.length:=by simp at hl ⊢; omega
 refine ⟨by decide,by decide,by decide,by decide,by decide,by rw [z]; exact R.n0,by rw [z]; exact R.n1,by rw [e]; exact R.up,fun b hb=>?_,fun b hb=>?_⟩
 ·have hb1:b.1 ∈ bs.map (·.1):=by rw [← e]; exact WG hb
  obtain ⟨b',hb',e'⟩:=Wp.mp hb1
  rw [← e']
  exact R.let' b' hb'
 ·rw [e]
  have hb1:b.1 ∈ bs.map (·.1):=by rw [← e]; exact WG hb
  obtain ⟨p,hp,rfl⟩:=Wp.mp hb
  refine ⟨rfl,fun r hr=>?_⟩
  simp at hr
  subst hr
  refine ⟨rfl,fun n hn=>?_⟩
  simp at hn
  rcases hn with rfl | rfl
  ·exact hb1
  ·exact hm _ (JK hp).2
theorem zh0 {α:Type} (xs:List α) (k:Nat) (h:k≤xs.length):cutL xs none (some (k:Int))=xs.take k:=by
 have:¬ (k:Int) < 0:=by omega
 unfold cutL HT.sIx
 simp [this]
theorem zfr {h w:Nat} {bs:List (Nat×List Tx)} (R:Rul h w bs):∃ t0,t0 ∈ bs.map (·.1):=by
 have:=R.n0
 exact ⟨(bs[0]).1,WG (WP _)⟩
theorem z7V (w:Nat) (bs:List (Nat×List Tx)):(z2Z w bs).map (·.1)=bs.map (·.1):=by simp [z2Z,Function.comp_def]
theorem zcv (bs:List (Nat×List Tx)):(z2e bs).map (·.1)=bs.map (·.1):=by simp [z2e,Function.comp_def]
theorem zfp {h w A C:Nat} {bs:List (Nat×List Tx)} (R:Rul h w bs) {fl:List Tx} (F:Fl2 bs A C fl):Fl2 (z2Z w bs) C A (turn C fl):=by
 obtain ⟨t0,h0⟩:=zfr R
 have e:=z3k (t0:=t0) F
 have hm:=z4r F h0
 rw [e,z4B]
 exact z9K C A fun i j=>by rw [z7V]; exact hm j i
theorem zh4 {h w A C:Nat} {bs:List (Nat×List Tx)} (R:Rul h w bs) {fl:List Tx} (F:Fl2 bs A C fl):Fl2 (z2e bs) A C (back fl):=by
 obtain ⟨t0,h0⟩:=zfr R
 have e:=z3k (t0:=t0) F
 have hm:=z4r F h0
 rw [e,z4Z]
 exact z9K A C fun i j=>by rw [zcv]; exact hm _ _
theorem zf3 {h w A C:Nat} {bs:List (Nat×List Tx)} (R:Rul h w bs) {fl:List Tx} (F:Fl2 bs A C fl) (A0:0 < A) (A1:A≤64) (C0:0 < C) (C1:C≤64):z0G [.pure (flD fl)]=some (.pure (.bl true),[.pure (flD fl)]):=by
 have k1:=F.rows
 have hl:∀ r ∈ fl,∀ n ∈ r,letN n=true:=fun r hr n hn=>by
  obtain ⟨b',hb',e⟩:=Wp.mp (F.tl r hr n hn)
  have:=R.let' b' hb'
  rw [← e]
  simp [letN]; omega
 have l0:len0 (fl.map .str)=C:=by
  cases e:fl with
  | nil=>rw [e] at k1; simp at k1; omega
  | cons r rs =>
   show r.length=C
   exact F.cols r (by rw [e]; simp)
 have a2:isFl (flD fl)=true:=by
  simp only [isFl,l0,Wo,Wa,decide_eq_true_eq,Ji]
  refine ⟨⟨by omega,by omega⟩,WF.mpr fun r hr=>?_⟩
  have hw:=F.cols r hr
  have g:lg 64 (.str r)=true:=by
   simp only [lg,Wa,decide_eq_true_eq]
   exact ⟨⟨by omega,by omega⟩,WF.mpr fun n hn=>hl r hr n hn⟩
  show (lg 64 (.str r) && r.length == C)=true
  rw [g,hw]
  simp
 have e:=z5p (flD fl) ⟨by simp; omega,fun d hd=>by
  obtain ⟨r,hr,rfl⟩:=Wp.mp hd
  have:=F.cols r hr
  show r.length≤1000
  omega⟩
 rw [a2] at e
 exact e
theorem z7J {A C:Nat} {bs:List (Nat×List Tx)} {fl:List Tx} (F:Fl2 bs A C fl) (A0:0 < A) (A1:A≤64) (C0:0 < C) (C1:C≤64):Rect C fl :=
 ⟨by rw [F.rows]; exact A0,by rw [F.rows]; exact A1,C0,C1,F.cols⟩
theorem ze7 {bs:List (Nat×List Tx)} {A C:Nat} {fl:List Tx} (F:Fl2 bs A C fl) (A0:0 < A):Fl2 bs 1 C (fl.take 1) :=
 ⟨by have:=F.rows; simp; omega,fun r hr=>F.cols r (Jm hr),fun r hr=>F.tl r (Jm hr)⟩
abbrev s11 (scr:D) (a1 a2 a3 a4 a5 a6 a7 a8:Option S):Dl:=[some (.pure scr),a1,a2,a3,a4,a5,a6,a7,a8,none,none]
theorem z8P {G:DF} {f:DE} {x y:D} {δ:Dl} (hf:f δ = .ok (.pure x) δ) (g:G [.pure x]=some (.pure y,[.pure x])):z01 G [.val f] δ = .ok (.pure y) δ:=by
 simp [z01,ios,ndup,evX,hf,mkA,g,putA]
theorem zcs {G:DF} {f f':DE} {x x' y:D} {δ:Dl} (hf:f δ = .ok (.pure x) δ) (hf':f' δ = .ok (.pure x') δ) (g:G [.pure x,.pure x']=some (.pure y,[.pure x,.pure x'])):z01 G [.val f,.val f'] δ = .ok (.pure y) δ:=by
 simp [z01,ios,ndup,evX,hf,hf',mkA,g,putA]
theorem zdA {G:DF} {f f' f'':DE} {x x' x'' y:D} {δ:Dl} (hf:f δ = .ok (.pure x) δ) (hf':f' δ = .ok (.pure x') δ) (hf'':f'' δ = .ok (.pure x'') δ) (g:G [.pure x,.pure x',.pure x'']=some (.pure y,[.pure x,.pure x',.pure x''])):z01 G [.val f,.val f',.val f''] δ = .ok (.pure y) δ:=by
 simp [z01,ios,ndup,evX,hf,hf',hf'',mkA,g,putA]
theorem op2 {p:D→D→Option S} {f g:DE} {x y:D} {s:S} {δ:Dl} (hf:f δ = .ok (.pure x) δ) (hg:g δ = .ok (.pure y) δ) (h:p x y=some s):eOp p f (bOf g) δ = .ok s δ:=by
 simp [hf,hg,h]
theorem no2 {f g:DE} {δ:Dl} (hf:f δ = .ok (.pure (.bl true)) δ) (hg:g δ = .ok (.pure (.bl true)) δ):dIf (dOr (dNot (dTr f)) (dNot (dTr g))) (dRet (eD (.bl false))) z0I δ = .ok .next δ:=by
 simp [dTr,hf,hg]
theorem v_at {i:Nat} {x:D} {δ:Dl} (h:δ[i]? = some (some (.pure x))):eVar i δ = .ok (.pure x) δ:=by
 simp [eVar,h]
theorem bv_at {i:Nat} {x:D} {δ:Dl} (h:δ[i]? = some (some (.pure x))):bVar i δ = .ok x δ:=by
 simp [bVar,h]
theorem if_nf {f g:DE} {X:DS} {δ:Dl} (hf:f δ = .ok (.pure (.bl true)) δ) (hg:g δ = .ok (.pure (.bl false)) δ):dIf (dOr (dNot (dTr f)) (dTr g)) X z0I δ = .ok .next δ:=by
 simp [dTr,hf,hg]
theorem if_f {g:DE} {X:DS} {δ:Dl} (hg:g δ = .ok (.pure (.bl false)) δ):dIf (dTr g) X z0I δ = .ok .next δ:=by
 simp [dTr,hg]
theorem if_ff {f g:DE} {X:DS} {δ:Dl} (hf:f δ = .ok (.pure (.bl false)) δ) (hg:g δ = .ok (.pure (.bl false)) δ):dIf (dOr (dTr f) (dTr g)) X z0I δ = .ok .next δ:=by
 simp [dTr,hf,hg]
theorem zh1 {G:DF} {f f' f'':DE} {x x' x'' y:D} {δ:Dl} (hf:f δ = .ok (.pure x) δ) (hf':f' δ = .ok (.pure x') δ) (hf'':f'' δ = .ok (.own x'') δ) (g:G [.pure x,.pure x',.pure x'']=some (.pure y,[.pure x,.pure x',.pure x''])):z01 G [.val f,.val f',.val f''] δ = .ok (.pure y) δ:=by
 simp [z01,ios,ndup,evX,hf,hf',hf'',mkA,g,putA]
theorem op2v {p:D→D→Option S} {f:DE} {i:Nat} {x y:D} {s:S} {δ:Dl} (hf:f δ = .ok (.pure x) δ) (hg:δ[i]? = some (some (.pure y))) (h:p x y=some s):eOp p f (bVar i) δ = .ok s δ:=by
 have:=bv_at hg
 simp [hf,this,h]
theorem turn7 (scr:D) (c:Int) (o2 o3 o4 o5 o6 o7 o8:Option S):∃ q2 q3 q4 q5 q6 q7 q8,(dSeq (dAsg (z01 z0W [.val (eVar 1)]) (gNm [] 2)) (dSeq (dAsg (z01 z0J [.io 2,.val (eD (.int 4))]) (gNm [] 3)) (dSeq (dAsg (z1G [9] (iSq (eOpF pIx 3 (bOf (eD (.int 2))))) (gNm [] 9) dYes (eOpF pIx 9 (bOf (eD (.int 0))))) (gNm [] 4)) (dSeq (dAsg (z01 z0D [.io 2,.val (eVar 4),.val (eD (.int 4))]) (gNm [] 5)) (dSeq (dAsg (z01 z04 [.val (eVar 3),.val (eVar 5)]) (gNm [] 6)) (dSeq (dIf (dOr (dNot (dTr (z01 z0G [.val (eVar 6)]))) (dTr (eOp pNe (z01 z04 [.val (z01 z0E [.val (eVar 3)]),.val (z01 z0o [.val (eVar 5)])]) (bOf (z01 z0o [.val (eVar 6)]))))) (dRet (eD (.bl false))) z0I) (dSeq (dIf (dTr (eOp pNe (z01 z04 [.val (z01 z0K [.val (eVar 3)]),.val (z01 z0j [.val (eVar 5)])]) (bOf (z01 z0j [.val (eVar 6)])))) (dRet (eD (.bl false))) z0I) (dSeq (dIf (dOr (dTr (eOp pNe (z01 z04 [.val (eVar 3),.val (eSlN 5 z6H (z3G (eD (.int 1))))]) (bOf (eSlN 6 z6H (z3G (eOpF pIx 3 (bOf (eD (.int 0))))))))) (dTr (eOp pNe (z01 z1r [.val (eOpF pIx 3 (bOf (eD (.int 0)))),.val (eOpF pIx 3 (bOf (eD (.int 1)))),.val (eC1 z42 (bOf (eC1 z48 (bOf (eOpF pIx 3 (bOf (eD (.int 2))))))))]) (bVar 3)))) (dRet (eD (.bl false))) z0I) (dSeq (dAsg (eC1 z12 (bOf (z1G [10] (iSq (eVar 4)) (gNm [] 10) dYes (eTup (z0u (eVar 10) (z0u (eTup (z0u (eOpF pAdd 10 (bOf (eOpF pIx 4 (bOf (z01 z0a [.io 2,.val (eC1 pLen (bVar 4))]))))) aNil)) aNil)))))) (gNm [] 7)) (dSeq (dAsg (eTup (z0u (eD (.int 1)) (z0u (eD (.int 2)) (z0u (eVar 7) aNil)))) (gNm [] 8)) (dSeq (dIf (dOr (dNot (dTr (z01 z08 [.val (eVar 3),.val (eVar 8),.val (eVar 5)]))) (dNot (dTr (z01 z08 [.val (eVar 8),.val (eVar 3),.val (eVar 5)])))) (dRet (eD (.bl false))) z0I) (dSeq (dIf (dOr (dNot (dTr (z01 z08 [.val (eVar 3),.val (z01 z0E [.val (eVar 8)]),.val (eVar 5)]))) (dNot (dTr (z01 z08 [.val (eVar 8),.val (eVar 8),.val (eVar 5)])))) (dRet (eD (.bl false))) z0I) (dIf (dOr (dNot (dTr (z01 z0k [.val (eVar 3),.val (eVar 5)]))) (dNot (dTr (z01 z0k [.val (eVar 8),.val (eVar 5)])))) (dRet (eD (.bl false))) z0I))))))))))))) (s11 scr (some (.pure (.int c))) o2 o3 o4 o5 o6 o7 o8) = .ok .next (s11 scr (some (.pure (.int c))) q2 q3 q4 q5 q6 q7 q8):=by
 obtain ⟨d0,e0,p0⟩:=r_pen c
 obtain ⟨h,w,bs,d1,e1,R,n4,p1⟩:=zb8 p0 4 (by decide) (by decide)
 have e1:z0J [.own d0,.pure (.int 4)]=some (.pure (ruD h w bs),[.own d1,.pure (.int 4)]):=e1
 have hn0:0 < (bs.map (·.1)).length:=by simpa using R.n0
 have hn1:(bs.map (·.1)).length≤64:=by have:=R.n1; simp; omega
 obtain ⟨fl,C,d2,e2,hr,A4,C4,hT,p2⟩:=za9 p1 (bs.map (·.1)) hn0 hn1 4 (by decide) (by decide)
 have e2:z0D [.own d1,.pure (tD (bs.map (·.1))),.pure (.int 4)]=some (.pure (flD fl),[.own d2,.pure (tD (bs.map (·.1))),.pure (.int 4)]):=e2
 obtain ⟨A,hA⟩:∃ A,A=fl.length:=⟨_,rfl⟩
 have F:Fl2 bs A C fl:=⟨hA.symm,hr.all,hT⟩
 have A0:0 < A:=by rw [hA]; exact hr.h0
 have A4:A≤4:=by omega
 have C0:=hr.w0
 have h0:=R.h0
 have h1:=R.h1
 have w0:=R.w0
 have w1:=R.w1
 have b1:A * h≤16:=WT A4 h1
 have b2:C * w≤16:=WT C4 w1
 have pA:0 < A * h:=Jc A0 h0
 have pC:0 < C * w:=Jc C0 w0
 have L:=z6Z R F
 have g:=z2O R F A0 (by omega) (by omega)
 have fg:=zf3 R L pA (by omega) pC (by omega)
 -- turned
 have RT:=z78 R
 have FT:=zfp R F
 have t1:=z4I R
 have t2:=z7l (z7J F A0 (by omega) C0 (by omega))
 have t3:=z7l (z7J L pA (by omega) pC (by omega))
 have t4:=z2O RT FT C0 (by omega) (by omega)
 rw [zd9 R F] at t4
 have t5:=zbt (turn (C * w) (lay h bs fl))
 -- mirrored
 have RB:=K07.backR_ok R
 have FB:=zh4 R F
 have u1:=z5Z R
 have u2:=z5a (z7J F A0 (by omega) C0 (by omega))
 have u3:=z5a (z7J L pA (by omega) pC (by omega))
 have u4:=z2O RB FB A0 (by omega) (by omega)
 rw [zdc R F] at u4
 have u5:=zbt (back (lay h bs fl))
 -- the first row
 have s1:pSl none (some 1) (flD fl)=some (.pure (flD (fl.take 1))):=by
  rw [sl_tup,cut1 _ (by rw [Wo]; omega),← List.map_take]
 have s2:pSl none (some (h:Int)) (flD (lay h bs fl))=some (.pure (flD ((lay h bs fl).take h))):=by
  rw [sl_tup,zh0 _ _ (by rw [Wo,L.rows]; exact Nat.le_mul_of_pos_left h A0),← List.map_take]
 have s3:=z2O R (ze7 F A0) (by decide) (by omega) (by omega)
 rw [zda R F A0] at s3
 have s4:=zbt ((lay h bs fl).take h)
 -- the rule anew
 have v1:=za8 R
 have v2:=ne_ru h w bs
 have v3:z48 (.tup (bs.map blD))=some (.own (.lst (bs.map blD))):=rfl
 have v4:z42 (.lst (bs.map blD))=some (.own (.lst (bs.map blD).reverse)):=rfl
 obtain ⟨x0,x1,x2⟩:=z91 h w bs
 -- the line
 obtain ⟨ms,d3,e3,hm1,hm2,p3⟩:=zc1 scr (.int c) (ruD h w bs) p2 (bs.map (·.1)) hn0 hn1 (some (.pure (flD fl))) (some (.pure (flD (lay h bs fl)))) o7 o8 none
 have RL:=zeP R ms hm1 hm2
 have eL:=z8V (bs.map (·.1)) ms hm1
 have nL:(((bs.map (·.1)).zip ms).map fun p=>(p.1,[[p.1,p.2]])).length≤4:=by simp at hm1 ⊢; omega
 generalize hlb:(((bs.map (·.1)).zip ms).map fun p=>((p.1,[[p.1,p.2]]):Nat×List Tx))=lb at *
 have FL:Fl2 lb A C fl:=F.to eL
 have j1:=z5H R RL eL n4 F A0 A4 C4
 have j2:=z5H RL R eL.symm nL FL A0 A4 C4
 have RLT:=z78 RL
 have k1:=z4I RL
 have j3:=z5H R RLT ((z7V 2 lb).trans eL) n4 F A0 A4 C4
 have j4:=z5H RL RL rfl nL FL A0 A4 C4
 have w2:=z9A R F A0 A4 C4
 have w3:=z9A RL FL A0 A4 C4
 have c2:=z21 (cs:=[9]) (g:=gNm [] 9) (t:=dYes) (el:=(eOpF pIx 9 (bOf (eD (.int 0))))) blD (fun b:Nat×List Tx=>D.str [b.1]) [some (.pure scr),some (.pure (.int c)),some (.own d1),some (.pure (ruD h w bs)),o4,o5,o6,o7,o8,none,none] bs [] (by have:=R.n1; rw [z13]; simp; omega) (fun b hb=>⟨_,_,.pure (.str [b.1]),[some (.pure scr),some (.pure (.int c)),some (.own d1),some (.pure (ruD h w bs)),o4,o5,o6,o7,o8,some (.pure (blD b)),none],rfl,rfl,by
  generalize ruD h w bs=ru at *
  simp [eOpF,eOpN,bVar,pIx,z2k],rfl,rfl⟩)
 have eT:(bs.map fun b:Nat×List Tx=>D.str [b.1])=(bs.map (·.1)).map fun n=>D.str [n]:=by simp
 rw [Qf,eT] at c2
 have hru:ruD 1 2 lb = .tup [.int 1,.int 2,.tup (lb.map blD)]:=rfl
 refine ⟨some (.own d3),some (.pure (ruD h w bs)),some (.pure (tD (bs.map (·.1)))),some (.pure (flD fl)),some (.pure (flD (lay h bs fl))),some (.pure (.tup (lb.map blD))),some (.pure (ruD 1 2 lb)),?_⟩
 generalize hTT:tD (bs.map (·.1))=T at *
 have htl:T = .lst ((bs.map (·.1)).map fun n=>D.str [n]):=hTT.symm
 generalize ((bs.map (·.1)).map fun n=>D.str [n])=TS at htl c2 e3
 generalize hBL:bs.map blD=B at *
 generalize hLB:lb.map blD=LB at *
 generalize hREV:D.lst B.reverse=REV at *
 generalize ruD w h (z2Z w bs)=RU2 at *
 generalize ruD h w (z2e bs)=RU3 at *
 generalize ruD 2 1 (z2Z 2 lb)=LN2 at *
 generalize hLN:ruD 1 2 lb=LN at *
 generalize hRU:ruD h w bs=RU at *
 generalize flD (turn (C * w) (lay h bs fl))=f1 at *
 generalize flD (back (lay h bs fl))=f2 at *
 generalize flD ((lay h bs fl).take h)=f3 at *
 generalize flD (lay h bs fl)=GN at *
 generalize flD (turn C fl)=f4 at *
 generalize flD (back fl)=f5 at *
 generalize flD (fl.take 1)=f6 at *
 generalize flD fl=FF at *
 refine z1f (δ1:=s11 scr (some (.pure (.int c))) (some (.own d0)) o3 o4 o5 o6 o7 o8) (by simp [dAsg,z01,ios,ndup,z14,evX,eVar,mkA,putA,e0]) ?_
 refine z1f (δ1:=s11 scr (some (.pure (.int c))) (some (.own d1)) (some (.pure RU)) o4 o5 o6 o7 o8) (by simp [dAsg,z01,ios,ndup,z14,evX,eVar,mkA,putA,e1]) ?_
 refine z1f (δ1:=s11 scr (some (.pure (.int c))) (some (.own d1)) (some (.pure RU)) (some (.own T)) o5 o6 o7 o8) (by
  simp [dAsg,z2T,eOpF,eOpN,bVar,x2,z14,clrD]
  rw [c2,htl]
  rfl) ?_
 refine z1f (δ1:=s11 scr (some (.pure (.int c))) (some (.own d2)) (some (.pure RU)) (some (.pure T)) (some (.pure FF)) o6 o7 o8) (by simp [dAsg,z01,ios,ndup,z14,evX,eVar,mkA,putA,e2]) ?_
 refine z1f (δ1:=s11 scr (some (.pure (.int c))) (some (.own d2)) (some (.pure RU)) (some (.pure T)) (some (.pure FF)) (some (.pure GN)) o7 o8) (by simp [dAsg,z01,ios,ndup,z14,evX,eVar,mkA,putA,g]) ?_
 refine z1f (δ1:=s11 scr (some (.pure (.int c))) (some (.own d2)) (some (.pure RU)) (some (.pure T)) (some (.pure FF)) (some (.pure GN)) o7 o8) (by
  have q1:=z8P (G:=z0G) (f:=eVar 6) (δ:=s11 scr (some (.pure (.int c))) (some (.own d2)) (some (.pure RU)) (some (.pure T)) (some (.pure FF)) (some (.pure GN)) o7 o8) (v_at rfl) fg
  have q2:=op2 (δ:=s11 scr (some (.pure (.int c))) (some (.own d2)) (some (.pure RU)) (some (.pure T)) (some (.pure FF)) (some (.pure GN)) o7 o8) (zcs (z8P (f:=eVar 3) (v_at rfl) t1) (z8P (f:=eVar 5) (v_at rfl) t2) t4) (z8P (f:=eVar 6) (v_at rfl) t3) t5
  exact if_nf q1 q2) ?_
 refine z1f (δ1:=s11 scr (some (.pure (.int c))) (some (.own d2)) (some (.pure RU)) (some (.pure T)) (some (.pure FF)) (some (.pure GN)) o7 o8) (by
  have q2:=op2 (δ:=s11 scr (some (.pure (.int c))) (some (.own d2)) (some (.pure RU)) (some (.pure T)) (some (.pure FF)) (some (.pure GN)) o7 o8) (zcs (z8P (f:=eVar 3) (v_at rfl) u1) (z8P (f:=eVar 5) (v_at rfl) u2) u4) (z8P (f:=eVar 6) (v_at rfl) u3) u5
  exact if_f q2) ?_
 refine z1f (δ1:=s11 scr (some (.pure (.int c))) (some (.own d2)) (some (.pure RU)) (some (.pure T)) (some (.pure FF)) (some (.pure GN)) o7 o8) (by
  have q1:eSlN 5 z6H (z3G (eD (.int 1))) (s11 scr (some (.pure (.int c))) (some (.own d2)) (some (.pure RU)) (some (.pure T)) (some (.pure FF)) (some (.pure GN)) o7 o8) = .ok (.pure f6) (s11 scr (some (.pure (.int c))) (some (.own d2)) (some (.pure RU)) (some (.pure T)) (some (.pure FF)) (some (.pure GN)) o7 o8):=by simp [eSlN,z3G,bVar,s1]
  have q2:eSlN 6 z6H (z3G (eOpF pIx 3 (bOf (eD (.int 0))))) (s11 scr (some (.pure (.int c))) (some (.own d2)) (some (.pure RU)) (some (.pure T)) (some (.pure FF)) (some (.pure GN)) o7 o8) = .ok (.pure f3) (s11 scr (some (.pure (.int c))) (some (.own d2)) (some (.pure RU)) (some (.pure T)) (some (.pure FF)) (some (.pure GN)) o7 o8):=by simp [eSlN,z3G,bVar,eOpF,eOpN,x0,s2]
  have q3:=op2 (zcs (f:=eVar 3) (v_at rfl) q1 s3) q2 s4
  have q4:eOpF pIx 3 (bOf (eD (.int 0))) (s11 scr (some (.pure (.int c))) (some (.own d2)) (some (.pure RU)) (some (.pure T)) (some (.pure FF)) (some (.pure GN)) o7 o8) = .ok (.pure (.int h)) (s11 scr (some (.pure (.int c))) (some (.own d2)) (some (.pure RU)) (some (.pure T)) (some (.pure FF)) (some (.pure GN)) o7 o8):=by simp [eOpF,eOpN,bVar,x0]
  have q5:eOpF pIx 3 (bOf (eD (.int 1))) (s11 scr (some (.pure (.int c))) (some (.own d2)) (some (.pure RU)) (some (.pure T)) (some (.pure FF)) (some (.pure GN)) o7 o8) = .ok (.pure (.int w)) (s11 scr (some (.pure (.int c))) (some (.own d2)) (some (.pure RU)) (some (.pure T)) (some (.pure FF)) (some (.pure GN)) o7 o8):=by simp [eOpF,eOpN,bVar,x1]
  have q6:eC1 z42 (bOf (eC1 z48 (bOf (eOpF pIx 3 (bOf (eD (.int 2))))))) (s11 scr (some (.pure (.int c))) (some (.own d2)) (some (.pure RU)) (some (.pure T)) (some (.pure FF)) (some (.pure GN)) o7 o8) = .ok (.own REV) (s11 scr (some (.pure (.int c))) (some (.own d2)) (some (.pure RU)) (some (.pure T)) (some (.pure FF)) (some (.pure GN)) o7 o8):=by simp [eOpF,eOpN,bVar,x2,v3,v4]
  have q7:z01 z1r [.val (eOpF pIx 3 (bOf (eD (.int 0)))),.val (eOpF pIx 3 (bOf (eD (.int 1)))),.val (eC1 z42 (bOf (eC1 z48 (bOf (eOpF pIx 3 (bOf (eD (.int 2))))))))] (s11 scr (some (.pure (.int c))) (some (.own d2)) (some (.pure RU)) (some (.pure T)) (some (.pure FF)) (some (.pure GN)) o7 o8) = .ok (.pure RU) (s11 scr (some (.pure (.int c))) (some (.own d2)) (some (.pure RU)) (some (.pure T)) (some (.pure FF)) (some (.pure GN)) o7 o8):=by
   exact zh1 q4 q5 q6 v1
  have q8:eOp pNe (z01 z1r [.val (eOpF pIx 3 (bOf (eD (.int 0)))),.val (eOpF pIx 3 (bOf (eD (.int 1)))),.val (eC1 z42 (bOf (eC1 z48 (bOf (eOpF pIx 3 (bOf (eD (.int 2))))))))]) (bVar 3) (s11 scr (some (.pure (.int c))) (some (.own d2)) (some (.pure RU)) (some (.pure T)) (some (.pure FF)) (some (.pure GN)) o7 o8) = .ok (.pure (.bl false)) (s11 scr (some (.pure (.int c))) (some (.own d2)) (some (.pure RU)) (some (.pure T)) (some (.pure FF)) (some (.pure GN)) o7 o8):=by
   exact op2v q7 rfl v2
  exact if_ff q3 q8) ?_
 refine z1f (δ1:=s11 scr (some (.pure (.int c))) (some (.own d3)) (some (.pure RU)) (some (.pure T)) (some (.pure FF)) (some (.pure GN)) (some (.pure (.tup LB))) o8) (by
  have et:z12 (.lst LB)=some (.pure (.tup LB)):=rfl
  rw [htl] at e3 ⊢
  simp [dAsg,z2T,eVar,z14,clrD]
  rw [e3]
  simp [z1H,et]) ?_
 refine z1f (δ1:=s11 scr (some (.pure (.int c))) (some (.own d3)) (some (.pure RU)) (some (.pure T)) (some (.pure FF)) (some (.pure GN)) (some (.pure (.tup LB))) (some (.pure LN))) (by
  rw [hru]
  simp [dAsg,eTup,z0u,aNil,eVar]) ?_
 refine z1f (δ1:=s11 scr (some (.pure (.int c))) (some (.own d3)) (some (.pure RU)) (some (.pure T)) (some (.pure FF)) (some (.pure GN)) (some (.pure (.tup LB))) (some (.pure LN))) (no2 (zdA (v_at rfl) (v_at rfl) (v_at rfl) j1) (zdA (v_at rfl) (v_at rfl) (v_at rfl) j2)) ?_
 refine z1f (δ1:=s11 scr (some (.pure (.int c))) (some (.own d3)) (some (.pure RU)) (some (.pure T)) (some (.pure FF)) (some (.pure GN)) (some (.pure (.tup LB))) (some (.pure LN))) (no2 (zdA (v_at rfl) (z8P (v_at rfl) k1) (v_at rfl) j3) (zdA (v_at rfl) (v_at rfl) (v_at rfl) j4)) ?_
 exact no2 (zcs (v_at rfl) (v_at rfl) w2) (zcs (v_at rfl) (v_at rfl) w3)
theorem r_law (ns:List Int) (hn:ns.length≤63):∃ outs,G_law [.pure (.lst (ns.map .int))]=some (.pure (.bl true),outs):=by
 obtain ⟨c0,e0⟩:=z93 ns
 have ha:pAdd (.lst [.int c0]) (.lst (cutL (ns.map .int) (some 1) (some 4)))=some (.own (.lst ((c0 :: cutL ns (some 1) (some 4)).map .int))):=by
  rw [zdt]
  have hl:(cutL ns (some 1) (some 4)).length≤63:=by
   unfold cutL
   simp
   omega
  simp only [pAdd]
  rw [if_pos (by rw [z13]; simp; omega)]
  simp
 have hs:pSl (some 1) (some 4) (.lst (ns.map .int))=some (.own (.lst (cutL (ns.map .int) (some 1) (some 4)))):=rfl
 generalize D.lst (ns.map .int)=scr at *
 obtain ⟨δ',e,o1,o2,o3,o4,o5,o6,o7,o8,rfl⟩:=z2H (g:=gNm [] 1) (b:=(dSeq (dAsg (z01 z0W [.val (eVar 1)]) (gNm [] 2)) (dSeq (dAsg (z01 z0J [.io 2,.val (eD (.int 4))]) (gNm [] 3)) (dSeq (dAsg (z1G [9] (iSq (eOpF pIx 3 (bOf (eD (.int 2))))) (gNm [] 9) dYes (eOpF pIx 9 (bOf (eD (.int 0))))) (gNm [] 4)) (dSeq (dAsg (z01 z0D [.io 2,.val (eVar 4),.val (eD (.int 4))]) (gNm [] 5)) (dSeq (dAsg (z01 z04 [.val (eVar 3),.val (eVar 5)]) (gNm [] 6)) (dSeq (dIf (dOr (dNot (dTr (z01 z0G [.val (eVar 6)]))) (dTr (eOp pNe (z01 z04 [.val (z01 z0E [.val (eVar 3)]),.val (z01 z0o [.val (eVar 5)])]) (bOf (z01 z0o [.val (eVar 6)]))))) (dRet (eD (.bl false))) z0I) (dSeq (dIf (dTr (eOp pNe (z01 z04 [.val (z01 z0K [.val (eVar 3)]),.val (z01 z0j [.val (eVar 5)])]) (bOf (z01 z0j [.val (eVar 6)])))) (dRet (eD (.bl false))) z0I) (dSeq (dIf (dOr (dTr (eOp pNe (z01 z04 [.val (eVar 3),.val (eSlN 5 z6H (z3G (eD (.int 1))))]) (bOf (eSlN 6 z6H (z3G (eOpF pIx 3 (bOf (eD (.int 0))))))))) (dTr (eOp pNe (z01 z1r [.val (eOpF pIx 3 (bOf (eD (.int 0)))),.val (eOpF pIx 3 (bOf (eD (.int 1)))),.val (eC1 z42 (bOf (eC1 z48 (bOf (eOpF pIx 3 (bOf (eD (.int 2))))))))]) (bVar 3)))) (dRet (eD (.bl false))) z0I) (dSeq (dAsg (eC1 z12 (bOf (z1G [10] (iSq (eVar 4)) (gNm [] 10) dYes (eTup (z0u (eVar 10) (z0u (eTup (z0u (eOpF pAdd 10 (bOf (eOpF pIx 4 (bOf (z01 z0a [.io 2,.val (eC1 pLen (bVar 4))]))))) aNil)) aNil)))))) (gNm [] 7)) (dSeq (dAsg (eTup (z0u (eD (.int 1)) (z0u (eD (.int 2)) (z0u (eVar 7) aNil)))) (gNm [] 8)) (dSeq (dIf (dOr (dNot (dTr (z01 z08 [.val (eVar 3),.val (eVar 8),.val (eVar 5)]))) (dNot (dTr (z01 z08 [.val (eVar 8),.val (eVar 3),.val (eVar 5)])))) (dRet (eD (.bl false))) z0I) (dSeq (dIf (dOr (dNot (dTr (z01 z08 [.val (eVar 3),.val (z01 z0E [.val (eVar 8)]),.val (eVar 5)]))) (dNot (dTr (z01 z08 [.val (eVar 8),.val (eVar 8),.val (eVar 5)])))) (dRet (eD (.bl false))) z0I) (dIf (dOr (dNot (dTr (z01 z0k [.val (eVar 3),.val (eVar 5)]))) (dNot (dTr (z01 z0k [.val (eVar 8),.val (eVar 5)])))) (dRet (eD (.bl false))) z0I))))))))))))))
  (fun _ δ=>∃ o1 o2 o3 o4 o5 o6 o7 o8,δ=s11 scr o1 o2 o3 o4 o5 o6 o7 o8) ((c0 :: cutL ns (some 1) (some 4)).map .int) 0 (s11 scr none none none none none none none none) ⟨_,_,_,_,_,_,_,_,rfl⟩ (fun i d δ hd ⟨o1,o2,o3,o4,o5,o6,o7,o8,e⟩=>by
   subst e
   simp only [Q0,Option.map_eq_some_iff] at hd
   obtain ⟨k,_,rfl⟩:=hd
   obtain ⟨q2,q3,q4,q5,q6,q7,q8,e⟩:=turn7 scr k o2 o3 o4 o5 o6 o7 o8
   exact ⟨_,_,rfl,e,_,_,_,_,_,_,_,_,rfl⟩)
 generalize ((c0 :: cutL ns (some 1) (some 4)).map D.int)=cs at *
 generalize D.lst (cutL (ns.map .int) (some 1) (some 4))=cl at *
 refine ⟨[.pure scr],?_⟩
 rw [G_law]
 refine zbU (δ1:=s11 scr o1 o2 o3 o4 o5 o6 o7 o8) ?_
 rw [zfe]
 have qi:iSq (eOp pAdd (eLst (z0u (z01 z0Z [.val (eVar 0),.val (eD (.int 0))]) aNil)) (bOf (eSlN 0 (z3G (eD (.int 1))) (z3G (eD (.int 4)))))) (s11 scr none none none none none none none none) = .ok cs (s11 scr none none none none none none none none):=by
  simp [z2T,z01,ios,ndup,evX,eVar,mkA,e0,putA,eSlN,z3G,bVar,hs,ha]
 refine z1f ((z6k qi).trans e) ?_
 rfl
end K07
open PySem PySem.W PyProof.Rows
def PySem.W.Fast.tw15406871460068227006:Nat:=0
def PySem.W.Fast.tw18410509169511047804:Nat:=0
def PySem.W.Fast.tw3290253948501506979:Nat:=0
def PySem.W.Fast.tw17174061889035362561:Nat:=0
def PySem.W.Fast.tw3158634596970352170:Nat:=0
def PySem.W.Fast.tw6928949483953660253:Nat:=0
def PySem.W.Fast.tw17965467305913324397:Nat:=0
def PySem.W.Fast.tw13564420057472818717:Nat:=0
def PySem.W.Fast.tw840991365747125606:Nat:=0
def PySem.W.Fast.tw14820270618667282137:Nat:=0
set_option maxRecDepth 100000 in
set_option maxHeartbeats 0 in
theorem PySem.Challenge.cw_tilegrow_k07_whole_growing_goes_together_holds : PySem.Challenge.rw_tilegrow_k07_whole_growing_goes_together.Holds := by
 w_on; o_law; k_head; (case hw=>w_witness2)
 k_fill
 refine DV.walkD (l:=PySem.Challenge.rw_tilegrow_k07_whole_growing_goes_together) (k:=6) (G:=K07.G_law) rfl rfl ⟨rfl,by decide,by decide⟩ (fun w h Y=>PySem.W.kIn_of Y) ?L K07.r_law ?F
 case L=>intro p; exact Eq.refl true
 case F =>
  intro w mg fa h KX G hmg
  refine' K07.all_mk KX G hmg ?d0 ?d1 ?d2 ?d3 ?d4 ?d5 ?d6 ?d7 ?d8 ?d9 ?d10 ?d11 ?d12 ?d13 ?d14 ?d15 ?d16 ?d17 ?d18 ?d19 ?d20 ?d21 ?d22 ?d23 ?d24 ?d25 ?d26 ?d27 ?d28 ?d29 ?d30 ?d31 ?d32 ?a33 ?l33 ?c33 ?k33 ?z_all ?z_bool ?z_dict ?z_enumerate ?z_int ?z_isinstance ?z_len ?z_list ?z_max ?z_range ?z_set ?z_sorted ?z_str ?z_tuple ?g_MOST_SIZE ?g_MOST_TILES
  (case d0=>exact ⟨_,_,_,_,_,_,_,_,_,_,by k_is,by k_is,by k_is,by k_is⟩); (case d1=>exact ⟨_,_,_,_,_,_,_,_,_,_,by k_is,by k_is,by k_is,by k_is⟩); (case d2=>exact ⟨_,_,_,_,_,_,_,_,_,_,by k_is,by k_is,by k_is,by k_is⟩); (case d3=>exact ⟨_,_,_,_,_,_,_,_,_,_,by k_is,by k_is,by k_is,by k_is⟩); (case d4=>exact ⟨_,_,_,_,_,_,_,_,_,_,by k_is,by k_is,by k_is,by k_is⟩); (case d5=>exact ⟨_,_,_,_,_,_,_,_,_,_,by k_is,by k_is,by k_is,by k_is⟩); (case d6=>exact ⟨_,_,_,_,_,_,_,_,_,_,by k_is,by k_is,by k_is,by k_is⟩); (case d7=>exact ⟨_,_,_,_,_,_,_,_,_,_,by k_is,by k_is,by k_is,by k_is⟩)
  (case d8=>exact ⟨_,_,_,_,_,_,_,_,_,_,by k_is,by k_is,by k_is,by k_is⟩); (case d9=>exact ⟨_,_,_,_,_,_,_,_,_,_,by k_is,by k_is,by k_is,by k_is⟩); (case d10=>exact ⟨_,_,_,_,_,_,_,_,_,_,by k_is,by k_is,by k_is,by k_is⟩); (case d11=>exact ⟨_,_,_,_,_,_,_,_,_,_,by k_is,by k_is,by k_is,by k_is⟩); (case d12=>exact ⟨_,_,_,_,_,_,_,_,_,_,by k_is,by k_is,by k_is,by k_is⟩); (case d13=>exact ⟨_,_,_,_,_,_,_,_,_,_,by k_is,by k_is,by k_is,by k_is⟩); (case d14=>exact ⟨_,_,_,_,_,_,_,_,_,_,by k_is,by k_is,by k_is,by k_is⟩); (case d15=>exact ⟨_,_,_,_,_,_,_,_,_,_,by k_is,by k_is,by k_is,by k_is⟩)
  (case d16=>exact ⟨_,_,_,_,_,_,_,_,_,_,by k_is,by k_is,by k_is,by k_is⟩); (case d17=>exact ⟨_,_,_,_,_,_,_,_,_,_,by k_is,by k_is,by k_is,by k_is⟩); (case d18=>exact ⟨_,_,_,_,_,_,_,_,_,_,by k_is,by k_is,by k_is,by k_is⟩); (case d19=>exact ⟨_,_,_,_,_,_,_,_,_,_,by k_is,by k_is,by k_is,by k_is⟩); (case d20=>exact ⟨_,_,_,_,_,_,_,_,_,_,by k_is,by k_is,by k_is,by k_is⟩); (case d21=>exact ⟨_,_,_,_,_,_,_,_,_,_,by k_is,by k_is,by k_is,by k_is⟩); (case d22=>exact ⟨_,_,_,_,_,_,_,_,_,_,by k_is,by k_is,by k_is,by k_is⟩); (case d23=>exact ⟨_,_,_,_,_,_,_,_,_,_,by k_is,by k_is,by k_is,by k_is⟩)
  (case d24=>exact ⟨_,_,_,_,_,_,_,_,_,_,by k_is,by k_is,by k_is,by k_is⟩); (case d25=>exact ⟨_,_,_,_,_,_,_,_,_,_,by k_is,by k_is,by k_is,by k_is⟩); (case d26=>exact ⟨_,_,_,_,_,_,_,_,_,_,by k_is,by k_is,by k_is,by k_is⟩); (case d27=>exact ⟨_,_,_,_,_,_,_,_,_,_,by k_is,by k_is,by k_is,by k_is⟩); (case d28=>exact ⟨_,_,_,_,_,_,_,_,_,_,by k_is,by k_is,by k_is,by k_is⟩); (case d29=>exact ⟨_,_,_,_,_,_,_,_,_,_,by k_is,by k_is,by k_is,by k_is⟩); (case d30=>exact ⟨_,_,_,_,_,_,_,_,_,_,by k_is,by k_is,by k_is,by k_is⟩); (case d31=>exact ⟨_,_,_,_,_,_,_,_,_,_,by k_is,by k_is,by k_is,by k_is⟩)
  (case d32=>exact ⟨_,_,_,_,_,_,_,_,_,_,by k_is,by k_is,by k_is,by k_is⟩); (case a33=>k_is); (case l33=>k_is); (case c33=>k_is); (case k33=>k_is); (case z_all=>k_is); (case z_bool=>k_is); (case z_dict=>k_is)
  (case z_enumerate=>k_is); (case z_int=>k_is); (case z_isinstance=>k_is); (case z_len=>k_is); (case z_list=>k_is); (case z_max=>k_is); (case z_range=>k_is); (case z_set=>k_is)
  (case z_sorted=>k_is); (case z_str=>k_is); (case z_tuple=>k_is); (case g_MOST_SIZE=>k_is); (case g_MOST_TILES=>k_is)
