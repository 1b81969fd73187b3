import PyProof.Rows.All
import Wide.All
import OpenK.AllK
import Wide.FinOn
import Lean
import PyProof.EqAt
import PyProof.EqKinds
import PyProof.TupleCall
import PyProof.NeKinds
import PyProof.StrWalks
import PyProof.ListStr
import PyProof.StrOps2
import PyProof.StrLawsIn
import KE.KDictOf
import PyProof.AttrMissHeap
import PyProof.Draws
import PyProof.EnumMake
import PyProof.Rows.EnumRows
import PyProof.LongRange
import PyProof.NoPylong
import PyProof.SeqI3
import PyProof.Rows.SeqCalls
import PyProof.StrLawsChain
import PyProof.StrCalls2
import KE.KIntText
import PyProof.Rows.CallKwBuiltin
import OpenK.KOwn
import OpenK.KRaise
import PyProof.ExcBaseAll.ValueError
import PyProof.Rows.CatchOwn
import KE.KIsAll
import PyProof.ExcArgsOwn
import PyProof.ExcAttrAll.ValueError
import PyProof.Rows.SeqMore2
import PyProof.ListMulAny
import PyProof.ListMulRoad
import PyProof.ZipIter
import PyProof.Rows.FactsT2
import PyProof.ExcInit
import PyProof.InstStoreFacts
import PyProof.StrCalls
import PyProof.FactsAll.dict_1
import PyProof.FactsAll.subtypes_3
import PyProof.FactsAll.subtypes_4
import PyProof.Dict
import PyProof.MinMaxWalk
import PyProof.WalkInts
import PyProof.WalksMore
import PyProof.FactsAll.tuple_2
import KE.KSortTup
import PyProof.Rows.SortWalk
import PySem.Challenge.RW_tilegrow_k03_rules_made
open PySem.W renaming Frag→W0,mg_none_of→WD,kia_one→WV,keepIn→Q6,fnOf→Qg,kitOne→Qj,kas_place→QH,cellsFrom_some→QW,findIn→QZ,findIn→Jc,looks_findIn→Jo,kas_desc→Jr,hasDictIn→Jw
open PySem renaming wpAny_bind→W1,Shared→W2,starEach→W5,sizeLine→W6,wpAny→W8,wpAny_pure→Wc,Spec→Wh,mainGlobals→Wj,Program→Wk,Around→Wn,World→Wp,compareOp→Wq,mem_of_lookup→Wt,FuncData→WF,wpAny_truthy_bool→WG,backTo→WJ,sizeLine_eq→WO,behindInMarks→WQ,wpAny_holding→WR,wpAny_mono→WU,bootBuiltins→Q1,wpAny_loadPart'→Q3,wpAny_field→Q7,wpAny_loadPart_at→Q8,binaryOp→Q9,attributeBase→Qa,wpAny_newObj_type→Qc,cellsFrom→Qd,cLine→Ql,assignEach→Qn,rawInt→Qq,codeAny→Qr,wpAny_Call_Name_kw→Qu,wpAny_passesOwn→Qy,foldedSetIterable→QC,wpAny_call_entry→QK,wpAny_callSpecial?_slot→QP,sysModules→QS,wpAny_execs_nil→QT,wpAny_pyIter_tuple→QV,keywordEach→QX,wpAny_typeOf→J0,call_meets→J5,codeAny_call_builtin→Ja,sliceBounds→Jd,codeAny_mono→Ji,pushCells→Jj,noteFrame→Jk,getattributeRaised→Jm,typeIs_int→Js,wpAny_rule→Ju,wpAny_setField→Jv,wpAny_pyIter_list→Jz,wpAny_pyIter_enum→JA
open List renaming getElem?_set_ne→W3,getElem?_eq_some_iff→Wa,replicate→Wb,size_toArray→Wd,mem_cons→Wg,mem_cons_of_mem→Wl,getElem?_set_self→Wm,getElem?_eq_getElem→Wo,mem_of_getElem?→Wr,mem_append_right→Ww,getElem?_set→Wx,mem_cons_self→Wy,map_cons→Wz,all_eq_true→WB,length_map→WC,length_cons→WH,lookup_cons→WI,getElem?_eq_none→WK,map_map→WL,range→WM,any_cons→WS,append_nil→WW,nil_append→WX,replicate_succ→WZ,mem_append→Q2,getElem?_map→Qb,length_set→Qe,all_cons→Qh,getD_eq_getElem?_getD→Qi,find?_cons→Qo,range_succ_eq_map→Qt,length_append→Qv,any_map→Qw,mem_map→Qx,nodup_cons→Qz,flatten_cons→QD,all_map→QM,map_congr_left→QO,foldl_cons→QU,mem_append_left→J4,getElem_mem→J9,not_mem_nil→Jb,mem_map_of_mem→Jf,pairwise_cons→Jl,contains_cons→Jn,toArray→Jq,length_take→JC,of_mem_zip→JD
open PySem.Heap renaming get?_push_of_some→W4,lt_size→We,get?_push_size→Wi,get?_update_other→WP,get?_update_self→Qk,get?_none_of_le→J3,size_push→Jt
open Option.some renaming injEq→W7,inj→Wu
open Nat renaming le_refl→W9,lt_of_lt_of_le→Ws,ne_of_lt→WA,zero_le→WY,lt_irrefl→Q0,le_trans→Q5,le_succ→Qs,le_of_lt→Jg,ne_of_gt→Jh,lt_succ_of_lt→Jy,zero_add→JE
open Bool renaming and_eq_true→Wf,false_ne_true→WN,not_eq_true'→QE,false_eq_true→Jp,and_true→JB
open Option renaming map_some→Wv,bind_some→WT,isSome_iff_exists→QJ,getD_some→QN,isSome_map→Jx
open PyProof.Rows renaming seqObj→WE,callWith_type1→Q4,slot_tuple_getitem→Qm,envOfC→QI
open PySem.Builtin.Str renaming strSliceIndices→Qf,occurrences→Qp
open PySem.F renaming slot_tuple_iterator_next→QA,plainAttrs_list→QQ,args_range_contains_2→QR,entry_range_contains→QY,slot_range_contains→J1
open Array renaming getElem?_eq_some_iff→QB,length_toList→Je
open PySem.Builtin.Slice renaming slicePlaces→QF
open PySem.Builtin.SmallTypes renaming nextOf→QG
open PySem.Builtin.Tuple renaming tupleExact→QL
set_option Elab.async false
set_option linter.all false
set_option maxRecDepth 100000
namespace L2
open PySem PySem.Spec PyProof.Rows
abbrev Key:=Sum Int Str
def z9Y:Key→Value→Bool
 | .inl k,v=>Value.isInt k v
 | .inr x,v=>Value.isStrOf x v
def keyH (w:Wp):Key→Int
 | .inl k=>hashInt k
 | .inr x=>hashStr w x
theorem z1a:∀ {k:Key} {v:Value},z9Y k v=true→(∃ i t,k=Sum.inl i∧v=Value.int i t)∨(∃ x t,k=Sum.inr x∧v=Value.str x t)
 | .inl i,v,h=>by
  obtain ⟨t,e⟩:=Value.isInt_shape (k:=i) (v:=v) h
  exact .inl ⟨i,t,rfl,e⟩
 | .inr x,v,h=>by
  obtain ⟨t,e⟩:=Value.isStrOf_shape (x:=x) (v:=v) h
  exact .inr ⟨x,t,rfl,e⟩
theorem zbs (i:Int) (t:Tok):z9Y (.inl i) (.int i t)=true:=by simp [z9Y,Value.isInt]
theorem zbr (x:Str) (t:Tok):z9Y (.inr x) (.str x t)=true:=by simp [z9Y,Value.isStrOf]
theorem zgF (a b:Int):decide ((Sum.inl a:Key)=Sum.inl b)=(a == b):=by
 by_cases e:a=b
 ·subst e; simp
 ·have h:¬ (Sum.inl a:Key)=Sum.inl b:=fun q=>e (Sum.inl.inj q)
  rw [decide_eq_false h]
  exact (beq_eq_false_iff_ne.mpr e).symm
theorem zgC (a b:Str):decide ((Sum.inr a:Key)=Sum.inr b)=decide (a=b):=by
 by_cases e:a=b
 ·subst e; simp
 ·have h:¬ (Sum.inr a:Key)=Sum.inr b:=fun q=>e (Sum.inr.inj q)
  rw [decide_eq_false h,decide_eq_false e]
theorem zgE (a:Int) (b:Str):decide ((Sum.inl a:Key)=Sum.inr b)=false:=decide_eq_false (fun q=>nomatch q)
theorem zgD (a:Str) (b:Int):decide ((Sum.inr a:Key)=Sum.inl b)=false:=decide_eq_false (fun q=>nomatch q)
def z1L (prog:Wk) (w:Wp):PySem.KeyKind prog w Key where
 is:=z9Y
 hash:=keyH w
 inj:=fun v a b ha hb=>by
  rcases z1a ha with ⟨i,t,rfl,rfl⟩ | ⟨x,t,rfl,rfl⟩
  ·rcases z1a hb with ⟨j,u,rfl,e⟩ | ⟨y,u,rfl,e⟩
   ·injection e with e1 _; rw [e1]
   ·exact nomatch e
  ·rcases z1a hb with ⟨j,u,rfl,e⟩ | ⟨y,u,rfl,e⟩
   ·exact nomatch e
   ·injection e with e1 _; rw [e1]
 byValue:=fun k v h=>by
  rcases z1a h with ⟨i,t,rfl,rfl⟩ | ⟨x,t,rfl,rfl⟩ <;> rfl
 pyHash:=fun hv h=>by
  rcases z1a hv with ⟨i,t,rfl,rfl⟩ | ⟨x,t,rfl,rfl⟩
  ·exact wpAny_pyHash_int h
  ·exact wpAny_pyHash_str h
 eqBool:=fun hu hv h=>by
  rcases z1a hu with ⟨i,t,rfl,rfl⟩ | ⟨x,t,rfl,rfl⟩
  ·rcases z1a hv with ⟨j,u,rfl,rfl⟩ | ⟨y,u,rfl,rfl⟩
   ·rw [zgF] at h; exact wpAny_eqBool_int h
   ·rw [zgE] at h; exact SeqAt.EqAt.int_str i t y u _ _ _ _ h
  ·rcases z1a hv with ⟨j,u,rfl,rfl⟩ | ⟨y,u,rfl,rfl⟩
   ·rw [zgD] at h; exact SeqAt.EqAt.str_int x t j u _ _ _ _ h
   ·rw [zgC] at h; exact wpAny_eqBool_str h
 «strs»:=fun k x t v h=>by
  rcases z1a h with ⟨i,u,rfl,e⟩ | ⟨y,u,rfl,e⟩
  ·exact nomatch e
  ·injection e with e1 _
   subst e1
   cases v <;> rfl
theorem z8D (prog:Wk) (w:Wp) (i:Int) (t:Tok):(z1L prog w).is (.inl i) (.int i t)=true:=zbs i t
theorem z8C (prog:Wk) (w:Wp) (x:Str) (t:Tok):(z1L prog w).is (.inr x) (.str x t)=true:=zbr x t
inductive V where
 | non | bl (b:Bool) | int (i:Int) | str (x:Str) | byt (b:Array UInt8) | flt (b:UInt64) | ref (a:Addr) | ty (n:String)
 deriving DecidableEq
def RelV:V→Value→Prop
 | .non,u=>u=Value.none
 | .bl b,u=>u=Value.bool b
 | .int i,u=>∃ t,u=Value.int i t
 | .str x,u=>∃ t,u=Value.str x t
 | .byt b,u=>∃ t,u=Value.bytes b t
 | .flt b,u=>∃ t,u=Value.float b t
 | .ref a,u=>u=Value.ref a
 | .ty n,u=>u=Value.type n
abbrev Vals:List V→List Value→Prop:=Paired RelV
theorem Vals.length (r:Vals xs us):xs.length=us.length:=Paired.length r
theorem Vals.get:∀ {xs:List V} {us:List Value} {i:Nat} {x:V},Vals xs us→xs[i]? = some x→∃ u,us[i]? = some u∧RelV x u
 | _,_,_,_,.nil,e=>by simp at e
 | _,_,0,_,.cons r _,e=>by simp at e; subst e; exact ⟨_,rfl,r⟩
 | _,_,i + 1,x,.cons _ t,e=>by
  obtain ⟨u,h1,h2⟩:=Vals.get (i:=i) (x:=x) t (by simpa using e)
  exact ⟨u,by simpa using h1,h2⟩
theorem Vals.set (r:RelV x u):∀ {xs:List V} {us:List Value} (i:Nat),Vals xs us→Vals (xs.set i x) (us.set i u)
 | _,_,_,.nil=>.nil
 | _,_,0,.cons _ t=>.cons r t
 | _,_,i + 1,.cons q t=>.cons q (Vals.set r i t)
theorem Vals.append:∀ {xs ys:List V} {us ws:List Value},Vals xs us→Vals ys ws→Vals (xs ++ ys) (us ++ ws)
 | _,_,_,_,.nil,s=>s
 | _,_,_,_,.cons r t,s=>.cons r (Vals.append t s)
theorem Vals.take:∀ {xs:List V} {us:List Value} (n:Nat),Vals xs us→Vals (xs.take n) (us.take n)
 | _,_,0,_=>.nil
 | _,_,_ + 1,.nil=>.nil
 | _,_,n + 1,.cons r t=>.cons r (Vals.take n t)
theorem Vals.drop:∀ {xs:List V} {us:List Value} (n:Nat),Vals xs us→Vals (xs.drop n) (us.drop n)
 | _,_,0,r=>r
 | _,_,_ + 1,.nil=>.nil
 | _,_,n + 1,.cons _ t=>Vals.drop n t
def RelO:Option V→Option Value→Prop
 | some v,some u=>RelV v u
 | none,none=>True
 | _,_=>False
def KV {κ:Type}:List (κ×V)→List (κ×Value)→Prop:=Paired fun (p:κ×V) (q:κ×Value)=>p.1=q.1∧RelV p.2 q.2
def kV:Key→V
 | .inl i=>.int i
 | .inr x=>.str x
inductive HO where
  | lst (xs:List V)
  | tup (xs:List V)
  | dK (kvs:List (Key×V)) | dT (kvs:List (List Key×V))
  | set (S:Int→Bool) (n:Nat)
  | ins (C dx:Addr) (fs:List (Str×V))
  | own (x:Addr)
  | xd (fs:List (Str×V))
  | met (f x:Addr)
  | rng (lo hi:Int)
  | frz (o:Obj) (u:HO)
  | tbl (ps:Array Value)
  | ext (φ:Heap→Prop)
abbrev Hp:=Addr→Option HO
def upd (H:Hp) (a:Addr) (o:HO):Hp:=fun b=>if b=a then some o else H b
theorem z0t:upd H a o a=some o:=by unfold upd; rw [if_pos rfl]
theorem z0l (h:b≠a):upd H a o b=H b:=by unfold upd; rw [if_neg h]
theorem ze7:upd (upd H a o) a u=upd H a u:=by
 funext b; unfold upd; split <;> rfl
theorem ne_of {H:Hp} {a b:Addr} {o u:HO} (h:H a=some o) (h':H b=some u) (d:o≠u):a≠b:=by
 intro e; subst e; rw [h] at h'; exact d (Wu h')
theorem z0L {H:Hp} {a b:Addr} {o:HO} (h:H a=some o) (h':H b=none):a≠b:=by
 intro e; subst e; rw [h] at h'; cases h'
def IsTupN (h:Heap) (a:Addr) (its:Array Value):Prop:=∃ n,h.get? a=some { cls:=.type "tuple",dict:=none,data:=.seq its n,slots:=#[] }
theorem IsTupN.tup (x:IsTupN h a its):IsTup h a its:=let ⟨n,e⟩:=x; ⟨_,e,rfl,n,rfl⟩
theorem IsTupN.new (h:Heap) (its:Array Value):IsTupN (h.push { cls:=.type "tuple",data:=.seq its }) h.objs.size its:=⟨_,Wi _ rfl⟩
theorem IsTupN.lt (x:IsTupN h a its):a < h.objs.size:=let ⟨_,e⟩:=x; We e
section
variable (P:Wk) (w:Wp)
def ObjOk (H:Hp) (h:Heap) (a:Addr):HO→Prop
 | .lst xs=>xs.length≤W6∧∃ (its:List Value) (n:Nat),Vals xs its∧h.get? a=some { cls:=.type "list",data:=.seq its.toArray n }
 | .tup xs=>xs.length≤W6∧∃ its:List Value,Vals xs its∧IsTupN h a its.toArray
 | .dK kvs=>kvs.length≤W6∧(a == QS)=false∧∃ vs,KV kvs vs∧h.DictOf (z1L P w) a vs
 | .dT kvs=>kvs.length≤W6∧(a == QS)=false∧∃ xs:List (List Key×Addr×Value),
   Paired (fun (p:List Key×V) (q:List Key×Addr×Value)=>p.1=q.1∧H q.2.1=some (.tup (p.1.map kV))∧RelV p.2 q.2.2) kvs xs ∧
   ∃ o es ep,h.get? a=some o∧o.ExactDict∧o.data = .dict es ep∧es.toList=xs.map (entryOfKey (tupleKind (z1L P w)))∧(xs.map (·.1)).Nodup
 | .set S n=>h.SetOf (intKind P w) a S n
 | .ins C dx fs=>H dx=some (.own a)∧fs.length≤1000∧dx≠a∧h.get? a=some (PySem.W.instObj C dx) ∧
   ∃ mA,h.Ns1 dx mA∧(∀ f,RelO (fs.lookup f) (mA f))∧PySem.Within mA (fs.map (·.1))
 | .own _=>∃ o,h.get? a=some o
 | .xd fs=>∃ mA,h.Ns1 a mA∧∀ f,RelO (fs.lookup f) (mA f)
 | .rng lo hi=>∃ t u v,h.get? a=some { cls:=.type "range",data:=.fields #[.int lo t,.int hi u,.int 1 v] }
 | .frz o u=>h.get? a=some o∧ObjOk H h a u
 | .tbl ps=>h.get? a=some { cls:=.none,data:=.fields ps }
 | .met f x=>h.get? a=some (PySem.W.methodObj (.ref f) (.ref x))
 | .ext φ=>φ h∧(∃ o,h.get? a=some o)∧∀ h1 h2:Heap,φ h1→(∀ o,h1.get? a=some o→h2.get? a=some o)→φ h2
def HOk (H:Hp) (h:Heap):Prop:=∀ a o,H a=some o→ObjOk P w H h a o
end
section
variable {P:Wk} {w:Wp} {H H':Hp} {h h':Heap} {a:Addr} {o:HO}
theorem ObjOk.lt (x:ObjOk P w H h a o):a < h.objs.size:=by
 cases o with
 | lst xs=>obtain ⟨_,_,_,_,e⟩:=x; exact We e
 | tup xs=>obtain ⟨_,_,_,p⟩:=x; exact p.lt
 | dK kvs=>obtain ⟨_,_,_,_,o,_,_,e,_⟩:=x; exact We e
 | dT kvs=>obtain ⟨_,_,_,_,o,_,_,e,_⟩:=x; exact We e
 | set S n=>obtain ⟨o,_,_,_,e,_⟩:=x; exact We e
 | ins C dx fs=>obtain ⟨_,_,_,e,_⟩:=x; exact We e
 | own y=>obtain ⟨_,e⟩:=x; exact We e
 | xd fs=>obtain ⟨_,⟨_,_,_,e,_⟩,_⟩:=x; exact We e
 | rng lo hi=>obtain ⟨_,_,_,e⟩:=x; exact We e
 | frz ob u=>obtain ⟨e,_⟩:=x; exact We e
 | tbl ps=>exact We (show h.get? a=some _ from x)
 | met f y=>exact We (show h.get? a=some _ from x)
 | ext φ=>obtain ⟨_,⟨_,e⟩,_⟩:=x; exact We e
theorem Paired.mapP:∀ {l₁:List α} {l₂:List β},Paired F l₁ l₂→(∀ a b,F a b→G a b)→Paired G l₁ l₂
 | _,_,.nil,_=>.nil
 | _,_,.cons r t,f=>.cons (f _ _ r) (Paired.mapP t f)
theorem ObjOk.stay (x:ObjOk P w H h a o) (k:∀ b u,(b=a∨H b=some (.own a))→h.get? b=some u→h'.get? b=some u)
  (ho:∀ b,H b=some (.own a)→H' b=some (.own a)) (ht:∀ b xs,H b=some (.tup xs)→H' b=some (.tup xs)):ObjOk P w H' h' a o:=by
 induction o with
 | lst xs=>obtain ⟨z,its,n,r,e⟩:=x; exact ⟨z,its,n,r,k _ _ (.inl rfl) e⟩
 | tup xs=>obtain ⟨z,its,r,n,e⟩:=x; exact ⟨z,its,r,n,k _ _ (.inl rfl) e⟩
 | dK kvs=>obtain ⟨z,y,vs,r,ob,es,ep,e,c⟩:=x; exact ⟨z,y,vs,r,ob,es,ep,k _ _ (.inl rfl) e,c⟩
 | dT kvs =>
  obtain ⟨z,y,xs,r,ob,es,ep,e,c⟩:=x
  exact ⟨z,y,xs,Paired.mapP r fun p q z=>⟨z.1,ht _ _ z.2.1,z.2.2⟩,ob,es,ep,k _ _ (.inl rfl) e,c⟩
 | set S n=>obtain ⟨ob,es,ep,t,e,c⟩:=x; exact ⟨ob,es,ep,t,k _ _ (.inl rfl) e,c⟩
 | ins C dx fs =>
  obtain ⟨d,z,ne,e,mA,⟨od,es,ep,e2,c⟩,r⟩:=x
  exact ⟨ho _ d,z,ne,k _ _ (.inl rfl) e,mA,⟨od,es,ep,k _ _ (.inr d) e2,c⟩,r⟩
 | own y=>obtain ⟨ob,e⟩:=x; exact ⟨ob,k _ _ (.inl rfl) e⟩
 | xd fs=>obtain ⟨mA,⟨od,es,ep,e,c⟩,r⟩:=x; exact ⟨mA,⟨od,es,ep,k _ _ (.inl rfl) e,c⟩,r⟩
 | rng lo hi=>obtain ⟨t,u,v,e⟩:=x; exact ⟨t,u,v,k _ _ (.inl rfl) e⟩
 | frz ob u ih=>obtain ⟨e,q⟩:=x; exact ⟨k _ _ (.inl rfl) e,ih q⟩
 | tbl ps =>
  have e:h.get? a=some { cls:=.none,data:=.fields ps }:=x
  show h'.get? a=some { cls:=.none,data:=.fields ps }
  exact k a _ (.inl rfl) e
 | met f y =>
  have e:h.get? a=some (PySem.W.methodObj (.ref f) (.ref y)):=x
  show h'.get? a=some (PySem.W.methodObj (.ref f) (.ref y))
  exact k a _ (.inl rfl) e
 | ext φ=>obtain ⟨p,⟨o,e⟩,st⟩:=x; exact ⟨st _ _ p fun o q=>k _ _ (.inl rfl) q,⟨o,k _ _ (.inl rfl) e⟩,st⟩
theorem HOk.lt (x:HOk P w H h) (e:H a=some o):a < h.objs.size:=(x a o e).lt
theorem HOk.fresh (x:HOk P w H h) (e:h.objs.size≤a):H a=none:=by
 cases q:H a with
 | none=>rfl
 | some u=>exact absurd (Ws (x.lt q) e) (Q0 _)
theorem HOk.kept (x:HOk P w H h) (k:∀ b u,h.get? b=some u→h'.get? b=some u):HOk P w H h':=fun a o e =>
 (x a o e).stay (fun b u _ q=>k b u q) (fun _ q=>q) fun _ _ q=>q
theorem HOk.laid (x:HOk P w H h) (k:∀ b u,h.get? b=some u→h'.get? b=some u) (hp:h.objs.size≤a) (new:ObjOk P w (upd H a o) h' a o):HOk P w (upd H a o) h':=fun b u e=>by
 have hn:=x.fresh hp
 by_cases hb:b=a
 ·subst hb; rw [z0t] at e; cases e; exact new
 ·rw [z0l hb] at e
  exact (x b u e).stay (fun c v _ q=>k c v q) (fun c q=>by rw [z0l (z0L q hn)]; exact q) fun c xs q=>by rw [z0l (z0L q hn)]; exact q
end
def Rd (H:Hp) (a:Addr) (u:HO):Prop:=H a=some u∨∃ o,H a=some (.frz o u)
theorem Rd.ok (r:Rd H a u) (x:HOk P w H h):ObjOk P w H h a u:=by
 rcases r with r | ⟨o,r⟩
 ·exact x a u r
 ·obtain ⟨_,q⟩:=x a _ r
  exact q
def Mut:Option HO→Prop
 | some (.lst _)=>True
 | some (.dK _)=>True
 | some (.dT _)=>True
 | some (.set _ _)=>True
 | some (.ins _ _ _)=>True
 | some (.ext _)=>True
 | _=>False
section
variable {P:Wk} {w:Wp} {H:Hp} {h h':Heap} {x e:Addr} {o':HO}
theorem HOk.write (ok:HOk P w H h) (mu:Mut (H x)) (he:e=x∨H e=some (.own x)) (k:∀ b u,b≠e→h.get? b=some u→h'.get? b=some u) (heo:∃ u,h'.get? e=some u)
  (new:ObjOk P w (upd H x o') h' x o'):HOk P w (upd H x o') h':=fun b u q=>by
 have nown:∀ c y,H c=some (.own y)→c≠x:=fun c y r z=>by subst z; rw [r] at mu; exact mu
 have ntup:∀ c xs,H c=some (.tup xs)→c≠x:=fun c xs r z=>by subst z; rw [r] at mu; exact mu
 by_cases hb:b=x
 ·subst hb; rw [z0t] at q; cases q; exact new
 ·rw [z0l hb] at q
  by_cases hbe:b=e
  ·have q':H b=some (.own x):=by
    rcases he with z | z
    ·exact absurd (hbe.trans z) hb
    ·rw [hbe]; exact z
   rw [q] at q'; cases q'
   obtain ⟨v,hv⟩:=heo
   exact ⟨v,by rw [hbe]; exact hv⟩
  ·refine (ok b u q).stay (fun c v hc r=>k c v ?_ r) (fun c r=>by rw [z0l (nown c b r)]; exact r) fun c xs r=>by rw [z0l (ntup c xs r)]; exact r
   rcases hc with rfl | hc
   ·exact hbe
   ·rintro rfl
    rcases he with z | z
    ·exact nown c b hc z
    ·rw [hc] at z; cases z; exact hb rfl
end
structure Un (fs ex:List Addr) (H H':Hp) (h h':Heap):Prop where
 keep:∀ b o,h.get? b=some o→H b=none→b ∉ fs→b ∉ ex→h'.get? b=some o
 slot:∀ b o,h.get? b=some o→H b=none→b ∈ fs→b ∉ ex→∃ sl,h'.get? b=some { o with slots:=sl }
 free:∀ b o,h.get? b=some o→H b=none→b ∉ ex→H' b=none
 there:∀ b o,h.get? b=some o→b ∉ ex→∃ o',h'.get? b=some o'
 tups:∀ b xs,H b=some (.tup xs)→H' b=some (.tup xs)
 frzs:∀ b o u,H b=some (.frz o u)→H' b=some (.frz o u)
 tbls:∀ b ps,H b=some (.tbl ps)→∃ more,H' b=some (.tbl (ps ++ more))
section
variable {fs fs' ex ex':List Addr} {H H1 H2:Hp} {h h1 h2 h':Heap} {a x e:Addr} {o:HO}
theorem Un.any (u:Un fs ex H H1 h h1) (q:h.get? b=some ob) (n:H b=none) (hx:b ∉ ex):∃ sl,h1.get? b=some { ob with slots:=sl }:=by
 by_cases hb:b ∈ fs
 ·exact u.slot b ob q n hb hx
 ·exact ⟨ob.slots,u.keep b ob q n hb hx⟩
theorem Un.kept (k:∀ b u,h.get? b=some u→h'.get? b=some u):Un fs ex H H h h' :=
 ⟨fun b ob q _ _ _=>k b ob q,fun b ob q _ _ _=>⟨ob.slots,k b ob q⟩,fun _ _ _ n _=>n,fun b ob q _=>⟨ob,k b ob q⟩,fun _ _ q=>q,fun _ _ _ q=>q,fun _ ps q=>⟨#[],by rw [q]; simp⟩⟩
theorem Un.refl:Un fs ex H H h h:=Un.kept fun _ _ q=>q
theorem Un.laid (k:∀ b u,h.get? b=some u→h'.get? b=some u) (hp:h.objs.size≤a) (hn:H a=none):Un fs ex H (upd H a o) h h' where
 keep:=fun b u q _ _ _=>k b u q
 slot:=fun b u q _ _ _=>⟨u.slots,k b u q⟩
 free:=fun b u q n _=>by rw [z0l (WA (Ws (We q) hp))]; exact n
 there:=fun b u q _=>⟨u,k b u q⟩
 tups:=fun b xs q=>by rw [z0l (z0L q hn)]; exact q
 frzs:=fun b u xs q=>by rw [z0l (z0L q hn)]; exact q
 tbls:=fun b ps q=>⟨#[],by rw [z0l (z0L q hn),q]; simp⟩
theorem Un.write (mu:Mut (H x)) (he:e=x∨H e=some (.own x)) (k:∀ b u,b≠e→h.get? b=some u→h'.get? b=some u) (heo:∃ u,h'.get? e=some u):Un fs ex H (upd H x o) h h':=by
 have hx:∀ b,H b=none→b≠x:=fun b n z=>by subst z; rw [n] at mu; exact mu
 have hb:∀ b,H b=none→b≠e:=fun b n z=>by
  subst z
  rcases he with r | r
  ·exact hx b n r
  ·rw [n] at r; cases r
 have hm:∀ b u,H b=some u→¬ Mut (some u)→b≠x:=fun b u q nm z=>by subst z; rw [q] at mu; exact nm mu
 refine ⟨fun b u q n _ _=>k b u (hb b n) q,fun b u q n _ _=>⟨u.slots,k b u (hb b n) q⟩,fun b u q n _=>by rw [z0l (hx b n)]; exact n,fun b u q _=>?_,
  fun b xs q=>by rw [z0l (hm b _ q fun z=>z)]; exact q,fun b u xs q=>by rw [z0l (hm b _ q fun z=>z)]; exact q,fun b ps q=>⟨#[],by rw [z0l (hm b _ q fun z=>z),q]; simp⟩⟩
 by_cases hbe:b=e
 ·subst hbe; exact heo
 ·exact ⟨u,k b u hbe q⟩
end
def trk (h:Heap) (H:Hp):List Addr:=(WM h.objs.size).filter fun a=>(H a).isSome
def hidT (h:Heap) (H:Hp):Heap:=PySem.W.hideAll h (trk h H)
theorem zbE (h:Heap) (H:Hp):(hidT h H).objs.size=h.objs.size:=PySem.W.hideAll_size _ _
theorem zdd (e:h.get? b=some o) (n:H b=none):(hidT h H).get? b=some o :=
 PySem.W.hideAll_get _ e fun hm=>by
  have q:(H b).isSome=true:=(List.mem_filter.mp hm).2
  rw [n] at q; simp at q
theorem zeU (e:(hidT h H).get? b=some o):h.get? b=some o∧H b=none:=by
 have e':h.get? b=some o:=PySem.W.of_hideAll (trk h H) e
 refine ⟨e',?_⟩
 cases q:H b with
 | none=>rfl
 | some x =>
  have hm:b ∈ trk h H:=List.mem_filter.mpr ⟨List.mem_range.mpr (We e'),by simp [q]⟩
  have z:(hidT h H).get? b=none:=PySem.W.hideAll_none (trk h H) hm
  rw [z] at e; cases e
def zfo (g h:Heap) (L:Addr):List (Addr×Obj):=(WM h.objs.size).filterMap fun a=>if a=L∨(g.get? a).isSome=true then none else (h.get? a).map fun o=>(a,o)
def rest (g h:Heap) (L d:Addr):List (Addr×Obj):=(zfo g h L).filter fun p=>decide (p.1≠d)
structure Mod (K:W0) (mg:Str→Option Value) (base:Heap):Prop where
 kin:K.In base
 glob:base.Ns Wj mg
 blt:∃ mb,base.Ns builtinsNs mb∧∀ x:Str,x≠"__name__"→mb x=Q1 x
 nolimit:base.NoLimit
structure Cx where
 prog:Wk
 w:Wp
 K:W0
 mg:Str→Option Value
 base:Heap
 A:Wn
 N:List Str
 s₀:W2
 H₀:Hp
 env:Env
 outer:List Env
 stack:List Env
 ex:List Addr
 fn:Str→Bool
 calm:Bool
 pn:List (Addr×Obj)
 xe:Value→W2→Prop
def frs (l:List Env):List Addr:=l.filterMap (·.frame)
abbrev Cx.fs (X:Cx):List Addr:=frs X.outer
def Vis (sc:Scope) (x:Str):Prop:=sc.names.lookup x=some .local∨sc.names.lookup x=some .cell∨sc.names.lookup x=some .free
def Loc (sc:Scope) (x:Str):Prop:=sc.names.lookup x=some .local∨sc.names.lookup x=some .cell
def Look (env:Env) (h:Heap) (m:Str→Option Value) (x:Str) (u:Value):Prop :=
 (env.kindOf x=some .local∧m x=some u)∨((env.kindOf x=some .cell∨env.kindOf x=some .free)∧∃ c,env.cells.lookup x=some c∧h.IsCell c (some u))
structure Cx.Ok (X:Cx):Prop where
 mod:Mod X.K X.mg X.base
 kind:X.env.scope.kind = .function
 glob:X.env.globals=Wj
 blt:X.env.builtins=builtinsNs
 above:X.s₀.heap.objs.size≤X.env.locals
 inj:∀ x y c,X.env.cells.lookup x=some c→X.env.cells.lookup y=some c→x=y
 has:∀ x,(X.env.kindOf x=some .cell∨X.env.kindOf x=some .free)→∃ c,X.env.cells.lookup x=some c
 cab:∀ x c,X.fn x=true→X.env.cells.lookup x=some c→X.s₀.heap.objs.size≤c
 hd:X.calm=true→X.A.handled=none
 frames:X.A.frames=some X.stack
 stk:X.stack=X.outer∨(X.stack=X.env :: X.outer∧X.env.frame=some X.env.locals)
 exf:∀ b ∈ X.ex,b≠X.env.locals∧∀ x c,X.env.cells.lookup x=some c→c≠b
 bs:∀ b o,X.base.get? b=some o→X.s₀.heap.get? b=some o∧X.H₀ b=none
 bsz:X.base.objs.size≤X.s₀.heap.objs.size
 noex:∀ b o,X.base.get? b=some o→b ∉ X.ex
 exfs:∀ b ∈ X.ex,b ∉ X.fs
 funs:X.s₀.heap.FunFrames X.base X.outer
 frf:∀ b ∈ X.fs,X.H₀ b=none
structure Inv (X:Cx) (pins:List (Addr×Obj)) (σ:List (Option V)) (H:Hp) (s:W2):Prop where
 ok:X.Ok
 os:s.os=X.s₀.os
 bare:AllBare s.gens
 base:Un X.fs X.ex X.H₀ H X.s₀.heap s.heap
 loc:∃ m,s.heap.Ns X.env.locals m∧∀ (i:Nat) (x:Str) (v:V),X.N[i]? = some x→σ[i]? = some (some v)→Vis X.env.scope x→∃ u,RelV v u∧Look X.env s.heap m x u
 cell:∀ x c,X.env.cells.lookup x=some c→∃ v,s.heap.IsCell c v
 free:H X.env.locals=none
 freeC:∀ x c,X.env.cells.lookup x=some c→H c=none
 pin:∀ p ∈ X.pn ++ pins,s.heap.get? p.1=some p.2∧H p.1=none∧p.1≠X.env.locals∧p.1 ∉ X.fs∧∀ v,p.2.data≠.cell v
 hok:HOk X.prog X.w H s.heap
 len:σ.length=X.N.length
section
variable {X:Cx} {pins:List (Addr×Obj)} {σ:List (Option V)} {H H':Hp} {s:W2} {h':Heap}
theorem Cx.Ok.nofr (ok:X.Ok) (e:X.base.get? b=some o):b ∉ X.fs:=fun hb=>by
 have:=(ok.funs.mem hb).1
 rw [e] at this; cases this
theorem Inv.bs (I:Inv X pins σ H s):∀ b o,X.base.get? b=some o→s.heap.get? b=some o∧H b=none:=fun b o e =>
 ⟨I.base.keep b o (I.ok.bs b o e).1 (I.ok.bs b o e).2 (I.ok.nofr e) (I.ok.noex b o e),I.base.free b o (I.ok.bs b o e).1 (I.ok.bs b o e).2 (I.ok.noex b o e)⟩
theorem Inv.bk (I:Inv X pins σ H s):∀ b o,X.base.get? b=some o→s.heap.get? b=some o:=fun b o e=>(I.bs b o e).1
theorem Inv.mod (I:Inv X pins σ H s):Mod X.K X.mg X.base:=I.ok.mod
theorem Inv.kIn (I:Inv X pins σ H s):X.K.In s.heap:=I.ok.mod.kin.keeps I.bk
theorem Inv.fr (I:Inv X pins σ H s):∃ m,Fr X.base X.env.locals s.heap m :=
 let ⟨m,hn,_⟩:=I.loc
 ⟨m,hn,I.bk,Q5 I.ok.bsz I.ok.above⟩
theorem Inv.lt (I:Inv X pins σ H s):X.env.locals < s.heap.objs.size:=let ⟨_,hn,_⟩:=I.loc; hn.lt
theorem Inv.sz (I:Inv X pins σ H s):X.s₀.heap.objs.size≤s.heap.objs.size:=Q5 I.ok.above (Jg I.lt)
theorem Inv.nofs (I:Inv X pins σ H s) (h:s.heap.objs.size≤a):a ∉ X.fs:=fun hb=>by
 obtain ⟨_,o,ho,_⟩:=I.ok.funs.mem hb
 exact absurd (Ws (We ho) (Q5 I.sz h)) (Q0 _)
theorem Inv.cne (I:Inv X pins σ H s):∀ x c,X.env.cells.lookup x=some c→c≠X.env.locals:=fun x c e z=>by
 obtain ⟨v,o,ho,hd⟩:=I.cell x c e
 obtain ⟨m,⟨o',es,ep,ho',hd',_⟩,_⟩:=I.loc
 rw [z,ho'] at ho; cases ho; rw [hd'] at hd; cases hd
theorem Inv.funs (I:Inv X pins σ H s):s.heap.FunFrames X.base X.outer:=by
 have all:∀ (l:List Env),(∀ b ∈ frs l,b ∈ X.fs)→X.s₀.heap.FunFrames X.base l→s.heap.FunFrames X.base l:=by
  intro l
  induction l with
  | nil=>intro _ _; trivial
  | cons env r ih =>
   intro hs hl
   obtain ⟨hk,⟨L,o,hf,hn,ho,hd⟩,hr⟩:=hl
   have hL:L ∈ X.fs:=hs L (by unfold frs; rw [List.filterMap_cons,hf]; exact Wy)
   obtain ⟨sl,e⟩:=I.base.slot L o ho (I.ok.frf L hL) hL fun z=>I.ok.exfs L z hL
   exact ⟨hk,⟨L,_,hf,hn,e,hd⟩,ih (fun b hb=>hs b (by unfold frs; rw [List.filterMap_cons,hf]; exact Wl _ hb)) hr⟩
 exact all X.outer (fun _ hb=>hb) I.ok.funs
theorem Inv.stack (I:Inv X pins σ H s):s.heap.FunFrames X.base X.stack:=by
 rcases I.ok.stk with e | ⟨e,hf⟩
 ·rw [e]; exact I.funs
 ·rw [e]
  obtain ⟨m,hn,_⟩:=I.loc
  refine .cons (by rw [I.ok.kind]; decide) hf hn ?_ I.funs
  exact J3 (Q5 I.ok.bsz I.ok.above)
theorem Inv.stkSub (I:Inv X pins σ H s):∀ b ∈ frs X.stack,b ∈ X.env.locals :: X.fs:=fun b hb=>by
 rcases I.ok.stk with e | ⟨e,hf⟩
 ·rw [e] at hb; exact Wl _ hb
 ·rw [e] at hb
  unfold frs at hb
  rw [List.filterMap_cons,hf] at hb
  exact hb
theorem Inv.stkFree (I:Inv X pins σ H s):∀ b ∈ frs X.stack,H b=none:=fun b hb=>by
 rcases Wg.mp (I.stkSub b hb) with e | hb
 ·rw [e]; exact I.free
 ·obtain ⟨_,o,ho,_⟩:=I.ok.funs.mem hb
  exact I.base.free b o ho (I.ok.frf b hb) fun z=>I.ok.exfs b z hb
theorem Inv.step {g':Array GenState} {t':Nat} {d':Drawn} {ch:List Addr} (I:Inv X pins σ H s)
  (hch:∀ b ∈ ch,(b ∈ X.ex∨X.s₀.heap.objs.size≤b)∧b≠X.env.locals∧(∀ x c,X.env.cells.lookup x=some c→c≠b)∧∀ p ∈ X.pn ++ pins,p.1≠b)
  (keep:∀ b o,b≠X.env.locals→b ∉ X.fs→b ∉ ch→s.heap.get? b=some o→H b=none→h'.get? b=some o)
  (slot:∀ b o,b≠X.env.locals→b ∈ X.fs→b ∉ ch→s.heap.get? b=some o→H b=none→∃ sl,h'.get? b=some { o with slots:=sl }) (free:∀ b o,b ∉ ch→s.heap.get? b=some o→H b=none→H' b=none)
  (there:∀ b o,b ∉ ch→s.heap.get? b=some o→∃ o',h'.get? b=some o')
  (tups:∀ b xs,H b=some (.tup xs)→H' b=some (.tup xs)) (frzs:∀ b o u,H b=some (.frz o u)→H' b=some (.frz o u)) (tbls:∀ b ps,H b=some (.tbl ps)→∃ more,H' b=some (.tbl (ps ++ more)))
  (ns:∀ m,s.heap.Ns X.env.locals m→h'.Ns X.env.locals m) (hok:HOk X.prog X.w H' h') (hg:AllBare g') :
  Inv X pins σ H' { s with heap:=h',gens:=g',drawn:=d',toks:=t' }:=by
 have neL:∀ b o,X.s₀.heap.get? b=some o→b≠X.env.locals:=fun b o e=>WA (Ws (We e) I.ok.above)
 have neC:∀ b o,X.s₀.heap.get? b=some o→b ∉ X.ex→b ∉ ch:=fun b o e hx hb=>by
  rcases (hch b hb).1 with z | z
  ·exact hx z
  ·exact absurd (Ws (We e) z) (Q0 _)
 have cellK:∀ x c,X.env.cells.lookup x=some c→∀ v,s.heap.IsCell c v→h'.IsCell c v:=fun x c e v ⟨o,ho,hd⟩=>by
  have nch:c ∉ ch:=fun z=>(hch c z).2.2.1 x c e rfl
  by_cases hc:c ∈ X.fs
  ·obtain ⟨sl,q⟩:=slot c o (I.cne x c e) hc nch ho (I.freeC x c e)
   exact ⟨_,q,hd⟩
  ·exact ⟨o,keep c o (I.cne x c e) hc nch ho (I.freeC x c e),hd⟩
 refine ⟨I.ok,I.os,hg,⟨fun b o e n hb hx=>?_,fun b o e n hb hx=>?_,fun b o e n hx=>?_,fun b o e hx=>?_,fun b xs e=>tups b xs (I.base.tups b xs e),fun b o xs e=>frzs b o xs (I.base.frzs b o xs e),fun b ps e=>?_⟩,?_,fun x c e=>?_,?_,fun x c e=>?_,fun p hp=>?_,hok,I.len⟩
 ·exact keep b o (neL b o e) hb (neC b o e hx) (I.base.keep b o e n hb hx) (I.base.free b o e n hx)
 ·obtain ⟨sl,e1⟩:=I.base.slot b o e n hb hx
  obtain ⟨sl',e2⟩:=slot b _ (neL b o e) hb (neC b o e hx) e1 (I.base.free b o e n hx)
  exact ⟨sl',e2⟩
 ·obtain ⟨o',e1⟩:=I.base.there b o e hx
  exact free b o' (neC b o e hx) e1 (I.base.free b o e n hx)
 ·obtain ⟨o',e1⟩:=I.base.there b o e hx
  exact there b o' (neC b o e hx) e1
 ·obtain ⟨m1,e1⟩:=I.base.tbls b ps e
  obtain ⟨m2,e2⟩:=tbls b _ e1
  exact ⟨m1 ++ m2,by rw [e2,Array.append_assoc]⟩
 ·obtain ⟨m,hn,hl⟩:=I.loc
  refine ⟨m,ns m hn,fun i x v e1 e2 e3=>?_⟩
  obtain ⟨u,r,l⟩:=hl i x v e1 e2 e3
  refine ⟨u,r,?_⟩
  rcases l with l | ⟨k,c,e,z⟩
  ·exact .inl l
  ·exact .inr ⟨k,c,e,cellK x c e _ z⟩
 ·obtain ⟨v,z⟩:=I.cell x c e
  exact ⟨v,cellK x c e v z⟩
 ·obtain ⟨m,⟨o,_,_,ho,_⟩,_⟩:=I.loc
  exact free _ o (fun z=>(hch _ z).2.1 rfl) ho I.free
 ·obtain ⟨v,o,ho,hd⟩:=I.cell x c e
  exact free c o (fun z=>(hch c z).2.2.1 x c e rfl) ho (I.freeC x c e)
 ·obtain ⟨e,n,ne,nf,d⟩:=I.pin p hp
  have nch:p.1 ∉ ch:=fun z=>(hch p.1 z).2.2.2 p hp rfl
  exact ⟨keep p.1 p.2 ne nf nch e n,free p.1 p.2 nch e n,ne,nf,d⟩
theorem Inv.un {t':Nat} (I:Inv X pins σ H s) (u:Un X.fs [] H H' s.heap h') (hok:HOk X.prog X.w H' h'):Inv X pins σ H' { s with heap:=h',toks:=t' }:=by
 obtain ⟨m,⟨o,es,ep,ho,r⟩,_⟩:=id I.loc
 obtain ⟨sl,hL⟩:=u.any ho I.free (by simp)
 exact I.step (g':=s.gens) (d':=s.drawn) (ch:=[]) (fun _ z=>nomatch z) (fun b o _ hb _ e n=>u.keep b o e n hb (by simp)) (fun b o _ hb _ e n=>u.slot b o e n hb (by simp)) (fun b o _ e n=>u.free b o e n (by simp)) (fun b o _ e=>u.there b o e (by simp)) u.tups u.frzs u.tbls (fun m' hm=>by
  obtain ⟨o',es',ep',ho',r'⟩:=hm
  rw [ho] at ho'; cases ho'
  exact ⟨_,es',ep',hL,r'⟩) hok I.bare
theorem Inv.call {g':Array GenState} {t':Nat} {d':Drawn} {ch:List Addr} (I:Inv X pins σ H s) (u:Un (frs X.stack) ch H H' s.heap h') (hok:HOk X.prog X.w H' h') (hg:AllBare g')
  (hch:∀ b ∈ ch,(b ∈ X.ex∨X.s₀.heap.objs.size≤b)∧b≠X.env.locals∧(∀ x c,X.env.cells.lookup x=some c→c≠b)∧∀ p ∈ X.pn ++ pins,p.1≠b) :
  Inv X pins σ H' { s with heap:=h',gens:=g',drawn:=d',toks:=t' }:=by
 obtain ⟨m,⟨o,es,ep,ho,r⟩,_⟩:=id I.loc
 obtain ⟨sl,hL⟩:=u.any ho I.free fun z=>(hch _ z).2.1 rfl
 exact I.step (ch:=ch) hch (fun b o hL hb hc e n=>u.keep b o e n (fun z=>(Wg.mp (I.stkSub b z)).elim hL hb) hc) (fun b o _ _ hc e n=>u.any e n hc) (fun b o hc e n=>u.free b o e n hc) (fun b o hc e=>u.there b o e hc) u.tups u.frzs u.tbls (fun m' hm=>by
  obtain ⟨o',es',ep',ho',r'⟩:=hm
  rw [ho] at ho'; cases ho'
  exact ⟨_,es',ep',hL,r'⟩) hok hg
theorem Inv.turned {t':Nat} {it:Addr} (I:Inv X pins σ H s) (k:∀ b o,b≠it→s.heap.get? b=some o→h'.get? b=some o) (hn:H it=none) (hL:it≠X.env.locals)
  (h1:it ∈ X.ex∨X.s₀.heap.objs.size≤it) (h2:∀ x c,X.env.cells.lookup x=some c→c≠it) (h3:∀ p ∈ X.pn ++ pins,p.1≠it):Inv X pins σ H { s with heap:=h',toks:=t' }:=by
 have nit:∀ b u,H b=some u→b≠it:=fun b u e z=>by rw [z,hn] at e; cases e
 refine I.step (g':=s.gens) (d':=s.drawn) (ch:=[it]) (fun b hb=>?_) (fun b o _ _ hc e _=>k b o (fun z=>hc (by simp [z])) e) (fun b o _ _ hc e _=>⟨o.slots,k b o (fun z=>hc (by simp [z])) e⟩) (fun _ _ _ _ n=>n)
  (fun b o hc e=>⟨o,k b o (fun z=>hc (by simp [z])) e⟩) (fun _ _ e=>e) (fun _ _ _ e=>e) (fun b ps e=>⟨#[],by rw [e]; simp⟩) (fun m hm=>?_) (fun b u e=>?_) I.bare
 ·have e:b=it:=by simpa using hb
  subst e
  exact ⟨h1,hL,h2,h3⟩
 ·obtain ⟨o,es,ep,ho,r⟩:=hm
  exact ⟨o,es,ep,k _ o (Ne.symm hL) ho,r⟩
 ·refine (I.hok b u e).stay (fun c v hc q=>k c v ?_ q) (fun _ q=>q) fun _ _ q=>q
  rcases hc with z | z
  ·rw [z]; exact nit b u e
  ·exact nit c _ z
theorem Inv.tok (I:Inv X pins σ H s) (t:Nat):Inv X pins σ H { s with toks:=t }:=I.un (h':=s.heap) (t':=t) Un.refl I.hok
theorem Inv.kept (I:Inv X pins σ H s) (k:∀ b u,s.heap.get? b=some u→h'.get? b=some u):Inv X pins σ H { s with heap:=h',toks:=t' }:=I.un (Un.kept k) (I.hok.kept k)
theorem Inv.laid (I:Inv X pins σ H s) (k:∀ b u,s.heap.get? b=some u→h'.get? b=some u) (hp:s.heap.objs.size≤a) (new:ObjOk X.prog X.w (upd H a o) h' a o) :
  Inv X pins σ (upd H a o) { s with heap:=h',toks:=t' }:=I.un (Un.laid k hp (I.hok.fresh hp)) (I.hok.laid k hp new)
theorem Inv.write (I:Inv X pins σ H s) (mu:Mut (H x)) (he:e=x∨H e=some (.own x)) (k:∀ b u,b≠e→s.heap.get? b=some u→h'.get? b=some u) (heo:∃ u,h'.get? e=some u)
  (new:ObjOk X.prog X.w (upd H x o) h' x o):Inv X pins σ (upd H x o) { s with heap:=h',toks:=t' }:=I.un (Un.write mu he k heo) (I.hok.write mu he k heo new)
theorem Inv.weak (I:Inv X pins σ H s) (hl:σ'.length=σ.length) (w:∀ (i:Nat) v,σ'[i]? = some (some v)→σ[i]? = some (some v)):Inv X pins σ' H s :=
 ⟨I.ok,I.os,I.bare,I.base,let ⟨m,hn,hl'⟩:=I.loc; ⟨m,hn,fun i x v e1 e2 e3=>hl' i x v e1 (w i v e2) e3⟩,I.cell,I.free,I.freeC,I.pin,I.hok,hl.trans I.len⟩
theorem Inv.pins_of (I:Inv X pins σ H s) (h:∀ p ∈ pins',s.heap.get? p.1=some p.2∧H p.1=none∧p.1≠X.env.locals∧p.1 ∉ X.fs∧∀ v,p.2.data≠.cell v):Inv X pins' σ H s :=
 ⟨I.ok,I.os,I.bare,I.base,I.loc,I.cell,I.free,I.freeC,fun p hp=>(Q2.mp hp).elim (fun z=>I.pin p (J4 _ z)) (h p),I.hok,I.len⟩
theorem z77 {N:List Str} (hN:N.Nodup) {i j:Nat} {x:Str} (a:N[i]? = some x) (b:N[j]? = some x):i=j:=by
 obtain ⟨h1,e1⟩:=Wa.mp a
 obtain ⟨h2,e2⟩:=Wa.mp b
 exact (List.getElem_inj hN).mp (e1.trans e2.symm)
theorem z5E {M:Model} {A:Wn} {E:Value→W2→Prop} {i:Nat} {x:Str} {v:V} {u:Value} {Q:Unit→W2→Prop} (I:Inv X pins σ H s) (hN:X.N.Nodup) (hi:X.N[i]? = some x) (hx:Loc X.env.scope x) (r:RelV v u)
  (h:∀ s',Inv X pins (σ.set i (some v)) H s'→(∃ a,Heap.SameBut a s.heap s'.heap∧(a=X.env.locals∨X.env.cells.lookup x=some a))→Q () s') (hf:X.fn x=true∨X.env.scope.names.lookup x=some .local:=by first | exact .inl rfl | exact .inr rfl | assumption):W8 M A (storeName X.env x u) Q E s:=by
 obtain ⟨m,hn,hl⟩:=id I.loc
 have hcls:(X.env.scope.kind == .class || (X.env.scope.kind == .module && X.env.locals != X.env.globals))=false:=by rw [I.ok.kind]; rfl
 have hiσ:i < σ.length:=by rw [I.len]; exact (Wa.mp hi).1
 have cne:=I.cne
 have tracked:∀ {a:Addr} {h':Heap},(∃ o,s.heap.get? a=some o∧H a=none)→Heap.SameBut a s.heap h'→HOk X.prog X.w H h':=fun {a h'} ha hs b ob e=>by
  obtain ⟨_,_,hfree⟩:=ha
  refine (I.hok b ob e).stay (fun c w' hc q=>(hs.2 c ?_).trans q) (fun _ q=>q) fun _ _ q=>q
  rintro rfl
  rcases hc with rfl | hc
  ·rw [hfree] at e; cases e
  ·rw [hfree] at hc; cases hc
 rcases hx with hk | hk
 ·refine wpAny_storeName_local hk hn (fun h' hn' hs=>?_) hcls
  obtain ⟨oL,_,_,hoL,_⟩:=id hn
  refine h _ ⟨I.ok,I.os,I.bare,⟨fun b o e n hb hx=>?_,fun b o e n hb hx=>?_,I.base.free,fun b o e hx=>?_,I.base.tups,I.base.frzs,I.base.tbls⟩,⟨_,hn',fun j y v' e1 e2 e3=>?_⟩,fun y c e=>?_,I.free,I.freeC,fun p hp=>?_,tracked ⟨oL,hoL,I.free⟩ hs,by simpa using I.len⟩ ⟨_,hs,.inl rfl⟩
  ·exact (hs.2 b (WA (Ws (We e) I.ok.above))).trans (I.base.keep b o e n hb hx)
  ·obtain ⟨sl,e1⟩:=I.base.slot b o e n hb hx
   exact ⟨sl,(hs.2 b (WA (Ws (We e) I.ok.above))).trans e1⟩
  ·obtain ⟨o',e1⟩:=I.base.there b o e hx
   exact ⟨o',(hs.2 b (WA (Ws (We e) I.ok.above))).trans e1⟩
  ·by_cases hj:j=i
   ·subst hj
    rw [hi] at e1; cases e1
    rw [Wm hiσ] at e2
    cases e2
    exact ⟨u,r,.inl ⟨hk,by simp⟩⟩
   ·rw [W3 (Ne.symm hj)] at e2
    obtain ⟨u',r',q⟩:=hl j y v' e1 e2 e3
    refine ⟨u',r',?_⟩
    rcases q with ⟨k,e⟩ | ⟨k,c,e,z⟩
    ·refine .inl ⟨k,?_⟩
     have:y≠x:=fun e=>hj (z77 hN e1 (e ▸ hi))
     simp [this,e]
    ·exact .inr ⟨k,c,e,z.sameBut hs (cne y c e)⟩
  ·obtain ⟨w',z⟩:=I.cell y c e
   exact ⟨w',z.sameBut hs (cne y c e)⟩
  ·obtain ⟨e,n,ne,nf,d⟩:=I.pin p hp
   exact ⟨(hs.2 p.1 ne).trans e,n,ne,nf,d⟩
 ·have hfn:X.fn x=true:=by
   rcases hf with z | z
   ·exact z
   ·rw [z] at hk; cases hk
  obtain ⟨c,hc⟩:=I.ok.has x (.inl hk)
  obtain ⟨w',z⟩:=I.cell x c hc
  refine wpAny_storeName_cell I.ok.kind hk hc z (fun h' hc' hs=>?_)
  obtain ⟨oc,hoc,hocd⟩:=id z
  refine h { s with heap:=h' } ⟨I.ok,I.os,I.bare,⟨fun b o e n hb hx=>?_,fun b o e n hb hx=>?_,I.base.free,fun b o e hx=>?_,I.base.tups,I.base.frzs,I.base.tbls⟩,⟨m,hn.sameBut hs (Ne.symm (cne x c hc)),fun j y v' e1 e2 e3=>?_⟩,fun y c' e=>?_,I.free,I.freeC,fun p hp=>?_,tracked ⟨oc,hoc,I.freeC x c hc⟩ hs,by simpa using I.len⟩ ⟨c,hs,.inr hc⟩
  ·exact (hs.2 b (WA (Ws (We e) (I.ok.cab x c hfn hc)))).trans (I.base.keep b o e n hb hx)
  ·obtain ⟨sl,e1⟩:=I.base.slot b o e n hb hx
   exact ⟨sl,(hs.2 b (WA (Ws (We e) (I.ok.cab x c hfn hc)))).trans e1⟩
  ·obtain ⟨o',e1⟩:=I.base.there b o e hx
   exact ⟨o',(hs.2 b (WA (Ws (We e) (I.ok.cab x c hfn hc)))).trans e1⟩
  ·by_cases hj:j=i
   ·subst hj
    rw [hi] at e1; cases e1
    rw [Wm hiσ] at e2
    cases e2
    exact ⟨u,r,.inr ⟨.inl hk,c,hc,hc'⟩⟩
   ·rw [W3 (Ne.symm hj)] at e2
    obtain ⟨u',r',q⟩:=hl j y v' e1 e2 e3
    refine ⟨u',r',?_⟩
    rcases q with q | ⟨k,c',e,z'⟩
    ·exact .inl q
    ·refine .inr ⟨k,c',e,z'.sameBut hs ?_⟩
     rintro rfl
     exact hj (z77 hN e1 (I.ok.inj _ _ _ e hc ▸ hi))
  ·by_cases hcc:c'=c
   ·subst hcc; exact ⟨_,hc'⟩
   ·obtain ⟨w2,z2⟩:=I.cell y c' e
    exact ⟨w2,z2.sameBut hs hcc⟩
  ·obtain ⟨e,n,ne,nf,d⟩:=I.pin p hp
   refine ⟨(hs.2 p.1 ?_).trans e,n,ne,nf,d⟩
   intro q
   rw [q,hoc] at e
   have q':oc=p.2:=Wu e
   exact d w' (by rw [← q']; exact hocd)
theorem z8R (I:Inv X pins σ H s) (hN:X.N.Nodup) (hi:X.N[i]? = some x) (hx:Loc X.env.scope x) (r:RelV v u)
  (h:∀ s',Inv X pins (σ.set i (some v)) H s'→Q () s') (hf:X.fn x=true∨X.env.scope.names.lookup x=some .local:=by first | exact .inl rfl | exact .inr rfl | assumption):W8 M A (storeName X.env x u) Q E s :=
 z5E I hN hi hx r (fun s' I' _=>h s' I') hf
theorem Inv.call' (I:Inv X pins σ H s) (ho:s'.os=s.os) (u:Un (frs X.stack) ch H H' s.heap s'.heap) (hok:HOk X.prog X.w H' s'.heap) (hg:AllBare s'.gens)
  (hch:∀ b ∈ ch,(b ∈ X.ex∨X.s₀.heap.objs.size≤b)∧b≠X.env.locals∧(∀ x c,X.env.cells.lookup x=some c→c≠b)∧∀ p ∈ X.pn ++ pins,p.1≠b):Inv X pins σ H' s':=by
 obtain ⟨h',g',d',t',o'⟩:=s'
 have e:o'=s.os:=ho
 subst e
 exact I.call (g':=g') (t':=t') (d':=d') u hok hg hch
end
abbrev XK:=Value→Option Addr→Hp→Prop
abbrev St:=List (Option V)
abbrev VK:=V→Hp→Prop
abbrev TE:=St→Hp→VK→Prop
abbrev TT:=St→Hp→(Bool→Hp→Prop)→Prop
abbrev TA:=St→Hp→(List V→Hp→Prop)→Prop
structure Ends where
 nx:St→Hp→Prop
 rt:VK
 bk:St→Hp→Prop:=fun _ _=>False
 ct:St→Hp→Prop:=fun _ _=>False
abbrev TS:=Ends→St→Hp→Prop
def EP (X:Cx) (pins:List (Addr×Obj)) (σ:St) (Q:VK) (u:Value) (s':W2):Prop:=∃ v H',Inv X pins σ H' s'∧RelV v u∧Q v H'
def TP (X:Cx) (pins:List (Addr×Obj)) (σ:St) (Q:Bool→Hp→Prop) (b:Bool) (s':W2):Prop:=∃ H',Inv X pins σ H' s'∧Q b H'
def AP (X:Cx) (pins:List (Addr×Obj)) (σ:St) (Q:List V→Hp→Prop) (us:List Value) (s':W2):Prop:=∃ vs H',Inv X pins σ H' s'∧Vals vs us∧Q vs H'
def SP (X:Cx) (pins:List (Addr×Obj)) (D:Ends) (f:Flow) (s':W2):Prop :=
 match f with
 | .next=>∃ σ' H',Inv X pins σ' H' s'∧D.nx σ' H'
 | .brk=>∃ σ' H',Inv X pins σ' H' s'∧D.bk σ' H'
 | .cont=>∃ σ' H',Inv X pins σ' H' s'∧D.ct σ' H'
 | .ret u=>∃ v σ' H',Inv X pins σ' H' s'∧RelV v u∧D.rt v H'
def PE (X:Cx) (e:Expr) (t:TE):Prop :=
 ∀ (pins:List (Addr×Obj)) (s:W2) (σ:St) (H:Hp) (Q:VK),Inv X pins σ H s→t σ H Q→W8 (model X.prog X.w) X.A (eval e X.env) (EP X pins σ Q) X.xe s
def PT (X:Cx) (e:Expr) (t:TT):Prop :=
 ∀ (pins:List (Addr×Obj)) (s:W2) (σ:St) (H:Hp) (Q:Bool→Hp→Prop),Inv X pins σ H s→t σ H Q→W8 (model X.prog X.w) X.A (isTrue e X.env (eval e X.env)) (TP X pins σ Q) X.xe s
def PW (X:Cx) (e:Expr) (t:TT):Prop :=
 ∀ (whole:Sem Value) (pins:List (Addr×Obj)) (s:W2) (σ:St) (H:Hp) (Q:Bool→Hp→Prop),Inv X pins σ H s→t σ H Q→W8 (model X.prog X.w) X.A (isTrue e X.env whole) (TP X pins σ Q) X.xe s
theorem PW.pt (h:PW X e t):PT X e t:=h _
def PA (X:Cx) (es:List Expr) (t:TA):Prop :=
 ∀ (pos:Pos) (pins:List (Addr×Obj)) (s:W2) (σ:St) (H:Hp) (Q:List V→Hp→Prop),Inv X pins σ H s→t σ H Q→W8 (model X.prog X.w) X.A (spliced (WJ pos (W5 es X.env))) (AP X pins σ Q) X.xe s
def PS (X:Cx) (st:Stmt) (t:TS):Prop :=
 ∀ (pins:List (Addr×Obj)) (s:W2) (σ:St) (H:Hp) (D:Ends),Inv X pins σ H s→t D σ H→W8 (model X.prog X.w) X.A (exec st X.env) (SP X pins D) X.xe s
def PSs (X:Cx) (st:List Stmt) (t:TS):Prop :=
 ∀ (pins:List (Addr×Obj)) (s:W2) (σ:St) (H:Hp) (D:Ends),Inv X pins σ H s→t D σ H→W8 (model X.prog X.w) X.A (execs st X.env) (SP X pins D) X.xe s
theorem thn (h:W8 M A t Q E s) (hQ:∀ a s,Q a s→Q' a s):W8 M A t Q' E s:=WU h hQ fun _ _ x=>x
section
variable {X:Cx}
theorem bin {a b:Expr} {ta tb:TE} (ha:PE X a ta) (hb:PE X b tb) {pins:List (Addr×Obj)} {s:W2} {σ:St} {H:Hp} {R:V→V→Hp→Prop} (I:Inv X pins σ H s) (h:ta σ H fun x H1=>tb σ H1 fun y H2=>R x y H2)
  {α:Type} {Q:α→W2→Prop} {f:Value→Value→Sem α}
  (hf:∀ v u s2 x y H2,Inv X pins σ H2 s2→RelV x v→RelV y u→R x y H2→W8 (model X.prog X.w) X.A (f v u) Q X.xe s2) :
  W8 (model X.prog X.w) X.A (eval a X.env) (fun v s₁=>W8 (model X.prog X.w) X.A (eval b X.env) (fun u s₂=>W8 (model X.prog X.w) X.A (f v u) Q X.xe s₂) X.xe s₁) X.xe s:=by
 refine thn (ha pins s σ H _ I h) fun v s1 ⟨x,H1,I1,r1,q1⟩=>?_
 refine thn (hb pins s1 σ H1 _ I1 q1) fun u s2 ⟨y,H2,I2,r2,q2⟩=>?_
 exact hf v u s2 x y H2 I2 r1 r2 q2
def tVar (i:Nat):TE:=fun σ H Q=>∃ v,σ[i]? = some (some v)∧Q v H
def tC (v:V):TE:=fun _ H Q=>Q v H
theorem zgc (hN:X.N[i]? = some x) (hv:Vis X.env.scope x) (hd:(x == ("__debug__" : Str))=false:=by decide) (hcd:(x == ("__classdict__" : Str))=false:=by decide):PE X (.Name x pos) (tVar i):=by
 intro pins s σ H Q I h
 obtain ⟨v,e,h⟩:=h
 obtain ⟨m,hn,hl⟩:=I.loc
 obtain ⟨u,r,l⟩:=hl i x v hN e hv
 have fin:EP X pins σ Q u s:=⟨v,H,I,r,h⟩
 rcases l with ⟨hk,hm⟩ | ⟨hk,c,hc,hcell⟩
 ·exact wpAny_Name (wpAny_loadName_local I.ok.kind hk hn hm fin) hd
 ·rcases hk with hk | hk
  ·exact wpAny_Name (wpAny_loadName_cell I.ok.kind hk hc hcell fin) hd
  ·exact wpAny_Name (wpAny_loadName_free I.ok.kind hk hc hcell fin hcd) hd
theorem zgk {i j pos}:PE X (.Constant (.int i) j pos) (tC (.int i)):=fun _ _ _ H _ I h=>wpAny_Constant_int ⟨.int i,H,I.tok _,⟨_,rfl⟩,h⟩
theorem zeO {b j pos}:PE X (.Constant (.bool b) j pos) (tC (.bl b)):=fun _ _ _ H _ I h=>Constant_bool ⟨.bl b,H,I,rfl,h⟩
theorem zgh {j pos}:PE X (.Constant .none j pos) (tC .non):=fun _ _ _ H _ I h=>Constant_none ⟨.non,H,I,rfl,h⟩
theorem zdL {x j pos}:PE X (.Constant (.str x) j pos) (tC (.str x)):=fun _ _ _ H _ I h=>Calls.Constant_str ⟨.str x,H,I.tok _,⟨_,rfl⟩,h⟩
def Gl (X:Cx) (x:Str):Prop:=X.env.kindOf x=some .globalImplicit
theorem z3Z (I:Inv X pins σ H s) (hg:Gl X x) (hm:X.mg x=some u) (h:Q u s)
  (hd:(x == ("__debug__" : Str))=false:=by decide):W8 (model X.prog X.w) X.A (eval (.Name x pos) X.env) Q E s :=
 Calls.Name_function_global I.ok.kind hg (Calls.loadGlobal_global (by rw [I.ok.glob]; exact I.mod.glob.keeps I.bk) hm h) hd
theorem z5h (I:Inv X pins σ H s) (hg:Gl X x) (hm:X.mg x=none) (hv:Q1 x=some u) (h:Q u s)
  (hn:x≠"__name__":=by decide) (hd:(x == ("__debug__" : Str))=false:=by decide):W8 (model X.prog X.w) X.A (eval (.Name x pos) X.env) Q E s:=by
 obtain ⟨mb,h1,h2⟩:=I.mod.blt
 exact Calls.Name_function_global I.ok.kind hg (Calls.loadGlobal_builtin (by rw [I.ok.glob]; exact I.mod.glob.keeps I.bk) hm (by rw [I.ok.blt]; exact h1.keeps I.bk) ((h2 x hn).trans hv) h) hd
theorem zeL (hg:Gl X x) (hm:X.mg x=some u) (r:RelV v u) (hd:(x == ("__debug__" : Str))=false:=by decide):PE X (.Name x pos) (tC v) :=
 fun _ _ _ H _ I h=>z3Z I hg hm ⟨v,H,I,r,h⟩ hd
theorem zbc (hg:Gl X x) (hm:X.mg x=none) (hv:Q1 x=some u) (r:RelV v u) (hn:x≠"__name__":=by decide) (hd:(x == ("__debug__" : Str))=false:=by decide):PE X (.Name x pos) (tC v) :=
 fun _ _ _ H _ I h=>z5h I hg hm hv ⟨v,H,I,r,h⟩ hn hd
variable {a b:Expr} {ta tb:TE} {pos:Pos}
def PC (X:Cx) (op:CmpOp) (a b:Expr) (t:TE):Prop :=
 ∀ (pins:List (Addr×Obj)) (s:W2) (σ:St) (H:Hp) (Q:VK),Inv X pins σ H s→t σ H Q →
  W8 (model X.prog X.w) X.A (eval a X.env) (fun v s₁=>W8 (model X.prog X.w) X.A (eval b X.env) (fun u s₂=>W8 (model X.prog X.w) X.A (Wq op v u) (EP X pins σ Q) X.xe s₂) X.xe s₁) X.xe s
theorem zd2 (b:Expr) (h:op≠.In) (h2:op≠.NotIn):WQ op b=false:=by
 have e1:(op == CmpOp.In)=false:=by cases op <;> first | rfl | exact absurd rfl h
 have e2:(op == CmpOp.NotIn)=false:=by cases op <;> first | rfl | exact absurd rfl h2
 cases b <;> simp [WQ,e1,e2]
def tB (t:TE):TT:=fun σ H Q=>t σ H fun x H1=>∃ c,x = .bl c∧Q c H1
theorem pt_cmp (h:PC X op a b t) (h1:WQ op b=false:=by first | exact zd2 _ (by decide) (by decide) | rfl):PT X (.Compare a [op] [b] pos) (tB t):=by
 intro pins s σ H Q I hw
 refine wpAny_isTrue_Compare1 (thn (h pins s σ H _ I hw) fun v s1 h1=>thn h1 fun u s2 h2=>thn h2 fun c s3 ⟨x,H1,I1,r1,q1⟩=>?_) h1
 obtain ⟨d,rfl,q⟩:=q1
 cases r1
 exact WG ⟨H1,I1,q⟩
theorem zg4 (h:PE X e t) (he:∀ whole,isTrue e X.env whole=(do let v ← whole; standAt e.pos; holding [v] (truthy v)):=by intro _; rfl):PT X e (tB t):=by
 intro pins s σ H Q I hw
 refine isTrue_plain (thn (h pins s σ H _ I hw) fun v s1 ⟨x,H1,I1,r1,q1⟩=>?_) (he _)
 obtain ⟨d,rfl,q⟩:=q1
 cases r1
 exact WG ⟨H1,I1,q⟩
variable {tA tB':TT} {rest:List Expr}
def tAnd (t u:TT):TT:=fun σ H Q=>t σ H fun c H1=>if c=true then u σ H1 Q else Q false H1
def tOr (t u:TT):TT:=fun σ H Q=>t σ H fun c H1=>if c=true then Q true H1 else u σ H1 Q
def tNot (t:TT):TT:=fun σ H Q=>t σ H fun c H1=>Q (!c) H1
theorem zex (ha:PT X a tA):PW X (.BoolOp .And [a] pos) tA:=by
 intro wh pins s σ H Q I h
 refine isTrue_and (thn (ha pins s σ H Q I h) fun c s1 e=>?_)
 cases c with
 | true=>exact isTrue_and_nil e
 | false=>exact e
theorem zg2 (ha:PT X a tA):PW X (.BoolOp .Or [a] pos) tA:=by
 intro wh pins s σ H Q I h
 refine isTrue_or (thn (ha pins s σ H Q I h) fun c s1 e=>?_)
 cases c with
 | false=>exact isTrue_or_nil e
 | true=>exact e
theorem zg3 (ha:PT X a tA) (hb:PW X (.BoolOp .And (b :: rest) pos) tB'):PW X (.BoolOp .And (a :: b :: rest) pos) (tAnd tA tB'):=by
 intro wh pins s σ H Q I h
 refine isTrue_and (thn (ha pins s σ H _ I h) fun c s1 ⟨H1,I1,q1⟩=>?_)
 cases c with
 | true=>exact hb wh pins s1 σ H1 Q I1 q1
 | false=>exact ⟨H1,I1,q1⟩
theorem pw_or (ha:PT X a tA) (hb:PW X (.BoolOp .Or (b :: rest) pos) tB'):PW X (.BoolOp .Or (a :: b :: rest) pos) (tOr tA tB'):=by
 intro wh pins s σ H Q I h
 refine isTrue_or (thn (ha pins s σ H _ I h) fun c s1 ⟨H1,I1,q1⟩=>?_)
 cases c with
 | true=>exact ⟨H1,I1,q1⟩
 | false=>exact hb wh pins s1 σ H1 Q I1 q1
theorem zg5 (ha:PT X a tA):PT X (.UnaryOp .Not a pos) (tNot tA):=by
 intro pins s σ H Q I h
 exact isTrue_not (ha pins s σ H (fun c H1=>Q (!c) H1) I h)
def tAndV (ta tb:TE):TE:=fun σ H Q=>ta σ H fun x H1=>∃ c,x = .bl c∧if c=true then tb σ H1 Q else Q (.bl false) H1
def tOrV (ta tb:TE):TE:=fun σ H Q=>ta σ H fun x H1=>∃ c,x = .bl c∧if c=true then Q (.bl true) H1 else tb σ H1 Q
def tNotV (ta:TE):TE:=fun σ H Q=>ta σ H fun x H1=>∃ c,x = .bl c∧Q (.bl (!c)) H1
theorem zgf {op} (h:PE X a t):PE X (.BoolOp op [a] pos) t:=fun pins s σ H Q I hw=>BoolOp_one (h pins s σ H Q I hw)
theorem zgn (ha:PE X a ta) (hb:PE X (.BoolOp .And (b :: rest) pos) tb):PE X (.BoolOp .And (a :: b :: rest) pos) (tAndV ta tb):=by
 intro pins s σ H Q I h
 refine BoolOp_and (thn (ha pins s σ H _ I h) fun v s1 ⟨x,H1,I1,r1,q1⟩=>?_)
 obtain ⟨c,rfl,q1⟩:=q1
 cases r1
 refine WG ?_
 cases c with
 | true=>exact hb pins s1 σ H1 Q I1 q1
 | false=>exact ⟨.bl false,H1,I1,rfl,q1⟩
theorem pe_or (ha:PE X a ta) (hb:PE X (.BoolOp .Or (b :: rest) pos) tb):PE X (.BoolOp .Or (a :: b :: rest) pos) (tOrV ta tb):=by
 intro pins s σ H Q I h
 refine BoolOp_or (thn (ha pins s σ H _ I h) fun v s1 ⟨x,H1,I1,r1,q1⟩=>?_)
 obtain ⟨c,rfl,q1⟩:=q1
 cases r1
 refine WG ?_
 cases c with
 | false=>exact hb pins s1 σ H1 Q I1 q1
 | true=>exact ⟨.bl true,H1,I1,rfl,q1⟩
theorem zgg (ha:PE X a ta):PE X (.UnaryOp .Not a pos) (tNotV ta):=by
 intro pins s σ H Q I h
 refine UnaryOp_ (thn (ha pins s σ H _ I h) fun v s1 ⟨x,H1,I1,r1,q1⟩=>?_)
 obtain ⟨c,rfl,q1⟩:=q1
 cases r1
 exact not_of (WG ⟨.bl (!c),H1,I1,rfl,q1⟩)
end
def SqL (K:W0) (H:Hp) (a:Addr) (xs:List V):Prop :=
 Rd H a (.lst xs) ∨
  ∃ (o:Obj) (its:Array Value) (n:Nat),K.lookup a=some o∧o.cls = .type "list"∧o.dict=none∧o.data = .seq its n∧its.size≤W6∧Vals xs its.toList
def SqT (K:W0) (H:Hp) (a:Addr) (xs:List V):Prop :=
 Rd H a (.tup xs) ∨
  ∃ (o:Obj) (its:Array Value) (n:Nat),K.lookup a=some o∧o.cls = .type "tuple"∧o.data = .seq its n∧its.size≤W6∧Vals xs its.toList
def absV:Value→Option V
 | .none=>some .non
 | .bool b=>some (.bl b)
 | .int i _=>some (.int i)
 | .str x _=>some (.str x)
 | .bytes b _=>some (.byt b)
 | .float b _=>some (.flt b)
 | .ref a=>some (.ref a)
 | .type n=>some (.ty n)
 | _=>none
theorem RelV.abs (r:RelV x u):absV u=some x:=by
 cases x with
 | non=>cases r; rfl
 | bl _=>cases r; rfl
 | int _=>obtain ⟨t,rfl⟩:=r; rfl
 | str _=>obtain ⟨t,rfl⟩:=r; rfl
 | byt _=>obtain ⟨t,rfl⟩:=r; rfl
 | flt _=>obtain ⟨t,rfl⟩:=r; rfl
 | ref _=>cases r; rfl
 | ty _=>cases r; rfl
theorem RelV.inj (r:RelV x u) (q:RelV y u):x=y:=Wu (r.abs.symm.trans q.abs)
theorem Vals.inj:∀ {xs ys:List V} {us:List Value},Vals xs us→Vals ys us→xs=ys
 | _,_,_,.nil,.nil=>rfl
 | _,_,_,.cons r t,.cons r' t'=>by rw [r.inj r',Vals.inj t t']
section
variable {X:Cx} {pins:List (Addr×Obj)} {σ:St} {H:Hp} {s:W2} {a:Addr} {xs ys:List V}
theorem SqL.of {K:W0} (h:H a=some (.lst xs)):SqL K H a xs:=.inl (.inl h)
theorem SqT.of {K:W0} (h:H a=some (.tup xs)):SqT K H a xs:=.inl (.inl h)
theorem Inv.list (I:Inv X pins σ H s) (h:SqL X.K H a xs):∃ its:List Value,Vals xs its∧PlainL s.heap a its.toArray∧xs.length≤W6:=by
 rcases h with h | ⟨o,its,n,hk,hc,hd,hs,hz,r⟩
 ·obtain ⟨z,its,n,r,e⟩:=h.ok I.hok
  exact ⟨its,r,⟨_,n,e,rfl,rfl,rfl⟩,z⟩
 ·refine ⟨its.toList,r,⟨o,n,I.kIn a o hk,hc,hd,by simpa using hs⟩,?_⟩
  have e:=r.length
  simp only [Je] at e
  omega
theorem Inv.tuple (I:Inv X pins σ H s) (h:SqT X.K H a xs):∃ its:List Value,Vals xs its∧IsTup s.heap a its.toArray∧xs.length≤W6:=by
 rcases h with h | ⟨o,its,n,hk,hc,hs,hz,r⟩
 ·obtain ⟨z,its,r,p⟩:=h.ok I.hok
  exact ⟨its,r,p.tup,z⟩
 ·refine ⟨its.toList,r,⟨o,I.kIn a o hk,hc,n,by simpa using hs⟩,?_⟩
  have e:=r.length
  simp only [Je] at e
  omega
theorem Inv.list_inj (I:Inv X pins σ H s) (h:SqL X.K H a xs) (h':SqL X.K H a ys):xs=ys:=by
 obtain ⟨its,r,⟨o,n,e,_,_,d⟩,_⟩:=I.list h
 obtain ⟨its',r',⟨o',n',e',_,_,d'⟩,_⟩:=I.list h'
 rw [e] at e'; cases e'
 rw [d] at d'
 injection d' with d1 _
 have:its=its':=by simpa using congrArg Array.toList d1
 subst this
 exact r.inj r'
theorem Inv.tuple_inj (I:Inv X pins σ H s) (h:SqT X.K H a xs) (h':SqT X.K H a ys):xs=ys:=by
 obtain ⟨its,r,⟨o,e,_,n,d⟩,_⟩:=I.tuple h
 obtain ⟨its',r',⟨o',e',_,n',d'⟩,_⟩:=I.tuple h'
 rw [e] at e'; cases e'
 rw [d] at d'
 injection d' with d1 _
 have:its=its':=by simpa using congrArg Array.toList d1
 subst this
 exact r.inj r'
end
abbrev Cx.wish (X:Cx) (E:Value→W2→Prop):Cx:={ X with xe:=E }
abbrev Cx.nox (X:Cx):Cx:=X.wish fun _ _=>False
theorem Cx.Ok.wish {X:Cx} (ok:X.Ok) (E:Value→W2→Prop):(X.wish E).Ok :=
 ⟨ok.mod,ok.kind,ok.glob,ok.blt,ok.above,ok.inj,ok.has,ok.cab,ok.hd,ok.frames,ok.stk,ok.exf,ok.bs,ok.bsz,ok.noex,ok.exfs,ok.funs,ok.frf⟩
theorem Cx.Ok.unwish {X:Cx} {E:Value→W2→Prop} (ok:(X.wish E).Ok):X.Ok :=
 ⟨ok.mod,ok.kind,ok.glob,ok.blt,ok.above,ok.inj,ok.has,ok.cab,ok.hd,ok.frames,ok.stk,ok.exf,ok.bs,ok.bsz,ok.noex,ok.exfs,ok.funs,ok.frf⟩
section
variable {X:Cx} {pins:List (Addr×Obj)} {σ:St} {H:Hp} {s:W2} {E:Value→W2→Prop}
theorem Inv.wish (I:Inv X pins σ H s) (E:Value→W2→Prop):Inv (X.wish E) pins σ H s:=⟨I.ok.wish E,I.os,I.bare,I.base,I.loc,I.cell,I.free,I.freeC,I.pin,I.hok,I.len⟩
theorem Inv.unwish (I:Inv (X.wish E) pins σ H s):Inv X pins σ H s:=⟨I.ok.unwish,I.os,I.bare,I.base,I.loc,I.cell,I.free,I.freeC,I.pin,I.hok,I.len⟩
theorem SP.unwish (h:SP (X.wish E) pins D f s'):SP X pins D f s':=by
 cases f with
 | next=>obtain ⟨σ',H',I,q⟩:=h; exact ⟨σ',H',I.unwish,q⟩
 | brk=>obtain ⟨σ',H',I,q⟩:=h; exact ⟨σ',H',I.unwish,q⟩
 | cont=>obtain ⟨σ',H',I,q⟩:=h; exact ⟨σ',H',I.unwish,q⟩
 | ret u=>obtain ⟨v,σ',H',I,r,q⟩:=h; exact ⟨v,σ',H',I.unwish,r,q⟩
theorem PSs.nox {st:List Stmt} {t:TS} (h:PSs X.nox st t):PSs X st t:=fun pins s σ H D I hw =>
 WU (h pins s σ H D (I.wish _) hw) (fun _ _ q=>q.unwish) fun _ _ z=>False.elim z
end
section
variable {X:Cx} {st:Stmt} {rest:List Stmt} {t u:TS} {e:Expr} {te:TE} {pos:Pos}
def tNext:TS:=fun D σ H=>D.nx σ H
def tSeq (t u:TS):TS:=fun D σ H=>t { D with nx:=u D } σ H
theorem zeA:PSs X [] tNext:=fun _ _ σ H _ I h=>QT ⟨σ,H,I,h⟩
theorem zcJ (h1:PS X st t) (h2:PSs X rest u):PSs X (st :: rest) (tSeq t u):=by
 intro pins s σ H D I h
 refine wpAny_execs_cons (thn (h1 pins s σ H { D with nx:=u D } I h) fun f s1 q=>?_)
 cases f with
 | next =>
  obtain ⟨σ',H',I',q⟩:=q
  exact h2 pins s1 σ' H' D I' q
 | ret v=>exact q
 | brk=>exact q
 | cont=>exact q
theorem zb0 (h1:PS X st t):PSs X [st] t:=by
 intro pins s σ H D I h
 refine wpAny_execs_cons (thn (h1 pins s σ H D I h) fun f s1 q=>?_)
 cases f with
 | next=>exact QT q
 | ret v=>exact q
 | brk=>exact q
 | cont=>exact q
theorem Inv.quiet (I:Inv X pins σ H s):interactive X.env=false:=by simp [interactive,I.ok.kind]
def zfw (te:TE):TS:=fun D σ H=>te σ H fun _ H1=>D.nx σ H1
theorem zeD (he:PE X e te) (hs:swapsWith e none pos.line X.env=pure false:=by rfl):PS X (.Expr e pos) (zfw te):=by
 intro pins s σ H D I h
 exact wpAny_Expr_any (thn (he pins s σ H _ I h) fun v s1 ⟨x,H1,I1,r1,q1⟩=>⟨σ,H1,I1,q1⟩) I.quiet hs
def tRet (te:TE):TS:=fun D σ H=>te σ H D.rt
theorem zdJ (he:PE X e te):PS X (.Return (some e) pos) (tRet te):=by
 intro pins s σ H D I h
 exact wpAny_Return_some (thn (he pins s σ H _ I h) fun v s1 ⟨x,H1,I1,r1,q1⟩=>⟨x,σ,H1,I1,r1,q1⟩)
def tIfS (c:TT) (t u:TS):TS:=fun D σ H=>c σ H fun b H1=>if b=true then t D σ H1 else u D σ H1
theorem ps_if (hc:PT X c tc) (ha:PSs X a t) (hb:PSs X b u):PS X (.If c a b pos) (tIfS tc t u):=by
 intro pins s σ H D I h
 refine wpAny_If (thn (hc pins s σ H _ I h) fun d s1 ⟨H1,I1,q1⟩=>?_)
 cases d with
 | true=>exact ha pins s1 σ H1 D I1 q1
 | false=>exact hb pins s1 σ H1 D I1 q1
end
abbrev TG:=V→St→Hp→(St→Hp→Prop)→Prop
abbrev TGs:=List V→St→Hp→(St→Hp→Prop)→Prop
def PG (X:Cx) (target:Expr) (t:TG):Prop :=
 ∀ (pins:List (Addr×Obj)) (s:W2) (σ:St) (H:Hp) (v:V) (u:Value) (Q:St→Hp→Prop),Inv X pins σ H s→RelV v u→t v σ H Q →
  W8 (model X.prog X.w) X.A (assign target X.env u) (fun _ s'=>∃ σ' H',Inv X pins σ' H' s'∧Q σ' H') X.xe s
def PGs (X:Cx) (ts:List Expr) (t:TGs):Prop :=
 ∀ (pins:List (Addr×Obj)) (s:W2) (σ:St) (H:Hp) (vs:List V) (us:List Value) (Q:St→Hp→Prop),Inv X pins σ H s→Vals vs us→t vs σ H Q →
  W8 (model X.prog X.w) X.A (assignInOrder ((Qn ts X.env).map (·.2)) us) (fun _ s'=>∃ σ' H',Inv X pins σ' H' s'∧Q σ' H') X.xe s
abbrev TSet:=V→V→V→Hp→(Hp→Prop)→Prop
def PSet (X:Cx) (t:TSet):Prop :=
 ∀ (pins:List (Addr×Obj)) (s:W2) (σ:St) (H:Hp) (o i v:V) (ov iv u:Value) (Q:Hp→Prop),Inv X pins σ H s→RelV o ov→RelV i iv→RelV v u→t o i v H Q →
  W8 (model X.prog X.w) X.A (setItem ov iv u) (fun _ s'=>∃ H',Inv X pins σ H' s'∧Q H') X.xe s
section
variable {X:Cx} {pos:Pos}
def zf6 (i:Nat):TG:=fun v σ H Q=>Q (σ.set i (some v)) H
theorem zb8 (hN:X.N.Nodup) (hi:X.N[i]? = some x) (hx:Loc X.env.scope x) (hf:X.fn x=true∨X.env.scope.names.lookup x=some .local:=by first | exact .inl rfl | exact .inr rfl | assumption):PG X (.Name x pos) (zf6 i):=by
 intro pins s σ H v u Q I r h
 exact wpAny_assign_Name (z8R I hN hi hx r (fun s' I'=>⟨_,H,I',h⟩) hf)
def gNil:TGs:=fun vs σ H Q=>vs=[]∧Q σ H
def gCons (t:TG) (u:TGs):TGs:=fun vs σ H Q=>∃ v r,vs=v :: r∧t v σ H fun σ' H'=>u r σ' H' Q
theorem zeK:PGs X [] gNil:=by
 intro pins s σ H vs us Q I r h
 obtain ⟨e,h⟩:=h
 subst e
 cases r
 exact assignInOrder_nil ⟨σ,H,I,h⟩
theorem zcM (h1:PG X e t) (h2:PGs X es u)
  (hs:(Qn (e :: es) X.env).map (·.2)=assign e X.env :: (Qn es X.env).map (·.2):=by rfl):PGs X (e :: es) (gCons t u):=by
 intro pins s σ H vs us Q I r h
 obtain ⟨v,vr,e1,h⟩:=h
 subst e1
 cases r with
 | cons r rr =>
  rw [hs]
  refine assignInOrder_cons (thn (h1 pins s σ H _ _ _ I r h) fun _ s1 ⟨σ1,H1,I1,q1⟩=>?_)
  exact h2 pins s1 σ1 H1 _ _ Q I1 rr q1
def gTup (K:W0) (n:Nat) (t:TGs):TG:=fun v σ H Q=>∃ a xs,v = .ref a∧SqT K H a xs∧xs.length=n∧t xs σ H Q
theorem zg9 (hc:X.calm=true) (h:PGs X es t)
  (hn:(Qn es X.env).length=n:=by rfl) (hst:(Qn es X.env).findIdx? (·.1)=none:=by rfl):PG X (.Tuple es k pos) (gTup X.K n t):=by
 intro pins s σ H v u Q I r hw
 obtain ⟨a,xs,e1,hq,hl,hw⟩:=hw
 subst e1
 cases r
 obtain ⟨its,rv,ht,hz⟩:=I.tuple hq
 refine assign_Tuple_tuple (I.ok.hd hc) ht (by simp [hn,← hl,rv.length]) hst fun h' hx=>?_
 have I1:Inv X pins σ H { s with heap:=h' }:=I.kept (t':=s.toks) fun b o e=>hx b o (WA (We e)) e
 exact h pins _ σ H xs _ Q I1 (by simpa using rv) hw
def gSub (to ti:TE) (t:TSet):TG:=fun v σ H Q=>to σ H fun o H1=>ti σ H1 fun i H2=>t o i v H2 fun H3=>Q σ H3
theorem zga (ho:PE X o to) (hi:PE X i ti) (hs:PSet X t)
  (ha:∀ v,assign (.Subscript o i pos) X.env v=(do
   let ov ← holding [v] (eval o X.env)
   let iv ← holding [v,ov] (eval i X.env)
   standAt pos
   holding [v,ov,iv] (setItem ov iv v)
   release [v,ov,iv] []):=by intro _; rfl):PG X (.Subscript o i pos) (gSub to ti t):=by
 intro pins s σ H v u Q I r h
 rw [ha]
 refine W1 (WR (thn (ho pins s σ H _ I h) fun ov s1 ⟨x,H1,I1,r1,q1⟩=>?_))
 refine W1 (WR (thn (hi pins s1 σ H1 _ I1 q1) fun iv s2 ⟨y,H2,I2,r2,q2⟩=>?_))
 refine W1 (wpAny_standAt (W1 (WR (thn (hs pins s2 σ H2 x y v ov iv u _ I2 r1 r2 r q2) fun _ s3 ⟨H3,I3,q3⟩=>?_))))
 exact wpAny_release ⟨σ,H3,I3,q3⟩
def tAsg (te:TE) (g:TG):TS:=fun D σ H=>te σ H fun x H1=>g x σ H1 D.nx
theorem zdK (he:PE X e te) (hg:PG X tg g) (hs:swapsWithSole [tg] e pos.line X.env=pure false:=by rfl) (hw:swappedStores [tg] e X.env=pure none:=by rfl)
  (h1:(Qn [tg] X.env).map (·.2)=[assign tg X.env]:=by rfl):PS X (.Assign [tg] e pos) (tAsg te g):=by
 intro pins s σ H D I h
 refine wpAny_Assign_stores (thn (he pins s σ H _ I h) fun v s1 ⟨x,H1,I1,r1,q1⟩=>?_) hs hw
 rw [h1]
 exact thn (hg pins s1 σ H1 x v _ I1 r1 q1) fun _ s2 q=>q
theorem zg7 (hN:X.N.Nodup) (hi:X.N[i]? = some x) (hx:Loc X.env.scope x) (he:PE X e te) (hs:swapsWith e (some (.Name x pos')) pos.line X.env=pure false:=by rfl) (hf:X.fn x=true∨X.env.scope.names.lookup x=some .local:=by first | exact .inl rfl | exact .inr rfl | assumption) :
  PS X (.Assign [.Name x pos'] e pos) (tAsg te (zf6 i)):=by
 intro pins s σ H D I h
 refine wpAny_Assign_Name (thn (he pins s σ H _ I h) fun v s1 ⟨y,H1,I1,r1,q1⟩=>?_) hs
 exact z8R I1 hN hi hx r1 (fun s2 I2=>⟨_,H1,I2,q1⟩) hf
end
section
variable {X:Cx} {pos:Pos}
def zdA (c:TT) (tb:TS):TS:=fun D σ H=>∃ W:Nat→St→Hp→Prop,(∃ m,W m σ H)∧∀ m σ H,W m σ H →
 c σ H fun b H1=>if b=true then ∃ N:St→Hp→Prop,(∀ σ' H',N σ' H'→∃ m',m' < m∧W m' σ' H')∧tb { D with nx:=N,ct:=N,bk:=D.nx } σ H1 else D.nx σ H1
theorem zcK (hp:PassesOwn (model X.prog X.w) X.A X.env X.xe) (hc:PT X c tc) (hb:PSs X body tb):PS X (.While c body [] pos) (zdA tc tb):=by
 intro pins s σ H D I h
 obtain ⟨W,⟨m0,w0⟩,turn⟩:=h
 refine wpAny_While (codeAny_whileLoop (fun n s'=>∃ σ' H',Inv X pins σ' H' s'∧W n σ' H') ?_ m0 ⟨σ,H,I,w0⟩)
 rintro n s1 ⟨σ1,H1,I1,w1⟩
 refine Qy hp (thn (hc pins s1 σ1 H1 _ I1 (turn n σ1 H1 w1)) fun b s2 ⟨H2,I2,q2⟩=>?_)
 cases b with
 | true =>
  obtain ⟨N,hN,q2⟩:=q2
  rw [if_pos rfl]
  refine Qy hp (thn (hb pins s2 σ1 H2 _ I2 q2) fun f s3 q3=>?_)
  cases f with
  | next =>
   obtain ⟨σ3,H3,I3,n3⟩:=q3
   obtain ⟨m',hm,w3⟩:=hN σ3 H3 n3
   exact ⟨m',hm,σ3,H3,I3,w3⟩
  | cont =>
   obtain ⟨σ3,H3,I3,n3⟩:=q3
   obtain ⟨m',hm,w3⟩:=hN σ3 H3 n3
   exact ⟨m',hm,σ3,H3,I3,w3⟩
  | brk=>exact q3
  | ret v=>exact q3
 | false =>
  rw [if_neg WN]
  exact QT ⟨σ1,H2,I2,q2⟩
end
structure It where
 go:Nat→Hp→Prop
 yld:Nat→Hp→V→Hp→Prop
 stop:Nat→Hp→Prop
def FpOk (X:Cx) (pins:List (Addr×Obj)) (H:Hp) (b:Addr):Prop :=
 H b=none∧b≠X.env.locals∧b ∉ X.fs∧(b ∈ X.ex∨X.s₀.heap.objs.size≤b)∧(∀ x c,X.env.cells.lookup x=some c→c≠b)∧∀ p ∈ X.pn ++ pins,p.1≠b
theorem Inv.fpOk (I:Inv X pins σ H s) (hb:s.heap.objs.size≤b) (hn:H' b=none):FpOk X pins H' b:=by
 refine ⟨hn,Jh (Ws I.lt hb),I.nofs hb,.inr (Q5 I.sz hb),fun x c e z=>?_,fun p hp z=>?_⟩
 ·obtain ⟨v,q⟩:=I.cell x c e
  exact absurd (Ws q.lt (by rw [z]; exact hb)) (Q0 _)
 ·exact absurd (Ws (We (I.pin p hp).1) (by rw [z]; exact hb)) (Q0 _)
structure Turn (P:Wk) (w:Wp) (K:W0) (tg:Expr) (J:It) (fp:List Addr) (it:Addr) (tn:Nat→Heap→Prop):Prop where
 mem:it ∈ fp
 obj:∀ i h,tn i h→∀ b ∈ fp,∃ o,h.get? b=some o∧∀ v,o.data≠.cell v
 keep:∀ i h h',tn i h→(∀ b ∈ fp,∀ o,h.get? b=some o→h'.get? b=some o)→tn i h'
 item:∀ (X:Cx),X.prog=P→X.w=w→X.K=K→X.calm=true→∀ (i:Nat) (pins:List (Addr×Obj)) (s:W2) (σ:St) (H:Hp) (E:Value→W2→Prop),Inv X pins σ H s→(∀ b ∈ fp,FpOk X pins H b)→tn i s.heap→J.go i H →
  W8 (model P w) X.A (pyNext (.ref it)) (fun r s1=>∃ u,r=some u ∧
   W8 (model P w) X.A (letOwnedTupleGo tg (.ref it) u) (fun _ s2=>∃ x H',Inv X pins σ H' s2∧RelV x u∧J.yld i H x H'∧tn (i + 1) s2.heap∧∀ b ∈ fp,H' b=none) E s1) E s
 done:∀ (X:Cx),X.prog=P→X.w=w→X.K=K→X.calm=true→∀ (i:Nat) (pins:List (Addr×Obj)) (s:W2) (σ:St) (H:Hp) (E:Value→W2→Prop),Inv X pins σ H s→(∀ b ∈ fp,FpOk X pins H b)→tn i s.heap→J.stop i H →
  W8 (model P w) X.A (pyNext (.ref it)) (fun r s1=>r=none∧Inv X pins σ H s1) E s
 self:∀ (A:Wn) (i:Nat) (s:W2) (Q:Value→W2→Prop) (E:Value→W2→Prop),tn i s.heap→Q (.ref it) s→W8 (model P w) A (pyIter (.ref it)) Q E s
abbrev TI:=St→Hp→(It→Hp→Prop)→Prop
def PIE (X:Cx) (pins:List (Addr×Obj)) (σ:St) (tg:Expr) (R:It→Hp→Prop) (itv:Value) (s2:W2):Prop :=
 ∃ (it:Addr) (fp:List Addr) (tn:Nat→Heap→Prop) (J:It) (H':Hp),itv = .ref it∧Inv X pins σ H' s2∧Turn X.prog X.w X.K tg J fp it tn∧tn 0 s2.heap∧(∀ b ∈ fp,FpOk X pins H' b)∧R J H'
def PI (X:Cx) (tg iter:Expr) (wi:TI):Prop :=
 ∀ (pins:List (Addr×Obj)) (s:W2) (σ:St) (H:Hp) (R:It→Hp→Prop),Inv X pins σ H s→wi σ H R →
  W8 (model X.prog X.w) X.A (eval iter X.env) (fun v s1=>W8 (model X.prog X.w) X.A (pyIter v) (PIE X pins σ tg R) X.xe s1) X.xe s
theorem zde (ho:s.heap.get? it=some o) (hc:o.cls = .type n) (hd:o.data = .fields vs)
  (hn:["enumerate","zip","dict_itemiterator","dict_reverseitemiterator","odict_iterator","itertools.zip_longest","itertools.pairwise"].contains n=false) (hQ:Q () s):W8 M A (letOwnedTupleGo tg (.ref it) u) Q E s:=by
 unfold letOwnedTupleGo
 cases tg <;> first
  | exact Wc hQ
  | (cases u <;> first
    | exact Wc hQ
    | (refine W1 (wpAny_load ho ?_); rw [hc,hd]; show W8 M A (if (["enumerate","zip","dict_itemiterator","dict_reverseitemiterator","odict_iterator","itertools.zip_longest","itertools.pairwise"].contains n && vs[0]? == some (Qq _))=true then _ else _) Q E s; rw [if_neg (by intro h; rw [hn,Bool.false_and] at h; cases h)]; exact Wc hQ))
def Itl (K:W0) (a:Addr):It :=
 ⟨fun i H=>∃ xs x,SqL K H a xs∧xs[i]? = some x,fun i H x H'=>H'=H∧∀ xs,SqL K H a xs→xs[i]? = some x,fun i H=>∃ xs,SqL K H a xs∧xs.length≤i⟩
def Itt (K:W0) (a:Addr):It :=
 ⟨fun i H=>∃ xs x,SqT K H a xs∧xs[i]? = some x,fun i H x H'=>H'=H∧∀ xs,SqT K H a xs→xs[i]? = some x,fun i H=>∃ xs,SqT K H a xs∧xs.length≤i⟩
def Itr (lo:Int) (n:Nat):It:=⟨fun i _=>i < n,fun i H x H'=>H'=H∧x = .int (lo + i),fun i _=>n≤i⟩
theorem zap {P:Wk} {w:Wp} {K:W0} {tg:Expr} (a it:Addr):Turn P w K tg (Itl K a) [it] it (fun i h=>h.IsListIter it a i) where
 mem:=by simp
 obj:=fun i h st b hb=>by
  have e:b=it:=by simpa using hb
  subst e
  obtain ⟨o,e,c,d⟩:=st
  exact ⟨o,e,fun v z=>by rw [d] at z; cases z⟩
 keep:=fun i h h' st k=>st.at fun o e=>k it (by simp) o e
 item:=by
  intro X hP hw hK hc i pins s σ H E I hf st hg
  subst hP hw hK
  obtain ⟨xs,x,hq,hx⟩:=hg
  obtain ⟨its,rv,p,hz⟩:=I.list hq
  obtain ⟨u,hu,ru⟩:=rv.get hx
  obtain ⟨f0,f1,f2,f3,f4,f5⟩:=hf it (by simp)
  refine wpAny_pyNext_list_item st p.isList (x:=u) (by simpa using hu) fun h' st' sb=>?_
  have I1:Inv X pins σ H { s with heap:=h' }:=I.turned (t':=s.toks) (fun b o hb e=>(sb.2 b hb).trans e) f0 f1 f3 f4 f5
  obtain ⟨o,e,c,d⟩:=id st'
  exact ⟨u,rfl,zde (s:={ s with heap:=h' }) e c d (by decide) ⟨x,H,I1,ru,⟨rfl,fun ys hy=>by rw [I.list_inj hy hq]; exact hx⟩,st',fun b hb=>(hf b hb).1⟩⟩
 done:=by
  intro X hP hw hK hc i pins s σ H E I hf st hg
  subst hP hw hK
  obtain ⟨xs,hq,hx⟩:=hg
  obtain ⟨its,rv,p,hz⟩:=I.list hq
  obtain ⟨f0,f1,f2,f3,f4,f5⟩:=hf it (by simp)
  have hl:=rv.length
  exact wpAny_pyNext_list_end (I.ok.hd hc) st p.isList (by simp; omega) fun h' eb=>⟨rfl,I.turned (t':=s.toks) (fun b o hb e=>eb b o hb e) f0 f1 f3 f4 f5⟩
 self:=fun _ _ _ _ _ st h=>wpAny_pyIter_listiter st h
theorem z9B {P:Wk} {w:Wp} {K:W0} {tg:Expr} (a it:Addr):Turn P w K tg (Itt K a) [it] it (fun i h=>h.IsTupleIter it a i) where
 mem:=by simp
 obj:=fun i h st b hb=>by
  have e:b=it:=by simpa using hb
  subst e
  obtain ⟨o,e,c,d⟩:=st
  exact ⟨o,e,fun v z=>by rw [d] at z; cases z⟩
 keep:=fun i h h' st k=>st.at fun o e=>k it (by simp) o e
 item:=by
  intro X hP hw hK hc i pins s σ H E I hf st hg
  subst hP hw hK
  obtain ⟨xs,x,hq,hx⟩:=hg
  obtain ⟨its,rv,p,hz⟩:=I.tuple hq
  obtain ⟨u,hu,ru⟩:=rv.get hx
  obtain ⟨f0,f1,f2,f3,f4,f5⟩:=hf it (by simp)
  refine wpAny_pyNext_tuple_item st (show s.heap.IsTuple a its.toArray from p) (x:=u) (by simpa using hu) fun h' st' sb=>?_
  have I1:Inv X pins σ H { s with heap:=h' }:=I.turned (t':=s.toks) (fun b o hb e=>(sb.2 b hb).trans e) f0 f1 f3 f4 f5
  obtain ⟨o,e,c,d⟩:=id st'
  exact ⟨u,rfl,zde (s:={ s with heap:=h' }) e c d (by decide) ⟨x,H,I1,ru,⟨rfl,fun ys hy=>by rw [I.tuple_inj hy hq]; exact hx⟩,st',fun b hb=>(hf b hb).1⟩⟩
 done:=by
  intro X hP hw hK hc i pins s σ H E I hf st hg
  subst hP hw hK
  obtain ⟨xs,hq,hx⟩:=hg
  obtain ⟨its,rv,p,hz⟩:=I.tuple hq
  obtain ⟨f0,f1,f2,f3,f4,f5⟩:=hf it (by simp)
  have hl:=rv.length
  exact wpAny_pyNext_tuple_end (I.ok.hd hc) st (show s.heap.IsTuple a its.toArray from p) (by simp; omega) fun h' eb=>⟨rfl,I.turned (t':=s.toks) (fun b o hb e=>eb b o hb e) f0 f1 f3 f4 f5⟩
 self:=fun _ _ _ _ _ st h=>wpAny_pyIter_tupleiter st h
theorem z9C {P:Wk} {w:Wp} {K:W0} {tg:Expr} (it:Addr) (lo:Int) (n:Nat):Turn P w K tg (Itr lo n) [it] it (fun i h=>IsRangeIter h it (lo + (i:Nat) * 1) ((n:Int) - (i:Nat)) 1) where
 mem:=by simp
 obj:=fun i h st b hb=>by
  have e:b=it:=by simpa using hb
  subst e
  exact ⟨_,st,fun v z=>by
   have z':Data.fields _=Data.cell v:=z
   cases z'⟩
 keep:=fun i h h' st k=>k it (by simp) _ st
 item:=by
  intro X hP hw hK hc i pins s σ H E I hf st hg
  subst hP hw hK
  obtain ⟨f0,f1,f2,f3,f4,f5⟩:=hf it (by simp)
  have W:=Walks.range (prog:=X.prog) (w:=X.w) (I.ok.hd hc) it lo 1 n
  refine W.item i s _ _ hg st fun v h' tk hv st' kk=>?_
  obtain ⟨t,rfl⟩:=hv
  have I1:Inv X pins σ H { s with heap:=h',toks:=tk }:=I.turned (fun b o hb e=>kk b o (by simpa using hb) e) f0 f1 f3 f4 f5
  refine ⟨_,rfl,zde (s:={ s with heap:=h',toks:=tk }) (n:="range_iterator") st' rfl rfl (by decide) ⟨.int (lo + i),H,I1,⟨t,?_⟩,⟨rfl,rfl⟩,st',fun b hb=>(hf b hb).1⟩⟩
  rw [Int.mul_one]
 done:=by
  intro X hP hw hK hc i pins s σ H E I hf st hg
  subst hP hw hK
  obtain ⟨f0,f1,f2,f3,f4,f5⟩:=hf it (by simp)
  exact wpAny_pyNext_range_end (I.ok.hd hc) st (by have:n≤i:=hg; omega) fun h' eb=>⟨rfl,I.turned (t':=s.toks) (fun b o hb e=>eb b o hb e) f0 f1 f3 f4 f5⟩
 self:=fun _ _ _ _ _ st h=>wpAny_pyIter_rangeiter st h
section
variable {X:Cx} {tg:Expr}
theorem z91 {pins:List (Addr×Obj)} {σ:St} {H:Hp} {s:W2} {R:It→Hp→Prop} {E:Value→W2→Prop} {lo hi:Int} {t u v:Tok} {tk:Nat} (I:Inv X pins σ H s) (h1 : -(2 ^ 62)≤lo) (h2:lo < 2 ^ 62) (h3 : -(2 ^ 62)≤hi) (h4:hi < 2 ^ 62)
  (q:R (Itr lo (hi - lo).toNat) H):W8 (model X.prog X.w) X.A (pyIter (.ref s.heap.objs.size)) (PIE X pins σ tg R) E { s with heap:=s.heap.push { cls:=.type "range",data:=.fields #[.int lo t,.int hi u,.int 1 v] },toks:=tk }:=by
 refine wpAny_pyIter_range (IsRange.new ..) (small_one h1 h2 h3 h4) ?_
 have I1:Inv X pins σ H { s with heap:=s.heap.push { cls:=.type "range",data:=.fields #[.int lo t,.int hi u,.int 1 v] },toks:=tk }:=I.kept fun b o e=>W4 _ e
 refine ⟨(s.heap.push { cls:=.type "range",data:=.fields #[.int lo t,.int hi u,.int 1 v] }).objs.size,[(s.heap.push { cls:=.type "range",data:=.fields #[.int lo t,.int hi u,.int 1 v] }).objs.size],_,_,H,rfl,
  I1.kept (t':=tk) fun b o e=>W4 _ e,z9C _ lo (hi - lo).toNat,?_,fun b hb=>?_,q⟩
 ·have e1:lo + ((0:Nat):Int) * 1=lo:=by simp
  have e2:(((hi - lo).toNat:Nat):Int) - ((0:Nat):Int)=Builtin.Range.rangeSize lo hi 1:=by rw [rangeSize_one]; split <;> omega
  show IsRangeIter _ _ (lo + ((0:Nat):Int) * 1) ((((hi - lo).toNat:Nat):Int) - ((0:Nat):Int)) 1
  rw [e1,e2]
  exact Wi _ rfl
 ·have e:b=(s.heap.push { cls:=.type "range",data:=.fields #[.int lo t,.int hi u,.int 1 v] }).objs.size:=by simpa using hb
  subst e
  exact I1.fpOk (W9 _) (I1.hok.fresh (W9 _))
def iRng1 (ta:TA):TI:=fun σ H R=>ta σ H fun vs H1=>∃ j:Int,vs=[.int j]∧-(2 ^ 62)≤j∧j < 2 ^ 62∧R (Itr 0 j.toNat) H1
def iRng2 (ta:TA):TI:=fun σ H R=>ta σ H fun vs H1=>∃ i j:Int,vs=[.int i,.int j]∧(-(2 ^ 62)≤i∧i < 2 ^ 62∧-(2 ^ 62)≤j∧j < 2 ^ 62)∧R (Itr i (j - i).toNat) H1
theorem zb7 {a:Expr} {ta:TA} {p pos:Pos} (hg:Gl X "range") (hm:X.mg "range" = none) (ha:PA X [a] ta) (hs:W5 [a] X.env=[(false,eval a X.env)]:=by rfl):PI X tg (.Call (.Name "range" p) [a] [] pos) (iRng1 ta):=by
 intro pins s σ H R I h
 refine Call_ (z5h I hg hm boot_range (Q4 (thn (ha pos pins s σ H _ I h) fun us s1 ⟨vs,H1,I1,r1,q1⟩=>?_) hs rfl))
 obtain ⟨j,e,q1,q2,q⟩:=q1
 subst e
 cases r1 with
 | cons r rr =>
  cases rr
  obtain ⟨t,rfl⟩:=r
  exact call_range_1 (z91 I1 (by omega) (by omega) q1 q2 (by simpa using q))
theorem zb6 (hg:Gl X "range") (hm:X.mg "range" = none) (ha:PA X [a,b] ta) (hs:W5 [a,b] X.env=[(false,eval a X.env),(false,eval b X.env)]:=by rfl) (hs2:W5 [b] X.env=[(false,eval b X.env)]:=by rfl) :
  PI X tg (.Call (.Name "range" p) [a,b] [] pos) (iRng2 ta):=by
 intro pins s σ H R I h
 refine Call_ (z5h I hg hm boot_range (Q4 (thn (ha pos pins s σ H _ I h) fun us s1 ⟨vs,H1,I1,r1,q1⟩=>?_) (by rw [hs,hs2]) (by rw [hs2]; rfl)))
 obtain ⟨i,j,e,⟨q1,q2,q3,q4⟩,q⟩:=q1
 subst e
 cases r1 with
 | cons r rr =>
  cases rr with
  | cons r' rr =>
   cases rr
   obtain ⟨t,rfl⟩:=r
   obtain ⟨t',rfl⟩:=r'
   exact call_range_2 (z91 I1 q1 q2 q3 q4 q)
def tFor (wi:TI) (g:TG) (tb:TS):TS:=fun D σ H=>wi σ H fun J H1=>∃ W:Nat→Nat→St→Hp→Prop,(∃ m,W 0 m σ H1)∧∀ i m σ H,W i m σ H →
 (J.stop i H∧D.nx σ H)∨(J.go i H∧∃ N:St→Hp→Prop,(∀ σ' H',N σ' H'→∃ m',m' < m∧W (i + 1) m' σ' H')∧∀ x H',J.yld i H x H'→g x σ H' fun σ2 H2=>tb { D with nx:=N,ct:=N,bk:=D.nx } σ2 H2)
def z6F (fp:List Addr) (h:Heap):List (Addr×Obj):=fp.filterMap fun b=>(h.get? b).map fun o=>(b,o)
theorem z2a (hb:b ∈ fp) (e:h.get? b=some o):(b,o) ∈ z6F fp h:=List.mem_filterMap.mpr ⟨b,hb,by rw [e]; rfl⟩
theorem zbk (hp:p ∈ z6F fp h):p.1 ∈ fp∧h.get? p.1=some p.2:=by
 obtain ⟨b,hb,e⟩:=List.mem_filterMap.mp hp
 cases q:h.get? b with
 | none=>rw [q] at e; cases e
 | some o =>
  rw [q] at e
  have e':(b,o)=p:=Wu e
  subst e'
  exact ⟨hb,q⟩
theorem Inv.pinned (I:Inv X pins σ H s) (hf:∀ b ∈ fp,FpOk X pins H b) (ho:∀ b ∈ fp,∃ o,s.heap.get? b=some o∧∀ v,o.data≠.cell v):Inv X (pins ++ z6F fp s.heap) σ H s :=
 I.pins_of fun p hp=>(Q2.mp hp).elim (fun z=>I.pin p (Ww _ z)) fun z=>by
  obtain ⟨hb,e⟩:=zbk z
  obtain ⟨f0,f1,f2,_⟩:=hf p.1 hb
  obtain ⟨o,e',d⟩:=ho p.1 hb
  rw [e] at e'; cases e'
  exact ⟨e,f0,f1,f2,d⟩
theorem Inv.unpinned (I:Inv X (pins ++ pl) σ H s):Inv X pins σ H s:=I.pins_of fun p hp=>I.pin p (Ww _ (J4 _ hp))
theorem zg8 (hp:PassesOwn (model X.prog X.w) X.A X.env X.xe) (hc:X.calm=true) (hi:PI X tg iter wi) (hg:PG X tg g) (hb:PSs X body tb)
  (hs:∀ x,QC iter X.env x=pure x:=by intro _; rfl):PS X (.For tg iter body [] pos) (tFor wi g tb):=by
 intro pins s σ H D I h
 refine wpAny_For (thn (hi pins s σ H _ I h) fun v s1 h1=>thn h1 fun itv s2 h2=>?_) hs
 obtain ⟨it,fp,tn,J,H2,e,I2,T,st2,f2,W,⟨m0,w0⟩,turn⟩:=h2
 subst e
 -- what stays true of the iterator's objects through the loop
 have stat:∀ {H':Hp},(∀ b ∈ fp,H' b=none)→∀ b ∈ fp,FpOk X pins H' b:=fun hn b hb=>⟨hn b hb,(f2 b hb).2⟩
 refine codeAny_forLoop_any (fun n s'=>∃ i σ' H',Inv X pins σ' H' s'∧tn i s'.heap∧(∀ b ∈ fp,H' b=none)∧W i n σ' H') ?_ m0 ⟨0,σ,H2,I2,st2,fun b hb=>(f2 b hb).1,w0⟩
 rintro n s3 ⟨i,σ3,H3,I3,st3,fr3,w3⟩
 rcases turn i n σ3 H3 w3 with ⟨stop,qn⟩ | ⟨go,N,hN,step⟩
 ·refine Qy hp (thn (T.done X rfl rfl rfl hc i pins s3 σ3 H3 X.xe I3 (stat fr3) st3 stop) fun r s4 ⟨hr,I4⟩=>?_)
  subst hr
  exact QT ⟨σ3,H3,I4,qn⟩
 ·refine Qy hp (thn (T.item X rfl rfl rfl hc i pins s3 σ3 H3 X.xe I3 (stat fr3) st3 go) fun r s4 ⟨u,hr,h4⟩=>?_)
  subst hr
  refine Qy hp (thn h4 fun _ s5 ⟨x,H5,I5,r5,y5,st5,fr5⟩=>?_)
  have I5':=I5.pinned (stat fr5) (T.obj _ _ st5)
  refine Qy hp (thn (hg _ s5 σ3 H5 x u _ I5' r5 (step x H5 y5)) fun _ s6 ⟨σ6,H6,I6,q6⟩=>?_)
  refine Qy hp (thn (hb _ s6 σ6 H6 _ I6 q6) fun f s7 q7=>?_)
  have again:∀ {σ7:St} {H7:Hp},Inv X (pins ++ z6F fp s5.heap) σ7 H7 s7→N σ7 H7→∃ m,m < n∧∃ i σ' H',Inv X pins σ' H' s7∧tn i s7.heap∧(∀ b ∈ fp,H' b=none)∧W i m σ' H':=fun {σ7 H7} I7 n7=>by
   obtain ⟨m',hm,w7⟩:=hN σ7 H7 n7
   refine ⟨m',hm,i + 1,σ7,H7,I7.unpinned,T.keep _ _ _ st5 fun b hb o e=>(I7.pin (b,o) (Ww _ (Ww _ (z2a hb e)))).1,fun b hb=>?_,w7⟩
   obtain ⟨o,e,d⟩:=T.obj _ _ st5 b hb
   exact (I7.pin (b,o) (Ww _ (Ww _ (z2a hb e)))).2.1
  cases f with
  | next=>obtain ⟨σ7,H7,I7,n7⟩:=q7; exact again I7 n7
  | cont=>obtain ⟨σ7,H7,I7,n7⟩:=q7; exact again I7 n7
  | brk=>obtain ⟨σ7,H7,I7,q7⟩:=q7; exact ⟨σ7,H7,I7.unpinned,q7⟩
  | ret v=>obtain ⟨x7,σ7,H7,I7,r7,q7⟩:=q7; exact ⟨x7,σ7,H7,I7.unpinned,r7,q7⟩
end
abbrev R2:=V→V→Hp→VK→Prop
def OpR (X:Cx) (f:Value→Value→Sem Value) (r:R2):Prop :=
 ∀ (pins:List (Addr×Obj)) (s:W2) (σ:St) (H:Hp) (x y:V) (v u:Value) (Q:VK),Inv X pins σ H s→RelV x v→RelV y u→r x y H Q →
  W8 (model X.prog X.w) X.A (f v u) (EP X pins σ Q) X.xe s
def UnR (X:Cx) (f:Value→Sem Value) (r:V→Hp→VK→Prop):Prop :=
 ∀ (pins:List (Addr×Obj)) (s:W2) (σ:St) (H:Hp) (x:V) (v:Value) (Q:VK),Inv X pins σ H s→RelV x v→r x H Q →
  W8 (model X.prog X.w) X.A (f v) (EP X pins σ Q) X.xe s
def CallR (X:Cx) (f:Value) (r:List V→Hp→VK→Prop):Prop :=
 ∀ (pins:List (Addr×Obj)) (s:W2) (σ:St) (H:Hp) (xs:List V) (us:List Value) (Q:VK),Inv X pins σ H s→Vals xs us→r xs H Q →
  W8 (model X.prog X.w) X.A (call f us) (EP X pins σ Q) X.xe s
def tOp (r:R2) (ta tb:TE):TE:=fun σ H Q=>ta σ H fun x H1=>tb σ H1 fun y H2=>r x y H2 Q
def tUn (r:V→Hp→VK→Prop) (ta:TE):TE:=fun σ H Q=>ta σ H fun x H1=>r x H1 Q
def rI (C:Int→Int→Prop) (g:Int→Int→V):R2:=fun x y H Q=>∃ i j,x = .int i∧y = .int j∧C i j∧Q (g i j) H
def rI0 (g:Int→Int→V):R2:=fun x y H Q=>∃ i j,x = .int i∧y = .int j∧Q (g i j) H
def rU (g:Int→V):V→Hp→VK→Prop:=fun x H Q=>∃ i,x = .int i∧Q (g i) H
section
variable {X:Cx} {a b c:Expr} {ta tb tc:TE} {pos:Pos}
theorem binT (ha:PE X a ta) (hb:PE X b tb) {pins:List (Addr×Obj)} {s:W2} {σ:St} {H:Hp} {R:V→V→Hp→Prop} (I:Inv X pins σ H s)
  (h:ta σ H fun x H1=>tb σ H1 fun y H2=>R x y H2) {Q:Value→W2→Prop} {f:Value→Value→Sem Value}
  (hf:∀ v u s2 x y H2,Inv X pins σ H2 s2→RelV x v→RelV y u→R x y H2→W8 (model X.prog X.w) X.A (f v u) Q X.xe s2) :
  W8 (model X.prog X.w) X.A (eval a X.env) (fun v s₁=>W8 (model X.prog X.w) X.A (eval b X.env) (fun u s₂=>W8 (model X.prog X.w) X.A (f v u) Q X.xe s₂) X.xe s₁) X.xe s:=by
 refine thn (ha pins s σ H _ I h) fun v s1 ⟨x,H1,I1,r1,q1⟩=>?_
 refine thn (hb pins s1 σ H1 _ I1 q1) fun u s2 ⟨y,H2,I2,r2,q2⟩=>?_
 exact hf v u s2 x y H2 I2 r1 r2 q2
theorem zge {op:Operator} {r:R2} (ho:OpR X (Q9 op) r) (ha:PE X a ta) (hb:PE X b tb):PE X (.BinOp a op b pos) (tOp r ta tb):=by
 intro pins s σ H Q I h
 exact wpAny_BinOp (binT ha hb I h fun v u s2 x y H2 I2 rx ry q=>ho pins s2 σ H2 x y v u Q I2 rx ry q)
theorem pe_un (ho:UnR X (unaryOp op) r) (ha:PE X a ta):PE X (.UnaryOp op a pos) (tUn r ta):=by
 intro pins s σ H Q I h
 exact UnaryOp_ (thn (ha pins s σ H _ I h) fun v s1 ⟨x,H1,I1,r1,q1⟩=>ho pins s1 σ H1 x v Q I1 r1 q1)
theorem opI {f:Value→Value→Sem Value} {C:Int→Int→Prop} {g:Int→Int→Int}
  (rule:∀ (i j:Int) (t u:Tok) (s:W2) (Q:Value→W2→Prop) (E:Value→W2→Prop),C i j→Q (.int (g i j) s.toks) { s with toks:=s.toks + 1 }→W8 (model X.prog X.w) X.A (f (.int i t) (.int j u)) Q E s) :
  OpR X f (rI C fun i j=>.int (g i j)):=by
 intro pins s σ H x y v u Q I rx ry h
 obtain ⟨i,j,rfl,rfl,hc,q⟩:=h
 obtain ⟨t,rfl⟩:=rx
 obtain ⟨t',rfl⟩:=ry
 exact rule i j t t' s _ _ hc ⟨.int (g i j),H,I.tok _,⟨_,rfl⟩,q⟩
theorem opI0 {f:Value→Value→Sem Value} {g:Int→Int→Int}
  (rule:∀ (i j:Int) (t u:Tok) (s:W2) (Q:Value→W2→Prop) (E:Value→W2→Prop),Q (.int (g i j) s.toks) { s with toks:=s.toks + 1 }→W8 (model X.prog X.w) X.A (f (.int i t) (.int j u)) Q E s) :
  OpR X f (rI0 fun i j=>.int (g i j)):=by
 intro pins s σ H x y v u Q I rx ry h
 obtain ⟨i,j,rfl,rfl,q⟩:=h
 obtain ⟨t,rfl⟩:=rx
 obtain ⟨t',rfl⟩:=ry
 exact rule i j t t' s _ _ ⟨.int (g i j),H,I.tok _,⟨_,rfl⟩,q⟩
theorem opB0 {f:Value→Value→Sem Value} {g:Int→Int→Bool}
  (rule:∀ (i j:Int) (t u:Tok) (s:W2) (Q:Value→W2→Prop) (E:Value→W2→Prop),Q (.bool (g i j)) s→W8 (model X.prog X.w) X.A (f (.int i t) (.int j u)) Q E s) :
  OpR X f (rI0 fun i j=>.bl (g i j)):=by
 intro pins s σ H x y v u Q I rx ry h
 obtain ⟨i,j,rfl,rfl,q⟩:=h
 obtain ⟨t,rfl⟩:=rx
 obtain ⟨t',rfl⟩:=ry
 exact rule i j t t' s _ _ ⟨.bl (g i j),H,I,rfl,q⟩
def CDiv (i j:Int):Prop:=0 < j∧j < 1073741824
def CPow (i j:Int):Prop:=0≤j∧j≤1000000∧i.natAbs < 2 ^ 64
def CMul (i j:Int):Prop:=(-(2 ^ 64) < i∧i < 2 ^ 64)∨(-(2 ^ 64) < j∧j < 2 ^ 64)
theorem CMul.ok (h:CMul i j):IntMulOk i j:=by
 rcases h with ⟨h1,h2⟩ | ⟨h1,h2⟩
 ·exact .of_left (intBits_le_64 h1 h2)
 ·exact .of_right (intBits_le_64 h1 h2)
theorem op_add:OpR X (Q9 .Add) (rI0 fun i j=>.int (i + j)):=opI0 fun _ _ _ _ _ _ _ q=>add_int q
theorem zdM:OpR X (Q9 .Sub) (rI0 fun i j=>.int (i - j)):=opI0 fun _ _ _ _ _ _ _ q=>sub_int q
theorem op_mul:OpR X (Q9 .Mult) (rI CMul fun i j=>.int (i * j)):=opI fun _ _ _ _ _ _ _ hc q=>mul_int q hc.ok
theorem zbj:OpR X (Q9 .FloorDiv) (rI CDiv fun i j=>.int (i / j)):=opI fun i j _ _ _ _ _ hc q=>by
 have h1:(0:Int) < j:=hc.1
 have h2:j < 1073741824:=hc.2
 exact floordiv_int (by omega) (by rw [Int.fdiv_eq_ediv_of_nonneg i (by omega)]; exact q) (.inl (PyProof.noPylong_small (by omega)))
theorem z5R:OpR X (Q9 .Mod) (rI (fun _ j=>0 < j) fun i j=>.int (i % j)):=opI fun i j _ _ _ _ _ hc q=>by
 have h1:(0:Int) < j:=hc
 exact mod_int' (by omega) (by rw [Int.fmod_eq_emod_of_nonneg i (by omega)]; exact q)
theorem zgo:OpR X (Q9 .Pow) (rI CPow fun i j=>.int (i ^ j.toNat)):=opI fun _ _ _ _ _ _ _ hc q=>pow_int_small hc.1 hc.2.1 hc.2.2 q
theorem unI {f:Value→Sem Value} {g:Int→Int}
  (rule:∀ (i:Int) (t:Tok) (s:W2) (Q:Value→W2→Prop) (E:Value→W2→Prop),Q (.int (g i) s.toks) { s with toks:=s.toks + 1 }→W8 (model X.prog X.w) X.A (f (.int i t)) Q E s) :
  UnR X f (rU fun i=>.int (g i)):=by
 intro pins s σ H x v Q I rx h
 obtain ⟨i,rfl,q⟩:=h
 obtain ⟨t,rfl⟩:=rx
 exact rule i t s _ _ ⟨.int (g i),H,I.tok _,⟨_,rfl⟩,q⟩
theorem zft:UnR X (unaryOp .USub) (rU fun i=>.int (-i)):=unI fun _ _ _ _ _ q=>neg_int q
end
section
variable {X:Cx} {a b c:Expr} {ta tb tc:TE} {pos:Pos}
theorem z9n (I:Inv X pins σ H s) (q:Q (.bl k) H) (e:k=k'):EP X pins σ Q (.bool k') s:=by
 subst e
 exact ⟨.bl k,H,I,rfl,q⟩
theorem op_lt:OpR X (Wq .Lt) (rI0 fun i j=>.bl (decide (i < j))):=opB0 fun _ _ _ _ _ _ _ q=>lt_int q
theorem op_le:OpR X (Wq .LtE) (rI0 fun i j=>.bl (decide (i≤j))):=opB0 fun _ _ _ _ _ _ _ q=>le_int q
theorem op_gt:OpR X (Wq .Gt) (rI0 fun i j=>.bl (decide (j < i))):=opB0 fun _ _ _ _ _ _ _ q=>gt_int q
theorem op_ge:OpR X (Wq .GtE) (rI0 fun i j=>.bl (decide (j≤i))):=opB0 fun _ _ _ _ _ _ _ q=>ge_int q
theorem zbh:OpR X (Wq .Lt) (fun x y H Q=>∃ i j,x = .str i∧y = .str j∧Q (.bl (decide (i.cps.toList < j.cps.toList))) H):=by
 intro pins s σ H x y v u Q I rx ry h
 obtain ⟨i,j,rfl,rfl,q⟩:=h
 obtain ⟨t,rfl⟩:=rx
 obtain ⟨t',rfl⟩:=ry
 exact lt_str (z9n I q rfl)
theorem zbi:OpR X (Wq .In) (fun x y H Q=>∃ i j,x = .str i∧y = .str j∧Q (.bl (!(Qp j i 0 j.length 1).isEmpty)) H):=by
 intro pins s σ H x y v u Q I rx ry h
 obtain ⟨i,j,rfl,rfl,q⟩:=h
 obtain ⟨t,rfl⟩:=rx
 obtain ⟨t',rfl⟩:=ry
 exact in_str (z9n I q rfl)
theorem zbg:OpR X (Wq .IsNot) (fun x y H Q=>y = .non∧Q (.bl (!decide (x = .non))) H):=by
 intro pins s σ H x y v u Q I rx ry h
 obtain ⟨rfl,q⟩:=h
 cases ry
 refine isnot_none_gen (z9n I q ?_)
 cases x <;> first
  | (cases rx; rfl)
  | (obtain ⟨t,rfl⟩:=rx; rfl)
theorem z3o:OpR X (Wq .NotIn) (fun x y H Q=>∃ i j,x = .str i∧y = .str j∧Q (.bl (!(!(Qp j i 0 j.length 1).isEmpty))) H):=by
 intro pins s σ H x y v u Q I rx ry h
 obtain ⟨i,j,rfl,rfl,q⟩:=h
 obtain ⟨t,rfl⟩:=rx
 obtain ⟨t',rfl⟩:=ry
 exact notIn_str (z9n I q rfl)
theorem OpR.or (h:OpR X f r) (h':OpR X f r'):OpR X f (fun x y H Q=>r x y H Q∨r' x y H Q):=by
 intro pins s σ H x y v u Q I rx ry q
 rcases q with q | q
 ·exact h pins s σ H x y v u Q I rx ry q
 ·exact h' pins s σ H x y v u Q I rx ry q
theorem z0G (b:Expr) (h:op≠.In:=by decide) (h2:op≠.NotIn:=by decide):WQ op b=false:=by
 have e1:(op == CmpOp.In)=false:=by cases op <;> first | rfl | exact absurd rfl h
 have e2:(op == CmpOp.NotIn)=false:=by cases op <;> first | rfl | exact absurd rfl h2
 cases b <;> simp [WQ,e1,e2]
theorem zb9 {op:CmpOp} {r:R2} (ho:OpR X (Wq op) r) (ha:PE X a ta) (hb:PE X b tb) (hm:WQ op b=false):PE X (.Compare a [op] [b] pos) (tOp r ta tb):=by
 intro pins s σ H Q I h
 exact wpAny_Compare1 (binT ha hb I h fun v u s2 x y H2 I2 rx ry q=>ho pins s2 σ H2 x y v u Q I2 rx ry q) hm
def zee (t:TE):TT:=fun σ H Q=>t σ H fun x H'=>∃ k,x = .bl k∧Q k H'
theorem zaZ (ho:OpR X (Wq op) r) (ha:PE X a ta) (hb:PE X b tb) (hm:WQ op b=false):PT X (.Compare a [op] [b] pos) (zee (tOp r ta tb)):=by
 intro pins s σ H Q I h
 refine wpAny_isTrue_Compare1 (thn (ha pins s σ H _ I h) fun v s1 ⟨x,H1,I1,r1,q1⟩=>thn (hb pins s1 σ H1 _ I1 q1) fun u s2 ⟨y,H2,I2,r2,q2⟩ =>
  thn (ho pins s2 σ H2 x y v u _ I2 r1 r2 q2) fun c s3 ⟨z,H3,I3,r3,k,e,q3⟩=>?_) hm
 subst e
 cases r3
 exact WG ⟨H3,I3,q3⟩
def zas (r r':R2) (ta tb tc:TE):TE:=fun σ H Q=>ta σ H fun x H1=>tb σ H1 fun y H2=>r x y H2 fun z H3=>∃ k,z = .bl k ∧
 (if k=true then tc σ H3 fun w' H4=>r' y w' H4 Q else Q (.bl false) H3)
theorem zcP (ho:OpR X (Wq op) r) (ho':OpR X (Wq op') r') (ha:PE X a ta) (hb:PE X b tb) (hc:PE X c tc)
  (hm:lastMarks [op,op'] [b,c]=false:=by with_unfolding_all rfl):PE X (.Compare a [op,op'] [b,c] pos) (zas r r' ta tb tc):=by
 intro pins s σ H Q I h
 refine Compare_chain (thn (ha pins s σ H _ I h) fun v s1 ⟨x,H1,I1,r1,q1⟩=>chain_link (thn (hb pins s1 σ H1 _ I1 q1) fun u s2 ⟨y,H2,I2,r2,q2⟩ =>
  thn (ho pins s2 σ H2 x y v u _ I2 r1 r2 q2) fun d s3 ⟨z,H3,I3,r3,k,e,q3⟩=>?_)) hm
 subst e
 cases r3
 refine WG ?_
 cases k with
 | false=>exact ite_ff ⟨.bl false,H3,I3,rfl,q3⟩
 | true=>exact ite_tt (chain_last (thn (hc pins s3 σ H3 _ I3 q3) fun w' s4 ⟨z',H4,I4,r4,q4⟩=>ho' pins s4 σ H4 y z' u w' Q I4 r2 r4 q4))
theorem zcI (ho:OpR X (Wq op) r) (ho':OpR X (Wq op') r') (ha:PE X a ta) (hb:PE X b tb) (hc:PE X c tc)
  (hm:lastMarks [op,op'] [b,c]=false:=by with_unfolding_all rfl):PT X (.Compare a [op,op'] [b,c] pos) (zee (zas r r' ta tb tc)):=by
 intro pins s σ H Q I h
 refine isTrue_chain (thn (ha pins s σ H _ I h) fun v s1 ⟨x,H1,I1,r1,q1⟩=>test_link (thn (hb pins s1 σ H1 _ I1 q1) fun u s2 ⟨y,H2,I2,r2,q2⟩ =>
  thn (ho pins s2 σ H2 x y v u _ I2 r1 r2 q2) fun d s3 ⟨z,H3,I3,r3,k,e,q3⟩=>?_)) hm
 subst e
 cases r3
 refine WG ?_
 cases k with
 | false =>
  obtain ⟨k',e',q'⟩:=q3
  cases e'
  exact ite_ff ⟨H3,I3,q'⟩
 | true =>
  refine ite_tt (test_last (thn (hc pins s3 σ H3 _ I3 q3) fun w' s4 ⟨z',H4,I4,r4,q4⟩=>thn (ho' pins s4 σ H4 y z' u w' _ I4 r2 r4 q4) fun d' s5 ⟨z2,H5,I5,r5,k2,e2,q5⟩=>?_))
  subst e2
  cases r5
  exact WG ⟨H5,I5,q5⟩
theorem z6I:(W6:Nat) < 2 ^ 63:=by rw [WO]; decide
theorem op_add_str:OpR X (Q9 .Add) (fun x y H Q=>∃ i j,x = .str i∧y = .str j∧i.length + j.length≤W6∧Q (.str (i ++ j)) H):=by
 intro pins s σ H x y v u Q I rx ry h
 obtain ⟨i,j,rfl,rfl,hz,q⟩:=h
 obtain ⟨t,rfl⟩:=rx
 obtain ⟨t',rfl⟩:=ry
 exact add_str (fun t' tk=>⟨.str (i ++ j),H,I.tok _,⟨_,rfl⟩,q⟩) hz
theorem z3F (r:Vals [x] us):∃ u,us=[u]∧RelV x u:=by
 cases r with
 | cons r1 r2=>cases r2; exact ⟨_,rfl,r1⟩
theorem zam (r:Vals [x,y] us):∃ u w',us=[u,w']∧RelV x u∧RelV y w':=by
 cases r with
 | cons r1 r2 =>
  cases r2 with
  | cons r3 r4=>cases r4; exact ⟨_,_,rfl,r1,r3⟩
theorem zc5 (hc:X.calm=true):CallR X (.builtin "max") (fun xs H Q=>∃ i j,xs=[.int i,.int j]∧Q (.int (if j > i then j else i)) H):=by
 intro pins s σ H xs us Q I r h
 obtain ⟨i,j,rfl,q⟩:=h
 obtain ⟨u,w',rfl,⟨t,rfl⟩,⟨t',rfl⟩⟩:=zam r
 refine max_two_ints (I.ok.hd hc) fun h' tk k=>⟨_,H,I.kept k,?_,q⟩
 by_cases hj:j > i
 ·rw [if_pos hj,if_pos hj]; exact ⟨_,rfl⟩
 ·rw [if_neg hj,if_neg hj]; exact ⟨_,rfl⟩
theorem zc7:CallR X (.type "int") (fun xs H Q=>(∃ i,xs=[.int i]∧Q (.int i) H)∨∃ k,xs=[.bl k]∧Q (.int (if k then 1 else 0)) H):=by
 intro pins s σ H xs us Q I r h
 rcases h with ⟨i,rfl,q⟩ | ⟨k,rfl,q⟩
 ·obtain ⟨u,rfl,t,rfl⟩:=z3F r
  exact call_int_int ⟨.int i,H,I,⟨_,rfl⟩,q⟩
 ·obtain ⟨u,rfl,r1⟩:=z3F r
  cases r1
  exact call_int_bool ⟨.int (if k then 1 else 0),H,I.tok _,⟨_,rfl⟩,q⟩
end
structure ObjM (h:Heap) (x dx C:Addr) (mA:Str→Option Value):Prop where
 obj:h.get? x=some (PySem.W.instObj C dx)
 ns:h.Ns1 dx mA
 ne:dx≠x
theorem z7T {h:Heap} {dx:Addr} {mA:Str→Option Value} (n:h.Ns1 dx mA):∃ od,h.get? dx=some od∧∀ name,PySem.W.lookIn name od=some (mA name):=by
 obtain ⟨o,es,ep,ho,hd,hk,_,hm⟩:=n
 refine ⟨o,ho,fun name=>?_⟩
 have e:=hm name
 unfold nsFind findBy at e
 rw [← Array.find?_toList] at e
 unfold PySem.W.lookIn
 rw [hd]
 dsimp only
 split
 ·rename_i y q
  rw [q] at e
  exact congrArg some e
 ·rename_i q
  rw [q] at e
  have a:es.toList.any (·.refKey)=false:=by
   rw [List.any_eq_false]
   intro y hy
   obtain ⟨z,t,hkey⟩:=hk y (Array.mem_toList_iff.mp hy)
   simp [DictEntry.refKey,hkey]
  have a':¬ es.toList.any (·.refKey)=true:=by rw [a]; exact WN
  rw [if_neg a']
  exact congrArg some e
theorem ObjM.look (I:ObjM h x dx C mA):∃ od,PySem.W.InstAt h x (PySem.W.instObj C dx) C (some od)∧∀ name,PySem.W.lookIn name od=some (mA name) :=
 let ⟨od,ho,hl⟩:=z7T I.ns
 ⟨od,⟨I.obj,rfl,rfl,ho⟩,hl⟩
section
variable {prog:Wk} {w:Wp} {A:Wn} {E:Value→W2→Prop} {s:W2} {K:W0} {x dx C f:Addr} {mA:Str→Option Value} {name:Str} {v:Value}
end
theorem RelO.some_of (r:RelO (some v) o):∃ u,o=some u∧RelV v u:=by
 cases o with
 | none=>exact (show False from r).elim
 | some u=>exact ⟨u,rfl,r⟩
theorem zbG (r:RelV v u):PySem.W.handedIn u=true:=by
 cases v with
 | non=>cases (show u=Value.none from r); rfl
 | bl b=>cases (show u=Value.bool b from r); rfl
 | int i=>obtain ⟨t,e⟩:=(show ∃ t,u=Value.int i t from r); cases e; rfl
 | str x=>obtain ⟨t,e⟩:=(show ∃ t,u=Value.str x t from r); cases e; rfl
 | byt b=>obtain ⟨t,e⟩:=(show ∃ t,u=Value.bytes b t from r); cases e; rfl
 | flt b=>obtain ⟨t,e⟩:=(show ∃ t,u=Value.float b t from r); cases e; rfl
 | ref a=>cases (show u=Value.ref a from r); rfl
 | ty n=>cases (show u=Value.type n from r); rfl
section
variable {P:Wk} {w:Wp} {H H':Hp} {h h':Heap} {a C dx:Addr} {fs fs':List (Str×V)}
theorem zf2 (hok:HOk P w H h) (e:H a=some (.ins C dx fs)):∃ mA,ObjM h a dx C mA∧(∀ f,RelO (fs.lookup f) (mA f))∧PySem.Within mA (fs.map (·.1))∧fs.length≤1000∧H dx=some (.own a):=by
 obtain ⟨d,z,ne,ob,mA,n,r,q⟩:=(show ObjOk P w H h a (.ins C dx fs) from hok a _ e)
 exact ⟨mA,⟨ob,n,ne⟩,r,q,z,d⟩
end
structure Cls (K:W0) (C:Addr):Prop where
 pg:PySem.W.plainGet K C Str.empty=true
 hd:Jw K C=true
 po:PySem.W.plainOver K C=true
 sa:QZ K (.ref C) "__setattr__" = some (some (.builtin "object.__setattr__"))
theorem Cls.get {K:W0} {C:Addr} (c:Cls K C) (f:Str):PySem.W.plainGet K C f=true:=c.pg
structure Con (K:W0) (C:Addr) (f:Str) (v:V) (u:Value):Prop where
 at_:QZ K (.ref C) f=some (some u)
 rel:RelV v u
 get:PySem.W.specialIn K u "__get__" = some none
 cp:PySem.W.copiedNames.contains f=false
structure Meth (K:W0) (C:Addr) (m:Str) (f:Addr):Prop where
 at_:QZ K (.ref C) m=some (some (.ref f))
 fn:PySem.W.isFn K (.ref f)=true
 kp:Q6 K (.ref f)=true
section
variable {X:Cx} {pins:List (Addr×Obj)} {σ:St} {H:Hp} {s:W2} {a C dx:Addr} {fs:List (Str×V)} {f:Str} {v:V} {A:Wn} {E:Value→W2→Prop}
theorem zfm (hb:Qa e f env (eval e env)=eval e env)
  (h:W8 (model prog w) A (eval e env) (fun o s₁=>W8 (model prog w) A (getAttr o f true) Q E s₁) E s):W8 (model prog w) A (eval (.Attribute e f pos) env) Q E s :=
 Attribute_any_ h (by rw [arm_eval_Attribute,hb])
end
section
variable {X:Cx} {o e value:Expr} {f:Str} {pos pos' tpos:Pos} {ta tv:TE}
end
section
variable {X:Cx} {pins:List (Addr×Obj)} {σ:St} {H:Hp} {s:W2} {A:Wn} {E:Value→W2→Prop} {Q:Value→W2→Prop} {c:Value} {b:Bool}
inductive TyOf (K:W0) (H:Hp):V→Value→Prop where
 | non:TyOf K H .non (.type "NoneType")
 | bl (x:Bool):TyOf K H (.bl x) (.type "bool")
 | int (i:Int):TyOf K H (.int i) (.type "int")
 | str (x:Str):TyOf K H (.str x) (.type "str")
 | flt (x:UInt64):TyOf K H (.flt x) (.type "float")
 | lst {a:Addr} {xs:List V} (e:H a=some (.lst xs)):TyOf K H (.ref a) (.type "list")
 | frz {a:Addr} {o:Obj} {xs:List V} (e:H a=some (.frz o (.lst xs))):TyOf K H (.ref a) (.type "list")
 | tup {a:Addr} {xs:List V} (e:H a=some (.tup xs)):TyOf K H (.ref a) (.type "tuple")
 | dK {a:Addr} {kvs:List (Key×V)} (e:H a=some (.dK kvs)):TyOf K H (.ref a) (.type "dict")
 | dT {a:Addr} {kvs:List (List Key×V)} (e:H a=some (.dT kvs)):TyOf K H (.ref a) (.type "dict")
 | ins {a C dx:Addr} {fs:List (Str×V)} (e:H a=some (.ins C dx fs)) (cl:Cls K C) (ha:QZ K (.ref C) "__class__" = some (some (.builtin "object.__class__")))
   (hn:PySem.W.specialIn K (.builtin "object.__class__") "__get__" = some (some (.builtin "getset_descriptor.__get__"))) (htk:PySem.W.takesIn K (.builtin "object.__class__")=some true)
   (hm:PySem.W.mroIn K C (.type "object")=some true):TyOf K H (.ref a) (.ref C)
theorem z1V (I:Inv X pins σ H s) (rx:RelV x u) (ty:TyOf X.K H x t) (e:Qj X.K t c=some b) (h:∀ tk,Q (.bool b) { s with toks:=tk }) :
  W8 (model X.prog X.w) A (call (.builtin "isinstance") [u,c]) Q E s:=by
 cases ty with
 | non=>cases (show u=Value.none from rx); exact WV PySem.W.kitx_none I.kIn True.intro e (fun z=>nomatch z) h
 | bl y=>cases (show u=Value.bool y from rx); exact WV PySem.W.kitx_bool I.kIn True.intro e (fun z=>nomatch z) h
 | int i=>obtain ⟨t,q⟩:=(show ∃ t,u=Value.int i t from rx); cases q; exact WV PySem.W.kitx_int I.kIn True.intro e (fun z=>nomatch z) h
 | str y=>obtain ⟨t,q⟩:=(show ∃ t,u=Value.str y t from rx); cases q; exact WV PySem.W.kitx_str I.kIn True.intro e (fun z=>nomatch z) h
 | flt y=>obtain ⟨t,q⟩:=(show ∃ t,u=Value.float y t from rx); cases q; exact WV PySem.W.kitx_float I.kIn True.intro e (fun z=>nomatch z) h
 | @lst a xs ea =>
  cases (show u=Value.ref a from rx)
  obtain ⟨_,_,n,_,h1⟩:=(show ObjOk X.prog X.w H s.heap a (.lst xs) from I.hok a _ ea)
  exact WV PySem.W.kitx_list I.kIn ⟨_,h1,rfl⟩ e (fun z=>nomatch z) h
 | @frz a ob xs ea =>
  cases (show u=Value.ref a from rx)
  obtain ⟨_,_,_,n,_,h1⟩:=(show ObjOk X.prog X.w H s.heap a (.frz ob (.lst xs)) from I.hok a _ ea)
  exact WV PySem.W.kitx_list I.kIn ⟨_,h1,rfl⟩ e (fun z=>nomatch z) h
 | @tup a xs ea =>
  cases (show u=Value.ref a from rx)
  obtain ⟨_,_,_,p⟩:=(show ObjOk X.prog X.w H s.heap a (.tup xs) from I.hok a _ ea)
  obtain ⟨o,h1,h2,_⟩:=p.tup
  exact WV PySem.W.kitx_tuple I.kIn ⟨o,h1,h2⟩ e (fun z=>nomatch z) h
 | @dK a kvs ea =>
  cases (show u=Value.ref a from rx)
  obtain ⟨_,_,vs,_,p⟩:=(show ObjOk X.prog X.w H s.heap a (.dK kvs) from I.hok a _ ea)
  obtain ⟨o,es,ep,h1,h2,_⟩:=p
  exact WV PySem.W.kitx_dict I.kIn ⟨o,h1,h2.1⟩ e (fun z=>nomatch z) h
 | @dT a kvs ea =>
  cases (show u=Value.ref a from rx)
  obtain ⟨_,_,xs,_,o,es,ep,h1,h2,_⟩:=(show ObjOk X.prog X.w H s.heap a (.dT kvs) from I.hok a _ ea)
  exact WV PySem.W.kitx_dict I.kIn ⟨o,h1,h2.1⟩ e (fun z=>nomatch z) h
 | @ins a C dx fs ea cl ha hn htk hm =>
  cases (show u=Value.ref a from rx)
  obtain ⟨mA,O,_⟩:=zf2 I.hok ea
  obtain ⟨od,J,_⟩:=O.look
  exact WV (PySem.W.kitx_own (cl.get _) cl.hd ha hn htk hm) I.kIn J e (fun z=>nomatch z) h
end
structure Room (k:Nat) (A:Wn):Prop where
 hd:A.handled=none
 dp:A.depth + 3 * k + 5 < recursionLimit
 un:A.units + 16 * k + 200 < Ql
theorem Room.mono (r:Room k A) (h:j≤k):Room j A:=⟨r.hd,by have:=r.dp; omega,by have:=r.un; omega⟩
theorem Room.deeper (r:Room (k + 1) A) (env:Env):Room k (A.deeper env) :=
 ⟨r.hd,by have:=r.dp; show A.depth + 1 + 3 * k + 5 < _; omega,by have:=r.un; show A.units + 3 + 16 * k + 200 < _; omega⟩
theorem z9W {A:Wn} {C:Addr} {us:List Value} {kw:List (Str×Value)}:(A.under (.builtin "type.__call__" ⟨.ref C :: us,kw⟩)).depth=A.depth + 1:=by
 first | rfl | simp [Around.under,Code.weight,Code.isCreation,Code.isGuard,Code.isCaller,Code.frames,Code.isFrame,guardIds]
theorem z9V {A:Wn} {C:Addr} {us:List Value} {kw:List (Str×Value)}:(A.under (.builtin "type.__call__" ⟨.ref C :: us,kw⟩)).units=A.units + 1:=by
 first | rfl | simp [Around.under,Code.cUnits,Code.frames,Code.isFrame]
theorem Room.make (r:Room (k + 1) A) (C:Addr) (us:List Value) (kw:List (Str×Value)):Room k (A.under (.builtin "type.__call__" ⟨.ref C :: us,kw⟩)) :=
 ⟨r.hd,by have:=r.dp; rw [z9W]; omega,by have:=r.un; rw [z9V]; omega⟩
theorem Room.depth (r:Room k A):A.depth < recursionLimit:=by have:=r.dp; omega
def tNil:TA:=fun _ H Q=>Q [] H
def zfy (ta:TE) (tr:TA):TA:=fun σ H Q=>ta σ H fun x H1=>tr σ H1 fun xs H2=>Q (x :: xs) H2
section
variable {X:Cx} {e:Expr} {es:List Expr} {te:TE} {t:TA} {pos:Pos}
theorem z23:PA X [] tNil:=fun _ _ _ _ H Q I h=>Calls.spliced_nil ⟨[],H,I,.nil,h⟩
theorem z0V (ha:PE X e te) (hr:PA X es t) (hs:W5 (e :: es) X.env=(false,eval e X.env) :: W5 es X.env:=by rfl):PA X (e :: es) (zfy te t):=by
 intro pos pins s σ H Q I h
 rw [hs]
 show W8 _ _ (spliced ((false,eval e X.env) :: WJ pos (W5 es X.env))) _ _ s
 refine Calls.spliced_cons (thn (ha pins s σ H _ I h) fun u s1 ⟨x,H1,I1,r1,q1⟩=>?_)
 exact thn (hr pos pins s1 σ H1 _ I1 q1) fun us s2 ⟨xs,H2,I2,r2,q2⟩=>⟨x :: xs,H2,I2,.cons r1 r2,q2⟩
def tTup (t:TA):TE:=fun σ H Q=>t σ H fun xs H1=>xs.length≤W6∧∀ p,H1 p=none→Q (.ref p) (upd H1 p (.tup xs))
def tLst (t:TA):TE:=fun σ H Q=>t σ H fun xs H1=>xs.length≤W6∧∀ p,H1 p=none→Q (.ref p) (upd H1 p (.lst xs))
theorem zgd {x1} (h:PA X es t):PE X (.Tuple es x1 pos) (tTup t):=by
 intro pins s σ H Q I hq
 refine wpAny_Tuple_spliced (thn (h pos pins s σ H _ I hq) fun us s1 ⟨xs,H1,I1,r,z,q⟩=>⟨by rw [← r.length]; exact z,?_⟩)
 have hf:H1 s1.heap.objs.size=none:=I1.hok.fresh (W9 _)
 refine ⟨.ref s1.heap.objs.size,upd H1 s1.heap.objs.size (.tup xs),I1.laid (t':=s1.toks) (fun b u e=>W4 _ e) (W9 _) ?_,rfl,q _ hf⟩
 exact ⟨z,us,r,⟨_,Wi _ rfl⟩⟩
theorem zgi (h:PA X es t):PE X (.List es pos) (tLst t):=by
 intro pins s σ H Q I hq
 refine wpAny_List_spliced (thn (h pos pins s σ H _ I hq) fun us s1 ⟨xs,H1,I1,r,z,q⟩=>⟨by rw [← r.length]; exact z,?_⟩)
 have hf:H1 s1.heap.objs.size=none:=I1.hok.fresh (W9 _)
 refine ⟨.ref s1.heap.objs.size,upd H1 s1.heap.objs.size (.lst xs),I1.laid (t':=s1.toks) (fun b u e=>W4 _ e) (W9 _) ?_,rfl,q _ hf⟩
 exact ⟨z,us,0,r,Wi _ rfl⟩
end
abbrev Sp:=List V→Hp→VK→XK→Prop
abbrev CXT:=List Env→Hp→W2→XK→Value→W2→Prop
structure Env0 (P:Wk) (w:Wp) (K:W0) (mg:Str→Option Value) (base:Heap) (A:Wn) (outer:List Env) (s:W2) (H:Hp):Prop where
 frames:A.frames=some outer
 mod:Mod K mg base
 bs:∀ b o,base.get? b=some o→s.heap.get? b=some o∧H b=none
 bsz:base.objs.size≤s.heap.objs.size
 funs:s.heap.FunFrames base outer
 frf:∀ b ∈ frs outer,H b=none
 hok:HOk P w H s.heap
 bare:AllBare s.gens
def CE (outer:List Env) (P:Wk) (w:Wp) (H:Hp) (s:W2) (Q:VK) (u:Value) (s':W2):Prop :=
 ∃ v H',s'.os=s.os∧AllBare s'.gens∧Un (frs outer) [] H H' s.heap s'.heap∧HOk P w H' s'.heap∧RelV v u∧Q v H'
def CR (CX:CXT) (outer:List Env) (P:Wk) (w:Wp) (H:Hp) (s:W2) (Q:VK) (E:XK) (r:Result) (s':W2):Prop :=
 match r with
 | .ok (.ret u)=>CE outer P w H s Q u s'
 | .ok _=>False
 | .error e=>CX outer H s E e s'
structure FnOk (P:Wk) (w:Wp) (K:W0) (mg:Str→Option Value) (base:Heap) (CX:CXT) (k:Nat) (f:Addr) (fd:WF) (ps:List Str) (sp:Sp):Prop where
 len:∀ vs H Q E,sp vs H Q E→vs.length=ps.length
 run:∀ (A:Wn) (outer:List Env) (s:W2) (H:Hp) (args:Args) (us:List Value) (vs:List V) (Q:VK) (E:XK),Room k A→Env0 P w K mg base A outer s H→BindsTo s fd args (ps.zip us)→Vals vs us→sp vs H Q E →
  Qr (model P w) A (.call (.ref f) args) (CR CX outer P w H s Q E) s
theorem Env0.make {P:Wk} {w:Wp} {K:W0} {mg:Str→Option Value} {base:Heap} {A:Wn} {outer:List Env} {s:W2} {H:Hp} (e:Env0 P w K mg base A outer s H) (C:Addr) (us:List Value) (kw:List (Str×Value)) :
  Env0 P w K mg base (A.under (.builtin "type.__call__" ⟨.ref C :: us,kw⟩)) outer s H:=⟨by first | exact e.frames | (simpa [Around.under,Code.envs,Code.isFrame,pushEnvs] using e.frames),e.mod,e.bs,e.bsz,e.funs,e.frf,e.hok,e.bare⟩
section
variable {X:Cx} {pins:List (Addr×Obj)} {σ:St} {H:Hp} {s s':W2}
theorem Inv.env0 (I:Inv X pins σ H s):Env0 X.prog X.w X.K X.mg X.base X.A X.stack s H :=
 ⟨I.ok.frames,I.ok.mod,I.bs,Q5 I.ok.bsz I.sz,I.stack,I.stkFree,I.hok,I.bare⟩
theorem Inv.after (I:Inv X pins σ H s) (h:CE X.stack X.prog X.w H s Q u s'):EP X pins σ Q u s':=by
 obtain ⟨v,H',os,bare,un,hok,r,q⟩:=h
 obtain ⟨hh,g,d,t,os'⟩:=s'
 obtain rfl:os'=s.os:=os
 exact ⟨v,H',I.call (h':=hh) (g':=g) (d':=d) (t':=t) (ch:=[]) un hok bare (fun b z=>absurd z (by simp)),r,q⟩
end
def zeh (sp:Sp) (dvs:List V) (E:XK) (t:TA):TE:=fun σ H Q=>t σ H fun vs H1=>sp (vs ++ dvs) H1 Q E
def Binds (K:W0) (fd:WF) (ps:List Str) (ds:List Value):Prop :=
 ∀ (s:W2) (us:List Value),K.In s.heap→(us ++ ds).length=ps.length→BindsTo s fd ⟨us,[]⟩ (ps.zip (us ++ ds))
theorem Binds.all {K:W0} {fd:WF} {ps:List Str} (h:∀ us:List Value,us.length=ps.length→bindArgs fd ⟨us,[]⟩=pure (ps.zip us)):Binds K fd ps []:=fun s us _ hl=>by
 rw [WW] at hl ⊢
 exact .of_eq (h us hl)
def zch (CX:CXT) (X:Cx) (E:XK):Prop:=∀ (pins:List (Addr×Obj)) (σ:St) (H:Hp) (s:W2) (e:Value) (s':W2),Inv X pins σ H s→CX X.stack H s E e s'→X.xe e s'
section
variable {X:Cx} {CX:CXT} {k:Nat} {f C:Addr} {fd:WF} {ps:List Str} {sp:Sp} {dvs:List V} {ds:List Value} {E:XK} {x m:Str} {p pos apos:Pos} {e o:Expr} {es:List Expr} {ta:TE} {t:TA}
theorem zfK (F:FnOk X.prog X.w X.K X.mg X.base CX k f fd ps sp) (hr:Room k X.A) (hb:Binds X.K fd ps ds) (hd:Vals dvs ds) (hx:zch CX X E)
  (I:Inv X pins σ H s) (r:Vals vs us) (h:sp (vs ++ dvs) H Q E):W8 (model X.prog X.w) X.A (call (.ref f) us) (EP X pins σ Q) X.xe s:=by
 have r2:Vals (vs ++ dvs) (us ++ ds):=r.append hd
 have hl:(us ++ ds).length=ps.length:=by rw [← r2.length]; exact F.len _ _ _ _ h
 refine wpAny_call (Ji (F.run X.A X.stack s H ⟨us,[]⟩ (us ++ ds) (vs ++ dvs) Q E hr I.env0 (hb s us I.kIn hl) r2 h) fun r s' hq=>?_)
 cases r with
 | error e=>exact hx pins σ H s e s' I hq
 | ok fl =>
  cases fl with
  | ret u=>exact I.after hq
  | next=>exact False.elim hq
  | brk=>exact False.elim hq
  | cont=>exact False.elim hq
theorem zeN (F:FnOk X.prog X.w X.K X.mg X.base CX k f fd ps sp) (hr:Room k X.A) (hg:Gl X x) (hm:X.mg x=some (.ref f)) (hk:Q6 X.K (.ref f)=true) (hb:Binds X.K fd ps ds) (hd:Vals dvs ds) (hx:zch CX X E)
  (ha:PA X (e :: es) t) (hdb:(x == ("__debug__" : Str))=false:=by decide) (he:W5 (e :: es) X.env=(false,eval e X.env) :: W5 es X.env:=by rfl) (hpl:(WJ pos (W5 es X.env)).any (·.1)=false:=by rfl) :
  PE X (.Call (.Name x p) (e :: es) [] pos) (zeh sp dvs E t):=by
 intro pins s σ H Q I h
 refine Qu (z3Z I hg hm ?_ hdb)
 refine PySem.W.callWith_K (h₀:=X.base) I.ok.mod.kin hk (thn (ha pos pins s σ H _ I h) fun us s1 ⟨vs,H1,I1,r,q⟩=>⟨I1.kIn,?_⟩) he hpl
 exact zfK F hr hb hd hx I1 r q
structure Mk (K:W0) (C f:Addr):Prop where
 makes:PySem.W.makesIn K C=true
 init:QZ K (.ref C) "__init__" = some (some (.ref f))
 fn:PySem.W.isFn K (.ref f)=true
 kp:Q6 K (.ref C)=true
end
section
variable {X:Cx} {CX:CXT} {k:Nat} {f C:Addr} {fd:WF} {ps ks:List Str} {sp:Sp} {E:XK} {x m:Str} {p pos apos kpos:Pos} {e o:Expr} {es:List Expr} {kws:List Keyword} {te ta:TE} {t tk:TA} {nm:Option Str}
structure KBinds (K:W0) (fd:WF) (ps ks:List Str) (g:List Value→List Value→List Value) (gV:List V→List V→List V):Prop where
 to:∀ (s:W2) (us ws:List Value),K.In s.heap→(g us ws).length=ps.length→BindsTo s fd ⟨us,ks.zip ws⟩ (ps.zip (g us ws))
 rel:∀ {vs:List V} {us:List Value} {zs:List V} {ws:List Value},Vals vs us→Vals zs ws→Vals (gV vs zs) (g us ws)
variable {g:List Value→List Value→List Value} {gV:List V→List V→List V}
end
structure FnScope (N P:List Str) (sc:Scope):Prop where
 kind:sc.kind = .function
 co:sc.isCoroutine=false
 gen:sc.isGenerator=false
 nd:N.Nodup
 pre:N.take P.length=P
 par:∀ x ∈ P,sc.names.lookup x=some .local∨sc.names.lookup x=some .cell
 nofree:∀ y ∈ sc.names,y.2≠.free
theorem z8j {kindOf:Str→Option NameKind} {x:Str}:∀ {binds:List (Str×Value)} {m:Str→Option Value},(∀ v,(x,v) ∉ binds)→bindL kindOf binds m x=m x
 | [],_,_=>rfl
 | (n,v) :: r,m,h=>by
  unfold bindL
  rw [z8j fun w hw=>h w (Wl _ hw)]
  split
  ·have:x≠n:=by rintro rfl; exact h v Wy
   simp [this]
  ·rfl
theorem z8l {kindOf:Str→Option NameKind} {x:Str}:∀ {binds:List (Str×Value)} {m:Str→Option Value},(∀ v,(x,v) ∉ binds)→bindC kindOf binds m x=m x
 | [],_,_=>rfl
 | (n,v) :: r,m,h=>by
  unfold bindC
  rw [z8l fun w hw=>h w (Wl _ hw)]
  split
  ·rfl
  ·have:x≠n:=by rintro rfl; exact h v Wy
   simp [this]
theorem z8k {kindOf:Str→Option NameKind} {x:Str} {v:Value}:∀ {P:List Str} {vs:List Value} {i:Nat} {m:Str→Option Value},P.Nodup→P[i]? = some x→vs[i]? = some v→kindOf x=some .local →
  bindL kindOf (P.zip vs) m x=some v
 | [],_,_,_,_,h,_,_=>by simp at h
 | _ :: _,[],_,_,_,_,h,_=>by simp at h
 | p :: P,w :: vs,0,m,nd,h1,h2,hk=>by
  simp at h1 h2; subst h1; subst h2
  show bindL kindOf ((p,w) :: P.zip vs) m p=_
  unfold bindL
  rw [z8j fun v hv=>(Qz.mp nd).1 (JD hv).1,if_pos hk]
  simp
 | p :: P,w :: vs,i + 1,m,nd,h1,h2,hk=>by
  show bindL kindOf ((p,w) :: P.zip vs) m x=_
  unfold bindL
  exact z8k (i:=i) (Qz.mp nd).2 (by simpa using h1) (by simpa using h2) hk
theorem z8m {kindOf:Str→Option NameKind} {x:Str} {v:Value}:∀ {P:List Str} {vs:List Value} {i:Nat} {m:Str→Option Value},P.Nodup→P[i]? = some x→vs[i]? = some v→kindOf x≠some .local →
  bindC kindOf (P.zip vs) m x=some v
 | [],_,_,_,_,h,_,_=>by simp at h
 | _ :: _,[],_,_,_,_,h,_=>by simp at h
 | p :: P,w :: vs,0,m,nd,h1,h2,hk=>by
  simp at h1 h2; subst h1; subst h2
  show bindC kindOf ((p,w) :: P.zip vs) m p=_
  unfold bindC
  rw [z8l fun v hv=>(Qz.mp nd).1 (JD hv).1,if_neg hk]
  simp
 | p :: P,w :: vs,i + 1,m,nd,h1,h2,hk=>by
  show bindC kindOf ((p,w) :: P.zip vs) m x=_
  unfold bindC
  exact z8m (i:=i) (Qz.mp nd).2 (by simpa using h1) (by simpa using h2) hk
def start (N:List Str) (vs:List V):St:=vs.map some ++ Wb (N.length - vs.length) none
def cxOf (CX:CXT) (P:Wk) (w:Wp) (K:W0) (mg:Str→Option Value) (base:Heap) (N:List Str) (qual:Str) (scope:Scope) (f:Addr) (cd:Value) (A:Wn) (outer:List Env) (s:W2) (H:Hp) (E:XK):Cx where
 prog:=P
 w:=w
 K:=K
 mg:=mg
 base:=base
 A:=A.deeper (QI qual scope s.heap.objs.size f cd)
 N:=N
 s₀:=s
 H₀:=H
 env:=QI qual scope s.heap.objs.size f cd
 outer:=outer
 stack:=QI qual scope s.heap.objs.size f cd :: outer
 ex:=[]
 calm:=true
 fn:=fun _=>true
 pn:=[]
 xe:=fun e s'=>W8 (model P w) (A.deeper (QI qual scope s.heap.objs.size f cd)) (leaving (QI qual scope s.heap.objs.size f cd) e) (fun _ s''=>CX outer H s E e s'') (fun e' s''=>CX outer H s E e' s'') s'
theorem z9u {sc:Scope} {n:Nat} {x:Str} (h:sc.names.lookup x=some .cell):∃ c,(Qd n sc.names []).lookup x=some c:=by
 have q:=QW sc.names n [] (.inl h)
 exact QJ.mp q
theorem z80 {CX:CXT} {P:Wk} {w:Wp} {K:W0} {mg:Str→Option Value} {base:Heap} {N ps:List Str} {qual:Str} {scope:Scope} {f:Addr} {cd:Value} {A:Wn} {outer:List Env} {s s1:W2} {H:Hp} {E:XK} {us:List Value} {vs:List V}
  (S:FnScope N ps scope) (hd:A.handled=none) (e0:Env0 P w K mg base A outer s H) (hl:vs.length=ps.length) (r:Vals vs us)
  (x:InCallC s s.heap.objs.size (bindL (QI qual scope s.heap.objs.size f cd).kindOf (ps.zip us) fun _=>none) (Qd (s.heap.objs.size + 1) scope.names []) (bindC (QI qual scope s.heap.objs.size f cd).kindOf (ps.zip us) fun _=>none) s1) :
  Inv (cxOf CX P w K mg base N qual scope f cd A outer s H E) [] (start N vs) H s1:=by
 have hpl:ps.length≤N.length:=by have:=congrArg List.length S.pre; rw [JC] at this; omega
 obtain ⟨h1,tk,rfl,hk⟩:=x.done
 have noA:∀ b:Addr,b ∉ (cxOf CX P w K mg base N qual scope f cd A outer s H E).ex:=fun b z=>absurd (show b ∈ ([]:List Addr) from z) (by simp)
 refine ⟨⟨e0.mod,S.kind,rfl,rfl,W9 _,fun y z c h1 h2=>?_,fun y hy=>?_,fun y c _ h=>?_,fun _=>hd,Around.frames_deeper e0.frames,.inr ⟨rfl,rfl⟩,fun b z=>absurd z (noA b),e0.bs,e0.bsz,fun b _ _=>noA b,fun b z=>absurd z (noA b),e0.funs,e0.frf⟩,
  rfl,e0.bare,Un.kept hk,⟨_,x.toInCall.ns,fun i y v h1 h2 h3=>?_⟩,fun y c h=>⟨_,x.cell y c h⟩,e0.hok.fresh (W9 _),fun y c h=>?_,fun p hp=>absurd (show p ∈ ([]:List (Addr×Obj)) from hp) (by simp),e0.hok.kept hk,?_⟩
 ·exact name_of_addr x.apart (Wt h1) (Wt h2)
 ·have hy:scope.names.lookup y=some .cell∨scope.names.lookup y=some .free:=hy
  rcases hy with hy | hy
  ·exact z9u hy
  ·exact absurd rfl (S.nofree _ (Wt hy))
 ·exact Jg (x.above y c (Wt h))
 ·have hi:i < vs.length:=by
   unfold start at h2
   by_cases hi:i < vs.length
   ·exact hi
   ·rw [List.getElem?_append_right (by simpa using hi)] at h2
    rw [List.getElem?_replicate] at h2
    split at h2 <;> cases h2
  have ha:vs[i]? = some v:=by
   unfold start at h2
   rw [List.getElem?_append_left (by simpa using hi),Qb] at h2
   cases e:vs[i]? with
   | none=>rw [e] at h2; cases h2
   | some a=>rw [e] at h2; cases h2; rfl
  obtain ⟨u,hu,rv⟩:=r.get ha
  have hp:ps[i]? = some y:=by
   rw [← S.pre,List.getElem?_take_of_lt (by omega)]; exact h1
  have ndP:ps.Nodup:=by rw [← S.pre]; exact S.nd.sublist (List.take_sublist _ _)
  refine ⟨u,rv,?_⟩
  rcases S.par y (Wr hp) with k | k
  ·exact .inl ⟨k,z8k ndP hp hu k⟩
  ·obtain ⟨c,e⟩:=z9u (n:=s.heap.objs.size + 1) k
   refine .inr ⟨.inl k,c,e,?_⟩
   have q:=x.cell y c e
   rw [z8m ndP hp hu (by show scope.names.lookup y≠_; rw [k]; decide)] at q
   exact q
 ·exact e0.hok.fresh (Jg (x.above y c (Wt h)))
 ·unfold start
  show _=N.length
  rw [Qv,WC,List.length_replicate]
  omega
theorem zgS {CX:CXT} {P:Wk} {w:Wp} {K:W0} {mg:Str→Option Value} {base:Heap} {k:Nat} {f:Addr} {name qual:Str} {params:Arguments} {body:List Stmt} {scope:Scope} {dV kV doc pm cdv ct oc:Value} {an od:Option Addr}
  {osl:Array (Option Value)} {N ps:List Str} {sp:Sp} (lk:K.lookup f=some ⟨oc,od,.func (Qg name qual params body scope dV kV doc pm an cdv ct),osl⟩) (hcd:PySem.W.codeIn K cdv qual=true) (S:FnScope N ps scope)
  (len:∀ vs H Q E,sp vs H Q E→vs.length=ps.length)
  (hbody:∀ (A:Wn) (outer:List Env) (s:W2) (H:Hp) (vs:List V) (Q:VK) (E:XK),Room k (A.deeper (QI qual scope s.heap.objs.size f cdv))→sp vs H Q E →
   ∃ t,PSs (cxOf CX P w K mg base N qual scope f cdv A outer s H E) body t∧t { nx:=fun _ H'=>Q .non H',rt:=Q } (start N vs) H) :
  FnOk P w K mg base CX (k + 1) f (Qg name qual params body scope dV kV doc pm an cdv ct) ps sp:=by
 refine ⟨len,fun A outer s H args us vs Q E hr e0 hb r hsp=>?_⟩
 have hl:=len _ _ _ _ hsp
 have KX:K.In s.heap:=e0.mod.kin.keeps fun b o e=>(e0.bs b o e).1
 have lim:s.heap.NoLimit:=e0.mod.nolimit.keeps fun b o e=>(e0.bs b o e).1
 have hkind:∀ y ∈ ps.zip us,scope.names.lookup y.1=some .local∨(scope.names.lookup y.1=some .cell∧((Qd (s.heap.objs.size + 1) scope.names []).lookup y.1).isSome=true):=fun ⟨n,v⟩ hy=>by
  rcases S.par n (JD hy).1 with q | q
  ·exact .inl q
  ·exact .inr ⟨q,QW _ _ _ (.inl q)⟩
 refine codeAny_call_function hr.depth (KX _ _ lk) rfl S.co S.gen rfl (PySem.W.codeRec_of KX hcd) (hb _ _ _ _ ?_)
 refine wpAny_newFunctionEnv_cells S.kind hkind fun env he s1 x=>?_
 subst he
 refine ⟨lim.keeps x.toInCall.keep,codeAny_func ?_⟩
 obtain ⟨t,ht,hq⟩:=hbody A outer s H vs Q E (hr.deeper _) hsp
 have I:Inv (cxOf CX P w K mg base N qual scope f cdv A outer s H E) [] (start N vs) H s1:=z80 S hr.hd e0 hl r x
 refine WU (ht [] s1 (start N vs) H _ I hq) (fun fl s' hs=>?_) fun e s' hs=>hs
 have fin:∀ {σ':St} {H':Hp} {v:V} {u:Value},Inv (cxOf CX P w K mg base N qual scope f cdv A outer s H E) [] σ' H' s'→RelV v u→Q v H'→CE outer P w H s Q u s' :=
  fun {σ' H' v u} J rv q=>⟨v,H',J.os,J.bare,J.base,J.hok,rv,q⟩
 cases fl with
 | ret u =>
  obtain ⟨v,σ',H',J,rv,q⟩:=hs
  exact fin J rv q
 | next =>
  obtain ⟨σ',H',J,q⟩:=hs
  exact fin (v:=V.non) (u:=Value.none) J rfl q
 | brk =>
  obtain ⟨_,_,_,q⟩:=hs
  exact False.elim q
 | cont =>
  obtain ⟨_,_,_,q⟩:=hs
  exact False.elim q
section
variable {X:Cx} {x:Str} {p pos:Pos} {e:Expr} {es:List Expr} {t:TA} {id T:String} {r:List V→Hp→VK→Prop}
def tCB (r:List V→Hp→VK→Prop) (t:TA):TE:=fun σ H Q=>t σ H fun vs H1=>r vs H1 Q
theorem z4q (hc:CallR X (.builtin id) r) (hg:Gl X x) (hm:X.mg x=none) (hv:Q1 x=some (.builtin id)) (ha:PA X (e :: es) t) (hn:x≠"__name__":=by decide) (hdb:(x == ("__debug__" : Str))=false:=by decide)
  (he:W5 (e :: es) X.env=(false,eval e X.env) :: W5 es X.env:=by rfl) (hpl:(WJ pos (W5 es X.env)).any (·.1)=false:=by rfl):PE X (.Call (.Name x p) (e :: es) [] pos) (tCB r t):=by
 intro pins s σ H Q I h
 refine Qu (z5h I hg hm hv ?_ hn hdb)
 exact PyProof.Rows.callWith_builtin1 (thn (ha pos pins s σ H _ I h) fun us s1 ⟨vs,H1,I1,r1,q1⟩=>hc pins s1 σ H1 vs us Q I1 r1 q1) he hpl
theorem zba (hc:CallR X (.type T) r) (hg:Gl X x) (hm:X.mg x=none) (hv:Q1 x=some (.type T)) (ha:PA X (e :: es) t) (hn:x≠"__name__":=by decide) (hdb:(x == ("__debug__" : Str))=false:=by decide)
  (he:W5 (e :: es) X.env=(false,eval e X.env) :: W5 es X.env:=by rfl) (hpl:(WJ pos (W5 es X.env)).any (·.1)=false:=by rfl):PE X (.Call (.Name x p) (e :: es) [] pos) (tCB r t):=by
 intro pins s σ H Q I h
 refine Qu (z5h I hg hm hv ?_ hn hdb)
 exact Q4 (thn (ha pos pins s σ H _ I h) fun us s1 ⟨vs,H1,I1,r1,q1⟩=>hc pins s1 σ H1 vs us Q I1 r1 q1) he hpl
end
end L2
namespace HT
open PySem PyProof.Rows
section
open PySem.SeqAt
open PySem.AutoSeq1 (wpAny_loadPart')
open PySem.MeetsSeq PySem.MeetsSeq2 PySem.MeetsSeq3
end
section
variable {prog:Wk} {w:Wp} {A:Wn} {E:Value→W2→Prop} {s:W2}
theorem cat_tup (ht:IsTup s.heap t vs.toArray) (hb:IsTup s.heap b ws.toArray) (hv:vs≠[])
  (h1:ws=[]→Q (.ref t) s) (h2:ws≠[]→Q (.ref s.heap.objs.size) { s with heap:=s.heap.push { cls:=.type "tuple",data:=.seq (vs ++ ws).toArray } })
  (hsz:vs.length + ws.length≤W6):W8 (model prog w) A (Q9 .Add (.ref t) (.ref b)) Q E s:=by
 obtain ⟨⟨cls,dd,data,sl⟩,ho,hc,n,hd⟩:=id ht
 obtain ⟨⟨cls2,dd2,data2,sl2⟩,ho2,hc2,n2,hd2⟩:=id hb
 simp only at hc hd hc2 hd2
 subst hc hd hc2 hd2
 have e:vs.toArray ++ ws.toArray=(vs ++ ws).toArray:=by simp
 by_cases hw:ws=[]
 ·exact concat_meets ⟨_,ho,rfl⟩ ⟨_,ho2,rfl⟩ noFill_tuple_add seq_tuple_add PySem.F.slot_tuple_add PySem.F.entry_tuple_add (PySem.F.args_tuple_add_2 _ _)
   (tuple_addW1 t b vs.toArray ws.toArray n n2 dd dd2 sl sl2 (by simpa using hv) (by simp [hw])) ⟨ho,ho2,h1 hw⟩
 ·refine concat_meets ⟨_,ho,rfl⟩ ⟨_,ho2,rfl⟩ noFill_tuple_add seq_tuple_add PySem.F.slot_tuple_add PySem.F.entry_tuple_add (PySem.F.args_tuple_add_2 _ _)
   (tuple_addW2 t b vs.toArray ws.toArray n n2 dd dd2 sl sl2 (by simpa using hv) (by simpa using hw) (by rw [Wd,Wd]; exact hsz)) ⟨ho,ho2,?_⟩
  rw [e]
  exact h2 hw
def sIx (n d:Nat):Option Int→Nat
 | none=>d
 | some v=>if v < 0 then (v + (n:Int)).toNat else min v.toNat n
theorem sIx_le (n d:Nat) (hd:d≤n) (o:Option Int):sIx n d o≤n:=by
 cases o with
 | none=>exact hd
 | some v =>
  show (if v < 0 then (v + (n:Int)).toNat else min v.toNat n)≤n
  by_cases hv:v < 0
  ·rw [if_pos hv]; omega
  ·rw [if_neg hv]; exact Nat.min_le_right _ _
theorem zc2 (v:Int) (n d:Nat):(if v < 0 then max (v + (n:Int)) 0 else min v (n:Int))=((sIx n d (some v):Nat):Int):=by
 show (if v < 0 then max (v + (n:Int)) 0 else min v (n:Int))=(((if v < 0 then (v + (n:Int)).toNat else min v.toNat n):Nat):Int)
 by_cases hv:v < 0
 ·simp only [if_pos hv]; omega
 ·simp only [if_neg hv]; omega
theorem zai (lo hi:Option Int) (n:Nat):Builtin.Slice.sliceAdjust lo hi 1 (n:Int)=(((sIx n 0 lo:Nat):Int),((sIx n n hi:Nat):Int)):=by
 have h1:¬ ((1:Int) < 0):=by omega
 unfold Builtin.Slice.sliceAdjust
 simp only [h1,if_false]
 refine Prod.ext ?_ ?_
 ·cases lo with
  | none=>rfl
  | some v=>exact zc2 v n 0
 ·cases hi with
  | none=>rfl
  | some v=>exact zc2 v n n
theorem z9P (i j:Nat):QF (i:Int) (j:Int) 1=j - i:=by
 unfold QF
 have h1:(1:Int) > 0:=by omega
 simp only [h1,if_true,Int.ediv_one]
 split <;> omega
theorem z6y (p:IsPart v o) (h:Q o s):W8 (model prog w) A (Builtin.Slice.slicePartIndex v) Q E s:=by
 cases p with
 | none=>exact slicePart_none h
 | int i t=>exact slicePart_int h
theorem sliceApplied_gen {sl:Addr} {vl vu:Value} {lo hi:Option Int} {n:Nat} {Q:Int×Int×Nat→W2→Prop} (hs:s.heap.IsSliceOf sl vl vu .none) (pl:IsPart vl lo) (pu:IsPart vu hi)
  (h:Q (((sIx n 0 lo:Nat):Int),1,sIx n n hi - sIx n 0 lo) s):W8 (model prog w) A (Builtin.Slice.sliceApplied (.ref sl) (pure (n:Int))) Q E s:=by
 obtain ⟨os,hos,hcs,hds⟩:=id hs
 unfold Builtin.Slice.sliceApplied Builtin.Slice.sliceFields
 refine W1 (W1 (Q7 hos hds (x:=vl) rfl (W1 (Q7 hos hds (x:=vu) rfl (W1 (Q7 hos hds (x:=.none) rfl (Wc ?_)))))))
 refine W1 (slicePart_none ?_)
 show W8 _ _ (if ((1:Int) == 0)=true then _ else _) _ _ s
 rw [if_neg (by decide)]
 refine W1 (z6y pl (W1 (z6y pu (W1 (Wc ?_)))))
 show W8 _ _ (match Builtin.Slice.sliceAdjust lo hi 1 (n:Int) with | (lo,hi)=>pure (lo,(1:Int),QF lo hi 1)) _ _ s
 rw [zai lo hi n]
 show W8 _ _ (pure (((sIx n 0 lo:Nat):Int),(1:Int),QF ((sIx n 0 lo:Nat):Int) ((sIx n n hi:Nat):Int) 1)) _ _ s
 rw [z9P]
 exact Wc h
theorem zcL (xs:Array Value) (i k:Nat):((WM k).filterMap fun (m:Nat)=>xs[((i:Int) + (m:Int) * 1).toNat]?).toArray=((xs.toList.drop i).take k).toArray:=by
 have e:(fun (m:Nat)=>xs[((i:Int) + (m:Int) * 1).toNat]?)=fun m=>xs[i + m]?:=by
  funext m
  have:((i:Int) + (m:Int) * 1).toNat=i + m:=by omega
  rw [this]
 rw [e]
 have:=pick_run xs i k
 rw [List.filterMap_map] at this
 have e2:((fun x=>xs[x]?) ∘ fun x=>i + x)=fun m=>xs[i + m]?:=rfl
 rw [e2] at this
 rw [this]
theorem getItem_tuple_cut {t sl:Addr} {items:Array Value} {vl vu:Value} {lo hi:Option Int} {Q:Value→W2→Prop} (ht:IsTup s.heap t items) (hs:s.heap.IsSliceOf sl vl vu .none) (pl:IsPart vl lo) (pu:IsPart vu hi)
  (hw:¬ (sIx items.size 0 lo=0∧sIx items.size items.size hi=items.size))
  (h:Q (.ref s.heap.objs.size) { s with heap:=s.heap.push { cls:=.type "tuple",data:=.seq ((items.toList.drop (sIx items.size 0 lo)).take (sIx items.size items.size hi - sIx items.size 0 lo)).toArray } })
  (hsz:items.size≤W6):W8 (model prog w) A (getItem (.ref t) (.ref sl)) Q E s:=by
 have htake:sizeOk (.seq ((items.toList.drop (sIx items.size 0 lo)).take (sIx items.size items.size hi - sIx items.size 0 lo)).toArray):=by
  show ((items.toList.drop (sIx items.size 0 lo)).take (sIx items.size items.size hi - sIx items.size 0 lo)).toArray.size≤W6
  rw [Wd,JC,List.length_drop,Je]
  omega
 have hj:sIx items.size items.size hi≤items.size:=sIx_le _ _ (W9 _) hi
 obtain ⟨os,hos,hcs,hds⟩:=id hs
 have hTs:s.TypeIs (.ref sl) "slice":=⟨os,hos,hcs⟩
 unfold getItem
 try with_reducible refine WR ?_
 first | refine W1 (Wc ?_) | skip
 refine W1 (wpAny_sequenceKey ht.typeIs (by decide) ?_)
 refine W1 (QP (name:=Str.ofString "__getitem__") ht.typeIs Qm
  (QK Qm ht.typeIs entry_tuple_getitem ?_ (args_tuple_getitem _ _)))
 show W8 _ _ (Builtin.Tuple.tupleItemsOf (.ref t) >>= _) _ _ s
 refine W1 (tupleItemsOf_ ht ?_)
 refine W1 (J0 hTs ?_)
 rw [if_pos (by decide)]
 refine W1 (sliceApplied_gen hs pl pu ?_)
 have hno:¬ ((((sIx items.size 0 lo:Nat):Int) == 0 && (1:Int) == 1 && (sIx items.size items.size hi - sIx items.size 0 lo) == items.size)=true):=by
  intro q
  rw [Wf,Wf] at q
  have q1:((sIx items.size 0 lo:Nat):Int)=0:=eq_of_beq q.1.1
  have q2:sIx items.size items.size hi - sIx items.size 0 lo=items.size:=eq_of_beq q.2
  exact hw ⟨by omega,by omega⟩
 show W8 _ _ (if (((sIx items.size 0 lo:Nat):Int) == 0 && (1:Int) == 1 && (sIx items.size items.size hi - sIx items.size 0 lo) == items.size)=true then _ else _) _ _ s
 rw [if_neg hno,zcL]
 first
  | exact W1 (m:=QL _) (Qc (Wc ⟨_,rfl,Wc h⟩) htake)
  | exact W1 (m:=QL _) (Qc (W1 (Wc (Wc ⟨_,rfl,Wc h⟩))) htake)
  | exact W1 (W1 (m:=QL _) (Qc (Wc (Wc ⟨_,rfl,Wc h⟩)) htake))
  | exact W1 (W1 (m:=QL _) (Qc (Wc ⟨_,rfl,Wc h⟩) htake))
end
end HT
namespace L2
open PySem PySem.Spec PyProof.Rows
abbrev TO:=St→Hp→(Option Int→Hp→Prop)→Prop
def PO (X:Cx) (e:Option Expr) (t:TO):Prop :=
 ∀ (pins:List (Addr×Obj)) (s:W2) (σ:St) (H:Hp) (Q:Option Int→Hp→Prop),Inv X pins σ H s→t σ H Q →
  W8 (model X.prog X.w) X.A (evalPart e X.env) (fun u s'=>∃ o H',Inv X pins σ H' s'∧IsPart u o∧Q o H') X.xe s
def zef:TO:=fun _ H Q=>Q none H
def tPart (t:TE):TO:=fun σ H Q=>t σ H fun x H1=>∃ i,x = .int i∧Q (some i) H1
section
variable {X:Cx} {e:Expr} {te:TE} {lo hi:Option Expr} {tl th:TO} {pos p2:Pos}
theorem zeH:PO X none zef:=by
 intro pins s σ H Q I h
 rw [evalPart_none]
 exact Wc ⟨none,H,I,.none,h⟩
theorem zeG (h:PE X e te):PO X (some e) (tPart te):=by
 intro pins s σ H Q I hw
 rw [evalPart_some]
 refine thn (h pins s σ H _ I hw) fun u s1 ⟨x,H1,I1,r1,q1⟩=>?_
 obtain ⟨i,rfl,q⟩:=q1
 obtain ⟨t,rfl⟩:=r1
 exact ⟨some i,H1,I1,.int i t,q⟩
def SlR (X:Cx) (r:V→Option Int→Option Int→Hp→VK→Prop):Prop :=
 ∀ (pins:List (Addr×Obj)) (s:W2) (σ:St) (H:Hp) (x:V) (v vl vu:Value) (lo hi:Option Int) (sl:Addr) (Q:VK),Inv X pins σ H s→RelV x v→s.heap.IsSliceOf sl vl vu .none→IsPart vl lo→IsPart vu hi→r x lo hi H Q →
  ∃ T id,typeLookup (.type T) "__getitem__" = pure (some (.builtin id))∧s.TypeIs v T∧W8 (model X.prog X.w) X.A (getItem v (.ref sl)) (EP X pins σ Q) X.xe s
theorem SlR.or (h:SlR X r) (h':SlR X r'):SlR X (fun x lo hi H Q=>r x lo hi H Q∨r' x lo hi H Q):=by
 intro pins s σ H x v vl vu lo hi sl Q I rx hs pl pu q
 rcases q with q | q
 ·exact h pins s σ H x v vl vu lo hi sl Q I rx hs pl pu q
 ·exact h' pins s σ H x v vl vu lo hi sl Q I rx hs pl pu q
def tSl (r:V→Option Int→Option Int→Hp→VK→Prop) (te:TE) (tl th:TO):TE:=fun σ H Q=>te σ H fun x H1=>tl σ H1 fun l H2=>th σ H2 fun u H3=>r x l u H3 Q
theorem z94 (hr:SlR X r) (he:PE X e te) (hl:PO X lo tl) (hu:PO X hi th):PE X (.Subscript e (.Slice lo hi none p2) pos) (tSl r te tl th):=by
 intro pins s σ H Q I h
 refine Subscript_ (thn (he pins s σ H _ I h) fun v s1 ⟨x,H1,I1,r1,q1⟩=>?_)
 refine wpAny_Slice (thn (hl pins s1 σ H1 _ I1 q1) fun vl s2 ⟨l,H2,I2,pl,q2⟩=>thn (hu pins s2 σ H2 _ I2 q2) fun vu s3 ⟨u,H3,I3,pu,q3⟩=>?_)
 rw [evalPart_none]
 refine Wc ?_
 have I4:Inv X pins σ H3 { s3 with heap:=s3.heap.push { cls:=.type "slice",data:=.fields #[vl,vu,.none] } }:=I3.kept (t':=s3.toks) fun b ob q=>W4 _ q
 obtain ⟨T,id,hT,ht,hg⟩:=hr pins { s3 with heap:=s3.heap.push { cls:=.type "slice",data:=.fields #[vl,vu,.none] } } σ H3 x v vl vu l u s3.heap.objs.size Q I4 r1 (Heap.IsSliceOf.new ..) pl pu q3
 show W8 (model X.prog X.w) X.A (subscriptTail e (.Slice lo hi none p2) v (.ref s3.heap.objs.size)) (EP X pins σ Q) X.xe { s3 with heap:=s3.heap.push { cls:=.type "slice",data:=.fields #[vl,vu,.none] } }
 exact tail_any (ops:=[.ref s3.heap.objs.size,v]) ht hT hg (by with_unfolding_all rfl)
def cutV (xs:List V) (lo hi:Option Int):List V:=(xs.drop (HT.sIx xs.length 0 lo)).take (HT.sIx xs.length xs.length hi - HT.sIx xs.length 0 lo)
theorem z6e (xs:List V) (lo hi:Option Int):(cutV xs lo hi).length≤xs.length:=by
 unfold cutV
 rw [JC,List.length_drop]
 omega
def rSlT (K:W0):V→Option Int→Option Int→Hp→VK→Prop:=fun x lo hi H Q=>∃ a xs,x = .ref a∧SqT K H a xs ∧
 ¬ (HT.sIx xs.length 0 lo=0∧HT.sIx xs.length xs.length hi=xs.length)∧∀ p,H p=none→Q (.ref p) (upd H p (.tup (cutV xs lo hi)))
theorem sl_tup:SlR X (rSlT X.K):=by
 intro pins s σ H x v vl vu lo hi sl Q I rx hs pl pu h
 obtain ⟨a,xs,rfl,hx,hw,q⟩:=h
 cases rx
 obtain ⟨its,r,ht,hz⟩:=I.tuple hx
 have hlen:its.toArray.size=xs.length:=by rw [Wd]; exact r.length.symm
 refine ⟨"tuple",_,PyProof.Rows.slot_tuple_getitem.lookup,ht.typeIs,?_⟩
 refine HT.getItem_tuple_cut ht hs pl pu (by rw [hlen]; exact hw) ?_ (by rw [hlen]; exact hz)
 rw [hlen]
 refine ⟨.ref s.heap.objs.size,_,I.laid (t':=s.toks) (o:=.tup (cutV xs lo hi)) (fun b ob q=>W4 _ q) (W9 _) ?_,rfl,q _ (I.hok.fresh (W9 _))⟩
 exact ⟨Q5 (z6e xs lo hi) hz,_,(r.drop (HT.sIx xs.length 0 lo)).take (HT.sIx xs.length xs.length hi - HT.sIx xs.length 0 lo),IsTupN.new _ _⟩
def zfZ (K:W0):R2:=fun x y H Q=>∃ a b xs ys,x = .ref a∧y = .ref b∧SqT K H a xs∧SqT K H b ys∧xs≠[]∧xs.length + ys.length≤W6 ∧
 (ys=[]→Q (.ref a) H)∧(ys≠[]→∀ p,H p=none→Q (.ref p) (upd H p (.tup (xs ++ ys))))
theorem Vals.nil_iff (r:Vals xs us):us=[] ↔ xs=[]:=by
 cases r with
 | nil=>simp
 | cons _ _=>simp
theorem op_catT:OpR X (Q9 .Add) (zfZ X.K):=by
 intro pins s σ H x y v u Q I rx ry h
 obtain ⟨a,b,xs,ys,rfl,rfl,ha,hb,hx,hz,q1,q2⟩:=h
 cases rx
 cases ry
 obtain ⟨its,r1,p1,_⟩:=I.tuple ha
 obtain ⟨its2,r2,p2,_⟩:=I.tuple hb
 refine HT.cat_tup p1 p2 (fun z=>hx (r1.nil_iff.mp z)) (fun z=>⟨.ref a,H,I,rfl,q1 (r2.nil_iff.mp z)⟩) (fun z=>?_) (by rw [← r1.length,← r2.length]; exact hz)
 refine ⟨.ref s.heap.objs.size,_,I.laid (t':=s.toks) (o:=.tup (xs ++ ys)) (fun b ob q=>W4 _ q) (W9 _) ?_,rfl,q2 (fun w=>z (r2.nil_iff.mpr w)) _ (I.hok.fresh (W9 _))⟩
 exact ⟨by rw [Qv]; exact hz,_,r1.append r2,IsTupN.new _ _⟩
end
def ixN (n:Nat) (i:Int):Option Nat:=if 0≤i then (if i < n then some i.toNat else none) else if -(n:Int)≤i then some (i + n).toNat else none
def atI {α:Type} (xs:List α) (i:Int):Option α:=(ixN xs.length i).bind fun j=>xs[j]?
theorem zbv (h:ixN n i=some j):seqIndex? i n=some j∧j < n∧-(n:Int)≤i∧i < n:=by
 unfold ixN at h
 by_cases h0:0≤i
 ·rw [if_pos h0] at h
  by_cases h1:i < n
  ·rw [if_pos h1] at h
   have e:i.toNat=j:=Wu h
   exact ⟨by rw [seqIndex_of h0 h1,e],by omega,by omega,h1⟩
  ·rw [if_neg h1] at h; cases h
 ·rw [if_neg h0] at h
  by_cases h1 : -(n:Int)≤i
  ·rw [if_pos h1] at h
   have e:(i + n).toNat=j:=Wu h
   exact ⟨by rw [seqIndex_neg (by omega) h1,e],by omega,h1,by omega⟩
  ·rw [if_neg h1] at h; cases h
theorem z8L (h:atI xs i=some v):∃ j,seqIndex? i xs.length=some j∧xs[j]? = some v∧j < xs.length∧-(xs.length:Int)≤i∧i < xs.length:=by
 unfold atI at h
 cases e:ixN xs.length i with
 | none=>rw [e] at h; cases h
 | some j =>
  rw [e] at h
  obtain ⟨h1,h2,h3,h4⟩:=zbv e
  exact ⟨j,h1,h,h2,h3,h4⟩
def z8N (b:Expr):Prop:=∀ o i,subscripted b false o i=operate [o,i] (getItem o i)
def IxR (X:Cx) (r:R2):Prop :=
 ∀ (value slice:Expr) (pins:List (Addr×Obj)) (s:W2) (σ:St) (H:Hp) (x y:V) (v u:Value) (Q:VK),Inv X pins σ H s→RelV x v→RelV y u→r x y H Q →
  subscripted slice false v u=operate [v,u] (getItem v u)→W8 (model X.prog X.w) X.A (subscriptTail value slice v u) (EP X pins σ Q) X.xe s
def MtR (X:Cx) (id:String) (r:V→List V→Hp→VK→Prop):Prop :=
 ∀ (pins:List (Addr×Obj)) (s:W2) (σ:St) (H:Hp) (x:V) (xs:List V) (v:Value) (us:List Value) (Q:VK),Inv X pins σ H s→RelV x v→Vals xs us→r x xs H Q →
  W8 (model X.prog X.w) X.A (call (.builtin id) (v :: us)) (EP X pins σ Q) X.xe s
section
variable {X:Cx} {a b:Expr} {ta tb:TE} {pos:Pos}
theorem IxR.or (h:IxR X r) (h':IxR X r'):IxR X (fun x y H Q=>r x y H Q∨r' x y H Q):=by
 intro value slice pins s σ H x y v u Q I rx ry q hs
 rcases q with q | q
 ·exact h value slice pins s σ H x y v u Q I rx ry q hs
 ·exact h' value slice pins s σ H x y v u Q I rx ry q hs
theorem zgj (hr:IxR X r) (ha:PE X a ta) (hb:PE X b tb) (hs:z8N b):PE X (.Subscript a b pos) (tOp r ta tb):=by
 intro pins s σ H Q I h
 exact Subscript_ (binT ha hb I h fun v u s2 x y H2 I2 rx ry q=>hr a b pins s2 σ H2 x y v u Q I2 rx ry q (hs _ _))
def rIxL (K:W0):R2:=fun x y H Q=>∃ p xs i v,x = .ref p∧y = .int i∧SqL K H p xs∧atI xs i=some v∧Q v H
def rIxT (K:W0):R2:=fun x y H Q=>∃ p xs i v,x = .ref p∧y = .int i∧SqT K H p xs∧atI xs i=some v∧Q v H
def rIxS:R2:=fun x y H Q=>∃ z i c,x = .str z∧y = .int i∧z.length≤W6∧atI z.cps.toList i=some c∧Q (.str ⟨#[c]⟩) H
theorem ix_list:IxR X (rIxL X.K):=by
 intro value slice pins s σ H x y v u Q I rx ry h hs
 obtain ⟨p,xs,i,z,rfl,rfl,hq,he,q⟩:=h
 cases rx
 obtain ⟨t,rfl⟩:=ry
 obtain ⟨its,r,pl,hz⟩:=I.list hq
 obtain ⟨j,h1,h2,h3,h4,h5⟩:=z8L he
 obtain ⟨w,ew,rw'⟩:=r.get h2
 have hl:=r.length
 have hn:=z6I
 have fin:EP X pins σ Q w s:=⟨z,H,I,rw',q⟩
 by_cases h0:0≤i
 ·have hj:i.toNat=j:=by
   rw [seqIndex_of h0 h5] at h1
   exact Wu h1
  exact item_listR pl.isList h0 (by omega) (by rw [hj]; simpa using ew) fin hs
 ·have hj:(i + (its.toArray.size:Int)).toNat=j:=by
   rw [seqIndex_neg (by omega) h4] at h1
   rw [Wd,← hl]
   exact Wu h1
  exact subscriptTail_builtinR (x:=w) pl.isList.typeIs slot_list_getitem.lookup
   (wpAny_getItem_list_neg (Q:=fun r s'=>r=w∧EP X pins σ Q r s') pl.isList (by omega) (by rw [Wd] <;> omega) (by omega) (by rw [hj]; simpa using ew) ⟨rfl,fin⟩) hs
theorem ix_tup:IxR X (rIxT X.K):=by
 intro value slice pins s σ H x y v u Q I rx ry h hs
 obtain ⟨p,xs,i,z,rfl,rfl,hq,he,q⟩:=h
 cases rx
 obtain ⟨t,rfl⟩:=ry
 obtain ⟨its,r,pl,hz⟩:=I.tuple hq
 obtain ⟨j,h1,h2,h3,h4,h5⟩:=z8L he
 obtain ⟨w,ew,rw'⟩:=r.get h2
 have hl:=r.length
 have hn:=z6I
 have fin:EP X pins σ Q w s:=⟨z,H,I,rw',q⟩
 exact subscriptTail_builtinR (x:=w) pl.typeIs slot_tuple_getitem.lookup
  (getItem_tuple (j:=j) (Q:=fun r s'=>r=w∧EP X pins σ Q r s') pl (by omega) (by omega) (by rw [Wd,← hl]; exact h1) (by simpa using ew) ⟨rfl,fin⟩) hs
theorem zgH:IxR X rIxS:=by
 intro value slice pins s σ H x y v u Q I rx ry h hs
 obtain ⟨z,i,c,rfl,rfl,hz,he,q⟩:=h
 obtain ⟨t,rfl⟩:=rx
 obtain ⟨t',rfl⟩:=ry
 obtain ⟨j,h1,h2,h3,h4,h5⟩:=z8L he
 have hl:z.cps.toList.length=z.length:=by simp [Str.length]
 rw [hl] at h1 h4 h5
 have hn:=z6I
 exact tail_any (typeIs_str s z t) slot_str_getitem.lookup (getItem_str (c:=c) (by
  have e1:decide (i < -(2 ^ 63:Int))=false:=decide_eq_false (by omega)
  have e2:decide (i ≥ 2 ^ 63)=false:=decide_eq_false (by omega)
  rw [e1,e2,Bool.or_false]) (by rw [h1]; simpa using h2) ⟨.str ⟨#[c]⟩,H,I.tok _,⟨_,rfl⟩,q⟩) hs
def rIx (K:W0):R2:=fun x y H Q=>rIxL K x y H Q∨rIxT K x y H Q∨rIxS x y H Q
theorem z0p:IxR X (rIx X.K):=ix_list.or (ix_tup.or zgH)
theorem z9U (its:List Value) (n j:Nat) (u:Value):Obj.mapSeq (·.setIfInBounds j u) { cls:=.type "list",data:=.seq its.toArray n } = { cls:=.type "list",data:=.seq (its.set j u).toArray n }:=by
 simp [Obj.mapSeq]
theorem Inv.lst (I:Inv X pins σ H s) (h:H p=some (.lst xs)) :
  ∃ (its:List Value) (n:Nat),Vals xs its∧s.heap.get? p=some { cls:=.type "list",data:=.seq its.toArray n }∧xs.length≤W6:=by
 obtain ⟨z,its,n,r,e⟩:=I.hok p _ h
 exact ⟨its,n,r,e,z⟩
theorem Inv.lstUpd {pins:List (Addr×Obj)} {σ:St} {H:Hp} {s:W2} {p:Addr} {xs ys:List V} {its its':List Value} {n n':Nat} {f:Obj→Obj} (I:Inv X pins σ H s) (h:H p=some (.lst xs))
  (ho:s.heap.get? p=some { cls:=.type "list",data:=.seq its.toArray n }) (hf:f { cls:=.type "list",data:=.seq its.toArray n } = { cls:=.type "list",data:=.seq its'.toArray n' }) (r:Vals ys its') (hz:ys.length≤W6) (t:Nat) :
  Inv X pins σ (upd H p (.lst ys)) { s with heap:=s.heap.update p f,toks:=t }:=by
 have e:(s.heap.update p f).get? p=some { cls:=.type "list",data:=.seq its'.toArray n' }:=by
  rw [Qk f ho (by rw [hf] <;> rfl),hf]
 refine I.write (x:=p) (e:=p) (by rw [h]; trivial) (.inl rfl) (fun b u hb q=>(WP _ _ (Ne.symm hb)).trans q) ⟨_,e⟩ ?_
 exact ⟨hz,its',n',r,e⟩
def rSetL:V→V→V→Hp→(Hp→Prop)→Prop:=fun o i v H Q=>∃ p xs k j,o = .ref p∧i = .int k∧H p=some (.lst xs)∧ixN xs.length k=some j∧Q (upd H p (.lst (xs.set j v)))
theorem zcv:PSet X rSetL:=by
 intro pins s σ H o i v ov iv u Q I ro ri rv h
 obtain ⟨p,xs,k,j,rfl,rfl,hp,hj,q⟩:=h
 cases ro
 obtain ⟨t,rfl⟩:=ri
 obtain ⟨its,n,r,ho,hz⟩:=I.lst hp
 obtain ⟨h1,h2,h3,h4⟩:=zbv hj
 have hl:=r.length
 have hn:=z6I
 have I':Inv X pins σ (upd H p (.lst (xs.set j v))) { s with heap:=s.heap.update p (Obj.mapSeq (·.setIfInBounds j u)) } :=
  I.lstUpd hp ho (z9U its n j u) (r.set rv j) (by rw [Qe]; exact hz) s.toks
 by_cases h0:0≤k
 ·have hk:k.toNat=j:=by
   rw [seqIndex_of h0 h4] at h1
   exact Wu h1
  exact PySem.W.ki_setAt ho h0 (by omega) (by rw [Wd,← hl]; exact h4) (by rw [hk]; exact ⟨_,I',q⟩)
 ·have hk:(k + (its.toArray.size:Int)).toNat=j:=by
   rw [seqIndex_neg (by omega) h3] at h1
   rw [Wd,← hl]
   exact Wu h1
  exact PySem.W.ki_setBack ho (by omega) (by rw [Wd,← hl]; exact h3) (by omega) (by rw [hk]; exact ⟨_,I',q⟩)
theorem z7t (lo hi:Option Int) (n:Nat):(Jd lo hi none n).1=((HT.sIx n 0 lo:Nat):Int)∧(Jd lo hi none n).2.1=((HT.sIx n n hi:Nat):Int)∧(Jd lo hi none n).2.2=1:=by
 refine ⟨?_,?_,rfl⟩
 ·cases lo with
  | none=>simp [Jd,HT.sIx]
  | some i =>
   simp only [Jd,HT.sIx,Option.getD_none,show (1:Int) > 0 by decide,if_true]
   by_cases h:i < 0
   ·simp only [h,if_true] <;> omega
   ·simp only [h,if_false] <;> omega
 ·cases hi with
  | none=>simp [Jd,HT.sIx]
  | some i =>
   simp only [Jd,HT.sIx,Option.getD_none,show (1:Int) > 0 by decide,if_true]
   by_cases h:i < 0
   ·simp only [h,if_true] <;> omega
   ·simp only [h,if_false] <;> omega
theorem z6Q (its:List Value) (lo hi:Option Int):slicePick its.toArray lo hi none=((its.drop (HT.sIx its.length 0 lo)).take (HT.sIx its.length its.length hi - HT.sIx its.length 0 lo)).toArray:=by
 obtain ⟨h1,h2,h3⟩:=z7t lo hi its.toArray.size
 unfold slicePick
 rw [h1,h2,h3]
 simp only [sliceRange_one,pick_run,Wd] <;> rfl
def rSlL (K:W0):V→Option Int→Option Int→Hp→VK→Prop:=fun x lo hi H Q=>∃ a xs,x = .ref a∧SqL K H a xs∧∀ p,H p=none→Q (.ref p) (upd H p (.lst (cutV xs lo hi)))
theorem zep:SlR X (rSlL X.K):=by
 intro pins s σ H x v vl vu lo hi sl Q I rx hs pl pu h
 obtain ⟨a,xs,rfl,hx,q⟩:=h
 cases rx
 obtain ⟨its,r,ht,hz⟩:=I.list hx
 have hlen:=r.length
 refine ⟨"list",_,slot_list_getitem.lookup,ht.isList.typeIs,?_⟩
 refine wpAny_getItem_list_slice ht.isList hs pl pu .none (by simp) ?_ (by rw [Wd] <;> omega)
 rw [z6Q,← hlen]
 refine ⟨.ref s.heap.objs.size,_,I.laid (t':=s.toks) (o:=.lst (cutV xs lo hi)) (fun b ob q=>W4 _ q) (W9 _) ?_,rfl,q _ (I.hok.fresh (W9 _))⟩
 exact ⟨Q5 (z6e xs lo hi) hz,_,0,(r.drop (HT.sIx xs.length 0 lo)).take (HT.sIx xs.length xs.length hi - HT.sIx xs.length 0 lo),Wi _ rfl⟩
def z7e:V→Bool
 | .non=>true
 | .bl _=>true
 | .int _=>true
 | .str _=>true
 | _=>false
def eqV:V→V→Bool
 | .non,.non=>true
 | .bl a,.bl b=>a == b
 | .bl a,.int b=>(if a then 1 else 0) == b
 | .int a,.bl b=>a == (if b then 1 else 0)
 | .int a,.int b=>a == b
 | .str a,.str b=>a == b
 | _,_=>false
theorem zgX (ry:RelV y u) (rx:RelV x v) (fy:z7e y=true) (fx:z7e x=true):SeqAt.EqAt A s u v (eqV y x):=by
 cases y with
 | non =>
  cases ry
  cases x with
  | non=>cases rx; exact SeqAt.EqAt.same _
  | bl b=>cases rx; exact SeqAt.EqAt.none_bool b
  | int b=>obtain ⟨t,rfl⟩:=rx; exact SeqAt.EqAt.none_int b t
  | str b=>obtain ⟨t,rfl⟩:=rx; exact SeqAt.EqAt.none_str b t
  | _=>exact absurd (show false=true from fx) WN
 | bl a =>
  cases ry
  cases x with
  | non=>cases rx; exact SeqAt.EqAt.bool_none a
  | bl b=>cases rx; exact SeqAt.EqAt.bool_bool a b
  | int b=>obtain ⟨t,rfl⟩:=rx; exact SeqAt.EqAt.bool_int a b t
  | str b=>obtain ⟨t,rfl⟩:=rx; exact SeqAt.EqAt.bool_str a b t
  | _=>exact absurd (show false=true from fx) WN
 | int a =>
  obtain ⟨t',rfl⟩:=ry
  cases x with
  | non=>cases rx; exact SeqAt.EqAt.int_none a t'
  | bl b=>cases rx; exact SeqAt.EqAt.int_bool a t' b
  | int b=>obtain ⟨t,rfl⟩:=rx; exact SeqAt.EqAt.int_int a t' b t
  | str b=>obtain ⟨t,rfl⟩:=rx; exact SeqAt.EqAt.int_str a t' b t
  | _=>exact absurd (show false=true from fx) WN
 | str a =>
  obtain ⟨t',rfl⟩:=ry
  cases x with
  | non=>cases rx; exact SeqAt.EqAt.str_none a t'
  | bl b=>cases rx; exact SeqAt.EqAt.str_bool a t' b
  | int b=>obtain ⟨t,rfl⟩:=rx; exact SeqAt.EqAt.str_int a t' b t
  | str b=>obtain ⟨t,rfl⟩:=rx; exact SeqAt.EqAt.str_str a t' b t
  | _=>exact absurd (show false=true from fx) WN
 | _=>exact absurd (show false=true from fy) WN
def eqU (x:V) (u:Value):Bool:=match u with
 | .none=>eqV .non x
 | .bool b=>eqV (.bl b) x
 | .int i _=>eqV (.int i) x
 | .str z _=>eqV (.str z) x
 | _=>false
theorem ze1 (r:RelV y u) (f:z7e y=true):eqU x u=eqV y x:=by
 cases y with
 | non=>cases r; rfl
 | bl b=>cases r; rfl
 | int i=>obtain ⟨t,rfl⟩:=r; rfl
 | str z=>obtain ⟨t,rfl⟩:=r; rfl
 | _=>exact absurd (show false=true from f) WN
theorem z6k:∀ {xs:List V} {us:List Value},Vals xs us→xs.all z7e=true→us.any (eqU x)=xs.any fun y=>eqV y x
 | _,_,.nil,_=>rfl
 | y :: xs,u :: us,.cons r t,f=>by
  rw [Qh,Wf] at f
  rw [WS,WS,ze1 r f.1,z6k t f.2]
theorem z4y (rx:RelV x v) (fx:z7e x=true):∀ {xs:List V} {us:List Value},Vals xs us→xs.all z7e=true→∀ u ∈ us,SeqAt.EqAt A s u v (eqU x u)
 | _,_,.nil,_=>fun u hu=>by cases hu
 | y :: xs,u :: us,.cons r t,f=>fun u' hu=>by
  rw [Qh,Wf] at f
  rcases Wg.mp hu with rfl | hu
  ·rw [ze1 r f.1]; exact zgX r rx f.1 fx
  ·exact z4y rx fx t f.2 u' hu
def inV (x:V) (xs:List V):Bool:=xs.any fun y=>eqV y x
def rIn (K:W0) (neg:Bool):R2:=fun x y H Q=>∃ p xs,y = .ref p∧(SqL K H p xs∨SqT K H p xs)∧z7e x=true∧xs.all z7e=true∧Q (.bl (if neg then !inV x xs else inV x xs)) H
theorem op_in_seq:OpR X (Wq .In) (rIn X.K false):=by
 intro pins s σ H x y v u Q I rx ry h
 obtain ⟨p,xs,rfl,hq,fx,fs,q⟩:=h
 cases ry
 rcases hq with hq | hq
 ·obtain ⟨its,r,pl,hz⟩:=I.list hq
  refine SeqAt.in_listAt (eqU x) pl.isList (fun w hw=>z4y rx fx r fs w (by simpa using hw)) ⟨.bl _,H,I,rfl,?_⟩
  rw [show its.toArray.any (eqU x)=its.any (eqU x) by simp,z6k r fs]
  exact q
 ·obtain ⟨its,r,pl,hz⟩:=I.tuple hq
  refine SeqAt.in_tupleAt (eqU x) pl (fun w hw=>z4y rx fx r fs w (by simpa using hw)) ⟨.bl _,H,I,rfl,?_⟩
  rw [show its.toArray.any (eqU x)=its.any (eqU x) by simp,z6k r fs]
  exact q
theorem op_notIn_seq:OpR X (Wq .NotIn) (rIn X.K true):=by
 intro pins s σ H x y v u Q I rx ry h
 obtain ⟨p,xs,rfl,hq,fx,fs,q⟩:=h
 cases ry
 rcases hq with hq | hq
 ·obtain ⟨its,r,pl,hz⟩:=I.list hq
  refine SeqAt.notIn_listAt (eqU x) pl.isList (fun w hw=>z4y rx fx r fs w (by simpa using hw)) ⟨.bl _,H,I,rfl,?_⟩
  rw [show its.toArray.any (eqU x)=its.any (eqU x) by simp,z6k r fs]
  exact q
 ·obtain ⟨its,r,pl,hz⟩:=I.tuple hq
  refine SeqAt.notIn_tupleAt (eqU x) pl (fun w hw=>z4y rx fx r fs w (by simpa using hw)) ⟨.bl _,H,I,rfl,?_⟩
  rw [show its.toArray.any (eqU x)=its.any (eqU x) by simp,z6k r fs]
  exact q
theorem call_len_seq:CallR X (.builtin "len") (fun xs H Q=>∃ p ys,xs=[.ref p]∧(SqL X.K H p ys∨SqT X.K H p ys)∧Q (.int ys.length) H):=by
 intro pins s σ H xs us Q I r h
 obtain ⟨p,ys,rfl,hq,q⟩:=h
 obtain ⟨u,rfl,rx⟩:=z3F r
 cases rx
 have hn:=z6I
 rcases hq with hq | hq
 ·obtain ⟨its,r',pl,hz⟩:=I.list hq
  have hlen:=r'.length
  exact Calls.call_len_list pl.isList (by simp only [Wd] <;> omega) ⟨.int ys.length,H,I.tok _,⟨s.toks + 1,by rw [Wd,hlen]⟩,q⟩
 ·obtain ⟨its,r',pl,hz⟩:=I.tuple hq
  have hlen:=r'.length
  exact len_tuple pl (by simp only [Wd] <;> omega) ⟨.int ys.length,H,I.tok _,⟨s.toks + 1,by rw [Wd,hlen]⟩,q⟩
theorem z8i:CallR X (.builtin "len") (fun xs H Q=>∃ z,xs=[.str z]∧z.length≤W6∧Q (.int z.length) H):=by
 intro pins s σ H xs us Q I r h
 obtain ⟨z,rfl,hz,q⟩:=h
 obtain ⟨u,rfl,t,rfl⟩:=z3F r
 have hn:=z6I
 exact len_str (by omega) ⟨.int z.length,H,I.tok _,⟨_,rfl⟩,q⟩
theorem CallR.or (h:CallR X f r) (h':CallR X f r'):CallR X f (fun xs H Q=>r xs H Q∨r' xs H Q):=by
 intro pins s σ H xs us Q I rs q
 rcases q with q | q
 ·exact h pins s σ H xs us Q I rs q
 ·exact h' pins s σ H xs us Q I rs q
theorem call_list_of:CallR X (.type "list") (fun xs H Q=>∃ p ys,xs=[.ref p]∧(SqL X.K H p ys∨SqT X.K H p ys)∧∀ l,H l=none→Q (.ref l) (upd H l (.lst ys))):=by
 intro pins s σ H xs us Q I r h
 obtain ⟨p,ys,rfl,hq,q⟩:=h
 obtain ⟨u,rfl,rx⟩:=z3F r
 cases rx
 have fin:∀ (its:List Value),Vals ys its→ys.length≤W6→∀ (h':Heap) (c':Nat),(∀ b o',s.heap.get? b=some o'→h'.get? b=some o') →
   h'.get? s.heap.objs.size=some { cls:=.type "list",dict:=none,data:=.seq its.toArray c',slots:=#[] }→EP X pins σ Q (.ref s.heap.objs.size) { s with heap:=h' }:=fun its r' hz h' c' kp e =>
  ⟨.ref s.heap.objs.size,_,I.laid (t':=s.toks) kp (W9 _) (show ObjOk X.prog X.w _ h' _ (.lst ys) from ⟨hz,its,c',r',e⟩),rfl,q _ (I.hok.fresh (W9 _))⟩
 rcases hq with hq | hq
 ·obtain ⟨its,r',pl,hz⟩:=I.list hq
  have hlen:=r'.length
  obtain ⟨o,ho,hc,n,hd⟩:=pl.isList
  exact call_list_seq p (.inl rfl) ho hc hd (fun h' c' kp e=>fin its r' hz h' c' kp e) (by simp only [Wd] <;> omega)
 ·obtain ⟨its,r',pl,hz⟩:=I.tuple hq
  have hlen:=r'.length
  obtain ⟨o,ho,hc,n,hd⟩:=pl
  exact call_list_seq p (.inr rfl) ho hc hd (fun h' c' kp e=>fin its r' hz h' c' kp e) (by simp only [Wd] <;> omega)
theorem z7l:CallR X (.type "tuple") (fun xs H Q=>∃ p ys,xs=[.ref p]∧((SqL X.K H p ys∧∀ l,H l=none→Q (.ref l) (upd H l (.tup ys)))∨(SqT X.K H p ys∧Q (.ref p) H))):=by
 intro pins s σ H xs us Q I r h
 obtain ⟨p,ys,rfl,h⟩:=h
 obtain ⟨u,rfl,rx⟩:=z3F r
 cases rx
 rcases h with ⟨hq,q⟩ | ⟨hq,q⟩
 ·obtain ⟨its,r',pl,hz⟩:=I.list hq
  have hlen:=r'.length
  refine call_tuple_list pl.isList (fun h' kp=>?_) (by simp only [Wd] <;> omega)
  have I1:Inv X pins σ H { s with heap:=h' }:=I.kept (t':=s.toks) kp
  have I2:Inv X pins σ (upd H h'.objs.size (.tup ys)) { s with heap:=h'.push { cls:=.type "tuple",data:=.seq its.toArray } } :=
   I1.laid (t':=s.toks) (fun b o e=>W4 _ e) (W9 _) (show ObjOk X.prog X.w _ _ _ (.tup ys) from ⟨hz,its,r',IsTupN.new _ _⟩)
  exact ⟨.ref h'.objs.size,_,I2,rfl,q _ (I1.hok.fresh (W9 _))⟩
 ·obtain ⟨its,r',pl,hz⟩:=I.tuple hq
  exact call_tuple_same pl ⟨.ref p,H,I,rfl,q⟩
def tyV (K:W0) (T:String) (x:V) (H:Hp):Prop:=match x with
 | .str _=>T = "str"
 | .int _=>T = "int"
 | .ref p=>(T = "list"∧∃ xs,SqL K H p xs)∨(T = "tuple"∧∃ o,K.lookup p=some o∧o.cls = .type "tuple"∧o.dict=none) ∨
   (T = "dict"∧((∃ kvs,H p=some (.dK kvs))∨∃ kvs,H p=some (.dT kvs)))∨(T = "set"∧∃ S n,H p=some (.set S n))
 | _=>False
theorem zfv (I:Inv X pins σ H s) (r:RelV x v) (ty:tyV X.K T x H) :
  s.TypeIs v T∧∀ a,v = .ref a→∃ ob,s.heap.get? a=some ob∧ob.dict=none:=by
 cases x with
 | str z =>
  obtain ⟨t,rfl⟩:=r
  cases (show T = "str" from ty)
  exact ⟨typeIs_str s z t,fun _ e=>nomatch e⟩
 | int i =>
  obtain ⟨t,rfl⟩:=r
  cases (show T = "int" from ty)
  exact ⟨Js s i t,fun _ e=>nomatch e⟩
 | ref p =>
  cases r
  rcases ty with ⟨rfl,xs,hq⟩ | ⟨rfl,o,hk,hc,hd⟩ | ⟨rfl,hk⟩ | ⟨rfl,S,n,hk⟩
  ·obtain ⟨its,_,pl,_⟩:=I.list hq
   refine ⟨pl.isList.typeIs,fun a e=>?_⟩
   cases e
   obtain ⟨o,n,e,c,hd,_⟩:=pl
   exact ⟨o,e,hd⟩
  ·refine ⟨⟨o,I.kIn p o hk,hc⟩,fun a e=>?_⟩
   cases e
   exact ⟨o,I.kIn _ o hk,hd⟩
  ·have z:∃ o,s.heap.get? p=some o∧o.ExactDict:=by
    rcases hk with ⟨kvs,hk⟩ | ⟨kvs,hk⟩
    ·obtain ⟨_,_,_,_,o,_,_,e,ex,_⟩:=I.hok p _ hk
     exact ⟨o,e,ex⟩
    ·obtain ⟨_,_,_,_,o,_,_,e,ex,_⟩:=I.hok p _ hk
     exact ⟨o,e,ex⟩
   obtain ⟨o,e,ex⟩:=z
   refine ⟨⟨o,e,ex.1⟩,fun a e2=>?_⟩
   cases e2
   exact ⟨o,e,ex.2.1⟩
  ·obtain ⟨o,_,_,_,e,ex,_⟩:=I.hok p _ hk
   refine ⟨⟨o,e,ex.1⟩,fun a e2=>?_⟩
   cases e2
   exact ⟨o,e,ex.2.1⟩
 | _=>exact False.elim ty
def tBM (K:W0) (T:String) (r:V→List V→Hp→VK→Prop) (to:TE) (t:TA):TE:=fun σ H Q=>to σ H fun x H1=>tyV K T x H1∧t σ H1 fun xs H2=>r x xs H2 Q
variable {o e:Expr} {es:List Expr} {to:TE} {t:TA} {name:Str} {apos cpos:Pos} {T id:String} {r:V→List V→Hp→VK→Prop}
theorem zbb (pa:PlainAttrs T) (slot:Slot T name id) (hty:typeOf (.builtin id)=pure (.type "method_descriptor")) (hm:MtR X id r) (ho:PE X o to) (ha:PA X (e :: es) t)
  (hbase:Qa o name X.env (eval o X.env)=eval o X.env:=by rfl)
  (hfew:((WJ cpos (W5 (e :: es) X.env)).all (fun x=>!x.1) && (backToKw cpos (QX [] X.env)).all (fun x=>x.1.isSome)
   && decide ((e :: es).length + ([]:List Keyword).length + (if ([]:List Keyword).isEmpty then 0 else 1) < 30))=true:=by rfl)
  (hline:(apos.endLine == cpos.line)=true:=by rfl) (hs:W5 (e :: es) X.env=(false,eval e X.env) :: W5 es X.env:=by rfl) (hplain:(WJ cpos (W5 es X.env)).any (·.1)=false:=by rfl) :
  PE X (.Call (.Attribute o name apos) (e :: es) [] cpos) (tBM X.K T r to t):=by
 intro pins s σ H Q I h
 refine wpAny_Call_method_late hbase hfew hline rfl (thn (ho pins s σ H _ I h) fun v s1 ⟨x,H1,I1,r1,ty,q1⟩=>?_)
 obtain ⟨h1,h2⟩:=zfv I1 r1 ty
 refine ⟨T,id,pa,slot,hty,h1,h2,?_⟩
 have hA:=ha cpos pins s1 σ H1 _ I1 q1
 rw [hs] at hA ⊢
 refine Calls.callWith_builtin (by show (false || (WJ cpos (W5 es X.env)).any (·.1))=false; rw [hplain] <;> rfl) (Calls.evalArgs_plain ?_)
 exact thn hA fun us s2 ⟨vs,H2,I2,r2,q2⟩=>hm pins s2 σ H2 x vs v us Q I2 r1 r2 q2
end
def MtM (X:Cx) (id:String) (r:V→List V→Hp→VK→Prop):Prop :=
 ∀ (pins:List (Addr×Obj)) (s:W2) (σ:St) (H:Hp) (x:V) (xs:List V) (v:Value) (us:List Value) (Q:VK),Inv X pins σ H s→RelV x v→Vals xs us→r x xs H Q →
  W8 (model X.prog X.w) X.A (call (.builtin id) (v :: us)) (EP X pins σ Q) X.xe s
theorem Vals.one:∀ {x:V} {us:List Value},Vals [x] us→∃ u,us=[u]∧RelV x u
 | _,_,.cons r .nil=>⟨_,rfl,r⟩
theorem Vals.two:∀ {x y:V} {us:List Value},Vals [x,y] us→∃ u v,us=[u,v]∧RelV x u∧RelV y v
 | _,_,_,.cons r (.cons q .nil)=>⟨_,_,rfl,r,q⟩
theorem Vals.eraseIdx:∀ {xs:List V} {us:List Value} (i:Nat),Vals xs us→Vals (xs.eraseIdx i) (us.eraseIdx i)
 | _,_,_,.nil=>.nil
 | _,_,0,.cons _ t=>t
 | _,_,i + 1,.cons r t=>.cons r (Vals.eraseIdx i t)
theorem Vals.rep (h:Vals xs us):∀ k:Nat,Vals (Wb k xs).flatten (Wb k us).flatten
 | 0=>.nil
 | k + 1=>by
  rw [WZ,WZ,QD,QD]
  exact Vals.append h (Vals.rep h k)
theorem z7U:∀ (l:List α) (i:Nat),(l.eraseIdx i).length≤l.length
 | [],_=>W9 _
 | _ :: _,0=>Qs _
 | _ :: r,i + 1=>Nat.succ_le_succ (z7U r i)
theorem z84 (its:List Value):∀ (k:Nat) (acc:List Value),
  List.foldl (fun x1 x2=>x1 ++ x2) acc.toArray (Wb k its.toArray)=(acc ++ (Wb k its).flatten).toArray
 | 0,acc=>by simp
 | k + 1,acc=>by
  have e:acc.toArray ++ its.toArray=(acc ++ its).toArray:=by simp
  have e2:(acc ++ its) ++ (Wb k its).flatten=acc ++ (Wb (k + 1) its).flatten:=by
   rw [WZ,QD,List.append_assoc]
  rw [← e2,← z84 its k (acc ++ its),← e,WZ,QU]
section
variable {X:Cx} {pins:List (Addr×Obj)} {σ:St} {H:Hp} {s:W2} {l b:Addr} {xs ys zs:List V}
theorem Inv.lset {its its':List Value} {n:Nat} {f:Array Value→Array Value} {t':Nat} (I:Inv X pins σ H s) (hH:H l=some (.lst xs))
  (e:s.heap.get? l=some { cls:=.type "list",data:=.seq its.toArray n }) (hf:f its.toArray=its'.toArray) (hv:Vals ys its') (hz:ys.length≤W6) :
  Inv X pins σ (upd H l (.lst ys)) { s with heap:=s.heap.update l (Obj.mapSeq f),toks:=t' }:=by
 have q:=PySem.IsL.update e f
 rw [hf] at q
 refine I.write (x:=l) (e:=l) (by rw [hH]; exact trivial) (.inl rfl) (fun b' u hb hu=>(WP s.heap (Obj.mapSeq f) (Ne.symm hb)).trans hu) ⟨_,q⟩ ?_
 exact ⟨hz,its',_,hv,q⟩
theorem Inv.lnew (I:Inv X pins σ H s) (hv:Vals ys its) (hz:ys.length≤W6) :
  Inv X pins σ (upd H s.heap.objs.size (.lst ys)) { s with heap:=s.heap.push { cls:=.type "list",data:=.seq its.toArray },toks:=t' } :=
 I.laid (fun _ _ q=>W4 _ q) (W9 _) ⟨hz,its,0,hv,Wi _ rfl⟩
theorem Inv.fresh (I:Inv X pins σ H s):H s.heap.objs.size=none:=I.hok.fresh (W9 _)
theorem Inv.lstM (I:Inv X pins σ H s) (hH:H l=some (.lst xs)):xs.length≤W6∧∃ (its:List Value) (n:Nat),Vals xs its∧xs.length=its.length∧s.heap.get? l=some { cls:=.type "list",data:=.seq its.toArray n }:=by
 obtain ⟨z,its,n,r,e⟩:=I.hok l _ hH
 exact ⟨z,its,n,r,r.length,e⟩
end
section
variable {X:Cx}
def zaY:V→List V→Hp→VK→Prop:=fun x vs H Q=>∃ l xs y,x = .ref l∧vs=[y]∧H l=some (.lst xs)∧xs.length < W6∧Q .non (upd H l (.lst (xs ++ [y])))
theorem z7S:MtM X "list.append" zaY:=by
 intro pins s σ H x vs v us Q I rx rv h
 obtain ⟨l,xs,y,rfl,rfl,hH,hz,q⟩:=h
 cases rx
 obtain ⟨u,rfl,ru⟩:=rv.one
 obtain ⟨z,its,n,r,hl,e⟩:=I.lstM hH
 refine J5 F.slot_list_append ⟨_,e,rfl⟩ F.entry_list_append (F.args_list_append_2 _ _) (PySem.list_append l its.toArray n u (by rw [Wd]; omega)) ⟨e,?_⟩
 refine ⟨.non,_,I.lset (its':=its ++ [u]) hH e (by simp) (r.append (.cons ru .nil)) ?_,rfl,q⟩
 rw [Qv,List.length_singleton]
 omega
def zfX:V→List V→Hp→VK→Prop:=fun x vs H Q=>∃ l xs i k y,x = .ref l∧vs=[.int i]∧H l=some (.lst xs)∧-(2 ^ 63)≤i∧i < 2 ^ 63∧seqIndex? i xs.length=some k∧xs[k]? = some y∧Q y (upd H l (.lst (xs.eraseIdx k)))
theorem zd3:MtM X "list.pop" zfX:=by
 intro pins s σ H x vs v us Q I rx rv h
 obtain ⟨l,xs,i,k,y,rfl,rfl,hH,h1,h2,hk,hy,q⟩:=h
 cases rx
 obtain ⟨u,rfl,ru⟩:=rv.one
 obtain ⟨t,rfl⟩:=ru
 obtain ⟨z,its,n,r,hl,e⟩:=I.lstM hH
 obtain ⟨w,hw,rw'⟩:=r.get hy
 refine J5 F.slot_list_pop ⟨_,e,rfl⟩ F.entry_list_pop (F.args_list_pop_2 _ _)
  (MeetsSeq.list_pop_at l its.toArray n i t k w (fitsIndex_both h1 h2) (by rw [Wd,← hl]; exact hk) (by rw [← Array.getElem?_toList]; exact hw) (by rw [Wd]; omega)) ⟨e,?_⟩
 refine ⟨y,_,I.lset (its':=its.eraseIdx k) hH e ?_ (r.eraseIdx k) ?_,rw',q⟩
 ·show its.toArray.eraseIdxIfInBounds k=(its.eraseIdx k).toArray
  rw [List.eraseIdxIfInBounds_toArray]
 ·have:=z7U xs k
  omega
theorem z8E (xs:List α) (k:Nat):(Wb k xs).flatten.length=k * xs.length:=by
 induction k with
 | zero=>simp
 | succ k ih=>rw [WZ,QD,Qv,ih,Nat.succ_mul,Nat.add_comm]
end
section
variable {prog:Wk} {w:Wp} {A:Wn} {E:Value→W2→Prop} {s:W2}
set_option maxRecDepth 100000 in
end
section
variable {X:Cx}
end
section
variable {κ:Type} [DecidableEq κ]
def valV (kvs:List (κ×V)) (k:κ):Option V:=(kvs.find? fun kv=>decide (kv.1=k)).map (·.2)
def putK (kvs:List (κ×V)) (k:κ) (v:V):List (κ×V) :=
 if (kvs.any fun kv=>decide (kv.1=k))=true then kvs.map (fun kv=>if kv.1=k then (kv.1,v) else kv) else kvs ++ [(k,v)]
theorem z5s {p:κ×V} {r:List (κ×V)} {k:κ} (e:p.1=k):valV (p :: r) k=some p.2:=by simp [valV,Qo,e]
theorem z5t {p:κ×V} {r:List (κ×V)} {k:κ} (e:¬ p.1=k):valV (p :: r) k=valV r k:=by simp [valV,Qo,e]
theorem z8P (k:κ):∀ kvs:List (κ×V),(kvs.any fun kv=>decide (kv.1=k))=(valV kvs k).isSome
 | []=>rfl
 | p :: r=>by
  rw [WS]
  by_cases e:p.1=k
  ·simp only [z5s e,decide_eq_true e,Bool.true_or,Option.isSome_some]
  ·rw [z5t e,decide_eq_false e,Bool.false_or]; exact z8P k r
theorem z35 (kvs:List (κ×V)) (k:κ) (v:V):(putK kvs k v).length≤kvs.length + 1:=by
 unfold putK
 split
 ·rw [WC]; omega
 ·rw [Qv,WH,List.length_nil]; omega
theorem RelO.isSome_eq (r:RelO o u):o.isSome=u.isSome:=by
 cases o with
 | none=>cases u with
  | none=>rfl
  | some _=>exact (show False from r).elim
 | some _=>cases u with
  | none=>exact (show False from r).elim
  | some _=>rfl
theorem KV.val {kvs:List (κ×V)} {vs:List (κ×Value)} (r:KV kvs vs) (k:κ):RelO (valV kvs k) (valueAt vs k):=by
 unfold KV at r
 induction r with
 | nil=>exact True.intro
 | @cons p q ps qs h t ih =>
  obtain ⟨h1,h2⟩:=h
  by_cases e:p.1=k
  ·have e':q.1=k:=h1.symm.trans e
   have b:valueAt (q :: qs) k=some q.2:=by simp [valueAt,Qo,e']
   rw [z5s e,b]; exact h2
  ·have e':¬ q.1=k:=fun z=>e (h1.trans z)
   have b:valueAt (q :: qs) k=valueAt qs k:=by simp [valueAt,Qo,e']
   rw [z5t e,b]; exact ih
theorem KV.any (r:KV kvs vs) (k:κ):(kvs.any fun kv=>decide (kv.1=k))=vs.any fun kv=>decide (kv.1=k):=by
 unfold KV at r
 induction r with
 | nil=>rfl
 | cons h t ih=>rw [WS,WS,ih,h.1]
theorem KV.repl (r:KV kvs vs) (k:κ) (ry:RelV y u) :
  KV (kvs.map fun kv=>if kv.1=k then (kv.1,y) else kv) (vs.map fun kv=>if kv.1=k then (kv.1,u) else kv):=by
 unfold KV at r ⊢
 induction r with
 | nil=>exact .nil
 | @cons p q ps qs h t ih =>
  rw [Wz,Wz]
  refine .cons ?_ ih
  obtain ⟨h1,h2⟩:=h
  by_cases e:p.1=k
  ·rw [if_pos e,if_pos (h1.symm.trans e)]; exact ⟨h1,ry⟩
  ·rw [if_neg e,if_neg (fun z=>e (h1.trans z))]; exact ⟨h1,h2⟩
theorem KV.put (r:KV kvs vs) (k:κ) (ry:RelV y u):KV (putK kvs k y) (stored vs k u):=by
 unfold putK stored
 rw [r.any k]
 by_cases e:(vs.any fun kv=>decide (kv.1=k))=true
 ·rw [if_pos e,if_pos e]; exact r.repl k ry
 ·rw [if_neg e,if_neg e]; exact Paired.snoc r ⟨rfl,ry⟩
theorem KV.length (r:KV kvs vs):kvs.length=vs.length:=Paired.length r
end
theorem zbt (r:RelV (kV k) u):(z1L P w).is k u=true:=by
 cases k with
 | inl i=>obtain ⟨t,e⟩:=(show ∃ t,u=Value.int i t from r); subst e; exact z8D P w i t
 | inr x=>obtain ⟨t,e⟩:=(show ∃ t,u=Value.str x t from r); subst e; exact z8C P w x t
theorem z7Y:∀ {ks:List Key} {us:List Value},Vals (ks.map kV) us→ItemsAre (z1L P w) ks us
 | [],_,r=>by rw [List.map_nil] at r; cases r; exact .nil
 | k :: ks,_,r=>by
  rw [Wz] at r
  cases r with
  | cons h t=>exact .cons (zbt h) (z7Y t)
abbrev KT (H:Hp):List (List Key×V)→List (List Key×Addr×Value)→Prop:=Paired fun p q=>p.1=q.1∧H q.2.1=some (.tup (p.1.map kV))∧RelV p.2 q.2.2
theorem KT.val {H:Hp} {kvs:List (List Key×V)} {xs:List (List Key×Addr×Value)} (r:KT H kvs xs) (k:List Key):RelO (valV kvs k) ((atKey xs k).map (·.2)):=by
 induction r with
 | nil=>exact True.intro
 | @cons p q ps qs h t ih =>
  obtain ⟨h1,_,h2⟩:=h
  by_cases e:p.1=k
  ·have e':q.1=k:=h1.symm.trans e
   have b:atKey (q :: qs) k=some q.2:=by simp [atKey,Qo,e']
   rw [z5s e,b]; exact h2
  ·have e':¬ q.1=k:=fun z=>e (h1.trans z)
   have b:atKey (q :: qs) k=atKey qs k:=by simp [atKey,Qo,e']
   rw [z5t e,b]; exact ih
theorem KT.repl (r:KT H kvs xs) (k:List Key) (ry:RelV y u) :
  KT H (kvs.map fun kv=>if kv.1=k then (kv.1,y) else kv) (xs.map (putAt k u)):=by
 induction r with
 | nil=>exact .nil
 | @cons p q ps qs h t ih =>
  rw [Wz,Wz]
  refine .cons ?_ ih
  obtain ⟨h1,h2,h3⟩:=h
  unfold putAt
  by_cases e:p.1=k
  ·rw [if_pos e,if_pos (h1.symm.trans e)]; exact ⟨h1,h2,ry⟩
  ·rw [if_neg e,if_neg (fun z=>e (h1.trans z))]; exact ⟨h1,h2,h3⟩
theorem KT.put (r:KT H kvs xs) (k:List Key) (hb:H b=some (.tup (k.map kV))) (ry:RelV y u) :
  KT H (putK kvs k y) (storedH xs k b u):=by
 have e:(kvs.any fun kv=>decide (kv.1=k))=(atKey xs k).isSome:=by
  rw [z8P,(r.val k).isSome_eq,Jx]
 unfold putK storedH
 rw [e]
 by_cases q:(atKey xs k).isSome=true
 ·rw [if_pos q,if_pos q]; exact r.repl k ry
 ·rw [if_neg q,if_neg q]; exact Paired.snoc r ⟨rfl,hb,ry⟩
theorem KT.keeps (r:KT H kvs xs) (ht:∀ b ys,H b=some (.tup ys)→H' b=some (.tup ys)):KT H' kvs xs :=
 Paired.mapP r fun _ _ z=>⟨z.1,ht _ _ z.2.1,z.2.2⟩
section
variable {P:Wk} {w:Wp} {H:Hp} {h:Heap} {a:Addr}
theorem zfO (ok:HOk P w H h) (e:Rd H a u):ObjOk P w H h a u:=e.ok ok
theorem zdl (ok:HOk P w H h) (e:Rd H a (.dK kvs)):kvs.length≤W6∧(a == QS)=false∧∃ vs,KV kvs vs∧h.DictOf (z1L P w) a vs :=
 show ObjOk P w H h a (.dK kvs) from zfO ok e
theorem zgZ (ok:HOk P w H h) (e:H a=some (.dK kvs)):kvs.length≤W6∧(a == QS)=false∧∃ vs,KV kvs vs∧h.DictOf (z1L P w) a vs:=zdl ok (.inl e)
theorem z9c (ok:HOk P w H h) (e:H a=some (.tup (ks.map kV))):(tupleKind (z1L P w)).is h ks a:=by
 obtain ⟨_,its,r,p⟩:=(show ObjOk P w H h a (.tup (ks.map kV)) from ok a _ e)
 obtain ⟨o,h1,h2,n,h3⟩:=p.tup
 exact ⟨o,its.toArray,n,h1,h2,h3,by simpa using z7Y r⟩
theorem zfh (ok:HOk P w H h) (e:Rd H a (.dT kvs)):kvs.length≤W6∧(a == QS)=false ∧
  ∃ xs,KT H kvs xs∧h.DictOfH (tupleKind (z1L P w)) a xs:=by
 obtain ⟨z,y,xs,r,o,es,ep,h1,h2,h3,h4,h5⟩:=(show ObjOk P w H h a (.dT kvs) from zfO ok e)
 refine ⟨z,y,xs,r,o,es,ep,h1,h2,h3,h4,fun x hx=>?_,h5⟩
 have all:∀ {l:List (List Key×V)} {m:List (List Key×Addr×Value)},KT H l m→∀ x ∈ m,(tupleKind (z1L P w)).is h x.1 x.2.1:=by
  intro l m q
  induction q with
  | nil=>intro x hx; exact nomatch hx
  | @cons p q ps qs hq t ih =>
   intro x hx
   rcases Wg.mp hx with e | hx
   ·subst e
    exact z9c ok (by rw [← hq.1]; exact hq.2.1)
   ·exact ih x hx
 exact all r x hx
theorem dt_of (ok:HOk P w H h) (e:H a=some (.dT kvs)):kvs.length≤W6∧(a == QS)=false ∧
  ∃ xs,KT H kvs xs∧h.DictOfH (tupleKind (z1L P w)) a xs:=zfh ok (.inl e)
end
def DGet (H:Hp) (a:Addr) (y:V) (r:Option V):Prop :=
 (∃ kvs k,Rd H a (.dK kvs)∧y=kV k∧r=valV kvs k)∨∃ kvs k b,Rd H a (.dT kvs)∧y = .ref b∧H b=some (.tup (k.map kV))∧r=valV kvs k
def DPut (H:Hp) (a:Addr) (y v:V) (H':Hp):Prop :=
 (∃ kvs k,H a=some (.dK kvs)∧y=kV k∧kvs.length < W6∧H'=upd H a (.dK (putK kvs k v))) ∨
 ∃ kvs k b,H a=some (.dT kvs)∧y = .ref b∧H b=some (.tup (k.map kV))∧kvs.length < W6∧H'=upd H a (.dT (putK kvs k v))
theorem DGet.k {H:Hp} {a:Addr} {kvs:List (Key×V)} {k:Key} (e:H a=some (.dK kvs)):DGet H a (kV k) (valV kvs k):=.inl ⟨kvs,k,.inl e,rfl,rfl⟩
theorem DPut.k {H:Hp} {a:Addr} {kvs:List (Key×V)} {k:Key} {v:V} (e:H a=some (.dK kvs)) (hl:kvs.length < W6):DPut H a (kV k) v (upd H a (.dK (putK kvs k v))):=.inl ⟨kvs,k,e,rfl,hl,rfl⟩
section
variable {X:Cx} {pins:List (Addr×Obj)} {σ:St} {H:Hp} {s:W2} {a:Addr} {y v:V} {u r:Value} {o:Option V} {A:Wn} {E:Value→W2→Prop}
theorem Inv.big (I:Inv X pins σ H s):QS < s.heap.objs.size:=by
 have h:Wj < s.heap.objs.size:=(I.mod.glob.keeps I.bk).lt
 exact Nat.lt_trans (by decide) h
theorem d_in (hu:A.units + 1 < Ql) (I:Inv X pins σ H s) (g:DGet H a y o) (ry:RelV y u) (h:∀ s',Inv X pins σ H s'→Q (.bool o.isSome) s') :
  W8 (model X.prog X.w) A (Wq .In u (.ref a)) Q E s:=by
 rcases g with ⟨kvs,k,e,ey,l⟩ | ⟨kvs,k,b,e,ey,eb,l⟩
 ·subst ey
  obtain ⟨z,hd,vs,rel,dd⟩:=zdl I.hok e
  refine wpAny_in_of (zbt ry) hd dd.mapOf ?_
  rw [← (rel.val k).isSome_eq,← l]
  exact h _ (I.tok _)
 ·subst ey
  cases (show u=Value.ref b from ry)
  obtain ⟨z,hd,xs,rel,dd⟩:=zfh I.hok e
  refine wpAny_in_heap (tupleKind_room_in1 hu) (z9c I.hok eb) hd dd ?_
  have q:=(rel.val k).isSome_eq
  rw [Jx] at q
  rw [← q,← l]
  exact h _ (I.tok _)
theorem zfi (hu:A.units + 1 < Ql) (I:Inv X pins σ H s) (g:DGet H a y o) (ry:RelV y u) (h:∀ s',Inv X pins σ H s'→Q (.bool (!o.isSome)) s') :
  W8 (model X.prog X.w) A (Wq .NotIn u (.ref a)) Q E s:=by
 rcases g with ⟨kvs,k,e,ey,l⟩ | ⟨kvs,k,b,e,ey,eb,l⟩
 ·subst ey
  obtain ⟨z,hd,vs,rel,dd⟩:=zdl I.hok e
  refine wpAny_notIn_of (zbt ry) hd dd.mapOf ?_
  rw [← (rel.val k).isSome_eq,← l]
  exact h _ (I.tok _)
 ·subst ey
  cases (show u=Value.ref b from ry)
  obtain ⟨z,hd,xs,rel,dd⟩:=zfh I.hok e
  refine wpAny_notIn_heap (tupleKind_room_in1 hu) (z9c I.hok eb) hd dd ?_
  have q:=(rel.val k).isSome_eq
  rw [Jx] at q
  rw [← q,← l]
  exact h _ (I.tok _)
theorem z8I (I:Inv X pins σ H s) (mu:Mut (H a)) (hs:Heap.SameBut a s.heap h') (he:∃ q,h'.get? a=some q) (new:ObjOk X.prog X.w (upd H a ob) h' a ob) :
  Inv X pins σ (upd H a ob) { s with heap:=h',toks:=t' } :=
 I.write (x:=a) (e:=a) mu (.inl rfl) (fun b q hb z=>(hs.2 b hb).trans z) he new
theorem ze2 (z:kvs.length≤W6) (hd:(a == QS)=false) (rel:KV kvs vs) (dd:h'.DictOf (z1L P w) a vs) :
  ObjOk P w H' h' a (.dK kvs):=⟨z,hd,vs,rel,dd⟩
theorem zbW (hu:A.units + 1 < Ql) (I:Inv X pins σ H s) (g:DPut H a y v H') (ry:RelV y u) (rv:RelV v r) (h:∀ s',Inv X pins σ H' s'→Q () s') :
  W8 (model X.prog X.w) A (setItem (.ref a) u r) Q E s:=by
 rcases g with ⟨kvs,k,e,ey,l,eH⟩ | ⟨kvs,k,b,e,ey,eb,l,eH⟩
 ·subst ey eH
  obtain ⟨z,hd,vs,rel,dd⟩:=zgZ I.hok e
  have hz:vs.length≤W6:=by rw [← rel.length]; exact z
  have hl:(putK kvs k v).length≤W6:=by have:=z35 kvs k v; omega
  refine wpAny_setItem_pairs (hsz:=hz) (zbt ry) dd fun h' dd' hs=>h _ ?_
  have he:∃ q,h'.get? a=some q:=let ⟨q,_,_,hq,_⟩:=dd'; ⟨q,hq⟩
  exact z8I I (by rw [e]; exact True.intro) hs he (ze2 hl hd (rel.put k rv) dd')
 ·subst ey eH
  cases (show u=Value.ref b from ry)
  obtain ⟨z,hd,xs,rel,dd⟩:=dt_of I.hok e
  have hz:xs.length≤W6:=by rw [← Paired.length rel]; exact z
  have hl:(putK kvs k v).length≤W6:=by have:=z35 kvs k v; omega
  refine wpAny_setItem_heap (hsz:=hz) (tupleKind_room_in1 hu) (z9c I.hok eb) dd fun h' dd' hs=>h _ ?_
  obtain ⟨q,es,ep,hq,h2,h3,h4,_,h5⟩:=dd'
  refine z8I I (by rw [e]; exact True.intro) hs ⟨q,hq⟩ ⟨hl,hd,_,(rel.put k eb rv).keeps fun c ys ec=>?_,q,es,ep,hq,h2,h3,h4,h5⟩
  rw [z0l (ne_of ec e (fun z=>nomatch z))]
  exact ec
end
section
variable {X:Cx} {pins:List (Addr×Obj)} {σ:St} {H:Hp} {s:W2} {a:Addr} {kvs:List (Key×V)} {k:Key} {u:Value} {A:Wn} {E:Value→W2→Prop}
theorem d_len (I:Inv X pins σ H s) (e:Rd H a (.dK kvs)) (h:∀ t s',Inv X pins σ H s'→Q (.int kvs.length t) s'):W8 (model X.prog X.w) A (call (.builtin "len") [.ref a]) Q E s:=by
 obtain ⟨z,hd,vs,rel,dd⟩:=zdl I.hok e
 refine call_len_dict hd dd (by rw [← rel.length]; rw [WO] at z; omega) ?_
 rw [← rel.length]
 exact h _ _ (I.tok _)
end
def sDPut (td ty tv:TE):TS:=fun D σ H=>tv σ H fun v H1=>td σ H1 fun x H2=>ty σ H2 fun y H3=>∃ a H4,x = .ref a∧DPut H3 a y v H4∧D.nx σ H4
section
variable {X:Cx} {o i e value:Expr} {pos pos' tpos:Pos} {td ty tv:TE}
theorem zeE (hu:X.A.units + 1 < Ql) (ho:PE X o td) (hi:PE X i ty) (hv:PE X value tv) (hs:swapsWith value (some (.Subscript o i pos')) pos.line X.env=pure false) :
  PS X (.Assign [.Subscript o i pos'] value pos) (sDPut td ty tv):=by
 intro pins s σ H D I h
 refine wpAny_Assign_Subscript (thn (hv pins s σ H _ I h) fun r s1 ⟨v,H1,I1,rv,q1⟩=>thn (ho pins s1 σ H1 _ I1 q1) fun u s2 ⟨x,H2,I2,rx,q2⟩=>thn (hi pins s2 σ H2 _ I2 q2) fun iv s3 ⟨y,H3,I3,ry,a,H4,ex,g,q3⟩=>?_) hs
 subst ex
 obtain rfl:u=Value.ref a:=rx
 exact zbW hu I3 g ry rv fun s4 I4=>⟨σ,H4,I4,q3⟩
end
theorem z9r (h:Heap) (hb:QS < h.objs.size):ObjOk P w H (h.push { cls:=.type "dict",data:=.dict #[] }) h.objs.size (.dK []) :=
 ⟨WY _,beq_eq_false_iff_ne.mpr (Ne.symm (WA hb)),[],.nil,Heap.DictOf.new h⟩
def zfx:TE:=fun _ H Q=>∀ p,H p=none→Q (.ref p) (upd H p (.dK []))
section
variable {X:Cx} {pos:Pos}
theorem zcO:PE X (.Dict [] [] pos) zfx:=fun pins s σ H Q I h =>
 wpAny_Dict_empty ⟨.ref s.heap.objs.size,_,I.laid (a:=s.heap.objs.size) (o:=.dK []) (t':=s.toks) (fun _ _ q=>W4 _ q) (W9 _) (z9r s.heap I.big),rfl,h _ (I.hok.fresh (W9 _))⟩
end
structure M1 (X:Cx) (o:Expr) (m:Str) (apos:Pos) (e:Expr) (cpos:Pos):Prop where
 base:Qa o m X.env (eval o X.env)=eval o X.env
 few:((WJ cpos (W5 [e] X.env)).all (fun x=>!x.1) && (backToKw cpos (QX [] X.env)).all (fun x=>x.1.isSome)
  && decide (([e]:List Expr).length + ([]:List Keyword).length + (if ([]:List Keyword).isEmpty then 0 else 1) < 30))=true
 line:(apos.endLine == cpos.line)=true
 trees:WJ cpos (W5 [e] X.env)=[(false,eval e X.env)]
structure M2 (X:Cx) (o:Expr) (m:Str) (apos:Pos) (e f:Expr) (cpos:Pos):Prop where
 base:Qa o m X.env (eval o X.env)=eval o X.env
 few:((WJ cpos (W5 [e,f] X.env)).all (fun x=>!x.1) && (backToKw cpos (QX [] X.env)).all (fun x=>x.1.isSome)
  && decide (([e,f]:List Expr).length + ([]:List Keyword).length + (if ([]:List Keyword).isEmpty then 0 else 1) < 30))=true
 line:(apos.endLine == cpos.line)=true
 trees:WJ cpos (W5 [e,f] X.env)=[(false,eval e X.env),(false,eval f X.env)]
section
variable {X:Cx} {pins:List (Addr×Obj)} {σ:St} {H:Hp} {s:W2} {a:Addr} {y d:V} {u r:Value} {o:Option V} {A:Wn} {E:Value→W2→Prop}
end
section
variable {X:Cx} {o e f:Expr} {apos cpos:Pos} {td ty tx:TE}
end
section
variable {X:Cx} {pins:List (Addr×Obj)} {σ:St} {H:Hp} {s:W2} {a:Addr} {kvs:List (Key×V)} {A:Wn} {E:Value→W2→Prop}
end
section
variable {X:Cx} {pins:List (Addr×Obj)} {σ:St} {H:Hp} {s:W2} {a:Addr} {y:V} {u:Value} {A:Wn} {E:Value→W2→Prop}
end
end L2
namespace Att
open PySem PySem.W PySem.Calls PyProof.Rows
theorem z66:∀ (ns:List Int) (vs:List Value),WellAll P h vs (ns.map WData.int)→IntsAre vs ns:=by
 intro ns
 induction ns with
 | nil =>
  intro vs w
  rw [List.map_nil] at w
  cases w
  exact .nil
 | cons n ns ih =>
  intro vs w
  rw [Wz] at w
  cases w with
  | cons a b =>
   cases a
   exact .cons _ _ (ih _ b)
theorem zaI {l:OpenLaw} {n:Nat} (hn:l.most=some n) {P:Params} {h:Heap} {args:List WData} {vals:List Value}
  (hpre:l.row.toRowW.claim.pre args=true) (hwl:WellAll P h vals args) :
  ∃ a vs ns,vals=[Value.ref a]∧args=[WData.list (ns.map WData.int)]∧h.get? a=some { cls:=.type "list",data:=.seq vs.toArray }∧IntsAre vs ns∧ns.length≤n:=by
 have hsh:WShape.hasAll [] args [.list .int]=true:=(pre_splitW hpre).1
 have hc:l.pre.holds [] { args:=args } = true:=(pre_splitW hpre).2
 obtain ⟨d,r,rfl,h1,h2⟩:=hasAllW_cons hsh
 obtain rfl:=hasAllW_nil h2
 obtain ⟨xs,rfl,h3⟩:=hasW_list h1
 obtain ⟨ns,rfl⟩:=items_int h3
 have hlen:ns.length≤n:=by
  unfold OpenLaw.pre at hc
  have h4:(WTm.not (.lt (.lit (.int (n:Int))) (.len (.arg 0)))).holds [] { args:=[.list (ns.map .int)] } = true:=by
   have h4:=(holds_andW hc).1
   rw [hn] at h4
   exact h4
  have h5:=condW_of h4 (w_not (w_lt w_lit (w_len_list (w_arg rfl))))
  rw [WC] at h5
  refine Nat.le_of_not_lt fun q=>?_
  have q':(n:Int) < ((ns.length:Nat):Int):=by omega
  first
   | (rw [decide_eq_true q'] at h5; exact absurd h5 (by decide))
   | (simp at h5; omega)
 cases hwl with
 | cons w1 w2 =>
  cases w2
  cases w1 with
  | list ho hall=>exact ⟨_,_,ns,rfl,rfl,ho,z66 ns _ hall,hlen⟩
theorem zb3 (l:OpenLaw) (args:List WData):l.row.toRowW.claim.post args (.bool true) args=true :=
 postW_of (r:=l.row.toRowW) (X:=(true == true))
  (show WShape.has [] (.bool true) .bool=true by first | rfl | decide | simp [WShape.has,WShape.arms,WShape.armsAll])
  (show (WTm.eq .res (.lit (.bool true))).value [] { args:=args,res:=some (.bool true),after:=args } = some (.bool (true == true)) from w_eq_bool (w_res rfl) w_lit) rfl
theorem attach_call {l:OpenLaw} {n:Nat} {q:Wk} {loose:List Str} {XP:(Str→Option Value)→Heap→Prop} {YP:Wp→Heap→Prop} {d:DefRec}
  (hn:l.most=some n) (hdf:d.params.defaults=[])
  (call:∀ (w:Wp) (s₀ s₁:W2) (mg mb:Str→Option Value) (fa:Addr) (o:Obj) (pm cd doc:Value) (a:Addr) (vs:List Value) (ns:List Int),
   Ground q loose [] XP w s₀ mg mb s₁.heap→YP w s₁.heap →
   s₁.heap.get? fa=some o→o.data = .func (docDef d.name d.params d.body d.scope pm cd doc)→s₁.heap.CodeRec cd d.name→mg d.name=some (.ref fa) →
   s₁.heap.get? a=some { cls:=.type "list",data:=.seq vs.toArray }→IntsAre vs ns→ns.length≤n→s₁.gens = #[] →
   Qr (model l.prog w) callerA (.call (.ref fa) ⟨[.ref a],[]⟩) (fun r s'=>r = .ok (.ret (.bool true))∧OldK s₁.heap s'.heap∧s'.os=s₁.os∧AllBare s'.gens) s₁) :
  WalkO q loose XP YP l.row.toRowW d [] (fun f vs=>PySem.call f vs):=by
 intro w s₀ s₁ mg mb G Y fa o pm cd doc dV kV ho hd hcd hD hmg hg args vals as hpre hlay hrd hwl hlo
 obtain rfl:dV = .none:=Dflts.none hD hdf
 obtain rfl:kV = .none:=Dflts.noKw hD
 obtain ⟨a,vs,ns,rfl,rfl,hobj,hints,hlen⟩:=zaI hn hpre hwl
 refine enter_call (Ji (call w s₀ s₁ mg mb fa o pm cd doc a vs ns G Y ho (fd_plain hd) hcd hmg hobj hints hlen hg) fun r s' hq=>?_)
 obtain ⟨rfl,h2,h3,h4⟩:=hq
 exact ⟨.inl ⟨.bool true,.bool true,[],rfl,fun _=>rfl,.bool true,zb3 l _,fun _=>⟨List.Pairwise.nil,fun _ hm=>(nomatch hm)⟩⟩,h2,h3,h4⟩
section
variable {prog:Wk} {w:Wp} {A:Wn} {E:Value→W2→Prop} {s:W2} {K:Frag}
end
end Att
namespace L2
open PySem PySem.Spec PyProof.Rows
theorem vals_ints:∀ {vs:List Value} {ns:List Int},IntsAre vs ns→Vals (ns.map V.int) vs
 | _,_,.nil=>.nil
 | _,_,.cons n t h=>.cons ⟨t,rfl⟩ (vals_ints h)
def Only (H:Hp):Prop:=∀ b,H b=none∨∃ o xs,H b=some (.frz o (.lst xs))
theorem zd9 {P:Wk} {w:Wp} {K:W0} {mg mb:Str→Option Value} {CX:CXT} {k:Nat} {fa a:Addr} {fd:WF} {x:Str} {sp:Sp} {s₁:W2} {vs:List Value} {ns:List Int}
  (KX:K.In s₁.heap) (hns:s₁.heap.Ns Wj mg) (hb:s₁.heap.Ns builtinsNs mb) (hbb:∀ x:Str,x≠"__name__"→mb x=Q1 x) (hlim:s₁.heap.NoLimit) (hg:s₁.gens = #[])
  (ha:s₁.heap.get? a=some { cls:=.type "list",data:=.seq vs.toArray }) (hi:IntsAre vs ns) (hl:ns.length≤W6) (hr:Room k callerA)
  (F:∀ base:Heap,K.In base→base.Ns Wj mg→FnOk P w K mg base CX k fa fd [x] sp) (hbind:∀ (s:W2) (u:Value),BindsTo s fd ⟨[u],[]⟩ [(x,u)])
  (hsp:∀ H:Hp,Only H→SqL K H a (ns.map V.int)→sp [.ref a] H (fun v _=>v = .bl true) fun _ _ _=>False)
  (hCX:∀ H e s',CX [] H s₁ (fun _ _ _=>False) e s'→False) :
  Qr (model P w) callerA (.call (.ref fa) ⟨[.ref a],[]⟩) (fun r s'=>r = .ok (.ret (.bool true))∧OldK s₁.heap s'.heap∧s'.os=s₁.os∧AllBare s'.gens) s₁:=by
 have rv:=vals_ints hi
 have lenV:=hi.length
 -- from an abstract heap in which nothing but the script may be tracked
 have core:∀ H:Hp,Only H→SqL K H a (ns.map V.int)→HOk P w H s₁.heap→(∀ b,H b≠none→b=a)→(H a≠none→K.lookup a=none) →
   Qr (model P w) callerA (.call (.ref fa) ⟨[.ref a],[]⟩) (fun r s'=>r = .ok (.ret (.bool true))∧OldK s₁.heap s'.heap∧s'.os=s₁.os∧AllBare s'.gens) s₁:=by
  intro H hO hS hok hA hK
  have base_of:∀ {b:Addr} {o:Obj},s₁.heap.get? b=some o→H b=none→(hidT s₁.heap H).get? b=some o:=fun e n=>zdd e n
  have noA:∀ {b:Addr} {o:Obj} {es:Array DictEntry} {ep:Nat},s₁.heap.get? b=some o→o.data = .dict es ep→H b=none:=fun {b o es ep} e d=>by
   cases q:H b with
   | none=>rfl
   | some u =>
    have e':b=a:=hA b (by rw [q]; simp)
    subst e'
    rw [ha] at e; cases e
    have d':Data.seq vs.toArray _=Data.dict es ep:=d
    cases d'
  have nsK:∀ {b:Addr} {m:Str→Option Value},s₁.heap.Ns b m→(hidT s₁.heap H).Ns b m:=fun {b m} ⟨o,es,ep,e,d,r⟩=>⟨o,es,ep,base_of e (noA e d),d,r⟩
  have hKb:K.In (hidT s₁.heap H):=fun b o e=>base_of (KX b o e) (by
   cases q:H b with
   | none=>rfl
   | some u =>
    have e':b=a:=hA b (by rw [q]; simp)
    subst e'
    rw [hK (by rw [q]; simp)] at e; cases e)
  have hM:Mod K mg (hidT s₁.heap H):=⟨hKb,nsK hns,⟨mb,nsK hb,hbb⟩,let ⟨mc,h1,h2⟩:=hlim; ⟨mc,nsK h1,h2⟩⟩
  have e0:Env0 P w K mg (hidT s₁.heap H) callerA [] s₁ H:=⟨rfl,hM,fun b o e=>zeU e,Nat.le_of_eq (zbE _ _),trivial,fun b hb=>absurd (show b ∈ ([]:List Addr) from hb) (by simp),hok,.of_eq hg⟩
  refine Ji ((F _ hKb (nsK hns)).run callerA [] s₁ H ⟨[.ref a],[]⟩ [.ref a] [.ref a] _ _ hr e0 (hbind s₁ (.ref a)) (.cons rfl .nil) (hsp H hO hS)) fun r s' h=>?_
  cases r with
  | error e=>exact (hCX H e s' h).elim
  | ok fl =>
   cases fl with
   | next=>exact False.elim h
   | brk=>exact False.elim h
   | cont=>exact False.elim h
   | ret u =>
    obtain ⟨v,H',os,bare,un,hok',r',q⟩:=h
    have q':v = .bl true:=q
    subst q'
    obtain rfl:u=Value.bool true:=r'
    refine ⟨rfl,OldK.of_keep fun b o e=>?_,os,bare⟩
    cases q:H b with
    | none=>exact un.keep b o e q (by intro z; exact absurd (show b ∈ ([]:List Addr) from z) (by simp)) (by simp)
    | some u =>
     rcases hO b with z | ⟨ob,xs,z⟩
     ·rw [q] at z; cases z
     ·have z2:=un.frzs b ob _ z
      obtain ⟨e1,_⟩:=hok b _ z
      obtain ⟨e2,_⟩:=hok' b _ z2
      rw [e] at e1; cases e1
      exact e2
 cases hk:K.lookup a with
 | some o =>
  -- the script is one of the module's own objects
  have e:=KX a o hk
  rw [ha] at e
  cases e
  refine core (fun _=>none) (fun _=>.inl rfl) (.inr ⟨_,vs.toArray,_,hk,rfl,rfl,rfl,by rw [Wd,lenV]; exact hl,by simpa using rv⟩) (fun b u z=>by have z':(none:Option HO)=some u:=z; cases z') (fun b z=>absurd rfl z) fun z=>absurd rfl z
 | none =>
  refine core (fun b=>if b=a then some (.frz { cls:=.type "list",data:=.seq vs.toArray } (.lst (ns.map V.int))) else none) (fun b=>?_) (.inl (.inr ⟨{ cls:=.type "list",data:=.seq vs.toArray },if_pos rfl⟩)) (fun b u z=>?_) (fun b z=>?_) fun _=>hk
  ·by_cases hb:b=a
   ·exact .inr ⟨_,_,if_pos hb⟩
   ·exact .inl (if_neg hb)
  ·by_cases hb:b=a
   ·have z':=(if_pos hb).symm.trans z
    cases z'
    subst hb
    exact ⟨ha,by rw [WC]; exact hl,vs,_,rv,ha⟩
   ·have z':=(if_neg hb).symm.trans z
    cases z'
  ·by_cases hb:b=a
   ·exact hb
   ·exact absurd (if_neg hb) z
abbrev KOf {K:W0} {h:Heap} (_:K.In h):W0:=K
theorem walk_of {l:PySem.W.OpenLaw} {n k:Nat} {q:Wk} {loose:List Str} {XP:(Str→Option Value)→Heap→Prop} {YP:Wp→Heap→Prop} {d:DefRec} {K:Params→W0} {CX:Wp→CXT} {sp:Wp→Sp} {x:Str}
  (hn:l.most=some n) (hn2:n≤W6) (hdf:d.params.defaults=[]) (hr:Room k callerA)
  (hY:∀ (w:Wp) (h:Heap),YP w h→(K w.params).In h)
  (F:∀ (w:Wp) (mg:Str→Option Value) (fa:Addr) (h:Heap),(K w.params).In h→h.Ns Wj mg→mg d.name=some (.ref fa) →
   ∃ fd:WF,(∀ (s:W2) (u:Value),BindsTo s fd ⟨[u],[]⟩ [(x,u)]) ∧
    ∀ base:Heap,(K w.params).In base→base.Ns Wj mg→FnOk l.prog w (K w.params) mg base (CX w) k fa fd [x] (sp w))
  (hsp:∀ (w:Wp) (H:Hp) (a:Addr) (ns:List Int),ns.length≤n→Only H→SqL (K w.params) H a (ns.map V.int)→sp w [.ref a] H (fun v _=>v = .bl true) fun _ _ _=>False)
  (hCX:∀ (w:Wp) (H:Hp) (s:W2) (e:Value) (s':W2),CX w [] H s (fun _ _ _=>False) e s'→False) :
  PySem.W.WalkO q loose XP YP l.row.toRowW d [] (fun f vs=>PySem.call f vs):=by
 refine Att.attach_call hn hdf fun w s₀ s₁ mg mb fa o pm cd doc a vs ns G Y ho hd hcd hmg hobj hints hlen hg=>?_
 have KX:=hY w _ Y
 obtain ⟨fd,hb,hF⟩:=F w mg fa _ KX G.T.g hmg
 exact zd9 KX G.T.g G.T.b G.T.builtins G.T.nolimit hg hobj hints (Q5 hlen hn2) hr hF hb (fun H hO hS=>hsp w H a ns hlen hO hS) fun H e s'=>hCX w H s₁ e s'
def z36 (s:Stmt):Arguments:=match s with
 | .FunctionDef _ a _ _ _ _ _ _ _ _=>a
 | _=>{ posonlyargs:=[],args:=[],vararg:=none,kwonlyargs:=[],kw_defaults:=[],kwarg:=none,defaults:=[] }
def z1i (s:Stmt):List Stmt:=match s with
 | .FunctionDef _ _ b _ _ _ _ _ _ _=>b
 | _=>[]
def z05 (s:Stmt):Scope:=match s with
 | .FunctionDef _ _ _ _ _ _ sc _ _ _=>sc
 | _=>{ kind:=.function,names:=[],isGenerator:=false,isCoroutine:=false }
abbrev CX0:CXT:=fun _ _ _ _ _ _=>False
abbrev E0:XK:=fun _ _ _=>False
theorem pass0:zch CX0 X E0:=fun _ _ _ _ _ _ _ h=>h.elim
structure Fun (K:W0) (x qual:Str) (st:Stmt) (f:Addr) (fd:WF):Prop where
 ex:∃ (oc:Value) (od:Option Addr) (kV doc pm:Value) (an:Option Addr) (cdv ct:Value) (osl:Array (Option Value)),
  fd=Qg x qual (z36 st) (z1i st) (z05 st) .none kV doc pm an cdv ct∧K.lookup f=some ⟨oc,od,.func fd,osl⟩∧PySem.W.codeIn K cdv qual=true
 kp:Q6 K (.ref f)=true
section
variable {P:Wk} {w:Wp} {K:W0} {mg:Str→Option Value} {base:Heap}
theorem Fun.ok {x qual:Str} {st:Stmt} {f:Addr} {fd:WF} {N ps:List Str} {k:Nat} {sp:Sp} (F:Fun K x qual st f fd) (S:FnScope N ps (z05 st)) (len:∀ vs H Q E,sp vs H Q E→vs.length=ps.length)
  (hbody:∀ (cdv:Value) (A:Wn) (outer:List Env) (s:W2) (H:Hp) (vs:List V) (Q:VK) (E:XK),Room k (A.deeper (QI qual (z05 st) s.heap.objs.size f cdv))→sp vs H Q E →
   ∃ t,PSs (cxOf CX0 P w K mg base N qual (z05 st) f cdv A outer s H E).nox (z1i st) t∧t { nx:=fun _ H'=>Q .non H',rt:=Q } (start N vs) H):FnOk P w K mg base CX0 (k + 1) f fd ps sp:=by
 obtain ⟨oc,od,kV,doc,pm,an,cdv,ct,osl,rfl,lk,hcd⟩:=F.ex
 refine zgS lk hcd S len fun A outer s H vs Q E hr hsp=>?_
 obtain ⟨t,h,q⟩:=hbody cdv A outer s H vs Q E hr hsp
 exact ⟨t,h.nox,q⟩
theorem Fun.binds {x qual:Str} {st:Stmt} {f:Addr} {fd:WF} {ps:List Str} (F:Fun K x qual st f fd)
  (h:∀ (kV doc pm:Value) (an:Option Addr) (cdv ct:Value) (us:List Value),us.length=ps.length→bindArgs (Qg x qual (z36 st) (z1i st) (z05 st) .none kV doc pm an cdv ct) ⟨us,[]⟩=pure (ps.zip us)):Binds K fd ps []:=by
 obtain ⟨oc,od,kV,doc,pm,an,cdv,ct,osl,rfl,lk,hcd⟩:=F.ex
 exact .all (h kV doc pm an cdv ct)
theorem zbI {x qual:Str} {st:Stmt} {f:Addr} {oc:Value} {od an:Option Addr} {osl:Array (Option Value)} {kV doc pm cdv ct:Value} (l:K.lookup f=some ⟨oc,od,.func (Qg x qual (z36 st) (z1i st) (z05 st) .none kV doc pm an cdv ct),osl⟩)
  (c:PySem.W.codeIn K cdv qual=true) (k:Q6 K (.ref f)=true):Fun K x qual st f (Qg x qual (z36 st) (z1i st) (z05 st) .none kV doc pm an cdv ct):=⟨⟨oc,od,kV,doc,pm,an,cdv,ct,osl,rfl,l,c⟩,k⟩
end
theorem zax (h:n≤1000):n < W6:=Nat.lt_of_le_of_lt h (by decide)
section
variable {X:Cx}
theorem pv (i:Nat) (hN:X.N[i]? = some x:=by rfl) (hv:Vis X.env.scope x:=by first | exact Or.inl rfl | exact Or.inr (Or.inl rfl) | exact Or.inr (Or.inr rfl)) (hd:(x == ("__debug__" : Str))=false:=by decide)
  (hcd:(x == ("__classdict__" : Str))=false:=by decide):PE X (.Name x pos) (tVar i):=zgc hN hv hd hcd
theorem zc6:CallR X (.builtin "len") (fun xs H Q=>∃ a kvs,xs=[V.ref a]∧H a=some (.dK kvs)∧Q (.int kvs.length) H):=by
 intro pins s σ H xs us Q I r h
 obtain ⟨a,kvs,rfl,ha,q⟩:=h
 obtain ⟨u,rfl,ru⟩:=z3F r
 cases ru
 exact d_len I (.inl ha) fun t s' I'=>⟨.int kvs.length,H,I',⟨t,rfl⟩,q⟩
end
section
variable {κ:Type} [DecidableEq κ]
end
def z1W (cells:List (Str×Addr)):List (Str×NameKind)→List (Str×Addr)→List (Str×Addr)
 | [],acc=>acc
 | (n,k) :: r,acc=>z1W cells r (if k == .free then (match cells.lookup n with | some a=>(n,a) :: acc | none=>acc) else acc)
theorem z47 (f:Str×NameKind→List (Str×Addr)→Sem (ForInStep (List (Str×Addr))))
  (hf:∀ name kind cs,f (name,kind) cs=if kind == .free then (do let a ← cellOf env name; pure (.yield ((name,a) :: cs))) else pure (.yield cs)) :
  ∀ (names:List (Str×NameKind)) (acc:List (Str×Addr)),(∀ x ∈ names,x.2=NameKind.free→∃ c,env.cells.lookup x.1=some c)→(forIn names acc f:Sem (List (Str×Addr)))=pure (z1W env.cells names acc)
 | [],acc,_=>by rw [List.forIn_nil]; rfl
 | (n,k) :: r,acc,h=>by
  rw [List.forIn_cons,hf]
  unfold z1W
  by_cases hk:(k == NameKind.free)=true
  ·obtain ⟨c,hc⟩:=h (n,k) Wy (by simpa using hk)
   have hc':env.cells.lookup n=some c:=hc
   have e:cellOf env n=pure c:=by unfold cellOf; rw [hc']
   rw [if_pos hk,if_pos hk,e,hc']
   exact z47 f hf r _ fun x hx=>h x (Wl _ hx)
  ·rw [if_neg hk,if_neg hk]
   exact z47 f hf r _ fun x hx=>h x (Wl _ hx)
theorem zad (h:∀ x ∈ scope.names,x.2=NameKind.free→∃ c,env.cells.lookup x.1=some c):closureFor scope env=pure (z1W env.cells scope.names []):=by
 unfold closureFor
 dsimp only
 rw [z47 (env:=env) _ (fun name kind cs=>by cases hkc:kind == NameKind.free <;> simp [hkc]) scope.names [] h]
 rfl
theorem z6M:∀ (names:List (Str×NameKind)) (acc:List (Str×Addr)),(n,c) ∈ z1W cells names acc→(n,c) ∈ acc∨((n,NameKind.free) ∈ names∧cells.lookup n=some c)
 | [],acc,h=>.inl h
 | (y,k) :: r,acc,h=>by
  unfold z1W at h
  rcases z6M r _ h with q | ⟨q,e⟩
  ·by_cases hk:(k == NameKind.free)=true
   ·rw [if_pos hk] at q
    have hk':k=NameKind.free:=by simpa using hk
    cases e:cells.lookup y with
    | none=>rw [e] at q; exact .inl q
    | some a =>
     rw [e] at q
     rcases Wg.mp q with z | z
     ·cases z
      exact .inr ⟨by rw [hk']; exact Wy,e⟩
     ·exact .inl z
   ·rw [if_neg hk] at q; exact .inl q
  ·exact .inr ⟨Wl _ q,e⟩
theorem z6g:∀ (names:List (Str×NameKind)) (acc:List (Str×Addr)),(acc.lookup n).isSome=true∨((n,NameKind.free) ∈ names∧(cells.lookup n).isSome=true)→((z1W cells names acc).lookup n).isSome=true
 | [],acc,h=>h.elim id fun z=>absurd z.1 (by simp)
 | (y,k) :: r,acc,h=>by
  unfold z1W
  apply z6g r
  by_cases hk:(k == NameKind.free)=true
  ·rw [if_pos hk]
   cases e:cells.lookup y with
   | none =>
    rcases h with h | ⟨h1,h2⟩
    ·exact .inl h
    ·rcases Wg.mp h1 with z | z
     ·cases z
      rw [e] at h2; cases h2
     ·exact .inr ⟨z,h2⟩
   | some a =>
    by_cases hn:(n == y)=true
    ·refine .inl ?_
     show (List.lookup n ((y,a) :: acc)).isSome=true
     rw [WI,hn]
     rfl
    ·rcases h with h | ⟨h1,h2⟩
     ·refine .inl ?_
      show (List.lookup n ((y,a) :: acc)).isSome=true
      have hn':(n == y)=false:=by simpa using hn
      rw [WI,hn']
      exact h
     ·rcases Wg.mp h1 with z | z
      ·cases z
       exact absurd (by simp) hn
      ·exact .inr ⟨z,h2⟩
  ·rw [if_neg hk]
   rcases h with h | ⟨h1,h2⟩
   ·exact .inl h
   ·rcases Wg.mp h1 with z | z
    ·cases z
     exact absurd rfl hk
    ·exact .inr ⟨z,h2⟩
theorem zc3:∀ (names:List (Str×NameKind)) (h:Heap) (acc:List (Str×Addr)),(n,c) ∈ Qd h.objs.size names acc →
  (n,c) ∈ acc∨((n,NameKind.cell) ∈ names∧h.objs.size≤c∧(Jj h names).IsCell c none)
 | [],_,_,h=>.inl h
 | (y,k) :: r,h,acc,hm=>by
  unfold Qd at hm
  unfold Jj
  by_cases hk:(k == NameKind.cell)=true
  ·rw [if_pos hk] at hm
   rw [if_pos hk]
   have hk':k=NameKind.cell:=by simpa using hk
   have sz:(h.push { cls:=.type "cell",data:=.cell none }).objs.size=h.objs.size + 1:=Jt ..
   rw [← sz] at hm
   rcases zc3 r _ _ hm with q | ⟨q1,q2,q3⟩
   ·rcases Wg.mp q with z | z
    ·cases z
     refine .inr ⟨by rw [hk']; exact Wy,W9 _,?_⟩
     exact Heap.IsCell.keeps ⟨_,Wi _ rfl,rfl⟩ (pushCells_keeps r _)
    ·exact .inl z
   ·exact .inr ⟨Wl _ q1,by rw [sz] at q2; omega,q3⟩
  ·rw [if_neg hk] at hm
   rw [if_neg hk]
   rcases zc3 r _ _ hm with q | ⟨q1,q2,q3⟩
   ·exact .inl q
   ·exact .inr ⟨Wl _ q1,q2,q3⟩
theorem zc4:∀ (names:List (Str×NameKind)) (k:Nat) (acc:List (Str×Addr)),(∀ n n' c,(n,c) ∈ acc→(n',c) ∈ acc→n=n')→(∀ n c,(n,c) ∈ acc→c < k) →
  ∀ n n' c,(n,c) ∈ Qd k names acc→(n',c) ∈ Qd k names acc→n=n'
 | [],_,_,h,_=>h
 | (y,kd) :: r,k,acc,h,hb=>by
  unfold Qd
  by_cases hk:(kd == NameKind.cell)=true
  ·rw [if_pos hk]
   refine zc4 r (k + 1) _ (fun n n' c h1 h2=>?_) fun n c hm=>?_
   ·rcases Wg.mp h1 with e | h1 <;> rcases Wg.mp h2 with e' | h2
    ·cases e; cases e'; rfl
    ·cases e; exact absurd (hb _ _ h2) (Q0 _)
    ·cases e'; exact absurd (hb _ _ h1) (Q0 _)
    ·exact h n n' c h1 h2
   ·rcases Wg.mp hm with e | hm
    ·cases e; exact Nat.lt_succ_self _
    ·exact Jy (hb _ _ hm)
  ·rw [if_neg hk]
   exact zc4 r k acc h hb
theorem z0Y {env:Env} {x:Str}:∀ {names:List (Str×NameKind)} {k:NameKind},
  (names.map fun (y:Str×NameKind)=>if (y.2 == NameKind.free && env.scope.kind == .function && env.kindOf y.1 == some .cell) then (y.1,NameKind.cell) else (y.1,y.2)).lookup x=some k →
  names.lookup x=some k∨(k=NameKind.cell∧names.lookup x=some .free)
 | [],_,h=>by simp at h
 | (n,kd) :: r,k,h=>by
  rw [Wz] at h
  have ih:=@z0Y env x r k
  cases hx:x == n with
  | true =>
   by_cases hc:(kd == NameKind.free && env.scope.kind == .function && env.kindOf n == some .cell)=true
   ·rw [if_pos hc,WI,hx] at h
    cases h
    simp only [Wf] at hc
    have:kd=NameKind.free:=by simpa using hc.1.1
    exact .inr ⟨rfl,by rw [WI,hx,this]⟩
   ·rw [if_neg hc,WI,hx] at h
    cases h
    exact .inl (by rw [WI,hx])
  | false =>
   have h':(r.map fun (y:Str×NameKind)=>if (y.2 == NameKind.free && env.scope.kind == .function && env.kindOf y.1 == some .cell) then (y.1,NameKind.cell) else (y.1,y.2)).lookup x=some k:=by
    by_cases hc:(kd == NameKind.free && env.scope.kind == .function && env.kindOf n == some .cell)=true
    ·rw [if_pos hc,WI,hx] at h; exact h
    ·rw [if_neg hc,WI,hx] at h; exact h
   rw [WI,hx]
   exact ih h'
def z2Y (X:Cx) (scope:Scope) (s₀:W2) (H₀:Hp) (ex:List Addr):Cx :=
 { X with
  env:={ scope:=relabel scope X.env,locals:=s₀.heap.objs.size,globals:=X.env.globals,cells:=Qd (s₀.heap.objs.size + 1) scope.names (z1W X.env.cells scope.names []),qual:=X.env.qual,func:=none,code:=X.env.code,frame:=X.env.frame,builtins:=X.env.builtins }
  s₀:=s₀
  H₀:=H₀
  outer:=X.stack
  ex:=ex
  fn:=fun x=>scope.names.lookup x == some .cell
  pn:=[]
  xe:=fun _ _=>False }
structure CScope (X:Cx) (scope:Scope) (cs:List Nat):Prop where
 kind:scope.kind = .function
 names:∀ x ∈ scope.names,x.2 = .local→scope.names.lookup x.1=some .local
 free:∀ x ∈ scope.names,x.2 = .free→X.env.kindOf x.1=some .cell∨X.env.kindOf x.1=some .free
 nd:(scope.names.map (·.1)).Nodup
 own:∀ (i:Nat) x,X.N[i]? = some x→scope.names.lookup x=some .local∨scope.names.lookup x=some .cell→i ∈ cs
def clr (cs:List Nat) (σ:St):St:=cs.foldl (fun σ i=>σ.set i none) σ
theorem z7k (cs:List Nat):∀ σ:St,(clr cs σ).length=σ.length:=by
 induction cs with
 | nil=>intro σ; rfl
 | cons i r ih =>
  intro σ
  show (clr r (σ.set i none)).length=_
  rw [ih]; simp
theorem z3w:∀ (cs:List Nat) (σ:St) (i:Nat) (v:V),(clr cs σ)[i]? = some (some v)→σ[i]? = some (some v)∧i ∉ cs:=by
 intro cs
 induction cs with
 | nil=>intro σ i v h; exact ⟨h,by simp⟩
 | cons j r ih =>
  intro σ i v h
  have h':(clr r (σ.set j none))[i]? = some (some v):=h
  obtain ⟨h1,h2⟩:=ih _ i v h'
  by_cases e:j=i
  ·subst e
   rw [Wx] at h1
   simp at h1
  ·rw [W3 e] at h1
   exact ⟨h1,by simp only [Wg,not_or]; exact ⟨Ne.symm e,h2⟩⟩
theorem z5Y:∀ {l:List (Str×α)},(l.map (·.1)).Nodup→(x,k) ∈ l→(x,k') ∈ l→k=k'
 | (y,j) :: r,nd,h1,h2=>by
  rw [Wz,List.nodup_cons] at nd
  rcases Wg.mp h1 with e | g1 <;> rcases Wg.mp h2 with e' | g2
  ·cases e; cases e'; rfl
  ·cases e; exact absurd (Jf (f:=(·.1)) g2) nd.1
  ·cases e'; exact absurd (Jf (f:=(·.1)) g1) nd.1
  ·exact z5Y nd.2 g1 g2
section
variable {X:Cx} {pins:List (Addr×Obj)} {σ:St} {H:Hp} {s:W2} {scope:Scope} {cs:List Nat} {fp:List Addr}
theorem za9 (I:Inv X pins σ H s) (S:CScope X scope cs) (hf:∀ b ∈ fp,FpOk X pins H b) (hlt:∀ b ∈ fp,b < s.heap.objs.size) :
  Inv (z2Y X scope s H fp) [] (clr cs σ) H { s with heap:=Jj (s.heap.push { cls:=.type "dict",data:=.dict #[] }) scope.names }:=by
 have sz:(s.heap.push { cls:=.type "dict",data:=.dict #[] }).objs.size=s.heap.objs.size + 1:=Jt ..
 have kp:∀ b o,s.heap.get? b=some o→(Jj (s.heap.push { cls:=.type "dict",data:=.dict #[] }) scope.names).get? b=some o:=fun b o e=>pushCells_keeps _ _ b o (W4 _ e)
 have clo:∀ n c,(n,c) ∈ z1W X.env.cells scope.names []→(n,NameKind.free) ∈ scope.names∧X.env.cells.lookup n=some c:=fun n c h=>(z6M _ _ h).elim (fun z=>absurd z (by simp)) id
 have cltm:∀ n c,(n,c) ∈ z1W X.env.cells scope.names []→c < s.heap.objs.size:=fun n c h=>by
  obtain ⟨v,q⟩:=I.cell n c (clo n c h).2
  exact q.lt
 have cel:∀ n c,(n,c) ∈ Qd (s.heap.objs.size + 1) scope.names (z1W X.env.cells scope.names []) →
   ((n,NameKind.free) ∈ scope.names∧X.env.cells.lookup n=some c)∨((n,NameKind.cell) ∈ scope.names∧s.heap.objs.size + 1≤c∧(Jj (s.heap.push { cls:=.type "dict",data:=.dict #[] }) scope.names).IsCell c none):=fun n c h=>by
  rw [← sz] at h
  rcases zc3 _ _ _ h with q | q
  ·exact .inl (clo n c q)
  ·rw [sz] at q; exact .inr q
 have cinj:=zc4 scope.names (s.heap.objs.size + 1) (z1W X.env.cells scope.names []) (fun n n' c h1 h2=>I.ok.inj n n' c (clo n c h1).2 (clo n' c h2).2) (fun n c h=>Jy (cltm n c h))
 have hasC:∀ x ∈ scope.names,x.2 = .free→∃ c,X.env.cells.lookup x.1=some c:=fun x hx hk=>I.ok.has x.1 (S.free x hx hk)
 have fpn:∀ b ∈ fp,b ∉ frs X.stack:=fun b hb z=>by
  obtain ⟨_,f1,f2,_⟩:=hf b hb
  rcases Wg.mp (I.stkSub b z) with e | e
  ·exact f1 e
  ·exact f2 e
 have kindC:∀ x,(z2Y X scope s H fp).env.kindOf x=some .cell∨(z2Y X scope s H fp).env.kindOf x=some .free→scope.names.lookup x=some .cell∨scope.names.lookup x=some .free:=fun x h=>by
  rcases h with h | h
  ·have h':(relabel scope X.env).names.lookup x=some .cell:=h
   rcases z0Y (env:=X.env) (names:=scope.names) h' with q | ⟨_,q⟩
   ·exact .inl q
   ·exact .inr q
  ·have h':(relabel scope X.env).names.lookup x=some .free:=h
   rcases z0Y (env:=X.env) (names:=scope.names) h' with q | ⟨q,_⟩
   ·exact .inr q
   ·cases q
 have hasIt:∀ x,scope.names.lookup x=some .cell∨scope.names.lookup x=some .free→∃ c,(Qd (s.heap.objs.size + 1) scope.names (z1W X.env.cells scope.names [])).lookup x=some c:=fun x h=>by
  refine QJ.mp (QW scope.names _ _ ?_)
  rcases h with h | h
  ·exact .inl h
  ·refine .inr (z6g _ _ (.inr ⟨Wt h,?_⟩))
   obtain ⟨c,hc⟩:=hasC _ (Wt h) rfl
   exact Option.isSome_iff_exists.mpr ⟨c,hc⟩
 have ns0:(Jj (s.heap.push { cls:=.type "dict",data:=.dict #[] }) scope.names).Ns s.heap.objs.size fun _=>none:=(Heap.Ns.new s.heap (.type "dict")).keeps (pushCells_keeps _ _)
 refine ⟨⟨I.ok.mod,S.kind,I.ok.glob,I.ok.blt,W9 _,fun y z c h1 h2=>cinj y z c (Wt h1) (Wt h2),fun x hx=>hasIt x (kindC x hx),fun x c hfn h=>?_,I.ok.hd,I.ok.frames,.inl rfl,
  fun b hb=>⟨WA (hlt b hb),fun x c h e=>?_⟩,I.bs,Q5 I.ok.bsz I.sz,fun b o e hb=>?_,fpn,I.stack,I.stkFree⟩,
  rfl,I.bare,Un.kept kp,⟨fun _=>none,ns0,fun i x v h1 h2 h3=>?_⟩,fun x c h=>?_,I.hok.fresh (W9 _),fun x c h=>?_,fun p hp=>absurd (show p ∈ ([]:List (Addr×Obj)) from hp) (by simp),I.hok.kept kp,(z7k cs σ).trans I.len⟩
 ·rcases cel x c (Wt h) with q | q
  ·have hfn':scope.names.lookup x=some .cell:=by
    have:(scope.names.lookup x == some .cell)=true:=hfn
    exact eq_of_beq this
   have:=z5Y S.nd q.1 (Wt hfn')
   cases this
  ·exact Nat.le_of_succ_le q.2.1
 ·subst e
  rcases cel x c (Wt h) with q | q
  ·exact (hf c hb).2.2.2.2.1 x c q.2 rfl
  ·exact absurd (Ws (hlt c hb) (Nat.le_of_succ_le q.2.1)) (Q0 _)
 ·obtain ⟨_,_,_,f3,_⟩:=hf b hb
  rcases f3 with z | z
  ·exact I.ok.noex b o e z
  ·exact absurd (Ws (We (I.ok.bs b o e).1) z) (Q0 _)
 ·obtain ⟨h2',hni⟩:=z3w cs σ i v h2
  have hni':¬ (scope.names.lookup x=some .local∨scope.names.lookup x=some .cell):=fun z=>hni (S.own i x h1 z)
  have hfree:scope.names.lookup x=some .free:=by
   rcases h3 with h3 | h3 | h3
   ·rcases z0Y (env:=X.env) (names:=scope.names) h3 with q | ⟨q,_⟩
    ·exact absurd (.inl q) hni'
    ·cases q
   ·rcases z0Y (env:=X.env) (names:=scope.names) h3 with q | ⟨_,q⟩
    ·exact absurd (.inr q) hni'
    ·exact q
   ·rcases z0Y (env:=X.env) (names:=scope.names) h3 with q | ⟨q,_⟩
    ·exact q
    ·cases q
  have hk:=S.free _ (Wt hfree) rfl
  obtain ⟨m,hn,hl⟩:=I.loc
  have hvis:Vis X.env.scope x:=by
   rcases hk with hk | hk
   ·exact .inr (.inl hk)
   ·exact .inr (.inr hk)
  obtain ⟨u,r,l⟩:=hl i x v h1 h2' hvis
  refine ⟨u,r,?_⟩
  rcases l with ⟨k,_⟩ | ⟨_,c,hc,hcell⟩
  ·have k':X.env.kindOf x=some .local:=k
   rcases hk with hk | hk
   ·rw [show X.env.kindOf x=some .cell from hk] at k'; cases k'
   ·rw [show X.env.kindOf x=some .free from hk] at k'; cases k'
  ·obtain ⟨c',hc'⟩:=hasIt x (.inr hfree)
   have e:c'=c:=by
    rcases cel x c' (Wt hc') with q | q
    ·have q2:=q.2
     rw [hc] at q2; exact (Wu q2).symm
    ·have:=z5Y S.nd q.1 (Wt hfree)
     cases this
   subst e
   refine .inr ⟨?_,c',hc',hcell.keeps kp⟩
   rcases h3 with h3 | h3 | h3
   ·rcases z0Y (env:=X.env) (names:=scope.names) h3 with q | ⟨q,_⟩
    ·rw [hfree] at q; cases q
    ·cases q
   ·exact .inl h3
   ·exact .inr h3
 ·rcases cel x c (Wt h) with q | q
  ·obtain ⟨v,z⟩:=I.cell x c q.2
   exact ⟨v,z.keeps kp⟩
  ·exact ⟨none,q.2.2⟩
 ·rcases cel x c (Wt h) with q | q
  ·exact I.freeC x c q.2
  ·exact I.hok.fresh (Nat.le_of_succ_le q.2.1)
end
abbrev NoX:Value→W2→Prop:=fun _ _=>False
def ze4 (ifs:List Expr) (env:Env):Sem Bool:=forIn ifs true fun c r=>if r=true then do let ok ← isTrue c env (eval c env); pure (ForInStep.yield ok) else pure (ForInStep.yield r)
theorem z8f (I:Nat→W2→Prop)
  (turn:∀ n s,I n s→W8 (model prog w) A (pyNext it) (fun r s₁=>match r with
   | none=>R (.ok .next) s₁
   | some v=>W8 (model prog w) A (letOwnedTupleGo target it v) (fun _ s₁'=>W8 (model prog w) A (assign target env v) (fun _ s₂ =>
     W8 (model prog w) A (ze4 ifs env) (fun ok s₃ =>
      if ok=true then W8 (model prog w) A (eval elt env) (fun x s₄ =>
       W8 (model prog w) A (call (.builtin "list.append") [acc,x]) (fun _ s₅=>∃ m,m < n∧I m s₅) NoX s₄) NoX s₃
      else ∃ m,m < n∧I m s₃) NoX s₂) NoX s₁') NoX s₁) NoX s)
  (n:Nat) (h:I n s) :
  Qr (model prog w) A (.compLoop (.ListComp elt [⟨target,iter,ifs,0⟩] scope pos) 0 it acc env) R s:=by
 refine codeAny_loop rfl I (fun n s hI=>?_) n h
 show W8 _ A ((compTurn (.ListComp elt [⟨target,iter,ifs,0⟩] scope pos) 0 it acc env).onRaise (fun x=>do Jk x env; theTreesLotGoes x)) _ _ s
 refine wpAny_noted ?_
 rw [compTurn_list]
 refine W1 (wpAny_standAt (W1 (WU (turn n s hI) (fun r s₁ h₁=>?_) fun _ _ h'=>h'.elim)))
 cases r with
 | none=>exact Wc h₁
 | some v =>
  refine W1 (WU h₁ (fun _ s₁' h₁'=>?_) fun _ _ h'=>h'.elim)
  refine W1 (WU h₁' (fun _ s₂ h₂=>W1 (WU h₂ (fun ok s₃ h₃=>?_) fun _ _ h'=>h'.elim)) fun _ _ h'=>h'.elim)
  cases ok with
  | false=>exact Wc ⟨rfl,h₃⟩
  | true =>
   exact W1 (W1 (WU h₃ (fun x s₄ h₄=>W1 (WU h₄ (fun _ s₅ h₅=>Wc (Wc ⟨rfl,h₅⟩)) fun _ _ h'=>h'.elim)) fun _ _ h'=>h'.elim))
theorem z9T
  (h:Q { scope,locals:=s.heap.objs.size,globals,cells:=Qd (s.heap.objs.size + 1) scope.names cl,qual,func:=none,code:=env.code,frame:=env.frame,builtins:=env.builtins }
   { s with heap:=Jj (s.heap.push { cls:=.type "dict",data:=.dict #[] }) scope.names }):W8 M A (newFunctionEnv scope globals cl [] qual none .none (some env)) Q E s:=by
 simp only [newFunctionEnv,Option.isSome_some,if_true]
 refine W1 (wpAny_alloc ?_)
 refine W1 (wpAny_layCells _ (fun name kind cells=>by cases hkc:kind == NameKind.cell <;> simp [hkc]) _ _ _ _ ?_)
 rw [show ({ s with heap:=s.heap.push { cls:=.type "dict",data:=.dict #[] } }:W2).heap.objs.size=s.heap.objs.size + 1 from Jt ..]
 exact W1 (Wc (Wc h))
def PTs (X:Cx) (ifs:List Expr) (t:TT):Prop :=
 ∀ (pins:List (Addr×Obj)) (s:W2) (σ:St) (H:Hp) (Q:Bool→Hp→Prop),Inv X pins σ H s→t σ H Q→W8 (model X.prog X.w) X.A (ze4 ifs X.env) (TP X pins σ Q) X.xe s
def tYes:TT:=fun _ H Q=>Q true H
theorem zez:PTs X [] tYes:=fun pins s σ H Q I h=>wpAny_tests_nil ⟨H,I,h⟩
theorem zey (h:PT X c t):PTs X [c] t:=fun pins s σ H Q I q=>wpAny_tests_one (h pins s σ H Q I q)
def Le (σ σ':St):Prop:=σ'.length=σ.length∧∀ (i:Nat) (v:V),σ[i]? = some (some v)→σ'[i]? = some (some v)
def ze5 (cs:List Nat) (g:TG) (tt:TT) (te:TE) (σ:St) (Q:VK) (J:It) (H1:Hp):Prop :=
 ∀ l,H1 l=none→∃ W:Nat→Nat→Hp→Prop,(∃ m,W 0 m (upd H1 l (.lst [])))∧∀ i m H2,W i m H2 →
  (J.stop i H2∧Q (.ref l) H2) ∨
  (J.go i H2∧∀ x H3,J.yld i H2 x H3→g x (clr cs σ) H3 fun σ4 H4=>Le (clr cs σ) σ4∧tt σ4 H4 fun b H5 =>
   if b=true then te σ4 H5 fun v H6=>∃ ys m',H6 l=some (.lst ys)∧ys.length < W6∧m' < m∧W (i + 1) m' (upd H6 l (.lst (ys ++ [v]))) else ∃ m',m' < m∧W (i + 1) m' H5)
def zfz (cs:List Nat) (wi:TI) (g:TG) (tt:TT) (te:TE):TE:=fun σ H Q=>wi σ H fun J H1=>ze5 cs g tt te σ Q J H1
section
variable {X:Cx} {pins:List (Addr×Obj)} {σ:St} {H:Hp} {s:W2} {scope:Scope} {cs:List Nat} {elt tg iter:Expr} {ifs:List Expr} {pos:Pos} {g:TG} {tt:TT} {te:TE}
theorem zab {it:Addr} {fp:List Addr} {tn:Nat→Heap→Prop} {J:It} {Q:VK} {E:Value→W2→Prop} {RR:Value→Addr→Result→W2→Prop} (hc:X.calm=true) (I:Inv X pins σ H s) (S:CScope X scope cs)
  (T:Turn X.prog X.w X.K tg J fp it tn) (st:tn 0 s.heap) (hf:∀ b ∈ fp,FpOk X pins H b)
  (hg:∀ s₀ H₀ ex,PG (z2Y X scope s₀ H₀ ex) tg g) (ht:∀ s₀ H₀ ex,PTs (z2Y X scope s₀ H₀ ex) ifs tt) (he:∀ s₀ H₀ ex,PE (z2Y X scope s₀ H₀ ex) elt te) (q:ze5 cs g tt te σ Q J H)
  (hRR:∀ l C s' H',Inv X pins σ H' s'→FpOk X pins H' C→(∃ m,s'.heap.Ns C m)→Q (.ref l) H'→RR (.ref l) C (.ok .next) s') :
  W8 (model X.prog X.w) X.A (newList []) (fun acc s₃=>W8 (model X.prog X.w) X.A (newFunctionEnv scope X.env.globals (z1W X.env.cells scope.names []) [] X.env.qual none .none (some X.env)) (fun cenv s₄ =>
   Qr (model X.prog X.w) X.A (.compStart (.ListComp elt [⟨tg,iter,ifs,0⟩] scope pos) 0 (.ref it) acc { cenv with scope:=relabel scope X.env }) (RR acc cenv.locals) s₄) E s₃) E s:=by
 refine Qc ?_
 have hfr:H s.heap.objs.size=none:=I.hok.fresh (W9 _)
 obtain ⟨W,⟨m0,w0⟩,turn⟩:=q s.heap.objs.size hfr
 generalize hl:s.heap.objs.size=l at *
 have I3:Inv X pins σ (upd H l (.lst [])) { s with heap:=s.heap.push { cls:=.type "list",dict:=none,data:=.seq ([]:List Value).toArray } } :=
  I.laid (t':=s.toks) (fun b u e=>W4 _ e) (Nat.le_of_eq hl) ⟨WY _,[],0,.nil,by rw [← hl]; exact Wi _ rfl⟩
 have kp3:∀ b o,s.heap.get? b=some o→(s.heap.push { cls:=.type "list",dict:=none,data:=.seq ([]:List Value).toArray }).get? b=some o:=fun b o e=>W4 _ e
 have hfl:∀ b ∈ fp,b≠l:=fun b hb e=>by
  obtain ⟨o,ho,_⟩:=T.obj 0 _ st b hb
  exact absurd (We ho) (by rw [e,hl]; exact Q0 _)
 have hf3:∀ b ∈ fp,FpOk X pins (upd H l (.lst [])) b:=fun b hb=>⟨by rw [z0l (hfl b hb)]; exact (hf b hb).1,(hf b hb).2⟩
 have st3:tn 0 (s.heap.push { cls:=.type "list",dict:=none,data:=.seq ([]:List Value).toArray }):=T.keep 0 _ _ st fun b _ o e=>kp3 b o e
 generalize hs3:({ s with heap:=s.heap.push { cls:=.type "list",dict:=none,data:=.seq ([]:List Value).toArray } }:W2)=s3 at I3
 have st3':tn 0 s3.heap:=by rw [← hs3]; exact st3
 have hlt3:∀ b ∈ fp,b < s3.heap.objs.size:=fun b hb=>by
  obtain ⟨o,ho,_⟩:=T.obj 0 _ st3' b hb
  exact We ho
 refine z9T ?_
 have I4:=za9 I3 S hf3 hlt3
 generalize hX:z2Y X scope s3 (upd H l (.lst [])) fp=X' at I4
 generalize hs4:({ s3 with heap:=Jj (s3.heap.push { cls:=.type "dict",data:=.dict #[] }) scope.names }:W2)=s4 at I4 ⊢
 have hg':=hg s3 (upd H l (.lst [])) fp
 have ht':=ht s3 (upd H l (.lst [])) fp
 have he':=he s3 (upd H l (.lst [])) fp
 rw [hX] at hg' ht' he'
 have st4:tn 0 s4.heap:=T.keep 0 _ _ st3' fun b _ o e=>by rw [← hs4]; exact pushCells_keeps _ _ b o (W4 _ e)
 have hP:X'.prog=X.prog:=by rw [← hX]; rfl
 have hw:X'.w=X.w:=by rw [← hX]; rfl
 have hA:X'.A=X.A:=by rw [← hX]; rfl
 have hK:X'.K=X.K:=by rw [← hX]; rfl
 have hc':X'.calm=true:=by rw [← hX]; exact hc
 have hxe:X'.xe=NoX:=by rw [← hX]; rfl
 have hloc:X'.env.locals=s3.heap.objs.size:=by rw [← hX]; rfl
 have henv:({ scope:=relabel scope X.env,locals:=s3.heap.objs.size,globals:=X.env.globals,cells:=Qd (s3.heap.objs.size + 1) scope.names (z1W X.env.cells scope.names []),qual:=X.env.qual,func:=none,code:=X.env.code,frame:=X.env.frame,builtins:=X.env.builtins }:Env)=X'.env:=by rw [← hX]; rfl
 have fpx:∀ {H':Hp},(∀ b ∈ fp,H' b=none)→∀ b ∈ fp,FpOk X' [] H' b:=fun {H'} hn b hb=>by
  have ex:X'.ex=fp:=by rw [← hX]; rfl
  have pn:X'.pn=[]:=by rw [← hX]; rfl
  refine ⟨hn b hb,(I4.ok.exf b (by rw [ex]; exact hb)).1,I4.ok.exfs b (by rw [ex]; exact hb),.inl (by rw [ex]; exact hb),(I4.ok.exf b (by rw [ex]; exact hb)).2,fun p hp=>?_⟩
  rw [pn] at hp
  simp at hp
 show Qr (model X.prog X.w) X.A (.compStart (.ListComp elt [⟨tg,iter,ifs,0⟩] scope pos) 0 (.ref it) (.ref l) ({ scope:=relabel scope X.env,locals:=s3.heap.objs.size,globals:=X.env.globals,cells:=Qd (s3.heap.objs.size + 1) scope.names (z1W X.env.cells scope.names []),qual:=X.env.qual,func:=none,code:=X.env.code,frame:=X.env.frame,builtins:=X.env.builtins }:Env)) (RR (.ref l) s3.heap.objs.size) s4
 rw [henv]
 have loop:Qr (model X.prog X.w) X.A (.compLoop (.ListComp elt [⟨tg,iter,ifs,0⟩] scope pos) 0 (.ref it) (.ref l) X'.env) (RR (.ref l) s3.heap.objs.size) s4:=by
  refine z8f (fun n s'=>∃ i H',Inv X' [] (clr cs σ) H' s'∧tn i s'.heap∧(∀ b ∈ fp,H' b=none)∧W i n H') ?_ m0 ⟨0,_,I4,st4,fun b hb=>(hf3 b hb).1,w0⟩
  rintro n s5 ⟨i,H5,I5,st5,fr5,w5⟩
  rcases turn i n H5 w5 with ⟨stop,qn⟩ | ⟨go,step⟩
  ·have:=T.done X' hP hw hK hc' i [] s5 (clr cs σ) H5 NoX I5 (fpx fr5) st5 stop
   rw [hA] at this
   refine thn this fun r s6 ⟨hr,I6⟩=>?_
   subst hr
   have b6:=I6.base
   have e1:X'.fs=frs X.stack:=by rw [← hX]; rfl
   have e2:X'.ex=fp:=by rw [← hX]; rfl
   have e3:X'.H₀=upd H l (.lst []):=by rw [← hX]; rfl
   have e4:X'.s₀=s3:=by rw [← hX]; rfl
   rw [e1,e2,e3,e4] at b6
   have o6:s6.os=s3.os:=by rw [← e4]; exact I6.os
   have hok6:HOk X.prog X.w H5 s6.heap:=by rw [← hP,← hw]; exact I6.hok
   have J6:Inv X pins σ H5 s6:=I3.call' o6 b6 hok6 I6.bare fun b hb=>by
    obtain ⟨_,f1,_,f3,f4,f5⟩:=hf3 b hb
    exact ⟨f3,f1,f4,f5⟩
   obtain ⟨m6,n6,_⟩:=I6.loc
   rw [hloc] at n6
   refine hRR l s3.heap.objs.size s6 H5 J6 (I3.fpOk (W9 _) ?_) ⟨m6,n6⟩ qn
   rw [← hloc]
   exact I6.free
  ·have:=T.item X' hP hw hK hc' i [] s5 (clr cs σ) H5 NoX I5 (fpx fr5) st5 go
   rw [hA] at this
   refine thn this fun r s6 ⟨u,hr,h6⟩=>?_
   subst hr
   refine thn h6 fun _ s7 ⟨x,H7,I7,r7,y7,st7,fr7⟩=>?_
   have I7':=I7.pinned (fpx fr7) (T.obj _ _ st7)
   have a8:=hg' _ s7 (clr cs σ) H7 x u _ I7' r7 (step x H7 y7)
   rw [hP,hw,hA,hxe] at a8
   refine thn a8 fun _ s8 ⟨σ8,H8,I8,le8,q8⟩=>?_
   have a9:=ht' _ s8 σ8 H8 _ I8 q8
   rw [hP,hw,hA,hxe] at a9
   refine thn a9 fun ok s9 ⟨H9,I9,q9⟩=>?_
   have back:∀ {H':Hp} {s':W2},Inv X' ([] ++ z6F fp s7.heap) σ8 H' s'→Inv X' [] (clr cs σ) H' s'∧tn (i + 1) s'.heap∧∀ b ∈ fp,H' b=none:=fun {H' s'} J=>by
    refine ⟨J.unpinned.weak (le8.1.symm) le8.2,T.keep _ _ _ st7 fun b hb o e=>(J.pin (b,o) (Ww _ (Ww _ (z2a hb e)))).1,fun b hb=>?_⟩
    obtain ⟨o,e,d⟩:=T.obj _ _ st7 b hb
    exact (J.pin (b,o) (Ww _ (Ww _ (z2a hb e)))).2.1
   cases ok with
   | false =>
    rw [if_neg WN] at q9 ⊢
    obtain ⟨m',hm,w9⟩:=q9
    obtain ⟨b1,b2,b3⟩:=back I9
    exact ⟨m',hm,i + 1,H9,b1,b2,b3,w9⟩
   | true =>
    rw [if_pos rfl] at q9 ⊢
    have a10:=he' _ s9 σ8 H9 _ I9 q9
    rw [hP,hw,hA,hxe] at a10
    refine thn a10 fun x10 s10 ⟨v,H10,I10,r10,ys,m',hy,hz,hm,w10⟩=>?_
    have a11:=z7S (X:=X') _ s10 σ8 H10 (.ref l) [v] (.ref l) [x10] (fun _ H'=>W (i + 1) m' H') I10 rfl (.cons r10 .nil) ⟨l,ys,v,rfl,rfl,hy,hz,w10⟩
    rw [hP,hw,hA,hxe] at a11
    refine thn a11 fun _ s11 ⟨_,H11,I11,_,w11⟩=>?_
    obtain ⟨b1,b2,b3⟩:=back I11
    exact ⟨m',hm,i + 1,H11,b1,b2,b3,w11⟩
 exact codeAny_compStart_list loop (T.self X.A 0 s4 _ _ st4 loop)
theorem zeM (hc:X.calm=true) (S:CScope X scope cs) (hi:PI X tg iter wi) (hg:∀ s₀ H₀ ex,PG (z2Y X scope s₀ H₀ ex) tg g) (ht:∀ s₀ H₀ ex,PTs (z2Y X scope s₀ H₀ ex) ifs tt) (he:∀ s₀ H₀ ex,PE (z2Y X scope s₀ H₀ ex) elt te)
  (hs:∀ x,QC iter X.env x=pure x:=by intro _; rfl):PE X (.ListComp elt [⟨tg,iter,ifs,0⟩] scope pos) (zfz cs wi g tt te):=by
 intro pins s σ H Q I h
 have hasC:∀ x ∈ scope.names,x.2 = .free→∃ c,X.env.cells.lookup x.1=some c:=fun x hx hk=>I.ok.has x.1 (S.free x hx hk)
 rw [eval_ListComp]
 refine wpAny_comprehension_free (use:=none) rfl hs (zad hasC) S.kind S.names (thn (hi pins s σ H _ I h) fun xv s1 h1=>thn h1 fun itv s2 h2=>?_)
 obtain ⟨it,fp,tn,J,H2,e,I2,T,st2,f2,q2⟩:=h2
 subst e
 refine zab (RR:=fun acc C=>compPost (model X.prog X.w) X.A X.xe none (EP X pins σ Q) acc C) hc I2 S T st2 f2 hg ht he q2 ?_
 intro l C s' H' I' fC ⟨m,n⟩ q
 exact ⟨m,n,fun h' hs'=>⟨.ref l,H',I'.turned (t':=s'.toks) (fun b o hb e=>(hs'.2 b hb).trans e) fC.1 fC.2.1 fC.2.2.2.1 fC.2.2.2.2.1 fC.2.2.2.2.2,rfl,q⟩⟩
end
end L2
set_option maxHeartbeats 4000000
namespace DV
open PySem PySem.Spec PyProof.Rows L2
abbrev Tx:=List Nat
def toS (x:Tx):Str:=⟨x.toArray⟩
theorem z4P (x:Tx):(toS x).cps.toList=x:=by simp [toS]
theorem z2z (x:Tx):(toS x).length=x.length:=by simp [toS,Str.length]
theorem z5D (h:toS x=toS y):x=y:=by
 have:=congrArg (fun z:Str=>z.cps.toList) h
 simpa [toS] using this
theorem zdy (z:Str):z=toS z.cps.toList:=by simp [toS]
abbrev DKey:=Sum Int Tx
def kOf:DKey→Key
 | .inl i=>.inl i
 | .inr x=>.inr (toS x)
inductive D where
 | non | bl (b:Bool) | int (i:Int) | str (x:Tx) | tup (xs:List D) | lst (xs:List D) | dct (kvs:List (DKey×D)) | exc (n:Nat) (fl:D) | xd (fs:List (Tx×D))
def excAt (C:Addr) (v:V) (a:Addr):Heap→Prop:=fun h=>∃ o,h.get? a=some o∧o.cls = .ref C∧(∀ x,v = .ref x→o.dict=some x)∧∃ vs,o.data = .fields vs
def xdAt (fs:List (Str×V)) (x:Addr):Heap→Prop:=fun h=>∃ mA,h.Ns1 x mA∧∀ f,RelO (fs.lookup f) (mA f)
inductive S where
 | pure (d:D)
 | own (d:D)
def S.d:S→D
 | .pure d=>d
 | .own d=>d
abbrev Dl:=List (Option S)
abbrev St:=L2.St
inductive Rep (H:Hp) (O:Addr→Prop):V→D→Prop
 | non:Rep H O .non .non
 | bl (b:Bool):Rep H O (.bl b) (.bl b)
 | int (i:Int):Rep H O (.int i) (.int i)
 | str (x:Tx):Rep H O (.str (toS x)) (.str x)
 | tup {a:Addr} {vs:List V} {ds:List D}:¬ O a→H a=some (.tup vs)→vs.length=ds.length→(∀ (i:Nat) v d,vs[i]? = some v→ds[i]? = some d→Rep H O v d)→Rep H O (.ref a) (.tup ds)
 | lst {a:Addr} {vs:List V} {ds:List D}:¬ O a→Rd H a (.lst vs)→vs.length=ds.length→(∀ (i:Nat) v d,vs[i]? = some v→ds[i]? = some d→Rep H O v d)→Rep H O (.ref a) (.lst ds)
 | dct {a:Addr} {ws:List (Key×V)} {ds:List (DKey×D)}:¬ O a→H a=some (.dK ws)→ws.map (·.1)=ds.map (fun p=>kOf p.1)→(∀ (i:Nat) p q,ws[i]? = some p→ds[i]? = some q→Rep H O p.2 q.2)→Rep H O (.ref a) (.dct ds)
 | exc {a:Addr} {n:Nat} {v:V} {fl:D}:¬ O a→H a=some (.ext (excAt n v a))→Rep H O v fl→Rep H O (.ref a) (.exc n fl)
 | xd {x:Addr} {fs:List (Str×V)} {ds:List (Tx×D)}:¬ O x→H x=some (.ext (xdAt fs x))→fs.map (·.1)=ds.map (fun p=>toS p.1)→(∀ (i:Nat) p q,fs[i]? = some p→ds[i]? = some q→Rep H O p.2 q.2)→Rep H O (.ref x) (.xd ds)
abbrev Reps (H:Hp) (O:Addr→Prop) (vs:List V) (ds:List D):Prop:=vs.length=ds.length∧∀ (i:Nat) v d,vs[i]? = some v→ds[i]? = some d→Rep H O v d
def OwnAt (H:Hp) (O:Addr→Prop) (a:Addr):D→Prop
 | .lst ds=>∃ vs,H a=some (.lst vs)∧Reps H O vs ds
 | .dct ds=>∃ ws:List (Key×V),H a=some (.dK ws)∧ws.map (·.1)=ds.map (fun p=>kOf p.1)∧∀ (i:Nat) p q,ws[i]? = some p→ds[i]? = some q→Rep H O p.2 q.2
 | _=>False
section
variable {H H':Hp} {O O':Addr→Prop} {v:V} {d:D} {vs:List V} {ds:List D} {a:Addr}
theorem Rd.keep (h:Rd H a u) (k:∀ o,H a=some o→H' a=some o):Rd H' a u:=by
 rcases h with h | ⟨o,h⟩
 ·exact .inl (k _ h)
 ·exact .inr ⟨o,k _ h⟩
theorem Rd.some (h:Rd H a u):∃ o,H a=some o:=by
 rcases h with h | ⟨o,h⟩
 ·exact ⟨_,h⟩
 ·exact ⟨_,h⟩
theorem Rep.keep (h:Rep H O v d) (k:∀ a o,H a=some o→¬ O a→H' a=some o):Rep H' O v d:=by
 induction h with
 | non=>exact .non
 | bl b=>exact .bl b
 | int i=>exact .int i
 | str x=>exact .str x
 | tup h1 h2 h3 _ ih=>exact .tup h1 (k _ _ h2 h1) h3 ih
 | lst h1 h2 h3 _ ih=>exact .lst h1 (Rd.keep h2 fun o e=>k _ o e h1) h3 ih
 | dct h1 h2 h3 _ ih=>exact .dct h1 (k _ _ h2 h1) h3 ih
 | exc h1 h2 _ ih=>exact .exc h1 (k _ _ h2 h1) ih
 | xd h1 h2 h3 _ ih=>exact .xd h1 (k _ _ h2 h1) h3 ih
theorem Rep.anti (h:Rep H O v d) (k:∀ a,O' a→O a∨H a=none):Rep H O' v d:=by
 have no:∀ {a:Addr} {u:HO},¬ O a→Rd H a u→¬ O' a:=fun {a u} h1 h2 z=>by
  rcases k a z with q | q
  ·exact h1 q
  ·obtain ⟨o,e⟩:=Rd.some h2
   rw [q] at e; cases e
 induction h with
 | non=>exact .non
 | bl b=>exact .bl b
 | int i=>exact .int i
 | str x=>exact .str x
 | tup h1 h2 h3 _ ih=>exact .tup (no h1 (.inl h2)) h2 h3 ih
 | lst h1 h2 h3 _ ih=>exact .lst (no h1 h2) h2 h3 ih
 | dct h1 h2 h3 _ ih=>exact .dct (no h1 (.inl h2)) h2 h3 ih
 | exc h1 h2 _ ih=>exact .exc (no h1 (.inl h2)) h2 ih
 | xd h1 h2 h3 _ ih=>exact .xd (no h1 (.inl h2)) h2 h3 ih
theorem Reps.keep (h:Reps H O vs ds) (k:∀ a o,H a=some o→¬ O a→H' a=some o):Reps H' O vs ds:=⟨h.1,fun i v d e1 e2=>(h.2 i v d e1 e2).keep k⟩
theorem Reps.anti (h:Reps H O vs ds) (k:∀ a,O' a→O a∨H a=none):Reps H O' vs ds:=⟨h.1,fun i v d e1 e2=>(h.2 i v d e1 e2).anti k⟩
theorem Reps.nil:Reps H O [] []:=⟨rfl,fun i v d e _=>by simp at e⟩
theorem Reps.cons (h:Rep H O v d) (r:Reps H O vs ds):Reps H O (v :: vs) (d :: ds):=by
 refine ⟨by simp [r.1],fun i v' d' e1 e2=>?_⟩
 cases i with
 | zero=>simp at e1 e2; subst e1; subst e2; exact h
 | succ i=>exact r.2 i v' d' (by simpa using e1) (by simpa using e2)
theorem Reps.head (r:Reps H O (v :: vs) (d :: ds)):Rep H O v d:=r.2 0 v d rfl rfl
theorem Reps.tail (r:Reps H O (v :: vs) (d :: ds)):Reps H O vs ds:=⟨by simpa using r.1,fun i v' d' e1 e2=>r.2 (i + 1) v' d' (by simpa using e1) (by simpa using e2)⟩
theorem Reps.append (h:Reps H O vs ds) (h':Reps H O vs' ds'):Reps H O (vs ++ vs') (ds ++ ds'):=by
 induction vs generalizing ds with
 | nil =>
  cases ds with
  | nil=>exact h'
  | cons d r=>have:=h.1; simp at this
 | cons v r ih =>
  cases ds with
  | nil=>have:=h.1; simp at this
  | cons d q=>exact .cons h.head (ih h.tail)
theorem Reps.get {i:Nat} (h:Reps H O vs ds) (e:ds[i]? = some d):∃ v,vs[i]? = some v∧Rep H O v d:=by
 have hi:i < ds.length:=(Wa.mp e).1
 have hv:i < vs.length:=by rw [h.1]; exact hi
 exact ⟨vs[i],by simp [hv],h.2 i _ d (by simp [hv]) e⟩
theorem Reps.take (n:Nat) (h:Reps H O vs ds):Reps H O (vs.take n) (ds.take n):=by
 refine ⟨by simp [h.1],fun i v d e1 e2=>?_⟩
 by_cases hi:i < n
 ·rw [List.getElem?_take_of_lt hi] at e1 e2
  exact h.2 i v d e1 e2
 ·rw [List.getElem?_take_eq_none (by omega)] at e1; cases e1
theorem Reps.drop (n:Nat) (h:Reps H O vs ds):Reps H O (vs.drop n) (ds.drop n):=by
 refine ⟨by simp [h.1],fun i v d e1 e2=>?_⟩
 rw [List.getElem?_drop] at e1 e2
 exact h.2 (n + i) v d e1 e2
theorem Reps.set (h:Reps H O vs ds) (r:Rep H O v d) (j:Nat):Reps H O (vs.set j v) (ds.set j d):=by
 refine ⟨by simp [h.1],fun i v' d' e1 e2=>?_⟩
 by_cases hi:j=i
 ·subst hi
  rw [Wx] at e1 e2
  simp at e1 e2
  obtain ⟨_,rfl⟩:=e1
  obtain ⟨_,rfl⟩:=e2
  exact r
 ·rw [W3 hi] at e1 e2
  exact h.2 i v' d' e1 e2
theorem OwnAt.keep (h:OwnAt H O a d) (hk:∀ b o,H b=some o→¬ O b→H' b=some o) (ha:∀ o,H a=some o→H' a=some o):OwnAt H' O a d:=by
 cases d <;> first
  | exact h.elim
  | (obtain ⟨vs,e,r⟩:=h; exact ⟨vs,ha _ e,Reps.keep r hk⟩)
  | (obtain ⟨ws,e,r,q⟩:=h; exact ⟨ws,ha _ e,r,fun i p p' e1 e2=>(q i p p' e1 e2).keep hk⟩)
theorem OwnAt.anti (h:OwnAt H O a d) (k:∀ a,O' a→O a∨H a=none):OwnAt H O' a d:=by
 cases d <;> first
  | exact h.elim
  | (obtain ⟨vs,e,r⟩:=h; exact ⟨vs,e,Reps.anti r k⟩)
  | (obtain ⟨ws,e,r,q⟩:=h; exact ⟨ws,e,r,fun i p p' e1 e2=>(q i p p' e1 e2).anti k⟩)
theorem OwnAt.some (h:OwnAt H O a d):∃ o,H a=some o:=by
 cases d <;> first
  | exact h.elim
  | (obtain ⟨vs,e,r⟩:=h; exact ⟨_,e⟩)
theorem OwnAt.rep (h:OwnAt H O a d) (ho:¬ O a):Rep H O (.ref a) d:=by
 cases d with
 | lst ds=>obtain ⟨vs,e,r⟩:=h; exact .lst ho (.inl e) r.1 r.2
 | dct ds=>obtain ⟨ws,e,r,q⟩:=h; exact .dct ho e r q
 | _=>exact h.elim
end
structure Xc where
 cls:Tx
 flds:D
structure Fc where
 H₀:Hp
 B:Addr→Prop
 pin:List (Nat×Addr)
 xc:Xc→Dl→Prop:=fun _ _=>False
def Fc.plus (c:Fc) (p:Addr):Fc:={ c with B:=fun a=>c.B a∨a=p }
def Fc.I (c:Fc) (a:Addr):Prop:=∃ i,(i,a) ∈ c.pin
def Own (σ:St) (δ:Dl) (a:Addr):Prop:=∃ (i:Nat) (d:D),δ[i]? = some (some (.own d))∧σ[i]? = some (some (.ref a))
def Av (c:Fc) (σ:St) (δ:Dl) (a:Addr):Prop:=c.B a∨Own σ δ a
structure Ok (c:Fc) (σ:St) (δ:Dl) (H:Hp):Prop where
 keep:∀ a o,c.H₀ a=some o→¬ c.I a→H a=some o
 bd:∀ a,c.B a→∃ o,H a=some o
 ith:∀ a,c.I a→∃ o,H a=some o
 len:δ.length=σ.length
 slot:∀ (i:Nat) d,δ[i]? = some (some (.pure d))→∃ v,σ[i]? = some (some v)∧Rep H (Av c σ δ) v d
 own:∀ (i:Nat) d,δ[i]? = some (some (.own d))→∃ a,σ[i]? = some (some (.ref a))∧OwnAt H (Av c σ δ) a d∧(c.I a∨c.H₀ a=none)∧¬ c.B a
 inj:∀ (i j:Nat) a d d',δ[i]? = some (some (.own d))→δ[j]? = some (some (.own d'))→σ[i]? = some (some (.ref a))→σ[j]? = some (some (.ref a))→i=j
 pinned:∀ p ∈ c.pin,σ[p.1]? = some (some (.ref p.2))
structure Aft (c:Fc) (σ:St) (δ:Dl) (H:Hp) (σ':St) (δ':Dl) (H':Hp):Prop where
 ok:Ok c σ' δ' H'
 keep:∀ a o,H a=some o→¬ Own σ δ a→H' a=some o
 own:∀ a,Own σ' δ' a→Own σ δ a∨H a=none
 there:∀ a o,H a=some o→∃ o',H' a=some o'
section
variable {c:Fc} {σ σ' σ'':St} {δ δ' δ'':Dl} {H H' H'':Hp} {v:V} {d:D} {a p:Addr}
theorem Ok.bthere (k:Ok c σ δ H) (h:c.B a):∃ o,H a=some o:=k.bd a h
theorem Ok.othere (k:Ok c σ δ H) (h:Own σ δ a):∃ o,H a=some o:=by
 obtain ⟨i,d,e1,e2⟩:=h
 obtain ⟨b,e3,q,_⟩:=k.own i d e1
 rw [e2] at e3; cases e3
 exact q.some
theorem Ok.avthere (k:Ok c σ δ H) (h:Av c σ δ a):∃ o,H a=some o:=h.elim k.bthere k.othere
theorem Ok.nav (k:Ok c σ δ H) (h:H a=none):¬ Av c σ δ a:=fun z=>by
 obtain ⟨o,e⟩:=k.avthere z
 rw [h] at e; cases e
theorem Aft.refl (k:Ok c σ δ H):Aft c σ δ H σ δ H:=⟨k,fun _ _ e _=>e,fun _ h=>.inl h,fun _ o e=>⟨o,e⟩⟩
theorem Aft.trans (x:Aft c σ δ H σ' δ' H') (y:Aft c σ' δ' H' σ'' δ'' H''):Aft c σ δ H σ'' δ'' H'':=by
 refine ⟨y.ok,fun a o e n=>?_,fun a h=>?_,fun a o e=>?_⟩
 ·refine y.keep a o (x.keep a o e n) fun z=>?_
  rcases x.own a z with q | q
  ·exact n q
  ·rw [q] at e; cases e
 ·rcases y.own a h with q | q
  ·exact x.own a q
  ·right
   cases e:H a with
   | none=>rfl
   | some o =>
    obtain ⟨o',e'⟩:=x.there a o e
    rw [q] at e'; cases e'
 ·obtain ⟨o',e'⟩:=x.there a o e
  exact y.there a o' e'
theorem Aft.av (x:Aft c σ δ H σ' δ' H'):∀ a,Av c σ' δ' a→Av c σ δ a∨H a=none:=fun a h=>by
 rcases h with h | h
 ·exact .inl (.inl h)
 ·rcases x.own a h with q | q
  ·exact .inl (.inr q)
  ·exact .inr q
theorem Rep.aft (h:Rep H (Av c σ δ) v d) (x:Aft c σ δ H σ' δ' H'):Rep H' (Av c σ' δ') v d:=by
 have h1:Rep H (fun a=>Av c σ δ a∨Av c σ' δ' a) v d:=Rep.anti h fun a z=>z.elim .inl (x.av a)
 exact (h1.keep fun a o e n=>x.keep a o e fun z=>n (.inl (.inr z))).anti fun a z=>.inl (.inr z)
theorem Reps.aft (h:Reps H (Av c σ δ) vs ds) (x:Aft c σ δ H σ' δ' H'):Reps H' (Av c σ' δ') vs ds:=⟨h.1,fun i v d e1 e2=>Rep.aft (h.2 i v d e1 e2) x⟩
def RepS (c:Fc) (σ:St) (δ:Dl) (Hs H:Hp) (v:V):S→Prop
 | .pure d=>Rep H (Av c σ δ) v d
 | .own d=>∃ a,v = .ref a∧OwnAt H (Av (c.plus a) σ δ) a d∧¬ c.B a∧c.H₀ a=none∧Ok (c.plus a) σ δ H∧Hs a=none
theorem z4o (k:Ok (c.plus a) σ δ H):¬ Own σ δ a:=fun ⟨i,d,e1,e2⟩=>by
 obtain ⟨b,e3,_,_,n⟩:=k.own i d e1
 rw [e2] at e3; cases e3
 exact n (.inr rfl)
theorem RepS.rep (h:RepS c σ δ Hs H v r):Rep H (Av c σ δ) v r.d:=by
 cases r with
 | pure d=>exact h
 | own d =>
  obtain ⟨a,rfl,o,n,f,k,_⟩:=h
  refine (o.anti fun b z=>.inl ?_).rep fun z=>z.elim n (z4o k)
  exact z.elim (fun z=>.inl (.inl z)) .inr
theorem RepS.back (h:RepS c σ δ Hs H v r) (x:Aft c σ₀ δ₀ H' σ' δ' Hs):RepS c σ δ H' H v r:=by
 cases r with
 | pure d=>exact h
 | own d =>
  obtain ⟨a,e,o,n,f,k,hs⟩:=h
  refine ⟨a,e,o,n,f,k,?_⟩
  cases q:H' a with
  | none=>rfl
  | some o =>
   obtain ⟨o',e'⟩:=x.there a o q
   rw [hs] at e'; cases e'
theorem RepS.home (h:RepS c σ δ Hs H v r):RepS c σ δ c.H₀ H v r:=by
 cases r with
 | pure d=>exact h
 | own d =>
  obtain ⟨a,e,o,n,f,k,hs⟩:=h
  exact ⟨a,e,o,n,f,k,f⟩
theorem Ok.alloc (k:Ok c σ δ H) (hp:H p=none) (o:HO):Ok c σ δ (upd H p o):=by
 have up:∀ a w,H a=some w→upd H p o a=some w:=fun a w e=>by
  rw [z0l (z0L e hp)]; exact e
 refine ⟨fun a w e n=>up a w (k.keep a w e n),fun a z=>(k.bd a z).elim fun w e=>⟨w,up a w e⟩,fun a z=>(k.ith a z).elim fun w e=>⟨w,up a w e⟩,k.len,fun i d e=>?_,fun i d e=>?_,k.inj,k.pinned⟩
 ·obtain ⟨v,e1,r⟩:=k.slot i d e
  exact ⟨v,e1,r.keep fun a w q _=>up a w q⟩
 ·obtain ⟨a,e1,r,q⟩:=k.own i d e
  exact ⟨a,e1,r.keep (fun b w q _=>up b w q) fun w q=>up a w q,q⟩
theorem Aft.alloc (k:Ok c σ δ H) (hp:H p=none) (o:HO):Aft c σ δ H σ δ (upd H p o):=by
 have up:∀ a w,H a=some w→upd H p o a=some w:=fun a w e=>by
  rw [z0l (z0L e hp)]; exact e
 exact ⟨k.alloc hp o,fun a w e _=>up a w e,fun a h=>.inl h,fun a w e=>⟨w,up a w e⟩⟩
theorem Ok.fresh₀ (k:Ok c σ δ H) (hp:H p=none):c.H₀ p=none:=by
 cases e:c.H₀ p with
 | none=>rfl
 | some o =>
  by_cases q:c.I p
  ·obtain ⟨w,e'⟩:=k.ith p q
   rw [hp] at e'; cases e'
  ·have:=k.keep p o e q
   rw [hp] at this; cases this
theorem Ok.plus (k:Ok c σ δ H) (hp:H p=none) (o:HO):Ok (c.plus p) σ δ (upd H p o):=by
 have k':=k.alloc hp o
 have sub:∀ b,Av (c.plus p) σ δ b→Av c σ δ b∨b=p:=fun b z=>by
  rcases z with (z | z) | z
  ·exact .inl (.inl z)
  ·exact .inr z
  ·exact .inl (.inr z)
 have sub2:∀ b,Av (c.plus p) σ δ b→Av c σ δ b∨H b=none:=fun b z=>(sub b z).elim .inl fun e=>.inr (by rw [e]; exact hp)
 have up:∀ a w,H a=some w→upd H p o a=some w:=fun a w e=>by
  rw [z0l (z0L e hp)]; exact e
 refine ⟨k'.keep,fun a z=>?_,k'.ith,k.len,fun i d e=>?_,fun i d e=>?_,k.inj,k.pinned⟩
 ·rcases z with z | z
  ·exact k'.bd a z
  ·exact ⟨o,by rw [z]; exact z0t⟩
 ·obtain ⟨v,e1,r⟩:=k.slot i d e
  exact ⟨v,e1,(r.anti sub2).keep fun a w q _=>up a w q⟩
 ·obtain ⟨a,e1,r,q,nb⟩:=k.own i d e
  refine ⟨a,e1,(r.anti sub2).keep (fun b w q _=>up b w q) (fun w q=>up a w q),q,fun z=>?_⟩
  rcases z with z | z
  ·exact nb z
  ·obtain ⟨w,ew⟩:=r.some
   rw [z,hp] at ew; cases ew
theorem RepS.newL (k:Ok c σ δ H) (r:Reps H (Av c σ δ) vs ds) (hp:H p=none):RepS c σ δ H (upd H p (.lst vs)) (.ref p) (.own (.lst ds)):=by
 have up:∀ a w,H a=some w→upd H p (.lst vs) a=some w:=fun a w e=>by
  rw [z0l (z0L e hp)]; exact e
 refine ⟨p,rfl,⟨vs,z0t,?_⟩,fun z=>k.nav hp (.inl z),k.fresh₀ hp,k.plus hp _,hp⟩
 have r1:Reps H (Av (c.plus p) σ δ) vs ds:=Reps.anti r fun b z=>by
  rcases z with (z | z) | z
  ·exact .inl (.inl z)
  ·exact .inr (by rw [z]; exact hp)
  ·exact .inl (.inr z)
 exact Reps.keep r1 fun b w e _=>up b w e
theorem RepS.newT (k:Ok c σ δ H) (r:Reps H (Av c σ δ) vs ds) (hp:H p=none):RepS c σ δ H (upd H p (.tup vs)) (.ref p) (.pure (.tup ds)):=by
 have up:∀ a w,H a=some w→upd H p (.tup vs) a=some w:=fun a w e=>by
  rw [z0l (z0L e hp)]; exact e
 have r1:=Reps.keep r (H':=upd H p (.tup vs)) fun b w e _=>up b w e
 exact .tup (k.nav hp) z0t r1.1 r1.2
end
inductive Rs (α:Type) where
 | ok (a:α) (δ:Dl)
 | exc (x:Xc) (δ:Dl)
 | stuck
def Rs.bind {α β:Type} (r:Rs α) (f:α→Dl→Rs β):Rs β:=match r with
 | .ok a δ=>f a δ
 | .exc x δ=>.exc x δ
 | .stuck=>.stuck
abbrev DE:=Dl→Rs S
def XC (c:Fc) (x:Xc) (δ:Dl):Prop:=c.xc x δ
def post {α:Type} (c:Fc) (r:Rs α) (k:α→Dl→Prop):Prop:=match r with
 | .ok a δ=>k a δ
 | .exc x δ=>XC c x δ
 | .stuck=>False
theorem z01:post c (r.bind f) k ↔ post c r fun a δ=>post c (f a δ) k:=by
 cases r <;> exact Iff.rfl
theorem z00 (h:post c r k) (m:∀ a δ,k a δ→k' a δ):post c r k':=by
 cases r with
 | ok a δ=>exact m a δ h
 | exc x δ=>exact h
 | stuck=>exact h
def tD (c:Fc) (f:DE):TE:=fun σ H Q=>∃ δ,Ok c σ δ H∧post c (f δ) fun r δ'=>∀ v H',Aft c σ δ H σ δ' H'→RepS c σ δ' H H' v r→Q v H'
abbrev SE (X:Cx) (c:Fc) (e:Expr) (f:DE):Prop:=PE X e (tD c f)
def RepB (c:Fc) (σ:St) (δ:Dl) (H:Hp) (v:V) (d:D):Prop:=Rep H (Av c σ δ) v d∨∃ a,v = .ref a∧OwnAt H (Av c σ δ) a d
abbrev BE:=Dl→Rs D
def tB (c:Fc) (f:BE):TE:=fun σ H Q=>∃ δ,Ok c σ δ H∧post c (f δ) fun d δ'=>∀ v H',Aft c σ δ H σ δ' H'→RepB c σ δ' H' v d→Q v H'
abbrev SB (X:Cx) (c:Fc) (e:Expr) (f:BE):Prop:=PE X e (tB c f)
theorem PE.weak (h:PE X e t) (w:∀ σ H Q,t' σ H Q→t σ H Q):PE X e t':=fun pins s σ H Q I q=>h pins s σ H Q I (w σ H Q q)
def bOf (f:DE):BE:=fun δ=>(f δ).bind fun r δ'=>.ok r.d δ'
theorem RepS.b (h:RepS c σ δ Hs H v r):RepB c σ δ H v r.d:=.inl h.rep
theorem z0d {X:Cx} {c:Fc} {e:Expr} {f:DE} (h:SE X c e f):SB X c e (bOf f):=PE.weak h fun σ H Q ⟨δ,k,p⟩=>⟨δ,k,by
 unfold bOf at p
 rw [z01] at p
 exact z00 p fun r δ' q v H' a s=>q v H' a s.b⟩
def bVar (i:Nat):BE:=fun δ=>match δ[i]? with
 | some (some r)=>.ok r.d δ
 | _=>.stuck
def eVar (i:Nat):DE:=fun δ=>match δ[i]? with
 | some (some (.pure d))=>.ok (.pure d) δ
 | some (some (.own d))=>.ok (.pure d) (δ.set i (some (.pure d)))
 | _=>.stuck
def eD (d:D):DE:=fun δ=>.ok (.pure d) δ
section
variable {X:Cx} {c:Fc}
theorem z0c {i:Nat} {e:Expr} (h:PE X e (tVar i)):SB X c e (bVar i):=PE.weak h fun σ H Q ⟨δ,k,p⟩=>by
 unfold bVar at p
 cases e:δ[i]? with
 | none=>rw [e] at p; exact p.elim
 | some o =>
  cases o with
  | none=>rw [e] at p; exact p.elim
  | some r =>
   rw [e] at p
   cases r with
   | pure d =>
    obtain ⟨v,e1,r⟩:=k.slot i d e
    exact ⟨v,e1,p v H (.refl k) (.inl r)⟩
   | own d =>
    obtain ⟨a,e1,r,_⟩:=k.own i d e
    exact ⟨.ref a,e1,p _ H (.refl k) (.inr ⟨a,rfl,r⟩)⟩
theorem Own.sub (h:Own σ (δ.set i (some (.pure d))) a):Own σ δ a:=by
 obtain ⟨j,d',e1,e2⟩:=h
 by_cases hj:i=j
 ·subst hj
  rw [Wx] at e1
  simp at e1
 ·rw [W3 hj] at e1
  exact ⟨j,d',e1,e2⟩
theorem Ok.give (k:Ok c σ δ H) (e:δ[i]? = some (some (.own d))) :
  ∃ a,σ[i]? = some (some (.ref a))∧Aft c σ δ H σ (δ.set i (some (.pure d))) H∧Rep H (Av c σ (δ.set i (some (.pure d)))) (.ref a) d:=by
 obtain ⟨a,e1,r,q,nb⟩:=k.own i d e
 have hi:i < δ.length:=(Wa.mp e).1
 have sub:∀ b,Av c σ (δ.set i (some (.pure d))) b→Av c σ δ b:=fun b z=>z.elim .inl fun z=>.inr z.sub
 have na:¬ Av c σ (δ.set i (some (.pure d))) a:=by
  rintro (z | ⟨j,d',f1,f2⟩)
  ·exact nb z
  ·by_cases hj:i=j
   ·subst hj
    rw [Wx] at f1
    simp at f1
   ·rw [W3 hj] at f1
    exact hj (k.inj i j a d d' e f1 e1 f2)
 have rep:Rep H (Av c σ (δ.set i (some (.pure d)))) (.ref a) d:=(r.anti fun b z=>.inl (sub b z)).rep na
 refine ⟨a,e1,⟨⟨k.keep,k.bd,k.ith,by rw [Qe]; exact k.len,fun j d' f=>?_,fun j d' f=>?_,fun j l b d1 d2 f1 f2=>?_,k.pinned⟩,fun _ _ w _=>w,fun b z=>.inl z.sub,fun _ o w=>⟨o,w⟩⟩,rep⟩
 ·by_cases hj:i=j
  ·subst hj
   rw [Wm hi] at f
   cases f
   exact ⟨.ref a,e1,rep⟩
  ·rw [W3 hj] at f
   obtain ⟨v,g1,g2⟩:=k.slot j d' f
   exact ⟨v,g1,g2.anti fun b z=>.inl (sub b z)⟩
 ·by_cases hj:i=j
  ·subst hj
   rw [Wm hi] at f
   cases f
  ·rw [W3 hj] at f
   obtain ⟨b,g1,g2,g3⟩:=k.own j d' f
   exact ⟨b,g1,g2.anti fun b z=>.inl (sub b z),g3⟩
 ·have h1:δ[j]? = some (some (.own d1)):=by
   by_cases hj:i=j
   ·subst hj; rw [Wm hi] at f1; cases f1
   ·rw [W3 hj] at f1; exact f1
  have h2:δ[l]? = some (some (.own d2)):=by
   by_cases hj:i=l
   ·subst hj; rw [Wm hi] at f2; cases f2
   ·rw [W3 hj] at f2; exact f2
  exact k.inj j l b d1 d2 h1 h2
theorem z07 {i:Nat} {e:Expr} (h:PE X e (tVar i)):SE X c e (eVar i):=PE.weak h fun σ H Q ⟨δ,k,p⟩=>by
 unfold eVar at p
 cases e:δ[i]? with
 | none=>rw [e] at p; exact p.elim
 | some o =>
  cases o with
  | none=>rw [e] at p; exact p.elim
  | some r =>
   rw [e] at p
   cases r with
   | pure d =>
    obtain ⟨v,e1,r⟩:=k.slot i d e
    exact ⟨v,e1,p v H (.refl k) r⟩
   | own d =>
    obtain ⟨a,e1,x,r⟩:=k.give e
    exact ⟨.ref a,e1,p _ H x r⟩
theorem z04 {i j pos}:SE X c (.Constant (.int i) j pos) (eD (.int i)):=PE.weak zgk fun σ H Q ⟨δ,k,p⟩=>p _ H (.refl k) (.int i)
theorem z1G {b j pos}:SE X c (.Constant (.bool b) j pos) (eD (.bl b)):=PE.weak zeO fun σ H Q ⟨δ,k,p⟩=>p _ H (.refl k) (.bl b)
theorem z3K {j pos}:SE X c (.Constant .none j pos) (eD .non):=PE.weak zgh fun σ H Q ⟨δ,k,p⟩=>p _ H (.refl k) .non
theorem z3c {x j pos} (y:Tx) (h:x=toS y:=by decide +kernel):SE X c (.Constant (.str x) j pos) (eD (.str y)):=by
 subst h
 exact PE.weak zdL fun σ H Q ⟨δ,k,p⟩=>p _ H (.refl k) (.str y)
theorem z9I (hg:Gl X x) (hm:X.mg x=some (.int i t)) (hd:(x == ("__debug__" : Str))=false:=by decide):SE X c (.Name x pos) (eD (.int i)) :=
 PE.weak (zeL (v:=.int i) hg hm ⟨t,rfl⟩ hd) fun σ H Q ⟨δ,k,p⟩=>p _ H (.refl k) (.int i)
end
open PySem PySem.Spec PyProof.Rows L2 PySem.SeqAt
mutual
def eqD:D→D→Bool
 | .non,.non=>true
 | .bl a,.bl b=>a == b
 | .int a,.int b=>a == b
 | .bl a,.int b=>(if a then 1 else 0) == b
 | .int a,.bl b=>a == (if b then 1 else 0)
 | .str a,.str b=>a == b
 | .tup xs,.tup ys=>eqDs xs ys
 | .lst xs,.lst ys=>eqDs xs ys
 | _,_=>false
def eqDs:List D→List D→Bool
 | [],[]=>true
 | x :: xs,y :: ys=>eqD x y && eqDs xs ys
 | _,_=>false
end
mutual
def flat:Nat→D→Bool
 | _,.non=>true
 | _,.bl _=>true
 | _,.int _=>true
 | _,.str _=>true
 | 0,.tup _=>false
 | n + 1,.tup xs=>z2I n xs
 | 0,.lst _=>false
 | n + 1,.lst xs=>z2I n xs
 | _,.dct _=>false
 | _,.exc _ _=>false
 | _,.xd _=>false
def z2I:Nat→List D→Bool
 | _,[]=>true
 | n,x :: xs=>flat n x && z2I n xs
end
example:eqD (.tup [.int 1,.str [2]]) (.tup [.int 1,.str [2]])=true:=by decide +kernel
theorem z2i:∀ {xs:List D} {x:D},z2I n xs=true→x ∈ xs→flat n x=true
 | [],_,_,h=>by simp at h
 | y :: ys,x,h,hm=>by
  simp only [z2I,Wf] at h
  rcases Wg.mp hm with e | hm
  ·rw [e]; exact h.1
  ·exact z2i h.2 hm
theorem z5A:∀ {xs ys:List D} {f:Nat→Bool},xs.length=ys.length→(∀ (j:Nat) x y,xs[j]? = some x→ys[j]? = some y→f j=eqD x y)→(WM xs.length).all f=eqDs xs ys
 | [],[],f,_,_=>rfl
 | [],y :: ys,f,h,_=>by simp at h
 | x :: xs,[],f,h,_=>by simp at h
 | x :: xs,y :: ys,f,h,hf=>by
  simp only [eqDs]
  rw [WH,Qt,Qh,hf 0 x y rfl rfl,QM]
  rw [← z5A (f:=fun j=>f (j + 1)) (by simpa using h) (fun j a b e1 e2=>hf (j + 1) a b (by simpa using e1) (by simpa using e2))]
  rfl
theorem z5z:∀ {xs ys:List D},xs.length≠ys.length→eqDs xs ys=false
 | [],[],h=>absurd rfl h
 | [],y :: ys,_=>rfl
 | x :: xs,[],_=>rfl
 | x :: xs,y :: ys,h=>by
  simp only [eqDs]
  rw [z5z (xs:=xs) (ys:=ys) (by intro e; exact h (by simp [e]))]
  simp
mutual
theorem z4K:∀ {n:Nat} {d:D},flat n d=true→eqD d d=true
 | _,.non,_=>rfl
 | _,.bl b,_=>by simp [eqD]
 | _,.int i,_=>by simp [eqD]
 | _,.str x,_=>by simp [eqD]
 | 0,.tup xs,h=>by simp [flat] at h
 | n + 1,.tup xs,h=>by simp only [eqD]; exact z6b (n:=n) (by simpa [flat] using h)
 | 0,.lst xs,h=>by simp [flat] at h
 | n + 1,.lst xs,h=>by simp only [eqD]; exact z6b (n:=n) (by simpa [flat] using h)
 | _,.dct xs,h=>by simp [flat] at h
 | _,.exc n _,h=>by simp [flat] at h
 | _,.xd n,h=>by simp [flat] at h
theorem z6b:∀ {n:Nat} {ds:List D},z2I n ds=true→eqDs ds ds=true
 | _,[],_=>rfl
 | n,x :: xs,h=>by
  simp only [z2I,Wf] at h
  simp only [eqDs]
  rw [z4K h.1,z6b h.2]
  rfl
end
abbrev NoO:Addr→Prop:=fun _=>False
theorem Rep.un (h:Rep H O v d):Rep H NoO v d:=Rep.anti h fun _ z=>z.elim
theorem RepB.un (h:RepB c σ δ H v d):Rep H NoO v d:=by
 rcases h with h | ⟨a,rfl,o⟩
 ·exact Rep.un h
 ·exact (o.anti (O':=NoO) fun _ z=>z.elim).rep fun z=>z
section
variable {X:Cx} {pins:List (Addr×Obj)} {σ:St} {H:Hp} {s:W2}
theorem Inv.rdL (I:Inv X pins σ H s) (h:Rd H a (.lst vs)):∃ its:List Value,Vals vs its∧s.heap.IsList a its.toArray:=by
 obtain ⟨its,r,p,_⟩:=I.list (.inl h)
 exact ⟨its,r,p.isList⟩
theorem Inv.rdT (I:Inv X pins σ H s) (h:H a=some (.tup vs)):∃ its:List Value,Vals vs its∧s.heap.IsTuple a its.toArray:=by
 obtain ⟨its,r,p,_⟩:=I.tuple (.of h)
 exact ⟨its,r,p⟩
theorem z8n (x y:Tx):((toS x:Str) == toS y)=(x == y):=by
 rw [Bool.eq_iff_iff]
 simp only [beq_iff_eq]
 exact ⟨z5D,fun e=>by rw [e]⟩
theorem zbD (A:Wn):A.in1.units=A.units + 1:=rfl
theorem Rd.inj (h:Rd H a u) (k:Rd H a w) (hu:∀ o z,u≠.frz o z) (hw:∀ o z,w≠.frz o z):u=w:=by
 rcases h with h | ⟨o,h⟩ <;> rcases k with k | ⟨o',k⟩
 ·rw [h] at k; exact Wu k
 ·rw [h] at k; exact absurd (Wu k) (hu _ _)
 ·rw [h] at k; exact absurd (Wu k).symm (hw _ _)
 ·rw [h] at k
  have:=Wu k
  injection this
theorem Reps.inj {vs:List V}:∀ {ds es:List D},vs.length=ds.length→vs.length=es.length→(∀ (i:Nat) v d e,vs[i]? = some v→ds[i]? = some d→es[i]? = some e→d=e)→ds=es:=by
 intro ds es h1 h2 h
 apply List.ext_getElem?
 intro i
 by_cases hi:i < vs.length
 ·have a1:i < ds.length:=by omega
  have a2:i < es.length:=by omega
  rw [Wo a1,Wo a2]
  rw [h i vs[i] ds[i] es[i] (by simp [hi]) (by simp [a1]) (by simp [a2])]
 ·rw [WK (by omega),WK (by omega)]
theorem Rep.inj {O:Addr→Prop} {v:V} {d:D} (h:Rep H O v d):∀ {n:Nat} {e:D},flat n d=true→flat n e=true→Rep H O v e→d=e:=by
 induction h with
 | non=>intro n e _ _ k; cases k; rfl
 | bl b=>intro n e _ _ k; cases k; rfl
 | int i=>intro n e _ _ k; cases k; rfl
 | str x =>
  intro n e _ _ k
  generalize hz:V.str (toS x)=z at k
  cases k with
  | str y=>injection hz with hz; rw [z5D hz]
  | _=>cases hz
 | @tup a vs ds h1 h2 h3 h4 ih =>
  intro n e fd fe k
  cases n with
  | zero=>simp [flat] at fd
  | succ n =>
   simp only [flat] at fd
   cases k with
   | @tup _ ws es k1 k2 k3 k4 =>
    simp only [flat] at fe
    have e1:=Rd.inj (.inl h2) (.inl k2) (fun _ _ z=>by cases z) (fun _ _ z=>by cases z)
    injection e1 with e1
    subst e1
    rw [Reps.inj h3 k3 fun i v d e q1 q2 q3=>ih i v d q1 q2 (z2i fd (Wr q2)) (z2i fe (Wr q3)) (k4 i v e q1 q3)]
   | lst k1 k2=>exact absurd (Rd.inj (.inl h2) k2 (fun _ _ z=>by cases z) (fun _ _ z=>by cases z)) (fun z=>by cases z)
   | dct k1 k2=>exact absurd (Rd.inj (.inl h2) (.inl k2) (fun _ _ z=>by cases z) (fun _ _ z=>by cases z)) (fun z=>by cases z)
   | exc k1 k2=>simp [flat] at fe
   | xd k1 k2=>simp [flat] at fe
 | @lst a vs ds h1 h2 h3 h4 ih =>
  intro n e fd fe k
  cases n with
  | zero=>simp [flat] at fd
  | succ n =>
   simp only [flat] at fd
   cases k with
   | @lst _ ws es k1 k2 k3 k4 =>
    simp only [flat] at fe
    have e1:=Rd.inj h2 k2 (fun _ _ z=>by cases z) (fun _ _ z=>by cases z)
    injection e1 with e1
    subst e1
    rw [Reps.inj h3 k3 fun i v d e q1 q2 q3=>ih i v d q1 q2 (z2i fd (Wr q2)) (z2i fe (Wr q3)) (k4 i v e q1 q3)]
   | tup k1 k2=>exact absurd (Rd.inj h2 (.inl k2) (fun _ _ z=>by cases z) (fun _ _ z=>by cases z)) (fun z=>by cases z)
   | dct k1 k2=>exact absurd (Rd.inj h2 (.inl k2) (fun _ _ z=>by cases z) (fun _ _ z=>by cases z)) (fun z=>by cases z)
   | exc k1 k2=>simp [flat] at fe
   | xd k1 k2=>simp [flat] at fe
 | dct h1 h2 h3 h4 ih =>
  intro n e fd _ _
  cases n <;> simp [flat] at fd
 | exc h1 h2 =>
  intro n e fd _ _
  cases n <;> simp [flat] at fd
 | xd h1 h2 =>
  intro n e fd _ _
  cases n <;> simp [flat] at fd
def EqIt (H:Hp) (s:W2) (n:Nat):Prop:=∀ (A:Wn) (x y:V) (u w:Value) (d e:D),A.units + n + 1 < Ql→flat n d=true→flat n e=true→Rep H NoO x d→Rep H NoO y e→RelV x u→RelV y w→EqAt A s u w (eqD d e)
def z8O (H:Hp) (s:W2) (A:Wn) (n:Nat):Prop:=match n with
 | 0=>True
 | m + 1=>A.units + m + 2 < Ql∧EqIt H s m
def itE (ds es:List D) (j:Nat):Bool:=match ds[j]?,es[j]? with
 | some p,some q=>eqD p q
 | _,_=>false
theorem z9e (j:Nat) (p q:D) (e1:ds[j]? = some p) (e2:es[j]? = some q):itE ds es j=eqD p q:=by unfold itE; rw [e1,e2]
theorem z5x {n:Nat} {A:Wn} {vs ws:List V} {ds es:List D} {its jts:List Value} (hu:A.units + n + 2 < Ql) (ih:EqIt H s n) (r1:Vals vs its) (r2:Vals ws jts) (l1:vs.length=ds.length) (l2:ws.length=es.length)
  (g1:∀ (i:Nat) v d,vs[i]? = some v→ds[i]? = some d→Rep H NoO v d) (g2:∀ (i:Nat) v d,ws[i]? = some v→es[i]? = some d→Rep H NoO v d) (f1:z2I n ds=true) (f2:z2I n es=true) :
  ∀ j (h1:j < its.toArray.size) (h2:j < jts.toArray.size),EqAt A.in1 s its.toArray[j] jts.toArray[j] (itE ds es j):=by
 intro j h1 h2
 have e1:=r1.length
 have e2:=r2.length
 simp at h1 h2
 have hd:j < ds.length:=by omega
 have he:j < es.length:=by omega
 have hv:j < vs.length:=by omega
 have hw:j < ws.length:=by omega
 obtain ⟨u',hu',ru'⟩:=r1.get (i:=j) (x:=vs[j]) (by simp [hv])
 obtain ⟨w',hw',rw''⟩:=r2.get (i:=j) (x:=ws[j]) (by simp [hw])
 have eu:its.toArray[j]=u':=by simpa [h1] using hu'
 have ew:jts.toArray[j]=w':=by simpa [h2] using hw'
 rw [eu,ew,z9e j ds[j] es[j] (by simp [hd]) (by simp [he])]
 exact ih A.in1 vs[j] ws[j] u' w' ds[j] es[j] (by rw [zbD]; omega) (z2i f1 (J9 hd)) (z2i f2 (J9 he)) (g1 j _ _ (by simp [hv]) (by simp [hd])) (g2 j _ _ (by simp [hw]) (by simp [he])) ru' rw''
theorem zce (h1:n=ds.length) (h2:m=es.length):((WM (min n m)).all (itE ds es) && n == m)=eqDs ds es:=by
 subst h1 h2
 by_cases hl:ds.length=es.length
 ·rw [← hl,Nat.min_self,z5A hl z9e]
  simp
 ·rw [z5z hl]
  simp [hl]
theorem rcT (I:Inv X pins σ H s) (n:Nat) (A:Wn) (hu0:A.units < Ql) (t1:s.heap.IsTuple a its.toArray) (t2:s.heap.IsTuple b jts.toArray) (r1:Vals vs its) (r2:Vals ws jts) (l1:vs.length=ds.length) (l2:ws.length=es.length)
  (g1:∀ (i:Nat) v d,vs[i]? = some v→ds[i]? = some d→Rep H NoO v d) (g2:∀ (i:Nat) v d,ws[i]? = some v→es[i]? = some d→Rep H NoO v d) (f1:flat n (.tup ds)=true) (f2:flat n (.tup es)=true) (ih:z8O H s A n) :
  RcAt A s (.ref a) (.ref b) (eqDs ds es):=by
 cases n with
 | zero=>simp [flat] at f1
 | succ n =>
  simp only [flat] at f1 f2
  obtain ⟨hu,ih⟩:=ih
  have q:=RcAt.tuples (A:=A) (s:=s) t1 t2 hu0 (z5x hu ih r1 r2 l1 l2 g1 g2 f1 f2)
  rw [zce (by have:=r1.length; simp; omega) (by have:=r2.length; simp; omega)] at q
  exact q
theorem rnT (I:Inv X pins σ H s) (n:Nat) (A:Wn) (hu0:A.units < Ql) (t1:s.heap.IsTuple a its.toArray) (t2:s.heap.IsTuple b jts.toArray) (r1:Vals vs its) (r2:Vals ws jts) (l1:vs.length=ds.length) (l2:ws.length=es.length)
  (g1:∀ (i:Nat) v d,vs[i]? = some v→ds[i]? = some d→Rep H NoO v d) (g2:∀ (i:Nat) v d,ws[i]? = some v→es[i]? = some d→Rep H NoO v d) (f1:flat n (.tup ds)=true) (f2:flat n (.tup es)=true) (ih:z8O H s A n) :
  RcNeAt A s (.ref a) (.ref b) (!eqDs ds es):=by
 cases n with
 | zero=>simp [flat] at f1
 | succ n =>
  simp only [flat] at f1 f2
  obtain ⟨hu,ih⟩:=ih
  have q:=RcNeAt.tuples (A:=A) (s:=s) t1 t2 hu0 (z5x hu ih r1 r2 l1 l2 g1 g2 f1 f2)
  rw [zce (by have:=r1.length; simp; omega) (by have:=r2.length; simp; omega)] at q
  exact q
theorem rcL (I:Inv X pins σ H s) (n:Nat) (A:Wn) (hu0:A.units < Ql) (t1:s.heap.IsList a its.toArray) (t2:s.heap.IsList b jts.toArray) (r1:Vals vs its) (r2:Vals ws jts) (l1:vs.length=ds.length) (l2:ws.length=es.length)
  (g1:∀ (i:Nat) v d,vs[i]? = some v→ds[i]? = some d→Rep H NoO v d) (g2:∀ (i:Nat) v d,ws[i]? = some v→es[i]? = some d→Rep H NoO v d) (f1:flat n (.lst ds)=true) (f2:flat n (.lst es)=true) (ih:z8O H s A n) :
  RcAt A s (.ref a) (.ref b) (eqDs ds es):=by
 cases n with
 | zero=>simp [flat] at f1
 | succ n =>
  simp only [flat] at f1 f2
  obtain ⟨hu,ih⟩:=ih
  have z1:its.toArray.size=ds.length:=by have:=r1.length; simp; omega
  have z2:jts.toArray.size=es.length:=by have:=r2.length; simp; omega
  by_cases hl:ds.length=es.length
  ·have q:=RcAt.lists (A:=A) (s:=s) t1 t2 (by rw [z1,z2]; exact hl) hu0 (z5x hu ih r1 r2 l1 l2 g1 g2 f1 f2)
   rw [z1,z5A hl z9e] at q
   exact q
  ·rw [z5z hl]
   exact RcAt.lists_lengths (A:=A) (s:=s) t1 t2 (by rw [z1,z2]; simpa using hl) hu0
theorem rnL (I:Inv X pins σ H s) (n:Nat) (A:Wn) (hu0:A.units < Ql) (t1:s.heap.IsList a its.toArray) (t2:s.heap.IsList b jts.toArray) (r1:Vals vs its) (r2:Vals ws jts) (l1:vs.length=ds.length) (l2:ws.length=es.length)
  (g1:∀ (i:Nat) v d,vs[i]? = some v→ds[i]? = some d→Rep H NoO v d) (g2:∀ (i:Nat) v d,ws[i]? = some v→es[i]? = some d→Rep H NoO v d) (f1:flat n (.lst ds)=true) (f2:flat n (.lst es)=true) (ih:z8O H s A n) :
  RcNeAt A s (.ref a) (.ref b) (!eqDs ds es):=by
 cases n with
 | zero=>simp [flat] at f1
 | succ n =>
  simp only [flat] at f1 f2
  obtain ⟨hu,ih⟩:=ih
  have z1:its.toArray.size=ds.length:=by have:=r1.length; simp; omega
  have z2:jts.toArray.size=es.length:=by have:=r2.length; simp; omega
  by_cases hl:ds.length=es.length
  ·have q:=RcNeAt.lists (A:=A) (s:=s) t1 t2 (by rw [z1,z2]; exact hl) hu0 (z5x hu ih r1 r2 l1 l2 g1 g2 f1 f2)
   rw [z1,z5A hl z9e] at q
   exact q
  ·rw [z5z hl]
   exact RcNeAt.lists_lengths (A:=A) (s:=s) t1 t2 (by rw [z1,z2]; simpa using hl) hu0
theorem rcD (I:Inv X pins σ H s) (n:Nat) (A:Wn) (x y:V) (u w:Value) (d e:D) (hu0:A.units < Ql) (fd:flat n d=true) (fe:flat n e=true) (ih:z8O H s A n) (rx:Rep H NoO x d) (ry:Rep H NoO y e) (ru:RelV x u) (rw':RelV y w):RcAt A s u w (eqD d e):=by
 cases rx with
 | non =>
  cases ru
  cases ry with
  | non =>
   cases rw'
   simp only [eqD]; exact RcAt.none_none
  | bl q =>
   cases rw'
   simp only [eqD]; exact RcAt.none_bool _
  | int q =>
   obtain ⟨t2,rfl⟩:=rw'
   simp only [eqD]; exact RcAt.none_int _ _
  | str q =>
   obtain ⟨t2,rfl⟩:=rw'
   simp only [eqD]; exact RcAt.none_str _ _
  | tup k1 k2 k3 k4 =>
   cases rw'; obtain ⟨its2,r2,t2⟩:=Inv.rdT I k2
   simp only [eqD]; exact RcAt.none_tuple t2 hu0
  | lst k1 k2 k3 k4 =>
   cases rw'; obtain ⟨its2,r2,t2⟩:=Inv.rdL I k2
   simp only [eqD]; exact RcAt.none_list t2 hu0
  | dct k1 k2 k3 k4=>(cases n <;> simp [flat] at fe)
  | exc k1 k2=>(cases n <;> simp [flat] at fe)
  | xd k1 k2=>(cases n <;> simp [flat] at fe)
 | bl p =>
  cases ru
  cases ry with
  | non =>
   cases rw'
   simp only [eqD]; exact RcAt.bool_none _
  | bl q =>
   cases rw'
   simp only [eqD]; exact RcAt.bool_bool _ _
  | int q =>
   obtain ⟨t2,rfl⟩:=rw'
   simp only [eqD]; exact RcAt.bool_int _ _ _
  | str q =>
   obtain ⟨t2,rfl⟩:=rw'
   simp only [eqD]; exact RcAt.bool_str _ _ _
  | tup k1 k2 k3 k4 =>
   cases rw'; obtain ⟨its2,r2,t2⟩:=Inv.rdT I k2
   simp only [eqD]; exact RcAt.bool_tuple _ t2 hu0
  | lst k1 k2 k3 k4 =>
   cases rw'; obtain ⟨its2,r2,t2⟩:=Inv.rdL I k2
   simp only [eqD]; exact RcAt.bool_list _ t2 hu0
  | dct k1 k2 k3 k4=>(cases n <;> simp [flat] at fe)
  | exc k1 k2=>(cases n <;> simp [flat] at fe)
  | xd k1 k2=>(cases n <;> simp [flat] at fe)
 | int p =>
  obtain ⟨t1,rfl⟩:=ru
  cases ry with
  | non =>
   cases rw'
   simp only [eqD]; exact RcAt.int_none _ _
  | bl q =>
   cases rw'
   simp only [eqD]; exact RcAt.int_bool _ _ _
  | int q =>
   obtain ⟨t2,rfl⟩:=rw'
   simp only [eqD]; exact RcAt.int_int _ _ _ _
  | str q =>
   obtain ⟨t2,rfl⟩:=rw'
   simp only [eqD]; exact RcAt.int_str _ _ _ _
  | tup k1 k2 k3 k4 =>
   cases rw'; obtain ⟨its2,r2,t2⟩:=Inv.rdT I k2
   simp only [eqD]; exact RcAt.int_tuple _ _ t2 hu0
  | lst k1 k2 k3 k4 =>
   cases rw'; obtain ⟨its2,r2,t2⟩:=Inv.rdL I k2
   simp only [eqD]; exact RcAt.int_list _ _ t2 hu0
  | dct k1 k2 k3 k4=>(cases n <;> simp [flat] at fe)
  | exc k1 k2=>(cases n <;> simp [flat] at fe)
  | xd k1 k2=>(cases n <;> simp [flat] at fe)
 | str p =>
  obtain ⟨t1,rfl⟩:=ru
  cases ry with
  | non =>
   cases rw'
   simp only [eqD]; exact RcAt.str_none _ _
  | bl q =>
   cases rw'
   simp only [eqD]; exact RcAt.str_bool _ _ _
  | int q =>
   obtain ⟨t2,rfl⟩:=rw'
   simp only [eqD]; exact RcAt.str_int _ _ _ _
  | str q =>
   obtain ⟨t2,rfl⟩:=rw'
   simp only [eqD]; rw [← z8n]; exact RcAt.str_str _ _ _ _
  | tup k1 k2 k3 k4 =>
   cases rw'; obtain ⟨its2,r2,t2⟩:=Inv.rdT I k2
   simp only [eqD]; exact RcAt.str_tuple _ _ t2 hu0
  | lst k1 k2 k3 k4 =>
   cases rw'; obtain ⟨its2,r2,t2⟩:=Inv.rdL I k2
   simp only [eqD]; exact RcAt.str_list _ _ t2 hu0
  | dct k1 k2 k3 k4=>(cases n <;> simp [flat] at fe)
  | exc k1 k2=>(cases n <;> simp [flat] at fe)
  | xd k1 k2=>(cases n <;> simp [flat] at fe)
 | tup h1 h2 h3 h4 =>
  cases ru; obtain ⟨its1,r1,t1⟩:=Inv.rdT I h2
  cases ry with
  | non =>
   cases rw'
   simp only [eqD]; exact RcAt.tuple_none t1 hu0
  | bl q =>
   cases rw'
   simp only [eqD]; exact RcAt.tuple_bool _ t1 hu0
  | int q =>
   obtain ⟨t2,rfl⟩:=rw'
   simp only [eqD]; exact RcAt.tuple_int _ _ t1 hu0
  | str q =>
   obtain ⟨t2,rfl⟩:=rw'
   simp only [eqD]; exact RcAt.tuple_str _ _ t1 hu0
  | tup k1 k2 k3 k4 =>
   cases rw'; obtain ⟨its2,r2,t2⟩:=Inv.rdT I k2
   simp only [eqD]; exact rcT I n A hu0 t1 t2 r1 r2 h3 k3 h4 k4 fd fe ih
  | lst k1 k2 k3 k4 =>
   cases rw'; obtain ⟨its2,r2,t2⟩:=Inv.rdL I k2
   simp only [eqD]; exact RcAt.tuple_list t1 t2 hu0
  | dct k1 k2 k3 k4=>(cases n <;> simp [flat] at fe)
  | exc k1 k2=>(cases n <;> simp [flat] at fe)
  | xd k1 k2=>(cases n <;> simp [flat] at fe)
 | lst h1 h2 h3 h4 =>
  cases ru; obtain ⟨its1,r1,t1⟩:=Inv.rdL I h2
  cases ry with
  | non =>
   cases rw'
   simp only [eqD]; exact RcAt.list_none t1 hu0
  | bl q =>
   cases rw'
   simp only [eqD]; exact RcAt.list_bool _ t1 hu0
  | int q =>
   obtain ⟨t2,rfl⟩:=rw'
   simp only [eqD]; exact RcAt.list_int _ _ t1 hu0
  | str q =>
   obtain ⟨t2,rfl⟩:=rw'
   simp only [eqD]; exact RcAt.list_str _ _ t1 hu0
  | tup k1 k2 k3 k4 =>
   cases rw'; obtain ⟨its2,r2,t2⟩:=Inv.rdT I k2
   simp only [eqD]; exact RcAt.list_tuple t1 t2 hu0
  | lst k1 k2 k3 k4 =>
   cases rw'; obtain ⟨its2,r2,t2⟩:=Inv.rdL I k2
   simp only [eqD]; exact rcL I n A hu0 t1 t2 r1 r2 h3 k3 h4 k4 fd fe ih
  | dct k1 k2 k3 k4=>(cases n <;> simp [flat] at fe)
  | exc k1 k2=>(cases n <;> simp [flat] at fe)
  | xd k1 k2=>(cases n <;> simp [flat] at fe)
 | dct h1 h2 h3 h4=>(cases n <;> simp [flat] at fd)
 | exc h1 h2=>(cases n <;> simp [flat] at fd)
 | xd h1 h2=>(cases n <;> simp [flat] at fd)
theorem rnD (I:Inv X pins σ H s) (n:Nat) (A:Wn) (x y:V) (u w:Value) (d e:D) (hu0:A.units < Ql) (fd:flat n d=true) (fe:flat n e=true) (ih:z8O H s A n) (rx:Rep H NoO x d) (ry:Rep H NoO y e) (ru:RelV x u) (rw':RelV y w):RcNeAt A s u w (!eqD d e):=by
 cases rx with
 | non =>
  cases ru
  cases ry with
  | non =>
   cases rw'
   simp only [eqD]; exact RcNeAt.none_none
  | bl q =>
   cases rw'
   simp only [eqD]; exact RcNeAt.none_bool _
  | int q =>
   obtain ⟨t2,rfl⟩:=rw'
   simp only [eqD]; exact RcNeAt.none_int _ _
  | str q =>
   obtain ⟨t2,rfl⟩:=rw'
   simp only [eqD]; exact RcNeAt.none_str _ _
  | tup k1 k2 k3 k4 =>
   cases rw'; obtain ⟨its2,r2,t2⟩:=Inv.rdT I k2
   simp only [eqD]; exact RcNeAt.none_tuple t2 hu0
  | lst k1 k2 k3 k4 =>
   cases rw'; obtain ⟨its2,r2,t2⟩:=Inv.rdL I k2
   simp only [eqD]; exact RcNeAt.none_list t2 hu0
  | dct k1 k2 k3 k4=>(cases n <;> simp [flat] at fe)
  | exc k1 k2=>(cases n <;> simp [flat] at fe)
  | xd k1 k2=>(cases n <;> simp [flat] at fe)
 | bl p =>
  cases ru
  cases ry with
  | non =>
   cases rw'
   simp only [eqD]; exact RcNeAt.bool_none _
  | bl q =>
   cases rw'
   simp only [eqD]; exact RcNeAt.bool_bool _ _
  | int q =>
   obtain ⟨t2,rfl⟩:=rw'
   simp only [eqD]; exact RcNeAt.bool_int _ _ _
  | str q =>
   obtain ⟨t2,rfl⟩:=rw'
   simp only [eqD]; exact RcNeAt.bool_str _ _ _
  | tup k1 k2 k3 k4 =>
   cases rw'; obtain ⟨its2,r2,t2⟩:=Inv.rdT I k2
   simp only [eqD]; exact RcNeAt.bool_tuple _ t2 hu0
  | lst k1 k2 k3 k4 =>
   cases rw'; obtain ⟨its2,r2,t2⟩:=Inv.rdL I k2
   simp only [eqD]; exact RcNeAt.bool_list _ t2 hu0
  | dct k1 k2 k3 k4=>(cases n <;> simp [flat] at fe)
  | exc k1 k2=>(cases n <;> simp [flat] at fe)
  | xd k1 k2=>(cases n <;> simp [flat] at fe)
 | int p =>
  obtain ⟨t1,rfl⟩:=ru
  cases ry with
  | non =>
   cases rw'
   simp only [eqD]; exact RcNeAt.int_none _ _
  | bl q =>
   cases rw'
   simp only [eqD]; exact RcNeAt.int_bool _ _ _
  | int q =>
   obtain ⟨t2,rfl⟩:=rw'
   simp only [eqD]; exact RcNeAt.int_int _ _ _ _
  | str q =>
   obtain ⟨t2,rfl⟩:=rw'
   simp only [eqD]; exact RcNeAt.int_str _ _ _ _
  | tup k1 k2 k3 k4 =>
   cases rw'; obtain ⟨its2,r2,t2⟩:=Inv.rdT I k2
   simp only [eqD]; exact RcNeAt.int_tuple _ _ t2 hu0
  | lst k1 k2 k3 k4 =>
   cases rw'; obtain ⟨its2,r2,t2⟩:=Inv.rdL I k2
   simp only [eqD]; exact RcNeAt.int_list _ _ t2 hu0
  | dct k1 k2 k3 k4=>(cases n <;> simp [flat] at fe)
  | exc k1 k2=>(cases n <;> simp [flat] at fe)
  | xd k1 k2=>(cases n <;> simp [flat] at fe)
 | str p =>
  obtain ⟨t1,rfl⟩:=ru
  cases ry with
  | non =>
   cases rw'
   simp only [eqD]; exact RcNeAt.str_none _ _
  | bl q =>
   cases rw'
   simp only [eqD]; exact RcNeAt.str_bool _ _ _
  | int q =>
   obtain ⟨t2,rfl⟩:=rw'
   simp only [eqD]; exact RcNeAt.str_int _ _ _ _
  | str q =>
   obtain ⟨t2,rfl⟩:=rw'
   simp only [eqD]; rw [← z8n]; exact RcNeAt.str_str _ _ _ _
  | tup k1 k2 k3 k4 =>
   cases rw'; obtain ⟨its2,r2,t2⟩:=Inv.rdT I k2
   simp only [eqD]; exact RcNeAt.str_tuple _ _ t2 hu0
  | lst k1 k2 k3 k4 =>
   cases rw'; obtain ⟨its2,r2,t2⟩:=Inv.rdL I k2
   simp only [eqD]; exact RcNeAt.str_list _ _ t2 hu0
  | dct k1 k2 k3 k4=>(cases n <;> simp [flat] at fe)
  | exc k1 k2=>(cases n <;> simp [flat] at fe)
  | xd k1 k2=>(cases n <;> simp [flat] at fe)
 | tup h1 h2 h3 h4 =>
  cases ru; obtain ⟨its1,r1,t1⟩:=Inv.rdT I h2
  cases ry with
  | non =>
   cases rw'
   simp only [eqD]; exact RcNeAt.tuple_none t1 hu0
  | bl q =>
   cases rw'
   simp only [eqD]; exact RcNeAt.tuple_bool _ t1 hu0
  | int q =>
   obtain ⟨t2,rfl⟩:=rw'
   simp only [eqD]; exact RcNeAt.tuple_int _ _ t1 hu0
  | str q =>
   obtain ⟨t2,rfl⟩:=rw'
   simp only [eqD]; exact RcNeAt.tuple_str _ _ t1 hu0
  | tup k1 k2 k3 k4 =>
   cases rw'; obtain ⟨its2,r2,t2⟩:=Inv.rdT I k2
   simp only [eqD]; exact rnT I n A hu0 t1 t2 r1 r2 h3 k3 h4 k4 fd fe ih
  | lst k1 k2 k3 k4 =>
   cases rw'; obtain ⟨its2,r2,t2⟩:=Inv.rdL I k2
   simp only [eqD]; exact RcNeAt.tuple_list t1 t2 hu0
  | dct k1 k2 k3 k4=>(cases n <;> simp [flat] at fe)
  | exc k1 k2=>(cases n <;> simp [flat] at fe)
  | xd k1 k2=>(cases n <;> simp [flat] at fe)
 | lst h1 h2 h3 h4 =>
  cases ru; obtain ⟨its1,r1,t1⟩:=Inv.rdL I h2
  cases ry with
  | non =>
   cases rw'
   simp only [eqD]; exact RcNeAt.list_none t1 hu0
  | bl q =>
   cases rw'
   simp only [eqD]; exact RcNeAt.list_bool _ t1 hu0
  | int q =>
   obtain ⟨t2,rfl⟩:=rw'
   simp only [eqD]; exact RcNeAt.list_int _ _ t1 hu0
  | str q =>
   obtain ⟨t2,rfl⟩:=rw'
   simp only [eqD]; exact RcNeAt.list_str _ _ t1 hu0
  | tup k1 k2 k3 k4 =>
   cases rw'; obtain ⟨its2,r2,t2⟩:=Inv.rdT I k2
   simp only [eqD]; exact RcNeAt.list_tuple t1 t2 hu0
  | lst k1 k2 k3 k4 =>
   cases rw'; obtain ⟨its2,r2,t2⟩:=Inv.rdL I k2
   simp only [eqD]; exact rnL I n A hu0 t1 t2 r1 r2 h3 k3 h4 k4 fd fe ih
  | dct k1 k2 k3 k4=>(cases n <;> simp [flat] at fe)
  | exc k1 k2=>(cases n <;> simp [flat] at fe)
  | xd k1 k2=>(cases n <;> simp [flat] at fe)
 | dct h1 h2 h3 h4=>(cases n <;> simp [flat] at fd)
 | exc h1 h2=>(cases n <;> simp [flat] at fd)
 | xd h1 h2=>(cases n <;> simp [flat] at fd)
theorem zbQ (h:RcAt A s u w k) (hs:u=w→k=true) (hf:∀ b t,u≠Value.float b t):EqAt A s u w k:=fun prog w' E Q hq=>by
 unfold eqBool
 refine WR ?_
 refine wpAny_ite_split (fun hab=>?_) (fun _=>?_)
 ·have e:=eq_of_beq hab
  rw [hs e] at hq
  exact W1 (Ju (Wc hq))
 ·cases u with
  | float b t=>exact absurd rfl (hf b t)
  | _=>exact W1 (h prog w' E _ (WG hq))
theorem zbn (r:Rep H NoO x d) (ru:RelV x u) (b:UInt64) (t:Tok):u≠Value.float b t:=by
 intro e
 subst e
 cases r <;> first | (cases ru; done) | (obtain ⟨t',e⟩:=ru; cases e)
theorem eqAtD (I:Inv X pins σ H s) (n:Nat):EqIt H s n:=by
 induction n with
 | zero =>
  intro A x y u w d e hu fd fe rx ry ru rw'
  refine zbQ (rcD I 0 A x y u w d e (by omega) fd fe trivial rx ry ru rw') (fun h=>?_) (zbn rx ru)
  subst h
  have:=ru.inj rw'
  subst this
  rw [Rep.inj rx fd fe ry]
  exact z4K fe
 | succ n ih =>
  intro A x y u w d e hu fd fe rx ry ru rw'
  refine zbQ (rcD I (n + 1) A x y u w d e (by omega) fd fe ⟨by omega,ih⟩ rx ry ru rw') (fun h=>?_) (zbn rx ru)
  subst h
  have:=ru.inj rw'
  subst this
  rw [Rep.inj rx fd fe ry]
  exact z4K fe
theorem zgW (I:Inv X pins σ H s):∀ n:Nat,A.units + n + 1 < Ql→z8O H s A n
 | 0,_=>trivial
 | n + 1,h=>⟨by omega,eqAtD I n⟩
def rEqD:R2:=fun x y H Q=>∃ d e,Rep H NoO x d∧Rep H NoO y e∧flat 50 d=true∧flat 50 e=true∧Q (.bl (eqD d e)) H
def rNeD:R2:=fun x y H Q=>∃ d e,Rep H NoO x d∧Rep H NoO y e∧flat 50 d=true∧flat 50 e=true∧Q (.bl (!eqD d e)) H
theorem z2q (hu:X.A.units + 64 < Ql):OpR X (Wq .Eq) rEqD:=by
 intro pins s σ H x y v u Q I rx ry h
 obtain ⟨d,e,r1,r2,f1,f2,q⟩:=h
 exact rcD I 50 X.A x y v u d e (by omega) f1 f2 (zgW I 50 (by omega)) r1 r2 rx ry X.prog X.w X.xe _ ⟨.bl _,H,I,rfl,q⟩
theorem z2V (hu:X.A.units + 64 < Ql):OpR X (Wq .NotEq) rNeD:=by
 intro pins s σ H x y v u Q I rx ry h
 obtain ⟨d,e,r1,r2,f1,f2,q⟩:=h
 exact rnD I 50 X.A x y v u d e (by omega) f1 f2 (zgW I 50 (by omega)) r1 r2 rx ry X.prog X.w X.xe _ ⟨.bl _,H,I,rfl,q⟩
end
def cutL {α:Type} (xs:List α) (lo hi:Option Int):List α:=(xs.drop (HT.sIx xs.length 0 lo)).take (HT.sIx xs.length xs.length hi - HT.sIx xs.length 0 lo)
theorem ze3 (xs:List V) (lo hi:Option Int):cutL xs lo hi=cutV xs lo hi:=rfl
theorem z9s (xs:List α) (lo hi:Option Int):(cutL xs lo hi).length≤xs.length:=by
 unfold cutL
 rw [JC,List.length_drop]
 omega
theorem Reps.cut (lo hi:Option Int) (h:Reps H O vs ds):Reps H O (cutL vs lo hi) (cutL ds lo hi):=by
 unfold cutL
 rw [h.1]
 exact Reps.take _ (Reps.drop _ h)
theorem zbY {α:Type} {xs:List α} {lo hi:Option Int} (h:HT.sIx xs.length 0 lo=0∧HT.sIx xs.length xs.length hi=xs.length):cutL xs lo hi=xs:=by
 unfold cutL
 rw [h.1,h.2]
 simp
section
variable {prog:Wk} {w:Wp} {A:Wn} {E:Value→W2→Prop} {s:W2}
theorem z44 {t sl:Addr} {items:Array Value} {vl vu:Value} {lo hi:Option Int} {Q:Value→W2→Prop} (ht:IsTup s.heap t items) (hs:s.heap.IsSliceOf sl vl vu .none) (pl:IsPart vl lo) (pu:IsPart vu hi)
  (hw:HT.sIx items.size 0 lo=0∧HT.sIx items.size items.size hi=items.size) (h:Q (.ref t) s):W8 (model prog w) A (getItem (.ref t) (.ref sl)) Q E s:=by
 obtain ⟨os,hos,hcs,hds⟩:=id hs
 have hTs:s.TypeIs (.ref sl) "slice":=⟨os,hos,hcs⟩
 unfold getItem
 try with_reducible refine WR ?_
 first | refine W1 (Wc ?_) | skip
 refine W1 (wpAny_sequenceKey ht.typeIs (by decide) ?_)
 refine W1 (QP (name:=Str.ofString "__getitem__") ht.typeIs Qm
  (QK Qm ht.typeIs entry_tuple_getitem ?_ (args_tuple_getitem _ _)))
 show W8 _ _ (Builtin.Tuple.tupleItemsOf (.ref t) >>= _) _ _ s
 refine W1 (tupleItemsOf_ ht ?_)
 refine W1 (J0 hTs ?_)
 rw [if_pos (by decide)]
 refine W1 (HT.sliceApplied_gen hs pl pu ?_)
 show W8 _ _ (if (((HT.sIx items.size 0 lo:Nat):Int) == 0 && (1:Int) == 1 && (HT.sIx items.size items.size hi - HT.sIx items.size 0 lo) == items.size)=true then _ else _) _ _ s
 rw [hw.1,hw.2]
 rw [if_pos (by simp)]
 refine W1 (m:=Builtin.Tuple.tupleIsExact (.ref t)) ?_
 unfold Builtin.Tuple.tupleIsExact
 refine W1 (J0 ht.typeIs (Wc ?_))
 rw [if_pos (by decide)]
 exact W1 (Ju (W1 (Wc (Wc ⟨_,rfl,Wc h⟩))))
end
section
variable {X:Cx}
def zfU (K:W0):V→Option Int→Option Int→Hp→VK→Prop:=fun x lo hi H Q=>∃ a xs,x = .ref a∧SqT K H a xs ∧
 ((HT.sIx xs.length 0 lo=0∧HT.sIx xs.length xs.length hi=xs.length)→Q (.ref a) H)∧(¬ (HT.sIx xs.length 0 lo=0∧HT.sIx xs.length xs.length hi=xs.length)→∀ p,H p=none→Q (.ref p) (upd H p (.tup (cutV xs lo hi))))
theorem sl_tup2:SlR X (zfU X.K):=by
 intro pins s σ H x v vl vu lo hi sl Q I rx hs pl pu h
 obtain ⟨a,xs,rfl,hx,q1,q2⟩:=h
 by_cases hw:HT.sIx xs.length 0 lo=0∧HT.sIx xs.length xs.length hi=xs.length
 ·cases rx
  obtain ⟨its,r,ht,hz⟩:=I.tuple hx
  have hlen:its.toArray.size=xs.length:=by rw [Wd]; exact r.length.symm
  refine ⟨"tuple",_,PyProof.Rows.slot_tuple_getitem.lookup,ht.typeIs,?_⟩
  exact z44 ht hs pl pu (by rw [hlen]; exact hw) ⟨.ref a,H,I,rfl,q1 hw⟩
 ·exact sl_tup pins s σ H (.ref a) v vl vu lo hi sl Q I rx hs pl pu ⟨a,xs,rfl,hx,hw,q2 hw⟩
theorem zaU (a b:Nat):sliceRange (a:Int) (b:Int) 1=(WM (b - a)).map (fun k=>a + k):=by
 have h0:((1:Int) > 0)=True:=by simp
 unfold sliceRange
 simp only [h0,if_true]
 by_cases hlt:(a:Int) < (b:Int)
 ·rw [if_pos hlt]
  have e3:(((b:Int) - (a:Int) + 1 - 1) / 1).toNat=b - a:=by
   rw [Int.ediv_one]; omega
  rw [e3]
  refine QO fun k _=>?_
  omega
 ·rw [if_neg hlt]
  have:b - a=0:=by omega
  rw [this]
  rfl
theorem z6w (lo hi:Option Int) (n:Nat):Qf lo hi 1 n=(WM (HT.sIx n n hi - HT.sIx n 0 lo)).map (fun k=>HT.sIx n 0 lo + k):=by
 have c:∀ (i:Int) (d:Nat),max 0 (min (if i < 0 then i + (n:Int) else i) (n:Int))=((HT.sIx n d (some i):Nat):Int):=by
  intro i d
  show max 0 (min (if i < 0 then i + (n:Int) else i) (n:Int))=(((if i < 0 then (i + (n:Int)).toNat else min i.toNat n):Nat):Int)
  by_cases hi:i < 0
  ·simp only [if_pos hi]; omega
  ·simp only [if_neg hi]; omega
 have h0:((1:Int) > 0)=True:=by simp
 rw [← zaU]
 unfold Qf
 simp only [h0,if_true]
 cases lo with
 | none =>
  cases hi with
  | none=>rfl
  | some j=>show sliceRange 0 (max 0 (min (if j < 0 then j + (n:Int) else j) (n:Int))) 1=_; rw [c j n]; rfl
 | some i =>
  cases hi with
  | none=>show sliceRange (max 0 (min (if i < 0 then i + (n:Int) else i) (n:Int))) (n:Int) 1=_; rw [c i 0]; rfl
  | some j=>show sliceRange (max 0 (min (if i < 0 then i + (n:Int) else i) (n:Int))) (max 0 (min (if j < 0 then j + (n:Int) else j) (n:Int))) 1=_; rw [c i 0,c j n]
theorem zej (x:Tx) (lo hi:Option Int):(⟨((Qf lo hi 1 (toS x).length).filterMap ((toS x).cps[·]?)).toArray⟩:Str)=toS (cutL x lo hi):=by
 unfold toS
 congr 1
 rw [z6w]
 have:=pick_run (x.toArray) (HT.sIx x.length 0 lo) (HT.sIx x.length x.length hi - HT.sIx x.length 0 lo)
 have hl:({ cps:=x.toArray }:Str).length=x.length:=by simp [Str.length]
 rw [hl]
 rw [this]
 rfl
def rSlS:V→Option Int→Option Int→Hp→VK→Prop:=fun x lo hi H Q=>∃ z:Tx,x = .str (toS z)∧z.length≤W6∧Q (.str (toS (cutL z lo hi))) H
theorem zbd (p:IsPart v o):∃ q:Option (Int×Tok),v=partValue q∧q.map (·.1)=o:=by
 cases p with
 | none=>exact ⟨none,rfl,rfl⟩
 | int i t=>exact ⟨some (i,t),rfl,rfl⟩
theorem sl_str:SlR X rSlS:=by
 intro pins s σ H x v vl vu lo hi sl Q I rx hs pl pu h
 obtain ⟨z,rfl,hz,q⟩:=h
 obtain ⟨t,rfl⟩:=rx
 obtain ⟨l,rfl,el⟩:=zbd pl
 obtain ⟨u,rfl,eu⟩:=zbd pu
 obtain ⟨o,ho,hc,hd⟩:=hs
 refine ⟨"str",_,F.slot_str_getitem.lookup,typeIs_str s _ t,?_⟩
 refine wpAny_getItem_str_slice (l:=l) (u:=u) (st:=none) ⟨o,ho,hc,hd⟩ rfl ?_
 unfold sliceMade
 have e:(slicePicked (toS z) l u none)=Qf lo hi 1 (toS z).length:=by
  unfold slicePicked
  rw [el,eu]
  rfl
 rw [e]
 by_cases hw:(((none:Option (Int×Tok)).map (·.1)).getD 1 == 1 && (Qf lo hi 1 (toS z).length).length == (toS z).length)=true
 ·rw [if_pos hw]
  refine ⟨.str (toS (cutL z lo hi)),H,I,⟨t,?_⟩,q⟩
  congr 1
  rw [Wf] at hw
  have hw2:=eq_of_beq hw.2
  rw [z6w,WC,List.length_range,z2z] at hw2
  have h1:=HT.sIx_le z.length 0 (WY _) lo
  have h2:=HT.sIx_le z.length z.length (W9 _) hi
  unfold cutL
  congr 1
  by_cases h0:z.length=0
  ·have:z=[]:=List.eq_nil_of_length_eq_zero h0
   subst this
   simp
  ·have a1:HT.sIx z.length 0 lo=0:=by omega
   rw [a1] at hw2 ⊢
   rw [hw2]
   simp
 ·rw [if_neg hw]
  show Made.post (.str _) _ _
  rw [zej]
  exact ⟨by rw [z2z]; exact Q5 (z9s z lo hi) hz,.str (toS (cutL z lo hi)),H,I.tok _,⟨_,rfl⟩,q⟩
theorem op_catT0:OpR X (Q9 .Add) (fun x y H Q=>∃ a b ys,x = .ref a∧y = .ref b∧SqT X.K H a []∧SqT X.K H b ys∧Q (.ref b) H):=by
 intro pins s σ H x y v u Q I rx ry h
 obtain ⟨a,b,ys,rfl,rfl,ha,hb,q⟩:=h
 cases rx
 cases ry
 obtain ⟨its,r1,p1,_⟩:=I.tuple ha
 obtain ⟨its2,r2,p2,_⟩:=I.tuple hb
 cases r1
 obtain ⟨⟨cls,dd,data,sl⟩,ho,hc,n,hd⟩:=id p1
 obtain ⟨⟨cls2,dd2,data2,sl2⟩,ho2,hc2,n2,hd2⟩:=id p2
 simp only at hc hd hc2 hd2
 subst hc hd hc2 hd2
 exact concat_meets ⟨_,ho,rfl⟩ ⟨_,ho2,rfl⟩ noFill_tuple_add seq_tuple_add PySem.F.slot_tuple_add PySem.F.entry_tuple_add (PySem.F.args_tuple_add_2 _ _)
   (tuple_addW0 a b #[] its2.toArray n n2 dd dd2 sl sl2 rfl) ⟨ho,ho2,.ref b,H,I,rfl,q⟩
def zg0 (K:W0):R2:=fun x y H Q=>∃ l b xs zs,x = .ref l∧y = .ref b∧SqL K H l xs∧SqL K H b zs∧xs.length + zs.length≤W6∧∀ p,H p=none→Q (.ref p) (upd H p (.lst (xs ++ zs)))
theorem zeT:OpR X (Q9 .Add) (zg0 X.K):=by
 intro pins s σ H x y v u Q I rx ry h
 obtain ⟨l,b,xs,zs,rfl,rfl,hH,hB,hz,q⟩:=h
 cases rx
 cases ry
 obtain ⟨its,r,⟨⟨cls,dd,data,sl⟩,n,e,hc,hdd,hd⟩,z⟩:=I.list hH
 obtain ⟨its2,r2,⟨⟨cls2,dd2,data2,sl2⟩,n2,e2,hc2,hdd2,hd2⟩,z2⟩:=I.list hB
 simp only at hc hd hdd hc2 hd2 hdd2
 subst hc hd hdd hc2 hd2 hdd2
 have hl:=r.length
 have hl2:=r2.length
 refine concat_meets ⟨_,e,rfl⟩ ⟨_,e2,rfl⟩ noFill_list_add seq_list_add PySem.F.slot_list_add PySem.F.entry_list_add (PySem.F.args_list_add_2 _ _)
   (list_addW l b its.toArray its2.toArray n n2 none none sl sl2 (by rw [Wd,Wd]; omega)) ⟨e,e2,?_⟩
 have ea:its.toArray ++ its2.toArray=(its ++ its2).toArray:=by simp
 rw [ea]
 exact ⟨.ref _,_,I.lnew (t':=s.toks) (r.append r2) (by rw [Qv]; omega),rfl,q _ I.fresh⟩
theorem z3B:∀ {ys:List Str} {us:List Value},Vals (ys.map V.str) us→StrsAre us ys
 | [],us,r=>by cases r; exact .nil
 | y :: ys,us,r=>by
  cases r with
  | cons r1 r2 =>
   obtain ⟨t,rfl⟩:=r1
   exact .cons y t (z3B r2)
theorem z7p:∀ {ys:List Str} {us:List Value},StrsAre us ys→Vals (ys.map V.str) us
 | _,_,.nil=>.nil
 | _,_,.cons y t h=>.cons ⟨t,rfl⟩ (z7p h)
def zcH (K:W0):V→List V→Hp→VK→Prop:=fun x vs H Q=>∃ (z:Str) (a:Addr) (ys:List Str),x = .str z∧vs=[.ref a]∧(SqL K H a (ys.map V.str)∨SqT K H a (ys.map V.str)) ∧
 (ys.map (·.length)).sum + ys.length * z.length≤16777216∧Q (.str (Txt.join z ys)) H
theorem zeX:MtR X "str.join" (zcH X.K):=by
 intro pins s σ H x vs v us Q I rx rv h
 obtain ⟨z,a,ys,rfl,rfl,hq,hz,q⟩:=h
 obtain ⟨t,rfl⟩:=rx
 obtain ⟨u,rfl,ru⟩:=rv.one
 cases ru
 rcases hq with hq | hq
 ·obtain ⟨its,r,p,_⟩:=I.list hq
  exact join_list p.isList (by simpa using z3B r) hz fun t' k=>⟨.str _,H,I.tok _,⟨t',rfl⟩,q⟩
 ·obtain ⟨its,r,p,_⟩:=I.tuple hq
  exact join_tuple p (by simpa using z3B r) hz fun t' k=>⟨.str _,H,I.tok _,⟨t',rfl⟩,q⟩
theorem z6j:∀ {bs:List Bool} {us:List Value},Vals (bs.map V.bl) us→∀ (i:Nat) v,us[i]? = some v→∃ b,bs[i]? = some b∧v = .bool b
 | [],us,r,i,v,e=>by cases r; simp at e
 | b :: bs,us,r,i,v,e=>by
  cases r with
  | cons r1 r2 =>
   cases i with
   | zero =>
    simp at e
    subst e
    exact ⟨b,rfl,r1⟩
   | succ i=>exact z6j r2 i v (by simpa using e)
theorem z6C:∀ bs:List Bool,((WM bs.length).all fun i=>(bs[i]?).getD true)=bs.all id
 | []=>rfl
 | b :: bs=>by
  rw [WH,Qt,Qh,QM]
  have:=z6C bs
  simp only [List.getElem?_cons_zero,QN,Qh,id]
  rw [← this]
  rfl
theorem z6B:∀ bs:List Bool,((WM bs.length).any fun i=>(bs[i]?).getD false)=bs.any id
 | []=>rfl
 | b :: bs=>by
  rw [WH,Qt,WS,Qw]
  have:=z6B bs
  simp only [List.getElem?_cons_zero,QN,WS,id]
  rw [← this]
  rfl
theorem zds (hc:X.calm=true):CallR X (.builtin "all") (fun xs H Q=>∃ (a:Addr) (bs:List Bool),xs=[.ref a]∧SqL X.K H a (bs.map V.bl)∧Q (.bl (bs.all (fun b=>b))) H):=by
 intro pins s σ H xs us Q I r h
 obtain ⟨a,bs,rfl,hq,q⟩:=h
 obtain ⟨u,rfl,ru⟩:=z3F r
 cases ru
 obtain ⟨its,r',p,_⟩:=I.list hq
 have hl:=p.isList
 have hlt:a < s.heap.objs.size:=by obtain ⟨_,e,_⟩:=hl; exact We e
 have hlen:=r'.length
 rw [WC] at hlen
 refine call_all_walk (Jz hl ?_)
 refine ⟨s.heap.objs.size,[s.heap.objs.size,a],[s.heap.objs.size],its.toArray.size,_,_,fun i=>(bs[i]?).getD true,rfl,Walks.list (A:=X.A.in1) (I.ok.hd hc) _ a (WA hlt) its.toArray,
  ⟨⟨_,Wi _ rfl,rfl,rfl⟩,hl.push _⟩,fun i v s' Q' E' hP hQ=>?_,fun h' tk hk=>?_⟩
 ·obtain ⟨b,e,rfl⟩:=z6j r' i v (by simpa using hP)
  simp only [e,QN] at hQ
  exact WG hQ
 ·have e:((WM its.toArray.size).all fun i=>(bs[i]?).getD true)=bs.all id:=by
   rw [Wd,← hlen]; exact z6C bs
  rw [e]
  exact ⟨.bl _,H,I.kept fun b o e=>hk b o (fun hm=>by rw [List.mem_singleton.mp hm] at e; exact Q0 _ (We e)) (W4 _ e),rfl,q⟩
theorem zdr (hc:X.calm=true):CallR X (.builtin "any") (fun xs H Q=>∃ (a:Addr) (bs:List Bool),xs=[.ref a]∧SqL X.K H a (bs.map V.bl)∧Q (.bl (bs.any (fun b=>b))) H):=by
 intro pins s σ H xs us Q I r h
 obtain ⟨a,bs,rfl,hq,q⟩:=h
 obtain ⟨u,rfl,ru⟩:=z3F r
 cases ru
 obtain ⟨its,r',p,_⟩:=I.list hq
 have hl:=p.isList
 have hlt:a < s.heap.objs.size:=by obtain ⟨_,e,_⟩:=hl; exact We e
 have hlen:=r'.length
 rw [WC] at hlen
 refine call_any_walk (Jz hl ?_)
 refine ⟨s.heap.objs.size,[s.heap.objs.size,a],[s.heap.objs.size],its.toArray.size,_,_,fun i=>(bs[i]?).getD false,rfl,Walks.list (A:=X.A.in1) (I.ok.hd hc) _ a (WA hlt) its.toArray,
  ⟨⟨_,Wi _ rfl,rfl,rfl⟩,hl.push _⟩,fun i v s' Q' E' hP hQ=>?_,fun h' tk hk=>?_⟩
 ·obtain ⟨b,e,rfl⟩:=z6j r' i v (by simpa using hP)
  simp only [e,QN] at hQ
  exact WG hQ
 ·have e:((WM its.toArray.size).any fun i=>(bs[i]?).getD false)=bs.any id:=by
   rw [Wd,← hlen]; exact z6B bs
  rw [e]
  exact ⟨.bl _,H,I.kept fun b o e=>hk b o (fun hm=>by rw [List.mem_singleton.mp hm] at e; exact Q0 _ (We e)) (W4 _ e),rfl,q⟩
def insT (x:Tx):List Tx→List Tx
 | []=>[x]
 | y :: r=>if y < x then y :: insT x r else x :: y :: r
def z4R:List Tx→List Tx
 | []=>[]
 | x :: r=>insT x (z4R r)
theorem z68 (x:Tx):∀ l:List Tx,(insT x l).Perm (x :: l)
 | []=>.refl _
 | y :: r=>by
  unfold insT
  split
  ·exact ((z68 x r).cons y).trans (.swap x y r)
  ·exact .refl _
theorem z4Q:∀ l:List Tx,(z4R l).Perm l
 | []=>.refl _
 | x :: r=>(z68 x _).trans ((z4Q r).cons x)
abbrev leT (a b:Tx):Prop:=¬ b < a
theorem z7W (h1:leT a b) (h2:leT b c):leT a c:=List.not_lt.mpr (List.le_trans (List.not_lt.mp h1) (List.not_lt.mp h2))
theorem zd8 (h1:leT a b) (h2:leT b a):a=b:=List.le_antisymm (List.not_lt.mp h1) (List.not_lt.mp h2)
theorem z67 (x:Tx):∀ l:List Tx,l.Pairwise leT→(insT x l).Pairwise leT
 | [],_=>by simp [insT]
 | y :: r,h=>by
  unfold insT
  obtain ⟨h1,h2⟩:=List.pairwise_cons.mp h
  split
  ·rename_i hlt
   refine Jl.mpr ⟨fun z hz=>?_,z67 x r h2⟩
   rcases Wg.mp ((z68 x r).mem_iff.mp hz) with e | hz
   ·subst e
    intro q
    exact absurd (List.lt_trans hlt q) (List.lt_irrefl _)
   ·exact h1 z hz
  ·rename_i hge
   refine Jl.mpr ⟨fun z hz=>?_,h⟩
   rcases Wg.mp hz with e | hz
   ·subst e; exact hge
   ·exact z7W hge (h1 z hz)
theorem z5c:∀ l:List Tx,(z4R l).Pairwise leT
 | []=>.nil
 | x :: r=>z67 x _ (z5c r)
theorem zct (hp:l'.Perm l) (hs:l'.Pairwise leT):l'=z4R l :=
 List.Perm.eq_of_pairwise (fun _ _ _ _ h1 h2=>zd8 h1 h2) hs (z5c l) (hp.trans (z4Q l).symm)
theorem z7y:∀ (x:Str) (r:List Str),risingS x r=true→((x :: r).map fun z:Str=>z.cps.toList).Pairwise leT
 | x,[],_=>by simp
 | x,y :: r,h=>by
  have h':(!ltCps y.cps.toList x.cps.toList && risingS y r)=true:=h
  rw [Wf] at h'
  have ih:=z7y y r h'.2
  have hxy:leT x.cps.toList y.cps.toList:=by
   have:=h'.1
   rw [ltCps_eq] at this
   simpa using this
  rw [Wz]
  refine Jl.mpr ⟨fun z hz=>?_,ih⟩
  rw [Wz] at hz ih
  rcases Wg.mp hz with e | hz
  ·subst e; exact hxy
  ·exact z7W hxy ((List.pairwise_cons.mp ih).1 z hz)
theorem z8h:CallR X (.builtin "sorted") (fun xs H Q=>∃ (a:Addr) (ts:List Tx),xs=[.ref a]∧SqL X.K H a (ts.map fun z=>V.str (toS z))∧ts.length < 64∧∀ p,H p=none→Q (.ref p) (upd H p (.lst ((z4R ts).map fun z=>V.str (toS z))))):=by
 intro pins s σ H xs us Q I r h
 obtain ⟨a,ts,rfl,hq,hz,q⟩:=h
 obtain ⟨u,rfl,ru⟩:=z3F r
 cases ru
 obtain ⟨its,r',p,_⟩:=I.list hq
 have r2:Vals ((ts.map toS).map V.str) its:=by rw [WL]; exact r'
 have hlen:=r'.length
 rw [WC] at hlen
 refine sorted_strs p.isList (z3B r2) (by omega) fun out ss hS hp hs=>?_
 have e:ss=(z4R ts).map toS:=by
  have hpw:(ss.map fun z:Str=>z.cps.toList).Pairwise leT:=by
   cases ss with
   | nil=>simp
   | cons x r=>exact z7y x r hs
  have hpp:(ss.map fun z:Str=>z.cps.toList).Perm ts:=by
   have:=hp.map fun z:Str=>z.cps.toList
   rw [WL] at this
   have e2:ts.map ((fun z:Str=>z.cps.toList) ∘ toS)=ts:=by
    rw [show ((fun z:Str=>z.cps.toList) ∘ toS)=id from funext fun z=>z4P z,List.map_id]
   rw [e2] at this
   exact this
  rw [← zct hpp hpw,WL]
  have:(toS ∘ fun z:Str=>z.cps.toList)=id:=funext fun z=>(zdy z).symm
  rw [this,List.map_id]
 obtain ⟨ep,he⟩:=sortedAll_at s.heap its out
 have hv:Vals ((z4R ts).map fun z=>V.str (toS z)) out.toList:=by
  have:=z7p hS
  rw [e,WL] at this
  exact this
 have hl2:((z4R ts).map fun z=>V.str (toS z)).length≤W6:=by
  rw [WC,(z4Q ts).length_eq]
  exact Q5 (Jg hz) (by rw [WO]; decide)
 refine ⟨.ref (s.heap.objs.size + 1),_,I.laid (a:=s.heap.objs.size + 1) (o:=.lst ((z4R ts).map fun z=>V.str (toS z))) (t':=s.toks) (fun b u e=>sortedAll_old e) (Qs _) ?_,rfl,q _ (I.hok.fresh (Qs _))⟩
 exact ⟨hl2,out.toList,ep,hv,by simpa [WE] using he⟩
end
def p2 (p:D→D→Option S) (x y:D) (δ:Dl):Rs S:=match p x y with
 | some s=>.ok s δ
 | none=>.stuck
def eOp (p:D→D→Option S) (fa:DE) (fb:BE):DE:=fun δ=>(fa δ).bind fun x δ1=>(fb δ1).bind fun y δ2=>p2 p x.d y δ2
def eOpN (p:D→D→Option S) (i:Nat) (fb:BE):DE:=fun δ=>(fb δ).bind fun y δ1=>(bVar i δ1).bind fun x δ2=>p2 p x y δ2
def Op2 (r:R2) (p:D→D→Option S):Prop:=∀ (c:Fc) (σ:St) (δ:Dl) (H:Hp) (x y:V) (d e:D) (s:S) (Q:VK),Ok c σ δ H→RepB c σ δ H x d→RepB c σ δ H y e→p d e=some s →
 (∀ v H',Aft c σ δ H σ δ H'→RepS c σ δ H H' v s→Q v H')→r x y H Q
section
variable {X:Cx} {c:Fc} {a b:Expr} {fa:DE} {fb:BE} {r:R2} {p:D→D→Option S} {pos:Pos}
theorem z70 (hp:Op2 r p) (k:Ok c σ δ H) (rx:RepB c σ δ H x d) (ry:RepB c σ δ H y e)
  (h:post c (p2 p d e δ) fun s δ'=>∀ v H',Aft c σ δ H σ δ' H'→RepS c σ δ' H H' v s→Q v H'):r x y H Q:=by
 unfold p2 at h
 cases e1:p d e with
 | none=>rw [e1] at h; exact h.elim
 | some s=>rw [e1] at h; exact hp c σ δ H x y d e s Q k rx ry e1 h
theorem z71 (hp:Op2 r p) (h:tD c (eOp p fa fb) σ H Q):tOp r (tD c fa) (tB c fb) σ H Q:=by
 obtain ⟨δ,k,q⟩:=h
 refine ⟨δ,k,?_⟩
 unfold eOp at q
 rw [z01] at q
 refine z00 q fun x δ1 q1 v H1 a1 r1=>⟨δ1,a1.ok,?_⟩
 rw [z01] at q1
 refine z00 q1 fun y δ2 q2 u H2 a2 r2=>?_
 exact z70 hp a2.ok (.inl (Rep.aft r1.rep a2)) r2 (z00 q2 fun s δ3 q3 v' H3 a3 r3=>q3 v' H3 (a1.trans (a2.trans a3)) (RepS.back r3 (a1.trans a2)))
theorem zcV (hp:Op2 r p) (h:tD c (eOpN p i fb) σ H Q) (hv:∀ δ,Ok c σ δ H→post c (fb δ) (fun _ _=>True)→∃ v,σ[i]? = some (some v)):tOp r (tVar i) (tB c fb) σ H Q:=by
 obtain ⟨δ,k,q⟩:=h
 unfold eOpN at q
 rw [z01] at q
 obtain ⟨v,ev⟩:=hv δ k (z00 q fun _ _ _=>trivial)
 refine ⟨v,ev,δ,k,z00 q fun y δ1 q1 u H1 a1 r1=>?_⟩
 rw [z01] at q1
 unfold bVar at q1
 cases e:δ1[i]? with
 | none=>rw [e] at q1; exact q1.elim
 | some o =>
  cases o with
  | none=>rw [e] at q1; exact q1.elim
  | some w =>
   rw [e] at q1
   have q1':post c (p2 p w.d y δ1) fun s δ'=>∀ v H',Aft c σ δ H σ δ' H'→RepS c σ δ' H H' v s→Q v H':=q1
   have rb:RepB c σ δ1 H1 v w.d:=by
    cases w with
    | pure d =>
     obtain ⟨v',e1,r⟩:=a1.ok.slot i d e
     rw [ev] at e1; cases e1
     exact .inl r
    | own d =>
     obtain ⟨a,e1,r,_⟩:=a1.ok.own i d e
     rw [ev] at e1; cases e1
     exact .inr ⟨a,rfl,r⟩
   exact z70 hp a1.ok rb r1 (z00 q1' fun s δ3 q3 v' H3 a3 r3=>q3 v' H3 (a1.trans a3) (RepS.back r3 a1))
theorem z3C {i:Nat} {σ:St} {δ:Dl} {H:Hp} (k:Ok c σ δ H) {w:S} (e:δ[i]? = some (some w)):∃ v,σ[i]? = some (some v):=by
 cases w with
 | pure d=>obtain ⟨v,e1,_⟩:=k.slot i d e; exact ⟨v,e1⟩
 | own d=>obtain ⟨a,e1,_⟩:=k.own i d e; exact ⟨_,e1⟩
end
def eOpF (p:D→D→Option S) (i:Nat) (fb:BE):DE:=fun δ=>match δ[i]? with
 | some (some _)=>eOpN p i fb δ
 | _=>.stuck
section
variable {X:Cx} {c:Fc} {a b:Expr} {fa:DE} {fb:BE} {r:R2} {p:D→D→Option S} {pos:Pos}
theorem z5v (hp:Op2 r p) {i:Nat} {σ:St} {H:Hp} {Q:VK} (h:tD c (eOpF p i fb) σ H Q):tOp r (tVar i) (tB c fb) σ H Q:=by
 obtain ⟨δ,k,q⟩:=h
 unfold eOpF at q
 cases e:δ[i]? with
 | none=>rw [e] at q; exact q.elim
 | some o =>
  cases o with
  | none=>rw [e] at q; exact q.elim
  | some w =>
   rw [e] at q
   obtain ⟨v,ev⟩:=z3C k e
   exact zcV hp (i:=i) ⟨δ,k,q⟩ fun _ _ _=>⟨v,ev⟩
theorem z1X {op:Operator} (ho:OpR X (Q9 op) r) (hp:Op2 r p) (ha:SE X c a fa) (hb:SB X c b fb):SE X c (.BinOp a op b pos) (eOp p fa fb):=PE.weak (zge ho ha hb) fun _ _ _ h=>z71 hp h
theorem z2o {op:Operator} {i:Nat} (ho:OpR X (Q9 op) r) (hp:Op2 r p) (ha:PE X a (tVar i)) (hb:SB X c b fb):SE X c (.BinOp a op b pos) (eOpF p i fb):=PE.weak (zge ho ha hb) fun _ _ _ h=>z5v hp h
theorem z5G {op:CmpOp} (ho:OpR X (Wq op) r) (hp:Op2 r p) (ha:SE X c a fa) (hb:SB X c b fb) (hm:WQ op b=false):SE X c (.Compare a [op] [b] pos) (eOp p fa fb):=PE.weak (zb9 ho ha hb hm) fun _ _ _ h=>z71 hp h
theorem z4U {op:CmpOp} {i:Nat} (ho:OpR X (Wq op) r) (hp:Op2 r p) (ha:PE X a (tVar i)) (hb:SB X c b fb) (hm:WQ op b=false):SE X c (.Compare a [op] [b] pos) (eOpF p i fb):=PE.weak (zb9 ho ha hb hm) fun _ _ _ h=>z5v hp h
theorem zaD (hr:IxR X r) (hp:Op2 r p) (ha:SE X c a fa) (hb:SB X c b fb) (hs:z8N b):SE X c (.Subscript a b pos) (eOp p fa fb):=PE.weak (zgj hr ha hb hs) fun _ _ _ h=>z71 hp h
theorem z0s {i:Nat} (hr:IxR X r) (hp:Op2 r p) (ha:PE X a (tVar i)) (hb:SB X c b fb) (hs:z8N b):SE X c (.Subscript a b pos) (eOpF p i fb):=PE.weak (zgj hr ha hb hs) fun _ _ _ h=>z5v hp h
end
abbrev DT:=Dl→Rs Bool
def tT (c:Fc) (f:DT):TT:=fun σ H Q=>∃ δ,Ok c σ δ H∧post c (f δ) fun b δ'=>∀ H',Aft c σ δ H σ δ' H'→Q b H'
abbrev ST (X:Cx) (c:Fc) (e:Expr) (f:DT):Prop:=PT X e (tT c f)
theorem PT.weak (h:PT X e t) (w:∀ σ H Q,t' σ H Q→t σ H Q):PT X e t':=fun pins s σ H Q I q=>h pins s σ H Q I (w σ H Q q)
def dTr (f:DE):DT:=fun δ=>(f δ).bind fun r δ'=>match r with
 | .pure (.bl b)=>.ok b δ'
 | _=>.stuck
section
variable {X:Cx} {c:Fc} {a b:Expr} {fa f:DE} {fb:BE} {r:R2} {p:D→D→Option S} {pos:Pos}
theorem z5C (h:tT c (dTr f) σ H Q):tD c f σ H fun x H'=>∃ k,x = .bl k∧Q k H':=by
 obtain ⟨δ,k,q⟩:=h
 refine ⟨δ,k,?_⟩
 unfold dTr at q
 rw [z01] at q
 refine z00 q fun r δ1 q1 v H1 a1 r1=>?_
 cases r with
 | own d=>exact q1.elim
 | pure d =>
  cases d <;> first | exact q1.elim | skip
  rename_i b
  cases r1
  exact ⟨b,rfl,q1 H1 a1⟩
theorem z1f {op:CmpOp} (ho:OpR X (Wq op) r) (hp:Op2 r p) (ha:SE X c a fa) (hb:SB X c b fb) (hm:WQ op b=false):ST X c (.Compare a [op] [b] pos) (dTr (eOp p fa fb)) :=
 PT.weak (zaZ ho ha hb hm) fun σ H Q h=>z71 hp (z5C h)
theorem z3g {op:CmpOp} {i:Nat} (ho:OpR X (Wq op) r) (hp:Op2 r p) (ha:PE X a (tVar i)) (hb:SB X c b fb) (hm:WQ op b=false):ST X c (.Compare a [op] [b] pos) (dTr (eOpF p i fb)) :=
 PT.weak (zaZ ho ha hb hm) fun σ H Q h=>z5v hp (z5C h)
theorem z0U {e:Expr} (h:SE X c e f) (he:∀ whole,isTrue e X.env whole=(do let v ← whole; standAt e.pos; holding [v] (truthy v)):=by intro _; rfl):ST X c e (dTr f) :=
 PT.weak (zg4 h he) fun σ H Q h=>z5C h
def dAnd (t u:DT):DT:=fun δ=>(t δ).bind fun b δ1=>if b then u δ1 else .ok false δ1
def dOr (t u:DT):DT:=fun δ=>(t δ).bind fun b δ1=>if b then .ok true δ1 else u δ1
def dNot (t:DT):DT:=fun δ=>(t δ).bind fun b δ1=>.ok (!b) δ1
abbrev SW (X:Cx) (c:Fc) (e:Expr) (f:DT):Prop:=PW X e (tT c f)
theorem PW.weak (h:PW X e t) (w:∀ σ H Q,t' σ H Q→t σ H Q):PW X e t':=fun wh pins s σ H Q I q=>h wh pins s σ H Q I (w σ H Q q)
variable {t u:DT} {rest:List Expr}
theorem zei (ha:ST X c a t):SW X c (.BoolOp .And [a] pos) t:=zex ha
theorem z1z (ha:ST X c a t):SW X c (.BoolOp .Or [a] pos) t:=zg2 ha
theorem zfC (ha:ST X c a t) (hb:SW X c (.BoolOp .And (b :: rest) pos) u):SW X c (.BoolOp .And (a :: b :: rest) pos) (dAnd t u):=PW.weak (zg3 ha hb) fun σ H Q ⟨δ,k,q⟩=>by
 unfold dAnd at q
 rw [z01] at q
 refine ⟨δ,k,z00 q fun x δ1 q1 H1 a1=>?_⟩
 cases x with
 | true=>exact ⟨δ1,a1.ok,z00 q1 fun y δ2 q2 H2 a2=>q2 H2 (a1.trans a2)⟩
 | false=>exact q1 H1 a1
theorem z2m (ha:ST X c a t) (hb:SW X c (.BoolOp .Or (b :: rest) pos) u):SW X c (.BoolOp .Or (a :: b :: rest) pos) (dOr t u):=PW.weak (pw_or ha hb) fun σ H Q ⟨δ,k,q⟩=>by
 unfold dOr at q
 rw [z01] at q
 refine ⟨δ,k,z00 q fun x δ1 q1 H1 a1=>?_⟩
 cases x with
 | false=>exact ⟨δ1,a1.ok,z00 q1 fun y δ2 q2 H2 a2=>q2 H2 (a1.trans a2)⟩
 | true=>exact q1 H1 a1
theorem z2P (h:SW X c a t):ST X c a t:=PW.pt h
theorem z0S (ha:ST X c a t):ST X c (.UnaryOp .Not a pos) (dNot t):=PT.weak (zg5 ha) fun σ H Q ⟨δ,k,q⟩=>by
 unfold dNot at q
 rw [z01] at q
 exact ⟨δ,k,q⟩
def eAnd (f g:DE):DE:=fun δ=>(f δ).bind fun r δ1=>match r with
 | .pure (.bl true)=>g δ1
 | .pure (.bl false)=>.ok (.pure (.bl false)) δ1
 | _=>.stuck
def eOr (f g:DE):DE:=fun δ=>(f δ).bind fun r δ1=>match r with
 | .pure (.bl false)=>g δ1
 | .pure (.bl true)=>.ok (.pure (.bl true)) δ1
 | _=>.stuck
def eNot (f:DE):DE:=fun δ=>(f δ).bind fun r δ1=>match r with
 | .pure (.bl b)=>.ok (.pure (.bl (!b))) δ1
 | _=>.stuck
def eIf (t:DT) (f g:DE):DE:=fun δ=>(t δ).bind fun b δ1=>if b then f δ1 else g δ1
variable {g:DE}
theorem z3J {op} (h:SE X c a f):SE X c (.BoolOp op [a] pos) f:=zgf h
theorem z3L (ha:SE X c a f) (hb:SE X c (.BoolOp .And (b :: rest) pos) g):SE X c (.BoolOp .And (a :: b :: rest) pos) (eAnd f g):=PE.weak (zgn ha hb) fun σ H Q ⟨δ,k,q⟩=>by
 unfold eAnd at q
 rw [z01] at q
 refine ⟨δ,k,z00 q fun r δ1 q1 v H1 a1 r1=>?_⟩
 cases r with
 | own d=>exact q1.elim
 | pure d =>
  cases d <;> first | exact q1.elim | skip
  rename_i b
  cases r1
  refine ⟨b,rfl,?_⟩
  cases b with
  | true=>exact ⟨δ1,a1.ok,z00 q1 fun y δ2 q2 v H2 a2 r2=>q2 v H2 (a1.trans a2) (RepS.back r2 a1)⟩
  | false=>exact q1 _ H1 a1 (.bl false)
theorem zfF (ha:SE X c a f) (hb:SE X c (.BoolOp .Or (b :: rest) pos) g):SE X c (.BoolOp .Or (a :: b :: rest) pos) (eOr f g):=PE.weak (pe_or ha hb) fun σ H Q ⟨δ,k,q⟩=>by
 unfold eOr at q
 rw [z01] at q
 refine ⟨δ,k,z00 q fun r δ1 q1 v H1 a1 r1=>?_⟩
 cases r with
 | own d=>exact q1.elim
 | pure d =>
  cases d <;> first | exact q1.elim | skip
  rename_i b
  cases r1
  refine ⟨b,rfl,?_⟩
  cases b with
  | false=>exact ⟨δ1,a1.ok,z00 q1 fun y δ2 q2 v H2 a2 r2=>q2 v H2 (a1.trans a2) (RepS.back r2 a1)⟩
  | true=>exact q1 _ H1 a1 (.bl true)
theorem z8W (ha:SE X c a f):SE X c (.UnaryOp .Not a pos) (eNot f):=PE.weak (zgg ha) fun σ H Q ⟨δ,k,q⟩=>by
 unfold eNot at q
 rw [z01] at q
 refine ⟨δ,k,z00 q fun r δ1 q1 v H1 a1 r1=>?_⟩
 cases r with
 | own d=>exact q1.elim
 | pure d =>
  cases d <;> first | exact q1.elim | skip
  rename_i b
  cases r1
  exact ⟨b,rfl,q1 _ H1 a1 (.bl _)⟩
def z4L (p p':D→D→Option S) (fa:DE) (fb:DE) (fc:BE):DE:=fun δ=>(fa δ).bind fun x δ1=>(fb δ1).bind fun y δ2=>(p2 p x.d y.d δ2).bind fun z δ3=>match z with
 | .pure (.bl true)=>(fc δ3).bind fun w δ4=>p2 p' y.d w δ4
 | .pure (.bl false)=>.ok (.pure (.bl false)) δ3
 | _=>.stuck
theorem z6N {r':R2} {p':D→D→Option S} {fb:DE} {fc:BE} (hp:Op2 r p) (hp':Op2 r' p') {σ:St} {H:Hp} {Q:VK} (h:tD c (z4L p p' fa fb fc) σ H Q):zas r r' (tD c fa) (tD c fb) (tB c fc) σ H Q:=by
 obtain ⟨δ,k,q⟩:=h
 unfold z4L at q
 rw [z01] at q
 refine ⟨δ,k,z00 q fun x δ1 q1 v H1 a1 r1=>⟨δ1,a1.ok,?_⟩⟩
 rw [z01] at q1
 refine z00 q1 fun y δ2 q2 u H2 a2 r2=>?_
 rw [z01] at q2
 refine z70 hp a2.ok (.inl (Rep.aft r1.rep a2)) (.inl r2.rep) (z00 q2 fun s δ3 q3 v' H3 a3 r3=>?_)
 cases s with
 | own d=>exact q3.elim
 | pure d =>
  cases d <;> first | exact q3.elim | skip
  rename_i b
  cases r3
  refine ⟨b,rfl,?_⟩
  cases b with
  | false=>exact q3 _ H3 (a1.trans (a2.trans a3)) (.bl false)
  | true =>
   rw [if_pos rfl]
   have q3':post c ((fc δ3).bind fun w δ4=>p2 p' y.d w δ4) fun r δ'=>∀ v H',Aft c σ δ H σ δ' H'→RepS c σ δ' H H' v r→Q v H':=q3
   rw [z01] at q3'
   refine ⟨δ3,a3.ok,z00 q3' fun w δ4 q4 v4 H4 a4 r4=>?_⟩
   exact z70 hp' a4.ok (.inl (Rep.aft r2.rep (a3.trans a4))) r4 (z00 q4 fun s5 δ5 q5 v5 H5 a5 r5=>q5 v5 H5 (a1.trans (a2.trans (a3.trans (a4.trans a5)))) (RepS.back r5 (a1.trans (a2.trans (a3.trans a4)))))
theorem zcA {op op':CmpOp} {r':R2} {p':D→D→Option S} {e:Expr} {fb:DE} {fc:BE} (ho:OpR X (Wq op) r) (ho':OpR X (Wq op') r') (hp:Op2 r p) (hp':Op2 r' p') (ha:SE X c a fa) (hb:SE X c b fb) (he:SB X c e fc)
  (hm:lastMarks [op,op'] [b,e]=false:=by with_unfolding_all rfl):SE X c (.Compare a [op,op'] [b,e] pos) (z4L p p' fa fb fc):=PE.weak (zcP ho ho' ha hb he hm) fun _ _ _ h=>z6N hp hp' h
theorem z8S {op op':CmpOp} {r':R2} {p':D→D→Option S} {e:Expr} {fb:DE} {fc:BE} (ho:OpR X (Wq op) r) (ho':OpR X (Wq op') r') (hp:Op2 r p) (hp':Op2 r' p') (ha:SE X c a fa) (hb:SE X c b fb) (he:SB X c e fc)
  (hm:lastMarks [op,op'] [b,e]=false:=by with_unfolding_all rfl):ST X c (.Compare a [op,op'] [b,e] pos) (dTr (z4L p p' fa fb fc)):=PT.weak (zcI ho ho' ha hb he hm) fun _ _ _ h=>z6N hp hp' (z5C h)
end
section
variable {c:Fc} {σ:St} {δ:Dl} {H:Hp} {x:V}
theorem RepB.int (h:RepB c σ δ H x (.int i)):x = .int i:=by
 rcases h with h | ⟨_,_,h⟩
 ·cases h; rfl
 ·exact h.elim
theorem RepB.bl (h:RepB c σ δ H x (.bl b)):x = .bl b:=by
 rcases h with h | ⟨_,_,h⟩
 ·cases h; rfl
 ·exact h.elim
theorem RepB.str (h:RepB c σ δ H x (.str z)):x = .str (toS z):=by
 rcases h with h | ⟨_,_,h⟩
 ·cases h; rfl
 ·exact h.elim
theorem RepB.tup (h:RepB c σ δ H x (.tup ds)):∃ a vs,x = .ref a∧H a=some (.tup vs)∧Reps H (Av c σ δ) vs ds:=by
 rcases h with h | ⟨_,_,h⟩
 ·cases h with
  | tup h1 h2 h3 h4=>exact ⟨_,_,rfl,h2,h3,h4⟩
 ·exact h.elim
theorem RepB.lst (h:RepB c σ δ H x (.lst ds)):∃ a vs,x = .ref a∧Rd H a (.lst vs)∧Reps H (Av c σ δ) vs ds:=by
 rcases h with h | ⟨a,e,h⟩
 ·cases h with
  | lst h1 h2 h3 h4=>exact ⟨_,_,rfl,h2,h3,h4⟩
 ·obtain ⟨vs,h1,h2⟩:=h
  exact ⟨a,vs,e,.inl h1,h2⟩
theorem RepB.dct (h:RepB c σ δ H x (.dct ds)):∃ a ws,x = .ref a∧H a=some (.dK ws)∧ws.map (·.1)=ds.map (fun p=>kOf p.1)∧∀ (i:Nat) p q,ws[i]? = some p→ds[i]? = some q→Rep H (Av c σ δ) p.2 q.2:=by
 rcases h with h | ⟨a,e,h⟩
 ·cases h with
  | dct h1 h2 h3 h4=>exact ⟨_,_,rfl,h2,h3,h4⟩
 ·obtain ⟨ws,h1,h2,h3⟩:=h
  exact ⟨a,ws,e,h1,h2,h3⟩
end
theorem z6v (h:z.length≤W6):(toS z).length≤W6:=by rw [z2z]; exact h
theorem zec (x y:Tx):toS x ++ toS y=toS (x ++ y):=by
 show Str.append (toS x) (toS y)=_
 simp [toS,Str.append]
def pAdd:D→D→Option S
 | .int i,.int j=>some (.pure (.int (i + j)))
 | .str x,.str y=>if x.length + y.length≤W6 then some (.pure (.str (x ++ y))) else none
 | .tup xs,.tup ys=>if xs.length + ys.length≤W6 then some (.pure (.tup (xs ++ ys))) else none
 | .lst xs,.lst ys=>if xs.length + ys.length≤W6 then some (.own (.lst (xs ++ ys))) else none
 | _,_=>none
def zg1 (K:W0):R2:=fun x y H Q=>rI0 (fun i j=>V.int (i + j)) x y H Q∨(∃ i j,x = .str i∧y = .str j∧i.length + j.length≤W6∧Q (.str (i ++ j)) H) ∨
 (∃ a b ys,x = .ref a∧y = .ref b∧SqT K H a []∧SqT K H b ys∧Q (.ref b) H)∨zfZ K x y H Q∨zg0 K x y H Q
theorem z0O:OpR X (Q9 .Add) (zg1 X.K):=op_add.or (op_add_str.or (op_catT0.or (op_catT.or zeT)))
theorem z1e {K:W0}:Op2 (zg1 K) pAdd:=by
 intro c σ δ H x y d e s Q k rx ry hp q
 cases d <;> cases e <;> first
  | (simp [pAdd] at hp; done)
  | skip
 ·rename_i i j
  simp only [pAdd,W7] at hp
  subst hp
  exact .inl ⟨i,j,rx.int,ry.int,q _ H (.refl k) (.int _)⟩
 ·rename_i u w
  simp only [pAdd] at hp
  split at hp
  ·rename_i hz
   simp only [W7] at hp
   subst hp
   refine .inr (.inl ⟨toS u,toS w,rx.str,ry.str,by rw [z2z,z2z]; exact hz,?_⟩)
   rw [zec]
   exact q _ H (.refl k) (.str _)
  ·cases hp
 ·rename_i us ws
  simp only [pAdd] at hp
  split at hp
  ·rename_i hz
   simp only [W7] at hp
   subst hp
   obtain ⟨a,vs,ea,ha,ra⟩:=rx.tup
   obtain ⟨b,zs,eb,hb,rb⟩:=ry.tup
   cases vs with
   | nil =>
    have:us=[]:=by have:=ra.1; simpa using this.symm
    subst this
    refine .inr (.inr (.inl ⟨a,b,zs,ea,eb,.of ha,.of hb,?_⟩))
    rw [eb] at ry
    rcases ry with ry | ⟨_,_,ry⟩
    ·exact q _ H (.refl k) ry
    ·exact ry.elim
   | cons v0 vr =>
    refine .inr (.inr (.inr (.inl ⟨a,b,_,zs,ea,eb,.of ha,.of hb,by simp,by rw [ra.1,rb.1]; exact hz,fun e0=>?_,fun _ p hp=>?_⟩)))
    ·subst e0
     have:ws=[]:=by have:=rb.1; simpa using this.symm
     subst this
     rw [ea] at rx
     rcases rx with rx | ⟨_,_,rx⟩
     ·rw [WW] at q
      exact q _ H (.refl k) rx
     ·exact rx.elim
    ·exact q _ _ (.alloc k hp _) (RepS.newT k (ra.append rb) hp)
  ·cases hp
 ·rename_i us ws
  simp only [pAdd] at hp
  split at hp
  ·rename_i hz
   simp only [W7] at hp
   subst hp
   obtain ⟨a,vs,ea,ha,ra⟩:=rx.lst
   obtain ⟨b,zs,eb,hb,rb⟩:=ry.lst
   exact .inr (.inr (.inr (.inr ⟨a,b,vs,zs,ea,eb,.inl ha,.inl hb,by rw [ra.1,rb.1]; exact hz,fun p hp=>q _ _ (.alloc k hp _) (RepS.newL k (ra.append rb) hp)⟩)))
  ·cases hp
def pII (C:Int→Int→Bool) (g:Int→Int→D):D→D→Option S
 | .int i,.int j=>if C i j then some (.pure (g i j)) else none
 | _,_=>none
theorem zcW (hC:∀ i j,C' i j=true→C i j) (hg:∀ i j H O,Rep H O (g i j) (g' i j)):Op2 (rI C g) (pII C' g'):=by
 intro c σ δ H x y d e s Q k rx ry hp q
 cases d <;> cases e <;> first
  | (simp [pII] at hp; done)
  | skip
 rename_i i j
 simp only [pII] at hp
 split at hp
 ·rename_i hc
  simp only [W7] at hp
  subst hp
  exact ⟨i,j,rx.int,ry.int,hC i j hc,q _ H (.refl k) (hg i j H _)⟩
 ·cases hp
theorem zgv (hg:∀ i j H O,Rep H O (g i j) (g' i j)):Op2 (rI0 g) (pII (fun _ _=>true) g'):=by
 intro c σ δ H x y d e s Q k rx ry hp q
 cases d <;> cases e <;> first
  | (simp [pII] at hp; done)
  | skip
 rename_i i j
 simp only [pII,if_true,W7] at hp
 subst hp
 exact ⟨i,j,rx.int,ry.int,q _ H (.refl k) (hg i j H _)⟩
def pSub:=pII (fun _ _=>true) fun i j=>.int (i - j)
theorem zdO:Op2 (rI0 fun i j=>V.int (i - j)) pSub:=zgv fun _ _ _ _=>.int _
def cMul (i j:Int):Bool:=(decide (-(2 ^ 64) < i) && decide (i < 2 ^ 64)) || (decide (-(2 ^ 64) < j) && decide (j < 2 ^ 64))
def pMul:=pII cMul fun i j=>.int (i * j)
theorem zgu:Op2 (rI CMul fun i j=>V.int (i * j)) pMul:=zcW (fun i j h=>by
 unfold cMul at h
 simp only [Bool.or_eq_true,Wf,decide_eq_true_eq] at h
 exact h) fun _ _ _ _=>.int _
def cDiv (_ j:Int):Bool:=decide (0 < j) && decide (j < 1073741824)
def pDiv:=pII cDiv fun i j=>.int (i / j)
theorem zdP:Op2 (rI CDiv fun i j=>V.int (i / j)) pDiv:=zcW (fun i j h=>by
 unfold cDiv at h
 simp only [Wf,decide_eq_true_eq] at h
 exact h) fun _ _ _ _=>.int _
def pMod:=pII (fun _ j=>decide (0 < j)) fun i j=>.int (i % j)
theorem z5X:Op2 (rI (fun _ j=>0 < j) fun i j=>V.int (i % j)) pMod:=zcW (fun i j h=>by simpa using h) fun _ _ _ _=>.int _
def cPow (i j:Int):Bool:=decide (0≤j) && decide (j≤1000000) && decide (i.natAbs < 2 ^ 64)
def pPow:=pII cPow fun i j=>.int (i ^ j.toNat)
theorem zgt:Op2 (rI CPow fun i j=>V.int (i ^ j.toNat)) pPow:=zcW (fun i j h=>by
 unfold cPow at h
 simp only [Wf,decide_eq_true_eq] at h
 exact ⟨h.1.1,h.1.2,h.2⟩) fun _ _ _ _=>.int _
def pEq (d e:D):Option S:=if flat 50 d && flat 50 e then some (.pure (.bl (eqD d e))) else none
def pNe (d e:D):Option S:=if flat 50 d && flat 50 e then some (.pure (.bl (!eqD d e))) else none
theorem z4w:Op2 rEqD pEq:=by
 intro c σ δ H x y d e s Q k rx ry hp q
 unfold pEq at hp
 split at hp
 ·rename_i hf
  rw [Wf] at hf
  simp only [W7] at hp
  subst hp
  exact ⟨d,e,rx.un,ry.un,hf.1,hf.2,q _ H (.refl k) (.bl _)⟩
 ·cases hp
theorem z52:Op2 rNeD pNe:=by
 intro c σ δ H x y d e s Q k rx ry hp q
 unfold pNe at hp
 split at hp
 ·rename_i hf
  rw [Wf] at hf
  simp only [W7] at hp
  subst hp
  exact ⟨d,e,rx.un,ry.un,hf.1,hf.2,q _ H (.refl k) (.bl _)⟩
 ·cases hp
def pCmp (f:Int→Int→Bool) (g:Tx→Tx→Bool):D→D→Option S
 | .int i,.int j=>some (.pure (.bl (f i j)))
 | .str x,.str y=>some (.pure (.bl (g x y)))
 | _,_=>none
def rCmp (f:Int→Int→Bool) (g:List Nat→List Nat→Bool):R2:=fun x y H Q=>rI0 (fun i j=>V.bl (f i j)) x y H Q∨∃ i j,x = .str i∧y = .str j∧Q (.bl (g i.cps.toList j.cps.toList)) H
theorem z2g:Op2 (rCmp f g) (pCmp f g):=by
 intro c σ δ H x y d e s Q k rx ry hp q
 cases d <;> cases e <;> first
  | (simp [pCmp] at hp; done)
  | skip
 ·rename_i i j
  simp only [pCmp,W7] at hp
  subst hp
  exact .inl ⟨i,j,rx.int,ry.int,q _ H (.refl k) (.bl _)⟩
 ·rename_i i j
  simp only [pCmp,W7] at hp
  subst hp
  refine .inr ⟨toS i,toS j,rx.str,ry.str,?_⟩
  rw [z4P,z4P]
  exact q _ H (.refl k) (.bl _)
theorem z8x {X:Cx} {op:CmpOp} {g:List Nat→List Nat→Bool} (rule:∀ (i j:Str) (t u:Tok) (Q:Value→W2→Prop) (s:W2),Q (.bool (g i.cps.toList j.cps.toList)) s→W8 (model X.prog X.w) X.A (Wq op (.str i t) (.str j u)) Q X.xe s) :
  OpR X (Wq op) (fun x y H Q=>∃ i j,x = .str i∧y = .str j∧Q (.bl (g i.cps.toList j.cps.toList)) H):=by
 intro pins s σ H x y v u Q I rx ry h
 obtain ⟨i,j,rfl,rfl,q⟩:=h
 obtain ⟨t,rfl⟩:=rx
 obtain ⟨t',rfl⟩:=ry
 exact rule i j t t' _ s ⟨.bl _,H,I,rfl,q⟩
def pLt:=pCmp (fun i j=>decide (i < j)) fun x y=>decide (x < y)
theorem zgp:OpR X (Wq .Lt) (rCmp (fun i j=>decide (i < j)) fun x y=>decide (x < y)):=op_lt.or zbh
theorem o2_lt:Op2 (rCmp (fun i j=>decide (i < j)) fun x y=>decide (x < y)) pLt:=z2g
def pIx:D→D→Option S
 | .lst ds,.int i=>(atI ds i).map .pure
 | .tup ds,.int i=>(atI ds i).map .pure
 | .str x,.int i=>if x.length≤W6 then (atI x i).map fun n=>.pure (.str [n]) else none
 | _,_=>none
theorem z8Z (r:Reps H O vs ds) (h:atI ds i=some d):∃ v,atI vs i=some v∧Rep H O v d:=by
 unfold atI at h ⊢
 rw [r.1]
 cases e:ixN ds.length i with
 | none=>rw [e] at h; cases h
 | some j =>
  rw [e] at h
  exact r.get h
theorem z0J {K:W0}:Op2 (rIx K) pIx:=by
 intro c σ δ H x y d e s Q k rx ry hp q
 cases d <;> cases e <;> first
  | (simp [pIx] at hp; done)
  | skip
 ·rename_i z i
  simp only [pIx] at hp
  split at hp
  ·rename_i hz
   cases e1:atI z i with
   | none=>rw [e1] at hp; cases hp
   | some n =>
    rw [e1] at hp
    simp only [Wv,W7] at hp
    subst hp
    refine .inr (.inr ⟨toS z,i,n,rx.str,ry.int,z6v hz,by rw [z4P]; exact e1,?_⟩)
    exact q (.str (toS [n])) H (.refl k) (.str [n])
  ·cases hp
 ·rename_i ds i
  simp only [pIx] at hp
  cases e1:atI ds i with
  | none=>rw [e1] at hp; cases hp
  | some n =>
   rw [e1] at hp
   simp only [Wv,W7] at hp
   subst hp
   obtain ⟨a,vs,ea,ha,ra⟩:=rx.tup
   obtain ⟨v,e2,r2⟩:=z8Z ra e1
   exact .inr (.inl ⟨a,vs,i,v,ea,ry.int,.of ha,e2,q v H (.refl k) r2⟩)
 ·rename_i ds i
  simp only [pIx] at hp
  cases e1:atI ds i with
  | none=>rw [e1] at hp; cases hp
  | some n =>
   rw [e1] at hp
   simp only [Wv,W7] at hp
   subst hp
   obtain ⟨a,vs,ea,ha,ra⟩:=rx.lst
   obtain ⟨v,e2,r2⟩:=z8Z ra e1
   exact .inl ⟨a,vs,i,v,ea,ry.int,.inl ha,e2,q v H (.refl k) r2⟩
def pLe:=pCmp (fun i j=>decide (i≤j)) fun x y=>!decide (y < x)
def pGt:=pCmp (fun i j=>decide (j < i)) fun x y=>decide (y < x)
def pGe:=pCmp (fun i j=>decide (j≤i)) fun x y=>!decide (x < y)
theorem z5g:OpR X (Wq .LtE) (rCmp (fun i j=>decide (i≤j)) fun x y=>!decide (y < x)):=op_le.or (z8x (g:=fun x y=>!decide (y < x)) fun _ _ _ _ _ _ h=>PySem.P.le_str h)
theorem z97:OpR X (Wq .Gt) (rCmp (fun i j=>decide (j < i)) fun x y=>decide (y < x)):=op_gt.or (z8x (g:=fun x y=>decide (y < x)) fun _ _ _ _ _ _ h=>PySem.P.gt_str h)
theorem zdN:OpR X (Wq .GtE) (rCmp (fun i j=>decide (j≤i)) fun x y=>!decide (x < y)):=op_ge.or (z8x (g:=fun x y=>!decide (x < y)) fun _ _ _ _ _ _ h=>PySem.P.ge_str h)
abbrev DA:=Dl→Rs (List D)
def tAD (c:Fc) (f:DA):TA:=fun σ H Q=>∃ δ,Ok c σ δ H∧post c (f δ) fun ds δ'=>∀ vs H',Aft c σ δ H σ δ' H'→Reps H' (Av c σ δ') vs ds→Q vs H'
structure SA (X:Cx) (c:Fc) (es:List Expr) (f:DA):Prop where
 pa:PA X es (tAD c f)
 len:∀ δ ds δ',f δ = .ok ds δ'→ds.length=es.length
theorem PA.weak (h:PA X es t) (w:∀ σ H Q,t' σ H Q→t σ H Q):PA X es t':=fun pos pins s σ H Q I q=>h pos pins s σ H Q I (w σ H Q q)
def aNil:DA:=fun δ=>.ok [] δ
def z0b (f:DE) (g:DA):DA:=fun δ=>(f δ).bind fun x δ1=>(g δ1).bind fun xs δ2=>.ok (x.d :: xs) δ2
section
variable {X:Cx} {c:Fc} {e:Expr} {es:List Expr} {f:DE} {g:DA} {pos:Pos}
theorem z0w:SA X c [] aNil:=⟨PA.weak z23 fun σ H Q ⟨δ,k,q⟩=>q [] H (.refl k) .nil,fun δ ds δ' h=>by cases h; rfl⟩
theorem zaJ (ha:SE X c e f) (hr:SA X c es g) (hs:W5 (e :: es) X.env=(false,eval e X.env) :: W5 es X.env:=by rfl):SA X c (e :: es) (z0b f g):=by
 refine ⟨PA.weak (z0V ha hr.pa hs) fun σ H Q ⟨δ,k,q⟩=>?_,fun δ ds δ' h=>?_⟩
 ·unfold z0b at q
  rw [z01] at q
  refine ⟨δ,k,z00 q fun x δ1 q1 v H1 a1 r1=>⟨δ1,a1.ok,?_⟩⟩
  rw [z01] at q1
  exact z00 q1 fun xs δ2 q2 vs H2 a2 r2=>q2 (v :: vs) H2 (a1.trans a2) (.cons (Rep.aft r1.rep a2) r2)
 ·unfold z0b at h
  cases h1:f δ with
  | ok x δ1 =>
   rw [h1] at h
   cases h2:g δ1 with
   | ok xs δ2 =>
    simp only [Rs.bind,h2] at h
    cases h
    simp [hr.len _ _ _ h2]
   | exc x δx=>simp only [Rs.bind,h2] at h; cases h
   | stuck=>simp only [Rs.bind,h2] at h; cases h
  | exc x δx=>rw [h1] at h; cases h
  | stuck=>rw [h1] at h; cases h
def eTup (f:DA):DE:=fun δ=>(f δ).bind fun ds δ'=>.ok (.pure (.tup ds)) δ'
def eLst (f:DA):DE:=fun δ=>(f δ).bind fun ds δ'=>.ok (.own (.lst ds)) δ'
theorem z6x (h:n≤1000):n≤W6:=Jg (zax h)
theorem z7I (h:post c r k):post c r fun a δ=>r = .ok a δ∧k a δ:=by
 cases r with
 | ok a δ=>exact ⟨rfl,h⟩
 | exc x δx=>exact h
 | stuck=>exact h
theorem z1v {x1} (h:SA X c es g) (hz:es.length≤1000:=by decide):SE X c (.Tuple es x1 pos) (eTup g):=PE.weak (zgd h.pa) fun σ H Q ⟨δ,k,q⟩=>by
 unfold eTup at q
 rw [z01] at q
 refine ⟨δ,k,z00 (z7I q) fun ds δ1 ⟨e1,q1⟩ vs H1 a1 r1=>?_⟩
 have hl:=h.len _ _ _ e1
 exact ⟨by rw [r1.1,hl]; exact z6x hz,fun p hp=>q1 _ _ (a1.trans (.alloc a1.ok hp _)) (RepS.back (RepS.newT a1.ok r1 hp) a1)⟩
theorem z1A (h:SA X c es g) (hz:es.length≤1000:=by decide):SE X c (.List es pos) (eLst g):=PE.weak (zgi h.pa) fun σ H Q ⟨δ,k,q⟩=>by
 unfold eLst at q
 rw [z01] at q
 refine ⟨δ,k,z00 (z7I q) fun ds δ1 ⟨e1,q1⟩ vs H1 a1 r1=>?_⟩
 have hl:=h.len _ _ _ e1
 exact ⟨by rw [r1.1,hl]; exact z6x hz,fun p hp=>q1 _ _ (a1.trans (.alloc a1.ok hp _)) (RepS.back (RepS.newL a1.ok r1 hp) a1)⟩
end
def p1 (p:D→Option S) (x:D) (δ:Dl):Rs S:=match p x with
 | some s=>.ok s δ
 | none=>.stuck
def eC1 (p:D→Option S) (fb:BE):DE:=fun δ=>(fb δ).bind fun x δ1=>p1 p x δ1
def Op1 (r:V→Hp→VK→Prop) (p:D→Option S):Prop:=∀ (c:Fc) (σ:St) (δ:Dl) (H:Hp) (x:V) (d:D) (s:S) (Q:VK),Ok c σ δ H→RepB c σ δ H x d→p d=some s →
 (∀ v H',Aft c σ δ H σ δ H'→RepS c σ δ H H' v s→Q v H')→r x H Q
section
variable {X:Cx} {c:Fc} {e:Expr} {fb:BE} {r:V→Hp→VK→Prop} {p:D→Option S} {x:Str} {id T:String} {pp pos:Pos}
theorem z8w (hp:Op1 r p) (k:Ok c σ δ H) (rx:RepB c σ δ H v d)
  (h:post c (p1 p d δ) fun s δ'=>∀ v H',Aft c σ δ H σ δ' H'→RepS c σ δ' H H' v s→Q v H'):r v H Q:=by
 unfold p1 at h
 cases e1:p d with
 | none=>rw [e1] at h; exact h.elim
 | some s=>rw [e1] at h; exact hp c σ δ H v d s Q k rx e1 h
theorem z4O (hp:Op1 r p) (h:tD c (eC1 p fb) σ H Q):tUn r (tB c fb) σ H Q:=by
 obtain ⟨δ,k,q⟩:=h
 unfold eC1 at q
 rw [z01] at q
 exact ⟨δ,k,z00 q fun y δ1 q1 v H1 a1 r1=>z8w hp a1.ok r1 (z00 q1 fun s δ2 q2 w H2 a2 r2=>q2 w H2 (a1.trans a2) (RepS.back r2 a1))⟩
theorem z4h (hc:CallR X (.builtin id) rl) (hl:∀ v H Q,r v H Q→rl [v] H Q) (hp:Op1 r p) (hg:Gl X x) (hm:X.mg x=none) (hv:Q1 x=some (.builtin id)) (he:SB X c e fb)
  (hn:x≠"__name__":=by decide) (hdb:(x == ("__debug__" : Str))=false:=by decide) (hs:W5 [e] X.env=(false,eval e X.env) :: W5 [] X.env:=by rfl) (hpl:(WJ pos (W5 [] X.env)).any (·.1)=false:=by rfl) :
  SE X c (.Call (.Name x pp) [e] [] pos) (eC1 p fb):=PE.weak (z4q hc hg hm hv (z0V he z23 hs) hn hdb hs hpl) fun σ H Q h=>by
 obtain ⟨δ,k,q⟩:=z4O hp h
 exact ⟨δ,k,z00 q fun y δ1 q1 v H1 a1 r1=>hl _ _ _ (q1 v H1 a1 r1)⟩
theorem z4g (hc:CallR X (.type T) rl) (hl:∀ v H Q,r v H Q→rl [v] H Q) (hp:Op1 r p) (hg:Gl X x) (hm:X.mg x=none) (hv:Q1 x=some (.type T)) (he:SB X c e fb)
  (hn:x≠"__name__":=by decide) (hdb:(x == ("__debug__" : Str))=false:=by decide) (hs:W5 [e] X.env=(false,eval e X.env) :: W5 [] X.env:=by rfl) (hpl:(WJ pos (W5 [] X.env)).any (·.1)=false:=by rfl) :
  SE X c (.Call (.Name x pp) [e] [] pos) (eC1 p fb):=PE.weak (zba hc hg hm hv (z0V he z23 hs) hn hdb hs hpl) fun σ H Q h=>by
 obtain ⟨δ,k,q⟩:=z4O hp h
 exact ⟨δ,k,z00 q fun y δ1 q1 v H1 a1 r1=>hl _ _ _ (q1 v H1 a1 r1)⟩
def pLen:D→Option S
 | .lst ds=>some (.pure (.int ds.length))
 | .tup ds=>some (.pure (.int ds.length))
 | .str z=>if z.length≤W6 then some (.pure (.int z.length)) else none
 | .dct ds=>some (.pure (.int ds.length))
 | _=>none
def rLen (K:W0):V→Hp→VK→Prop:=fun v H Q=>((∃ p ys,v = .ref p∧(SqL K H p ys∨SqT K H p ys)∧Q (.int ys.length) H)∨∃ z,v = .str z∧z.length≤W6∧Q (.int z.length) H)∨∃ a kvs,v=V.ref a∧H a=some (.dK kvs)∧Q (.int kvs.length) H
theorem zgx {K:W0}:Op1 (rLen K) pLen:=by
 intro c σ δ H x d s Q k rx hp q
 cases d with
 | lst ds =>
  simp only [pLen,W7] at hp
  subst hp
  obtain ⟨a,vs,ea,ha,ra⟩:=rx.lst
  exact .inl (.inl ⟨a,vs,ea,.inl (.inl ha),by rw [ra.1]; exact q _ H (.refl k) (.int _)⟩)
 | tup ds =>
  simp only [pLen,W7] at hp
  subst hp
  obtain ⟨a,vs,ea,ha,ra⟩:=rx.tup
  exact .inl (.inl ⟨a,vs,ea,.inr (.of ha),by rw [ra.1]; exact q _ H (.refl k) (.int _)⟩)
 | str z =>
  simp only [pLen] at hp
  split at hp
  ·rename_i hz
   simp only [W7] at hp
   subst hp
   exact .inl (.inr ⟨toS z,rx.str,z6v hz,by rw [z2z]; exact q _ H (.refl k) (.int _)⟩)
  ·cases hp
 | dct ds =>
  simp only [pLen,W7] at hp
  subst hp
  obtain ⟨a,ws,ea,ha,h1,h2⟩:=rx.dct
  have hl:ws.length=ds.length:=by have:=congrArg List.length h1; simpa using this
  exact .inr ⟨a,ws,ea,ha,by rw [hl]; exact q _ H (.refl k) (.int _)⟩
 | _=>simp [pLen] at hp
theorem z17 (hg:Gl X "len") (hm:X.mg "len" = none) (he:SB X c e fb) (hs:W5 [e] X.env=(false,eval e X.env) :: W5 [] X.env:=by rfl):SE X c (.Call (.Name "len" pp) [e] [] pos) (eC1 pLen fb) :=
 z4h ((call_len_seq.or z8i).or zc6) (fun v H Q h=>by
  rcases h with (⟨p,ys,e,h⟩ | ⟨z,e,h⟩) | ⟨a,kvs,e,h⟩
  ·exact .inl (.inl ⟨p,ys,by rw [e],h⟩)
  ·exact .inl (.inr ⟨z,by rw [e],h⟩)
  ·exact .inr ⟨a,kvs,by rw [e],h⟩) (zgx (K:=X.K)) hg hm PySem.boot_len he (by decide) (by decide) hs
def z24:D→Option S
 | .lst ds=>some (.pure (.tup ds))
 | .tup ds=>some (.pure (.tup ds))
 | _=>none
def zfT (K:W0):V→Hp→VK→Prop:=fun v H Q=>∃ p ys,v = .ref p∧((SqL K H p ys∧∀ l,H l=none→Q (.ref l) (upd H l (.tup ys)))∨(SqT K H p ys∧Q (.ref p) H))
theorem zcX {K:W0}:Op1 (zfT K) z24:=by
 intro c σ δ H x d s Q k rx hp q
 cases d with
 | lst ds =>
  simp only [z24,W7] at hp
  subst hp
  obtain ⟨a,vs,ea,ha,ra⟩:=rx.lst
  exact ⟨a,vs,ea,.inl ⟨.inl ha,fun l hl=>q _ _ (.alloc k hl _) (RepS.newT k ra hl)⟩⟩
 | tup ds =>
  simp only [z24,W7] at hp
  subst hp
  obtain ⟨a,vs,ea,ha,ra⟩:=rx.tup
  refine ⟨a,vs,ea,.inr ⟨.of ha,?_⟩⟩
  rw [ea] at rx
  rcases rx with rx | ⟨_,_,rx⟩
  ·exact q _ H (.refl k) rx
  ·exact rx.elim
 | _=>simp [z24] at hp
theorem z5u (hg:Gl X "tuple") (hm:X.mg "tuple" = none) (he:SB X c e fb) (hs:W5 [e] X.env=(false,eval e X.env) :: W5 [] X.env:=by rfl):SE X c (.Call (.Name "tuple" pp) [e] [] pos) (eC1 z24 fb) :=
 z4g z7l (fun v H Q ⟨p,ys,e,h⟩=>⟨p,ys,by rw [e],h⟩) (zcX (K:=X.K)) hg hm PyProof.Rows.boot_tuple he (by decide) (by decide) hs
def pInt:D→Option S
 | .int i=>some (.pure (.int i))
 | .bl b=>some (.pure (.int (if b then 1 else 0)))
 | _=>none
theorem zes (hg:Gl X "int") (hm:X.mg "int" = none) (he:SB X c e fb) (hs:W5 [e] X.env=(false,eval e X.env) :: W5 [] X.env:=by rfl):SE X c (.Call (.Name "int" pp) [e] [] pos) (eC1 pInt fb) :=
 z4g (r:=fun v H Q=>(∃ i,v = .int i∧Q (.int i) H)∨∃ k,v = .bl k∧Q (.int (if k then 1 else 0)) H) zc7 (fun v H Q h=>by
  rcases h with ⟨i,e,q⟩ | ⟨k,e,q⟩
  ·exact .inl ⟨i,by rw [e],q⟩
  ·exact .inr ⟨k,by rw [e],q⟩) (fun c σ δ H x d s Q k rx hp q=>by
  cases d with
  | int i =>
   simp only [pInt,W7] at hp
   subst hp
   exact .inl ⟨i,rx.int,q _ H (.refl k) (.int _)⟩
  | bl b =>
   simp only [pInt,W7] at hp
   subst hp
   exact .inr ⟨b,rx.bl,q _ H (.refl k) (.int _)⟩
  | _=>simp [pInt] at hp) hg hm PyProof.Rows.boot_int he (by decide) (by decide) hs
def z3I:List D→Option (List Bool)
 | []=>some []
 | .bl b :: r=>(z3I r).map (b :: ·)
 | _ :: _=>none
def z3e:List D→Option (List Tx)
 | []=>some []
 | .str x :: r=>(z3e r).map (x :: ·)
 | _ :: _=>none
theorem z2S:∀ {ds:List D} {vs:List V} {bs:List Bool},z3I ds=some bs→Reps H O vs ds→vs=bs.map V.bl
 | [],vs,bs,h,r=>by
  simp only [z3I,W7] at h
  subst h
  have:=r.1
  simpa using this
 | d :: ds,[],bs,h,r=>by have:=r.1; simp at this
 | d :: ds,v :: vs,bs,h,r=>by
  cases d with
  | bl b =>
   simp only [z3I] at h
   cases e:z3I ds with
   | none=>rw [e] at h; cases h
   | some bs' =>
    rw [e] at h
    simp only [Wv,W7] at h
    subst h
    have:=r.head
    cases this
    rw [z2S e r.tail]
    rfl
  | _=>simp [z3I] at h
theorem z2R:∀ {ds:List D} {vs:List V} {bs:List Tx},z3e ds=some bs→Reps H O vs ds→vs=bs.map fun z=>V.str (toS z)
 | [],vs,bs,h,r=>by
  simp only [z3e,W7] at h
  subst h
  have:=r.1
  simpa using this
 | d :: ds,[],bs,h,r=>by have:=r.1; simp at this
 | d :: ds,v :: vs,bs,h,r=>by
  cases d with
  | str b =>
   simp only [z3e] at h
   cases e:z3e ds with
   | none=>rw [e] at h; cases h
   | some bs' =>
    rw [e] at h
    simp only [Wv,W7] at h
    subst h
    have:=r.head
    cases this
    rw [z2R e r.tail]
    rfl
  | _=>simp [z3e] at h
theorem z4l:∀ ts:List Tx,Reps H O (ts.map fun z=>V.str (toS z)) (ts.map D.str)
 | []=>.nil
 | t :: ts=>.cons (.str t) (z4l ts)
def pAll:D→Option S
 | .lst ds=>(z3I ds).map fun bs=>.pure (.bl (bs.all (fun b=>b)))
 | _=>none
def pAny:D→Option S
 | .lst ds=>(z3I ds).map fun bs=>.pure (.bl (bs.any (fun b=>b)))
 | _=>none
def z4W:D→Option S
 | .lst ds=>match z3e ds with
  | some ts=>if ts.length < 64 then some (.own (.lst ((z4R ts).map D.str))) else none
  | none=>none
 | _=>none
theorem zdu:Q1 "all" = some (.builtin "all"):=by decide +kernel
theorem zdt:Q1 "any" = some (.builtin "any"):=by decide +kernel
theorem zaH (hc:X.calm=true) (hg:Gl X "all") (hm:X.mg "all" = none) (he:SB X c e fb) (hs:W5 [e] X.env=(false,eval e X.env) :: W5 [] X.env:=by rfl):SE X c (.Call (.Name "all" pp) [e] [] pos) (eC1 pAll fb) :=
 z4h (r:=fun v H Q=>∃ (a:Addr) (bs:List Bool),v = .ref a∧SqL X.K H a (bs.map V.bl)∧Q (.bl (bs.all (fun b=>b))) H) (zds hc) (fun v H Q ⟨a,bs,e,h⟩=>⟨a,bs,by rw [e],h⟩) (fun c σ δ H x d s Q k rx hp q=>by
  cases d with
  | lst ds =>
   simp only [pAll] at hp
   cases e:z3I ds with
   | none=>rw [e] at hp; cases hp
   | some bs =>
    rw [e] at hp
    simp only [Wv,W7] at hp
    subst hp
    obtain ⟨a,vs,ea,ha,ra⟩:=rx.lst
    have:=z2S e ra
    subst this
    exact ⟨a,bs,ea,.inl ha,q _ H (.refl k) (.bl _)⟩
  | _=>simp [pAll] at hp) hg hm zdu he (by decide) (by decide) hs
theorem zfI (hc:X.calm=true) (hg:Gl X "any") (hm:X.mg "any" = none) (he:SB X c e fb) (hs:W5 [e] X.env=(false,eval e X.env) :: W5 [] X.env:=by rfl):SE X c (.Call (.Name "any" pp) [e] [] pos) (eC1 pAny fb) :=
 z4h (r:=fun v H Q=>∃ (a:Addr) (bs:List Bool),v = .ref a∧SqL X.K H a (bs.map V.bl)∧Q (.bl (bs.any (fun b=>b))) H) (zdr hc) (fun v H Q ⟨a,bs,e,h⟩=>⟨a,bs,by rw [e],h⟩) (fun c σ δ H x d s Q k rx hp q=>by
  cases d with
  | lst ds =>
   simp only [pAny] at hp
   cases e:z3I ds with
   | none=>rw [e] at hp; cases hp
   | some bs =>
    rw [e] at hp
    simp only [Wv,W7] at hp
    subst hp
    obtain ⟨a,vs,ea,ha,ra⟩:=rx.lst
    have:=z2S e ra
    subst this
    exact ⟨a,bs,ea,.inl ha,q _ H (.refl k) (.bl _)⟩
  | _=>simp [pAny] at hp) hg hm zdt he (by decide) (by decide) hs
theorem zaC (hg:Gl X "sorted") (hm:X.mg "sorted" = none) (he:SB X c e fb) (hs:W5 [e] X.env=(false,eval e X.env) :: W5 [] X.env:=by rfl):SE X c (.Call (.Name "sorted" pp) [e] [] pos) (eC1 z4W fb) :=
 z4h (r:=fun v H Q=>∃ (a:Addr) (ts:List Tx),v = .ref a∧SqL X.K H a (ts.map fun z=>V.str (toS z))∧ts.length < 64∧∀ p,H p=none→Q (.ref p) (upd H p (.lst ((z4R ts).map fun z=>V.str (toS z))))) z8h (fun v H Q ⟨a,bs,e,h⟩=>⟨a,bs,by rw [e],h⟩) (fun c σ δ H x d s Q k rx hp q=>by
  cases d with
  | lst ds =>
   simp only [z4W] at hp
   cases e:z3e ds with
   | none=>rw [e] at hp; cases hp
   | some ts =>
    rw [e] at hp
    simp only at hp
    split at hp
    ·rename_i hz
     simp only [W7] at hp
     subst hp
     obtain ⟨a,vs,ea,ha,ra⟩:=rx.lst
     have:=z2R e ra
     subst this
     exact ⟨a,ts,ea,.inl ha,hz,fun p hp=>q _ _ (.alloc k hp _) (RepS.newL k (z4l _) hp)⟩
    ·cases hp
  | _=>simp [z4W] at hp) hg hm PyProof.Rows.boot_sorted he (by decide) (by decide) hs
def pMax:D→D→Option S
 | .int i,.int j=>some (.pure (.int (if j > i then j else i)))
 | _,_=>none
def eMax (f g:DE):DE:=fun δ=>(f δ).bind fun x δ1=>(g δ1).bind fun y δ2=>p2 pMax x.d y.d δ2
theorem zfG {a b:Expr} {f g:DE} (hc:X.calm=true) (hg:Gl X "max") (hm:X.mg "max" = none) (ha:SE X c a f) (hb:SE X c b g) (hs:W5 [a,b] X.env=(false,eval a X.env) :: W5 [b] X.env:=by rfl)
  (hs2:W5 [b] X.env=(false,eval b X.env) :: W5 [] X.env:=by rfl) (hpl:(WJ pos (W5 [b] X.env)).any (·.1)=false:=by rfl):SE X c (.Call (.Name "max" pp) [a,b] [] pos) (eMax f g) :=
 PE.weak (z4q (zc5 hc) hg hm PyProof.Rows.boot_max (z0V ha (z0V hb z23 hs2) hs) (by decide) (by decide) hs hpl) fun σ H Q ⟨δ,k,q⟩=>by
  unfold eMax at q
  rw [z01] at q
  refine ⟨δ,k,z00 q fun x δ1 q1 v H1 a1 r1=>⟨δ1,a1.ok,?_⟩⟩
  rw [z01] at q1
  refine z00 q1 fun y δ2 q2 u H2 a2 r2=>?_
  unfold p2 at q2
  have hx:RepB c σ δ2 H2 v x.d:=.inl (Rep.aft r1.rep a2)
  have hy:=r2.b
  generalize x.d=dx at q2 hx
  generalize y.d=dy at q2 hy
  cases dx <;> cases dy <;> first
   | exact q2.elim
   | skip
  rename_i i j
  exact ⟨i,j,by rw [hx.int,hy.int],q2 _ H2 (a1.trans a2) (.int _)⟩
def isTy (T:String):D→Option Bool
 | .non=>some (T == "NoneType")
 | .bl _=>some (T == "bool" || T == "int")
 | .int _=>some (T == "int")
 | .str _=>some (T == "str")
 | .tup _=>some (T == "tuple")
 | .lst _=>some (T == "list")
 | .dct _=>some (T == "dict")
 | .exc _ _=>none
 | .xd _=>none
structure TyK (K:W0) (T:String):Prop where
 non:Qj K (.type "NoneType") (.type T)=some (T == "NoneType")
 bl:Qj K (.type "bool") (.type T)=some (T == "bool" || T == "int")
 int:Qj K (.type "int") (.type T)=some (T == "int")
 str:Qj K (.type "str") (.type T)=some (T == "str")
 tup:Qj K (.type "tuple") (.type T)=some (T == "tuple")
 lst:Qj K (.type "list") (.type T)=some (T == "list")
 dct:Qj K (.type "dict") (.type T)=some (T == "dict")
def eIsi (T:String) (fb:BE):DE:=fun δ=>(fb δ).bind fun d δ'=>match isTy T d with
 | some b=>.ok (.pure (.bl b)) δ'
 | none=>.stuck
theorem zdb (ty:TyK X.K T) (I:Inv X pins σ H s) (ru:RelV v u) (r:Rep H NoO v d) (e:isTy T d=some b) (q:Q (.bl b) H) :
  W8 (model X.prog X.w) X.A (call (.builtin "isinstance") [u,.type T]) (EP X pins σ Q) X.xe s:=by
 have fin:∀ tk,EP X pins σ Q (.bool b) { s with toks:=tk }:=fun tk=>⟨.bl b,H,I.tok tk,rfl,q⟩
 cases r with
 | non=>exact z1V I ru .non (ty.non.trans e) fin
 | bl x=>exact z1V I ru (.bl x) (ty.bl.trans e) fin
 | int x=>exact z1V I ru (.int x) (ty.int.trans e) fin
 | str x=>exact z1V I ru (.str _) (ty.str.trans e) fin
 | tup _ h2 _ _=>exact z1V I ru (.tup h2) (ty.tup.trans e) fin
 | lst _ h2 _ _ =>
  rcases h2 with h2 | ⟨o,h2⟩
  ·exact z1V I ru (.lst h2) (ty.lst.trans e) fin
  ·exact z1V I ru (.frz h2) (ty.lst.trans e) fin
 | dct _ h2 _ _=>exact z1V I ru (.dK h2) (ty.dct.trans e) fin
 | exc _ _=>cases e
 | xd _ _=>cases e
theorem zdq (ty:TyK X.K T):CallR X (.builtin "isinstance") (fun xs H Q=>∃ v d b,xs=[v,.ty T]∧Rep H NoO v d∧isTy T d=some b∧Q (.bl b) H):=by
 intro pins s σ H xs us Q I r h
 obtain ⟨v,d,b,rfl,rp,e,q⟩:=h
 obtain ⟨u,w',rfl,r1,r2⟩:=zam r
 cases r2
 exact zdb ty I r1 rp e q
theorem z2d {y:Str} {py:Pos} (ty:TyK X.K T) (hg:Gl X "isinstance") (hm:X.mg "isinstance" = none) (hgy:Gl X y) (hmy:X.mg y=none) (hvy:Q1 y=some (.type T)) (he:SB X c e fb)
  (hny:y≠"__name__":=by decide) (hdy:(y == ("__debug__" : Str))=false:=by decide)
  (hs:W5 [e,.Name y py] X.env=(false,eval e X.env) :: W5 [.Name y py] X.env:=by rfl) (hpl:(WJ pos (W5 [.Name y py] X.env)).any (·.1)=false:=by rfl) :
  SE X c (.Call (.Name "isinstance" pp) [e,.Name y py] [] pos) (eIsi T fb) :=
 PE.weak (z4q (zdq ty) hg hm PyProof.Rows.boot_isinstance (z0V he (z0V (zbc (v:=.ty T) hgy hmy hvy rfl hny hdy) z23) hs) (by decide) (by decide) hs hpl) fun σ H Q ⟨δ,k,q⟩=>by
  unfold eIsi at q
  rw [z01] at q
  refine ⟨δ,k,z00 q fun d δ1 q1 v H1 a1 r1=>?_⟩
  cases e1:isTy T d with
  | none=>rw [e1] at q1; exact q1.elim
  | some b =>
   rw [e1] at q1
   exact ⟨v,d,b,rfl,r1.un,e1,q1 _ H1 a1 (.bl _)⟩
end
abbrev DOp:=Dl→Rs (Option Int)
def tOD (c:Fc) (f:DOp):TO:=fun σ H Q=>∃ δ,Ok c σ δ H∧post c (f δ) fun o δ'=>∀ H',Aft c σ δ H σ δ' H'→Q o H'
abbrev SO (X:Cx) (c:Fc) (e:Option Expr) (f:DOp):Prop:=PO X e (tOD c f)
theorem PO.weak (h:PO X e t) (w:∀ σ H Q,t' σ H Q→t σ H Q):PO X e t':=fun pins s σ H Q I q=>h pins s σ H Q I (w σ H Q q)
def z34:DOp:=fun δ=>.ok none δ
def z2n (f:DE):DOp:=fun δ=>(f δ).bind fun r δ'=>match r with
 | .pure (.int i)=>.ok (some i) δ'
 | _=>.stuck
section
variable {X:Cx} {c:Fc} {e:Expr} {f:DE} {fb:BE} {fl fh:DOp} {lo hi:Option Expr} {pos p2:Pos}
theorem z3h:SO X c none z34:=PO.weak zeH fun σ H Q ⟨δ,k,q⟩=>q H (.refl k)
theorem z2A (h:SE X c e f):SO X c (some e) (z2n f):=PO.weak (zeG h) fun σ H Q ⟨δ,k,q⟩=>by
 unfold z2n at q
 rw [z01] at q
 refine ⟨δ,k,z00 q fun r δ1 q1 v H1 a1 r1=>?_⟩
 cases r with
 | own d=>exact q1.elim
 | pure d =>
  cases d <;> first | exact q1.elim | skip
  rename_i i
  cases r1
  exact ⟨i,rfl,q1 H1 a1⟩
def pSl (lo hi:Option Int):D→Option S
 | .str x=>if x.length≤W6 then some (.pure (.str (cutL x lo hi))) else none
 | .tup ds=>some (.pure (.tup (cutL ds lo hi)))
 | .lst ds=>some (.own (.lst (cutL ds lo hi)))
 | _=>none
def rSlD (K:W0):V→Option Int→Option Int→Hp→VK→Prop:=fun x lo hi H Q=>rSlS x lo hi H Q∨zfU K x lo hi H Q∨rSlL K x lo hi H Q
theorem sl_D:SlR X (rSlD X.K):=sl_str.or (sl_tup2.or zep)
theorem zgw {K:W0} (lo hi:Option Int):Op1 (fun x H Q=>rSlD K x lo hi H Q) (pSl lo hi):=by
 intro c σ δ H x d s Q k rx hp q
 cases d with
 | str z =>
  simp only [pSl] at hp
  split at hp
  ·rename_i hz
   simp only [W7] at hp
   subst hp
   exact .inl ⟨z,rx.str,hz,q _ H (.refl k) (.str _)⟩
  ·cases hp
 | tup ds =>
  simp only [pSl,W7] at hp
  subst hp
  obtain ⟨a,vs,ea,ha,ra⟩:=rx.tup
  refine .inr (.inl ⟨a,vs,ea,.of ha,fun hw=>?_,fun _ p hp=>?_⟩)
  ·rw [ra.1] at hw
   rw [zbY hw] at q
   rw [ea] at rx
   rcases rx with rx | ⟨_,_,rx⟩
   ·exact q _ H (.refl k) rx
   ·exact rx.elim
  ·rw [← ze3]
   exact q _ _ (.alloc k hp _) (RepS.newT k (ra.cut lo hi) hp)
 | lst ds =>
  simp only [pSl,W7] at hp
  subst hp
  obtain ⟨a,vs,ea,ha,ra⟩:=rx.lst
  refine .inr (.inr ⟨a,vs,ea,.inl ha,fun p hp=>?_⟩)
  rw [← ze3]
  exact q _ _ (.alloc k hp _) (RepS.newL k (ra.cut lo hi) hp)
 | _=>simp [pSl] at hp
def eSl (f:DE) (fl fh:DOp):DE:=fun δ=>(f δ).bind fun x δ1=>(fl δ1).bind fun l δ2=>(fh δ2).bind fun h δ3=>p1 (pSl l h) x.d δ3
theorem zfD (he:SE X c e f) (hl:SO X c lo fl) (hh:SO X c hi fh):SE X c (.Subscript e (.Slice lo hi none p2) pos) (eSl f fl fh):=PE.weak (z94 sl_D he hl hh) fun σ H Q ⟨δ,k,q⟩=>by
 unfold eSl at q
 rw [z01] at q
 refine ⟨δ,k,z00 q fun x δ1 q1 v H1 a1 r1=>⟨δ1,a1.ok,?_⟩⟩
 rw [z01] at q1
 refine z00 q1 fun l δ2 q2 H2 a2=>⟨δ2,a2.ok,?_⟩
 rw [z01] at q2
 refine z00 q2 fun h δ3 q3 H3 a3=>?_
 exact z8w (zgw l h) a3.ok (.inl (Rep.aft r1.rep (a2.trans a3))) (z00 q3 fun s δ4 q4 w H4 a4 r4=>q4 w H4 (a1.trans (a2.trans (a3.trans a4))) (RepS.back r4 (a1.trans (a2.trans a3))))
def eSlN (i:Nat) (fl fh:DOp):DE:=fun δ=>match δ[i]? with
 | some (some _)=>(fl δ).bind fun l δ2=>(fh δ2).bind fun h δ3=>(bVar i δ3).bind fun x δ4=>p1 (pSl l h) x δ4
 | _=>.stuck
theorem zeo {i:Nat} {σ:St} {δ:Dl} {H:Hp} {v:V} {w:S} (k:Ok c σ δ H) (e:δ[i]? = some (some w)) (ev:σ[i]? = some (some v)):RepB c σ δ H v w.d:=by
 cases w with
 | pure d =>
  obtain ⟨v',e1,r⟩:=k.slot i d e
  rw [ev] at e1; cases e1
  exact .inl r
 | own d =>
  obtain ⟨a,e1,r,_⟩:=k.own i d e
  rw [ev] at e1; cases e1
  exact .inr ⟨a,rfl,r⟩
theorem zca (h:post c ((bVar i δ).bind g) kk):∃ w,δ[i]? = some (some w)∧post c (g w.d δ) kk:=by
 unfold bVar at h
 cases e:δ[i]? with
 | none=>rw [e] at h; exact h.elim
 | some o =>
  cases o with
  | none=>rw [e] at h; exact h.elim
  | some w=>rw [e] at h; exact ⟨w,rfl,h⟩
theorem z5F {i:Nat} (he:PE X e (tVar i)) (hl:SO X c lo fl) (hh:SO X c hi fh):SE X c (.Subscript e (.Slice lo hi none p2) pos) (eSlN i fl fh):=PE.weak (z94 sl_D he hl hh) fun σ H Q ⟨δ,k,q⟩=>by
 unfold eSlN at q
 cases e:δ[i]? with
 | none=>rw [e] at q; exact q.elim
 | some o =>
  cases o with
  | none=>rw [e] at q; exact q.elim
  | some w =>
   rw [e] at q
   obtain ⟨v,ev⟩:=z3C k e
   have q':post c ((fl δ).bind fun l δ2=>(fh δ2).bind fun h δ3=>(bVar i δ3).bind fun x δ4=>p1 (pSl l h) x δ4) fun r δ'=>∀ v H',Aft c σ δ H σ δ' H'→RepS c σ δ' H H' v r→Q v H':=q
   rw [z01] at q'
   refine ⟨v,ev,δ,k,z00 q' fun l δ2 q2 H2 a2=>⟨δ2,a2.ok,?_⟩⟩
   rw [z01] at q2
   refine z00 q2 fun h δ3 q3 H3 a3=>?_
   obtain ⟨w3,e3,q4⟩:=zca q3
   exact z8w (zgw l h) a3.ok (zeo a3.ok e3 ev) (z00 q4 fun s δ4 q4 w H4 a4 r4=>q4 w H4 (a2.trans (a3.trans a4)) (RepS.back r4 (a2.trans a3)))
def z64 (z:Tx):List Tx→Tx
 | []=>[]
 | [x]=>x
 | x :: y :: r=>x ++ z ++ z64 z (y :: r)
theorem z9k (z:Tx):∀ (r:List Tx) (acc:Tx),((r.map toS).foldl (fun (acc:Array Nat) p=>acc ++ (toS z).cps ++ p.cps) acc.toArray)=(match r with | []=>acc | x :: r'=>acc ++ z ++ z64 z (x :: r')).toArray
 | [],acc=>rfl
 | x :: r,acc=>by
  rw [Wz,QU]
  have e:acc.toArray ++ (toS z).cps ++ (toS x).cps=(acc ++ z ++ x).toArray:=by simp [toS]
  rw [e,z9k z r (acc ++ z ++ x)]
  cases r with
  | nil=>simp [z64]
  | cons y r'=>simp [z64]
theorem zf0 (z:Tx) (ts:List Tx):Txt.join (toS z) (ts.map toS)=toS (z64 z ts):=by
 show Builtin.Str.glued _ _=_
 unfold Builtin.Str.glued
 cases ts with
 | nil=>rfl
 | cons x r =>
  rw [Wz]
  show (⟨(List.foldl _ (toS x).cps (r.map toS))⟩:Str)=_
  have:=z9k z r x
  have e:(toS x).cps=x.toArray:=rfl
  rw [e,this]
  cases r with
  | nil=>rfl
  | cons y r'=>rfl
def z4z (ts:List Tx):Nat:=(ts.map (·.length)).sum
def z4X (z:Tx):D→Option S
 | .lst ds=>match z3e ds with
  | some ts=>if z4z ts + ts.length * z.length≤16777216 then some (.pure (.str (z64 z ts))) else none
  | none=>none
 | .tup ds=>match z3e ds with
  | some ts=>if z4z ts + ts.length * z.length≤16777216 then some (.pure (.str (z64 z ts))) else none
  | none=>none
 | _=>none
theorem zeV {K:W0} (z:Tx):Op1 (fun x H Q=>zcH K (.str (toS z)) [x] H Q) (z4X z):=by
 intro c σ δ H x d s Q k rx hp q
 have key:∀ (a:Addr) (vs:List V) (ds:List D),x = .ref a→(SqL K H a vs∨SqT K H a vs)→Reps H (Av c σ δ) vs ds→(match z3e ds with | some ts=>if z4z ts + ts.length * z.length≤16777216 then some (S.pure (.str (z64 z ts))) else none | none=>none)=some s→zcH K (.str (toS z)) [x] H Q:=by
  intro a vs ds ea ha ra hp
  cases e:z3e ds with
  | none=>rw [e] at hp; cases hp
  | some ts =>
   rw [e] at hp
   simp only at hp
   split at hp
   ·rename_i hz
    simp only [W7] at hp
    subst hp
    have:=z2R e ra
    subst this
    refine ⟨toS z,a,ts.map toS,rfl,by rw [ea],?_,?_,?_⟩
    ·rw [WL]; exact ha
    ·rw [WL,WC,z2z]
     have:((fun x:Str=>x.length) ∘ toS)=fun x:Tx=>x.length:=funext fun x=>z2z x
     rw [this]
     exact hz
    ·rw [zf0]
     exact q _ H (.refl k) (.str _)
   ·cases hp
 cases d with
 | lst ds =>
  obtain ⟨a,vs,ea,ha,ra⟩:=rx.lst
  exact key a vs ds ea (.inl (.inl ha)) ra hp
 | tup ds =>
  obtain ⟨a,vs,ea,ha,ra⟩:=rx.tup
  exact key a vs ds ea (.inr (.of ha)) ra hp
 | _=>simp [z4X] at hp
theorem z8p {x:Str} {j} {p0 apos cpos:Pos} (z:Tx) (he:SB X c e fb) (hx:x=toS z:=by decide +kernel)
  (hbase:Qa (.Constant (.str x) j p0) "join" X.env (eval (.Constant (.str x) j p0) X.env)=eval (.Constant (.str x) j p0) X.env:=by rfl)
  (hfew:((WJ cpos (W5 [e] X.env)).all (fun x=>!x.1) && (backToKw cpos (QX [] X.env)).all (fun x=>x.1.isSome)
   && decide ([e].length + ([]:List Keyword).length + (if ([]:List Keyword).isEmpty then 0 else 1) < 30))=true:=by rfl)
  (hline:(apos.endLine == cpos.line)=true:=by rfl) (hs:W5 [e] X.env=(false,eval e X.env) :: W5 [] X.env:=by rfl) :
  SE X c (.Call (.Attribute (.Constant (.str x) j p0) "join" apos) [e] [] cpos) (eC1 (z4X z) fb):=by
 subst hx
 refine PE.weak (zbb PySem.F.plainAttrs_str PySem.F.slot_str_join PySem.F.type_str_join zeX zdL (z0V he z23 hs) hbase hfew hline hs rfl) fun σ H Q h=>?_
 obtain ⟨δ,k,q⟩:=z4O (r:=fun x H Q=>zcH X.K (.str (toS z)) [x] H Q) (zeV z) h
 refine ⟨?_,δ,k,q⟩
 show ("str" : String) = "str"
 rfl
end
inductive Fl where
 | next | ret (r:S) | brk | cont
abbrev DS:=Dl→Rs Fl
def fin (c:Fc) (D:Ends) (σ:St) (δ:Dl) (H:Hp):Fl→Prop
 | .next=>D.nx σ H
 | .ret r=>∀ v,RepS c σ δ c.H₀ H v r→D.rt v H
 | .brk=>D.bk σ H
 | .cont=>D.ct σ H
def z1R (c:Fc) (D:Ends) (σ:St) (δ:Dl) (H:Hp) (r:Rs Fl):Prop:=post c r fun fl δ'=>∀ σ' H',Aft c σ δ H σ' δ' H'→fin c D σ' δ' H' fl
def tDS (c:Fc) (f:DS):TS:=fun D σ H=>∃ δ,Ok c σ δ H∧z1R c D σ δ H (f δ)
abbrev SS (X:Cx) (c:Fc) (st:Stmt) (f:DS):Prop:=PS X st (tDS c f)
abbrev SSs (X:Cx) (c:Fc) (st:List Stmt) (f:DS):Prop:=PSs X st (tDS c f)
theorem PS.weak {X:Cx} {st:Stmt} {t t':TS} (h:PS X st t) (w:∀ D σ H,t' D σ H→t D σ H):PS X st t':=fun pins s σ H D I q=>h pins s σ H D I (w D σ H q)
theorem PSs.weak {X:Cx} {st:List Stmt} {t t':TS} (h:PSs X st t) (w:∀ D σ H,t' D σ H→t D σ H):PSs X st t':=fun pins s σ H D I q=>h pins s σ H D I (w D σ H q)
def z0I:DS:=fun δ=>.ok .next δ
def dSeq (f g:DS):DS:=fun δ=>(f δ).bind fun fl δ1=>match fl with
 | .next=>g δ1
 | .ret r=>.ok (.ret r) δ1
 | .brk=>.ok .brk δ1
 | .cont=>.ok .cont δ1
def dDrop (f:DE):DS:=fun δ=>(f δ).bind fun _ δ1=>.ok .next δ1
def dRet (f:DE):DS:=fun δ=>(f δ).bind fun r δ1=>.ok (.ret r) δ1
def dIf (t:DT) (f g:DS):DS:=fun δ=>(t δ).bind fun b δ1=>if b then f δ1 else g δ1
def eRetN (np:List Nat) (i:Nat):DE:=fun δ=>match δ[i]? with
 | some (some (.own d))=>if np.contains i then .ok (.pure d) (δ.set i (some (.pure d))) else .ok (.own d) (δ.set i none)
 | some (some (.pure d))=>.ok (.pure d) δ
 | _=>.stuck
section
variable {X:Cx} {c:Fc} {st:Stmt} {sts:List Stmt} {e a:Expr} {f g:DS} {fe:DE} {t:DT} {pos pos':Pos}
theorem z0B:SSs X c [] z0I:=PSs.weak zeA fun D σ H ⟨δ,k,q⟩=>q σ H (.refl k)
theorem z03 (h1:SS X c st f) (h2:SSs X c sts g):SSs X c (st :: sts) (dSeq f g):=PSs.weak (zcJ h1 h2) fun D σ H ⟨δ,k,q⟩=>by
 unfold dSeq z1R at q
 rw [z01] at q
 refine ⟨δ,k,z00 q fun fl δ1 q1 σ1 H1 a1=>?_⟩
 cases fl with
 | next=>exact ⟨δ1,a1.ok,z00 q1 fun fl2 δ2 q2 σ2 H2 a2=>q2 σ2 H2 (a1.trans a2)⟩
 | ret r=>exact q1 σ1 H1 a1
 | brk=>exact q1 σ1 H1 a1
 | cont=>exact q1 σ1 H1 a1
theorem z0e (h1:SS X c st f):SSs X c [st] f:=PSs.weak (zb0 h1) fun D σ H h=>h
theorem z0k (he:SE X c e fe):SS X c (.Return (some e) pos) (dRet fe):=PS.weak (zdJ he) fun D σ H ⟨δ,k,q⟩=>by
 unfold dRet z1R at q
 rw [z01] at q
 exact ⟨δ,k,z00 q fun r δ1 q1 v H1 a1 r1=>q1 σ H1 a1 v r1.home⟩
theorem z18 {b1 b2:List Stmt} (ht:ST X c e t) (h1:SSs X c b1 f) (h2:SSs X c b2 g):SS X c (.If e b1 b2 pos) (dIf t f g):=PS.weak (ps_if ht h1 h2) fun D σ H ⟨δ,k,q⟩=>by
 unfold dIf z1R at q
 rw [z01] at q
 refine ⟨δ,k,z00 q fun b δ1 q1 H1 a1=>?_⟩
 cases b with
 | true=>exact ⟨δ1,a1.ok,z00 q1 fun fl δ2 q2 σ2 H2 a2=>q2 σ2 H2 (a1.trans a2)⟩
 | false=>exact ⟨δ1,a1.ok,z00 q1 fun fl δ2 q2 σ2 H2 a2=>q2 σ2 H2 (a1.trans a2)⟩
theorem Own.of_set (h:Own (σ.set i (some v)) (δ.set i (some r)) b):Own σ δ b∨(v = .ref b∧∃ d,r = .own d):=by
 obtain ⟨j,d,e1,e2⟩:=h
 by_cases hj:i=j
 ·subst hj
  right
  rw [Wx] at e1 e2
  simp at e1 e2
  obtain ⟨_,h1⟩:=e1
  obtain ⟨_,h2⟩:=e2
  exact ⟨h2,d,h1⟩
 ·rw [W3 hj] at e1 e2
  exact .inl ⟨j,d,e1,e2⟩
theorem Ok.set (x:Aft c σ₀ δ₀ H₁ σ δ H) (hr:RepS c σ δ H₁ H v r) (hp:∀ p ∈ c.pin,p.1≠i):Aft c σ₀ δ₀ H₁ (σ.set i (some v)) (δ.set i (some r)) H:=by
 have k:=x.ok
 -- all slots avoid the new address,too
 have all:∃ c':Fc,c'.H₀=c.H₀∧c'.pin=c.pin∧Ok c' σ δ H∧(∀ b,Av c (σ.set i (some v)) (δ.set i (some r)) b→Av c' σ δ b):=by
  cases r with
  | pure d =>
   refine ⟨c,rfl,rfl,k,fun b z=>?_⟩
   rcases z with z | z
   ·exact .inl z
   ·rcases z.of_set with z | ⟨_,d',e⟩
    ·exact .inr z
    ·cases e
  | own d =>
   obtain ⟨a,ea,o,n,f,k2,_⟩:=hr
   refine ⟨c.plus a,rfl,rfl,k2,fun b z=>?_⟩
   rcases z with z | z
   ·exact .inl (.inl z)
   ·rcases z.of_set with z | ⟨e,_⟩
    ·exact .inr z
    ·rw [ea] at e; cases e
     exact .inl (.inr rfl)
 obtain ⟨c',eH,eP,k2,sub⟩:=all
 have eI:∀ a,c'.I a ↔ c.I a:=fun a=>by unfold Fc.I; rw [eP]
 have hrep:Rep H (Av c (σ.set i (some v)) (δ.set i (some r))) v r.d∨∃ d,r = .own d:=by
  cases r with
  | pure d =>
   left
   refine Rep.anti hr fun b z=>?_
   rcases z with z | z
   ·exact .inl (.inl z)
   ·rcases z.of_set with z | ⟨_,d',e⟩
    ·exact .inl (.inr z)
    ·cases e
  | own d=>exact .inr ⟨d,rfl⟩
 refine ⟨⟨k.keep,k.bd,k.ith,by rw [Qe,Qe]; exact k.len,fun j d e=>?_,fun j d e=>?_,fun j l a d d' e1 e2 e3 e4=>?_,fun p hm=>?_⟩,x.keep,fun b z=>?_,x.there⟩
 ·by_cases hj:i=j
  ·subst hj
   rw [Wx] at e
   simp at e
   obtain ⟨hi,rfl⟩:=e
   have hi':i < σ.length:=by rw [← k.len]; exact hi
   rcases hrep with h | ⟨_,h⟩
   ·exact ⟨v,by rw [Wm hi'],h⟩
   ·cases h
  ·rw [W3 hj] at e
   obtain ⟨w,e1,q⟩:=k2.slot j d e
   exact ⟨w,by rw [W3 hj]; exact e1,q.anti fun b z=>.inl (sub b z)⟩
 ·by_cases hj:i=j
  ·subst hj
   rw [Wx] at e
   simp at e
   obtain ⟨hi,rfl⟩:=e
   have hi':i < σ.length:=by rw [← k.len]; exact hi
   obtain ⟨a,ea,o,n,f,k3,_⟩:=hr
   refine ⟨a,by rw [Wm hi',ea],o.anti fun b z=>.inl ?_,.inr f,n⟩
   rcases z with z | z
   ·exact .inl (.inl z)
   ·rcases z.of_set with z | ⟨e,_⟩
    ·exact .inr z
    ·rw [ea] at e; cases e
     exact .inl (.inr rfl)
  ·rw [W3 hj] at e
   obtain ⟨a,e1,q,q2,q3⟩:=k.own j d e
   obtain ⟨a',e1',q',_,_⟩:=k2.own j d e
   rw [e1] at e1'; cases e1'
   exact ⟨a,by rw [W3 hj]; exact e1,q'.anti fun b z=>.inl (sub b z),q2,q3⟩
 ·by_cases hj:i=j
  ·subst hj
   by_cases hl:i=l
   ·exact hl
   ·rw [W3 hl] at e2 e4
    rw [Wx] at e1 e3
    simp at e1 e3
    obtain ⟨_,rfl⟩:=e1
    obtain ⟨_,rfl⟩:=e3
    obtain ⟨a',ea,o,n,f,k3,_⟩:=hr
    cases ea
    exact absurd ⟨l,d',e2,e4⟩ (z4o k3)
  ·rw [W3 hj] at e1 e3
   by_cases hl:i=l
   ·subst hl
    rw [Wx] at e2 e4
    simp at e2 e4
    obtain ⟨_,rfl⟩:=e2
    obtain ⟨_,rfl⟩:=e4
    obtain ⟨a',ea,o,n,f,k3,_⟩:=hr
    cases ea
    exact absurd ⟨j,d,e1,e3⟩ (z4o k3)
   ·rw [W3 hl] at e2 e4
    exact k.inj j l a d d' e1 e2 e3 e4
 ·rw [W3 (Ne.symm (hp p hm))]
  exact k.pinned p hm
 ·rcases z.of_set with z | ⟨e,d,ed⟩
  ·exact x.own b z
  ·subst ed
   obtain ⟨a,ea,_,_,_,_,hs⟩:=hr
   rw [ea] at e; cases e
   exact .inr hs
abbrev DG:=S→Dl→Option Dl
def tGD (c:Fc) (g:DG):TG:=fun v σ H Q=>∃ σ₀ δ₀ H₁ δ r δ',Aft c σ₀ δ₀ H₁ σ δ H∧RepS c σ δ H₁ H v r∧g r δ=some δ'∧∀ σ',Aft c σ₀ δ₀ H₁ σ' δ' H→Q σ' H
abbrev SG (X:Cx) (c:Fc) (tg:Expr) (g:DG):Prop:=PG X tg (tGD c g)
def gNm (np:List Nat) (i:Nat):DG:=fun r δ=>if np.contains i then none else some (δ.set i (some r))
def Np (c:Fc) (np:List Nat):Prop:=∀ p ∈ c.pin,np.contains p.1=true
theorem z9j (hp:Np c np) (h:tGD c (gNm np i) v σ H Q):zf6 i v σ H Q:=by
 obtain ⟨σ₀,δ₀,H₁,δ,r,δ',x,rr,e,q⟩:=h
 unfold gNm at e
 split at e
 ·cases e
 ·rename_i hn
  cases e
  exact q _ (Ok.set x rr fun p hm e=>hn (by rw [← e]; exact hp p hm))
theorem PG.weak {tg:Expr} {t t':TG} (h:PG X tg t) (w:∀ v σ H Q,t' v σ H Q→t v σ H Q):PG X tg t':=fun pins s σ H v u Q I r q=>h pins s σ H v u Q I r (w v σ H Q q)
theorem PGs.weak {tg:List Expr} {t t':TGs} (h:PGs X tg t) (w:∀ v σ H Q,t' v σ H Q→t v σ H Q):PGs X tg t':=fun pins s σ H v u Q I r q=>h pins s σ H v u Q I r (w v σ H Q q)
theorem z0F {np:List Nat} {i:Nat} {x:Str} (hp:Np c np) (hN:X.N.Nodup) (hi:X.N[i]? = some x) (hx:Loc X.env.scope x) (hf:X.fn x=true∨X.env.scope.names.lookup x=some .local):SG X c (.Name x pos) (gNm np i) :=
 PG.weak (zb8 hN hi hx hf) fun v σ H Q h=>z9j hp h
abbrev DGs:=List D→Dl→Option Dl
def tGDs (c:Fc) (g:DGs):TGs:=fun vs σ H Q=>∃ δ ds δ',Ok c σ δ H∧Reps H (Av c σ δ) vs ds∧g ds δ=some δ'∧∀ σ',Aft c σ δ H σ' δ' H→Q σ' H
abbrev SGs (X:Cx) (c:Fc) (tg:List Expr) (g:DGs):Prop:=PGs X tg (tGDs c g)
def z1d:DGs:=fun ds δ=>match ds with
 | []=>some δ
 | _=>none
def z0j (g:DG) (gs:DGs):DGs:=fun ds δ=>match ds with
 | []=>none
 | d :: r=>(g (.pure d) δ).bind fun δ1=>gs r δ1
theorem z3i:SGs X c [] z1d:=PGs.weak zeK fun vs σ H Q ⟨δ,ds,δ',k,r,e,q⟩=>by
 cases ds with
 | nil =>
  cases e
  have:vs=[]:=by have:=r.1; simpa using this
  exact ⟨this,q σ (.refl k)⟩
 | cons d r=>cases e
theorem z0X {es:List Expr} {g:DG} {gs:DGs} (h1:SG X c e g) (h2:SGs X c es gs) (hs:(Qn (e :: es) X.env).map (·.2)=assign e X.env :: (Qn es X.env).map (·.2):=by rfl):SGs X c (e :: es) (z0j g gs) :=
 PGs.weak (zcM h1 h2 hs) fun vs σ H Q ⟨δ,ds,δ',k,r,e,q⟩=>by
  cases ds with
  | nil=>cases e
  | cons d ds =>
   cases vs with
   | nil=>have:=r.1; simp at this
   | cons v vs =>
    simp only [z0j] at e
    cases e1:g (.pure d) δ with
    | none=>rw [e1] at e; cases e
    | some δ1 =>
     rw [e1] at e
     refine ⟨v,vs,rfl,σ,δ,H,δ,.pure d,δ1,.refl k,r.head,e1,fun σ1 a1=>?_⟩
     exact ⟨δ1,ds,δ',a1.ok,Reps.aft r.tail a1,e,fun σ2 a2=>q σ2 (a1.trans a2)⟩
def gTp (n:Nat) (gs:DGs):DG:=fun r δ=>match r.d with
 | .tup ds=>if ds.length=n then gs ds δ else none
 | _=>none
theorem z5d {es:List Expr} {k:Nat} {gs:DGs} {n:Nat} (hc:X.calm=true) (h:SGs X c es gs) (hn:(Qn es X.env).length=n:=by rfl) (hst:(Qn es X.env).findIdx? (·.1)=none:=by rfl) :
  SG X c (.Tuple es k pos) (gTp n gs):=PG.weak (zg9 hc h hn hst) fun v σ H Q hw=>by
 obtain ⟨σ₀,δ₀,H₁,δ,r,δ',x,rr,e,q⟩:=hw
 have hb:=rr.b
 unfold gTp at e
 generalize r.d=d at e hb
 cases d <;> first | (cases e; done) | skip
 rename_i ds
 simp only at e
 split at e
 ·rename_i hl
  obtain ⟨a,vs,ea,ha,ra⟩:=hb.tup
  exact ⟨a,vs,ea,.of ha,by rw [ra.1]; exact hl,δ,ds,δ',x.ok,ra,e,fun σ' a1=>q σ' (x.trans a1)⟩
 ·cases e
def dAsg (f:DE) (g:DG):DS:=fun δ=>(f δ).bind fun r δ1=>match g r δ1 with
 | some δ2=>.ok .next δ2
 | none=>.stuck
theorem z9w {g:DG} {D:Ends} {σ:St} {H:Hp} {te:TE} {tg:TG} (he:∀ σ H Q,tD c fe σ H Q→te σ H Q) (hg:∀ v σ H Q,tGD c g v σ H Q→tg v σ H Q) (h:tDS c (dAsg fe g) D σ H):tAsg te tg D σ H:=by
 obtain ⟨δ,k,q⟩:=h
 unfold dAsg z1R at q
 rw [z01] at q
 refine he _ _ _ ⟨δ,k,z00 q fun r δ1 q1 v H1 a1 r1=>hg _ _ _ _ ?_⟩
 cases e:g r δ1 with
 | none=>rw [e] at q1; exact q1.elim
 | some δ2 =>
  rw [e] at q1
  exact ⟨σ,δ,H,δ1,r,δ2,a1,r1,e,fun σ' a2=>q1 σ' H1 a2⟩
theorem z7q {tg:Expr} {g:DG} (he:SE X c e fe) (hg:SG X c tg g) (hs:swapsWithSole [tg] e pos.line X.env=pure false:=by rfl) (hw:swappedStores [tg] e X.env=pure none:=by rfl)
  (h1:(Qn [tg] X.env).map (·.2)=[assign tg X.env]:=by rfl):SS X c (.Assign [tg] e pos) (dAsg fe g):=PS.weak (zdK he hg hs hw h1) fun D σ H h=>z9w (fun _ _ _ h=>h) (fun _ _ _ _ h=>h) h
theorem z0E {np:List Nat} {i:Nat} {x:Str} (hp:Np c np) (hN:X.N.Nodup) (hi:X.N[i]? = some x) (hx:Loc X.env.scope x) (he:SE X c e fe) (hs:swapsWith e (some (.Name x pos')) pos.line X.env=pure false) (hf:X.fn x=true∨X.env.scope.names.lookup x=some .local) :
  SS X c (.Assign [.Name x pos'] e pos) (dAsg fe (gNm np i)):=PS.weak (zg7 hN hi hx he hs hf) fun D σ H h=>z9w (fun _ _ _ h=>h) (fun _ _ _ _ h=>z9j hp h) h
theorem Ok.mutL {σ:St} {δ:Dl} {H:Hp} {i:Nat} {ds ds':List D} {a:Addr} {vs':List V} (k:Ok c σ δ H) (e:δ[i]? = some (some (.own (.lst ds)))) (ea:σ[i]? = some (some (.ref a))) (r:Reps H (Av c σ δ) vs' ds') :
  Aft c σ δ H σ (δ.set i (some (.own (.lst ds')))) (upd H a (.lst vs')):=by
 have hi:i < δ.length:=(Wa.mp e).1
 obtain ⟨a',ea',oa,ia,nb⟩:=k.own i _ e
 rw [ea] at ea'; cases ea'
 obtain ⟨vs,ha,_⟩:=oa
 have ownA:Own σ δ a:=⟨i,_,e,ea⟩
 have avA:Av c σ δ a:=.inr ownA
 have own_iff:∀ b,Own σ (δ.set i (some (.own (.lst ds')))) b ↔ Own σ δ b:=fun b=>by
  constructor
  ·rintro ⟨j,d,e1,e2⟩
   by_cases hj:i=j
   ·subst hj
    exact ⟨i,_,e,e2⟩
   ·rw [W3 hj] at e1
    exact ⟨j,d,e1,e2⟩
  ·rintro ⟨j,d,e1,e2⟩
   by_cases hj:i=j
   ·subst hj
    exact ⟨i,_,by rw [Wm hi],e2⟩
   ·exact ⟨j,d,by rw [W3 hj]; exact e1,e2⟩
 have av_iff:∀ b,Av c σ (δ.set i (some (.own (.lst ds')))) b→Av c σ δ b:=fun b z=>z.elim .inl fun z=>.inr ((own_iff b).mp z)
 have ne:∀ b,¬ Av c σ δ b→b≠a:=fun b n z=>n (by rw [z]; exact avA)
 have kp:∀ b o,H b=some o→¬ Av c σ δ b→upd H a (.lst vs') b=some o:=fun b o h n=>by rw [z0l (ne b n)]; exact h
 have hup:∀ b o,H b=some o→∃ o',upd H a (.lst vs') b=some o':=fun b o h=>by
  by_cases hb:b=a
  ·exact ⟨_,by rw [hb]; exact z0t⟩
  ·exact ⟨o,by rw [z0l hb]; exact h⟩
 refine ⟨⟨fun b o h n=>?_,fun b z=>?_,fun b z=>?_,by rw [Qe]; exact k.len,fun j d h=>?_,fun j d h=>?_,fun j l b d d' h1 h2 h3 h4=>?_,k.pinned⟩,fun b o h n=>?_,fun b z=>.inl ((own_iff b).mp z),hup⟩
 ·have hb:b≠a:=fun z=>by
   subst z
   rcases ia with z | z
   ·exact n z
   ·rw [z] at h; cases h
  rw [z0l hb]
  exact k.keep b o h n
 ·obtain ⟨o,h⟩:=k.bd b z
  exact hup b o h
 ·obtain ⟨o,h⟩:=k.ith b z
  exact hup b o h
 ·have hj:i≠j:=fun z=>by subst z; rw [Wm hi] at h; cases h
  rw [W3 hj] at h
  obtain ⟨v,h1,h2⟩:=k.slot j d h
  exact ⟨v,h1,(h2.keep kp).anti fun b z=>.inl (av_iff b z)⟩
 ·by_cases hj:i=j
  ·subst hj
   rw [Wm hi] at h
   cases h
   exact ⟨a,ea,⟨vs',z0t,Reps.anti (Reps.keep r kp) fun b z=>.inl (av_iff b z)⟩,ia,nb⟩
  ·rw [W3 hj] at h
   obtain ⟨b,h1,h2,h3,h4⟩:=k.own j d h
   have hb:b≠a:=fun z=>by subst z; exact hj (k.inj i j b _ d e h ea h1)
   exact ⟨b,h1,(h2.keep kp fun o q=>by rw [z0l hb]; exact q).anti fun b z=>.inl (av_iff b z),h3,h4⟩
 ·have f1:∃ d,δ[j]? = some (some (.own d)):=by
   by_cases hj:i=j
   ·subst hj; exact ⟨_,e⟩
   ·rw [W3 hj] at h1; exact ⟨d,h1⟩
  have f2:∃ d,δ[l]? = some (some (.own d)):=by
   by_cases hj:i=l
   ·subst hj; exact ⟨_,e⟩
   ·rw [W3 hj] at h2; exact ⟨d',h2⟩
  obtain ⟨_,f1⟩:=f1
  obtain ⟨_,f2⟩:=f2
  exact k.inj j l b _ _ f1 f2 h3 h4
 ·have hb:b≠a:=fun z=>n (by rw [z]; exact ownA)
  rw [z0l hb]; exact h
def z2u (δ:Dl) (i:Nat):Bool:=match δ[i]? with
 | some (some (.own (.lst _)))=>true
 | _=>false
def putL (δ:Dl) (i:Nat) (f:List D→Option (List D)):Rs Fl:=match δ[i]? with
 | some (some (.own (.lst ds)))=>match f ds with
  | some ds'=>.ok .next (δ.set i (some (.own (.lst ds'))))
  | none=>.stuck
 | _=>.stuck
theorem z4E (h:z2u δ i=true):∃ ds,δ[i]? = some (some (.own (.lst ds))):=by
 unfold z2u at h
 split at h
 ·rename_i ds e; exact ⟨ds,e⟩
 ·cases h
theorem z7G {δ:Dl} {i:Nat} {g:List D→Option (List D)} {kk:Fl→Dl→Prop} (h:post c (putL δ i g) kk):∃ ds ds',δ[i]? = some (some (.own (.lst ds)))∧g ds=some ds'∧kk .next (δ.set i (some (.own (.lst ds')))):=by
 unfold putL at h
 split at h
 ·rename_i ds e
  split at h
  ·rename_i ds' e2
   exact ⟨ds,ds',e,e2,h⟩
  ·exact h.elim
 ·exact h.elim
def z0W (i:Nat) (f:DE):DS:=fun δ=>if z2u δ i then (f δ).bind fun r δ1=>putL δ1 i fun ds=>if ds.length < W6 then some (ds ++ [r.d]) else none else .stuck
theorem zaw {i:Nat} {o:Expr} {p0 apos cpos:Pos} (ho:PE X o (tVar i)) (he:SE X c e fe)
  (h:PS X (.Expr (.Call (.Attribute o "append" apos) [e] [] cpos) pos) (zfw (tBM X.K "list" zaY (tVar i) (zfy (tD c fe) tNil)))):SS X c (.Expr (.Call (.Attribute o "append" apos) [e] [] cpos) pos) (z0W i fe) :=
 PS.weak h fun D σ H ⟨δ,k,q⟩=>by
  unfold z0W z1R at q
  split at q
  ·rename_i hown
   obtain ⟨ds0,e0⟩:=z4E hown
   rw [z01] at q
   obtain ⟨a,ea,oa,_⟩:=k.own i _ e0
   refine ⟨.ref a,ea,?_,δ,k,z00 q fun r δ1 q1 v H1 a1 r1=>?_⟩
   ·obtain ⟨vs,ha,_⟩:=oa
    exact .inl ⟨rfl,vs,.of ha⟩
   ·obtain ⟨ds,ds',e1,e2,q2⟩:=z7G q1
    split at e2
    ·rename_i hz
     cases e2
     obtain ⟨a',ea',oa1,_⟩:=a1.ok.own i _ e1
     rw [ea] at ea'; cases ea'
     obtain ⟨vs,ha,ra⟩:=id oa1
     refine ⟨a,vs,v,rfl,rfl,ha,by rw [ra.1]; exact hz,?_⟩
     exact q2 σ _ (a1.trans (Ok.mutL a1.ok e1 ea (ra.append (.cons r1.rep .nil))))
    ·cases e2
  ·exact q.elim
def za6 (i:Nat) (fi:DE) (fe:DE):DS:=fun δ=>if z2u δ i then (fe δ).bind fun r δ1=>(fi δ1).bind fun k δ2=>match k with
 | .pure (.int j)=>putL δ2 i fun ds=>(ixN ds.length j).map fun n=>ds.set n r.d
 | _=>.stuck else .stuck
theorem zau {i:Nat} {o ix:Expr} {fi:DE} {sp:Pos} (ho:PE X o (tVar i)) (hi:SE X c ix fi) (he:SE X c e fe)
  (ha:∀ v,assign (.Subscript o ix sp) X.env v=(do
   let ov ← holding [v] (eval o X.env)
   let iv ← holding [v,ov] (eval ix X.env)
   standAt sp
   holding [v,ov,iv] (setItem ov iv v)
   release [v,ov,iv] []):=by intro _; rfl)
  (hs:swapsWithSole [.Subscript o ix sp] e pos.line X.env=pure false:=by rfl) (hw:swappedStores [.Subscript o ix sp] e X.env=pure none:=by rfl)
  (h1:(Qn [.Subscript o ix sp] X.env).map (·.2)=[assign (.Subscript o ix sp) X.env]:=by rfl):SS X c (.Assign [.Subscript o ix sp] e pos) (za6 i fi fe) :=
 PS.weak (zdK he (zga ho hi zcv ha) hs hw h1) fun D σ H ⟨δ,k,q⟩=>by
  unfold za6 z1R at q
  split at q
  ·rename_i hown
   obtain ⟨ds0,e0⟩:=z4E hown
   rw [z01] at q
   obtain ⟨a,ea,_,_⟩:=k.own i _ e0
   refine ⟨δ,k,z00 q fun r δ1 q1 v H1 a1 r1=>⟨.ref a,ea,δ1,a1.ok,?_⟩⟩
   rw [z01] at q1
   refine z00 q1 fun kx δ2 q2 u H2 a2 r2=>?_
   cases kx with
   | own d=>exact q2.elim
   | pure d =>
    cases d <;> first | exact q2.elim | skip
    rename_i j
    cases r2
    obtain ⟨ds,ds',e1,e2,q3⟩:=z7G q2
    cases e3:ixN ds.length j with
    | none=>rw [e3] at e2; cases e2
    | some n =>
     rw [e3] at e2
     cases e2
     obtain ⟨a',ea',oa1,_⟩:=a2.ok.own i _ e1
     rw [ea] at ea'; cases ea'
     obtain ⟨vs,ha,ra⟩:=id oa1
     refine ⟨a,vs,j,n,rfl,rfl,ha,by rw [ra.1]; exact e3,?_⟩
     exact q3 σ _ (a1.trans (a2.trans (Ok.mutL a2.ok e1 ea (ra.set (Rep.aft r1.rep a2) n))))
  ·exact q.elim
end
abbrev DI:=Dl→Rs (List D)
def ItOk (c:Fc) (σ:St) (δ:Dl) (H:Hp) (J:It) (ds:List D):Prop:=∀ H2,(∀ a o,H a=some o→¬ Own σ δ a→H2 a=some o)→J.stop ds.length H2 ∧
 ∀ (i:Nat) d,ds[i]? = some d→J.go i H2∧∀ x H3,J.yld i H2 x H3→(H3=H2∧Rep H (Av c σ δ) x d) ∨
  ∃ p vs es,H2 p=none∧H3=upd H2 p (.tup vs)∧x = .ref p∧d = .tup es∧Reps H (Av c σ δ) vs es
def tI (c:Fc) (f:DI):TI:=fun σ H R=>∃ δ,Ok c σ δ H∧post c (f δ) fun ds δ'=>∀ J H',Aft c σ δ H σ δ' H'→ItOk c σ δ' H' J ds→R J H'
abbrev SI (X:Cx) (c:Fc) (tg iter:Expr) (f:DI):Prop:=PI X tg iter (tI c f)
theorem PI.weak (h:PI X tg iter t) (w:∀ σ H R,t' σ H R→t σ H R):PI X tg iter t':=fun pins s σ H R I q=>h pins s σ H R I (w σ H R q)
section
variable {X:Cx} {c:Fc} {tg e:Expr} {fe:DE} {pos pp:Pos}
theorem zgJ (K:W0) (h:H a=some (.tup vs)) (n:¬ Own σ δ a) (r:Reps H (Av c σ δ) vs ds):ItOk c σ δ H (Itt K a) ds:=by
 intro H2 kp
 have h2:=kp a _ h n
 refine ⟨⟨vs,.of h2,by rw [r.1]; exact W9 _⟩,fun i d e=>?_⟩
 obtain ⟨v,ev,rv⟩:=r.get e
 refine ⟨⟨vs,v,.of h2,ev⟩,fun x H3 ⟨e3,y⟩=>.inl ⟨e3,?_⟩⟩
 have:=y vs (.of h2)
 rw [ev] at this
 cases this
 exact rv
def z0v (lo:Int) (n:Nat):List D:=(WM n).map fun k:Nat=>D.int (lo + k)
theorem z6D {lo:Int} {n i:Nat} {d:D} (h:(z0v lo n)[i]? = some d):i < n∧d = .int (lo + i):=by
 unfold z0v at h
 rw [Qb] at h
 by_cases hi:i < n
 ·rw [List.getElem?_range hi] at h
  simp at h
  exact ⟨hi,h.symm⟩
 ·rw [WK (by simpa using hi)] at h
  cases h
theorem z9d (lo:Int) (n:Nat):ItOk c σ δ H (Itr lo n) (z0v lo n):=by
 intro H2 kp
 refine ⟨by show n≤(z0v lo n).length; simp [z0v],fun i d e=>?_⟩
 obtain ⟨hi,rfl⟩:=z6D e
 exact ⟨hi,fun x H3 ⟨e3,ex⟩=>.inl ⟨e3,by rw [ex]; exact .int _⟩⟩
def z3b (j:Int):Bool:=decide (-(2 ^ 62)≤j) && decide (j < 2 ^ 62)
def z1o (f:DE):DI:=fun δ=>(f δ).bind fun r δ1=>match r with
 | .pure (.int j)=>if z3b j then .ok (z0v 0 j.toNat) δ1 else .stuck
 | _=>.stuck
theorem z2c (hg:Gl X "range") (hm:X.mg "range" = none) (he:SE X c e fe) (hs:W5 [e] X.env=[(false,eval e X.env)]:=by rfl):SI X c tg (.Call (.Name "range" pp) [e] [] pos) (z1o fe) :=
 PI.weak (zb7 hg hm (z0V he z23 hs) hs) fun σ H R ⟨δ,k,q⟩=>by
  unfold z1o at q
  rw [z01] at q
  refine ⟨δ,k,z00 q fun r δ1 q1 v H1 a1 r1=>?_⟩
  cases r with
  | own d=>exact q1.elim
  | pure d =>
   cases d <;> first | exact q1.elim | skip
   rename_i j
   cases r1
   simp only at q1
   split at q1
   ·rename_i hj
    unfold z3b at hj
    simp only [Wf,decide_eq_true_eq] at hj
    exact ⟨j,rfl,hj.1,hj.2,q1 _ H1 a1 (z9d 0 j.toNat)⟩
   ·exact q1.elim
def z43 (f g:DE):DI:=fun δ=>(f δ).bind fun r δ1=>(g δ1).bind fun s δ2=>match r,s with
 | .pure (.int i),.pure (.int j)=>if z3b i && z3b j then .ok (z0v i (j - i).toNat) δ2 else .stuck
 | _,_=>.stuck
theorem zaz (hg:Gl X "range") (hm:X.mg "range" = none) (he:SE X c e fe) (he2:SE X c e2 fe2) (hs:W5 [e,e2] X.env=[(false,eval e X.env),(false,eval e2 X.env)]:=by rfl) (hs2:W5 [e2] X.env=[(false,eval e2 X.env)]:=by rfl)
  (hs3:W5 [e,e2] X.env=(false,eval e X.env) :: W5 [e2] X.env:=by rfl):SI X c tg (.Call (.Name "range" pp) [e,e2] [] pos) (z43 fe fe2) :=
 PI.weak (zb6 hg hm (z0V he (z0V he2 z23 hs2) hs3) hs hs2) fun σ H R ⟨δ,k,q⟩=>by
  unfold z43 at q
  rw [z01] at q
  refine ⟨δ,k,z00 q fun r δ1 q1 v H1 a1 r1=>⟨δ1,a1.ok,?_⟩⟩
  rw [z01] at q1
  refine z00 q1 fun r2 δ2 q2 v2 H2 a2 r2'=>?_
  cases r with
  | own d=>exact q2.elim
  | pure d =>
   cases d <;> first | exact q2.elim | skip
   rename_i i
   cases r1
   cases r2 with
   | own d=>exact q2.elim
   | pure d =>
    cases d <;> first | exact q2.elim | skip
    rename_i j
    cases r2'
    simp only at q2
    split at q2
    ·rename_i hj
     unfold z3b at hj
     simp only [Wf,decide_eq_true_eq] at hj
     exact ⟨i,j,rfl,⟨hj.1.1,hj.1.2,hj.2.1,hj.2.2⟩,q2 _ H2 (a1.trans a2) (z9d i (j - i).toNat)⟩
    ·exact q2.elim
def forL (g:DG) (b:DS):List D→DS
 | [],δ=>.ok .next δ
 | d :: r,δ=>match g (.pure d) δ with
  | none=>.stuck
  | some δ1=>(b δ1).bind fun fl δ2=>match fl with
   | .next=>forL g b r δ2
   | .cont=>forL g b r δ2
   | .brk=>.ok .next δ2
   | .ret v=>.ok (.ret v) δ2
def dFor (it:DI) (g:DG) (b:DS):DS:=fun δ=>(it δ).bind fun ds δ1=>forL g b ds δ1
theorem z6P (io:ItOk c σ δ H J ds) (a:Aft c σ δ H σ2 δ2 H2) (e:ds[i]? = some d) (y:J.yld i H2 x H3):Aft c σ2 δ2 H2 σ2 δ2 H3∧Rep H3 (Av c σ2 δ2) x d:=by
 obtain ⟨_,t⟩:=io H2 a.keep
 rcases (t i d e).2 x H3 y with ⟨e3,r⟩ | ⟨p,vs,es,hp,e3,ex,ed,r⟩
 ·subst e3
  exact ⟨.refl a.ok,Rep.aft r a⟩
 ·subst e3 ex ed
  have:=RepS.newT a.ok (Reps.aft r a) hp
  exact ⟨.alloc a.ok hp _,this⟩
theorem z3a {iter:Expr} {body:List Stmt} {it:DI} {g:DG} {b:DS} (hp:PassesOwn (model X.prog X.w) X.A X.env X.xe) (hc:X.calm=true) (hi:SI X c tg iter it) (hg:SG X c tg g) (hb:SSs X c body b)
  (hs:∀ x,QC iter X.env x=pure x:=by intro _; rfl):SS X c (.For tg iter body [] pos) (dFor it g b):=PS.weak (zg8 hp hc hi hg hb hs) fun D σ H ⟨δ,k,q⟩=>by
 unfold dFor z1R at q
 rw [z01] at q
 refine ⟨δ,k,z00 q fun ds δ1 q1 J H1 a1 io=>?_⟩
 refine ⟨fun i m σ2 H2=>∃ δ2,m=ds.length - i∧i≤ds.length∧Aft c σ δ1 H1 σ2 δ2 H2∧z1R c D σ2 δ2 H2 (forL g b (ds.drop i) δ2),⟨ds.length,δ1,by simp,WY _,.refl a1.ok,?_⟩,?_⟩
 ·rw [List.drop_zero]
  exact z00 q1 fun fl δ2 q2 σ2 H2 a2=>q2 σ2 H2 (a1.trans a2)
 ·rintro i m σ2 H2 ⟨δ2,rfl,hil,a2,p2⟩
  by_cases hlt:i < ds.length
  ·right
   have e:ds[i]? = some ds[i]:=by simp [hlt]
   rw [List.drop_eq_getElem_cons hlt] at p2
   refine ⟨((io H2 a2.keep).2 i _ e).1,fun σ4 H4=>∃ δ4,Aft c σ δ1 H1 σ4 δ4 H4∧z1R c D σ4 δ4 H4 (forL g b (ds.drop (i + 1)) δ4),fun σ4 H4 ⟨δ4,a4,p4⟩=>⟨ds.length - (i + 1),by omega,δ4,rfl,hlt,a4,p4⟩,fun x H3 y=>?_⟩
   obtain ⟨a3,r3⟩:=z6P io a2 e y
   simp only [forL,z1R] at p2
   cases eg:g (.pure ds[i]) δ2 with
   | none=>rw [eg] at p2; exact p2.elim
   | some δ3 =>
    rw [eg] at p2
    refine ⟨σ2,δ2,H3,δ2,.pure ds[i],δ3,.refl a3.ok,r3,eg,fun σ3 a3'=>?_⟩
    have p3:post c ((b δ3).bind fun fl δ2=>match fl with
     | .next=>forL g b (ds.drop (i + 1)) δ2
     | .cont=>forL g b (ds.drop (i + 1)) δ2
     | .brk=>.ok .next δ2
     | .ret v=>.ok (.ret v) δ2) fun fl δ'=>∀ σ' H',Aft c σ2 δ2 H2 σ' δ' H'→fin c D σ' δ' H' fl:=p2
    rw [z01] at p3
    have a23:Aft c σ2 δ2 H2 σ3 δ3 H3:=a3.trans a3'
    refine ⟨δ3,a3'.ok,z00 p3 fun fl δ4 p4 σ4 H4 a4=>?_⟩
    have a24:=a23.trans a4
    cases fl with
    | next=>exact ⟨δ4,a2.trans a24,z00 p4 fun fl δ5 p5 σ5 H5 a5=>p5 σ5 H5 (a24.trans a5)⟩
    | cont=>exact ⟨δ4,a2.trans a24,z00 p4 fun fl δ5 p5 σ5 H5 a5=>p5 σ5 H5 (a24.trans a5)⟩
    | brk=>exact p4 σ4 H4 a24
    | ret r=>exact p4 σ4 H4 a24
  ·left
   have hi2:i=ds.length:=by omega
   subst hi2
   rw [List.drop_length] at p2
   exact ⟨(io H2 a2.keep).1,p2 σ2 H2 (.refl a2.ok)⟩
def z2b (t:DT) (b:DS):Nat→DS
 | 0,_=>.stuck
 | n + 1,δ=>(t δ).bind fun x δ1=>if x then (b δ1).bind fun fl δ2=>match fl with
   | .next=>z2b t b n δ2
   | .cont=>z2b t b n δ2
   | .brk=>.ok .next δ2
   | .ret v=>.ok (.ret v) δ2
  else .ok .next δ1
theorem zcp {e:Expr} {body:List Stmt} {t:DT} {b:DS} (n:Nat) (hw:∀ {tt:TT} {tb:TS},PT X e tt→PSs X body tb→PS X (.While e body [] pos) (zdA tt tb)) (ht:ST X c e t) (hb:SSs X c body b):SS X c (.While e body [] pos) (z2b t b n) :=
 PS.weak (hw ht hb) fun D σ H ⟨δ,k,q⟩=>by
  refine ⟨fun m σ2 H2=>∃ δ2,Ok c σ2 δ2 H2∧z1R c D σ2 δ2 H2 (z2b t b m δ2),⟨n,δ,k,q⟩,?_⟩
  rintro m σ2 H2 ⟨δ2,k2,q2⟩
  cases m with
  | zero=>exact q2.elim
  | succ m =>
   simp only [z2b,z1R] at q2
   rw [z01] at q2
   refine ⟨δ2,k2,z00 q2 fun x δ3 q3 H3 a3=>?_⟩
   cases x with
   | false=>exact q3 σ2 H3 a3
   | true =>
    have p3:post c ((b δ3).bind fun fl δ2=>match fl with
     | .next=>z2b t b m δ2
     | .cont=>z2b t b m δ2
     | .brk=>.ok .next δ2
     | .ret v=>.ok (.ret v) δ2) fun fl δ'=>∀ σ' H',Aft c σ2 δ2 H2 σ' δ' H'→fin c D σ' δ' H' fl:=q3
    rw [z01] at p3
    refine ⟨fun σ4 H4=>∃ δ4,Ok c σ4 δ4 H4∧z1R c D σ4 δ4 H4 (z2b t b m δ4),fun σ4 H4 w=>⟨m,Nat.lt_succ_self _,w⟩,δ3,a3.ok,z00 p3 fun fl δ4 p4 σ4 H4 a4=>?_⟩
    have a24:=a3.trans a4
    cases fl with
    | next=>exact ⟨δ4,a4.ok,z00 p4 fun fl δ5 p5 σ5 H5 a5=>p5 σ5 H5 (a24.trans a5)⟩
    | cont=>exact ⟨δ4,a4.ok,z00 p4 fun fl δ5 p5 σ5 H5 a5=>p5 σ5 H5 (a24.trans a5)⟩
    | brk=>exact p4 σ4 H4 a24
    | ret r=>exact p4 σ4 H4 a24
end
def clrD (cs:List Nat) (δ:Dl):Dl:=cs.foldl (fun δ i=>δ.set i none) δ
def z1s (cs:List Nat) (δ₁ δ:Dl):Dl:=cs.foldl (fun δ i=>match δ₁[i]? with | some o=>δ.set i o | none=>δ) δ
def z0H (δ:Dl) (i:Nat):Bool:=match δ[i]? with
 | some (some (.own _))=>true
 | _=>false
theorem z9t (cs:List Nat):∀ δ:Dl,(clrD cs δ).length=δ.length:=by
 induction cs with
 | nil=>intro δ; rfl
 | cons i r ih =>
  intro δ
  show (clrD r (δ.set i none)).length=_
  rw [ih]; simp
theorem z1r:∀ (cs:List Nat) (δ:Dl) (i:Nat) (v:S),(clrD cs δ)[i]? = some (some v)→δ[i]? = some (some v)∧i ∉ cs:=by
 intro cs
 induction cs with
 | nil=>intro δ i v h; exact ⟨h,by simp⟩
 | cons j r ih =>
  intro δ i v h
  have h':(clrD r (δ.set j none))[i]? = some (some v):=h
  obtain ⟨h1,h2⟩:=ih _ i v h'
  by_cases e:j=i
  ·subst e
   rw [Wx] at h1
   simp at h1
  ·rw [W3 e] at h1
   exact ⟨h1,by simp only [Wg,not_or]; exact ⟨Ne.symm e,h2⟩⟩
theorem z38:∀ (cs:List Nat) (σ:St) (i:Nat),i ∉ cs→(clr cs σ)[i]? = σ[i]?:=by
 intro cs
 induction cs with
 | nil=>intro σ i _; rfl
 | cons j r ih =>
  intro σ i h
  simp only [Wg,not_or] at h
  show (clr r (σ.set j none))[i]? = _
  rw [ih _ _ h.2,W3 (Ne.symm h.1)]
theorem zdo:∀ (cs:List Nat) (δ:Dl) (i:Nat),i ∉ cs→(clrD cs δ)[i]? = δ[i]?:=by
 intro cs
 induction cs with
 | nil=>intro σ i _; rfl
 | cons j r ih =>
  intro σ i h
  simp only [Wg,not_or] at h
  show (clrD r (σ.set j none))[i]? = _
  rw [ih _ _ h.2,W3 (Ne.symm h.1)]
theorem zcc (cs:List Nat) (δ₁:Dl):∀ δ:Dl,(z1s cs δ₁ δ).length=δ.length:=by
 induction cs with
 | nil=>intro δ; rfl
 | cons i r ih =>
  intro δ
  unfold z1s
  rw [QU]
  have:=ih (match δ₁[i]? with | some o=>δ.set i o | none=>δ)
  unfold z1s at this
  rw [this]
  cases δ₁[i]? <;> simp
theorem z4N:∀ (cs:List Nat) (δ₁ δ:Dl) (i:Nat),i ∉ cs→(z1s cs δ₁ δ)[i]? = δ[i]?:=by
 intro cs δ₁
 induction cs with
 | nil=>intro δ i _; rfl
 | cons j r ih =>
  intro δ i h
  simp only [Wg,not_or] at h
  unfold z1s
  rw [QU]
  have:=ih (match δ₁[j]? with | some o=>δ.set j o | none=>δ) i h.2
  unfold z1s at this
  rw [this]
  cases δ₁[j]? with
  | none=>rfl
  | some o=>simp only; rw [W3 (Ne.symm h.1)]
theorem z7n:∀ (cs:List Nat) (δ₁ δ:Dl) (i:Nat),δ₁.length=δ.length→i ∈ cs→(z1s cs δ₁ δ)[i]? = δ₁[i]?:=by
 intro cs δ₁
 induction cs with
 | nil=>intro δ i _ h; simp at h
 | cons j r ih =>
  intro δ i hl h
  unfold z1s
  rw [QU]
  have hl2:δ₁.length=(match δ₁[j]? with | some o=>δ.set j o | none=>δ).length:=by cases δ₁[j]? <;> simp [hl]
  by_cases hr:i ∈ r
  ·have:=ih (match δ₁[j]? with | some o=>δ.set j o | none=>δ) i hl2 hr
   unfold z1s at this
   exact this
  ·have e:i=j:=by
    rcases Wg.mp h with e | e
    ·exact e
    ·exact absurd e hr
   subst e
   have:=z4N r δ₁ (match δ₁[i]? with | some o=>δ.set i o | none=>δ) i hr
   unfold z1s at this
   rw [this]
   cases e:δ₁[i]? with
   | none =>
    simp only
    have:=List.getElem?_eq_none_iff.mp e
    exact WK (by omega)
   | some o =>
    simp only
    have:=(Wa.mp e).1
    rw [Wm (by omega)]
section
variable {c:Fc} {σ:St} {δ δ':Dl} {H H':Hp} {l:Addr} {cs:List Nat}
theorem Ok.less (k:Ok (c.plus l) σ δ H):Ok c σ δ H:=by
 have sub:∀ b,Av c σ δ b→Av (c.plus l) σ δ b:=fun b z=>z.elim (fun z=>.inl (.inl z)) .inr
 refine ⟨k.keep,fun a z=>k.bd a (.inl z),k.ith,k.len,fun i d e=>?_,fun i d e=>?_,k.inj,k.pinned⟩
 ·obtain ⟨v,h1,h2⟩:=k.slot i d e
  exact ⟨v,h1,h2.anti fun b z=>.inl (sub b z)⟩
 ·obtain ⟨a,h1,h2,h3,h4⟩:=k.own i d e
  exact ⟨a,h1,h2.anti fun b z=>.inl (sub b z),h3,fun z=>h4 (.inl z)⟩
theorem Ok.updB (k:Ok c σ δ H) (hb:c.B l) (h0:c.H₀ l=none) (o:HO):Ok c σ δ (upd H l o):=by
 have kp:∀ b w,H b=some w→¬ Av c σ δ b→upd H l o b=some w:=fun b w e n=>by
  rw [z0l (fun z=>n (by rw [z]; exact .inl hb))]; exact e
 have hup:∀ b w,H b=some w→∃ w',upd H l o b=some w':=fun b w h=>by
  by_cases hb:b=l
  ·exact ⟨_,by rw [hb]; exact z0t⟩
  ·exact ⟨w,by rw [z0l hb]; exact h⟩
 refine ⟨fun a w e n=>?_,fun a z=>?_,fun a z=>?_,k.len,fun i d e=>?_,fun i d e=>?_,k.inj,k.pinned⟩
 ·have:a≠l:=fun z=>by rw [z,h0] at e; cases e
  rw [z0l this]; exact k.keep a w e n
 ·obtain ⟨w,e⟩:=k.bd a z; exact hup a w e
 ·obtain ⟨w,e⟩:=k.ith a z; exact hup a w e
 ·obtain ⟨v,h1,h2⟩:=k.slot i d e
  exact ⟨v,h1,h2.keep kp⟩
 ·obtain ⟨a,h1,h2,h3,h4⟩:=k.own i d e
  have:a≠l:=fun z=>h4 (by rw [z]; exact hb)
  exact ⟨a,h1,h2.keep kp fun w q=>by rw [z0l this]; exact q,h3,h4⟩
theorem Own.clr (h:Own (clr cs σ) (clrD cs δ) l):Own σ δ l:=by
 obtain ⟨i,d,e1,e2⟩:=h
 exact ⟨i,d,(z1r cs δ i _ e1).1,(z3w cs σ i _ e2).1⟩
theorem Ok.clr (k:Ok c σ δ H) (hp:∀ p ∈ c.pin,p.1 ∉ cs):Ok c (L2.clr cs σ) (clrD cs δ) H:=by
 have sub:∀ b,Av c (L2.clr cs σ) (clrD cs δ) b→Av c σ δ b:=fun b z=>z.elim .inl fun z=>.inr z.clr
 refine ⟨k.keep,k.bd,k.ith,by rw [z9t,z7k]; exact k.len,fun i d e=>?_,fun i d e=>?_,fun i j a d d' e1 e2 e3 e4=>?_,fun p hm=>?_⟩
 ·obtain ⟨e',hi⟩:=z1r cs δ i _ e
  obtain ⟨v,h1,h2⟩:=k.slot i d e'
  exact ⟨v,by rw [z38 cs σ i hi]; exact h1,h2.anti fun b z=>.inl (sub b z)⟩
 ·obtain ⟨e',hi⟩:=z1r cs δ i _ e
  obtain ⟨a,h1,h2,h3⟩:=k.own i d e'
  exact ⟨a,by rw [z38 cs σ i hi]; exact h1,h2.anti fun b z=>.inl (sub b z),h3⟩
 ·exact k.inj i j a d d' (z1r cs δ i _ e1).1 (z1r cs δ j _ e2).1 (z3w cs σ i _ e3).1 (z3w cs σ j _ e4).1
 ·rw [z38 cs σ _ (hp p hm)]; exact k.pinned p hm
theorem Aft.back (k:Ok c₀ σ δ H) (hpin:c.pin=c₀.pin) (hB:∀ b,c.B b→c₀.B b∨H b=none) (hno:cs.any (z0H δ)=false) (x:Aft c (L2.clr cs σ) (clrD cs δ) H (L2.clr cs σ) δ' H'):Aft c σ δ H σ (z1s cs δ δ') H':=by
 have len:δ.length=δ'.length:=by
  have:=x.ok.len
  rw [z7k] at this
  rw [this]; exact k.len
 have nown:∀ i d,i ∈ cs→δ[i]?≠some (some (.own d)):=fun i d hi e=>by
  have:=List.any_eq_false.mp hno i hi
  unfold z0H at this
  rw [e] at this
  simp at this
 have ownOut:∀ i d,(z1s cs δ δ')[i]? = some (some (.own d))→i ∉ cs∧δ'[i]? = some (some (.own d)):=fun i d e=>by
  by_cases hi:i ∈ cs
  ·rw [z7n cs δ δ' i len hi] at e
   exact absurd e (nown i d hi)
  ·rw [z4N cs δ δ' i hi] at e
   exact ⟨hi,e⟩
 have sub:∀ b,Own σ (z1s cs δ δ') b→Own (L2.clr cs σ) δ' b:=fun b ⟨i,d,e1,e2⟩=>by
  obtain ⟨hi,e⟩:=ownOut i d e1
  exact ⟨i,d,e,by rw [z38 cs σ i hi]; exact e2⟩
 have subA:∀ b,Av c σ (z1s cs δ δ') b→Av c (L2.clr cs σ) δ' b:=fun b z=>z.elim .inl fun z=>.inr (sub b z)
 have ownEq:∀ b,Own σ δ b→Own (L2.clr cs σ) (clrD cs δ) b:=fun b ⟨i,d,e1,e2⟩=>by
  have hi:i ∉ cs:=fun z=>nown i d z e1
  exact ⟨i,d,by rw [zdo cs δ i hi]; exact e1,by rw [z38 cs σ i hi]; exact e2⟩
 refine ⟨⟨x.ok.keep,x.ok.bd,x.ok.ith,by rw [zcc,← len]; exact k.len,fun i d e=>?_,fun i d e=>?_,fun i j a d d' e1 e2 e3 e4=>?_,by rw [hpin]; exact k.pinned⟩,fun a o e n=>?_,fun a z=>?_,x.there⟩
 ·by_cases hi:i ∈ cs
  ·rw [z7n cs δ δ' i len hi] at e
   obtain ⟨v,h1,h2⟩:=k.slot i d e
   have h3:Rep H (Av c (L2.clr cs σ) (clrD cs δ)) v d:=h2.anti fun b z=>by
    rcases z with z | z
    ·exact (hB b z).elim (fun z=>.inl (.inl z)) .inr
    ·exact .inl (.inr z.clr)
   exact ⟨v,h1,(Rep.aft h3 x).anti fun b z=>.inl (subA b z)⟩
  ·rw [z4N cs δ δ' i hi] at e
   obtain ⟨v,h1,h2⟩:=x.ok.slot i d e
   exact ⟨v,(z3w cs σ i v h1).1,h2.anti fun b z=>.inl (subA b z)⟩
 ·obtain ⟨hi,e'⟩:=ownOut i d e
  obtain ⟨a,h1,h2,h3⟩:=x.ok.own i d e'
  exact ⟨a,(z3w cs σ i _ h1).1,h2.anti fun b z=>.inl (subA b z),h3⟩
 ·obtain ⟨hi,f1⟩:=ownOut i d e1
  obtain ⟨hj,f2⟩:=ownOut j d' e2
  exact x.ok.inj i j a d d' f1 f2 (by rw [z38 cs σ i hi]; exact e3) (by rw [z38 cs σ j hj]; exact e4)
 ·exact x.keep a o e fun z=>n z.clr
 ·rcases x.own a (sub a z) with q | q
  ·exact .inl q.clr
  ·exact .inr q
end
def z1F (cs:List Nat) (g:DG) (t:DT) (el:DE):List D→Dl→List D→Rs (List D)
 | [],δ,acc=>.ok acc δ
 | d :: r,δ,acc=>match g (.pure d) δ with
  | none=>.stuck
  | some δ1=>(t δ1).bind fun b δ2=>if b then (el δ2).bind fun x δ3=>if acc.length < W6 then z1F cs g t el r (clrD cs δ3) (acc ++ [x.d]) else .stuck
   else z1F cs g t el r (clrD cs δ2) acc
def z2j (cs:List Nat) (it:DI) (g:DG) (t:DT) (el:DE):DE:=fun δ=>(it δ).bind fun ds δ1=>if cs.any (z0H δ1) then .stuck else
 (z1F cs g t el ds (clrD cs δ1) []).bind fun acc δ2=>.ok (.own (.lst acc)) (z1s cs δ1 δ2)
def dYes:DT:=fun δ=>.ok true δ
abbrev STs (X:Cx) (c:Fc) (ifs:List Expr) (t:DT):Prop:=PTs X ifs (tT c t)
theorem z3Q {X:Cx} {c:Fc}:STs X c [] dYes:=fun pins s σ H Q I ⟨δ,k,q⟩=>zez pins s σ H Q I (q H (.refl k))
theorem zat {X:Cx} {c:Fc} {e:Expr} {t:DT} (h:ST X c e t):STs X c [e] t:=zey h
section
variable {X:Cx} {c:Fc} {cs:List Nat} {tg iter elt:Expr} {ifs:List Expr} {scope:Scope} {pos:Pos} {it:DI} {g:DG} {t:DT} {el:DE}
theorem Aft.clear (x:Aft c (L2.clr cs σ) δ H σ4 δ4 H4) (le:Le (L2.clr cs σ) σ4) (hp:∀ p ∈ c.pin,p.1 ∉ cs) (hs:∀ (i:Nat) v,σ4[i]? = some (some v)→i ∉ cs→σ[i]? = some (some v)):Aft c (L2.clr cs σ) δ H (L2.clr cs σ) (clrD cs δ4) H4:=by
 have eq:∀ i,i ∉ cs→∀ v,σ4[i]? = some (some v)→(L2.clr cs σ)[i]? = some (some v):=fun i hi v e=>by rw [z38 cs σ i hi]; exact hs i v e hi
 have own:∀ b,Own (L2.clr cs σ) (clrD cs δ4) b→Own σ4 δ4 b:=fun b ⟨i,d,e1,e2⟩=>by
  exact ⟨i,d,(z1r cs δ4 i _ e1).1,le.2 i _ e2⟩
 have sub:∀ b,Av c (L2.clr cs σ) (clrD cs δ4) b→Av c σ4 δ4 b:=fun b z=>z.elim .inl fun z=>.inr (own b z)
 have k:=x.ok
 refine ⟨⟨k.keep,k.bd,k.ith,by rw [z9t,k.len]; exact le.1,fun i d e=>?_,fun i d e=>?_,fun i j a d d' e1 e2 e3 e4=>?_,fun p hm=>?_⟩,x.keep,fun a z=>x.own a (own a z),x.there⟩
 ·obtain ⟨e',hi⟩:=z1r cs δ4 i _ e
  obtain ⟨v,h1,h2⟩:=k.slot i d e'
  exact ⟨v,eq i hi v h1,h2.anti fun b z=>.inl (sub b z)⟩
 ·obtain ⟨e',hi⟩:=z1r cs δ4 i _ e
  obtain ⟨a,h1,h2,h3⟩:=k.own i d e'
  exact ⟨a,eq i hi _ h1,h2.anti fun b z=>.inl (sub b z),h3⟩
 ·exact k.inj i j a d d' (z1r cs δ4 i _ e1).1 (z1r cs δ4 j _ e2).1 (le.2 i _ e3) (le.2 j _ e4)
 ·exact eq p.1 (hp p hm) _ (k.pinned p hm)
def Out (cs:List Nat) (σ σ':St):Prop:=σ'.length=σ.length∧∀ i,i ∉ cs→σ'[i]? = σ[i]?
def tGC (cs:List Nat) (c:Fc) (g:DG):TG:=fun v σ H Q=>∃ σ₀ δ₀ H₁ δ r δ',Aft c σ₀ δ₀ H₁ σ δ H∧RepS c σ δ H₁ H v r∧g r δ=some δ'∧∀ σ',Aft c σ₀ δ₀ H₁ σ' δ' H→Out cs σ σ'→Q σ' H
abbrev SGC (X:Cx) (c:Fc) (cs:List Nat) (tg:Expr) (g:DG):Prop:=PG X tg (tGC cs c g)
theorem z26 {np:List Nat} {i:Nat} {x:Str} (hp:Np c np) (hN:X.N.Nodup) (hi:X.N[i]? = some x) (hx:Loc X.env.scope x) (hf:X.fn x=true∨X.env.scope.names.lookup x=some .local) (hc:i ∈ cs):SGC X c cs (.Name x pos) (gNm np i) :=
 PG.weak (zb8 hN hi hx hf) fun v σ H Q ⟨σ₀,δ₀,H₁,δ,r,δ',x,rr,e,q⟩=>by
  unfold gNm at e
  split at e
  ·cases e
  ·rename_i hn
   cases e
   refine q _ (Ok.set x rr fun p hm e=>hn (by rw [← e]; exact hp p hm)) ⟨by simp,fun j hj=>?_⟩
   rw [W3 (fun z=>hj (by rw [← z]; exact hc))]
theorem Aft.less (x:Aft (c.plus l) σ δ H σ' δ' H'):Aft c σ δ H σ' δ' H':=⟨x.ok.less,x.keep,x.own,x.there⟩
theorem zbZ (hwi:∀ σ H R,tI c it σ H R→wi σ H R) (hg:∀ l v σ H Q,tGC cs (c.plus l) g v σ H Q→gt v σ H Q) (ht:∀ l σ H Q,tT (c.plus l) t σ H Q→tt σ H Q) (he:∀ l σ H Q,tD (c.plus l) el σ H Q→te σ H Q)
  (hp:∀ p ∈ c.pin,p.1 ∉ cs) (h:tD c (z2j cs it g t el) σ H Q):zfz cs wi gt tt te σ H Q:=by
 obtain ⟨δ,k,q⟩:=h
 unfold z2j at q
 rw [z01] at q
 refine hwi _ _ _ ⟨δ,k,z00 q fun ds δ1 q1 J H1 a1 io=>?_⟩
 intro l hl
 split at q1
 ·exact q1.elim
 ·rename_i hno
  have hno':cs.any (z0H δ1)=false:=by simpa using hno
  rw [z01] at q1
  have k1:=a1.ok
  have kp:=k1.plus hl (.lst [])
  have k0:Ok (c.plus l) (L2.clr cs σ) (clrD cs δ1) (upd H1 l (.lst [])):=kp.clr hp
  have up:∀ a w,H1 a=some w→upd H1 l (.lst []) a=some w:=fun a w e=>by
   rw [z0l (z0L e hl)]; exact e
  have h0:c.H₀ l=none:=k1.fresh₀ hl
  -- the walked things,as the block sees them
  have io':ItOk (c.plus l) (L2.clr cs σ) (clrD cs δ1) H1 J ds:=by
   intro H2 kp2
   obtain ⟨s1,s2⟩:=io H2 fun a o e n=>kp2 a o e fun z=>n z.clr
   have cv:∀ {x:V} {d:D},Rep H1 (Av c σ δ1) x d→Rep H1 (Av (c.plus l) (L2.clr cs σ) (clrD cs δ1)) x d:=fun {x d} r =>
    r.anti fun b z=>by
     rcases z with (z | z) | z
     ·exact .inl (.inl z)
     ·exact .inr (by rw [z]; exact hl)
     ·exact .inl (.inr z.clr)
   refine ⟨s1,fun i d e=>⟨(s2 i d e).1,fun x H3 y=>?_⟩⟩
   rcases (s2 i d e).2 x H3 y with ⟨e3,r⟩ | ⟨p,vs,es,hp,e3,ex,ed,r⟩
   ·exact .inl ⟨e3,cv r⟩
   ·exact .inr ⟨p,vs,es,hp,e3,ex,ed,r.1,fun i v d e1 e2=>cv (r.2 i v d e1 e2)⟩
  let Fin:List D→Dl→Prop:=fun acc δ'=>∀ H' vs,Aft (c.plus l) (L2.clr cs σ) (clrD cs δ1) H1 (L2.clr cs σ) δ' H'→H' l=some (.lst vs)→Reps H' (Av (c.plus l) (L2.clr cs σ) δ') vs acc→Q (.ref l) H'
  have q2:post c (z1F cs g t el ds (clrD cs δ1) []) Fin:=z00 q1 fun acc δ2 q2 H' vs x hv r=>by
   have b1:Aft (c.plus l) σ δ1 H1 σ (z1s cs δ1 δ2) H':=Aft.back k1 rfl (fun b z=>z.elim .inl fun z=>.inr (by rw [z]; exact hl)) hno' x
   have b2:Aft c σ δ1 H1 σ (z1s cs δ1 δ2) H':=b1.less
   have len:δ1.length=δ2.length:=by
    have:=x.ok.len
    rw [z7k] at this
    rw [this]; exact k1.len
   have hlH:H l=none:=by
    cases e:H l with
    | none=>rfl
    | some o =>
     obtain ⟨o',e'⟩:=a1.there l o e
     rw [hl] at e'; cases e'
   refine q2 _ H' (a1.trans b2) ⟨l,rfl,⟨vs,hv,Reps.anti r fun b z=>.inl ?_⟩,fun z=>k1.nav hl (.inl z),h0,b1.ok,hlH⟩
   rcases z with z | ⟨i,d,e1,e2⟩
   ·exact .inl z
   ·have hi:i ∉ cs:=fun hi=>by
     rw [z7n cs δ1 δ2 i len hi] at e1
     have:=List.any_eq_false.mp hno' i hi
     unfold z0H at this
     rw [e1] at this
     simp at this
    rw [z4N cs δ1 δ2 i hi] at e1
    exact .inr ⟨i,d,e1,by rw [z38 cs σ i hi]; exact e2⟩
  refine ⟨fun i m H2=>∃ δ2 acc vs,m=ds.length - i∧i≤ds.length∧Aft (c.plus l) (L2.clr cs σ) (clrD cs δ1) H1 (L2.clr cs σ) δ2 H2∧H2 l=some (.lst vs)∧Reps H2 (Av (c.plus l) (L2.clr cs σ) δ2) vs acc ∧
   post c (z1F cs g t el (ds.drop i) δ2 acc) Fin,⟨ds.length,clrD cs δ1,[],[],by simp,WY _,⟨k0,fun a w e _=>up a w e,fun a z=>.inl z,fun a w e=>⟨w,up a w e⟩⟩,z0t,.nil,by rw [List.drop_zero]; exact q2⟩,?_⟩
  rintro i m H2 ⟨δ2,acc,vs,rfl,hil,a2,hv,rv,p2⟩
  by_cases hlt:i < ds.length
  ·right
   have e:ds[i]? = some ds[i]:=by simp [hlt]
   rw [List.drop_eq_getElem_cons hlt] at p2
   refine ⟨((io' H2 a2.keep).2 i _ e).1,fun x H3 y=>hg l _ _ _ _ ?_⟩
   obtain ⟨a3,r3⟩:=z6P io' a2 e y
   simp only [z1F] at p2
   cases eg:g (.pure ds[i]) δ2 with
   | none=>rw [eg] at p2; exact p2.elim
   | some δ3 =>
    rw [eg] at p2
    have p3:post c ((t δ3).bind fun b δ2=>if b then (el δ2).bind fun x δ3=>if acc.length < W6 then z1F cs g t el (ds.drop (i + 1)) (clrD cs δ3) (acc ++ [x.d]) else .stuck
     else z1F cs g t el (ds.drop (i + 1)) (clrD cs δ2) acc) Fin:=p2
    refine ⟨L2.clr cs σ,δ2,H3,δ2,.pure ds[i],δ3,.refl a3.ok,r3,eg,fun σ4 a4 o4=>?_⟩
    have le:Le (L2.clr cs σ) σ4:=⟨o4.1,fun j v ej=>by
     rw [o4.2 j (z3w cs σ j v ej).2]; exact ej⟩
    have hs:∀ (j:Nat) v,σ4[j]? = some (some v)→j ∉ cs→σ[j]? = some (some v):=fun j v ej hj=>by
     rw [o4.2 j hj] at ej
     exact (z3w cs σ j v ej).1
    refine ⟨le,ht l _ _ _ ⟨δ3,a4.ok,?_⟩⟩
    rw [z01] at p3
    have pinp:∀ p ∈ (c.plus l).pin,p.1 ∉ cs:=hp
    have a24:=a2.trans (a3.trans a4)
    have ln:∀ {σ':St} {δ':Dl} {H':Hp},Ok (c.plus l) σ' δ' H'→¬ Own σ' δ' l:=fun {σ' δ' H'} k=>z4o k
    have p3':post (c.plus l) (t δ3) fun b δ5=>post c (if b then (el δ5).bind fun x δ3=>if acc.length < W6 then z1F cs g t el (ds.drop (i + 1)) (clrD cs δ3) (acc ++ [x.d]) else .stuck
     else z1F cs g t el (ds.drop (i + 1)) (clrD cs δ5) acc) Fin:=p3
    refine z00 p3' fun b δ5 p5 H5 a5=>?_
    have a25:=a24.trans a5
    have hv3:H3 l=some (.lst vs):=a3.keep l _ hv (ln a2.ok)
    have hv5:H5 l=some (.lst vs):=a5.keep l _ hv3 (ln a4.ok)
    have rv3:=Reps.aft (Reps.aft (Reps.aft rv a3) a4) a5
    cases b with
    | false =>
     have c5:=a25.clear le pinp hs
     refine ⟨ds.length - (i + 1),by omega,clrD cs δ5,acc,vs,rfl,hlt,c5,hv5,Reps.anti rv3 fun b z=>.inl ?_,p5⟩
     exact z.elim .inl fun ⟨j,d,e1,e2⟩=>.inr ⟨j,d,(z1r cs δ5 j _ e1).1,le.2 j _ e2⟩
    | true =>
     have p5':post c ((el δ5).bind fun x δ3=>if acc.length < W6 then z1F cs g t el (ds.drop (i + 1)) (clrD cs δ3) (acc ++ [x.d]) else .stuck) Fin:=p5
     rw [z01] at p5'
     refine he l _ _ _ ⟨δ5,a5.ok,?_⟩
     have p6:post (c.plus l) (el δ5) fun x δ6=>post c (if acc.length < W6 then z1F cs g t el (ds.drop (i + 1)) (clrD cs δ6) (acc ++ [x.d]) else .stuck) Fin:=p5'
     refine z00 p6 fun x δ6 p7 v H6 a6 r6=>?_
     split at p7
     ·rename_i hz
      have a26:=a25.trans a6
      have hv6:H6 l=some (.lst vs):=a6.keep l _ hv5 (ln a5.ok)
      have rv6:=Reps.aft rv3 a6
      have rr:Reps H6 (Av (c.plus l) σ4 δ6) (vs ++ [v]) (acc ++ [x.d]):=rv6.append (.cons r6.rep .nil)
      have c6:=a26.clear le pinp hs
      have kpl:∀ b o,H6 b=some o→¬ Av (c.plus l) σ4 δ6 b→upd H6 l (.lst (vs ++ [v])) b=some o:=fun b o e n=>by
       rw [z0l (fun z=>n (by rw [z]; exact .inl (.inr rfl)))]; exact e
      have sub6:∀ b,Av (c.plus l) (L2.clr cs σ) (clrD cs δ6) b→Av (c.plus l) σ4 δ6 b:=fun b z=>z.elim .inl fun ⟨j,d,e1,e2⟩=>.inr ⟨j,d,(z1r cs δ6 j _ e1).1,le.2 j _ e2⟩
      refine ⟨vs,ds.length - (i + 1),hv6,by rw [rv6.1]; exact hz,by omega,clrD cs δ6,acc ++ [x.d],vs ++ [v],rfl,hlt,?_,z0t,Reps.anti (Reps.keep rr kpl) fun b z=>.inl (sub6 b z),p7⟩
      -- the list that is built has grown
      refine ⟨c6.ok.updB (.inr rfl) h0 _,fun a o ea n=>?_,fun a z=>c6.own a z,fun a o ea=>?_⟩
      ·have hal:a≠l:=fun z=>by rw [z,hl] at ea; cases ea
       rw [z0l hal]; exact c6.keep a o ea n
      ·by_cases hal:a=l
       ·exact ⟨_,by rw [hal]; exact z0t⟩
       ·obtain ⟨o',e'⟩:=c6.there a o ea
        exact ⟨o',by rw [z0l hal]; exact e'⟩
     ·exact p7.elim
  ·left
   have hi2:i=ds.length:=by omega
   subst hi2
   rw [List.drop_length] at p2
   exact ⟨(io' H2 a2.keep).1,p2 H2 vs a2 hv rv⟩
theorem z30 (hc:X.calm=true) (S:CScope X scope cs) (hi:SI X c tg iter it) (hg:∀ l s₀ H₀ ex,SGC (z2Y X scope s₀ H₀ ex) (c.plus l) cs tg g) (ht:∀ l s₀ H₀ ex,STs (z2Y X scope s₀ H₀ ex) (c.plus l) ifs t)
  (he:∀ l s₀ H₀ ex,SE (z2Y X scope s₀ H₀ ex) (c.plus l) elt el) (hp:∀ p ∈ c.pin,p.1 ∉ cs) (hs:∀ x,QC iter X.env x=pure x:=by intro _; rfl) :
  SE X c (.ListComp elt [⟨tg,iter,ifs,0⟩] scope pos) (z2j cs it g t el) :=
 PE.weak (zeM (g:=fun v σ H Q=>∃ l,tGC cs (c.plus l) g v σ H Q) (tt:=fun σ H Q=>∃ l,tT (c.plus l) t σ H Q) (te:=fun σ H Q=>∃ l,tD (c.plus l) el σ H Q) hc S hi
  (fun s₀ H₀ ex pins s σ H v u Q I r ⟨l,q⟩=>hg l s₀ H₀ ex pins s σ H v u Q I r q) (fun s₀ H₀ ex pins s σ H Q I ⟨l,q⟩=>ht l s₀ H₀ ex pins s σ H Q I q) (fun s₀ H₀ ex pins s σ H Q I ⟨l,q⟩=>he l s₀ H₀ ex pins s σ H Q I q) hs)
  fun σ H Q h=>zbZ (fun _ _ _ h=>h) (fun l _ _ _ _ h=>⟨l,h⟩) (fun l _ _ _ h=>⟨l,h⟩) (fun l _ _ _ h=>⟨l,h⟩) hp h
end
abbrev DF:=List S→Option (S×List S)
def z0A:Nat→List S→List V→List (Nat×Addr)
 | n,.own _ :: ss,.ref a :: vs=>(n,a) :: z0A (n + 1) ss vs
 | n,_ :: ss,_ :: vs=>z0A (n + 1) ss vs
 | _,_,_=>[]
theorem z1w:∀ {n:Nat} {ss:List S} {vs:List V} {i:Nat} {a:Addr},(i,a) ∈ z0A n ss vs→∃ j d,i=n + j∧ss[j]? = some (.own d)∧vs[j]? = some (.ref a)
 | n,[],vs,i,a,h=>by simp [z0A] at h
 | n,s :: ss,[],i,a,h=>by cases s <;> simp [z0A] at h
 | n,s :: ss,v :: vs,i,a,h=>by
  have rec':(i,a) ∈ z0A (n + 1) ss vs→∃ j d,i=n + j∧(s :: ss)[j]? = some (.own d)∧(v :: vs)[j]? = some (.ref a):=fun h=>by
   obtain ⟨j,d,e,h1,h2⟩:=z1w h
   exact ⟨j + 1,d,by omega,by simpa using h1,by simpa using h2⟩
  cases s with
  | pure d=>exact rec' h
  | own d =>
   cases v with
   | ref b =>
    rcases Wg.mp h with e | h
    ·cases e
     exact ⟨0,d,rfl,rfl,rfl⟩
    ·exact rec' h
   | _=>exact rec' h
theorem z4v:∀ {n:Nat} {ss:List S} {vs:List V} {j:Nat} {d:D} {a:Addr},ss[j]? = some (.own d)→vs[j]? = some (.ref a)→(n + j,a) ∈ z0A n ss vs
 | n,[],vs,j,d,a,h,_=>by simp at h
 | n,s :: ss,[],j,d,a,_,h=>by simp at h
 | n,s :: ss,v :: vs,0,d,a,h1,h2=>by
  simp at h1 h2
  subst h1 h2
  exact Wy
 | n,s :: ss,v :: vs,j + 1,d,a,h1,h2=>by
  have ih:=z4v (n:=n + 1) (ss:=ss) (vs:=vs) (j:=j) (d:=d) (a:=a) (by simpa using h1) (by simpa using h2)
  have e:n + 1 + j=n + (j + 1):=by omega
  rw [e] at ih
  cases s with
  | pure d=>exact ih
  | own d =>
   cases v with
   | ref b=>exact Wl _ ih
   | _=>exact ih
abbrev z12 (vs:List V):St:=vs.map some
abbrev z19 (ss:List S):Dl:=ss.map some
theorem someS_get {ss:List S} {i:Nat} {r:S}:(z19 ss)[i]? = some (some r) ↔ ss[i]? = some r:=by
 rw [Qb]
 cases ss[i]? <;> simp
theorem some'_get {vs:List V} {i:Nat} {v:V}:(z12 vs)[i]? = some (some v) ↔ vs[i]? = some v:=by
 rw [Qb]
 cases vs[i]? <;> simp
def spD (n:Nat) (G:DF):Sp:=fun vs H Q _=>∃ ss B,vs.length=n∧Ok ⟨H,B,z0A 0 ss vs,fun _ _=>False⟩ (z12 vs) (z19 ss) H∧∃ r outs,G ss=some (r,outs) ∧
 ∀ v H',Aft ⟨H,B,z0A 0 ss vs,fun _ _=>False⟩ (z12 vs) (z19 ss) H (z12 vs) (z19 outs) H'→RepS ⟨H,B,z0A 0 ss vs,fun _ _=>False⟩ (z12 vs) (z19 outs) H H' v r→Q v H'
def KFn (P:Wk) (w:Wp) (K:W0) (mg:Str→Option Value) (base:Heap) (k:Nat) (x:Str) (n:Nat) (G:DF):Prop :=
 ∃ (f:Addr) (fd:WF) (ps:List Str),mg x=some (.ref f)∧Q6 K (.ref f)=true∧Binds K fd ps []∧FnOk P w K mg base CX0 k f fd ps (spD n G)
def z0a (n:Nat) (ss:List S):Dl:=z19 ss ++ Wb (n - ss.length) none
def z09:Nat→List S→Dl→Option (List S)
 | _,[],_=>some []
 | n,.pure d :: ss,δ=>(z09 (n + 1) ss δ).map (.pure d :: ·)
 | n,.own _ :: ss,δ=>match δ[n]? with
  | some (some (.own d'))=>(z09 (n + 1) ss δ).map (.own d' :: ·)
  | _=>none
def z0n:Fl→Option S
 | .next=>some (.pure .non)
 | .ret r=>some r
 | _=>none
def runD (f:DS) (n:Nat) (ss:List S):Option (S×List S):=match f (z0a n ss) with
 | .ok fl δ=>(z0n fl).bind fun r=>(z09 0 ss δ).map fun outs=>(r,outs)
 | _=>none
def ioOk (np:List Nat):Nat→List S→Bool
 | _,[]=>true
 | n,.own _ :: ss=>np.contains n && ioOk np (n + 1) ss
 | n,.pure _ :: ss=>ioOk np (n + 1) ss
theorem z7a:∀ {n:Nat} {ss:List S} {j:Nat} {d:D},ioOk np n ss=true→ss[j]? = some (.own d)→np.contains (n + j)=true
 | n,[],j,d,_,h=>by simp at h
 | n,s :: ss,0,d,h,e=>by
  simp at e
  subst e
  simp only [ioOk,Wf] at h
  exact h.1
 | n,s :: ss,j + 1,d,h,e=>by
  have h':ioOk np (n + 1) ss=true:=by
   cases s with
   | pure d=>exact h
   | own d=>simp only [ioOk,Wf] at h; exact h.2
  have:=z7a (n:=n + 1) (j:=j) h' (by simpa using e)
  rw [show n + (j + 1)=n + 1 + j by omega]
  exact this
theorem z5P:∀ {n:Nat} {ss outs:List S} {δ:Dl},z09 n ss δ=some outs→outs.length=ss.length∧∀ (i:Nat) s,ss[i]? = some s→(∃ d,s = .pure d∧outs[i]? = some (.pure d))∨∃ d d',s = .own d∧δ[n + i]? = some (some (.own d'))∧outs[i]? = some (.own d')
 | n,[],outs,δ,h=>by
  simp only [z09,W7] at h
  subst h
  exact ⟨rfl,fun i s e=>by simp at e⟩
 | n,.pure d :: ss,outs,δ,h=>by
  simp only [z09] at h
  cases e:z09 (n + 1) ss δ with
  | none=>rw [e] at h; cases h
  | some os =>
   rw [e] at h
   simp only [Wv,W7] at h
   subst h
   obtain ⟨h1,h2⟩:=z5P e
   refine ⟨by simp [h1],fun i s es=>?_⟩
   cases i with
   | zero=>simp at es; subst es; exact .inl ⟨d,rfl,rfl⟩
   | succ i =>
    rcases h2 i s (by simpa using es) with ⟨d,z1,z2⟩ | ⟨d,d',z1,z2,z3⟩
    ·exact .inl ⟨d,z1,by simpa using z2⟩
    ·exact .inr ⟨d,d',z1,by rw [show n + (i + 1)=n + 1 + i by omega]; exact z2,by simpa using z3⟩
 | n,.own d :: ss,outs,δ,h=>by
  simp only [z09] at h
  split at h
  ·rename_i d' ed
   cases e:z09 (n + 1) ss δ with
   | none=>rw [e] at h; cases h
   | some os =>
    rw [e] at h
    simp only [Wv,W7] at h
    subst h
    obtain ⟨h1,h2⟩:=z5P e
    refine ⟨by simp [h1],fun i s es=>?_⟩
    cases i with
    | zero=>simp at es; subst es; exact .inr ⟨d,d',rfl,ed,rfl⟩
    | succ i =>
     rcases h2 i s (by simpa using es) with ⟨d,z1,z2⟩ | ⟨d,d',z1,z2,z3⟩
     ·exact .inl ⟨d,z1,by simpa using z2⟩
     ·exact .inr ⟨d,d',z1,by rw [show n + (i + 1)=n + 1 + i by omega]; exact z2,by simpa using z3⟩
  ·cases h
section
variable {c:Fc} {H H':Hp} {vs:List V} {ss outs:List S} {σ':St} {δ':Dl}
theorem z3n {α:Type} {l:List (Option α)} {k i:Nat} {v:α} (h:(l ++ Wb k none)[i]? = some (some v)):l[i]? = some (some v):=by
 by_cases hi:i < l.length
 ·rw [List.getElem?_append_left hi] at h; exact h
 ·rw [List.getElem?_append_right (by omega),List.getElem?_replicate] at h
  split at h <;> cases h
theorem z33 {α:Type} {l:List (Option α)} {k i:Nat} {v:α} (h:l[i]? = some (some v)):(l ++ Wb k none)[i]? = some (some v):=by
 have hi:i < l.length:=(Wa.mp h).1
 rw [List.getElem?_append_left hi]; exact h
theorem Own.ext {σ:St} {δ:Dl} {k:Nat} {a:Addr}:Own (σ ++ Wb k none) (δ ++ Wb k none) a ↔ Own σ δ a :=
 ⟨fun ⟨i,d,e1,e2⟩=>⟨i,d,z3n e1,z3n e2⟩,fun ⟨i,d,e1,e2⟩=>⟨i,d,z33 e1,z33 e2⟩⟩
theorem Ok.ext {σ:St} {δ:Dl} (k:Ok c σ δ H) (n:Nat):Ok c (σ ++ Wb n none) (δ ++ Wb n none) H:=by
 have sub:∀ b,Av c (σ ++ Wb n none) (δ ++ Wb n none) b→Av c σ δ b:=fun b z=>z.elim .inl fun z=>.inr (Own.ext.mp z)
 refine ⟨k.keep,k.bd,k.ith,by simp [k.len],fun i d e=>?_,fun i d e=>?_,fun i j a d d' e1 e2 e3 e4=>k.inj i j a d d' (z3n e1) (z3n e2) (z3n e3) (z3n e4),fun p hm=>z33 (k.pinned p hm)⟩
 ·obtain ⟨v,h1,h2⟩:=k.slot i d (z3n e)
  exact ⟨v,z33 h1,h2.anti fun b z=>.inl (sub b z)⟩
 ·obtain ⟨a,h1,h2,h3⟩:=k.own i d (z3n e)
  exact ⟨a,z33 h1,h2.anti fun b z=>.inl (sub b z),h3⟩
theorem z7V {B:Addr→Prop} {n:Nat} (hc:c = ⟨H,B,z0A 0 ss vs,fun _ _=>False⟩) (k:Ok c (z12 vs) (z19 ss) H) (x:Aft c (z12 vs ++ Wb n none) (z19 ss ++ Wb n none) H σ' δ' H') (ho:z09 0 ss δ'=some outs) :
  Aft c (z12 vs) (z19 ss) H (z12 vs) (z19 outs) H'∧∀ v r,RepS c σ' δ' H H' v r→RepS c (z12 vs) (z19 outs) H H' v r:=by
 obtain ⟨hlen,hat⟩:=z5P ho
 have hvs:ss.length=vs.length:=by have:=k.len; simpa using this
 have pin:∀ (i:Nat) (a:Addr) (d:D),ss[i]? = some (.own d)→vs[i]? = some (.ref a)→σ'[i]? = some (some (.ref a)):=fun i a d h1 h2=>by
  have:=z4v (n:=0) h1 h2
  rw [JE] at this
  exact x.ok.pinned (i,a) (by rw [hc]; exact this)
 have ownS:∀ (i:Nat) (d:D),outs[i]? = some (.own d)→(∃ d₀,ss[i]? = some (.own d₀))∧δ'[i]? = some (some (.own d)):=fun i d e=>by
  have hi:i < ss.length:=by rw [← hlen]; exact (Wa.mp e).1
  rcases hat i ss[i] (by simp [hi]) with ⟨d₁,z1,z2⟩ | ⟨d₁,d',z1,z2,z3⟩
  ·rw [e] at z2; cases z2
  ·rw [e] at z3; cases z3
   rw [JE] at z2
   exact ⟨⟨d₁,by rw [Wo hi,z1]⟩,z2⟩
 have sub:∀ b,Own (z12 vs) (z19 outs) b→Own σ' δ' b:=fun b ⟨i,d,e1,e2⟩=>by
  obtain ⟨⟨d₀,h0⟩,h1⟩:=ownS i d (someS_get.mp e1)
  exact ⟨i,d,h1,pin i b d₀ h0 (some'_get.mp e2)⟩
 have subA:∀ b,Av c (z12 vs) (z19 outs) b→Av c σ' δ' b:=fun b z=>z.elim .inl fun z=>.inr (sub b z)
 have okO:∀ {c':Fc},c'.pin=c.pin→Ok c' σ' δ' H'→(∀ b,c.B b→c'.B b)→(∀ (i:Nat) d v,ss[i]? = some (.pure d)→vs[i]? = some v→Rep H' (Av c' σ' δ') v d)→Ok c' (z12 vs) (z19 outs) H':=fun {c'} ep k' hB hsl=>by
  have subA':∀ b,Av c' (z12 vs) (z19 outs) b→Av c' σ' δ' b:=fun b z=>z.elim .inl fun z=>.inr (sub b z)
  refine ⟨k'.keep,k'.bd,k'.ith,by simp [hlen,hvs],fun i d e=>?_,fun i d e=>?_,fun i j a d d' e1 e2 e3 e4=>?_,fun p hm=>?_⟩
  ·have e':=someS_get.mp e
   have hi:i < ss.length:=by rw [← hlen]; exact (Wa.mp e').1
   have hv:i < vs.length:=by omega
   rcases hat i ss[i] (by simp [hi]) with ⟨d₁,z1,z2⟩ | ⟨d₁,d',z1,z2,z3⟩
   ·rw [e'] at z2; cases z2
    exact ⟨vs[i],by simp [hv],(hsl i d vs[i] (by rw [Wo hi,z1]) (by simp [hv])).anti fun b z=>.inl (subA' b z)⟩
   ·rw [e'] at z3; cases z3
  ·have e':=someS_get.mp e
   obtain ⟨⟨d₀,h0⟩,h1⟩:=ownS i d e'
   obtain ⟨a₀,h2,_⟩:=k.own i d₀ (someS_get.mpr h0)
   obtain ⟨a,h3,h4,h5⟩:=k'.own i d h1
   rw [pin i a₀ d₀ h0 (some'_get.mp h2)] at h3
   cases h3
   exact ⟨a₀,h2,h4.anti fun b z=>.inl (subA' b z),h5⟩
  ·obtain ⟨⟨d₀,h0⟩,h1⟩:=ownS i d (someS_get.mp e1)
   obtain ⟨⟨d₁,h2⟩,h3⟩:=ownS j d' (someS_get.mp e2)
   exact k'.inj i j a d d' h1 h3 (pin i a d₀ h0 (some'_get.mp e3)) (pin j a d₁ h2 (some'_get.mp e4))
  ·exact k.pinned p (by rw [← ep]; exact hm)
 have slots:∀ (i:Nat) d v,ss[i]? = some (.pure d)→vs[i]? = some v→Rep H' (Av c σ' δ') v d:=fun i d v h1 h2=>by
  obtain ⟨w,e1,r⟩:=(k.ext n).slot i d (z33 (someS_get.mpr h1))
  rw [z33 (some'_get.mpr h2)] at e1
  cases e1
  exact Rep.aft r x
 refine ⟨⟨okO rfl x.ok (fun _ z=>z) slots,fun a o e m=>x.keep a o e fun z=>m (Own.ext.mp z),fun a z=>(x.own a (sub a z)).elim (fun z=>.inl (Own.ext.mp z)) .inr,x.there⟩,fun v r hr=>?_⟩
 cases r with
 | pure d=>exact Rep.anti hr fun b z=>.inl (subA b z)
 | own d =>
  obtain ⟨a,ea,o,nb,h0,kp,hs⟩:=hr
  refine ⟨a,ea,o.anti fun b z=>.inl (z.elim .inl fun z=>.inr (sub b z)),nb,h0,okO rfl kp (fun _ z=>.inl z) fun i d v h1 h2=>?_,hs⟩
  obtain ⟨w,e1,r⟩:=(k.ext n).slot i d (z33 (someS_get.mpr h1))
  rw [z33 (some'_get.mpr h2)] at e1
  cases e1
  have hHa:H a=none:=hs
  have r1:Rep H (Av c (z12 vs ++ Wb n none) (z19 ss ++ Wb n none)) v d:=r
  have r2:Rep H (fun b=>Av c (z12 vs ++ Wb n none) (z19 ss ++ Wb n none) b∨Av (c.plus a) σ' δ' b) v d:=r1.anti fun b z=>by
   rcases z with z | (z | z) | z
   ·exact .inl z
   ·exact .inl (.inl z)
   ·exact .inr (by rw [z]; exact hHa)
   ·rcases x.own b z with q | q
    ·exact .inl (.inr q)
    ·exact .inr q
  exact (r2.keep fun b o e m=>x.keep b o e fun z=>m (.inl (.inr z))).anti fun b z=>.inl (.inr z)
end
section
variable {P:Wk} {w:Wp} {K:W0} {mg:Str→Option Value} {base:Heap}
theorem zgQ {x qual:Str} {st:Stmt} {f:Addr} {fd:WF} {N ps:List Str} {k:Nat} {np:List Nat} {fb:DS} {G:DF} (F:Fun K x qual st f fd) (S:FnScope N ps (z05 st))
  (hbody:∀ (c:Fc) (cdv:Value) (A:Wn) (outer:List Env) (s:W2) (H:Hp) (E:XK),Room k (A.deeper (QI qual (z05 st) s.heap.objs.size f cdv))→Np c np→SSs (cxOf CX0 P w K mg base N qual (z05 st) f cdv A outer s H E).nox c (z1i st) fb)
  (hG:∀ ss y,G ss=some y→ioOk np 0 ss=true∧runD fb N.length ss=some y):FnOk P w K mg base CX0 (k + 1) f fd ps (spD ps.length G):=by
 refine F.ok S (fun vs H Q E h=>?_) fun cdv A outer s H vs Q E hr h=>?_
 ·obtain ⟨ss,B,hl,_⟩:=h
  exact hl
 ·obtain ⟨ss,B,hl,ok,r,outs,hg,q⟩:=h
  obtain ⟨hio,hrun⟩:=hG ss _ hg
  have hvs:ss.length=vs.length:=by have:=ok.len; simpa using this
  have np':Np ⟨H,B,z0A 0 ss vs,fun _ _=>False⟩ np:=fun p hp=>by
   obtain ⟨j,d,e,h1,_⟩:=z1w (i:=p.1) (a:=p.2) hp
   rw [e]
   exact z7a hio h1
  refine ⟨tDS ⟨H,B,z0A 0 ss vs,fun _ _=>False⟩ fb,hbody ⟨H,B,z0A 0 ss vs,fun _ _=>False⟩ cdv A outer s H E hr np',?_⟩
  have hst:start N vs=z12 vs ++ Wb (N.length - ss.length) none:=by rw [hvs]; rfl
  refine ⟨z0a N.length ss,by rw [hst]; exact ok.ext _,?_⟩
  unfold runD at hrun
  unfold z1R
  cases e:fb (z0a N.length ss) with
  | exc x δx=>rw [e] at hrun; cases hrun
  | stuck=>rw [e] at hrun; cases hrun
  | ok fl δ' =>
   rw [e] at hrun
   show ∀ σ' H',Aft _ (start N vs) (z0a N.length ss) H σ' δ' H'→fin _ _ σ' δ' H' fl
   intro σ' H' a
   rw [hst] at a
   simp only at hrun
   cases fl with
   | brk=>cases hrun
   | cont=>cases hrun
   | next =>
    simp only [z0n,WT] at hrun
    cases eo:z09 0 ss δ' with
    | none=>rw [eo] at hrun; cases hrun
    | some os =>
     rw [eo] at hrun
     cases hrun
     obtain ⟨l1,l2⟩:=z7V rfl ok a eo
     exact q .non H' l1 .non
   | ret r' =>
    simp only [z0n,WT] at hrun
    cases eo:z09 0 ss δ' with
    | none=>rw [eo] at hrun; cases hrun
    | some os =>
     rw [eo] at hrun
     cases hrun
     obtain ⟨l1,l2⟩:=z7V rfl ok a eo
     exact fun v rv=>q v H' l1 (l2 v _ rv)
theorem z1b {x qual:Str} {st:Stmt} {f:Addr} {fd:WF} {N ps:List Str} {k:Nat} {np:List Nat} {fb:DS} {G:DF} (F:Fun K x qual st f fd) (hm:mg x=some (.ref f)) (hb:Binds K fd ps []) (S:FnScope N ps (z05 st))
  (hbody:∀ (c:Fc) (cdv:Value) (A:Wn) (outer:List Env) (s:W2) (H:Hp) (E:XK),Room k (A.deeper (QI qual (z05 st) s.heap.objs.size f cdv))→Np c np→SSs (cxOf CX0 P w K mg base N qual (z05 st) f cdv A outer s H E).nox c (z1i st) fb)
  (hG:∀ ss y,G ss=some y→ioOk np 0 ss=true∧runD fb N.length ss=some y):KFn P w K mg base (k + 1) x ps.length G:=⟨f,fd,ps,hm,F.kp,hb,zgQ F S hbody hG⟩
end
inductive Ak where
 | val (f:DE)
 | io (i:Nat)
def evX:List Ak→Dl→Rs (List (Option D))
 | [],δ=>.ok [] δ
 | .val f :: r,δ=>(f δ).bind fun x δ1=>(evX r δ1).bind fun xs δ2=>.ok (some x.d :: xs) δ2
 | .io _ :: r,δ=>(evX r δ).bind fun xs δ2=>.ok (none :: xs) δ2
inductive ArgR (c:Fc) (σ:St) (δ:Dl) (H:Hp):List V→List Ak→List (Option D)→Prop
 | nil:ArgR c σ δ H [] [] []
 | val {v:V} {d:D} {f:DE} {vs:List V} {as:List Ak} {ds:List (Option D)}:Rep H (Av c σ δ) v d→ArgR c σ δ H vs as ds→ArgR c σ δ H (v :: vs) (.val f :: as) (some d :: ds)
 | io {v:V} {i:Nat} {vs:List V} {as:List Ak} {ds:List (Option D)}:σ[i]? = some (some v)→ArgR c σ δ H vs as ds→ArgR c σ δ H (v :: vs) (.io i :: as) (none :: ds)
def tX (c:Fc) (as:List Ak):TA:=fun σ H Q=>∃ δ,Ok c σ δ H∧(∀ i,Ak.io i ∈ as→∃ v,σ[i]? = some (some v))∧post c (evX as δ) fun ds δ'=>∀ vs H',Aft c σ δ H σ δ' H'→ArgR c σ δ' H' vs as ds→Q vs H'
abbrev SX (X:Cx) (c:Fc) (es:List Expr) (as:List Ak):Prop:=PA X es (tX c as)
section
variable {X:Cx} {c:Fc} {e:Expr} {es:List Expr} {fe:DE} {as:List Ak} {pos pp:Pos}
theorem z0q:SX X c [] []:=PA.weak z23 fun σ H Q ⟨δ,k,_,q⟩=>q [] H (.refl k) .nil
theorem zfB (ha:SE X c e fe) (hr:SX X c es as) (hs:W5 (e :: es) X.env=(false,eval e X.env) :: W5 es X.env:=by rfl):SX X c (e :: es) (.val fe :: as):=PA.weak (z0V ha hr hs) fun σ H Q ⟨δ,k,hio,q⟩=>by
 unfold evX at q
 rw [z01] at q
 refine ⟨δ,k,z00 q fun x δ1 q1 v H1 a1 r1=>⟨δ1,a1.ok,fun i hi=>hio i (Wl _ hi),?_⟩⟩
 rw [z01] at q1
 exact z00 q1 fun xs δ2 q2 vs H2 a2 r2=>q2 (v :: vs) H2 (a1.trans a2) (.val (Rep.aft r1.rep a2) r2)
theorem sx_io (ha:PE X e (tVar i)) (hr:SX X c es as) (hs:W5 (e :: es) X.env=(false,eval e X.env) :: W5 es X.env:=by rfl):SX X c (e :: es) (.io i :: as):=PA.weak (z0V ha hr hs) fun σ H Q ⟨δ,k,hio,q⟩=>by
 obtain ⟨v,ev⟩:=hio i Wy
 unfold evX at q
 rw [z01] at q
 exact ⟨v,ev,δ,k,fun i hi=>hio i (Wl _ hi),z00 q fun xs δ2 q2 vs H2 a2 r2=>q2 (v :: vs) H2 a2 (.io ev r2)⟩
end
def mkA:List Ak→List (Option D)→Dl→Option (List S)
 | [],[],_=>some []
 | .val _ :: as,some d :: ds,δ=>(mkA as ds δ).map (.pure d :: ·)
 | .io i :: as,none :: ds,δ=>match δ[i]? with
  | some (some (.own d))=>(mkA as ds δ).map (.own d :: ·)
  | _=>none
 | _,_,_=>none
def ios:List Ak→List Nat
 | []=>[]
 | .val _ :: as=>ios as
 | .io i :: as=>i :: ios as
def putA:List Ak→List S→Dl→Dl
 | .io i :: as,r :: rs,δ=>putA as rs (δ.set i (some r))
 | .val _ :: as,_ :: rs,δ=>putA as rs δ
 | _,_,δ=>δ
def ndup:List Nat→Bool
 | []=>true
 | i :: r=>!r.contains i && ndup r
def z08 (G:DF) (as:List Ak):DE:=fun δ=>if (ios as).all (z0H δ) && ndup (ios as) then (evX as δ).bind fun ds δ1=>match mkA as ds δ1 with
  | none=>.stuck
  | some ss=>match G ss with
   | none=>.stuck
   | some (r,outs)=>.ok r (putA as outs δ1)
 else .stuck
theorem z54:∀ {l:List Nat},ndup l=true→l.Nodup
 | [],_=>.nil
 | i :: r,h=>by
  simp only [ndup,Wf,QE] at h
  exact List.nodup_cons.mpr ⟨fun hm=>by have:=h.1; simp at this; exact this hm,z54 h.2⟩
theorem ios_mem:∀ {as:List Ak} {i:Nat},i ∈ ios as ↔ Ak.io i ∈ as
 | [],i=>by simp [ios]
 | .val f :: as,i=>by simp [ios,ios_mem (as:=as)]
 | .io j :: as,i=>by simp [ios,ios_mem (as:=as)]
theorem zbA:∀ {as:List Ak} {i j k:Nat},(ios as).Nodup→as[j]? = some (.io i)→as[k]? = some (.io i)→j=k
 | [],i,j,k,_,h,_=>by simp at h
 | .val f :: as,i,j,k,nd,h1,h2=>by
  cases j with
  | zero=>simp at h1
  | succ j =>
   cases k with
   | zero=>simp at h2
   | succ k=>exact congrArg (· + 1) (zbA (as:=as) nd (by simpa using h1) (by simpa using h2))
 | .io n :: as,i,j,k,nd,h1,h2=>by
  have nd':=Qz.mp nd
  cases j with
  | zero =>
   simp at h1
   subst h1
   cases k with
   | zero=>rfl
   | succ k=>exact absurd (ios_mem.mpr (Wr (by simpa using h2))) nd'.1
  | succ j =>
   cases k with
   | zero =>
    simp at h2
    subst h2
    exact absurd (ios_mem.mpr (Wr (by simpa using h1))) nd'.1
   | succ k=>exact congrArg (· + 1) (zbA (as:=as) nd'.2 (by simpa using h1) (by simpa using h2))
section
variable {c:Fc} {σ:St} {δ:Dl} {H:Hp} {vs:List V} {as:List Ak} {ds:List (Option D)} {ss:List S}
theorem z99 (h:ArgR c σ δ H vs as ds):∀ {ss:List S},mkA as ds δ=some ss→ss.length=vs.length∧as.length=vs.length∧∀ (j:Nat) s v,ss[j]? = some s→vs[j]? = some v →
  (∃ d f,s = .pure d∧as[j]? = some (.val f)∧Rep H (Av c σ δ) v d)∨∃ d i,s = .own d∧as[j]? = some (.io i)∧σ[i]? = some (some v)∧δ[i]? = some (some (.own d)):=by
 induction h with
 | nil =>
  intro ss h
  simp only [mkA,W7] at h
  subst h
  exact ⟨rfl,rfl,fun j s v e _=>by simp at e⟩
 | @val v d f vs as ds r _ ih =>
  intro ss h
  simp only [mkA] at h
  cases e:mkA as ds δ with
  | none=>rw [e] at h; cases h
  | some rs =>
   rw [e] at h
   simp only [Wv,W7] at h
   subst h
   obtain ⟨h1,h2,h3⟩:=ih e
   refine ⟨by simp [h1],by simp [h2],fun j s v' e1 e2=>?_⟩
   cases j with
   | zero=>simp at e1 e2; subst e1 e2; exact .inl ⟨d,f,rfl,rfl,r⟩
   | succ j=>simpa using h3 j s v' (by simpa using e1) (by simpa using e2)
 | @io v i vs as ds ev _ ih =>
  intro ss h
  simp only [mkA] at h
  split at h
  ·rename_i d ed
   cases e:mkA as ds δ with
   | none=>rw [e] at h; cases h
   | some rs =>
    rw [e] at h
    simp only [Wv,W7] at h
    subst h
    obtain ⟨h1,h2,h3⟩:=ih e
    refine ⟨by simp [h1],by simp [h2],fun j s v' e1 e2=>?_⟩
    cases j with
    | zero=>simp at e1 e2; subst e1 e2; exact .inr ⟨d,i,rfl,rfl,ev,ed⟩
    | succ j=>simpa using h3 j s v' (by simpa using e1) (by simpa using e2)
  ·cases h
theorem z6W:∀ (as:List Ak) (rs:List S) (δ:Dl),(putA as rs δ).length=δ.length
 | [],rs,δ=>by simp [putA]
 | .val f :: as,[],δ=>by simp [putA]
 | .io i :: as,[],δ=>by simp [putA]
 | .val f :: as,r :: rs,δ=>by simp [putA,z6W as rs δ]
 | .io i :: as,r :: rs,δ=>by simp [putA,z6W as rs]
theorem z4n:∀ (as:List Ak) (rs:List S) (δ:Dl) (i:Nat),i ∉ ios as→(putA as rs δ)[i]? = δ[i]?
 | [],rs,δ,i,_=>by simp [putA]
 | .val f :: as,[],δ,i,_=>by simp [putA]
 | .io j :: as,[],δ,i,_=>by simp [putA]
 | .val f :: as,r :: rs,δ,i,h=>by rw [putA]; exact z4n as rs δ i h
 | .io j :: as,r :: rs,δ,i,h=>by
  simp only [ios,Wg,not_or] at h
  rw [putA,z4n as rs _ i h.2,W3 (Ne.symm h.1)]
theorem z6X:∀ (as:List Ak) (rs:List S) (δ:Dl) (i j:Nat) (r:S),(ios as).Nodup→as[j]? = some (.io i)→rs[j]? = some r→i < δ.length→(putA as rs δ)[i]? = some (some r)
 | [],rs,δ,i,j,r,_,h,_,_=>by simp at h
 | a :: as,[],δ,i,j,r,_,_,h,_=>by simp at h
 | .val f :: as,r0 :: rs,δ,i,j,r,nd,h1,h2,hi=>by
  cases j with
  | zero=>simp at h1
  | succ j=>rw [putA]; exact z6X as rs δ i j r nd (by simpa using h1) (by simpa using h2) hi
 | .io k :: as,r0 :: rs,δ,i,j,r,nd,h1,h2,hi=>by
  have nd':=Qz.mp nd
  cases j with
  | zero =>
   simp at h1 h2
   subst h1 h2
   rw [putA,z4n as rs _ k nd'.1,Wm hi]
  | succ j=>rw [putA]; exact z6X as rs _ i j r nd'.2 (by simpa using h1) (by simpa using h2) (by simpa using hi)
theorem zc9 (k:Ok c σ δ H) (hr:ArgR c σ δ H vs as ds) (hm:mkA as ds δ=some ss) (nd:(ios as).Nodup) :
  Ok ⟨H,fun a=>Av c σ δ a∧¬ ∃ (j:Nat) (d:D),ss[j]? = some (S.own d)∧vs[j]? = some (V.ref a),z0A 0 ss vs,fun _ _=>False⟩ (z12 vs) (z19 ss) H:=by
 obtain ⟨h1,h2,h3⟩:=z99 hr hm
 have at':∀ (j:Nat) s,ss[j]? = some s→∃ v,vs[j]? = some v:=fun j s e=>by
  have:j < vs.length:=by rw [← h1]; exact (Wa.mp e).1
  exact ⟨vs[j],by simp [this]⟩
 have ownE:∀ a,Own (z12 vs) (z19 ss) a ↔ ∃ (j:Nat) (d:D),ss[j]? = some (S.own d)∧vs[j]? = some (V.ref a):=fun a =>
  ⟨fun ⟨j,d,e1,e2⟩=>⟨j,d,someS_get.mp e1,some'_get.mp e2⟩,fun ⟨j,d,e1,e2⟩=>⟨j,d,someS_get.mpr e1,some'_get.mpr e2⟩⟩
 have own2:∀ a,Own (z12 vs) (z19 ss) a→Own σ δ a:=fun a z=>by
  obtain ⟨j,d,e1,e2⟩:=(ownE a).mp z
  rcases h3 j _ _ e1 e2 with ⟨d',f,e,_⟩ | ⟨d',i,e,_,es,ed⟩
  ·cases e
  ·exact ⟨i,d',ed,es⟩
 have sub:∀ a,Av ⟨H,fun a=>Av c σ δ a∧¬ ∃ (j:Nat) (d:D),ss[j]? = some (S.own d)∧vs[j]? = some (V.ref a),z0A 0 ss vs,fun _ _=>False⟩ (z12 vs) (z19 ss) a→Av c σ δ a:=fun a z=>z.elim (fun z=>z.1) fun z=>.inr (own2 a z)
 refine ⟨fun a o e _=>e,fun a z=>k.avthere z.1,fun a ⟨i,hi⟩=>?_,by simp [h1],fun j d e=>?_,fun j d e=>?_,fun i j a d d' e1 e2 e3 e4=>?_,fun p hp=>?_⟩
 ·obtain ⟨j,d,_,e1,e2⟩:=z1w hi
  exact k.othere (own2 a ((ownE a).mpr ⟨j,d,e1,e2⟩))
 ·have e':=someS_get.mp e
  obtain ⟨v,ev⟩:=at' j _ e'
  rcases h3 j _ v e' ev with ⟨d',f,e,_,r⟩ | ⟨d',i,e,_⟩
  ·cases e
   exact ⟨v,some'_get.mpr ev,r.anti fun b z=>.inl (sub b z)⟩
  ·cases e
 ·have e':=someS_get.mp e
  obtain ⟨v,ev⟩:=at' j _ e'
  rcases h3 j _ v e' ev with ⟨d',f,e,_,r⟩ | ⟨d',i,e,_,es,ed⟩
  ·cases e
  ·cases e
   obtain ⟨a,g1,g2,g3⟩:=k.own i d ed
   rw [es] at g1
   cases g1
   refine ⟨a,some'_get.mpr ev,g2.anti fun b z=>.inl (sub b z),.inl ⟨0 + j,z4v e' ev⟩,fun z=>z.2 ⟨j,d,e',ev⟩⟩
 ·have f1:=someS_get.mp e1
  have f2:=someS_get.mp e2
  rcases h3 i _ _ f1 (some'_get.mp e3) with ⟨_,_,e,_⟩ | ⟨d1,i1,e,a1,s1,x1⟩
  ·cases e
  ·rcases h3 j _ _ f2 (some'_get.mp e4) with ⟨_,_,e',_⟩ | ⟨d2,i2,e',a2,s2,x2⟩
   ·cases e'
   ·have:=k.inj i1 i2 a d1 d2 x1 x2 s1 s2
    subst this
    exact zbA nd a1 a2
 ·obtain ⟨j,d,e,e1,e2⟩:=z1w (i:=p.1) (a:=p.2) hp
  rw [JE] at e
  rw [e]
  exact some'_get.mpr e2
theorem z7m (k:Ok c σ δ H) (hr:ArgR c σ δ H vs as ds) (hm:mkA as ds δ=some ss) (nd:(ios as).Nodup) (hB:B=fun a=>Av c σ δ a∧¬ ∃ (j:Nat) (d:D),ss[j]? = some (S.own d)∧vs[j]? = some (V.ref a))
  (x:Aft ⟨H,B,z0A 0 ss vs,fun _ _=>False⟩ (z12 vs) (z19 ss) H (z12 vs) (z19 outs) H') (hio:∀ (j:Nat) d,ss[j]? = some (.own d)→∃ d',outs[j]? = some (.own d')) (hpo:∀ (j:Nat) d,ss[j]? = some (.pure d)→∃ d',outs[j]? = some (.pure d')) :
  Aft c σ δ H σ (putA as outs δ) H'∧∀ v r,RepS ⟨H,B,z0A 0 ss vs,fun _ _=>False⟩ (z12 vs) (z19 outs) H H' v r→RepS c σ (putA as outs δ) H H' v r:=by
 obtain ⟨h1,h2,h3⟩:=z99 hr hm
 have inIdx:∀ i,i ∈ ios as→∃ (j:Nat) (d:D) (a:Addr),as[j]? = some (.io i)∧ss[j]? = some (.own d)∧vs[j]? = some (.ref a)∧σ[i]? = some (some (.ref a))∧δ[i]? = some (some (.own d)):=fun i hi=>by
  obtain ⟨j,hj,ej⟩:=List.mem_iff_getElem.mp (ios_mem.mp hi)
  have hv:j < vs.length:=by omega
  have hs:j < ss.length:=by omega
  have ej':as[j]? = some (.io i):=by rw [Wo hj,ej]
  rcases h3 j ss[j] vs[j] (by simp [hs]) (by simp [hv]) with ⟨d,f,e,a1,_⟩ | ⟨d,i',e,a1,s1,x1⟩
  ·rw [ej'] at a1; cases a1
  ·rw [ej'] at a1; cases a1
   obtain ⟨a,g1,_⟩:=k.own i d x1
   rw [s1] at g1
   have g2:vs[j] = .ref a:=by
    have:=Wu g1
    exact Wu this
   exact ⟨j,d,a,ej',by rw [Wo hs,e],by rw [Wo hv,g2],by rw [s1,g2],x1⟩
 have passed:∀ a,(∃ (j:Nat) (d:D),ss[j]? = some (S.own d)∧vs[j]? = some (V.ref a))→Own σ δ a:=fun a ⟨j,d,e1,e2⟩=>by
  rcases h3 j _ _ e1 e2 with ⟨d',f,e,_⟩ | ⟨d',i,e,_,es,ed⟩
  ·cases e
  ·exact ⟨i,d',ed,es⟩
 have Iiff:∀ a,(⟨H,B,z0A 0 ss vs,fun _ _=>False⟩:Fc).I a ↔ ∃ (j:Nat) (d:D),ss[j]? = some (S.own d)∧vs[j]? = some (V.ref a):=fun a =>
  ⟨fun ⟨i,hi⟩=>by obtain ⟨j,d,_,e1,e2⟩:=z1w hi; exact ⟨j,d,e1,e2⟩,fun ⟨j,d,e1,e2⟩=>⟨0 + j,z4v e1 e2⟩⟩
 have ownIn:∀ a,Own (z12 vs) (z19 ss) a→∃ (j:Nat) (d:D),ss[j]? = some (S.own d)∧vs[j]? = some (V.ref a):=fun a ⟨j,d,e1,e2⟩=>⟨j,d,someS_get.mp e1,some'_get.mp e2⟩
 -- the owned addresses are the same
 have slotP:∀ (i:Nat) (d:D),(putA as outs δ)[i]? = some (some (.own d))→(i ∉ ios as∧δ[i]? = some (some (.own d)))∨(i ∈ ios as∧∃ (j:Nat) (d0:D) (a:Addr),as[j]? = some (.io i)∧ss[j]? = some (.own d0)∧vs[j]? = some (.ref a)∧σ[i]? = some (some (.ref a))∧outs[j]? = some (.own d)):=fun i d e=>by
  by_cases hi:i ∈ ios as
  ·right
   obtain ⟨j,d0,a,a1,a2,a3,a4,a5⟩:=inIdx i hi
   obtain ⟨d',ed'⟩:=hio j d0 a2
   have hlt:i < δ.length:=(Wa.mp a5).1
   have:=z6X as outs δ i j (.own d') nd a1 ed' hlt
   rw [e] at this
   cases this
   exact ⟨hi,j,d0,a,a1,a2,a3,a4,ed'⟩
  ·rw [z4n as outs δ i hi] at e
   exact .inl ⟨hi,e⟩
 have own_sub:∀ b,Own σ (putA as outs δ) b→Own σ δ b:=fun b ⟨i,d,e1,e2⟩=>by
  rcases slotP i d e1 with ⟨_,e⟩ | ⟨hi,j,d0,a,_,a2,a3,a4,_⟩
  ·exact ⟨i,d,e,e2⟩
  ·rw [e2] at a4
   have:b=a:=by injection (Wu (Wu a4))
   subst this
   exact passed b ⟨j,d0,a2,a3⟩
 have pureP:∀ (i:Nat) (d:D),(putA as outs δ)[i]? = some (some (.pure d))→i ∉ ios as∧δ[i]? = some (some (.pure d)):=fun i d e=>by
  by_cases hi:i ∈ ios as
  ·obtain ⟨j,d0,a,a1,a2,a3,a4,a5⟩:=inIdx i hi
   obtain ⟨d',ed'⟩:=hio j d0 a2
   have hlt:i < δ.length:=(Wa.mp a5).1
   have:=z6X as outs δ i j (.own d') nd a1 ed' hlt
   rw [e] at this
   cases this
  ·rw [z4n as outs δ i hi] at e
   exact ⟨hi,e⟩
 have kpAv:∀ a o,H a=some o→¬ Av c σ δ a→H' a=some o:=fun a o e n=>x.keep a o e fun z=>n (.inr (passed a (ownIn a z)))
 have subA:∀ b,Av c σ (putA as outs δ) b→Av c σ δ b:=fun b z=>z.elim .inl fun z=>.inr (own_sub b z)
 -- the callee's set holds ours
 have big:∀ {c':Fc},c'.B=B→∀ b,Av c σ δ b→Av c' (z12 vs) (z19 outs) b:=fun {c'} hB' b z=>by
  by_cases hp:∃ (j:Nat) (d:D),ss[j]? = some (S.own d)∧vs[j]? = some (V.ref b)
  ·obtain ⟨j,d,e1,e2⟩:=hp
   obtain ⟨d',ed'⟩:=hio j d e1
   exact .inr ⟨j,d',someS_get.mpr ed',some'_get.mpr e2⟩
  ·exact .inl (by rw [hB',hB]; exact ⟨z,hp⟩)
 have okc:∀ (c1 c2:Fc),c1.H₀=c.H₀→c1.pin=c.pin→(∀ b,c1.B b→c.B b∨(c2.B b∧H b=none))→c2.pin=z0A 0 ss vs→(∀ b,B b→c2.B b)→Ok c2 (z12 vs) (z19 outs) H'→(∀ b,c1.B b→∃ o,H' b=some o)→Ok c1 σ (putA as outs δ) H':=fun c1 c2 e0 e1 e2 e3 e4 k2 hex=>by
  have sub1:∀ b,Av c1 σ (putA as outs δ) b→Av c σ δ b∨H b=none:=fun b z=>by
   rcases z with z | z
   ·rcases e2 b z with z | ⟨_,z⟩
    ·exact .inl (.inl z)
    ·exact .inr z
   ·exact .inl (.inr (own_sub b z))
  have sub2:∀ b,Av c1 σ (putA as outs δ) b→Av c2 (z12 vs) (z19 outs) b:=fun b z=>by
   have bg:∀ b,Av c σ δ b→Av c2 (z12 vs) (z19 outs) b:=fun b z=>by
    by_cases hp:∃ (j:Nat) (d:D),ss[j]? = some (S.own d)∧vs[j]? = some (V.ref b)
    ·obtain ⟨j,d,e1,e2⟩:=hp
     obtain ⟨d',ed'⟩:=hio j d e1
     exact .inr ⟨j,d',someS_get.mpr ed',some'_get.mpr e2⟩
    ·exact .inl (e4 b (by rw [hB]; exact ⟨z,hp⟩))
   rcases z with z | z
   ·rcases e2 b z with z | ⟨z,_⟩
    ·exact bg b (.inl z)
    ·exact .inl z
   ·exact bg b (.inr (own_sub b z))
  have kp':∀ {v:V} {d:D},Rep H (Av c σ δ) v d→Rep H' (Av c1 σ (putA as outs δ)) v d:=fun {v d} r=>by
   have r1:Rep H (fun b=>Av c σ δ b∨Av c1 σ (putA as outs δ) b) v d:=r.anti fun b z=>z.elim .inl (sub1 b)
   exact (r1.keep fun b o e n=>kpAv b o e fun z=>n (.inl z)).anti fun b z=>.inl (.inr z)
  refine ⟨fun a o e n=>?_,hex,fun a z=>?_,by rw [z6W]; exact k.len,fun i d e=>?_,fun i d e=>?_,fun i j a d d' f1 f2 f3 f4=>?_,by rw [e1]; exact k.pinned⟩
  ·rw [e0] at e
   have n':¬ c.I a:=fun z=>n (by unfold Fc.I at z ⊢; rw [e1]; exact z)
   refine x.keep a o (k.keep a o e n') fun z=>?_
   obtain ⟨i,d,g1,g2⟩:=passed a (ownIn a z)
   obtain ⟨a',g3,_,g4,_⟩:=k.own i d g1
   rw [g2] at g3; cases g3
   rcases g4 with g4 | g4
   ·exact n' g4
   ·rw [g4] at e; cases e
  ·have z':c.I a:=by unfold Fc.I at z ⊢; rw [← e1]; exact z
   obtain ⟨o,e⟩:=k.ith a z'
   exact x.there a o e
  ·obtain ⟨hi,e'⟩:=pureP i d e
   obtain ⟨v,g1,g2⟩:=k.slot i d e'
   exact ⟨v,g1,kp' g2⟩
  ·rcases slotP i d e with ⟨hi,e'⟩ | ⟨hi,j,d0,a,b1,b2,b3,b4,b5⟩
   ·obtain ⟨a,g1,g2,g3,g4⟩:=k.own i d e'
    have na:¬ Own (z12 vs) (z19 ss) a:=fun z=>by
     obtain ⟨j,d1,q1,q2⟩:=ownIn a z
     rcases h3 j _ _ q1 q2 with ⟨d',f,ee,_⟩ | ⟨d',i',ee,ai,es,ed⟩
     ·cases ee
     ·have:=k.inj i i' a d d' e' ed g1 es
      subst this
      exact hi (ios_mem.mpr (Wr ai))
    have g2':OwnAt H' (Av c1 σ (putA as outs δ)) a d:=by
     have o1:OwnAt H (fun b=>Av c σ δ b∨Av c1 σ (putA as outs δ) b) a d:=g2.anti fun b z=>z.elim .inl (sub1 b)
     exact (o1.keep (fun b o e n=>kpAv b o e fun z=>n (.inl z)) fun o e=>x.keep a o e na).anti fun b z=>.inl (.inr z)
    refine ⟨a,g1,g2',by unfold Fc.I at g3 ⊢; rw [e0,e1]; exact g3,fun z=>?_⟩
    rcases e2 a z with z | ⟨_,z⟩
    ·exact g4 z
    ·obtain ⟨o,eo⟩:=g2.some
     rw [z] at eo; cases eo
   ·obtain ⟨a',g1,g2,g3,g4⟩:=k2.own j d (someS_get.mpr b5)
    rw [some'_get.mpr b3] at g1
    cases g1
    obtain ⟨i0,d1,q1,q2⟩:=passed a ⟨j,d0,b2,b3⟩
    obtain ⟨a'',q3,q4,q5,q6⟩:=k.own i0 d1 q1
    rw [q2] at q3; cases q3
    refine ⟨a,b4,g2.anti fun b z=>.inl (sub2 b z),by unfold Fc.I at q5 ⊢; rw [e0,e1]; exact q5,fun z=>?_⟩
    rcases e2 a z with z | ⟨_,z⟩
    ·exact q6 z
    ·obtain ⟨o,eo⟩:=q4.some
     rw [z] at eo; cases eo
  ·obtain ⟨d1,g1⟩:∃ d1,δ[i]? = some (some (.own d1)):=by
    rcases slotP i d f1 with ⟨_,e'⟩ | ⟨hi,_⟩
    ·exact ⟨d,e'⟩
    ·obtain ⟨_,d1,_,_,_,_,_,a5⟩:=inIdx i hi
     exact ⟨d1,a5⟩
   obtain ⟨d2,g2⟩:∃ d2,δ[j]? = some (some (.own d2)):=by
    rcases slotP j d' f2 with ⟨_,e'⟩ | ⟨hi,_⟩
    ·exact ⟨d',e'⟩
    ·obtain ⟨_,d1,_,_,_,_,_,a5⟩:=inIdx j hi
     exact ⟨d1,a5⟩
   exact k.inj i j a d1 d2 g1 g2 f3 f4
 have ok1:Ok c σ (putA as outs δ) H':=okc c ⟨H,B,z0A 0 ss vs,fun _ _=>False⟩ rfl rfl (fun b z=>.inl z) rfl (fun b z=>z) x.ok fun b z=>by
  obtain ⟨o,e⟩:=k.bd b z
  exact x.there b o e
 refine ⟨⟨ok1,fun a o e n=>x.keep a o e fun z=>n (passed a (ownIn a z)),fun a z=>.inl (own_sub a z),x.there⟩,fun v r hr=>?_⟩
 cases r with
 | pure d=>exact Rep.anti hr fun b z=>.inl (big rfl b (subA b z))
 | own d =>
  obtain ⟨a,ea,o,nb,h0,kp,hs⟩:=hr
  have hHa:H a=none:=hs
  have nav:¬ Av c σ δ a:=k.nav hHa
  refine ⟨a,ea,o.anti fun b z=>.inl ?_,fun z=>nav (.inl z),k.fresh₀ hHa,?_,hHa⟩
  ·rcases z with (z | z) | z
   ·exact (big rfl b (.inl z)).elim (fun z=>.inl (.inl z)) .inr
   ·exact .inl (.inr z)
   ·exact (big rfl b (.inr (own_sub b z))).elim (fun z=>.inl (.inl z)) .inr
  ·refine okc (c.plus a) (Fc.plus ⟨H,B,z0A 0 ss vs,fun _ _=>False⟩ a) rfl rfl (fun b z=>?_) rfl (fun b z=>.inl z) kp fun b z=>?_
   ·rcases z with z | z
    ·exact .inl z
    ·exact .inr ⟨.inr z,by rw [z]; exact hHa⟩
   ·rcases z with z | z
    ·obtain ⟨o,e⟩:=k.bd b z
     exact x.there b o e
    ·rw [z]; exact o.some
end
def z1p (G:DF):Prop:=∀ ss r outs,G ss=some (r,outs)→outs.length=ss.length∧∀ (j:Nat),(∀ d,ss[j]? = some (.own d)→∃ d',outs[j]? = some (.own d'))∧∀ d,ss[j]? = some (.pure d)→∃ d',outs[j]? = some (.pure d')
theorem z9J (hG:∀ ss y,G ss=some y→runD fb n ss=some y):z1p G:=fun ss r outs h=>by
 have:=hG ss _ h
 unfold runD at this
 cases e:fb (z0a n ss) with
 | exc x δx=>rw [e] at this; cases this
 | stuck=>rw [e] at this; cases this
 | ok fl δ =>
  rw [e] at this
  simp only at this
  cases e1:z0n fl with
  | none=>rw [e1] at this; cases this
  | some r' =>
   rw [e1] at this
   simp only [WT] at this
   cases e2:z09 0 ss δ with
   | none=>rw [e2] at this; cases this
   | some os =>
    rw [e2] at this
    cases this
    obtain ⟨h1,h2⟩:=z5P e2
    refine ⟨h1,fun j=>⟨fun d ed=>?_,fun d ed=>?_⟩⟩
    ·rcases h2 j _ ed with ⟨d',z,_⟩ | ⟨d',d'',_,_,z⟩
     ·cases z
     ·exact ⟨d'',z⟩
    ·rcases h2 j _ ed with ⟨d',z,z'⟩ | ⟨d',d'',z,_⟩
     ·exact ⟨d',z'⟩
     ·cases z
section
variable {X:Cx} {c:Fc} {e:Expr} {es:List Expr} {as:List Ak} {k n:Nat} {x:Str} {G:DF} {pp pos:Pos}
theorem z8g {ps:List Str} (hK:z1p G) {σ:St} {H:Hp} {Q:VK} (hl:as.length=n) (h:tD c (z08 G as) σ H Q):zeh (spD n G) [] E0 (tX c as) σ H Q:=by
 obtain ⟨δ,kk,q⟩:=h
 unfold z08 at q
 split at q
 ·rename_i hc
  rw [Wf] at hc
  have nd:=z54 hc.2
  rw [z01] at q
  refine ⟨δ,kk,fun i hi=>?_,z00 q fun ds δ1 q1 vs H1 a1 r1=>?_⟩
  ·have:=WB.mp hc.1 i (ios_mem.mpr hi)
   unfold z0H at this
   split at this
   ·rename_i d ed
    exact z3C kk ed
   ·cases this
  ·cases em:mkA as ds δ1 with
   | none=>rw [em] at q1; exact q1.elim
   | some ss =>
    rw [em] at q1
    simp only at q1
    cases eg:G ss with
    | none=>rw [eg] at q1; exact q1.elim
    | some y =>
     obtain ⟨r,outs⟩:=y
     rw [eg] at q1
     have hin:=zc9 a1.ok r1 em nd
     obtain ⟨m1,m2,_⟩:=z99 r1 em
     obtain ⟨g1,g2⟩:=hK ss r outs eg
     refine ⟨ss,_,by rw [WW,← m2]; exact hl,by rw [WW]; exact hin,r,outs,eg,fun v H2 a2 r2=>?_⟩
     rw [WW] at a2 r2
     obtain ⟨o1,o2⟩:=z7m a1.ok r1 em nd rfl a2 (fun j d ed=>(g2 j).1 d ed) fun j d ed=>(g2 j).2 d ed
     exact q1 v H2 (a1.trans o1) (RepS.back (o2 v r r2) a1)
 ·exact q.elim
theorem z0h (F:KFn X.prog X.w X.K X.mg X.base k x n G) (hK:z1p G) (hr:Room k X.A) (hg:Gl X x) (ha:SX X c (e :: es) as) (hl:as.length=n) (hdb:(x == ("__debug__" : Str))=false:=by decide)
  (he:W5 (e :: es) X.env=(false,eval e X.env) :: W5 es X.env:=by rfl) (hpl:(WJ pos (W5 es X.env)).any (·.1)=false:=by rfl):SE X c (.Call (.Name x pp) (e :: es) [] pos) (z08 G as):=by
 obtain ⟨f,fd,ps,hm,hk,hb,ok⟩:=F
 exact PE.weak (zeN ok hr hg hm hk hb .nil pass0 ha hdb he hpl) fun σ H Q h=>z8g (ps:=ps) hK hl h
end
def gOf (np:List Nat) (n:Nat) (b:DS):DF:=fun ss=>if ioOk np 0 ss then runD b n ss else none
theorem z0C (h:gOf np n b ss=some y):ioOk np 0 ss=true∧runD b n ss=some y:=by
 unfold gOf at h
 split at h
 ·rename_i hi; exact ⟨hi,h⟩
 ·cases h
theorem z0o:z1p (gOf np n b):=z9J fun _ _ h=>(z0C h).2
theorem z1M (r:Room k A):A.units + 64 < Ql:=by have:=r.un; omega
theorem z4x {c:Fc} {np cs:List Nat} (h:Np c np) (hc:cs.all (fun i=>!np.contains i)=true):∀ p ∈ c.pin,p.1 ∉ cs:=fun p hp z=>by
 have h1:=h p hp
 have h2:=WB.mp hc p.1 z
 rw [h1] at h2
 cases h2
def ndS:List Str→Bool
 | []=>true
 | x :: r=>!r.contains x && ndS r
theorem zdS:∀ {l:List Str},ndS l=true→l.Nodup
 | [],_=>.nil
 | x :: r,h=>by
  simp only [ndS,Wf,QE] at h
  exact List.nodup_cons.mpr ⟨fun hm=>by have:=h.1; simp at this; exact this hm,zdS h.2⟩
def z56 (names:List (Str×NameKind)) (x:Str) (k:NameKind):Bool:=match names.lookup x with
 | some j=>j == k
 | none=>false
theorem z78 (h:z56 names x k=true):names.lookup x=some k:=by
 unfold z56 at h
 split at h
 ·rename_i j e; rw [e,eq_of_beq h]
 ·cases h
def cscB (names:List (Str×NameKind)) (N:List Str) (sc:List (Str×NameKind)) (cs:List Nat):Bool :=
 sc.all (fun x=>!(x.2 == .local) || z56 sc x.1 .local) && sc.all (fun x=>!(x.2 == .free) || (z56 names x.1 .cell || z56 names x.1 .free)) && ndS (sc.map (·.1)) &&
 (WM N.length).all fun i=>match N[i]? with
  | some x=>!(z56 sc x .local || z56 sc x .cell) || cs.contains i
  | none=>true
theorem z9a (h:names.lookup x=some k):z56 names x k=true:=by
 unfold z56; rw [h]; simp
theorem z1C {X:Cx} {scope:Scope} {cs:List Nat} (hk:scope.kind = .function) (h:cscB X.env.scope.names X.N scope.names cs=true):CScope X scope cs:=by
 unfold cscB at h
 simp only [Wf] at h
 obtain ⟨⟨⟨h1,h2⟩,h3⟩,h4⟩:=h
 refine ⟨hk,fun x hx hl=>?_,fun x hx hf=>?_,zdS h3,fun i x hi hl=>?_⟩
 ·have:=WB.mp h1 x hx
  rw [hl] at this
  exact z78 (by simpa using this)
 ·have:=WB.mp h2 x hx
  rw [hf] at this
  have:z56 X.env.scope.names x.1 .cell=true∨z56 X.env.scope.names x.1 .free=true:=by simpa using this
  exact this.elim (fun z=>.inl (z78 z)) fun z=>.inr (z78 z)
 ·have hil:i < X.N.length:=(Wa.mp hi).1
  have:=WB.mp h4 i (List.mem_range.mpr hil)
  rw [hi] at this
  have hl':(z56 scope.names x .local || z56 scope.names x .cell)=true:=by
   rcases hl with z | z
   ·rw [z9a z]; rfl
   ·rw [z9a z]; simp
  simp only [hl',Bool.not_true,Bool.false_or] at this
  simpa using this
theorem zea {K:W0}:TyK K "int":=⟨rfl,rfl,rfl,rfl,rfl,rfl,rfl⟩
theorem zck {K:W0}:TyK K "bool":=⟨rfl,rfl,rfl,rfl,rfl,rfl,rfl⟩
theorem ze9 {K:W0}:TyK K "str":=⟨rfl,rfl,rfl,rfl,rfl,rfl,rfl⟩
theorem zao {K:W0}:TyK K "tuple":=⟨rfl,rfl,rfl,rfl,rfl,rfl,rfl⟩
def z2h:Expr→Bool
 | .Starred ..=>false
 | _=>true
theorem z3f (h:z2h e=true):W5 (e :: es) env=(false,eval e env) :: W5 es env:=by
 cases e <;> first | (cases h; done) | rw [W5] | rfl
 all_goals (intros; contradiction)
section
variable {X:Cx} {c:Fc} {e:Expr} {es:List Expr} {f fe:DE} {g:DA} {as:List Ak}
theorem z02 (ha:SE X c e f) (hr:SA X c es g) (hs:z2h e=true:=by rfl):SA X c (e :: es) (z0b f g):=zaJ ha hr (z3f hs)
theorem z06 (ha:SE X c e fe) (hr:SX X c es as) (hs:z2h e=true:=by rfl):SX X c (e :: es) (.val fe :: as):=zfB ha hr (z3f hs)
theorem z1u {i:Nat} (ha:PE X e (tVar i)) (hr:SX X c es as) (hs:z2h e=true:=by rfl):SX X c (e :: es) (.io i :: as):=sx_io ha hr (z3f hs)
end
mutual
def z3P:Nat→Expr→Option D
 | _,.Constant (.int i) _ _=>some (.int i)
 | _,.Constant (.bool b) _ _=>some (.bl b)
 | _,.Constant .none _ _=>some .non
 | _,.Constant (.str x) _ _=>some (.str x.cps.toList)
 | n + 1,.Tuple es _ _=>if es.length≤1000 then (z46 n es).map .tup else none
 | _,_=>none
def z46:Nat→List Expr→Option (List D)
 | _,[]=>some []
 | n,e :: es=>match z3P n e,z46 n es with
  | some d,some ds=>some (d :: ds)
  | _,_=>none
end
theorem za7:∀ {n:Nat} {e:Expr} {d:D},z3P n e=some d→z2h e=true:=fun {n e d} h=>by
 cases e <;> first | rfl | (cases n <;> simp [z3P] at h)
mutual
theorem zaF:∀ {n:Nat} {e:Expr} {d:D},z3P n e=some d→SE X c e (eD d)
 | _,.Constant (.int i) _ _,d,h=>by
  simp only [z3P,W7] at h; subst h; exact z04
 | _,.Constant (.bool b) _ _,d,h=>by
  simp only [z3P,W7] at h; subst h; exact z1G
 | _,.Constant .none _ _,d,h=>by
  simp only [z3P,W7] at h; subst h; exact z3K
 | _,.Constant (.str x) _ _,d,h=>by
  simp only [z3P,W7] at h; subst h; exact z3c _ (zdy x)
 | 0,.Tuple es k pos,d,h=>by simp [z3P] at h
 | n + 1,.Tuple es k pos,d,h=>by
  simp only [z3P] at h
  split at h
  ·rename_i hl
   cases e:z46 n es with
   | none=>rw [e] at h; cases h
   | some ds =>
    rw [e] at h
    simp only [Wv,W7] at h
    subst h
    exact z1v (z5J e) hl
  ·cases h
theorem z5J:∀ {n:Nat} {es:List Expr} {ds:List D},z46 n es=some ds→SA X c es (fun δ=>.ok ds δ)
 | _,[],ds,h=>by
  simp only [z46,W7] at h; subst h; exact z0w
 | n,e :: es,ds,h=>by
  simp only [z46] at h
  split at h
  ·rename_i d ds' h1 h2
   cases h
   exact zaJ (zaF h1) (z5J h2) (z3f (za7 h1))
  ·cases h
end
def za5 (ds:List D):DE:=fun δ=>.ok (.own (.lst ds)) δ
theorem z4f {X:Cx} {c:Fc} {es:List Expr} {ds:List D} {pos:Pos} (h:z46 9 es=some ds) (hl:es.length≤1000):SE X c (.List es pos) (za5 ds):=z1A (z5J h) hl
section
variable {X:Cx} {c:Fc} {e:Expr} {fe:DE} {pos:Pos} {tg:Expr}
theorem z2Z {x:Str} {i:Int} (hg:Gl X x) (hm:∃ t,X.mg x=some (.int i t)) (hd:(x == ("__debug__" : Str))=false:=by decide):SE X c (.Name x pos) (eD (.int i)):=by
 obtain ⟨t,h⟩:=hm
 exact z9I hg h hd
theorem z29 {i:Nat} {o:Expr} {apos cpos:Pos} (ho:PE X o (tVar i)) (he:SE X c e fe)
  (hbase:Qa o "append" X.env (eval o X.env)=eval o X.env:=by rfl)
  (hfew:((WJ cpos (W5 [e] X.env)).all (fun x=>!x.1) && (backToKw cpos (QX [] X.env)).all (fun x=>x.1.isSome)
   && decide ([e].length + ([]:List Keyword).length + (if ([]:List Keyword).isEmpty then 0 else 1) < 30))=true:=by rfl)
  (hline:(apos.endLine == cpos.line)=true:=by rfl) (hs:W5 [e] X.env=(false,eval e X.env) :: W5 [] X.env:=by rfl)
  (hsw:swapsWith (.Call (.Attribute o "append" apos) [e] [] cpos) none pos.line X.env=pure false:=by rfl):SS X c (.Expr (.Call (.Attribute o "append" apos) [e] [] cpos) pos) (z0W i fe) :=
 zaw (p0:=apos) ho he (zeD (zbb QQ PySem.F.slot_list_append PySem.F.type_list_append z7S ho (z0V he z23 hs) hbase hfew hline hs rfl) hsw)
end
def noL (K:W0):Bool:=K.all fun p=>match p.2.cls with
 | .type t=>!(t == "list")
 | _=>true
theorem zdT [BEq α] [LawfulBEq α]:∀ {K:List (α×β)} {a:α} {o:β},K.lookup a=some o→(a,o) ∈ K
 | [],a,o,e=>by simp at e
 | (b,o') :: r,a,o,e=>by
  rw [WI] at e
  cases hb:a == b with
  | true =>
   rw [hb] at e
   have h1:o'=o:=Wu e
   have h2:a=b:=eq_of_beq hb
   rw [h1,h2]
   exact Wy
  | false =>
   rw [hb] at e
   exact Wl _ (zdT e)
theorem zgz {K:W0} {a:Addr} {o:Obj} (h:noL K=true) (e:K.lookup a=some o) (hc:o.cls = .type "list"):False:=by
 have hm:(a,o) ∈ (K:List (Addr×Obj)):=zdT e
 have h1:=WB.mp h (a,o) hm
 have h2:(match o.cls with | .type t=>!(t == "list") | _=>true)=true:=h1
 rw [hc] at h2
 have h3:(!(("list" : String) == "list"))=true:=h2
 rw [beq_self_eq_true] at h3
 cases h3
theorem zgB {K:W0} {G:DF} {H:Hp} {a:Addr} {ns:List Int} {E:XK} (hK:noL K=true) (hS:SqL K H a (ns.map V.int)) (hG:∃ outs,G [.pure (.lst (ns.map .int))]=some (.pure (.bl true),outs)) :
  spD 1 G [.ref a] H (fun v _=>v = .bl true) E:=by
 have hR:Rd H a (.lst (ns.map V.int)):=by
  rcases hS with h | ⟨o,its,n,e,hc,_⟩
  ·exact h
  ·exact (zgz hK e hc).elim
 obtain ⟨outs,hg⟩:=hG
 have rep:∀ O:Addr→Prop,¬ O a→Rep H O (.ref a) (.lst (ns.map D.int)):=fun O hO=>.lst hO hR (by simp) fun i v d e1 e2=>by
  rw [Qb] at e1 e2
  cases e:ns[i]? with
  | none=>rw [e] at e1; cases e1
  | some k=>rw [e] at e1 e2; cases e1; cases e2; exact .int k
 refine ⟨[.pure (.lst (ns.map .int))],fun _=>False,rfl,⟨fun b o e _=>e,fun b z=>z.elim,fun b ⟨i,z⟩=>?_,rfl,fun i d e=>?_,fun i d e=>?_,fun i j b d d' e1 e2 e3 e4=>?_,fun p z=>?_⟩,_,outs,hg,fun v H' x r=>?_⟩
 ·simp [z0A] at z
 ·cases i with
  | zero =>
   simp at e
   subst e
   refine ⟨.ref a,rfl,rep _ fun z=>?_⟩
   rcases z with z | ⟨j,d',z1,z2⟩
   ·exact z
   ·cases j with
    | zero=>simp at z1
    | succ j=>simp at z1
  | succ i=>simp at e
 ·cases i with
  | zero=>simp at e
  | succ i=>simp at e
 ·cases i with
  | zero=>simp at e1
  | succ i=>simp at e1
 ·simp [z0A] at z
 ·cases r
  rfl
theorem walkD {l:PySem.W.OpenLaw} {q:Wk} {loose:List Str} {XP:(Str→Option Value)→Heap→Prop} {YP:Wp→Heap→Prop} {d:DefRec} {K:Params→W0} {k:Nat} {G:DF} (hn:l.most=some 63) (hdf:d.params.defaults=[]) (hr:Room k callerA)
  (hY:∀ (w:Wp) (h:Heap),YP w h→(K w.params).In h) (hL:∀ p:Params,noL (K p)=true)
  (hG:∀ ns:List Int,ns.length≤63→∃ outs,G [.pure (.lst (ns.map .int))]=some (.pure (.bl true),outs))
  (F:∀ (w:Wp) (mg:Str→Option Value) (fa:Addr) (h:Heap),(K w.params).In h→h.Ns Wj mg→mg d.name=some (.ref fa) →
   ∃ fd:WF,(∀ (s:W2) (u:Value),BindsTo s fd ⟨[u],[]⟩ [("script",u)])∧∀ base:Heap,(K w.params).In base→base.Ns Wj mg→FnOk l.prog w (K w.params) mg base CX0 k fa fd ["script"] (spD 1 G)) :
  PySem.W.WalkO q loose XP YP l.row.toRowW d [] (fun f vs=>PySem.call f vs) :=
 L2.walk_of (n:=63) (k:=k) (x:="script") (CX:=fun _=>CX0) (sp:=fun _=>spD 1 G) hn (by decide) hdf hr hY F (fun w H a ns hl _ hS=>zgB (hL w.params) hS (hG ns hl)) fun _ _ _ _ _ z=>z
end DV
set_option maxHeartbeats 400000
namespace L2
open PySem PySem.Spec PyProof.Rows
def Its (x:Str):It:=⟨fun i _=>i < x.cps.size,fun i H y H'=>H'=H∧∃ c,x.cps[i]? = some c∧y = .str ⟨#[c]⟩,fun i _=>i=x.cps.size⟩
theorem zcl {P:Wk} {w:Wp} {K:W0} {tg:Expr} (x:Str) (t:Tok) (it:Addr) (T:String) (hT:T = "str_ascii_iterator"∨T = "str_iterator"):Turn P w K tg (Its x) [it] it (fun i h=>h.IsStrIter it T x t i):=by
 have W:∀ A:Wn,A.handled=none→Walks P w A it [it] [it] x.cps.size (SignAt x) (fun i h=>h.IsStrIter it T x t i):=fun A hh=>by
  rcases hT with rfl | rfl
  ·exact Walks.strAscii hh it x t
  ·exact Walks.strWide hh it x t
 refine ⟨by simp,fun i h st b hb=>?_,fun i h h' st k=>?_,?_,?_,fun A i s Q E st h=>?_⟩
 ·have e:b=it:=by simpa using hb
  subst e
  obtain ⟨o,e,c,d⟩:=st
  exact ⟨o,e,fun v z=>by rw [d] at z; cases z⟩
 ·obtain ⟨o,e,r⟩:=st
  exact ⟨o,k it (by simp) o e,r⟩
 ·intro X hP hw hK hc i pins s σ H E I hf st hg
  subst hP hw hK
  obtain ⟨f0,f1,f2,f3,f4,f5⟩:=hf it (by simp)
  refine (W X.A (I.ok.hd hc)).item i s _ _ hg st fun v h' tk hv st' kk=>?_
  obtain ⟨c,u,hx,rfl⟩:=hv
  have I1:Inv X pins σ H { s with heap:=h',toks:=tk }:=I.turned (fun b o hb e=>kk b o (by simpa using hb) e) f0 f1 f3 f4 f5
  obtain ⟨o,e,c',d⟩:=id st'
  refine ⟨_,rfl,zde (s:={ s with heap:=h',toks:=tk }) e c' d (by rcases hT with rfl | rfl <;> decide) ⟨.str ⟨#[c]⟩,H,I1,⟨u,rfl⟩,⟨rfl,c,hx,rfl⟩,st',fun b hb=>(hf b hb).1⟩⟩
 ·intro X hP hw hK hc i pins s σ H E I hf st hg
  subst hP hw hK
  have hg':i=x.cps.size:=hg
  subst hg'
  obtain ⟨f0,f1,f2,f3,f4,f5⟩:=hf it (by simp)
  exact (W X.A (I.ok.hd hc)).done s _ _ st fun h' tk eb=>⟨rfl,I.turned (fun b o hb e=>eb b o (by simpa using hb) e) f0 f1 f3 f4 f5⟩
 ·rcases hT with rfl | rfl
  ·exact wpAny_pyIter_striter_ascii st h
  ·exact wpAny_pyIter_striter_wide st h
end L2
namespace DV
open PySem PySem.Spec PyProof.Rows L2
section
variable {X:Cx} {c:Fc} {tg e:Expr} {fe:DE} {pos pp:Pos}
def iSeqS (K:W0) (tl:TE):TI:=fun σ H R=>tl σ H fun x H1=>(∃ a,x = .ref a∧(∃ xs,SqL K H1 a xs)∧R (Itl K a) H1)∨(∃ a,x = .ref a∧(∃ xs,SqT K H1 a xs)∧R (Itt K a) H1)∨∃ z,x = .str z∧R (Its z) H1
theorem zeI {l:Expr} {tl:TE} (hl:PE X l tl):PI X tg l (iSeqS X.K tl):=by
 intro pins s σ H R I h
 refine thn (hl pins s σ H _ I h) fun v s1 ⟨x,H1,I1,r1,q1⟩=>?_
 rcases q1 with q1 | q1 | ⟨z,e,q⟩
 ·obtain ⟨a,e,⟨xs,hq⟩,q⟩:=q1
  subst e
  cases r1
  obtain ⟨its,rv,p,hz⟩:=I1.list hq
  refine Jz p.isList ?_
  refine ⟨s1.heap.objs.size,[s1.heap.objs.size],_,_,H1,rfl,I1.kept (t':=s1.toks) fun b o e=>W4 _ e,zap a _,⟨_,Wi _ rfl,rfl,rfl⟩,fun b hb=>?_,q⟩
  have e:b=s1.heap.objs.size:=by simpa using hb
  subst e
  exact I1.fpOk (W9 _) (I1.hok.fresh (W9 _))
 ·obtain ⟨a,e,⟨xs,hq⟩,q⟩:=q1
  subst e
  cases r1
  obtain ⟨its,rv,p,hz⟩:=I1.tuple hq
  refine QV (show s1.heap.IsTuple a its.toArray from p) ?_
  refine ⟨s1.heap.objs.size,[s1.heap.objs.size],_,_,H1,rfl,I1.kept (t':=s1.toks) fun b o e=>W4 _ e,z9B a _,⟨_,Wi _ rfl,rfl,rfl⟩,fun b hb=>?_,q⟩
  have e:b=s1.heap.objs.size:=by simpa using hb
  subst e
  exact I1.fpOk (W9 _) (I1.hok.fresh (W9 _))
 ·subst e
  obtain ⟨t,rfl⟩:=r1
  refine wpAny_pyIter_strU ?_
  have hT:strIterType z = "str_ascii_iterator"∨strIterType z = "str_iterator":=by
   unfold strIterType
   split
   ·exact .inl rfl
   ·exact .inr rfl
  refine ⟨s1.heap.objs.size,[s1.heap.objs.size],_,_,H1,rfl,I1.kept (t':=s1.toks) fun b o e=>W4 _ e,zcl z t _ _ hT,⟨_,Wi _ rfl,rfl,rfl⟩,fun b hb=>?_,q⟩
  have e:b=s1.heap.objs.size:=by simpa using hb
  subst e
  exact I1.fpOk (W9 _) (I1.hok.fresh (W9 _))
theorem zgK (z:Tx):ItOk c σ δ H (Its (toS z)) (z.map fun n=>D.str [n]):=by
 intro H2 kp
 have hsz:(toS z).cps.size=z.length:=by simp [toS]
 refine ⟨by show (z.map _).length=_; rw [hsz]; simp,fun i d e=>?_⟩
 rw [Qb] at e
 cases ez:z[i]? with
 | none=>rw [ez] at e; cases e
 | some n =>
  rw [ez] at e
  cases e
  have hi:i < z.length:=(Wa.mp ez).1
  refine ⟨by show i < _; rw [hsz]; exact hi,fun x H3 ⟨e3,cc,hc,hx⟩=>.inl ⟨e3,?_⟩⟩
  have:(toS z).cps[i]? = z[i]?:=by simp [toS]
  rw [this,ez] at hc
  cases hc
  rw [hx]
  exact .str [n]
def iSq (f:DE):DI:=fun δ=>(f δ).bind fun r δ1=>match r.d with
 | .lst ds=>.ok ds δ1
 | .tup ds=>.ok ds δ1
 | .str x=>.ok (x.map fun n=>.str [n]) δ1
 | _=>.stuck
theorem z5j (he:SE X c e fe):SI X c tg e (iSq fe):=PI.weak (zeI he) fun σ H R ⟨δ,k,q⟩=>by
 unfold iSq at q
 rw [z01] at q
 refine ⟨δ,k,z00 q fun r δ1 q1 v H1 a1 r1=>?_⟩
 have rr:=r1.rep
 generalize r.d=d at q1 rr
 cases d <;> first | exact q1.elim | skip
 ·cases rr
  exact .inr (.inr ⟨_,rfl,q1 _ H1 a1 (zgK _)⟩)
 ·cases rr with
  | tup h1 h2 h3 h4=>exact .inr (.inl ⟨_,rfl,⟨_,.of h2⟩,q1 _ H1 a1 (zgJ _ h2 (fun z=>h1 (.inr z)) ⟨h3,h4⟩)⟩)
 ·cases rr with
  | lst h1 h2 h3 h4 =>
   refine .inl ⟨_,rfl,⟨_,.inl h2⟩,q1 _ H1 a1 ?_⟩
   intro H2 kp
   rename_i a vs
   have h5:Rd H2 a (.lst vs):=Rd.keep h2 fun o e=>kp a o e fun z=>h1 (.inr z)
   have r':Reps H1 (Av c σ δ1) vs _:=⟨h3,h4⟩
   refine ⟨⟨vs,.inl h5,by rw [r'.1]; exact W9 _⟩,fun i d e=>?_⟩
   obtain ⟨v,ev,rv⟩:=r'.get e
   refine ⟨⟨vs,v,.inl h5,ev⟩,fun x H3 ⟨e3,y⟩=>.inl ⟨e3,?_⟩⟩
   have:=y vs (.inl h5)
   rw [ev] at this
   cases this
   exact rv
end
end DV
namespace L2
open PySem PySem.Spec PyProof.Rows
theorem z4m (r:Addr) (a b i:Int) (t1 t2 t3 t:Tok):Meets (Builtin.«range.__contains__» ⟨[.ref r,.int i t],[]⟩) (fun _ R s=>IsRange s.heap r a b 1 t1 t2 t3∧R (.ok (.ret (.bool (Builtin.Range.rangePlace? a b 1 i).isSome))) s) :=
 .of_wp fun prog w A R s h=>by obtain ⟨hp,g,d,tk,os⟩:=s; obtain ⟨hl,h⟩:=h; wp_walk; exact ⟨_,rfl,h⟩
theorem z4p (a b i:Int):(Builtin.Range.rangePlace? a b 1 i).isSome=(decide (a≤i) && decide (i < b)):=by
 unfold Builtin.Range.rangePlace?
 have:((i - a) % 1 == 0)=true:=by rw [Int.emod_one]; rfl
 simp only [this,JB,show ((1:Int) > 0)=True by simp,if_true]
 split <;> simp_all
theorem z6t (a:Int) (t:Tok) (l:Addr) (dd:Option Addr) (items:Array Value) (n:Nat) (sl:Array (Option Value)) :
  Meets (Builtin.«int.__rmul__» ⟨[.int a t,.ref l],[]⟩) (fun _ R s=>s.heap.get? l=some { cls:=.type "tuple",dict:=dd,data:=.seq items n,slots:=sl }∧R (.ok (.ret Value.notImplemented)) s) :=
 .of_wp fun prog w A R s h=>by obtain ⟨hp,g,d,tk,os⟩:=s; obtain ⟨hl,h⟩:=h; wp_walk; exact ⟨_,rfl,h⟩
theorem z5n:fillsNumberSlot (.type "tuple") "mul" = pure false :=
 PySem.fillsNumberSlot_seq (id:="tuple.__mul__") (r:=some (.builtin "tuple.__rmul__")) F.slot_tuple_mul.lookup (by decide +kernel) F.slot_tuple_rmul.lookup (by decide +kernel)
theorem z7A:seqRepeat? (.type "tuple")=pure (some (.builtin "tuple.__mul__")):=by
 unfold seqRepeat?
 rw [PySem.seqSlot_of (T:="tuple") (name:="__mul__") (id:="tuple.__mul__") F.slot_tuple_mul.lookup (by decide +kernel),PySem.seqSlot_of (T:="tuple") (name:="__rmul__") (id:="tuple.__rmul__") F.slot_tuple_rmul.lookup (by decide +kernel)]
 rfl
theorem z6m (l:Addr) (dd:Option Addr) (items:Array Value) (n:Nat) (sl:Array (Option Value)) (x:Int) (u:Tok) (h1:¬ (decide (x < -(2 ^ 63)) || decide (x ≥ 2 ^ 63))=true) (h2:¬ (items.isEmpty || x == 1)=true) (h3:¬ (decide (x≤0) || items.isEmpty)=true) (h4:¬ items.size * x > (2 ^ 63 - 1) / 8) (h5:¬ Builtin.Tuple.tupleTooMany (items.size * x)=true) (h6:((Wb x.toNat items).foldl (· ++ ·) #[]).size≤W6) :
  Meets (Builtin.«tuple.__mul__» ⟨[.ref l,.int x u],[]⟩) (fun _ R s=>s.heap.get? l=some { cls:=.type "tuple",dict:=dd,data:=.seq items n,slots:=sl } ∧
   R (.ok (.ret (.ref s.heap.objs.size))) { s with heap:=s.heap.push { cls:=.type "tuple",data:=.seq ((Wb x.toNat items).foldl (· ++ ·) #[]) } }) :=
 .of_wp fun prog w A R s h=>by
  obtain ⟨hp,g,d,tk,os⟩:=s; obtain ⟨hl,h⟩:=h
  wp_walk
  rw [if_neg h1]
  wp_walk
  try rw [if_neg h2]
  try wp_walk
  try rw [if_neg h3]
  try wp_walk
  try rw [if_neg h4]
  try wp_walk
  try rw [if_neg h5]
  try wp_walk
  exact ⟨_,rfl,h⟩
theorem z7d (its:List α):∀ (k:Nat) (acc:List α),List.foldl (fun x1 x2:Array α=>x1 ++ x2) acc.toArray (Wb k its.toArray)=(acc ++ (Wb k its).flatten).toArray
 | 0,acc=>by simp
 | k + 1,acc=>by
  rw [WZ,QU,show acc.toArray ++ its.toArray=(acc ++ its).toArray by simp,z7d its k]
  simp [WZ]
section
variable {X:Cx}
def zfV (K:W0):R2:=fun x y H Q=>∃ l k xs,x = .ref l∧y = .int k∧SqT K H l xs∧xs≠[]∧2≤k∧k≤1000000∧xs.length * k.toNat≤W6∧∀ p,H p=none→Q (.ref p) (upd H p (.tup (Wb k.toNat xs).flatten))
theorem zeS:OpR X (Q9 .Mult) (zfV X.K):=by
 intro pins s σ H x y v u Q I rx ry h
 obtain ⟨l,k,xs,rfl,rfl,hH,hne,h1,h2,hz,q⟩:=h
 cases rx
 obtain ⟨t,rfl⟩:=ry
 obtain ⟨its,r,pl,hl⟩:=I.tuple hH
 obtain ⟨⟨cls,dd,data,sl⟩,ho,hc,n,hd⟩:=id pl
 simp only at hc hd
 subst hc hd
 have hlen:its.toArray.size=xs.length:=by rw [Wd]; exact r.length.symm
 have hem:its.toArray.isEmpty=false:=by
  cases its with
  | nil=>exact absurd (r.nil_iff.mp rfl) hne
  | cons a b=>rfl
 have hline:W6=16777216:=rfl
 have hk:(k.toNat:Int)=k:=by omega
 have hmul:((its.toArray.size:Nat):Int) * k=((xs.length * k.toNat:Nat):Int):=by rw [hlen,Int.natCast_mul,hk]
 have hfold:List.foldl (fun x1 x2=>x1 ++ x2) #[] (Wb k.toNat its.toArray)=(Wb k.toNat its).flatten.toArray:=by
  have:=z84 its k.toNat []
  rw [WX] at this
  exact this
 refine wpAny_binaryOp_repeat_ref (T:="tuple") (U:="int") (by decide) ⟨_,ho,rfl⟩ (fun s'=>Js s' k t) z5n F.fills_int_mul F.slot_int_rmul z7A F.slot_int_index.lookup
  (J5 F.slot_int_rmul (Js s k t) F.entry_int_rmul (F.args_int_rmul_2 _ _) (z6t k t l dd its.toArray n sl)
   ⟨ho,rfl,⟨_,ho,rfl⟩,J5 F.slot_tuple_mul ⟨_,ho,rfl⟩ F.entry_tuple_mul (F.args_tuple_mul_2 _ _) (z6m l dd its.toArray n sl k t ?_ ?_ ?_ ?_ ?_ ?_) ⟨ho,?_⟩⟩)
 ·simp; omega
 ·rw [hem]; simp; omega
 ·rw [hem]; simp; omega
 ·rw [hmul]; omega
 ·rw [hmul]
  unfold Builtin.Tuple.tupleTooMany
  rw [hline] at hz
  generalize xs.length * k.toNat=m at hz
  simp only [hline,decide_eq_true_eq]
  omega
 ·rw [hfold,Wd,z8E,← r.length,Nat.mul_comm]; exact hz
 ·rw [hfold]
  have I1:Inv X pins σ (upd H s.heap.objs.size (.tup (Wb k.toNat xs).flatten)) { s with heap:=s.heap.push { cls:=.type "tuple",data:=.seq (Wb k.toNat its).flatten.toArray } } :=
   I.laid (t':=s.toks) (fun b o e=>W4 _ e) (W9 _) (show ObjOk X.prog X.w _ _ _ (.tup (Wb k.toNat xs).flatten) from ⟨by rw [z8E,Nat.mul_comm]; exact hz,(Wb k.toNat its).flatten,r.rep k.toNat,IsTupN.new _ _⟩)
  exact ⟨.ref _,_,I1,rfl,q _ (I.hok.fresh (W9 _))⟩
def zfW:R2:=fun x y H Q=>∃ z k,x = .str z∧y = .int k∧2≤k∧k≤1000000∧0 < z.length∧z.length * k.toNat≤W6∧Q (.str ⟨(Wb k.toNat z.cps).foldl (· ++ ·) #[]⟩) H
theorem op_repS:OpR X (Q9 .Mult) zfW:=by
 intro pins s σ H x y v u Q I rx ry h
 obtain ⟨z,k,rfl,rfl,h1,h2,h0,hz,q⟩:=h
 obtain ⟨t,rfl⟩:=rx
 obtain ⟨t',rfl⟩:=ry
 have hline:W6=16777216:=rfl
 have c1:¬ k < 1:=by omega
 have c2:(k == 1 || z.length == 0)=false:=by
  simp
  omega
 refine PySem.P.mul_str (by simp; omega) (fun _ _=>?_) (fun _ _=>?_) ?_
 ·have hm:(z.length:Int) * k≤16777216:=by
   have:(z.length:Int) * k=((z.length * k.toNat:Nat):Int):=by rw [Int.natCast_mul,show (k.toNat:Int)=k by omega]
   rw [this]
   rw [hline] at hz
   omega
  have:(z.length:Int)≤(2 ^ 63 - 1) / k:=(Int.le_ediv_iff_mul_le (by omega)).mpr (by omega)
  omega
 ·unfold Builtin.Str.tooLong
  rw [hline] at hz
  generalize z.length * k.toNat=m at hz
  simp only [hline,decide_eq_false_iff_not]
  omega
 ·rw [if_neg c1,if_neg (by rw [c2]; simp)]
  have hsz:((Wb k.toNat z.cps).foldl (· ++ ·) #[]).size=k.toNat * z.length:=by
   have h:=z7d z.cps.toList k.toNat []
   simp only [WX,Array.toArray_toList] at h
   rw [h,Wd,z8E]
   simp [Str.length]
  exact ⟨by show ((Wb k.toNat z.cps).foldl (· ++ ·) #[]).size≤_; rw [hsz,Nat.mul_comm]; exact hz,.str _,H,I.tok _,⟨_,rfl⟩,q⟩
theorem z6z:∀ {xs:List Nat} {us:List Value},us.length=xs.length→(∀ (j n:Nat) (v:Value),xs[j]? = some n→us[j]? = some v→∃ w,v = .str ⟨#[n]⟩ w)→Vals (xs.map fun n=>V.str ⟨#[n]⟩) us
 | [],[],_,_=>.nil
 | [],u :: us,h,_=>by simp at h
 | x :: xs,[],h,_=>by simp at h
 | x :: xs,u :: us,h,k=>.cons (by obtain ⟨w,e⟩:=k 0 x u rfl rfl; exact ⟨w,e⟩) (z6z (by simpa using h) fun j n v h1 h2=>k (j + 1) n v (by simpa using h1) (by simpa using h2))
theorem z6u (hc:X.calm=true):CallR X (.type "list") (fun xs H Q=>∃ z:Str,xs=[.str z]∧z.cps.size≤W6∧∀ l,H l=none→Q (.ref l) (upd H l (.lst (z.cps.toList.map fun n=>V.str ⟨#[n]⟩)))):=by
 intro pins s σ H xs us Q I r h
 obtain ⟨z,rfl,hz,q⟩:=h
 obtain ⟨u,rfl,t,rfl⟩:=z3F r
 refine call_list_str (hn:=hz) (I.ok.hd hc) z t fun h' tk acc c' kp e hacc=>?_
 have hv:Vals (z.cps.toList.map fun n=>V.str ⟨#[n]⟩) acc.toList:=z6z (by simp [hacc.1]) fun j n v h1 h2=>by
  obtain ⟨c,w,h3,h4⟩:=hacc.2 j v (by simpa using h2)
  rw [show z.cps[j]? = some n by simpa using h1] at h3
  cases h3
  exact ⟨w,h4⟩
 exact ⟨.ref s.heap.objs.size,_,I.laid (t':=tk) kp (W9 _) (show ObjOk X.prog X.w _ h' _ (.lst _) from ⟨by simpa using hz,acc.toList,c',hv,by simpa using e⟩),rfl,q _ (I.hok.fresh (W9 _))⟩
def tInR (neg:Bool) (ta:TE) (tx:TA):TE:=fun σ H Q=>ta σ H fun v H1=>tx σ H1 fun vs H2=>∃ i lo hi:Int,v = .int i∧vs=[.int lo,.int hi]∧Q (.bl (if neg then !(decide (lo≤i) && decide (i < hi)) else (decide (lo≤i) && decide (i < hi)))) H2
theorem zgl (neg:Bool) (hg:Gl X "range") (hm:X.mg "range" = none) (ha:PE X a ta) (hx:PA X [x,y] tx)
  (hs:W5 [x,y] X.env=(false,eval x X.env) :: W5 [y] X.env) (hpl:(WJ p2 (W5 [y] X.env)).any (·.1)=false:=by rfl)
  (hb:WQ (if neg then .NotIn else .In) (.Call (.Name "range" p) [x,y] [] p2)=false:=by rfl):PE X (.Compare a [if neg then .NotIn else .In] [.Call (.Name "range" p) [x,y] [] p2] pos) (tInR neg ta tx):=by
 intro pins s σ H Q I h
 refine wpAny_Compare1 (thn (ha pins s σ H _ I h) fun v s1 ⟨xv,H1,I1,r1,q1⟩=>?_) hb
 refine Call_ (z5h I1 hg hm boot_range (Q4 (thn (hx p2 pins s1 σ H1 _ I1 q1) fun us s2 ⟨vs,H2,I2,r2,q2⟩=>?_) hs hpl))
 obtain ⟨i,lo,hi,rfl,rfl,q⟩:=q2
 obtain ⟨t,rfl⟩:=r1
 obtain ⟨u1,u2,rfl,⟨t1,rfl⟩,⟨t2,rfl⟩⟩:=zam r2
 refine call_range_2 ?_
 have I3:Inv X pins σ H2 { s2 with heap:=s2.heap.push { cls:=.type "range",data:=.fields #[.int lo t1,.int hi t2,.int 1 s2.toks] },toks:=s2.toks + 1 }:=I2.kept fun b o e=>W4 _ e
 cases neg with
 | false=>exact SeqRoads2.in_meets ⟨_,Wi _ rfl,rfl⟩ J1 QY (QR _ _) (z4m _ lo hi i t1 t2 _ t) ⟨IsRange.new ..,_,rfl,.bl _,H2,I3,rfl,by rw [z4p]; exact q⟩
 | true=>exact SeqRoads2.notIn_meets ⟨_,Wi _ rfl,rfl⟩ J1 QY (QR _ _) (z4m _ lo hi i t1 t2 _ t) ⟨IsRange.new ..,_,rfl,.bl _,H2,I3,rfl,by rw [z4p]; exact q⟩
end
end L2
namespace DV
open PySem PySem.Spec PyProof.Rows L2
def z5N:D→D→Option S
 | .int i,.int j=>pMul (.int i) (.int j)
 | .str x,.int k=>if 2≤k∧k≤1000000∧0 < x.length∧x.length * k.toNat≤W6 then some (.pure (.str (Wb k.toNat x).flatten)) else none
 | .tup xs,.int k=>if 2≤k∧k≤1000000∧0 < xs.length∧xs.length * k.toNat≤W6 then some (.pure (.tup (Wb k.toNat xs).flatten)) else none
 | _,_=>none
def zfY (K:W0):R2:=fun x y H Q=>rI CMul (fun i j=>V.int (i * j)) x y H Q∨zfW x y H Q∨zfV K x y H Q
theorem z8y:OpR X (Q9 .Mult) (zfY X.K):=op_mul.or (op_repS.or zeS)
theorem Reps.rep (h:Reps H O vs ds):∀ k:Nat,Reps H O (Wb k vs).flatten (Wb k ds).flatten
 | 0=>.nil
 | k + 1=>by rw [WZ,WZ,QD,QD]; exact h.append (Reps.rep h k)
theorem z8z {K:W0}:Op2 (zfY K) z5N:=by
 intro c σ δ H x y d e s Q k rx ry hp q
 cases d <;> cases e <;> first | (simp [z5N] at hp; done) | skip
 ·exact .inl (zgu c σ δ H x y _ _ s Q k rx ry hp q)
 ·rename_i z n
  simp only [z5N] at hp
  split at hp
  ·rename_i h
   cases hp
   refine .inr (.inl ⟨toS z,n,rx.str,ry.int,h.1,h.2.1,by rw [z2z]; exact h.2.2.1,by rw [z2z]; exact h.2.2.2,?_⟩)
   have e:(⟨(Wb n.toNat (toS z).cps).foldl (· ++ ·) #[]⟩:Str)=toS (Wb n.toNat z).flatten:=by
    unfold toS
    congr 1
    have:=z7d z n.toNat []
    rw [WX] at this
    exact this
   rw [e]
   exact q _ H (.refl k) (.str _)
  ·cases hp
 ·rename_i ds n
  simp only [z5N] at hp
  split at hp
  ·rename_i h
   cases hp
   obtain ⟨a,vs,ex,ha,r⟩:=rx.tup
   refine .inr (.inr ⟨a,n,vs,ex,ry.int,.of ha,?_,h.1,h.2.1,by rw [r.1]; exact h.2.2.2,fun p hp'=>?_⟩)
   ·intro z
    rw [z] at r
    have:=r.1
    simp at this
    omega
   ·exact q _ _ (.alloc k hp' _) (RepS.newT k (Reps.rep r _) hp')
  ·cases hp
theorem RepS.newD (k:Ok c σ δ H) (hp:H p=none):RepS c σ δ H (upd H p (.dK [])) (.ref p) (.own (.dct [])):=by
 refine ⟨p,rfl,⟨[],z0t,rfl,fun i p q e=>by simp at e⟩,fun z=>k.nav hp (.inl z),k.fresh₀ hp,k.plus hp _,hp⟩
def zbS:DE:=fun δ=>.ok (.own (.dct [])) δ
theorem zcy {X:Cx} {c:Fc} {pos:Pos}:SE X c (.Dict [] [] pos) zbS:=PE.weak zcO fun σ H Q ⟨δ,k,q⟩=>fun p hp=>q _ _ (.alloc k hp _) (RepS.newD k hp)
def z5f:D→Option S
 | .lst ds=>some (.own (.lst ds))
 | .tup ds=>some (.own (.lst ds))
 | .str x=>if x.length≤W6 then some (.own (.lst (x.map fun n=>.str [n]))) else none
 | _=>none
section
variable {X:Cx} {c:Fc} {e a x y:Expr} {fb:BE} {f g fa:DE} {pos pp p p2:Pos}
theorem z6A:∀ z:Tx,Reps H O (z.map fun n=>V.str ⟨#[n]⟩) (z.map fun n=>D.str [n])
 | []=>.nil
 | n :: r=>.cons (.str [n]) (z6A r)
theorem z6S (hc:X.calm=true) (hg:Gl X "list") (hm:X.mg "list" = none) (he:SB X c e fb) (hs:z2h e=true:=by rfl):SE X c (.Call (.Name "list" pp) [e] [] pos) (eC1 z5f fb) :=
 z4g (r:=fun v H Q=>(∃ p ys,v = .ref p∧(SqL X.K H p ys∨SqT X.K H p ys)∧∀ l,H l=none→Q (.ref l) (upd H l (.lst ys)))∨∃ z:Str,v = .str z∧z.cps.size≤W6∧∀ l,H l=none→Q (.ref l) (upd H l (.lst (z.cps.toList.map fun n=>V.str ⟨#[n]⟩))))
  (call_list_of.or (z6u hc)) (fun v H Q h=>by
   rcases h with ⟨p,ys,e,h⟩ | ⟨z,e,h⟩
   ·exact .inl ⟨p,ys,by rw [e],h⟩
   ·exact .inr ⟨z,by rw [e],h⟩)
  (fun c σ δ H x d s Q k rx hp q=>by
   cases d with
   | lst ds =>
    cases hp
    obtain ⟨a,vs,ex,ha,r⟩:=rx.lst
    exact .inl ⟨a,vs,ex,.inl (.inl ha),fun l hl=>q _ _ (.alloc k hl _) (RepS.newL k r hl)⟩
   | tup ds =>
    cases hp
    obtain ⟨a,vs,ex,ha,r⟩:=rx.tup
    exact .inl ⟨a,vs,ex,.inr (.of ha),fun l hl=>q _ _ (.alloc k hl _) (RepS.newL k r hl)⟩
   | str z =>
    simp only [z5f] at hp
    split at hp
    ·rename_i hz
     cases hp
     refine .inr ⟨toS z,rx.str,by simpa [toS] using hz,fun l hl=>?_⟩
     have:(toS z).cps.toList=z:=by simp [toS]
     rw [this]
     exact q _ _ (.alloc k hl _) (RepS.newL k (z6A z) hl)
    ·cases hp
   | _=>simp [z5f] at hp) hg hm PyProof.Rows.boot_list he (by decide) (by decide) (z3f hs)
def eInR (neg:Bool) (fa f g:DE):DE:=fun δ=>(fa δ).bind fun v δ1=>(f δ1).bind fun lo δ2=>(g δ2).bind fun hi δ3=>match v.d,lo.d,hi.d with
 | .int i,.int l,.int h=>.ok (.pure (.bl (if neg then !(decide (l≤i) && decide (i < h)) else (decide (l≤i) && decide (i < h))))) δ3
 | _,_,_=>.stuck
theorem z9h (h:tD c (eInR neg fa f g) σ H Q):tInR neg (tD c fa) (tAD c (z0b f (z0b g aNil))) σ H Q:=by
 obtain ⟨δ,k,q⟩:=h
 unfold eInR at q
 rw [z01] at q
 refine ⟨δ,k,z00 q fun v δ1 q1 u H1 a1 r1=>⟨δ1,a1.ok,?_⟩⟩
 unfold z0b
 rw [z01] at q1 ⊢
 refine z00 q1 fun lo δ2 q2=>?_
 rw [z01] at q2 ⊢
 rw [z01]
 refine z00 q2 fun hi δ3 q3=>?_
 intro vs H3 a3 r3
 have r3:Reps H3 (Av c σ δ3) vs [lo.d,hi.d]:=r3
 have rv:=Rep.aft r1.rep a3
 generalize v.d=d at q3 rv
 generalize lo.d=dl at q3 r3
 generalize hi.d=dh at q3 r3
 cases d <;> first | exact q3.elim | skip
 cases dl <;> first | exact q3.elim | skip
 cases dh <;> first | exact q3.elim | skip
 rename_i i l h
 cases rv
 refine ⟨i,l,h,rfl,?_,q3 _ H3 (a1.trans a3) (.bl _)⟩
 have hl:=r3.1
 match vs,hl,r3 with
 | [x1,x2],_,r3 =>
  have r1:=r3.2 0 x1 _ rfl rfl
  have r2:=r3.2 1 x2 _ rfl rfl
  cases r1
  cases r2
  rfl
theorem zdG (neg:Bool) (hg:Gl X "range") (hm:X.mg "range" = none) (ha:SE X c a fa) (hx:SE X c x f) (hy:SE X c y g) (hs:z2h x=true:=by rfl) (hs2:z2h y=true:=by rfl) (hpl:(WJ p2 (W5 [y] X.env)).any (·.1)=false:=by rfl)
  (hb:WQ (if neg then .NotIn else .In) (.Call (.Name "range" p) [x,y] [] p2)=false:=by rfl):SE X c (.Compare a [if neg then .NotIn else .In] [.Call (.Name "range" p) [x,y] [] p2] pos) (eInR neg fa f g) :=
 PE.weak (zgl neg hg hm ha (z02 hx (z02 hy z0w hs2) hs).pa (z3f hs) hpl hb) fun _ _ _ h=>z9h h
theorem zg6 (neg:Bool) (hg:Gl X "range") (hm:X.mg "range" = none) (ha:PE X a ta) (hx:PA X [x,y] tx)
  (hs:W5 [x,y] X.env=(false,eval x X.env) :: W5 [y] X.env) (hpl:(WJ p2 (W5 [y] X.env)).any (·.1)=false:=by rfl)
  (hb:WQ (if neg then .NotIn else .In) (.Call (.Name "range" p) [x,y] [] p2)=false:=by rfl):PT X (.Compare a [if neg then .NotIn else .In] [.Call (.Name "range" p) [x,y] [] p2] pos) (zee (tInR neg ta tx)):=by
 intro pins s σ H Q I h
 refine wpAny_isTrue_Compare1 (thn (ha pins s σ H _ I h) fun v s1 ⟨xv,H1,I1,r1,q1⟩=>?_) hb
 refine Call_ (z5h I1 hg hm boot_range (Q4 (thn (hx p2 pins s1 σ H1 _ I1 q1) fun us s2 ⟨vs,H2,I2,r2,q2⟩=>?_) hs hpl))
 obtain ⟨i,lo,hi,rfl,rfl,b,eb,q⟩:=q2
 cases eb
 obtain ⟨t,rfl⟩:=r1
 obtain ⟨u1,u2,rfl,⟨t1,rfl⟩,⟨t2,rfl⟩⟩:=zam r2
 refine call_range_2 ?_
 have I3:Inv X pins σ H2 { s2 with heap:=s2.heap.push { cls:=.type "range",data:=.fields #[.int lo t1,.int hi t2,.int 1 s2.toks] },toks:=s2.toks + 1 }:=I2.kept fun b o e=>W4 _ e
 cases neg with
 | false=>exact SeqRoads2.in_meets ⟨_,Wi _ rfl,rfl⟩ J1 QY (QR _ _) (z4m _ lo hi i t1 t2 _ t) ⟨IsRange.new ..,_,rfl,WG ⟨H2,I3,by rw [z4p]; exact q⟩⟩
 | true=>exact SeqRoads2.notIn_meets ⟨_,Wi _ rfl,rfl⟩ J1 QY (QR _ _) (z4m _ lo hi i t1 t2 _ t) ⟨IsRange.new ..,_,rfl,WG ⟨H2,I3,by rw [z4p]; exact q⟩⟩
theorem zdD (neg:Bool) (hg:Gl X "range") (hm:X.mg "range" = none) (ha:SE X c a fa) (hx:SE X c x f) (hy:SE X c y g) (hs:z2h x=true:=by rfl) (hs2:z2h y=true:=by rfl) (hpl:(WJ p2 (W5 [y] X.env)).any (·.1)=false:=by rfl)
  (hb:WQ (if neg then .NotIn else .In) (.Call (.Name "range" p) [x,y] [] p2)=false:=by rfl):ST X c (.Compare a [if neg then .NotIn else .In] [.Call (.Name "range" p) [x,y] [] p2] pos) (dTr (eInR neg fa f g)) :=
 PT.weak (zg6 neg hg hm ha (z02 hx (z02 hy z0w hs2) hs).pa (z3f hs) hpl hb) fun _ _ _ h=>z9h (z5C h)
def pInS (neg:Bool):D→D→Option S
 | .str [n],.str y=>some (.pure (.bl (if neg then !decide (n ∈ y) else decide (n ∈ y))))
 | _,_=>none
theorem z7Q:Op2 (fun x y H Q=>∃ i j,x = .str i∧y = .str j∧Q (.bl (!(!(Qp j i 0 j.length 1).isEmpty))) H) (pInS true):=by
 intro c σ δ H x y d e s Q k rx ry hp q
 unfold pInS at hp
 split at hp
 ·rename_i n z
  cases hp
  refine ⟨toS [n],toS z,rx.str,ry.str,?_⟩
  rw [show toS [n] = ⟨#[n]⟩ from rfl,PySem.StrLaws.found_one,show (toS z).cps.toList=z by simp [toS]]
  exact q _ H (.refl k) (.bl _)
 ·cases hp
end
end DV
set_option maxHeartbeats 1000000
namespace L2
open PySem PySem.Spec PyProof.Rows
theorem z3v:entryFor table "dict.update.loop" = some Builtin.«dict.update.loop»:=entryFor_of_tree (by kernel_rfl)
theorem z1g:plainId "dict.update.loop" = true:=by decide +kernel
theorem z5Z:typeLookup (.type "tuple") "keys" = pure none:=by rw [typeLookup_type,builtinLookup_eq_fast]; kernel_rfl
theorem z6r:typeLookup (.type "list") "keys" = pure none:=by rw [typeLookup_type,builtinLookup_eq_fast]; kernel_rfl
set_option maxRecDepth 8000 in
theorem z7R
  (hx:s.heap.get? a=some o) (hc:o.cls = .type "tuple") (hdat:o.data = .seq xs k) (hd:o.dict=none) (hA:A.handled=none)
  (h:∀ h' tk,(∀ b ob,s.heap.get? b=some ob→h'.get? b=some ob)→Q none { s with heap:=h',toks:=tk }) :
  W8 (model prog w) A (getAttr? (.ref a) "keys") Q E s:=by
 obtain ⟨c,dct,dat,sl⟩:=o
 simp only at hc hdat hd
 subst hc hdat hd
 obtain ⟨hp,g,d,tk,os⟩:=s
 have hT:∀ tk',(⟨hp,g,d,tk',os⟩:W2).TypeIs (.ref a) "tuple":=fun _=>⟨_,hx,rfl⟩
 have f1:=sub_AttributeError
 have f3:=F.slot_tuple_getattribute.lookup
 have f4:=F.slot_tuple_getattribute.bind (.ref a)
 have f5:=am_tuple_getattr_none
 have hmiss:=z5Z
 unfold getAttr? getAttrBy? getAttrBy
 repeat (any_goals (first | assumption | exact hT _ | ((with_reducible show W8 _ _ (call (Value.builtin "tuple.__getattribute__") _ _) _ _ _); refine J5 F.slot_tuple_getattribute (hT _) am_entry_tuple_getattribute (F.args_tuple_getattribute_2 _ _) (meets_getattribute_miss_tuple a xs k sl "keys" _ hmiss (by decide +kernel)) ⟨hx,hA,fun h' tk' e hx'=>?_⟩) | wp_step))
 obtain ⟨t',u',he⟩:=hx'.there
 show W8 _ _ (Jm _ _ _ _ _ _ _) _ _ _
 unfold Jm
 repeat (any_goals (first | assumption | wp_step))
 exact h _ _ hx'.keeps
set_option maxRecDepth 8000 in
theorem z8A
  (hx:s.heap.get? a=some o) (hc:o.cls = .type "list") (hdat:o.data = .seq xs k) (hd:o.dict=none) (hA:A.handled=none)
  (h:∀ h' tk,(∀ b ob,s.heap.get? b=some ob→h'.get? b=some ob)→Q none { s with heap:=h',toks:=tk }) :
  W8 (model prog w) A (getAttr? (.ref a) "keys") Q E s:=by
 obtain ⟨c,dct,dat,sl⟩:=o
 simp only at hc hdat hd
 subst hc hdat hd
 obtain ⟨hp,g,d,tk,os⟩:=s
 have hT:∀ tk',(⟨hp,g,d,tk',os⟩:W2).TypeIs (.ref a) "list":=fun _=>⟨_,hx,rfl⟩
 have f1:=sub_AttributeError
 have f3:=F.slot_list_getattribute.lookup
 have f4:=F.slot_list_getattribute.bind (.ref a)
 have f5:=am_list_getattr_none
 have hmiss:=z6r
 unfold getAttr? getAttrBy? getAttrBy
 repeat (any_goals (first | assumption | exact hT _ | ((with_reducible show W8 _ _ (call (Value.builtin "list.__getattribute__") _ _) _ _ _); refine J5 F.slot_list_getattribute (hT _) am_entry_list_getattribute (F.args_list_getattribute_2 _ _) (meets_getattribute_miss_list a xs k sl "keys" _ hmiss (by decide +kernel)) ⟨hx,hA,fun h' tk' e hx'=>?_⟩) | wp_step))
 obtain ⟨t',u',he⟩:=hx'.there
 show W8 _ _ (Jm _ _ _ _ _ _ _) _ _ _
 unfold Jm
 repeat (any_goals (first | assumption | wp_step))
 exact h _ _ hx'.keeps
def z1S (kps:List (Key×V)) (acc:List (Key×V)):List (Key×V):=kps.foldl (fun a kv=>putK a kv.1 kv.2) acc
theorem zbU {prog:Wk} {w:Wp} {A:Wn} {R:Result→W2→Prop} {s:W2} {dl it:Addr} {i:Int} {t0:Tok}
  (hn:W8 (model prog w) A.in1 (pyNext (.ref it)) (fun r s1=>∃ (q:Addr) (k v:Value) (n:Nat),r=some (.ref q)∧s1.heap.get? q=some { cls:=.type "tuple",dict:=none,data:=.seq #[k,v] n,slots:=#[] } ∧
   W8 (model prog w) A.in1 (dictSet dl k v) (fun _ s2=>Qr (model prog w) A (.builtin "dict.update.loop" ⟨[.ref dl,.ref it,Qq (i + 1),.none],[]⟩) R s2) (fun _ _=>False) s1) (fun _ _=>False) s) :
  Qr (model prog w) A (.builtin "dict.update.loop" ⟨[.ref dl,.ref it,.int i t0,.none],[]⟩) R s:=by
 refine codeAny_builtin z3v ?_
 rw [Around.under_plainId z1g _]
 show W8 _ A.in1 (pyNext (.ref it) >>= _) _ _ s
 refine W1 (WU hn (fun r s1 hr=>?_) fun _ _ z=>z.elim)
 obtain ⟨q,k,v,n,rfl,hq,hd⟩:=hr
 dsimp only
 refine W1 ?_
 try with_reducible refine WR ?_
 refine W1 (wpAny_tryCatch ?_)
 have hT:s1.TypeIs (.ref q) "tuple":=⟨_,hq,rfl⟩
 unfold Builtin.Dict.pairItems
 refine W1 (J0 hT ?_)
 rw [if_pos (by decide)]
 refine W1 ?_
 unfold seqItems?
 refine W1 (wpAny_load hq (Wc ?_))
 refine Wc ?_
 show W8 _ A.in1 (holding [k,v] (dictSet dl k v)) _ _ s1
 try with_reducible refine WR ?_
 refine WU hd (fun _ s2 h2=>?_) fun _ _ z=>z.elim
 exact Wc ⟨plainId_quiet z1g _,h2⟩
theorem zbV {prog:Wk} {w:Wp} {A:Wn} {R:Result→W2→Prop} {s:W2} {dl it:Addr} {i:Int} {t0:Tok}
  (hn:W8 (model prog w) A.in1 (pyNext (.ref it)) (fun r s1=>r=none∧R (.ok (.ret .none)) s1) (fun _ _=>False) s) :
  Qr (model prog w) A (.builtin "dict.update.loop" ⟨[.ref dl,.ref it,.int i t0,.none],[]⟩) R s:=by
 refine codeAny_builtin z3v ?_
 rw [Around.under_plainId z1g _]
 show W8 _ A.in1 (pyNext (.ref it) >>= _) _ _ s
 refine W1 (WU hn (fun r s1 hr=>?_) fun _ _ z=>z.elim)
 obtain ⟨rfl,hd⟩:=hr
 dsimp only
 show W8 _ A.in1 (Builtin.Dict.addKeywords dl [] >>= _) _ _ s1
 exact W1 (Wc (Wc hd))
section
variable {X:Cx} {pins:List (Addr×Obj)} {σ:St} {H:Hp}
theorem Rd.sub (h:Rd H a u) (k:∀ b o,H b=some o→H' b=some o):Rd H' a u:=by
 rcases h with h | ⟨o,h⟩
 ·exact .inl (k _ _ h)
 ·exact .inr ⟨o,k _ _ h⟩
def z7o (H:Hp) (ys:List V) (kps:List (Key×V)):Prop:=ys.length=kps.length∧∀ (i:Nat) y kv,ys[i]? = some y→kps[i]? = some kv→∃ q,y = .ref q∧H q=some (.tup [kV kv.1,kv.2])
theorem z4A:∀ (kps acc:List (Key×V)),(z1S kps acc).length≤acc.length + kps.length
 | [],acc=>W9 _
 | kv :: r,acc=>by
  have h1:=z4A r (putK acc kv.1 kv.2)
  have h2:=z35 acc kv.1 kv.2
  show (z1S r (putK acc kv.1 kv.2)).length≤_
  simp only [WH]
  omega
theorem z8v (kps:List (Key×V)) (kv:Key×V) (acc:List (Key×V)):z1S (kps ++ [kv]) acc=putK (z1S kps acc) kv.1 kv.2:=by
 unfold z1S
 rw [List.foldl_append]
 rfl
theorem z8b {A:Wn} {R:Result→W2→Prop} {dl it:Addr} {ys:List V} {kps:List (Key×V)} {tn:Nat→Heap→Prop} (hP:z7o H ys kps) (hdl:H dl=none) (hz:kps.length≤W6)
  (item:∀ (i:Nat) (y:V) (H':Hp) (s:W2) (Q:Option Value→W2→Prop),(∀ b o,H b=some o→H' b=some o)→H' it=none→Inv X pins σ H' s→tn i s.heap→ys[i]? = some y→(∀ u s',RelV y u→Inv X pins σ H' s'→tn (i + 1) s'.heap→Q (some u) s')→W8 (model X.prog X.w) A.in1 (pyNext (.ref it)) Q (fun _ _=>False) s)
  (done:∀ (H':Hp) (s:W2) (Q:Option Value→W2→Prop),(∀ b o,H b=some o→H' b=some o)→H' it=none→Inv X pins σ H' s→tn ys.length s.heap→(∀ s',Inv X pins σ H' s'→Q none s')→W8 (model X.prog X.w) A.in1 (pyNext (.ref it)) Q (fun _ _=>False) s)
  (keep:∀ (i:Nat) (h h':Heap),tn i h→(∀ o,h.get? it=some o→h'.get? it=some o)→tn i h') (hit:H it=none) (hne:it≠dl) (hR:∀ s',Inv X pins σ (upd H dl (.dK (z1S kps []))) s'→R (.ok (.ret .none)) s') :
  ∀ (k i:Nat) (s:W2) (j:Int) (t0:Tok),ys.length - i=k→i≤ys.length→Inv X pins σ (upd H dl (.dK (z1S (kps.take i) []))) s→tn i s.heap →
   Qr (model X.prog X.w) A (.builtin "dict.update.loop" ⟨[.ref dl,.ref it,.int j t0,.none],[]⟩) R s:=by
 have up:∀ (acc:List (Key×V)) b o,H b=some o→upd H dl (.dK acc) b=some o:=fun acc b o e=>by rw [z0l (z0L e hdl)]; exact e
 have nit:∀ acc:List (Key×V),upd H dl (.dK acc) it=none:=fun acc=>by rw [z0l hne]; exact hit
 intro k
 induction k with
 | zero =>
  intro i s j t0 hk hi I st
  have e:i=ys.length:=by omega
  subst e
  rw [hP.1,List.take_of_length_le (W9 _)] at I
  refine zbV (done _ s _ (up _) (nit _) I st fun s' I'=>⟨rfl,hR s' I'⟩)
 | succ k ih =>
  intro i s j t0 hk hi I st
  have hlt:i < ys.length:=by omega
  have hlk:i < kps.length:=by rw [← hP.1]; exact hlt
  obtain ⟨q,ey,hq⟩:=hP.2 i ys[i] kps[i] (by simp [hlt]) (by simp [hlk])
  -- the item is a tuple of two
  have main:∀ s1,Inv X pins σ (upd H dl (.dK (z1S (kps.take i) []))) s1→tn (i + 1) s1.heap→∃ (kk vv:Value) (n:Nat),s1.heap.get? q=some { cls:=.type "tuple",dict:=none,data:=.seq #[kk,vv] n,slots:=#[] }∧RelV (kV kps[i].1) kk∧RelV kps[i].2 vv:=fun s1 I1 _=>by
   obtain ⟨_,its,r,n,e⟩:=(show ObjOk X.prog X.w _ s1.heap q (.tup [kV kps[i].1,kps[i].2]) from I1.hok q _ (up _ q _ hq))
   obtain ⟨u,v,rfl,r1,r2⟩:=Vals.two r
   exact ⟨u,v,n,e,r1,r2⟩
  refine zbU (item i ys[i] _ s _ (up _) (nit _) I st (by simp [hlt]) fun u s' ru I' st'=>?_)
  rw [ey] at ru
  cases ru
  obtain ⟨kk,vv,n,e,r1,r2⟩:=main s' I' st'
  refine ⟨q,kk,vv,n,rfl,e,?_⟩
  obtain ⟨z,hd,vs,rel,dd⟩:=zgZ I'.hok z0t
  have hvs:vs.length≤W6:=by rw [← rel.length]; exact z
  have hl:(putK (z1S (kps.take i) []) kps[i].1 kps[i].2).length≤W6:=by
   have h1:=z35 (z1S (kps.take i) []) kps[i].1 kps[i].2
   have h2:=z4A (kps.take i) []
   simp at h2
   omega
  refine wpAny_dictSet_pairs (hsz:=hvs) (zbt r1) dd fun h' dd' hs=>?_
  have he:∃ q,h'.get? dl=some q:=let ⟨q,_,_,hq,_⟩:=dd'; ⟨q,hq⟩
  have I2:=z8I (t':=s'.toks + 1) I' (by rw [z0t]; exact True.intro) hs he (ze2 hl hd (rel.put kps[i].1 r2) dd')
  rw [ze7] at I2
  have et:kps.take (i + 1)=kps.take i ++ [kps[i]]:=by rw [List.take_add_one]; simp [hlk]
  rw [show putK (z1S (kps.take i) []) kps[i].1 kps[i].2=z1S (kps.take (i + 1)) [] by rw [et,z8v]] at I2
  exact ih (i + 1) _ (j + 1) _ (by omega) hlt I2 (keep (i + 1) _ _ st' fun o eo=>(hs.2 it hne).trans eo)
theorem z6h (hc:X.calm=true):CallR X (.type "dict") (fun xs H Q=>∃ p ys kps,xs=[.ref p]∧(H p=some (.tup ys)∨Rd H p (.lst ys))∧z7o H ys kps∧kps.length≤W6∧∀ l,H l=none→Q (.ref l) (upd H l (.dK (z1S kps [])))):=by
 intro pins s σ H xs us Q I r h
 obtain ⟨p,ys,kps,rfl,hp,hP,hz,q⟩:=h
 obtain ⟨u,rfl,rx⟩:=z3F r
 cases rx
 have hA:X.A.handled=none:=I.ok.hd hc
 refine callType_codes (Q₁:=fun obj s₁=>obj = .ref s.heap.objs.size∧s₁ = { s with heap:=s.heap.push { cls:=.type "dict",data:=.dict #[] } }) F.kt_called_dict (F.kt_typeCall_dict_1 _) F.entry_dict_init (kt_code_dict_new _ ⟨rfl,rfl⟩) ?_
 rintro obj s₁ ⟨rfl,rfl⟩
 have hdl:H s.heap.objs.size=none:=I.hok.fresh (W9 _)
 have I1:Inv X pins σ (upd H s.heap.objs.size (.dK [])) { s with heap:=s.heap.push { cls:=.type "dict",data:=.dict #[] } }:=I.laid (t':=s.toks) (fun _ _ q=>W4 _ q) (W9 _) (z9r s.heap I.big)
 generalize hdd:s.heap.objs.size=dl at hdl I1
 have up:∀ (acc:List (Key×V)) b o,H b=some o→upd H dl (.dK acc) b=some o:=fun acc b o e=>by rw [z0l (z0L e hdl)]; exact e
 have hTd:({ s with heap:=s.heap.push { cls:=.type "dict",data:=.dict #[] } }:W2).TypeIs (.ref dl) "dict":=⟨_,by rw [← hdd]; exact Wi _ rfl,rfl⟩
 refine ⟨hTd,F.args_dict_init_2 _ _,?_⟩
 unfold Builtin.«dict.__init__»
 refine W1 ?_
 unfold Builtin.Dict.selfAndRest
 refine W1 (wpAny_notOrdered_dict hTd ?_)
 show W8 _ _ (pure (dl,[Value.ref p])) _ _ _
 refine Wc ?_
 show W8 _ _ (Builtin.Dict.updateFrom "dict.__init__" dl (.ref p) [] .none) _ _ _
 unfold Builtin.Dict.updateFrom
 have fin:∀ s',Inv X pins σ (upd H dl (.dK (z1S kps []))) s'→EP X pins σ Q (.ref dl) s':=fun s' I'=>⟨.ref dl,_,I',rfl,q dl hdl⟩
 rcases hp with hp | hp
 ·obtain ⟨_,its,r,n,e⟩:=(show ObjOk X.prog X.w _ (s.heap.push { cls:=.type "dict",data:=.dict #[] }) p (.tup ys) from I1.hok p _ (up _ p _ hp))
  refine W1 (J0 ⟨_,e,rfl⟩ ?_)
  rw [if_pos (by decide)]
  refine W1 (z7R e rfl rfl rfl hA fun h' tk kp=>?_)
  rw [if_pos (show (none:Option Value).isNone=true from rfl)]
  refine W1 (Ju ?_)
  have I2:Inv X pins σ (upd H dl (.dK [])) { s with heap:=h',toks:=tk }:=I1.kept kp
  have isT:h'.IsTuple p its.toArray:=⟨_,kp _ _ e,rfl,n,rfl⟩
  refine W1 (QV (s:={ s with heap:=h',toks:=tk }) isT ?_)
  refine Wc ⟨plainId_quiet z1g _,?_⟩
  have hfr:upd H dl (.dK []) h'.objs.size=none:=I2.hok.fresh (W9 _)
  have hne:h'.objs.size≠dl:=fun z=>by rw [z,z0t] at hfr; cases hfr
  have hit:H h'.objs.size=none:=by rw [z0l hne] at hfr; exact hfr
  have fp:∀ H':Hp,H' h'.objs.size=none→FpOk X pins H' h'.objs.size:=fun H' hn=>I2.fpOk (W9 _) hn
  refine z8b (X:=X) (pins:=pins) (σ:=σ) (H:=H) (dl:=dl) (it:=h'.objs.size) (ys:=ys) (kps:=kps) (tn:=fun i h=>h.IsTupleIter h'.objs.size p i) hP hdl hz ?_ ?_ (fun i h h2 st k=>st.at k) hit hne (fun s' I'=>⟨rfl,fin s' I'⟩) ys.length 0 _ 0 _ (Nat.sub_zero _) (WY _) ?_ ?_
  ·intro i y H' s' Q' sub hn I' st hy k
   obtain ⟨_,its2,r2,n2,e2⟩:=(show ObjOk X.prog X.w _ s'.heap p (.tup ys) from I'.hok p _ (sub p _ hp))
   obtain ⟨v,hv,rv⟩:=r2.get hy
   obtain ⟨f0,f1,f2,f3,f4,f5⟩:=fp H' hn
   refine wpAny_pyNext_tuple_item st (items:=its2.toArray) ⟨_,e2,rfl,n2,rfl⟩ (x:=v) (by simpa using hv) fun h3 st3 sb=>?_
   exact k v { s' with heap:=h3 } rv (I'.turned (t':=s'.toks) (fun b o hb e=>(sb.2 b hb).trans e) f0 f1 f3 f4 f5) st3
  ·intro H' s' Q' sub hn I' st k
   obtain ⟨_,its2,r2,n2,e2⟩:=(show ObjOk X.prog X.w _ s'.heap p (.tup ys) from I'.hok p _ (sub p _ hp))
   obtain ⟨f0,f1,f2,f3,f4,f5⟩:=fp H' hn
   have hl2:=r2.length
   exact wpAny_pyNext_tuple_end (show X.A.in1.in1.handled=none from hA) st (items:=its2.toArray) ⟨_,e2,rfl,n2,rfl⟩ (by simp; omega) fun h3 eb=>k { s' with heap:=h3 } (I'.turned (t':=s'.toks) (fun b o hb e=>eb b o hb e) f0 f1 f3 f4 f5)
  ·exact I2.kept (t':=tk) fun b o e=>W4 _ e
  ·exact ⟨_,Wi _ rfl,rfl,rfl⟩
 ·obtain ⟨_,its,n,r,e⟩:=(show ObjOk X.prog X.w _ (s.heap.push { cls:=.type "dict",data:=.dict #[] }) p (.lst ys) from (Rd.sub hp (up _)).ok I1.hok)
  refine W1 (J0 ⟨_,e,rfl⟩ ?_)
  rw [if_pos (by decide)]
  refine W1 (z8A e rfl rfl rfl hA fun h' tk kp=>?_)
  rw [if_pos (show (none:Option Value).isNone=true from rfl)]
  refine W1 (Ju ?_)
  have I2:Inv X pins σ (upd H dl (.dK [])) { s with heap:=h',toks:=tk }:=I1.kept kp
  have isT:h'.IsList p its.toArray:=⟨_,kp _ _ e,rfl,n,rfl⟩
  refine W1 (Jz (s:={ s with heap:=h',toks:=tk }) isT ?_)
  refine Wc ⟨plainId_quiet z1g _,?_⟩
  have hfr:upd H dl (.dK []) h'.objs.size=none:=I2.hok.fresh (W9 _)
  have hne:h'.objs.size≠dl:=fun z=>by rw [z,z0t] at hfr; cases hfr
  have hit:H h'.objs.size=none:=by rw [z0l hne] at hfr; exact hfr
  have fp:∀ H':Hp,H' h'.objs.size=none→FpOk X pins H' h'.objs.size:=fun H' hn=>I2.fpOk (W9 _) hn
  refine z8b (X:=X) (pins:=pins) (σ:=σ) (H:=H) (dl:=dl) (it:=h'.objs.size) (ys:=ys) (kps:=kps) (tn:=fun i h=>h.IsListIter h'.objs.size p i) hP hdl hz ?_ ?_ (fun i h h2 st k=>st.at k) hit hne (fun s' I'=>⟨rfl,fin s' I'⟩) ys.length 0 _ 0 _ (Nat.sub_zero _) (WY _) ?_ ?_
  ·intro i y H' s' Q' sub hn I' st hy k
   obtain ⟨_,its2,n2,r2,e2⟩:=(show ObjOk X.prog X.w _ s'.heap p (.lst ys) from (Rd.sub hp sub).ok I'.hok)
   obtain ⟨v,hv,rv⟩:=r2.get hy
   obtain ⟨f0,f1,f2,f3,f4,f5⟩:=fp H' hn
   refine wpAny_pyNext_list_item st (items:=its2.toArray) ⟨_,e2,rfl,n2,rfl⟩ (x:=v) (by simpa using hv) fun h3 st3 sb=>?_
   exact k v { s' with heap:=h3 } rv (I'.turned (t':=s'.toks) (fun b o hb e=>(sb.2 b hb).trans e) f0 f1 f3 f4 f5) st3
  ·intro H' s' Q' sub hn I' st k
   obtain ⟨_,its2,n2,r2,e2⟩:=(show ObjOk X.prog X.w _ s'.heap p (.lst ys) from (Rd.sub hp sub).ok I'.hok)
   obtain ⟨f0,f1,f2,f3,f4,f5⟩:=fp H' hn
   have hl2:=r2.length
   exact wpAny_pyNext_list_end (show X.A.in1.in1.handled=none from hA) st (items:=its2.toArray) ⟨_,e2,rfl,n2,rfl⟩ (by simp; omega) fun h3 eb=>k { s' with heap:=h3 } (I'.turned (t':=s'.toks) (fun b o hb e=>eb b o hb e) f0 f1 f3 f4 f5)
  ·exact I2.kept (t':=tk) fun b o e=>W4 _ e
  ·exact ⟨_,Wi _ rfl,rfl,rfl⟩
end
end L2
set_option maxHeartbeats 400000
namespace DV
open PySem PySem.Spec PyProof.Rows L2
def valD (kvs:List (DKey×D)) (k:DKey):Option D:=(kvs.find? fun kv=>decide (kv.1=k)).map (·.2)
def putD (kvs:List (DKey×D)) (k:DKey) (v:D):List (DKey×D) :=
 if (kvs.any fun kv=>decide (kv.1=k))=true then kvs.map (fun kv=>if kv.1=k then (kv.1,v) else kv) else kvs ++ [(k,v)]
def z8u (kps acc:List (DKey×D)):List (DKey×D):=kps.foldl (fun a kv=>putD a kv.1 kv.2) acc
theorem zeZ (h:kOf k=kOf j):k=j:=by
 cases k <;> cases j <;> simp [kOf] at h
 ·rw [h]
 ·rw [z5D h]
def DR (H:Hp) (O:Addr→Prop):List (Key×V)→List (DKey×D)→Prop
 | [],[]=>True
 | p :: ws,q :: ds=>p.1=kOf q.1∧Rep H O p.2 q.2∧DR H O ws ds
 | _,_=>False
section
variable {H H':Hp} {O O':Addr→Prop}
theorem DR.of:∀ {ws:List (Key×V)} {ds:List (DKey×D)},ws.map (·.1)=ds.map (fun p=>kOf p.1)→(∀ (i:Nat) p q,ws[i]? = some p→ds[i]? = some q→Rep H O p.2 q.2)→DR H O ws ds
 | [],[],_,_=>trivial
 | [],_ :: _,h,_=>by simp at h
 | _ :: _,[],h,_=>by simp at h
 | p :: ws,q :: ds,h,k=>by
  simp only [Wz,List.cons.injEq] at h
  exact ⟨h.1,k 0 p q rfl rfl,DR.of h.2 fun i p' q' e1 e2=>k (i + 1) p' q' (by simpa using e1) (by simpa using e2)⟩
theorem DR.keys:∀ {ws:List (Key×V)} {ds:List (DKey×D)},DR H O ws ds→ws.map (·.1)=ds.map (fun p=>kOf p.1)
 | [],[],_=>rfl
 | [],_ :: _,h=>h.elim
 | _ :: _,[],h=>h.elim
 | p :: ws,q :: ds,h=>by simp only [Wz,h.1,DR.keys h.2.2]
theorem DR.vals:∀ {ws:List (Key×V)} {ds:List (DKey×D)},DR H O ws ds→∀ (i:Nat) p q,ws[i]? = some p→ds[i]? = some q→Rep H O p.2 q.2
 | [],[],_,i,p,q,e,_=>by simp at e
 | [],_ :: _,h,_,_,_,_,_=>h.elim
 | _ :: _,[],h,_,_,_,_,_=>h.elim
 | p :: ws,q :: ds,h,i,p',q',e1,e2=>by
  cases i with
  | zero=>simp at e1 e2; subst e1 e2; exact h.2.1
  | succ i=>exact DR.vals h.2.2 i p' q' (by simpa using e1) (by simpa using e2)
theorem DR.map:∀ {ws:List (Key×V)} {ds:List (DKey×D)},DR H O ws ds→(∀ v d,Rep H O v d→Rep H' O' v d)→DR H' O' ws ds
 | [],[],_,_=>trivial
 | [],_ :: _,h,_=>h.elim
 | _ :: _,[],h,_=>h.elim
 | p :: ws,q :: ds,h,k=>⟨h.1,k _ _ h.2.1,DR.map h.2.2 k⟩
theorem z40 (h:p=kOf q):(p=kOf k) ↔ q=k:=⟨fun e=>zeZ (by rw [← h]; exact e),fun e=>by rw [h,e]⟩
theorem DR.any:∀ {ws:List (Key×V)} {ds:List (DKey×D)} (k:DKey),DR H O ws ds→(ws.any fun kv=>decide (kv.1=kOf k))=ds.any fun kv=>decide (kv.1=k)
 | [],[],_,_=>rfl
 | [],_ :: _,_,h=>h.elim
 | _ :: _,[],_,h=>h.elim
 | p :: ws,q :: ds,k,h=>by
  rw [WS,WS,DR.any k h.2.2]
  congr 1
  exact decide_eq_decide.mpr (z40 h.1)
theorem DR.val:∀ {ws:List (Key×V)} {ds:List (DKey×D)} (k:DKey),DR H O ws ds→(valD ds k=none∧valV ws (kOf k)=none)∨∃ v d,valD ds k=some d∧valV ws (kOf k)=some v∧Rep H O v d
 | [],[],_,_=>.inl ⟨rfl,rfl⟩
 | [],_ :: _,_,h=>h.elim
 | _ :: _,[],_,h=>h.elim
 | p :: ws,q :: ds,k,h=>by
  by_cases e:q.1=k
  ·have e':=(z40 h.1).mpr e
   exact .inr ⟨p.2,q.2,by simp [valD,Qo,e],z5s e',h.2.1⟩
  ·have e':¬ p.1=kOf k:=fun z=>e ((z40 h.1).mp z)
   have ev:valD (q :: ds) k=valD ds k:=by simp [valD,Qo,e]
   rw [ev,z5t e']
   exact DR.val k h.2.2
theorem DR.append:∀ {ws ws':List (Key×V)} {ds ds':List (DKey×D)},DR H O ws ds→DR H O ws' ds'→DR H O (ws ++ ws') (ds ++ ds')
 | [],_,[],_,_,h'=>h'
 | [],_,_ :: _,_,h,_=>h.elim
 | _ :: _,_,[],_,h,_=>h.elim
 | p :: ws,_,q :: ds,_,h,h'=>⟨h.1,h.2.1,DR.append h.2.2 h'⟩
theorem DR.store:∀ {ws:List (Key×V)} {ds:List (DKey×D)} {k:DKey} {v:V} {d:D},DR H O ws ds→Rep H O v d→DR H O (ws.map fun kv=>if kv.1=kOf k then (kv.1,v) else kv) (ds.map fun kv=>if kv.1=k then (kv.1,d) else kv)
 | [],[],_,_,_,_,_=>trivial
 | [],_ :: _,_,_,_,h,_=>h.elim
 | _ :: _,[],_,_,_,h,_=>h.elim
 | p :: ws,q :: ds,k,v,d,h,r=>by
  refine ⟨?_,?_,DR.store h.2.2 r⟩
  ·by_cases e:q.1=k
   ·dsimp only; rw [if_pos ((z40 h.1).mpr e),if_pos e]; exact h.1
   ·dsimp only; rw [if_neg fun z=>e ((z40 h.1).mp z),if_neg e]; exact h.1
  ·by_cases e:q.1=k
   ·dsimp only; rw [if_pos ((z40 h.1).mpr e),if_pos e]; exact r
   ·dsimp only; rw [if_neg fun z=>e ((z40 h.1).mp z),if_neg e]; exact h.2.1
theorem DR.put (h:DR H O ws ds) (r:Rep H O v d):DR H O (putK ws (kOf k) v) (putD ds k d):=by
 unfold putK putD
 rw [DR.any k h]
 split
 ·exact DR.store h r
 ·exact DR.append h ⟨rfl,r,trivial⟩
theorem DR.puts:∀ {kps:List (Key×V)} {dps:List (DKey×D)} {ws:List (Key×V)} {ds:List (DKey×D)},DR H O kps dps→DR H O ws ds→DR H O (z1S kps ws) (z8u dps ds)
 | [],[],_,_,_,h=>h
 | [],_ :: _,_,_,h,_=>h.elim
 | _ :: _,[],_,_,h,_=>h.elim
 | p :: kps,q :: dps,ws,ds,h,h'=>by
  show DR H O (z1S kps (putK ws p.1 p.2)) (z8u dps (putD ds q.1 q.2))
  rw [h.1]
  exact DR.puts h.2.2 (DR.put h' h.2.1)
end
def keyD:D→Option DKey
 | .int i=>some (.inl i)
 | .str x=>some (.inr x)
 | _=>none
theorem zaS (h:keyD d=some k) (r:Rep H O v d):v=kV (kOf k):=by
 cases d <;> simp [keyD] at h <;> subst h <;> cases r <;> rfl
theorem z90 (h:keyD d=some k) (r:RepB c σ δ H v d):v=kV (kOf k):=by
 rcases r with r | ⟨a,rfl,r⟩
 ·exact zaS h r
 ·cases d <;> simp [keyD] at h <;> exact r.elim
def z3M:List D→Option (List (DKey×D))
 | []=>some []
 | .tup [k,v] :: r=>match keyD k,z3M r with
  | some k',some r'=>some ((k',v) :: r')
  | _,_=>none
 | _ :: _=>none
def z3X:D→Option S
 | .lst ds=>(z3M ds).bind fun ps=>if ps.length≤W6 then some (.own (.dct (z8u ps []))) else none
 | .tup ds=>(z3M ds).bind fun ps=>if ps.length≤W6 then some (.own (.dct (z8u ps []))) else none
 | _=>none
theorem z6Z:∀ {ds:List D} {vs:List V} {ps:List (DKey×D)},z3M ds=some ps→Reps H O vs ds→∃ kps,z7o H vs kps∧DR H O kps ps∧kps.length=ps.length
 | [],[],ps,h,_=>by
  simp [z3M] at h
  subst h
  exact ⟨[],⟨rfl,fun i y kv e=>by simp at e⟩,trivial,rfl⟩
 | [],_ :: _,_,_,r=>by have:=r.1; simp at this
 | _ :: _,[],_,_,r=>by have:=r.1; simp at this
 | d :: ds,v :: vs,ps,h,r=>by
  unfold z3M at h
  split at h
  ·rename_i heq; cases heq
  ·rename_i k w r' heq
   cases heq
   split at h
   ·rename_i k' r'' hk hr
    cases h
    obtain ⟨kps,hP,hD,hL⟩:=z6Z hr r.tail
    have rp:=r.head
    cases rp with
    | tup h1 h2 h3 h4 =>
     rename_i a us
     match us,h3,h4,h2 with
     | [x,y],_,h4,h2 =>
      have rk:=h4 0 x k rfl rfl
      have rv:=h4 1 y w rfl rfl
      have ek:=zaS hk rk
      subst ek
      refine ⟨(kOf k',y) :: kps,⟨by simp [hP.1],fun i z kv e1 e2=>?_⟩,⟨rfl,rv,hD⟩,by simp [hL]⟩
      cases i with
      | zero=>simp at e1 e2; subst e1 e2; exact ⟨a,rfl,h2⟩
      | succ i=>exact hP.2 i z kv (by simpa using e1) (by simpa using e2)
   ·cases h
  ·cases h
theorem RepS.newDk (k:Ok c σ δ H) (hp:H p=none) (r:DR H (Av c σ δ) ws ds):RepS c σ δ H (upd H p (.dK ws)) (.ref p) (.own (.dct ds)):=by
 have up:∀ a w,H a=some w→upd H p (.dK ws) a=some w:=fun a w e=>by rw [z0l (z0L e hp)]; exact e
 have r1:DR (upd H p (.dK ws)) (Av (c.plus p) σ δ) ws ds:=r.map fun v d h=>(h.anti fun b z=>by
  rcases z with (z | z) | z
  ·exact .inl (.inl z)
  ·exact .inr (by rw [z]; exact hp)
  ·exact .inl (.inr z)).keep fun b w e _=>up b w e
 exact ⟨p,rfl,⟨ws,z0t,r1.keys,r1.vals⟩,fun z=>k.nav hp (.inl z),k.fresh₀ hp,k.plus hp _,hp⟩
section
variable {X:Cx} {c:Fc} {e:Expr} {fb:BE} {pos pp:Pos}
theorem zah:Q1 "dict" = some (.type "dict"):=by decide +kernel
theorem zaE (hc:X.calm=true) (hg:Gl X "dict") (hm:X.mg "dict" = none) (he:SB X c e fb) (hs:z2h e=true:=by rfl):SE X c (.Call (.Name "dict" pp) [e] [] pos) (eC1 z3X fb) :=
 z4g (r:=fun v H Q=>∃ p ys kps,v = .ref p∧(H p=some (.tup ys)∨Rd H p (.lst ys))∧z7o H ys kps∧kps.length≤W6∧∀ l,H l=none→Q (.ref l) (upd H l (.dK (z1S kps []))))
  (z6h hc) (fun v H Q ⟨p,ys,kps,e,h⟩=>⟨p,ys,kps,by rw [e],h⟩)
  (fun c σ δ H x d s Q k rx hp q=>by
   cases d with
   | lst ds =>
    simp only [z3X] at hp
    cases hps:z3M ds with
    | none=>rw [hps] at hp; cases hp
    | some ps =>
     rw [hps] at hp
     simp only [WT] at hp
     split at hp
     ·rename_i hz
      cases hp
      obtain ⟨a,vs,ex,ha,r⟩:=rx.lst
      obtain ⟨kps,hP,hD,hL⟩:=z6Z hps r
      exact ⟨a,vs,kps,ex,.inr ha,hP,by rw [hL]; exact hz,fun l hl=>q _ _ (.alloc k hl _) (RepS.newDk k hl (DR.puts hD (ws:=[]) (ds:=[]) trivial))⟩
     ·cases hp
   | tup ds =>
    simp only [z3X] at hp
    cases hps:z3M ds with
    | none=>rw [hps] at hp; cases hp
    | some ps =>
     rw [hps] at hp
     simp only [WT] at hp
     split at hp
     ·rename_i hz
      cases hp
      obtain ⟨a,vs,ex,ha,r⟩:=rx.tup
      obtain ⟨kps,hP,hD,hL⟩:=z6Z hps r
      exact ⟨a,vs,kps,ex,.inl ha,hP,by rw [hL]; exact hz,fun l hl=>q _ _ (.alloc k hl _) (RepS.newDk k hl (DR.puts hD (ws:=[]) (ds:=[]) trivial))⟩
     ·cases hp
   | _=>simp [z3X] at hp) hg hm zah he (by decide) (by decide) (z3f hs)
end
theorem zcC (r:RepB c σ δ H v (.dct ds)):∃ a ws,v = .ref a∧H a=some (.dK ws)∧DR H (Av c σ δ) ws ds:=by
 obtain ⟨a,ws,e,h,k1,k2⟩:=r.dct
 exact ⟨a,ws,e,h,DR.of k1 k2⟩
def rInD (neg:Bool):R2:=fun x y H Q=>∃ a kvs k,y = .ref a∧H a=some (.dK kvs)∧x=kV k∧Q (.bl (if neg then !(valV kvs k).isSome else (valV kvs k).isSome)) H
theorem zgq (hu:X.A.units + 64 < Ql):OpR X (Wq .In) (rInD false):=by
 intro pins s σ H x y v u Q I rx ry h
 obtain ⟨a,kvs,k,rfl,ha,rfl,q⟩:=h
 cases ry
 exact d_in (by omega) I (DGet.k ha) rx fun s' I'=>⟨.bl _,H,I',rfl,q⟩
theorem zbf (hu:X.A.units + 64 < Ql):OpR X (Wq .NotIn) (rInD true):=by
 intro pins s σ H x y v u Q I rx ry h
 obtain ⟨a,kvs,k,rfl,ha,rfl,q⟩:=h
 cases ry
 exact zfi (by omega) I (DGet.k ha) rx fun s' I'=>⟨.bl _,H,I',rfl,q⟩
def zaX (K:W0) (neg:Bool):R2:=fun x y H Q=>rInD neg x y H Q∨rIn K neg x y H Q∨∃ i j,x = .str i∧y = .str j∧Q (.bl (if neg then !(!(Qp j i 0 j.length 1).isEmpty) else !(Qp j i 0 j.length 1).isEmpty)) H
theorem z96 {X:Cx} (hu:X.A.units + 64 < Ql):OpR X (Wq .In) (zaX X.K false):=(zgq hu).or (op_in_seq.or zbi)
theorem z5Q {X:Cx} (hu:X.A.units + 64 < Ql):OpR X (Wq .NotIn) (zaX X.K true):=(zbf hu).or (op_notIn_seq.or z3o)
def pIn (neg:Bool) (x y:D):Option S:=match y with
 | .dct ds=>(keyD x).map fun k=>.pure (.bl (if neg then !(valD ds k).isSome else (valD ds k).isSome))
 | .str y=>match x with
  | .str [n]=>some (.pure (.bl (if neg then !decide (n ∈ y) else decide (n ∈ y))))
  | _=>none
 | .lst ds=>match x,z3e ds with
  | .str z,some ts=>some (.pure (.bl (if neg then !ts.contains z else ts.contains z)))
  | _,_=>none
 | .tup ds=>match x,z3e ds with
  | .str z,some ts=>some (.pure (.bl (if neg then !ts.contains z else ts.contains z)))
  | _,_=>none
 | _=>none
theorem z81 (z:Tx) (ts:List Tx):inV (V.str (toS z)) (ts.map fun z=>V.str (toS z))=ts.contains z:=by
 unfold inV
 rw [Qw]
 induction ts with
 | nil=>rfl
 | cons t r ih =>
  rw [WS,Jn,ih]
  congr 1
  show (toS t == toS z)=(z == t)
  rw [z8n,Bool.beq_comm]
theorem z6K (ts:List Tx):(ts.map fun z=>V.str (toS z)).all z7e=true:=by
 rw [QM]
 exact List.all_eq_true.mpr fun _ _=>rfl
theorem z5w {K:W0} (neg:Bool):Op2 (zaX K neg) (pIn neg):=by
 intro c σ δ H x y d e s Q k rx ry hp q
 cases e <;> first | (simp [pIn] at hp; done) | skip
 ·rename_i z
  simp only [pIn] at hp
  split at hp <;> first | (cases hp; done) | skip
  rename_i n
  cases hp
  refine .inr (.inr ⟨toS [n],toS z,rx.str,ry.str,?_⟩)
  rw [show toS [n] = ⟨#[n]⟩ from rfl,PySem.StrLaws.found_one,show (toS z).cps.toList=z by simp [toS]]
  exact q _ H (.refl k) (.bl _)
 ·rename_i ds
  simp only [pIn] at hp
  split at hp <;> first | (cases hp; done) | skip
  rename_i z ts ht
  cases hp
  obtain ⟨a,vs,ea,ha,r⟩:=ry.tup
  have ev:=z2R ht r
  refine .inr (.inl ⟨a,vs,ea,.inr (.of ha),by rw [rx.str]; rfl,by rw [ev]; exact z6K ts,?_⟩)
  rw [rx.str,ev,z81]
  exact q _ H (.refl k) (.bl _)
 ·rename_i ds
  simp only [pIn] at hp
  split at hp <;> first | (cases hp; done) | skip
  rename_i z ts ht
  cases hp
  obtain ⟨a,vs,ea,ha,r⟩:=ry.lst
  have ev:=z2R ht r
  refine .inr (.inl ⟨a,vs,ea,.inl (.inl ha),by rw [rx.str]; rfl,by rw [ev]; exact z6K ts,?_⟩)
  rw [rx.str,ev,z81]
  exact q _ H (.refl k) (.bl _)
 ·rename_i ds
  simp only [pIn] at hp
  cases hk:keyD d with
  | none=>rw [hk] at hp; cases hp
  | some kk =>
   rw [hk] at hp
   cases hp
   obtain ⟨a,ws,ea,ha,dr⟩:=zcC ry
   refine .inl ⟨a,ws,kOf kk,ea,ha,z90 hk rx,?_⟩
   have:(valV ws (kOf kk)).isSome=(valD ds kk).isSome:=by
    rcases dr.val kk with ⟨e1,e2⟩ | ⟨v,d,e1,e2,_⟩
    ·rw [e1,e2]; rfl
    ·rw [e1,e2]; rfl
   rw [this]
   exact q _ H (.refl k) (.bl _)
end DV
namespace PySem
open Sem (wp)
open AutoSeq1 (wpAny_loadPart')
section
variable {prog:Wk} {w:Wp} {A:Wn} {E:Value→W2→Prop} {s:W2}
theorem z53 {items} (hit:s.heap.IsTupleIter it l i) (hl:s.heap.IsTuple l items) (hx:items[i]? = some x)
  (hQ:∀ h',h'.IsTupleIter it l (i + 1)→Heap.SameBut it s.heap h'→Q x { s with heap:=h' }):W8 (model prog w) A (QG (.ref it)) Q E s:=by
 obtain ⟨o,ho,hc,hd⟩:=id hit
 obtain ⟨ol,hol,_,nl,hdl⟩:=hl
 unfold QG
 refine W1 (QP (name:=Str.ofString "__next__") hit.typeIs QA
  (QK QA hit.typeIs F.entry_tuple_iterator_next ?_ (F.args_tuple_iterator_next_1 _)))
 show W8 _ _ (field (.ref it) 0 >>= _) _ _ s
 refine W1 (Q7 ho hd (x:=.ref l) rfl ?_)
 show W8 _ _ (if (Value.ref l == Value.none)=true then _ else _) _ _ s
 rw [if_neg (show ¬ ((Value.ref l == Value.none)=true) from WN)]
 show W8 _ _ (field (.ref it) 1 >>= _) _ _ s
 refine W1 (Q7 ho hd (x:=.int i 0) rfl ?_)
 show W8 _ _ (seqItems? (.ref l) >>= _) _ _ s
 refine W1 (wpAny_seqItems hol hdl ?_)
 simp only [Int.toNat_natCast,hx]
 refine W1 (Jv ho hd (by simp) (Wc ⟨x,rfl,Wc (hQ _ ?_ (Heap.SameBut.update ..))⟩))
 exact ⟨_,Qk _ ho (Obj.isFreed_of_fields (Obj.data_mapFields hd _)),(Obj.cls_mapFields ..).trans hc,by
  rw [Obj.data_mapFields hd]; simp [Qq]⟩
theorem z5o {items} (hh:A.handled=none) (hit:s.heap.IsTupleIter it l i) (hl:s.heap.IsTuple l items) (hx:items[i]? = none)
  (hE:∀ h' e,Heap.ExtBut it s.heap h'→(∃ o,h'.get? e=some o∧o.cls = .type "StopIteration")→E (.ref e) { s with heap:=h' }):W8 (model prog w) A (QG (.ref it)) Q E s:=by
 obtain ⟨o,ho,hc,hd⟩:=id hit
 obtain ⟨ol,hol,_,nl,hdl⟩:=hl
 unfold QG
 refine W1 (QP (name:=Str.ofString "__next__") hit.typeIs QA
  (QK QA hit.typeIs F.entry_tuple_iterator_next ?_ (F.args_tuple_iterator_next_1 _)))
 show W8 _ _ (field (.ref it) 0 >>= _) _ _ s
 refine W1 (Q7 ho hd (x:=.ref l) rfl ?_)
 show W8 _ _ (if (Value.ref l == Value.none)=true then _ else _) _ _ s
 rw [if_neg (show ¬ ((Value.ref l == Value.none)=true) from WN)]
 show W8 _ _ (field (.ref it) 1 >>= _) _ _ s
 refine W1 (Q7 ho hd (x:=.int i 0) rfl ?_)
 show W8 _ _ (seqItems? (.ref l) >>= _) _ _ s
 refine W1 (wpAny_seqItems hol hdl ?_)
 simp only [Int.toNat_natCast,hx]
 refine W1 (Ju (W1 (Jv ho hd (by simp) ?_)))
 show W8 _ _ (newExc (.type "StopIteration") [] >>= _) _ _ _
 refine W1 ?_
 simp only [newExc,newTuple]
 refine W1 (Qc ?_ (by size_fits))
 refine W1 (m:=firstArgMember _ _) (wpAny_of_eq (a:=Value.none) (by first | rfl | (simp only [firstArgMember]; rfl)) ?_)
 refine Qc ?_ (by size_fits)
 simp only [raiseNew]
 refine W1 (wpAny_handled ?_)
 first | rw [show A.in1.handled=none from hh] | rw [hh]
 refine W1 (Wc (wpAny_throw ?_))
 exact hE _ _ (((Heap.SameBut.update ..).extBut.push _).push _) ⟨_,Wi _ rfl,rfl⟩
end
theorem IsTuple.at' {h h':Heap} {l:Addr} {items:Array Value} (x:h.IsTuple l items) (k:∀ o,h.get? l=some o→h'.get? l=some o):h'.IsTuple l items:=by
 obtain ⟨o,ho,r⟩:=x
 exact ⟨o,k o ho,r⟩
theorem Draws.tuple' {prog:Wk} {w:Wp} {A:Wn} (hh:A.handled=none) (it l:Addr) (hne:l≠it) (items:Array Value) :
  Draws prog w A it [it,l] items.size (fun i v=>items[i]? = some v) (fun i h=>h.IsTupleIter it l i∧h.IsTuple l items) where
 live:=fun _ _ st=>let ⟨o,ho,_⟩:=st.1; ⟨o,ho⟩
 frame:=fun _ _ _ st hk=>⟨st.1.at fun o e=>hk it (by simp) o e,IsTuple.at' st.2 fun o e=>hk l (by simp) o e⟩
 item:=fun i s Q E hi st hQ=>by
  refine z53 st.1 st.2 (x:=items[i]) (by simp [hi]) fun h' hit' hs'=>?_
  exact hQ _ h' s.toks (by simp [hi]) ⟨hit',IsTuple.at' st.2 fun o e=>(hs'.2 l hne).trans e⟩ hs'
 done:=fun s Q E st hE=>z5o hh st.1 st.2 (by simp) hE
theorem z3G (l:Addr) (items:Array Value) (n:Nat) (dct:Option Addr) (sl:Array (Option Value)) :
  Meets (Builtin.«enumerate.__new__» ⟨[.type "enumerate",.ref l],[]⟩) (fun _ R s=>s.heap.get? l=some { cls:=.type "tuple",dict:=dct,data:=.seq items n,slots:=sl } ∧
   R (.ok (.ret (.ref (s.heap.push { cls:=.type "tuple_iterator",data:=.fields #[.ref l,.int 0 0] }).objs.size)))
    { s with heap:=(s.heap.push { cls:=.type "tuple_iterator",data:=.fields #[.ref l,.int 0 0] }).push { cls:=.type "enumerate",data:=.fields #[.none,.bool false,.ref s.heap.objs.size,Qq 0,.none,.none] } }) :=
 .of_wp fun prog w A R s h=>by
  obtain ⟨hp,g,d,tk,os⟩:=s; obtain ⟨hl,h⟩:=h
  have hsub:=sub_enumerate
  have hL:Heap.IsTuple (Shared.heap ⟨hp,g,d,tk,os⟩) l items:=⟨_,hl,rfl,n,rfl⟩
  wp_walk using Q3 hl
  refine wpAny_stack_any fun st=>Wc ?_
  split
  ·rename_i c _ _ _ _ _
   cases (c == Value.type "enumerate")
   ·wp_walk using Q3 hl,QV hL
    exact ⟨_,rfl,h⟩
   ·wp_walk using Q3 hl,QV hL
    exact ⟨_,rfl,h⟩
  ·wp_walk using Q3 hl,QV hL
   exact ⟨_,rfl,h⟩
theorem z3x (hL:s.heap.IsTuple l items)
  (h:∀ h',IsEnum h' (s.heap.objs.size + 1) s.heap.objs.size 0 .none→h'.IsTupleIter s.heap.objs.size l 0→h'.objs.size=s.heap.objs.size + 2 →
   (∀ b o,s.heap.get? b=some o→h'.get? b=some o)→Q (.ref (s.heap.objs.size + 1)) { s with heap:=h' }) :
  W8 (model prog w) A (call (.type "enumerate") [.ref l]) Q E s:=by
 obtain ⟨⟨c,dct,dt,sl⟩,hl,hc,n,hd⟩:=hL
 replace hc:c = .type "tuple":=hc
 replace hd:dt = .seq items n:=hd
 subst hc hd
 refine callType_new F.called_enumerate (by decide) (F.typeCall_enumerate_1 _) (F.newCall_enumerate_1 _) (fun obj=>F.args_object_init_2 obj _) F.entry_enumerate_new
  (z3G l items n dct sl) ⟨hl,?_⟩
 have hz:(s.heap.push { cls:=.type "tuple_iterator",data:=.fields #[.ref l,.int 0 0] }).objs.size=s.heap.objs.size + 1:=Jt ..
 show _∧_
 rw [hz]
 have he:IsEnum ((s.heap.push { cls:=.type "tuple_iterator",data:=.fields #[.ref l,.int 0 0] }).push
   { cls:=.type "enumerate",data:=.fields #[.none,.bool false,.ref s.heap.objs.size,Qq 0,.none,.none] }) (s.heap.objs.size + 1) s.heap.objs.size 0 .none:=by
  have:=Wi (s.heap.push { cls:=.type "tuple_iterator",data:=.fields #[.ref l,.int 0 0] })
   (o:={ cls:=.type "enumerate",data:=.fields #[.none,.bool false,.ref s.heap.objs.size,Qq 0,.none,.none] }) rfl
  rw [hz] at this; exact this
 refine ⟨⟨_,he,rfl⟩,h _ he ⟨_,W4 _ (Wi _ rfl),rfl,rfl⟩ (by rw [Jt,hz]) fun b o x=>W4 _ (W4 _ x)⟩
end PySem
namespace L2
open PySem PySem.Spec PyProof.Rows
section
variable {X:Cx} {pins:List (Addr×Obj)} {σ:St} {H:Hp} {s:W2} {h':Heap}
theorem Inv.turnedL (fp:List Addr) (I:Inv X pins σ H s) (k:∀ b o,b ∉ fp→s.heap.get? b=some o→h'.get? b=some o) (hf:∀ b ∈ fp,FpOk X pins H b):Inv X pins σ H { s with heap:=h',toks:=t' }:=by
 have nit:∀ b u,H b=some u→b ∉ fp:=fun b u e z=>by rw [(hf b z).1] at e; cases e
 refine I.step (g':=s.gens) (d':=s.drawn) (ch:=fp) (fun b hb=>?_) (fun b o _ _ hc e _=>k b o hc e) (fun b o _ _ hc e _=>⟨o.slots,k b o hc e⟩) (fun _ _ _ _ n=>n)
  (fun b o hc e=>⟨o,k b o hc e⟩) (fun _ _ e=>e) (fun _ _ _ e=>e) (fun b ps e=>⟨#[],by rw [e]; simp⟩) (fun m hm=>?_) (fun b u e=>?_) I.bare
 ·obtain ⟨f0,f1,f2,f3,f4,f5⟩:=hf b hb
  exact ⟨f3,f1,f4,f5⟩
 ·obtain ⟨o,es,ep,ho,r⟩:=hm
  exact ⟨o,es,ep,k _ o (fun z=>(hf _ z).2.1 rfl) ho,r⟩
 ·refine (I.hok b u e).stay (fun c v hc q=>k c v ?_ q) (fun _ q=>q) fun _ _ q=>q
  rcases hc with z | z
  ·rw [z]; exact nit b u e
  ·exact nit c _ z
theorem Inv.pairLaid (I:Inv X pins σ H s) (hf:∀ b ∈ [e,it],FpOk X pins H b) (hlt:∀ b ∈ [e,it],b < s.heap.objs.size) (ru:RelV y u)
  (hT:h'.get? s.heap.objs.size=some { cls:=.type "tuple",data:=.seq #[.int i tk,u] }) (k:∀ b o,b≠e→b≠it→s.heap.get? b=some o→h'.get? b=some o) :
  Inv X pins σ (upd H s.heap.objs.size (.tup [.int i,y])) { s with heap:=h',toks:=t' }:=by
 have I1:Inv X pins σ (upd H s.heap.objs.size (.tup [.int i,y])) { s with heap:=s.heap.push { cls:=.type "tuple",data:=.seq #[.int i tk,u] },toks:=t' } :=
  I.laid (t':=t') (fun b o e=>W4 _ e) (W9 _) (show ObjOk X.prog X.w _ _ _ (.tup [.int i,y]) from
   ⟨by simp only [WH,List.length_nil]; rw [WO]; decide,[.int i tk,u],.cons ⟨_,rfl⟩ (.cons ru .nil),IsTupN.new _ _⟩)
 have:=Inv.turnedL (t':=t') (h':=h') [e,it] I1 (fun b o hb eb=>?_) fun b hb=>?_
 ·exact this
 ·have he:b≠e:=fun z=>hb (by simp [z])
  have hi:b≠it:=fun z=>hb (by simp [z])
  rcases Heap.get?_push_cases eb with ⟨z,z'⟩ | eb
  ·subst z z'
   exact hT
  ·exact k b o he hi eb
 ·obtain ⟨f0,r⟩:=hf b hb
  refine ⟨?_,r⟩
  have hl:=hlt b hb
  rw [z0l (WA hl)]
  exact f0
def IteL (K:W0) (a:Addr):It :=
 ⟨(Itl K a).go,fun i H x H'=>∃ p y,H p=none∧(∀ xs,SqL K H a xs→xs[i]? = some y)∧H'=upd H p (.tup [.int i,y])∧x = .ref p,fun i H=>∃ xs,SqL K H a xs∧xs.length=i⟩
def IteT (K:W0) (a:Addr):It :=
 ⟨(Itt K a).go,fun i H x H'=>∃ p y,H p=none∧(∀ xs,SqT K H a xs→xs[i]? = some y)∧H'=upd H p (.tup [.int i,y])∧x = .ref p,fun i H=>∃ xs,SqT K H a xs∧xs.length=i⟩
theorem z9E {P:Wk} {w:Wp} {K:W0} {elts:List Expr} {ctx} {pos:Pos} (a e it:Addr) (hei:e≠it) (hae:a≠e) (hai:a≠it):Turn P w K (.Tuple elts ctx pos) (IteL K a) [e,it] e (fun i h=>(∃ old,IsEnum h e it i old)∧h.IsListIter it a i) where
 mem:=by simp
 obj:=fun i h st b hb=>by
  obtain ⟨⟨old,he⟩,hi⟩:=st
  have hb:b=e∨b=it:=by simpa using hb
  rcases hb with z | z
  ·subst z
   exact ⟨_,he,fun v z=>by
    have z':Data.fields _=Data.cell v:=z
    cases z'⟩
  ·subst z
   obtain ⟨o,e,c,d⟩:=hi
   exact ⟨o,e,fun v z=>by rw [d] at z; cases z⟩
 keep:=fun i h h' st k=>⟨let ⟨old,he⟩:=st.1; ⟨old,k e (by simp) _ he⟩,st.2.at fun o q=>k it (by simp) o q⟩
 item:=by
  intro X hP hw hK hc i pins s σ H E I hf st hg
  subst hP hw hK
  obtain ⟨xs,x,hq,hx⟩:=hg
  obtain ⟨its,rv,p,hz⟩:=I.list hq
  obtain ⟨u,hu,ru⟩:=rv.get hx
  obtain ⟨⟨old,he⟩,hi⟩:=st
  have hL:s.heap.IsList a its.toArray:=p.isList
  have D:=Draws.list (prog:=X.prog) (w:=X.w) (A:=X.A.in1) (I.ok.hd hc) it a hai its.toArray
  have hilt:i < its.length:=(Wa.mp hu).1
  have hlt:∀ b ∈ [e,it],b < s.heap.objs.size:=fun b hb=>by
   have hb:b=e∨b=it:=by simpa using hb
   rcases hb with z | z
   ·subst z; exact We he
   ·subst z; obtain ⟨o,q,_⟩:=hi; exact We q
  refine wpAny_pyNext_enum_itemD D he ⟨hi,hL⟩ (by simpa using hilt) hei (by simp [hei,Ne.symm hae]) fun x' h' tk hP ho hs' hT hsz hk=>?_
  have ex:x'=u:=by
   have:its.toArray[i]? = some x':=hP
   rw [List.getElem?_toArray,hu] at this
   cases this
   rfl
  subst ex
  refine ⟨_,rfl,wpAny_letOwnedTupleGo_enum ho fun h2 he2 sb=>?_⟩
  have k2:∀ b o,b≠e→b≠it→s.heap.get? b=some o→h2.get? b=some o:=fun b o q1 q2 q=>(sb.2 b q1).trans (hk b o q1 q2 q)
  have hT2:h2.get? s.heap.objs.size=some { cls:=.type "tuple",data:=.seq #[.int i tk,x'] }:=(sb.2 _ (Jh (hlt e (by simp)))).trans hT
  have I2:Inv X pins σ (upd H s.heap.objs.size (.tup [.int i,x])) { s with heap:=h2,toks:=tk + 1 }:=Inv.pairLaid (t':=tk + 1) I hf hlt ru hT2 k2
  refine ⟨.ref s.heap.objs.size,_,I2,rfl,⟨s.heap.objs.size,x,I.hok.fresh (W9 _),fun ys hy=>by rw [I.list_inj hy hq]; exact hx,rfl,rfl⟩,⟨⟨x',by simpa using he2⟩,hs'.1.at fun o q=>(sb.2 it (Ne.symm hei)).trans q⟩,fun b hb=>?_⟩
  rw [z0l (WA (hlt b hb))]
  exact (hf b hb).1
 done:=by
  intro X hP hw hK hc i pins s σ H E I hf st hg
  subst hP hw hK
  obtain ⟨xs,hq,hx⟩:=hg
  obtain ⟨its,rv,p,hz⟩:=I.list hq
  obtain ⟨⟨old,he⟩,hi⟩:=st
  have hL:s.heap.IsList a its.toArray:=p.isList
  have hl:=rv.length
  have D:=Draws.list (prog:=X.prog) (w:=X.w) (A:=X.A.in1) (I.ok.hd hc) it a hai its.toArray
  have hn:its.toArray.size=i:=by simp; omega
  obtain ⟨f0,f1,f2,f3,f4,f5⟩:=hf it (by simp)
  exact wpAny_pyNext_enum_endD D he ⟨by rw [hn]; exact hi,hL⟩ fun h' eb=>⟨rfl,I.turned (t':=s.toks) (fun b o hb q=>eb b o hb q) f0 f1 f3 f4 f5⟩
 self:=fun _ _ _ _ _ st h=>by
  obtain ⟨⟨old,he⟩,_⟩:=st
  exact JA he h
theorem z9D {P:Wk} {w:Wp} {K:W0} {elts:List Expr} {ctx} {pos:Pos} (a e it:Addr) (hei:e≠it) (hae:a≠e) (hai:a≠it):Turn P w K (.Tuple elts ctx pos) (IteT K a) [e,it] e (fun i h=>(∃ old,IsEnum h e it i old)∧h.IsTupleIter it a i) where
 mem:=by simp
 obj:=fun i h st b hb=>by
  obtain ⟨⟨old,he⟩,hi⟩:=st
  have hb:b=e∨b=it:=by simpa using hb
  rcases hb with z | z
  ·subst z
   exact ⟨_,he,fun v z=>by
    have z':Data.fields _=Data.cell v:=z
    cases z'⟩
  ·subst z
   obtain ⟨o,e,c,d⟩:=hi
   exact ⟨o,e,fun v z=>by rw [d] at z; cases z⟩
 keep:=fun i h h' st k=>⟨let ⟨old,he⟩:=st.1; ⟨old,k e (by simp) _ he⟩,st.2.at fun o q=>k it (by simp) o q⟩
 item:=by
  intro X hP hw hK hc i pins s σ H E I hf st hg
  subst hP hw hK
  obtain ⟨xs,x,hq,hx⟩:=hg
  obtain ⟨its,rv,p,hz⟩:=I.tuple hq
  obtain ⟨u,hu,ru⟩:=rv.get hx
  obtain ⟨⟨old,he⟩,hi⟩:=st
  have hL:s.heap.IsTuple a its.toArray:=p
  have D:=Draws.tuple' (prog:=X.prog) (w:=X.w) (A:=X.A.in1) (I.ok.hd hc) it a hai its.toArray
  have hilt:i < its.length:=(Wa.mp hu).1
  have hlt:∀ b ∈ [e,it],b < s.heap.objs.size:=fun b hb=>by
   have hb:b=e∨b=it:=by simpa using hb
   rcases hb with z | z
   ·subst z; exact We he
   ·subst z; obtain ⟨o,q,_⟩:=hi; exact We q
  refine wpAny_pyNext_enum_itemD D he ⟨hi,hL⟩ (by simpa using hilt) hei (by simp [hei,Ne.symm hae]) fun x' h' tk hP ho hs' hT hsz hk=>?_
  have ex:x'=u:=by
   have:its.toArray[i]? = some x':=hP
   rw [List.getElem?_toArray,hu] at this
   cases this
   rfl
  subst ex
  refine ⟨_,rfl,wpAny_letOwnedTupleGo_enum ho fun h2 he2 sb=>?_⟩
  have k2:∀ b o,b≠e→b≠it→s.heap.get? b=some o→h2.get? b=some o:=fun b o q1 q2 q=>(sb.2 b q1).trans (hk b o q1 q2 q)
  have hT2:h2.get? s.heap.objs.size=some { cls:=.type "tuple",data:=.seq #[.int i tk,x'] }:=(sb.2 _ (Jh (hlt e (by simp)))).trans hT
  have I2:Inv X pins σ (upd H s.heap.objs.size (.tup [.int i,x])) { s with heap:=h2,toks:=tk + 1 }:=Inv.pairLaid (t':=tk + 1) I hf hlt ru hT2 k2
  refine ⟨.ref s.heap.objs.size,_,I2,rfl,⟨s.heap.objs.size,x,I.hok.fresh (W9 _),fun ys hy=>by rw [I.tuple_inj hy hq]; exact hx,rfl,rfl⟩,⟨⟨x',by simpa using he2⟩,hs'.1.at fun o q=>(sb.2 it (Ne.symm hei)).trans q⟩,fun b hb=>?_⟩
  rw [z0l (WA (hlt b hb))]
  exact (hf b hb).1
 done:=by
  intro X hP hw hK hc i pins s σ H E I hf st hg
  subst hP hw hK
  obtain ⟨xs,hq,hx⟩:=hg
  obtain ⟨its,rv,p,hz⟩:=I.tuple hq
  obtain ⟨⟨old,he⟩,hi⟩:=st
  have hL:s.heap.IsTuple a its.toArray:=p
  have hl:=rv.length
  have D:=Draws.tuple' (prog:=X.prog) (w:=X.w) (A:=X.A.in1) (I.ok.hd hc) it a hai its.toArray
  have hn:its.toArray.size=i:=by simp; omega
  obtain ⟨f0,f1,f2,f3,f4,f5⟩:=hf it (by simp)
  exact wpAny_pyNext_enum_endD D he ⟨by rw [hn]; exact hi,hL⟩ fun h' eb=>⟨rfl,I.turned (t':=s.toks) (fun b o hb q=>eb b o hb q) f0 f1 f3 f4 f5⟩
 self:=fun _ _ _ _ _ st h=>by
  obtain ⟨⟨old,he⟩,_⟩:=st
  exact JA he h
end
end L2
namespace DV
open PySem PySem.Spec PyProof.Rows L2
section
variable {X:Cx} {c:Fc} {tg e:Expr} {fe:DE} {pos pp:Pos}
def zgN (K:W0) (ta:TA):TI:=fun σ H R=>ta σ H fun vs H1=>(∃ a,vs=[.ref a]∧(∃ xs,SqL K H1 a xs)∧R (IteL K a) H1)∨(∃ a,vs=[.ref a]∧(∃ xs,SqT K H1 a xs)∧R (IteT K a) H1)
theorem zeJ {ctx} (hg:Gl X "enumerate") (hm:X.mg "enumerate" = none) (ha:PA X [a] ta) (hs:W5 [a] X.env=[(false,eval a X.env)]:=by rfl):PI X (.Tuple elts ctx tp) (.Call (.Name "enumerate" pp) [a] [] pos) (zgN X.K ta):=by
 intro pins s σ H R I h
 refine Call_ (z5h I hg hm boot_enumerate (Q4 (thn (ha pos pins s σ H _ I h) fun us s1 ⟨vs,H1,I1,r1,q1⟩=>?_) hs rfl))
 rcases q1 with ⟨a,ev,⟨xs,hq⟩,q⟩ | ⟨a,ev,⟨xs,hq⟩,q⟩
 ·subst ev
  cases r1 with
  | cons r rr =>
   cases rr
   cases r
   obtain ⟨its,rv,p,hz⟩:=I1.list hq
   have hL:s1.heap.IsList a its.toArray:=p.isList
   have hlt:a < s1.heap.objs.size:=by obtain ⟨o,q,_⟩:=hL; exact We q
   refine call_enumerate_list hL fun h' he hi hsz kp=>JA he ?_
   refine ⟨s1.heap.objs.size + 1,[s1.heap.objs.size + 1,s1.heap.objs.size],_,_,H1,rfl,I1.kept (t':=s1.toks) kp,z9E a _ _ (Nat.succ_ne_self _) (WA (Jy hlt)) (WA hlt),⟨⟨_,he⟩,hi⟩,fun b hb=>?_,q⟩
   have hb:b=s1.heap.objs.size + 1∨b=s1.heap.objs.size:=by simpa using hb
   have hle:s1.heap.objs.size≤b:=by rcases hb with z | z <;> subst z <;> first | exact W9 _ | exact Qs _
   exact I1.fpOk hle (I1.hok.fresh hle)
 ·subst ev
  cases r1 with
  | cons r rr =>
   cases rr
   cases r
   obtain ⟨its,rv,p,hz⟩:=I1.tuple hq
   have hL:s1.heap.IsTuple a its.toArray:=p
   have hlt:a < s1.heap.objs.size:=by obtain ⟨o,q,_⟩:=hL; exact We q
   refine z3x hL fun h' he hi hsz kp=>JA he ?_
   refine ⟨s1.heap.objs.size + 1,[s1.heap.objs.size + 1,s1.heap.objs.size],_,_,H1,rfl,I1.kept (t':=s1.toks) kp,z9D a _ _ (Nat.succ_ne_self _) (WA (Jy hlt)) (WA hlt),⟨⟨_,he⟩,hi⟩,fun b hb=>?_,q⟩
   have hb:b=s1.heap.objs.size + 1∨b=s1.heap.objs.size:=by simpa using hb
   have hle:s1.heap.objs.size≤b:=by rcases hb with z | z <;> subst z <;> first | exact W9 _ | exact Qs _
   exact I1.fpOk hle (I1.hok.fresh hle)
def z7h (ds:List D):List D:=ds.mapIdx fun i d=>D.tup [.int (i:Nat),d]
theorem z87 {ds:List D} {i:Nat} {d:D} (h:(z7h ds)[i]? = some d):∃ d',ds[i]? = some d'∧d = .tup [.int i,d']:=by
 unfold z7h at h
 rw [List.getElem?_mapIdx] at h
 cases e:ds[i]? with
 | none=>rw [e] at h; cases h
 | some d' =>
  rw [e] at h
  cases h
  exact ⟨d',rfl,rfl⟩
theorem Reps.pair (r:Rep H O v d):Reps H O [.int i,v] [.int i,d]:=by
 refine ⟨rfl,fun j v' d' e1 e2=>?_⟩
 match j with
 | 0=>simp at e1 e2; subst e1 e2; exact .int _
 | 1=>simp at e1 e2; subst e1 e2; exact r
 | j + 2=>simp at e1
def z82 (f:DE):DI:=fun δ=>(f δ).bind fun r δ1=>match r.d with
 | .lst ds=>.ok (z7h ds) δ1
 | .tup ds=>.ok (z7h ds) δ1
 | _=>.stuck
theorem zaA {elts:List Expr} {ctx} {tp:Pos} (hg:Gl X "enumerate") (hm:X.mg "enumerate" = none) (he:SE X c e fe) (hs:W5 [e] X.env=[(false,eval e X.env)]:=by rfl):SI X c (.Tuple elts ctx tp) (.Call (.Name "enumerate" pp) [e] [] pos) (z82 fe) :=
 PI.weak (zeJ hg hm (z0V he z23 hs) hs) fun σ H R ⟨δ,k,q⟩=>by
  unfold z82 at q
  rw [z01] at q
  refine ⟨δ,k,z00 q fun r δ1 q1 v H1 a1 r1=>?_⟩
  have rr:=r1.rep
  generalize r.d=d at q1 rr
  cases d <;> first | exact q1.elim | skip
  ·cases rr with
   | tup h1 h2 h3 h4 =>
    rename_i a vs
    refine .inr ⟨_,rfl,⟨_,.of h2⟩,q1 _ H1 a1 ?_⟩
    intro H2 kp
    have h5:=kp _ _ h2 fun z=>h1 (.inr z)
    have r':Reps H1 (Av c σ δ1) vs _:=⟨h3,h4⟩
    refine ⟨⟨vs,.of h5,by rw [r'.1]; simp [z7h]⟩,fun i d e=>?_⟩
    obtain ⟨d',e',rfl⟩:=z87 e
    obtain ⟨v,ev,rv⟩:=r'.get e'
    refine ⟨⟨vs,v,.of h5,ev⟩,fun x H3 ⟨p,y,hp,hy,e3,ex⟩=>.inr ⟨p,_,_,hp,e3,ex,rfl,?_⟩⟩
    have:=hy vs (.of h5)
    rw [ev] at this
    cases this
    exact Reps.pair rv
  ·cases rr with
   | lst h1 h2 h3 h4 =>
    rename_i a vs
    refine .inl ⟨_,rfl,⟨_,.inl h2⟩,q1 _ H1 a1 ?_⟩
    intro H2 kp
    have h5:Rd H2 a (.lst vs):=Rd.keep h2 fun o e=>kp a o e fun z=>h1 (.inr z)
    have r':Reps H1 (Av c σ δ1) vs _:=⟨h3,h4⟩
    refine ⟨⟨vs,.inl h5,by rw [r'.1]; simp [z7h]⟩,fun i d e=>?_⟩
    obtain ⟨d',e',rfl⟩:=z87 e
    obtain ⟨v,ev,rv⟩:=r'.get e'
    refine ⟨⟨vs,v,.inl h5,ev⟩,fun x H3 ⟨p,y,hp,hy,e3,ex⟩=>.inr ⟨p,_,_,hp,e3,ex,rfl,?_⟩⟩
    have:=hy vs (.inl h5)
    rw [ev] at this
    cases this
    exact Reps.pair rv
end
end DV
namespace HT
open PySem PySem.Spec PyProof.Rows
section
variable {prog:Wk} {w:Wp} {A:Wn} {E:Value→W2→Prop} {s:W2}
end
end HT
namespace DV
open PySem PySem.Spec PyProof.Rows L2
section
variable {X:Cx} {c:Fc} {e:Expr} {fb:BE} {pos p2:Pos}
def pNeg:D→Option S
 | .int i=>some (.pure (.int (-i)))
 | _=>none
theorem z7u (he:SB X c e fb):SE X c (.UnaryOp .USub e pos) (eC1 pNeg fb) :=
 PE.weak (pe_un zft he) fun σ H Q h=>z4O (fun c σ δ H x d s Q k rx hp q=>by
  cases d with
  | int i =>
   simp only [pNeg,W7] at hp
   subst hp
   exact ⟨i,rx.int,q _ H (.refl k) (.int _)⟩
  | _=>simp [pNeg] at hp) h
def zdc:D→Bool
 | .non=>true
 | _=>false
def pIsN (neg:Bool) (d e:D):Option S:=match e with
 | .non=>some (.pure (.bl (neg != zdc d)))
 | _=>none
theorem zbl:Op2 (fun x y H Q=>y = .non∧Q (.bl (!decide (x = .non))) H) (pIsN true):=by
 intro c σ δ H x y d e s Q k rx ry hp q
 cases e with
 | non =>
  simp only [pIsN,W7] at hp
  subst hp
  have ey:y = .non:=by
   rcases ry with r | ⟨a,e,o⟩
   ·cases r; rfl
   ·exact o.elim
  have:(!decide (x=V.non))=(true != zdc d):=by
   rcases rx with r | ⟨a,e,o⟩
   ·cases r <;> simp [zdc]
   ·subst e
    cases d <;> first | exact o.elim | simp [zdc]
  exact ⟨ey,by rw [this]; exact q _ H (.refl k) (.bl _)⟩
 | _=>simp [pIsN] at hp
end
def Fc.park (c:Fc) (i:Nat) (a:Addr):Fc:=⟨c.H₀,fun b=>c.B b∨b=a,(i,a) :: c.pin,c.xc⟩
section
variable {c:Fc} {σ σ':St} {δ δ':Dl} {H H':Hp} {i:Nat} {a:Addr} {ds:List D}
theorem Own.unset (h:Own σ (δ.set i none) b):Own σ δ b:=by
 obtain ⟨j,d',e1,e2⟩:=h
 by_cases hj:i=j
 ·subst hj
  rw [Wx] at e1
  split at e1
  ·split at e1 <;> cases e1
  ·rename_i q; exact absurd rfl q
 ·rw [W3 hj] at e1
  exact ⟨j,d',e1,e2⟩
theorem zfl (k:Ok c σ δ H) (e:δ[i]? = some (some (.own (.lst ds)))) (ea:σ[i]? = some (some (.ref a))) (b:Addr) (z:Av (c.park i a) σ (δ.set i none) b):Av c σ δ b:=by
 rcases z with (z | z) | z
 ·exact .inl z
 ·subst z; exact .inr ⟨i,_,e,ea⟩
 ·exact .inr z.unset
theorem Ok.park (k:Ok c σ δ H) (e:δ[i]? = some (some (.own (.lst ds)))) (ea:σ[i]? = some (some (.ref a))):Ok (c.park i a) σ (δ.set i none) H:=by
 have sub:=zfl k e ea
 have ne:∀ j d,(δ.set i none)[j]? = some (some d)→i≠j∧δ[j]? = some (some d):=fun j d q=>by
  by_cases hj:i=j
  ·subst hj
   rw [Wm (Wa.mp e).1] at q; cases q
  ·rw [W3 hj] at q; exact ⟨hj,q⟩
 refine ⟨fun b o h n=>k.keep b o h fun ⟨j,z⟩=>n ⟨j,Wl _ z⟩,fun b z=>?_,fun b ⟨j,z⟩=>?_,by rw [Qe]; exact k.len,fun j d q=>?_,fun j d q=>?_,fun j l b d d' q1 q2=>?_,fun p hp=>?_⟩
 ·rcases z with z | z
  ·exact k.bd b z
  ·subst z; exact k.othere ⟨i,_,e,ea⟩
 ·rcases Wg.mp z with z | z
  ·cases z; exact k.othere ⟨i,_,e,ea⟩
  ·exact k.ith b ⟨j,z⟩
 ·obtain ⟨_,q⟩:=ne j _ q
  obtain ⟨v,g1,g2⟩:=k.slot j d q
  exact ⟨v,g1,g2.anti fun b z=>.inl (sub b z)⟩
 ·obtain ⟨hj,q⟩:=ne j _ q
  obtain ⟨b,g1,g2,g3,g4⟩:=k.own j d q
  refine ⟨b,g1,g2.anti fun b z=>.inl (sub b z),g3.imp (fun ⟨l,z⟩=>⟨l,Wl _ z⟩) id,fun z=>?_⟩
  rcases z with z | z
  ·exact g4 z
  ·subst z; exact hj (k.inj i j b _ _ e q ea g1)
 ·exact k.inj j l b d d' (ne j _ q1).2 (ne l _ q2).2
 ·rcases Wg.mp hp with z | z
  ·subst z; exact ea
  ·exact k.pinned p z
end
def dForO (i:Nat) (g:DG) (b:DS):DS:=fun δ=>match δ[i]? with
 | some (some (.own (.lst ds)))=>(forL g b ds (δ.set i none)).bind fun fl δ'=>match fl with
  | .ret (.own _)=>.stuck
  | fl=>.ok fl (δ'.set i (some (.own (.lst ds))))
 | _=>.stuck
section
variable {X:Cx} {c:Fc} {tg iter:Expr} {body:List Stmt} {g:DG} {b:DS} {i:Nat} {pos:Pos}
def zfj (np:List Nat) (i:Nat):DS:=fun δ=>match δ[i]? with
 | some (some (.own d))=>if np.contains i || !np.all (z0H δ) then .ok (.ret (.pure d)) (δ.set i (some (.pure d))) else .ok (.ret (.own d)) (δ.set i none)
 | some (some (.pure d))=>.ok (.ret (.pure d)) δ
 | _=>.stuck
theorem zem {np:List Nat} {e:Expr} (hnp:Np c np) (he:PE X e (tVar i)):SS X c (.Return (some e) pos) (zfj np i):=PS.weak (zdJ he) fun D σ H ⟨δ,k,q⟩=>by
 unfold zfj z1R at q
 split at q
 ·rename_i d e
  obtain ⟨a,ea,oa,ia,nb⟩:=k.own i d e
  refine ⟨.ref a,ea,?_⟩
  split at q
  ·obtain ⟨a',ea',x,r⟩:=k.give e
   rw [ea] at ea'; cases ea'
   exact q σ H x _ r
  ·rename_i hc
   simp only [Bool.or_eq_true,not_or,Bool.not_eq_true,Bool.not_eq_false',WB] at hc
   obtain ⟨hc1,hc2⟩:=hc
   have nI:¬ c.I a:=fun ⟨j,z⟩=>by
    have z1:=hnp (j,a) z
    have z2:=k.pinned (j,a) z
    have z3:=hc2 j (by simpa using z1)
    unfold z0H at z3
    split at z3
    ·rename_i d' ej
     have:=k.inj i j a _ _ e ej ea z2
     subst this
     rw [z1] at hc1; cases hc1
    ·cases z3
   have h0:c.H₀ a=none:=ia.resolve_left nI
   have hi:i < δ.length:=(Wa.mp e).1
   have ne:∀ j d,(δ.set i none)[j]? = some (some d)→i≠j∧δ[j]? = some (some d):=fun j d q=>by
    by_cases hj:i=j
    ·subst hj
     rw [Wm hi] at q; cases q
    ·rw [W3 hj] at q; exact ⟨hj,q⟩
   have sub:∀ b,Av (c.plus a) σ (δ.set i none) b→Av c σ δ b:=fun b z=>by
    rcases z with (z | z) | z
    ·exact .inl z
    ·subst z; exact .inr ⟨i,_,e,ea⟩
    ·exact .inr z.unset
   have kp:Ok (c.plus a) σ (δ.set i none) H:=by
    refine ⟨k.keep,fun b z=>?_,k.ith,by rw [Qe]; exact k.len,fun j d q=>?_,fun j d q=>?_,fun j l b d d' q1 q2=>k.inj j l b d d' (ne j _ q1).2 (ne l _ q2).2,k.pinned⟩
    ·rcases z with z | z
     ·exact k.bd b z
     ·subst z; exact k.othere ⟨i,_,e,ea⟩
    ·obtain ⟨_,q⟩:=ne j _ q
     obtain ⟨v,g1,g2⟩:=k.slot j d q
     exact ⟨v,g1,g2.anti fun b z=>.inl (sub b z)⟩
    ·obtain ⟨hj,q⟩:=ne j _ q
     obtain ⟨b,g1,g2,g3,g4⟩:=k.own j d q
     refine ⟨b,g1,g2.anti fun b z=>.inl (sub b z),g3,fun z=>?_⟩
     rcases z with z | z
     ·exact g4 z
     ·subst z; exact hj (k.inj i j b _ _ e q ea g1)
   have x:Aft c σ δ H σ (δ.set i none) H:=by
    refine ⟨⟨k.keep,k.bd,k.ith,by rw [Qe]; exact k.len,fun j d q=>?_,fun j d q=>?_,fun j l b d d' q1 q2=>k.inj j l b d d' (ne j _ q1).2 (ne l _ q2).2,k.pinned⟩,fun _ _ w _=>w,fun b z=>.inl z.unset,fun _ o w=>⟨o,w⟩⟩
    ·obtain ⟨_,q⟩:=ne j _ q
     obtain ⟨v,g1,g2⟩:=k.slot j d q
     exact ⟨v,g1,g2.anti fun b z=>.inl (z.elim .inl fun z=>.inr z.unset)⟩
    ·obtain ⟨hj,q⟩:=ne j _ q
     obtain ⟨b,g1,g2,g3,g4⟩:=k.own j d q
     exact ⟨b,g1,g2.anti fun b z=>.inl (z.elim .inl fun z=>.inr z.unset),g3,g4⟩
   exact q σ H x _ ⟨a,rfl,oa.anti fun b z=>.inl (sub b z),nb,h0,kp,h0⟩
 ·rename_i d e
  obtain ⟨v,e1,r⟩:=k.slot i d e
  exact ⟨v,e1,q σ H (.refl k) v r⟩
 ·exact q.elim
end
end DV
namespace L2
open PySem PySem.Spec PyProof.Rows
section
variable {X:Cx}
end
end L2
namespace DV
open PySem PySem.Spec PyProof.Rows L2
section
variable {X:Cx} {c:Fc} {e:Expr} {fe:DE} {pos:Pos}
end
section
variable {c:Fc} {σ:St} {δ δ':Dl} {H H':Hp} {i:Nat} {a p:Addr} {ds:List D}
end
open Classical in
noncomputable def itAt (δ₀:Dl) (ds:List D):DI:=fun δ=>if δ=δ₀ then .ok ds δ else .stuck
section
variable {X:Cx} {c:Fc} {cs:List Nat} {tg iter elt:Expr} {ifs:List Expr} {scope:Scope} {pos:Pos} {g:DG} {t:DT} {el:DE} {i:Nat}
end
section
variable {X:Cx} {c:Fc} {e:Expr} {fe:DE} {pos pos':Pos}
end
section
variable {X:Cx} {c:Fc} {pp pos:Pos}
end
section
variable {c:Fc} {σ:St} {δ:Dl} {H:Hp} {a:Addr} {d:D}
end
section
variable {X:Cx} {c:Fc} {e:Expr} {es:List Expr} {as:List Ak} {f0:DE} {k n:Nat} {x:Str} {G:DF} {pp pos:Pos}
end
section
variable {X:Cx} {c:Fc} {e:Expr} {fe:DE} {pos:Pos}
theorem Ok.mutD (k:Ok c σ δ H) (e:δ[i]? = some (some (.own (.dct ds)))) (ea:σ[i]? = some (some (.ref a))) (r:DR H (Av c σ δ) vs' ds') :
  Aft c σ δ H σ (δ.set i (some (.own (.dct ds')))) (upd H a (.dK vs')):=by
 have hi:i < δ.length:=(Wa.mp e).1
 obtain ⟨a',ea',oa,ia,nb⟩:=k.own i _ e
 rw [ea] at ea'; cases ea'
 obtain ⟨vs,ha,_⟩:=oa
 have ownA:Own σ δ a:=⟨i,_,e,ea⟩
 have avA:Av c σ δ a:=.inr ownA
 have own_iff:∀ b,Own σ (δ.set i (some (.own (.dct ds')))) b ↔ Own σ δ b:=fun b=>by
  constructor
  ·rintro ⟨j,d,e1,e2⟩
   by_cases hj:i=j
   ·subst hj
    exact ⟨i,_,e,e2⟩
   ·rw [W3 hj] at e1
    exact ⟨j,d,e1,e2⟩
  ·rintro ⟨j,d,e1,e2⟩
   by_cases hj:i=j
   ·subst hj
    exact ⟨i,_,by rw [Wm hi],e2⟩
   ·exact ⟨j,d,by rw [W3 hj]; exact e1,e2⟩
 have av_iff:∀ b,Av c σ (δ.set i (some (.own (.dct ds')))) b→Av c σ δ b:=fun b z=>z.elim .inl fun z=>.inr ((own_iff b).mp z)
 have ne:∀ b,¬ Av c σ δ b→b≠a:=fun b n z=>n (by rw [z]; exact avA)
 have kp:∀ b o,H b=some o→¬ Av c σ δ b→upd H a (.dK vs') b=some o:=fun b o h n=>by rw [z0l (ne b n)]; exact h
 have hup:∀ b o,H b=some o→∃ o',upd H a (.dK vs') b=some o':=fun b o h=>by
  by_cases hb:b=a
  ·exact ⟨_,by rw [hb]; exact z0t⟩
  ·exact ⟨o,by rw [z0l hb]; exact h⟩
 refine ⟨⟨fun b o h n=>?_,fun b z=>?_,fun b z=>?_,by rw [Qe]; exact k.len,fun j d h=>?_,fun j d h=>?_,fun j l b d d' h1 h2 h3 h4=>?_,k.pinned⟩,fun b o h n=>?_,fun b z=>.inl ((own_iff b).mp z),hup⟩
 ·have hb:b≠a:=fun z=>by
   subst z
   rcases ia with z | z
   ·exact n z
   ·rw [z] at h; cases h
  rw [z0l hb]
  exact k.keep b o h n
 ·obtain ⟨o,h⟩:=k.bd b z
  exact hup b o h
 ·obtain ⟨o,h⟩:=k.ith b z
  exact hup b o h
 ·have hj:i≠j:=fun z=>by subst z; rw [Wm hi] at h; cases h
  rw [W3 hj] at h
  obtain ⟨v,h1,h2⟩:=k.slot j d h
  exact ⟨v,h1,(h2.keep kp).anti fun b z=>.inl (av_iff b z)⟩
 ·by_cases hj:i=j
  ·subst hj
   rw [Wm hi] at h
   cases h
   exact ⟨a,ea,(let r':=r.map fun v d h=>(Rep.keep h kp).anti fun b z=>.inl (av_iff b z); ⟨vs',z0t,r'.keys,r'.vals⟩),ia,nb⟩
  ·rw [W3 hj] at h
   obtain ⟨b,h1,h2,h3,h4⟩:=k.own j d h
   have hb:b≠a:=fun z=>by subst z; exact hj (k.inj i j b _ d e h ea h1)
   exact ⟨b,h1,(h2.keep kp fun o q=>by rw [z0l hb]; exact q).anti fun b z=>.inl (av_iff b z),h3,h4⟩
 ·have f1:∃ d,δ[j]? = some (some (.own d)):=by
   by_cases hj:i=j
   ·subst hj; exact ⟨_,e⟩
   ·rw [W3 hj] at h1; exact ⟨d,h1⟩
  have f2:∃ d,δ[l]? = some (some (.own d)):=by
   by_cases hj:i=l
   ·subst hj; exact ⟨_,e⟩
   ·rw [W3 hj] at h2; exact ⟨d',h2⟩
  obtain ⟨_,f1⟩:=f1
  obtain ⟨_,f2⟩:=f2
  exact k.inj j l b _ _ f1 f2 h3 h4
 ·have hb:b≠a:=fun z=>n (by rw [z]; exact ownA)
  rw [z0l hb]; exact h
def z7Z (δ:Dl) (i:Nat):Bool:=match δ[i]? with
 | some (some (.own (.dct _)))=>true
 | _=>false
def zdm (i:Nat) (fi fe:DE):DS:=fun δ=>if z7Z δ i then (fe δ).bind fun r δ1=>if z7Z δ1 i then (fi δ1).bind fun k δ2=>match δ2[i]? with
  | some (some (.own (.dct ds)))=>match keyD k.d with
   | some kk=>if ds.length < W6 then .ok .next (δ2.set i (some (.own (.dct (putD ds kk r.d))))) else .stuck
   | none=>.stuck
  | _=>.stuck else .stuck else .stuck
theorem zbx (h:z7Z δ i=true):∃ ds,δ[i]? = some (some (.own (.dct ds))):=by
 unfold z7Z at h
 split at h
 ·rename_i ds e; exact ⟨ds,e⟩
 ·cases h
theorem zel {i:Nat} {o ix:Expr} {fi:DE} {sp:Pos} (hu:X.A.units + 64 < Ql) (ho:PE X o (tVar i)) (hi:SE X c ix fi) (he:SE X c e fe)
  (hs:swapsWith e (some (.Subscript o ix sp)) pos.line X.env=pure false:=by rfl):SS X c (.Assign [.Subscript o ix sp] e pos) (zdm i fi fe) :=
 PS.weak (zeE (by omega) ho hi he hs) fun D σ H ⟨δ,k,q⟩=>by
  unfold zdm z1R at q
  split at q
  case isFalse=>exact q.elim
  rename_i hown
  rw [z01] at q
  refine ⟨δ,k,z00 q fun r δ1 q1 v H1 a1 r1=>?_⟩
  split at q1
  case isFalse=>exact q1.elim
  rename_i hown1
  obtain ⟨ds1,e1⟩:=zbx hown1
  obtain ⟨a,ea,_,_⟩:=a1.ok.own i _ e1
  refine ⟨.ref a,ea,δ1,a1.ok,?_⟩
  rw [z01] at q1
  refine z00 q1 fun kx δ2 q2 u H2 a2 r2=>?_
  split at q2
  ·rename_i ds e2
   split at q2
   ·rename_i kk hk
    split at q2
    ·rename_i hz
     obtain ⟨a',ea',oa,_⟩:=a2.ok.own i _ e2
     rw [ea] at ea'; cases ea'
     obtain ⟨ws,ha,hk1,hk2⟩:=id oa
     have dr:DR H2 (Av c σ δ2) ws ds:=DR.of hk1 hk2
     have hu':=z90 hk r2.b
     subst hu'
     have hlen:ws.length=ds.length:=by have:=congrArg List.length hk1; simpa using this
     have rv:Rep H2 (Av c σ δ2) v r.d:=Rep.aft r1.rep a2
     refine ⟨a,_,rfl,DPut.k ha (by rw [hlen]; exact hz),?_⟩
     exact q2 σ _ (a1.trans (a2.trans (Ok.mutD a2.ok e2 ea (dr.put rv))))
    ·exact q2.elim
   ·exact q2.elim
  ·exact q2.elim
end
section
variable {X:Cx} {c:Fc} {o e f:Expr} {fe ff:DE} {i:Nat} {apos cpos:Pos}
end
section
variable {X:Cx}
end
end DV
namespace L2
open PySem PySem.Spec PyProof.Rows
section
variable {X:Cx} {tg:Expr}
end
end L2
namespace DV
open PySem PySem.Spec PyProof.Rows L2
variable {X:Cx} {c:Fc} {tg e:Expr} {fe:DE} {pp pos:Pos}
section
variable {X:Cx}
end
theorem vals_ints:∀ {ns:List Int} {us:List Value},Vals (ns.map V.int) us→∃ ys:List (Int×Tok),us=(ys.map fun p=>Value.int p.1 p.2)∧ns=ys.map (·.1)
 | [],us,r=>by cases r; exact ⟨[],rfl,rfl⟩
 | n :: ns,us,r=>by
  cases r with
  | cons r1 r2 =>
   obtain ⟨ys,e1,e2⟩:=vals_ints r2
   obtain ⟨t,rfl⟩:=r1
   exact ⟨(n,t) :: ys,by rw [e1]; rfl,by rw [e2]; rfl⟩
section
variable {X:Cx}
end
def z6s:List D→Option (List Int)
 | []=>some []
 | .int i :: r=>(z6s r).map (i :: ·)
 | _ :: _=>none
theorem ints_map (ns:List Int):z6s (ns.map D.int)=some ns:=by
 induction ns with
 | nil=>rfl
 | cons n r ih=>simp [z6s,ih]
section
variable {X:Cx} {c:Fc} {e:Expr} {fb:BE} {pos pp:Pos}
end
end DV
namespace L2
open PySem PySem.Spec PyProof.Rows
section
variable {prog:Wk} {w:Wp} {A:Wn} {E:Value→W2→Prop} {s:W2}
end
section
variable {X:Cx} {pos:Pos}
end
end L2
namespace DV
open PySem PySem.Spec PyProof.Rows L2
section
variable {X:Cx} {c:Fc} {pos:Pos}
end
open PySem PySem.Builtin PySem.Builtin.Str PySem.StrLaws
section
variable {X:Cx}
end
section
variable {X:Cx} {c:Fc} {e:Expr} {fb:BE}
end
end DV
set_option maxHeartbeats 1000000
namespace PySem
open Sem (wp)
open AutoSeq1 (wpAny_loadPart')
section
variable {prog:Wk} {w:Wp} {A:Wn} {E:Value→W2→Prop} {s:W2}
end
end PySem
namespace PyProof.Rows
open PySem
section
variable {M:Model} {A:Wn} {E:Value→W2→Prop} {s:W2} {env:Env}
end
end PyProof.Rows
set_option maxHeartbeats 400000
namespace L2
open PySem PySem.Spec PyProof.Rows
end L2
namespace DV
open PySem PySem.Spec PyProof.Rows L2
section
variable {X:Cx} {c:Fc} {tg e:Expr} {fe:DE} {pos pp:Pos}
end
end DV
namespace L2
open PySem PySem.Spec PyProof.Rows
def Fly (h:Heap) (a C T:Addr) (dx:Option Addr) (fl:Value):Prop :=
 ∃ vs sl oT ts a0,h.get? a=some ⟨.ref C,dx,.fields vs,sl⟩∧vs[0]? = some a0∧vs[1]? = some (.ref T)∧T≠a∧h.get? T=some oT∧oT.data = .fields ts∧ts[3]? = some fl
structure Noted (h h':Heap) (fs:List Addr) (a T:Addr) (old:Value):Prop where
 new:h.get? T=none
 keep:∀ b o,h.get? b=some o→b≠a→old≠.ref b→b ∉ fs→h'.get? b=some o
 frame:∀ b o,h.get? b=some o→(∀ vs,o.data≠.fields vs)→∃ sl,h'.get? b=some { o with slots:=sl }
section
variable {M:Model} {A:Wn} {E:Value→W2→Prop} {s:W2}
theorem z88
  (hfr:A.frames=some (env :: outer)) (hl:s.heap.FunFrames base (env :: outer)) (hf:env.frame=some L)
  (he:s.heap.get? a=some ⟨.ref C,dx,.fields vs,sl⟩) (h0:vs[0]? = some a0) (h1:1 < vs.size)
  (q:∀ h' T,Fly h' a C T dx (Qq L)→Noted s.heap h' ((env :: outer).filterMap (·.frame)) a T .none→Q () { s with heap:=h' }) :
  W8 M A (do let x ← frameOf env; let pl ← entryPlaceOf L b0; let y ← EntryCells.newEntry head x .none (Qq L) .none pl; setField (.ref a) 1 y) Q E s:=by
 have na:a ∉ (env :: outer).filterMap (·.frame):=fun z=>by
  obtain ⟨_,o,g1,g2⟩:=hl.mem z
  rw [he] at g1
  cases g1
  exact g2 vs rfl
 refine W1 (wpAny_frameOf_fun hfr hl hf fun hA k=>W1 (wpAny_entryPlaceOf fun pl hpl=>?_))
 unfold EntryCells.newEntry newFields
 refine W1 (Qc ?_ (hpl.sizeOk5 _ _ _ _ _))
 have eA:hA.get? a=some ⟨.ref C,dx,.fields vs,sl⟩:=(k.2.1 a na).trans he
 generalize hts:([head,.ref L,.none,Qq L,.none] ++ (if pl.isEmpty then Wb 6 Value.none else pl)).toArray=ts
 have t3:ts[3]? = some (Qq L):=by
  rw [← hts]
  rcases hpl with rfl | ⟨_,_,_,_,_,_,_,rfl⟩ <;> simp
 have eB:=W4 (h:=hA) { cls:=.type "traceback",dict:=none,data:=.fields ts } eA
 have nT:hA.objs.size≠a:=Jh (We eA)
 refine Jv eB rfl h1 (q _ hA.objs.size ⟨vs.setIfInBounds 1 (.ref hA.objs.size),sl,{ cls:=.type "traceback",dict:=none,data:=.fields ts },ts,a0,?_,?_,?_,nT,?_,rfl,t3⟩ ⟨?_,fun b o e n _ nf=>?_,fun b o e d=>?_⟩)
 ·exact (Qk _ eB rfl)
 ·rw [Array.getElem?_setIfInBounds_ne (by decide)]; exact h0
 ·simp [h1]
 ·rw [WP _ _ (Ne.symm nT)]; exact Wi hA rfl
 ·cases z:s.heap.get? hA.objs.size with
  | none=>rfl
  | some o =>
   obtain ⟨sl',z'⟩:=k.2.2 _ o z
   exact absurd (We z') (Q0 _)
 ·rw [WP _ _ (Ne.symm n)]
  exact W4 _ ((k.2.1 b nf).trans e)
 ·have nb:b≠a:=fun z=>by
   rw [z,he] at e
   cases e
   exact d vs rfl
  obtain ⟨sl',z⟩:=k.2.2 b o e
  exact ⟨sl',by rw [WP _ _ (Ne.symm nb)]; exact W4 _ z⟩
theorem z9R
  (hfr:A.frames=some (env :: outer)) (hl:s.heap.FunFrames base (env :: outer)) (hf:env.frame=some L)
  (he:s.heap.get? a=some ⟨.ref C,dx,.fields vs,sl⟩) (h0:vs[0]? = some a0) (h1:vs[1]? = some .none)
  (q:∀ h' T,Fly h' a C T dx (Qq L)→Noted s.heap h' ((env :: outer).filterMap (·.frame)) a T .none→Q () { s with heap:=h' }):W8 M A (Jk (.ref a) env) Q E s:=by
 unfold Jk
 simp only [hf]
 refine W1 (Q7 he rfl h1 ?_)
 rw [if_neg (by decide)]
 exact z88 hfr hl hf he h0 (QB.mp h1).1 q
theorem zbm
  (hfr:A.frames=some (env :: outer)) (hl:s.heap.FunFrames base (env :: outer)) (hf:env.frame=some L) (hx:Fly s.heap a C T₀ dx .none)
  (q:∀ h' T,Fly h' a C T dx (Qq L)→Noted s.heap h' ((env :: outer).filterMap (·.frame)) a T (.ref T₀)→Q () { s with heap:=h' }):W8 M A (Jk (.ref a) env) Q E s:=by
 obtain ⟨vs,sl,oT,ts,a0,e1,e2,e3,e4,e5,e6,e7⟩:=hx
 unfold Jk
 simp only [hf]
 refine W1 (Q7 e1 rfl e3 ?_)
 rw [if_pos (by simp)]
 refine W1 (Q7 e5 e6 e7 ?_)
 rw [if_neg (by simp [Qq])]
 refine W1 (Jv e5 e6 (QB.mp e7).1 ?_)
 have oth:∀ b,b≠T₀→(s.heap.update T₀ (Obj.mapFields (·.setIfInBounds 3 Value.none))).get? b=s.heap.get? b:=fun b n=>WP _ _ (Ne.symm n)
 have nrec:∀ b o,s.heap.get? b=some o→(∀ us,o.data≠.fields us)→b≠T₀:=fun b o e d z=>by
  rw [z,e5] at e
  cases e
  exact d ts e6
 refine z88 (s:={ s with heap:=s.heap.update T₀ (Obj.mapFields (·.setIfInBounds 3 Value.none)) }) hfr (hl.of_keeps fun b o e d=>⟨o,(oth b (nrec b o e d)).trans e,rfl⟩) hf ((oth a (Ne.symm e4)).trans e1) e2 (QB.mp e3).1 fun h' T f n=>q h' T f ⟨?_,fun b o e n1 n2 n3=>?_,fun b o e d=>n.frame b o ((oth b (nrec b o e d)).trans e) d⟩
 ·have:=n.new
  by_cases z:T=T₀
  ·exfalso
   rw [z] at this
   have g:=Qk (h:=s.heap) (Obj.mapFields (·.setIfInBounds 3 Value.none)) e5 (Obj.isFreed_of_fields (Obj.data_mapFields e6 _))
   rw [this] at g
   cases g
  ·exact (oth T z).symm.trans this
 ·exact n.keep b o ((oth b fun z=>n2 (by rw [z])).trans e) n1 (by simp) n3
theorem z9S {env:Env} {L a C T:Addr} {dx:Option Addr} {Q:Unit→W2→Prop} (hf:env.frame=some L) (hx:Fly s.heap a C T dx (Qq L)) (q:Q () s):W8 M A (Jk (.ref a) env) Q E s:=by
 obtain ⟨vs,sl,oT,ts,a0,e1,e2,e3,e4,e5,e6,e7⟩:=hx
 unfold Jk
 simp only [hf]
 refine W1 (Q7 e1 rfl e3 ?_)
 rw [if_pos (by simp)]
 refine W1 (Q7 e5 e6 e7 ?_)
 rw [if_pos (by simp)]
 exact Wc q
theorem za2 (hx:Fly s.heap a C T dx fl)
  (q:∀ h',Fly h' a C T dx (o.elim .none fun f=>Qq f)→(∀ b,b≠T→h'.get? b=s.heap.get? b)→Q () { s with heap:=h' }):W8 M A (setFlight (.ref a) o) Q E s:=by
 obtain ⟨vs,sl,oT,ts,a0,e1,e2,e3,e4,e5,e6,e7⟩:=hx
 have hi:=(QB.mp e7).1
 have oth:∀ b,b≠T→(s.heap.update T (Obj.mapFields (·.setIfInBounds 3 (o.elim Value.none fun f=>Qq f)))).get? b=s.heap.get? b:=fun b n=>WP _ _ (Ne.symm n)
 unfold setFlight
 refine W1 (Q7 e1 rfl e3 ?_)
 rw [if_pos (by simp)]
 exact Jv e5 e6 hi (q _ ⟨vs,sl,_,_,a0,(oth a (Ne.symm e4)).trans e1,e2,e3,e4,Qk _ e5 (Obj.isFreed_of_fields (Obj.data_mapFields e6 _)),Obj.data_mapFields e6 _,by simp [hi]⟩ oth)
end
abbrev vErr:List Value:=[.type "ValueError",.type "Exception",.type "BaseException",.type "object"]
def ExcC (K:W0) (C:Addr):Prop:=PySem.W.excIn K C vErr "ValueError.__new__" = true
theorem ExcC.obj {K:W0} {C:Addr} {h:Heap} (q:ExcC K C) (X:K.In h):∃ (bm:List Value) (N:Addr) (nm qn:Str) (bs:List Value) (hdct:Bool) (sn:List Str) (sub:List Value) (ab:Bool) (col:Option Bool) (dd:Option Addr) (k0 k1 k2 k3 k5:Option Value) (mN:Str→Option Value),
  h.get? C=some (excClassObj nm qn C N bs bm hdct sn sub ab col dd k0 k1 k2 k3 k5 "ValueError.__new__")∧h.Ns N mN∧mN "__init__" = none∧OwnTail h vErr bm:=by
 unfold ExcC PySem.W.excIn at q
 split at q
 next dd cd sl lk =>
  split at q
  next C' bm k0 k1 k2 k3 n k5 e1 e2 =>
   simp only [Wf,beq_iff_eq,QE] at q
   obtain ⟨⟨⟨⟨⟨c1,c2⟩,c3⟩,c4⟩,c5⟩,c6⟩:=q
   subst c1; subst c2
   have e3:sl = #[k0,k1,k2,k3,some (.builtin "ValueError.__new__"),k5]:=by
    cases sl; simp only at e2; rw [e2]
   subst e3
   cases cd
   simp only at e1 c3 c4 c5 c6 lk
   subst e1; subst c3
   exact ⟨bm,_,_,_,_,_,_,_,_,_,dd,k0,k1,k2,k3,k5,_,X _ _ lk,.of_isNs (PySem.W.isNs_of_in X c5),PySem.W.nsMap_none_of_in X c5 c6,PySem.W.tail_of_in X c4⟩
  next=>cases q
 next=>cases q
def CXe (P:Wk) (w:Wp):CXT:=fun outer H s E v s' =>
 ∃ (a C T:Addr) (dx:Option Addr) (H':Hp),v = .ref a∧s'.os=s.os∧AllBare s'.gens∧Un (frs outer) [] H H' s.heap s'.heap∧HOk P w H' s'.heap∧Fly s'.heap a C T dx .none∧s.heap.get? a=none∧s.heap.get? T=none∧H' a=none∧H' T=none∧E (.ref C) dx H'
section
variable {X:Cx} {x:Str} {C:Addr} {np cpos pos:Pos}
end
section
variable {X:Cx} {pins:List (Addr×Obj)} {σ:St} {H:Hp} {s:W2} {h':Heap}
theorem Inv.gone (I:Inv X pins σ H s) (hx:X.ex=[]) (e:s.heap.get? b=none):H b=none∧X.s₀.heap.get? b=none:=by
 constructor
 ·cases q:H b with
  | none=>rfl
  | some o =>
   exfalso
   have:∃ u,s.heap.get? b=some u:=by
    have z:=I.hok b o q
    clear q
    induction o with
    | lst xs=>obtain ⟨_,_,_,_,e⟩:=z; exact ⟨_,e⟩
    | tup xs=>obtain ⟨_,_,_,_,e⟩:=z; exact ⟨_,e⟩
    | dK kvs=>obtain ⟨_,_,_,_,_,_,_,e,_⟩:=z; exact ⟨_,e⟩
    | dT kvs=>obtain ⟨_,_,_,_,_,_,_,e,_⟩:=z; exact ⟨_,e⟩
    | set S n=>obtain ⟨_,_,_,_,e,_⟩:=z; exact ⟨_,e⟩
    | ins C dx fs=>obtain ⟨_,_,_,e,_⟩:=z; exact ⟨_,e⟩
    | own y=>exact z
    | xd fs=>obtain ⟨_,⟨_,_,_,e,_⟩,_⟩:=z; exact ⟨_,e⟩
    | rng lo hi=>obtain ⟨_,_,_,e⟩:=z; exact ⟨_,e⟩
    | frz ob u ih=>exact ⟨_,z.1⟩
    | tbl ps=>exact ⟨_,z⟩
    | met f y=>exact ⟨_,z⟩
    | ext φ=>exact z.2.1
   obtain ⟨u,q⟩:=this
   rw [e] at q; cases q
 ·cases q:X.s₀.heap.get? b with
  | none=>rfl
  | some o =>
   obtain ⟨o',q'⟩:=I.base.there b o q (by rw [hx]; simp)
   rw [e] at q'; cases q'
end
structure Apart (X:Cx) (pins:List (Addr×Obj)) (H:Hp) (b:Addr):Prop where
 old:X.s₀.heap.get? b=none
 free:H b=none
 loc:b≠X.env.locals
 cel:∀ x c,X.env.cells.lookup x=some c→c≠b
 pin:∀ p ∈ X.pn ++ pins,p.1≠b
section
variable {X:Cx} {pins:List (Addr×Obj)} {σ:St} {H:Hp} {s:W2} {h':Heap} {a T:Addr}
theorem Inv.neL (I:Inv X pins σ H s) (e:X.s₀.heap.get? b=some o):b≠X.env.locals:=WA (Ws (We e) I.ok.above)
theorem Inv.noted2 (I:Inv X pins σ H s) (ha:Apart X pins H a) (hT:Apart X pins H T) (k1:∀ b o,s.heap.get? b=some o→b ∉ frs X.stack→b≠a→b≠T→h'.get? b=some o)
  (k2:∀ b o,s.heap.get? b=some o→b ∈ frs X.stack→∃ sl,h'.get? b=some { o with slots:=sl }):Inv X pins σ H { s with heap:=h' }:=by
 have any:∀ b o,s.heap.get? b=some o→b≠a→b≠T→∃ sl,h'.get? b=some { o with slots:=sl }:=fun b o e n1 n2=>by
  by_cases hb:b ∈ frs X.stack
  ·exact k2 b o e hb
  ·exact ⟨o.slots,k1 b o e hb n1 n2⟩
 have ne:∀ b o,X.s₀.heap.get? b=some o→b≠a∧b≠T:=fun b o e=>⟨fun z=>(by rw [z,ha.old] at e; cases e),fun z=>(by rw [z,hT.old] at e; cases e)⟩
 have nst:∀ b,b≠X.env.locals→b ∉ X.fs→b ∉ frs X.stack:=fun b n1 n2 z=>(Wg.mp (I.stkSub b z)).elim n1 n2
 have cellK:∀ y c,X.env.cells.lookup y=some c→∀ v,s.heap.IsCell c v→h'.IsCell c v:=fun y c e v ⟨o,ho,hd⟩=>by
  obtain ⟨sl,q⟩:=any c o ho (ha.cel y c e) (hT.cel y c e)
  exact ⟨_,q,hd⟩
 refine ⟨I.ok,I.os,I.bare,⟨fun b o e n hb hx=>?_,fun b o e n hb hx=>?_,I.base.free,fun b o e hx=>?_,I.base.tups,I.base.frzs,I.base.tbls⟩,?_,fun y c e=>?_,I.free,I.freeC,fun p hp=>?_,fun b o e=>?_,I.len⟩
 ·exact k1 b o (I.base.keep b o e n hb hx) (nst b (I.neL e) hb) (ne b o e).1 (ne b o e).2
 ·obtain ⟨sl,q⟩:=I.base.slot b o e n hb hx
  obtain ⟨sl',q'⟩:=any b _ q (ne b o e).1 (ne b o e).2
  exact ⟨sl',q'⟩
 ·obtain ⟨o',q⟩:=I.base.there b o e hx
  obtain ⟨sl',q'⟩:=any b _ q (ne b o e).1 (ne b o e).2
  exact ⟨_,q'⟩
 ·obtain ⟨m,⟨o,es,ep,ho,hd,r⟩,hl⟩:=I.loc
  obtain ⟨sl,q⟩:=any _ o ho (fun z=>ha.loc z.symm) (fun z=>hT.loc z.symm)
  refine ⟨m,⟨_,es,ep,q,hd,r⟩,fun i y v e1 e2 e3=>?_⟩
  obtain ⟨u,ru,lk⟩:=hl i y v e1 e2 e3
  refine ⟨u,ru,lk.elim .inl fun ⟨k,c,e,z⟩=>.inr ⟨k,c,e,cellK y c e _ z⟩⟩
 ·obtain ⟨v,z⟩:=I.cell y c e
  exact ⟨v,cellK y c e v z⟩
 ·obtain ⟨e,n,nl,nf,d⟩:=I.pin p hp
  exact ⟨k1 p.1 p.2 e (nst _ nl nf) (ha.pin p hp) (hT.pin p hp),n,nl,nf,d⟩
 ·refine (I.hok b o e).stay (fun c u hc q=>k1 c u q (fun z=>?_) (fun z=>?_) (fun z=>?_)) (fun _ q=>q) fun _ _ q=>q
  ·have:=I.stkFree c z
   rcases hc with rfl | hc
   ·rw [e] at this; cases this
   ·rw [hc] at this; cases this
  ·subst z
   rcases hc with rfl | hc
   ·rw [ha.free] at e; cases e
   ·rw [ha.free] at hc; cases hc
  ·subst z
   rcases hc with rfl | hc
   ·rw [hT.free] at e; cases e
   ·rw [hT.free] at hc; cases hc
theorem Inv.track (I:Inv X pins σ H s) (ha:Apart X pins H a) (ob:ObjOk X.prog X.w (upd H a o) s.heap a o):Inv X pins σ (upd H a o) s:=by
 have ne:∀ {b:Addr} {u:HO},H b=some u→b≠a:=fun {b u} e z=>by rw [z,ha.free] at e; cases e
 have up:∀ {b:Addr} {u:HO},H b=some u→upd H a o b=some u:=fun {b u} e=>by rw [z0l (ne e)]; exact e
 have no:∀ {b:Addr},b≠a→H b=none→upd H a o b=none:=fun {b} n e=>by rw [z0l n]; exact e
 refine ⟨I.ok,I.os,I.bare,⟨I.base.keep,I.base.slot,fun b u e n hx=>no (fun z=>by rw [z,ha.old] at e; cases e) (I.base.free b u e n hx),I.base.there,fun b xs e=>up (I.base.tups b xs e),fun b u z e=>up (I.base.frzs b u z e),fun b ps e=>?_⟩,I.loc,I.cell,no (Ne.symm ha.loc) I.free,fun x c e=>no (ha.cel x c e) (I.freeC x c e),fun p hp=>?_,fun b u e=>?_,I.len⟩
 ·obtain ⟨m,q⟩:=I.base.tbls b ps e
  exact ⟨m,up q⟩
 ·obtain ⟨e,n,nl,nf,d⟩:=I.pin p hp
  exact ⟨e,no (ha.pin p hp) n,nl,nf,d⟩
 ·by_cases hb:b=a
  ·subst hb
   rw [z0t] at e
   cases e
   exact ob
  ·rw [z0l hb] at e
   exact (I.hok b u e).stay (fun _ _ _ q=>q) (fun c q=>up q) fun c xs q=>up q
theorem z9A (I:Inv X pins σ H s) (hN:X.N.Nodup) (hi:X.N[i]? = some x) (hk:X.env.scope.names.lookup x=some .local)
  (h:∀ s',Inv X pins (σ.set i none) H s'→Q () s'):W8 M A (do bindName X.env x .none; unbindBehindTheSuite X.env x pos) Q E s:=by
 have hiσ:i < σ.length:=by rw [I.len]; exact (Wa.mp hi).1
 refine W1 (wpAny_bindName (z5E (v:=.non) (u:=.none) I hN hi (.inl hk) rfl (fun s1 I1 _=>?_) (.inr hk)))
 obtain ⟨m,hn,hl⟩:=id I1.loc
 obtain ⟨u,ru,lk⟩:=hl i x .non hi (Wm hiσ) (.inl hk)
 have hv:m x=some u:=by
  rcases lk with ⟨_,e⟩ | ⟨z,_⟩
  ·exact e
  ·have:X.env.kindOf x=some .local:=hk
   rw [this] at z
   rcases z with z | z <;> cases z
 refine wpAny_onRaise (wpAny_unbindName_local hk hn hv (by rw [I.ok.kind]; rfl) fun h' w' hn' hs=>h _ ?_)
 obtain ⟨oL,_,_,hoL,_⟩:=id hn
 have cne:=I1.cne
 refine ⟨I1.ok,I1.os,I1.bare,⟨fun b o e n hb hx=>?_,fun b o e n hb hx=>?_,I1.base.free,fun b o e hx=>?_,I1.base.tups,I1.base.frzs,I1.base.tbls⟩,⟨_,hn',fun j y v' e1 e2 e3=>?_⟩,fun y c e=>?_,I1.free,I1.freeC,fun p hp=>?_,fun b ob e=>?_,by simpa using I.len⟩
 ·exact (hs.2 b (I1.neL e)).trans (I1.base.keep b o e n hb hx)
 ·obtain ⟨sl,q⟩:=I1.base.slot b o e n hb hx
  exact ⟨sl,(hs.2 b (I1.neL e)).trans q⟩
 ·obtain ⟨o',q⟩:=I1.base.there b o e hx
  exact ⟨o',(hs.2 b (I1.neL e)).trans q⟩
 ·by_cases hj:j=i
  ·subst hj
   rw [Wm hiσ] at e2
   cases e2
  ·rw [W3 (Ne.symm hj)] at e2
   obtain ⟨u',r',q⟩:=hl j y v' e1 (by rw [W3 (Ne.symm hj)]; exact e2) e3
   have hyx:y≠x:=fun z=>hj (z77 hN e1 (z ▸ hi))
   refine ⟨u',r',?_⟩
   rcases q with ⟨k,e⟩ | ⟨k,c,e,z⟩
   ·exact .inl ⟨k,by simp [hyx,e]⟩
   ·exact .inr ⟨k,c,e,z.sameBut hs (cne y c e)⟩
 ·obtain ⟨w2,z⟩:=I1.cell y c e
  exact ⟨w2,z.sameBut hs (cne y c e)⟩
 ·obtain ⟨e,n,nl,nf,d⟩:=I1.pin p hp
  exact ⟨(hs.2 p.1 nl).trans e,n,nl,nf,d⟩
 ·refine (I1.hok b ob e).stay (fun c u' hc q=>(hs.2 c fun z=>?_).trans q) (fun _ q=>q) fun _ _ q=>q
  subst z
  have:=I1.free
  rcases hc with rfl | hc
  ·rw [e] at this; cases this
  ·rw [hc] at this; cases this
end
section
variable {prog:Wk} {w:Wp} {A:Wn} {E:Value→W2→Prop} {K:W0}
theorem zbK {C B e:Addr} {oe:Obj} {h:Heap} {g:Array GenState} {d:Drawn} {t:Nat} {os:OsState} {Q:Bool→W2→Prop} (X:K.In h) (qB:ExcC K B) (qm:PySem.W.mroIn K C (.ref B)=some true) (he:h.get? e=some oe) (hc:oe.cls = .ref C)
  (hq:Q true ⟨h,g,d,t,os⟩):W8 (model prog w) A (excMatches (.ref e) (.ref B)) Q E ⟨h,g,d,t,os⟩:=by
 obtain ⟨bm,N,nm,qn,bs,hdct,sn,sub,ab,col,dd,k0,k1,k2,k3,k5,mN,hB,_,_,hT⟩:=qB.obj X
 have cB:(Value.ref B :: bm).contains (.type "BaseException")=true:=by rw [Jn,hT.hasType (X:="BaseException") (b:=true) rfl,Bool.or_true]
 have lk:=PySem.W.looks_mroIn (M:=model prog w) X qm
 have f:=tc_notTuple
 unfold excMatches
 repeat (first | with_reducible refine PySem.W.Looks.at lk ?_ | (with_reducible refine Q8 he ?_; rw [hc]) | with_reducible refine Q8 hB ?_ | (with_reducible refine wpAny_isSubtype_exc hB ?_; rw [cB]) | wp_step)
 exact hq
end
def Cx.wt (X:Cx) (pn:List (Addr×Obj)) (xe:Value→W2→Prop):Cx:={ X with pn:=pn,xe:=xe }
def Cx.hand (X:Cx) (a:Addr):Cx:={ X with A:=X.A.mark (some (.ref a)),calm:=false,xe:=fun _ _=>False }
section
variable {X:Cx} {pins ps:List (Addr×Obj)} {σ:St} {H:Hp} {s:W2} {a:Addr} {xe:Value→W2→Prop} {pn:List (Addr×Obj)}
theorem Cx.Ok.wt (o:X.Ok):(X.wt pn xe).Ok:=⟨o.mod,o.kind,o.glob,o.blt,o.above,o.inj,o.has,o.cab,o.hd,o.frames,o.stk,o.exf,o.bs,o.bsz,o.noex,o.exfs,o.funs,o.frf⟩
theorem Cx.Ok.hand (o:X.Ok):(X.hand a).Ok:=⟨o.mod,o.kind,o.glob,o.blt,o.above,o.inj,o.has,o.cab,fun z=>(by cases z),o.frames,o.stk,o.exf,o.bs,o.bsz,o.noex,o.exfs,o.funs,o.frf⟩
theorem Inv.wt (I:Inv X pins σ H s):Inv (X.wt (X.pn ++ pins) xe) [] σ H s:=⟨I.ok.wt,I.os,I.bare,I.base,I.loc,I.cell,I.free,I.freeC,fun p hp=>I.pin p (by simpa [Cx.wt] using hp),I.hok,I.len⟩
theorem Inv.unwt (o:X.Ok) (J:Inv (X.wt (X.pn ++ pins) xe) ps σ H s):Inv X pins σ H s:=⟨o,J.os,J.bare,J.base,J.loc,J.cell,J.free,J.freeC,fun p hp=>J.pin p (J4 _ hp),J.hok,J.len⟩
theorem Inv.hand (I:Inv X pins σ H s):Inv (X.hand a) pins σ H s:=⟨I.ok.hand,I.os,I.bare,I.base,I.loc,I.cell,I.free,I.freeC,I.pin,I.hok,I.len⟩
theorem Inv.unhand (o:X.Ok) (J:Inv (X.hand a) pins σ H s):Inv X pins σ H s:=⟨o,J.os,J.bare,J.base,J.loc,J.cell,J.free,J.freeC,J.pin,J.hok,J.len⟩
theorem Apart.unwt (h:Apart (X.wt (X.pn ++ pins) xe) ps H a):Apart X pins H a:=⟨h.old,h.free,h.loc,h.cel,fun p hp=>h.pin p (J4 _ hp)⟩
theorem SP.unwt (o:X.Ok) (h:SP (X.wt (X.pn ++ pins) xe) ps D f s):SP X pins D f s:=by
 cases f with
 | next=>obtain ⟨σ',H',J,q⟩:=h; exact ⟨σ',H',Inv.unwt o J,q⟩
 | brk=>obtain ⟨σ',H',J,q⟩:=h; exact ⟨σ',H',Inv.unwt o J,q⟩
 | cont=>obtain ⟨σ',H',J,q⟩:=h; exact ⟨σ',H',Inv.unwt o J,q⟩
 | ret u=>obtain ⟨v,σ',H',J,r,q⟩:=h; exact ⟨v,σ',H',Inv.unwt o J,r,q⟩
def zak (X:Cx) (pins:List (Addr×Obj)) (H:Hp) (s:W2) (a C:Addr) (dx:Option Addr):Prop:=∃ T fl,Fly s.heap a C T dx fl∧(fl = .none∨∃ L,X.env.frame=some L∧fl=Qq L)∧Apart X pins H a∧Apart X pins H T
def zcg (X:Cx) (ps:List (Addr×Obj)) (H:Hp) (s:W2) (a C:Addr) (dx:Option Addr):Prop:=(∃ vs sl a0,s.heap.get? a=some ⟨.ref C,dx,.fields vs,sl⟩∧vs[0]? = some a0∧vs[1]? = some .none)∧Apart X ps H a
theorem Inv.apart (I:Inv X pins σ H s) (hx:X.ex=[]) (e:s.heap.get? b=none) (f:H' b=none):Apart X pins H' b:=by
 refine ⟨(I.gone hx e).2,f,fun z=>?_,fun x c hc z=>?_,fun p hp z=>?_⟩
 ·obtain ⟨m,⟨o,_,_,ho,_⟩,_⟩:=I.loc
  rw [← z,e] at ho; cases ho
 ·obtain ⟨v,o,ho,_⟩:=I.cell x c hc
  rw [z,e] at ho; cases ho
 ·have:=(I.pin p hp).1
  rw [z,e] at this; cases this
section
variable {M:Model} {E:Value→W2→Prop} {C L:Addr} {dx:Option Addr} {Q:Unit→W2→Prop}
theorem Inv.noting (I:Inv X pins σ H s) (hst:X.stack=X.env :: X.outer) (hf:X.env.frame=some L) (hex:X.ex=[]) (hc:zak X pins H s a C dx∨zcg X pins H s a C dx)
  (q:∀ h' T,Inv X pins σ H { s with heap:=h' }→Fly h' a C T dx (Qq L)→Apart X pins H a→Apart X pins H T→Q () { s with heap:=h' }):W8 M X.A (Jk (.ref a) X.env) Q E s:=by
 have hfr:X.A.frames=some (X.env :: X.outer):=by rw [← hst]; exact I.ok.frames
 have hl:s.heap.FunFrames X.base (X.env :: X.outer):=by rw [← hst]; exact I.stack
 have mem:∀ {b},b ∈ frs X.stack→∃ o,s.heap.get? b=some o∧∀ vs,o.data≠.fields vs:=fun {b} z=>let ⟨_,o,g1,g2⟩:=I.stack.mem z; ⟨o,g1,g2⟩
 rcases hc with ⟨T,fl,f,hfl,pa,pT⟩ | ⟨⟨vs,sl,a0,e1,e2,e3⟩,pa⟩
 ·rcases hfl with rfl | ⟨L',e,rfl⟩
  ·refine zbm hfr hl hf f fun h' T' f' n=>?_
   refine q h' T' (I.noted2 pa pT (fun b o z m n1 n2=>n.keep b o z n1 (fun w=>n2 (by cases w; rfl)) (by rw [← hst]; exact m)) fun b o z m=>?_) f' pa (I.apart hex n.new (I.gone hex n.new).1)
   obtain ⟨o',g1,g2⟩:=mem m
   rw [z] at g1; cases g1
   exact n.frame b o z g2
  ·rw [hf] at e; cases e
   exact z9S hf f (q s.heap T I f pa pT)
 ·refine z9R hfr hl hf e1 e2 e3 fun h' T' f' n=>?_
  refine q h' T' (I.noted2 pa pa (fun b o z m n1 n2=>n.keep b o z n1 (fun w=>by cases w) (by rw [← hst]; exact m)) fun b o z m=>?_) f' pa (I.apart hex n.new (I.gone hex n.new).1)
  obtain ⟨o',g1,g2⟩:=mem m
  rw [z] at g1; cases g1
  exact n.frame b o z g2
theorem Inv.flight {A:Wn} {o:Option Addr} {fl:Value} (I:Inv X pins σ H s) (f:Fly s.heap a C T dx fl) (pT:Apart X pins H T)
  (q:∀ h',Inv X pins σ H { s with heap:=h' }→Fly h' a C T dx (o.elim .none fun f=>Qq f)→Q () { s with heap:=h' }):W8 M A (setFlight (.ref a) o) Q E s :=
 za2 f fun h' f' k=>q h' (I.noted2 pT pT (fun b u z _ n _=>(k b n).trans z) fun b u z _=>by
  by_cases n:b=T
  ·subst n
   obtain ⟨vs,sl,oT,ts,a0,e1,e2,e3,e4,e5,e6,e7⟩:=f
   have:=I.stkFree b ‹_›
   obtain ⟨_,o',g1,g2⟩:=I.stack.mem ‹b ∈ frs X.stack›
   rw [e5] at g1; cases g1
   exact absurd e6 (g2 ts)
  ·exact ⟨u.slots,(k b n).trans z⟩) f'
end
def Ends.hand (D:Ends) (i:Nat):Ends where
 nx:=fun σ H=>D.nx (σ.set i none) H
 rt:=D.rt
 bk:=fun σ H=>D.bk (σ.set i none) H
 ct:=fun σ H=>D.ct (σ.set i none) H
theorem zb1 {body:List Stmt} {x n:Str} {b₀:Stmt} {suite:List Stmt} {np hpos pos:Pos} {B:Addr} {i:Nat} {tb:(Addr→Option Addr→St→Hp→Prop)→TS} {th:Addr→Addr→TS} (hex:X.ex=[]) (hst:X.stack=X.env :: X.outer) (hf:X.env.frame=some X.env.locals)
  (hN:X.N.Nodup) (hi:X.N[i]? = some n) (hl:X.env.scope.names.lookup n=some .local) (hg:Gl X x) (hm:X.mg x=some (.ref B)) (qB:ExcC X.K B) (hdb:(x == ("__debug__" : Str))=false)
  (hbody:∀ (W:Addr→Option Addr→St→Hp→Prop) (pn:List (Addr×Obj)) (xe:Value→W2→Prop),(∀ ps σ H s a C dx,Inv (X.wt pn xe) ps σ H s→zak (X.wt pn xe) ps H s a C dx∨zcg (X.wt pn xe) ps H s a C dx→W C dx σ H→xe (.ref a) s)→PSs (X.wt pn xe) body (tb W))
  (hhand:∀ C a,PSs (X.hand a) (b₀ :: suite) (th C a)) :
  PS X (.Try body [.ExceptHandler (some (.Name x np)) (some n) (b₀ :: suite) hpos] [] [] pos)
   (fun D σ H=>tb (fun C dx σ' H'=>PySem.W.mroIn X.K C (.ref B)=some true∧∃ v,(∀ x,v = .ref x→dx=some x)∧∀ a,H' a=none→th C a (D.hand i) (σ'.set i (some (.ref a))) (upd H' a (.ext (DV.excAt C v a)))) D σ H):=by
 intro pins s σ H D I hw
 refine wpAny_Try_except (WU (hbody _ (X.pn ++ pins) _ (fun ps σ1 H1 s1 a C dx J hc hW=>?_) [] s σ H D I.wt hw) (fun f s1 hs=>?_) fun e s1 he=>he)
 ·have J:Inv X pins σ1 H1 s1:=Inv.unwt I.ok J
  have hc:zak X pins H1 s1 a C dx∨zcg X pins H1 s1 a C dx:=by
   rcases hc with ⟨T,fl,f,hfl,pa,pT⟩ | ⟨y,pa⟩
   ·exact .inl ⟨T,fl,f,hfl,pa.unwt,pT.unwt⟩
   ·exact .inr ⟨y,pa.unwt⟩
  refine J.noting hst hf hex hc fun h2 T J2 f2 pa pT=>?_
  refine J2.flight f2 pT fun h3 I3 f3=>?_
  obtain ⟨vs3,sl3,_,_,_,u3,_⟩:=id f3
  obtain ⟨qm,v,hv,qh⟩:=hW
  refine wpAny_handleBy_cons (codeAny_handlers_test ?_) (by intro z; cases z)
  have I3h:Inv (X.hand a) pins σ1 H1 { s1 with heap:=h3 }:=I3.hand
  refine z3Z (X:=X.hand a) I3h hg hm ?_ hdb
  refine zbK I3.kIn qB qm u3 rfl ?_
  refine codeAny_handlers_suite_as (I3.flight f3 pT fun h4 I4 f4=>?_)
  obtain ⟨vs4,sl4,_,_,_,u1,_⟩:=f4
  have I5:Inv X pins σ1 (upd H1 a (.ext (DV.excAt C v a))) { s1 with heap:=h4 }:=I4.track pa ⟨⟨_,u1,rfl,fun x z=>hv x z,vs4,rfl⟩,⟨_,u1⟩,fun h1 h2 ⟨o,e1,e2⟩ k=>⟨o,k o e1,e2⟩⟩
  refine z5E (v:=.ref a) (u:=.ref a) (X:=X.hand a) I5.hand hN hi (.inl hl) rfl (fun s6 I6 _=>?_) (.inr hl)
  refine WU (hhand C a pins s6 _ _ (D.hand i) I6 (qh a pa.free)) (fun f s7 hs=>?_) (fun e s7 he=>he.elim)
  have un:∀ {σ':St} {H':Hp} {Q:Flow→W2→Prop},Inv (X.hand a) pins σ' H' s7→(∀ s8,Inv X pins (σ'.set i none) H' s8→Q f s8)→W8 (model X.prog X.w) X.A (do bindName X.env n .none; unbindBehindTheSuite X.env n hpos) (fun _ s8=>Q f s8) X.xe s7 :=
   fun {σ' H' Q} J7 k=>z9A (Inv.unhand I.ok J7) hN hi hl fun s8 J8=>k s8 J8
  cases f with
  | next=>obtain ⟨σ',H',J7,q⟩:=hs; exact un J7 fun s8 J8=>⟨_,_,J8,q⟩
  | brk=>obtain ⟨σ',H',J7,q⟩:=hs; exact un J7 fun s8 J8=>⟨_,_,J8,q⟩
  | cont=>obtain ⟨σ',H',J7,q⟩:=hs; exact un J7 fun s8 J8=>⟨_,_,J8,q⟩
  | ret u=>obtain ⟨v,σ',H',J7,r,q⟩:=hs; exact un J7 fun s8 J8=>⟨v,_,_,J8,r,q⟩
 ·have hs:=SP.unwt I.ok hs
  cases f with
  | next=>exact QT hs
  | brk=>exact hs
  | cont=>exact hs
  | ret u=>exact hs
end
def XOk (X:Cx) (W:Addr→Option Addr→St→Hp→Prop):Prop:=∀ ps σ H s a C dx,Inv X ps σ H s→zak X ps H s a C dx∨zcg X ps H s a C dx→W C dx σ H→X.xe (.ref a) s
section
variable {X:Cx} {pins:List (Addr×Obj)} {σ:St} {H:Hp} {s:W2} {b:Addr}
theorem Inv.afterX (I:Inv X pins σ H s) (hx:X.ex=[]) (h:CXe X.prog X.w X.stack H s E v s'):∃ a C dx H',v = .ref a∧Inv X pins σ H' s'∧zak X pins H' s' a C dx∧E (.ref C) dx H':=by
 obtain ⟨a,C,T,dx,H',rfl,ho,hb,un,hok,fl,na,nT,fa,fT,q⟩:=h
 exact ⟨a,C,dx,H',rfl,I.call' (ch:=[]) ho un hok hb (fun b z=>absurd z (by simp)),⟨T,.none,fl,.inl rfl,I.apart hx na fa,I.apart hx nT fT⟩,q⟩
end
section
variable {X:Cx} {k:Nat} {f:Addr} {fd:WF} {ps:List Str} {sp:Sp} {x:Str} {p pos:Pos} {e:Expr} {es:List Expr} {t:TA} {W:Addr→Option Addr→St→Hp→Prop}
theorem zcQ (F:FnOk X.prog X.w X.K X.mg X.base (CXe X.prog X.w) k f fd ps sp) (hr:Room k X.A) (hex:X.ex=[]) (hg:Gl X x) (hm:X.mg x=some (.ref f)) (hk:Q6 X.K (.ref f)=true) (hb:Binds X.K fd ps []) (hx:XOk X W)
  (ha:PA X (e :: es) t) (hdb:(x == ("__debug__" : Str))=false:=by decide) (he:W5 (e :: es) X.env=(false,eval e X.env) :: W5 es X.env:=by rfl) (hpl:(WJ pos (W5 es X.env)).any (·.1)=false:=by rfl) :
  PE X (.Call (.Name x p) (e :: es) [] pos) (fun σ H Q=>t σ H fun vs H1=>sp vs H1 Q (fun c dx H'=>∃ C,c = .ref C∧W C dx σ H')):=by
 intro pins s σ H Q I h
 refine Qu (z3Z I hg hm ?_ hdb)
 refine PySem.W.callWith_K (h₀:=X.base) I.ok.mod.kin hk (thn (ha pos pins s σ H _ I h) fun us s1 ⟨vs,H1,I1,r,q⟩=>⟨I1.kIn,?_⟩) he hpl
 have hl:(us ++ []).length=ps.length:=by rw [WW,← r.length]; exact F.len _ _ _ _ q
 refine wpAny_call (Ji (F.run X.A X.stack s1 H1 ⟨us,[]⟩ us vs Q _ hr I1.env0 (by have:=hb s1 us I1.kIn hl; rwa [WW] at this) r q) fun r s' hq=>?_)
 cases r with
 | error e =>
  obtain ⟨a,C,dx,H',ea,I2,co,C',hC,hW⟩:=I1.afterX (E:=fun c dx H'=>∃ C,c = .ref C∧W C dx σ H') (v:=e) (s':=s') hex hq
  cases hC
  subst ea
  exact hx pins σ H' s' a C dx I2 (.inl co) hW
 | ok fl =>
  cases fl with
  | ret u=>exact I1.after hq
  | next=>exact False.elim hq
  | brk=>exact False.elim hq
  | cont=>exact False.elim hq
end
section
variable {P:Wk} {w:Wp} {K:W0} {mg:Str→Option Value} {base:Heap} {N:List Str} {qual:Str} {scope:Scope} {f:Addr} {cd:Value} {A:Wn} {outer:List Env} {s₀:W2} {H₀:Hp} {E:XK}
theorem ze6 {W:Addr→Option Addr→St→Hp→Prop} (hW:∀ C dx σ H,W C dx σ H→E (.ref C) dx H):XOk (cxOf (CXe P w) P w K mg base N qual scope f cd A outer s₀ H₀ E) W:=fun ps σ H s a C dx I hc q=>by
 show W8 _ _ (leaving _ _) _ _ _
 unfold leaving
 refine W1 (I.noting rfl rfl rfl hc fun h2 T I2 f2 pa pT=>I2.flight f2 pT fun h3 I3 f3=>?_)
 exact ⟨a,C,T,dx,H,rfl,I3.os,I3.bare,I3.base,I3.hok,f3,pa.old,pT.old,pa.free,pT.free,hW C dx σ H q⟩
end
def Cx.loop (X:Cx):Cx:={ X with xe:=notedBy (model X.prog X.w) X.A X.env (cameBackBy (model X.prog X.w) X.A X.env X.xe) }
section
variable {X:Cx} {pins ps:List (Addr×Obj)} {σ:St} {H:Hp} {s:W2}
theorem Cx.Ok.loop (o:X.Ok):X.loop.Ok:=⟨o.mod,o.kind,o.glob,o.blt,o.above,o.inj,o.has,o.cab,o.hd,o.frames,o.stk,o.exf,o.bs,o.bsz,o.noex,o.exfs,o.funs,o.frf⟩
theorem Cx.Ok.unloop (o:X.loop.Ok):X.Ok:=⟨o.mod,o.kind,o.glob,o.blt,o.above,o.inj,o.has,o.cab,o.hd,o.frames,o.stk,o.exf,o.bs,o.bsz,o.noex,o.exfs,o.funs,o.frf⟩
theorem Inv.loop (I:Inv X pins σ H s):Inv X.loop pins σ H s:=⟨I.ok.loop,I.os,I.bare,I.base,I.loc,I.cell,I.free,I.freeC,I.pin,I.hok,I.len⟩
theorem Inv.unloop (I:Inv X.loop pins σ H s):Inv X pins σ H s:=⟨I.ok.unloop,I.os,I.bare,I.base,I.loc,I.cell,I.free,I.freeC,I.pin,I.hok,I.len⟩
theorem Apart.unloop {b:Addr} (h:Apart X.loop ps H b):Apart X ps H b:=⟨h.old,h.free,h.loc,h.cel,h.pin⟩
theorem zci {W:Addr→Option Addr→St→Hp→Prop} {L:Addr} (h:XOk X W) (hst:X.stack=X.env :: X.outer) (hf:X.env.frame=some L) (hex:X.ex=[]):XOk X.loop W:=fun ps σ H s a C dx I hc q=>by
 have hc:zak X ps H s a C dx∨zcg X ps H s a C dx:=by
  rcases hc with ⟨T,fl,f,hfl,pa,pT⟩ | ⟨y,pa⟩
  ·exact .inl ⟨T,fl,f,hfl,pa.unloop,pT.unloop⟩
  ·exact .inr ⟨y,pa.unloop⟩
 refine I.unloop.noting hst hf hex hc fun h2 T I2 f2 pa pT=>?_
 show W8 _ _ _ _ _ _
 obtain ⟨vs,sl,oT,ts,a0,e1,e2,e3,e4⟩:=id f2
 refine W1 (Q7 e1 rfl e3 ?_)
 rw [if_neg (by simp)]
 refine I2.flight f2 pT fun h3 I3 f3=>h ps σ H _ a C dx I3 (.inl ⟨T,_,f3,.inr ⟨L,hf,?_⟩,pa,pT⟩) q
 rw [hf]; rfl
end
end L2
namespace DV
open PySem PySem.Spec PyProof.Rows L2
section
variable {c:Fc} {σ σ':St} {δ δ':Dl} {H H':Hp} {g:Xc→Dl→Prop}
theorem Ok.since (h0:c.H₀=H) (k:Ok c σ δ H) (hI:∀ a,c.I a→Own σ δ a) (k':Ok c σ' δ' H'):Aft c σ δ H σ' δ' H':=by
 refine ⟨k',fun a o e n=>k'.keep a o (by rw [h0]; exact e) fun z=>n (hI a z),fun a ⟨i,d,e1,e2⟩=>?_,fun a o e=>?_⟩
 ·obtain ⟨b,e3,_,q,_⟩:=k'.own i d e1
  rw [e2] at e3; cases e3
  rcases q with q | q
  ·exact .inl (hI a q)
  ·rw [h0] at q; exact .inr q
 ·by_cases z:c.I a
  ·exact k'.ith a z
  ·exact ⟨o,k'.keep a o (by rw [h0]; exact e) z⟩
end
def wD (mg:Str→Option Value) (c:Fc) (C:Addr) (dx:Option Addr) (σ:St) (H:Hp):Prop:=∃ (x:Xc) (δ:Dl) (v:V),mg (toS x.cls)=some (.ref C)∧Ok c σ δ H∧Rep H (Av c σ δ) v x.flds∧(∀ y,v = .ref y→dx=some y)∧c.xc x δ
abbrev DX:=List S→Option ((S×List S) ⊕ (Xc×List S))
def runX (f:DS) (n:Nat) (ss:List S):Option ((S×List S) ⊕ (Xc×List S)):=match f (z0a n ss) with
 | .ok fl δ=>(z0n fl).bind fun r=>(z09 0 ss δ).map fun outs=>.inl (r,outs)
 | .exc x δ=>(z09 0 ss δ).map fun outs=>.inr (x,outs)
 | .stuck=>none
def spX (mg:Str→Option Value) (n:Nat) (G:DX):Sp:=fun vs H Q E=>∃ ss B,vs.length=n∧Ok ⟨H,B,z0A 0 ss vs,fun _ _=>False⟩ (z12 vs) (z19 ss) H∧∃ y,G ss=some y∧match y with
 | .inl (r,outs)=>∀ v H',Aft ⟨H,B,z0A 0 ss vs,fun _ _=>False⟩ (z12 vs) (z19 ss) H (z12 vs) (z19 outs) H'→RepS ⟨H,B,z0A 0 ss vs,fun _ _=>False⟩ (z12 vs) (z19 outs) H H' v r→Q v H'
 | .inr (x,outs)=>∀ C dx v H',mg (toS x.cls)=some (.ref C)→Aft ⟨H,B,z0A 0 ss vs,fun _ _=>False⟩ (z12 vs) (z19 ss) H (z12 vs) (z19 outs) H'→Rep H' (Av ⟨H,B,z0A 0 ss vs,fun _ _=>False⟩ (z12 vs) (z19 outs)) v x.flds→(∀ y,v = .ref y→dx=some y)→E (.ref C) dx H'
def KFnX (P:Wk) (w:Wp) (K:W0) (mg:Str→Option Value) (base:Heap) (k:Nat) (x:Str) (n:Nat) (G:DX):Prop :=
 ∃ (f:Addr) (fd:WF) (ps:List Str),mg x=some (.ref f)∧Q6 K (.ref f)=true∧Binds K fd ps []∧FnOk P w K mg base (CXe P w) k f fd ps (spX mg n G)
theorem zcT (h:(⟨H,B,z0A 0 ss vs,g⟩:Fc).I a):Own (z12 vs) (z19 ss) a:=by
 obtain ⟨i,hi⟩:=h
 obtain ⟨j,d,_,e1,e2⟩:=z1w hi
 exact ⟨j,d,someS_get.mpr e1,some'_get.mpr e2⟩
section
variable {P:Wk} {w:Wp} {K:W0} {mg:Str→Option Value} {base:Heap}
theorem RepS.unxc (h:RepS { c with xc:=g } σ δ Hs H v r):RepS c σ δ Hs H v r:=by
 cases r with
 | pure d=>exact h
 | own d =>
  obtain ⟨a,e,o,n,f,k,q⟩:=h
  exact ⟨a,e,o,n,f,⟨k.keep,k.bd,k.ith,k.len,k.slot,k.own,k.inj,k.pinned⟩,q⟩
theorem zgP {x qual:Str} {st:Stmt} {f:Addr} {fd:WF} {N ps:List Str} {k:Nat} {np:List Nat} {fb:DS} {G:DX} (F:Fun K x qual st f fd) (S:FnScope N ps (z05 st))
  (hbody:∀ (c:Fc) (cdv:Value) (A:Wn) (outer:List Env) (s:W2) (H:Hp) (E:XK),Room k (A.deeper (QI qual (z05 st) s.heap.objs.size f cdv))→Np c np →
   XOk (cxOf (CXe P w) P w K mg base N qual (z05 st) f cdv A outer s H E) (wD mg c)→SSs (cxOf (CXe P w) P w K mg base N qual (z05 st) f cdv A outer s H E) c (z1i st) fb)
  (hG:∀ ss y,G ss=some y→ioOk np 0 ss=true∧runX fb N.length ss=some y):FnOk P w K mg base (CXe P w) (k + 1) f fd ps (spX mg ps.length G):=by
 obtain ⟨oc,od,kV,doc,pm,an,cdv,ct,osl,rfl,lk,hcd⟩:=F.ex
 refine zgS lk hcd S (fun vs H Q E h=>?_) fun A outer s H vs Q E hr h=>?_
 ·obtain ⟨ss,B,hl,_⟩:=h
  exact hl
 ·obtain ⟨ss,B,hl,ok,y,hg,q⟩:=h
  obtain ⟨hio,hrun⟩:=hG ss _ hg
  have hvs:ss.length=vs.length:=by have:=ok.len; simpa using this
  let g:Xc→Dl→Prop:=fun x δ'=>∃ outs,z09 0 ss δ'=some outs∧y = .inr (x,outs)
  have np':Np ⟨H,B,z0A 0 ss vs,g⟩ np:=fun p hp=>by
   obtain ⟨j,d,e,h1,_⟩:=z1w (i:=p.1) (a:=p.2) hp
   rw [e]
   exact z7a hio h1
  have hst:start N vs=z12 vs ++ Wb (N.length - ss.length) none:=by rw [hvs]; rfl
  have ok0:Ok ⟨H,B,z0A 0 ss vs,fun _ _=>False⟩ (start N vs) (z0a N.length ss) H:=by rw [hst]; exact ok.ext _
  have wish:∀ C dx σ' H',wD mg ⟨H,B,z0A 0 ss vs,g⟩ C dx σ' H'→E (.ref C) dx H':=fun C dx σ' H' ⟨z,δ',v,hm,k',rv,hv,outs,ho,hy⟩=>by
   rw [hy] at q
   have k1:Ok ⟨H,B,z0A 0 ss vs,fun _ _=>False⟩ σ' δ' H':=⟨k'.keep,k'.bd,k'.ith,k'.len,k'.slot,k'.own,k'.inj,k'.pinned⟩
   have a:Aft ⟨H,B,z0A 0 ss vs,fun _ _=>False⟩ (z12 vs ++ Wb (N.length - ss.length) none) (z19 ss ++ Wb (N.length - ss.length) none) H σ' δ' H' :=
    Ok.since rfl (by rw [hst] at ok0; exact ok0) (fun a z=>Own.ext.mpr (zcT z)) k1
   exact q C dx v H' hm (z7V rfl ok a ho).1 ((z7V rfl ok a ho).2 v (.pure z.flds) rv) hv
  refine ⟨tDS ⟨H,B,z0A 0 ss vs,g⟩ fb,hbody ⟨H,B,z0A 0 ss vs,g⟩ cdv A outer s H E hr np' (ze6 wish),z0a N.length ss,⟨ok0.keep,ok0.bd,ok0.ith,ok0.len,ok0.slot,ok0.own,ok0.inj,ok0.pinned⟩,?_⟩
  unfold runX at hrun
  unfold z1R
  cases e:fb (z0a N.length ss) with
  | stuck=>rw [e] at hrun; cases hrun
  | exc x δx =>
   rw [e] at hrun
   simp only at hrun
   cases eo:z09 0 ss δx with
   | none=>rw [eo] at hrun; cases hrun
   | some os =>
    rw [eo] at hrun
    cases hrun
    exact ⟨os,eo,rfl⟩
  | ok fl δ' =>
   rw [e] at hrun
   show ∀ σ' H',Aft _ (start N vs) (z0a N.length ss) H σ' δ' H'→fin _ _ σ' δ' H' fl
   intro σ' H' a
   rw [hst] at a
   have k1:=a.ok
   have a1:Aft ⟨H,B,z0A 0 ss vs,fun _ _=>False⟩ (z12 vs ++ Wb (N.length - ss.length) none) (z0a N.length ss) H σ' δ' H':=⟨⟨k1.keep,k1.bd,k1.ith,k1.len,k1.slot,k1.own,k1.inj,k1.pinned⟩,a.keep,a.own,a.there⟩
   simp only at hrun
   cases fl with
   | brk=>cases hrun
   | cont=>cases hrun
   | next =>
    simp only [z0n,WT] at hrun
    cases eo:z09 0 ss δ' with
    | none=>rw [eo] at hrun; cases hrun
    | some os =>
     rw [eo] at hrun
     cases hrun
     obtain ⟨l1,l2⟩:=z7V rfl ok a1 eo
     exact q .non H' l1 .non
   | ret r' =>
    simp only [z0n,WT] at hrun
    cases eo:z09 0 ss δ' with
    | none=>rw [eo] at hrun; cases hrun
    | some os =>
     rw [eo] at hrun
     cases hrun
     obtain ⟨l1,l2⟩:=z7V rfl ok a1 eo
     exact fun v rv=>q v H' l1 (l2 v _ (RepS.unxc (c:=⟨H,B,z0A 0 ss vs,fun _ _=>False⟩) (g:=g) rv))
theorem zf7 {x qual:Str} {st:Stmt} {f:Addr} {fd:WF} {N ps:List Str} {k:Nat} {np:List Nat} {fb:DS} {G:DX} (F:Fun K x qual st f fd) (hm:mg x=some (.ref f)) (hb:Binds K fd ps []) (S:FnScope N ps (z05 st))
  (hbody:∀ (c:Fc) (cdv:Value) (A:Wn) (outer:List Env) (s:W2) (H:Hp) (E:XK),Room k (A.deeper (QI qual (z05 st) s.heap.objs.size f cdv))→Np c np →
   XOk (cxOf (CXe P w) P w K mg base N qual (z05 st) f cdv A outer s H E) (wD mg c)→SSs (cxOf (CXe P w) P w K mg base N qual (z05 st) f cdv A outer s H E) c (z1i st) fb)
  (hG:∀ ss y,G ss=some y→ioOk np 0 ss=true∧runX fb N.length ss=some y):KFnX P w K mg base (k + 1) x ps.length G:=⟨f,fd,ps,hm,F.kp,hb,zgP F S hbody hG⟩
end
def zeP:(S×List S) ⊕ (Xc×List S)→List S
 | .inl y=>y.2
 | .inr y=>y.2
def z9y (G:DX):Prop:=∀ ss y,G ss=some y→∀ (j:Nat),(∀ d,ss[j]? = some (.own d)→∃ d',(zeP y)[j]? = some (.own d'))∧∀ d,ss[j]? = some (.pure d)→∃ d',(zeP y)[j]? = some (.pure d')
theorem zbe {ss os:List S} {δ:Dl} (e:z09 0 ss δ=some os) (j:Nat):(∀ d,ss[j]? = some (.own d)→∃ d',os[j]? = some (.own d'))∧∀ d,ss[j]? = some (.pure d)→∃ d',os[j]? = some (.pure d'):=by
 obtain ⟨h1,h2⟩:=z5P e
 refine ⟨fun d ed=>?_,fun d ed=>?_⟩
 ·rcases h2 j _ ed with ⟨d',z,_⟩ | ⟨d',d'',_,_,z⟩
  ·cases z
  ·exact ⟨d'',z⟩
 ·rcases h2 j _ ed with ⟨d',z,z'⟩ | ⟨d',d'',z,_⟩
  ·exact ⟨d',z'⟩
  ·cases z
theorem zaN (h:runX fb n ss=some y):∃ δ,z09 0 ss δ=some (zeP y):=by
 unfold runX at h
 cases e:fb (z0a n ss) with
 | stuck=>rw [e] at h; cases h
 | exc x δ =>
  rw [e] at h
  simp only at h
  cases e2:z09 0 ss δ with
  | none=>rw [e2] at h; cases h
  | some os=>rw [e2] at h; cases h; exact ⟨δ,e2⟩
 | ok fl δ =>
  rw [e] at h
  simp only at h
  cases e1:z0n fl with
  | none=>rw [e1] at h; cases h
  | some r =>
   rw [e1] at h
   simp only [WT] at h
   cases e2:z09 0 ss δ with
   | none=>rw [e2] at h; cases h
   | some os=>rw [e2] at h; cases h; exact ⟨δ,e2⟩
def gOfX (np:List Nat) (n:Nat) (b:DS):DX:=fun ss=>if ioOk np 0 ss then runX b n ss else none
theorem z9l (h:gOfX np n b ss=some y):ioOk np 0 ss=true∧runX b n ss=some y:=by
 unfold gOfX at h
 split at h
 ·exact ⟨by assumption,h⟩
 ·cases h
theorem za1 {np:List Nat} {n:Nat} {b:DS}:z9y (gOfX np n b):=fun ss y h j=>by
 obtain ⟨δ,e⟩:=zaN (z9l h).2
 exact zbe e j
def z6c (G:DX) (as:List Ak):DE:=fun δ=>if (ios as).all (z0H δ) && ndup (ios as) then (evX as δ).bind fun ds δ1=>match mkA as ds δ1 with
  | none=>.stuck
  | some ss=>match G ss with
   | none=>.stuck
   | some (.inl (r,outs))=>.ok r (putA as outs δ1)
   | some (.inr (x,outs))=>.exc x (putA as outs δ1)
 else .stuck
section
variable {X:Cx} {c:Fc} {e:Expr} {es:List Expr} {as:List Ak} {k n:Nat} {x:Str} {G:DX} {pp pos:Pos}
theorem zag (hK:z9y G) (hl:as.length=n) (h:tD c (z6c G as) σ H Q):tX c as σ H fun vs H1=>spX X.mg n G vs H1 Q (fun c' dx H'=>∃ C,c' = .ref C∧wD X.mg c C dx σ H'):=by
 obtain ⟨δ,kk,q⟩:=h
 unfold z6c at q
 split at q
 ·rename_i hc
  rw [Wf] at hc
  have nd:=z54 hc.2
  rw [z01] at q
  refine ⟨δ,kk,fun i hi=>?_,z00 q fun ds δ1 q1 vs H1 a1 r1=>?_⟩
  ·have:=WB.mp hc.1 i (ios_mem.mpr hi)
   unfold z0H at this
   split at this
   ·rename_i d ed
    exact z3C kk ed
   ·cases this
  ·cases em:mkA as ds δ1 with
   | none=>rw [em] at q1; exact q1.elim
   | some ss =>
    rw [em] at q1
    simp only at q1
    cases eg:G ss with
    | none=>rw [eg] at q1; exact q1.elim
    | some y =>
     rw [eg] at q1
     have hin:=zc9 a1.ok r1 em nd
     obtain ⟨m1,m2,_⟩:=z99 r1 em
     have g2:=hK ss y eg
     refine ⟨ss,_,by rw [← m2]; exact hl,hin,y,eg,?_⟩
     cases y with
     | inl y =>
      obtain ⟨r,outs⟩:=y
      intro v H2 a2 r2
      obtain ⟨o1,o2⟩:=z7m a1.ok r1 em nd rfl a2 (fun j d ed=>(g2 j).1 d ed) fun j d ed=>(g2 j).2 d ed
      exact q1 v H2 (a1.trans o1) (RepS.back (o2 v r r2) a1)
     | inr y =>
      obtain ⟨z,outs⟩:=y
      intro C dx v H2 hm a2 rv hv
      obtain ⟨o1,o2⟩:=z7m a1.ok r1 em nd rfl a2 (fun j d ed=>(g2 j).1 d ed) fun j d ed=>(g2 j).2 d ed
      exact ⟨C,rfl,z,putA as outs δ1,v,hm,o1.ok,o2 v (.pure z.flds) rv,hv,q1⟩
 ·exact q.elim
end
def z6q (δ:Dl):Bool:=δ.all fun
 | some (.own _)=>false
 | _=>true
def unset (i:Nat):Rs Fl→Rs Fl
 | .ok fl δ=>.ok fl (δ.set i none)
 | r=>r
section
variable {c:Fc} {σ σ':St} {δ δ':Dl} {H H':Hp}
theorem zgy (h:Np c []):c.pin=[]:=by
 cases e:c.pin with
 | nil=>rfl
 | cons p r =>
  have:=h p (by rw [e]; exact Wy)
  simp at this
theorem Aft.unset (x:Aft c σ₀ δ₀ H₀ σ δ H) (hp:c.pin=[]) (i:Nat):Aft c σ₀ δ₀ H₀ (σ.set i none) (δ.set i none) H:=by
 have k:=x.ok
 have back:∀ {α:Type} {l:List (Option α)} {j:Nat} {v:α},(l.set i none)[j]? = some (some v)→l[j]? = some (some v)∧i≠j:=fun {α l j v} e=>by
  by_cases hj:i=j
  ·subst hj
   rw [Wx] at e
   simp at e
  ·rw [W3 hj] at e
   exact ⟨e,hj⟩
 have own:∀ a,Own (σ.set i none) (δ.set i none) a→Own σ δ a:=fun a ⟨j,d,e1,e2⟩=>⟨j,d,(back e1).1,(back e2).1⟩
 have av:∀ a,Av c (σ.set i none) (δ.set i none) a→Av c σ δ a:=fun a z=>z.elim .inl fun z=>.inr (own a z)
 refine ⟨⟨k.keep,k.bd,k.ith,by simp [k.len],fun j d e=>?_,fun j d e=>?_,fun j1 j2 a d d' e1 e2 e3 e4=>k.inj j1 j2 a d d' (back e1).1 (back e2).1 (back e3).1 (back e4).1,fun p hm=>by rw [hp] at hm; simp at hm⟩,x.keep,fun a z=>x.own a (own a z),x.there⟩
 ·obtain ⟨e',n⟩:=back e
  obtain ⟨v,e1,r⟩:=k.slot j d e'
  exact ⟨v,by rw [W3 n]; exact e1,r.anti fun a z=>.inl (av a z)⟩
 ·obtain ⟨e',n⟩:=back e
  obtain ⟨a,e1,r,q⟩:=k.own j d e'
  exact ⟨a,by rw [W3 n]; exact e1,r.anti fun a z=>.inl (av a z),q⟩
end
section
variable {c:Fc} {σ σ':St} {δ δ':Dl} {H H':Hp} {B':Addr→Prop} {g:Xc→Dl→Prop}
theorem RepS.unset (hp:c.pin=[]) (i:Nat) (h:RepS c σ δ Hs H v r):RepS c (σ.set i none) (δ.set i none) Hs H v r:=by
 have own:∀ a,Own (σ.set i none) (δ.set i none) a→Own σ δ a:=fun a ⟨j,d,e1,e2⟩=>by
  have back:∀ {α:Type} {l:List (Option α)} {v:α},(l.set i none)[j]? = some (some v)→l[j]? = some (some v):=fun {α l v} e=>by
   by_cases hj:i=j
   ·subst hj; rw [Wx] at e; simp at e
   ·rw [W3 hj] at e; exact e
  exact ⟨j,d,back e1,back e2⟩
 cases r with
 | pure d=>exact Rep.anti h fun a z=>.inl (z.elim .inl fun z=>.inr (own a z))
 | own d =>
  obtain ⟨a,e,o,n,f,k,q⟩:=h
  exact ⟨a,e,o.anti fun b z=>.inl (z.elim .inl fun z=>.inr (own b z)),n,f,(Aft.unset (Aft.refl k) hp i).ok,q⟩
end
end DV
namespace L2
open PySem PySem.Spec PyProof.Rows PySem.W Builtin Builtin.ObjectAttr Builtin.Getset_descriptor
section
variable {prog:Wk} {w:Wp} {A:Wn} {E:Value→W2→Prop} {K:W0} {C e:Addr} {oe:Obj} {h:Heap} {g:Array GenState} {d:Drawn} {t:Nat} {os:OsState}
structure ExcK (K:W0) (C:Addr):Prop where
 ga:Jc K (.ref C) "__getattribute__" = some (some (.builtin "BaseException.__getattribute__"))
 gt:Jc K (.ref C) "__getattr__" = some none
 cl:Jc K (.ref C) "__class__" = some (some (.builtin "object.__class__"))
 sp:specialIn K (.builtin "object.__class__") "__get__" = some (some (.builtin "getset_descriptor.__get__"))
 tk:takesIn K (.builtin "object.__class__")=some true
 mo:mroIn K C (.type "object")=some true
 mb:mroIn K C (.type "BaseException")=some true
theorem zf8 (X:K.In h) (k:ExcK K C) (he:h.get? e=some oe) (hc:oe.cls = .ref C) (q:R (.ok (.ret (.ref C))) ⟨h,g,d,t,os⟩) :
  Qr (model prog w) A (.call (.builtin "getset_descriptor.__get__") ⟨[.builtin "object.__class__",.ref e,tp],[]⟩) R ⟨h,g,d,t,os⟩:=by
 have l1:Looks (model prog w) h (typeOf (.ref e)) (.ref C):=hc ▸ (Looks.ld he).andThen .now
 have l2:=looks_mroIn (M:=model prog w) X k.mo
 refine Ja
  KF.slot_gs.plain KF.entry_gs
  (KF.slot_gs.check _ _ _ _ _ _ _ _
   KF.type_class (KF.args_gs _ _ _) ?_)
 unfold Builtin.«getset_descriptor.__get__» descrGet; rw [dga_obj]
 refine W1 (Wc ?_)
 unfold descrGetter descrCheckInstance descrNameAndClass isInstance; simp only [KF.owner_class]
 repeat lk
 refine ⟨Code.quiet_builtin _ (by decide +kernel),
  codeAny_builtin KF.entry_class ?_⟩
 unfold Builtin.«object.__class__» shownTypeOf; repeat lk
 exact q
theorem zbL (X:K.In h) (k:ExcK K C) (he:h.get? e=some oe) (hc:oe.cls = .ref C) (q:Q (.done (.ret (.ref C))) ⟨h,g,d,t,os⟩) :
  W8 (model prog w) A (Builtin.«object.__getattribute__» ⟨[.ref e,.str "__class__" tk],[]⟩) Q E ⟨h,g,d,t,os⟩:=by
 have l0:Looks (model prog w) h (typeOf (.ref e)) (.ref C):=hc ▸ (Looks.ld he).andThen .now
 have l1:=Jo (M:=model prog w) X k.cl
 have l2:=KF.type_class
 have l3:=F.slot_gs_get.lookup
 have l4:=F.slot_gs_set.lookup
 repeat (any_goals (first | assumption | with_reducible refine Looks.at l0 ?_ | with_reducible refine Looks.at l1 ?_ | (with_reducible refine Q8 he ?_; rw [hc]) | wp_step))
 refine zf8 X k he hc ?_
 repeat (any_goals (first | assumption | wp_step))
theorem z85 (X:K.In h) (k:ExcK K C) (he:h.get? e=some oe) (hc:oe.cls = .ref C) (q:Q () ⟨h,g,d,t,os⟩) :
  W8 (model prog w) A (checkBuiltinCall "BaseException.__getattribute__" ⟨[.ref e,nv],[]⟩) Q E ⟨h,g,d,t,os⟩:=by
 have l0:Looks (model prog w) h (typeOf (.ref e)) (.ref C):=hc ▸ (Looks.ld he).andThen .now
 have l1:=looks_mroIn (M:=model prog w) X k.mb
 have b1:builtinKind "BaseException.__getattribute__" = some .slot:=by decide +kernel
 have b2:splitId "BaseException.__getattribute__" = some ("BaseException","__getattribute__"):=by decide +kernel
 have b3:=F.args_bexc_ga (.ref e) nv
 simp only [checkBuiltinCall,b1,b2]
 refine W1 ?_
 unfold isInstance
 repeat (first | with_reducible refine Looks.at l0 ?_ | with_reducible refine Looks.at l1 ?_ | (with_reducible refine Q8 he ?_; rw [hc]) | wp_step)
 exact q
theorem zbM (X:K.In h) (k:ExcK K C) (he:h.get? e=some oe) (hc:oe.cls = .ref C) (q:Q (some (.ref C)) ⟨h,g,d,t + 1,os⟩):W8 (model prog w) A (getAttr? (.ref e) "__class__") Q E ⟨h,g,d,t,os⟩:=by
 have L0:Looks (model prog w) h (typeOf (.ref e)) (.ref C):=hc ▸ (Looks.ld he).andThen .now
 have L1:=Jo (M:=model prog w) X k.ga
 have L2:=Jo (M:=model prog w) X k.gt
 have L3:=looks_mroIn (M:=model prog w) X k.mb
 have hx0:(false && onTheHeap (Value.builtin "BaseException.__getattribute__"))=false:=rfl
 have hx2:(Value.builtin "BaseException.__getattribute__" == Value.builtin "object.__getattribute__")=false:=by decide +kernel
 have f3:=F.attrBase_ValueError.ga.bind (.ref e)
 unfold getAttr? getAttrBy? getAttrBy
 refine W1 (wpAny_mkText (W1 (wpAny_attempt (WR (W1 (L0.at (W1 (L1.at ?_))))))))
 dsimp only
 rw [hx2,Bool.and_false]
 simp only [Jp,if_false]
 unfold getAttrByItsOwn hookBefore
 repeat (any_goals (first | assumption | with_reducible refine Looks.at L2 ?_ | wp_step))
 refine Ja F.attrBase_ValueError.ga.plain F.entry_bexc_ga (z85 X k he hc (zbL X k he hc ?_))
 repeat (any_goals (first | assumption | wp_step))
theorem zda {v:V} (k:ExcK K C) (hk:(clsIn K C).isSome=true):KitX K (.ref e) (.ref C) (DV.excAt C v e) where
 ty:=fun M h X ⟨o,h1,h2,_⟩=>h2 ▸ (Looks.ld h1).andThen .now
 it:=fun M h X _=>by
  obtain ⟨cd,hcd⟩:=QJ.mp hk
  unfold clsIn at hcd
  split at hcd
  next c' d' cd' sl' ho=>exact fun A' Q' E' s' kk q=>by unfold isType loadHead; exact W1 (wpAny_loadPart (kk _ _ (X _ _ ho)) (Wc q))
  next=>cases hcd
 ne:=fun h tp dd its n sl X htp=>by
  obtain ⟨cd,hcd⟩:=QJ.mp hk
  refine Bool.eq_false_iff.mpr fun q=>?_
  obtain rfl:C=tp:=Value.ref.inj (beq_iff_eq.mp q)
  unfold clsIn at hcd
  split at hcd
  next c' d' cd' sl' ho=>have z:=(X _ _ ho).symm.trans htp; cases z
  next=>cases hcd
 ca:=fun {prog w A E Q s} X ⟨o,h1,h2,_⟩ q=>by
  obtain ⟨hh,gg,dd,tt,oo⟩:=s
  exact zbM X k h1 h2 q
end
section
variable {X:Cx} {y:Str} {D:Addr} {pos:Pos}
theorem zgm (hg:Gl X y) (hm:X.mg y=some (.ref D)) (hd:(y == ("__debug__" : Str))=false:=by decide):PE X (.Name y pos) (fun σ H Q=>Q (.ref D) H):=fun pins s σ H Q I h=>z3Z I hg hm ⟨.ref D,H,I,rfl,h⟩ hd
structure IsT (K:W0) (ce:DV.Tx→Nat) (ys:List DV.Tx) (cv:Value) (tab:DV.Tx→Bool):Prop where
 k:∀ z ∈ ys,ExcK K (ce z)
 c:∀ z ∈ ys,(PySem.W.clsIn K (ce z)).isSome=true
 one:∀ z ∈ ys,Qj K (.ref (ce z)) cv=some (tab z)
theorem z9v (hcv:∀ u,RelV cV u→u=cv) (T:IsT X.K ce ys cv tab) :
  CallR X (.builtin "isinstance") (fun xs H Q=>∃ (a:Addr) (z:DV.Tx) (v:V),xs=[.ref a,cV]∧H a=some (.ext (DV.excAt (ce z) v a))∧z ∈ ys∧Q (.bl (tab z)) H):=by
 intro pins s σ H xs us Q I r h
 obtain ⟨a,z,v,rfl,ha,hz,q⟩:=h
 obtain ⟨u,w',rfl,r1,r2⟩:=zam r
 cases r1
 have e:=hcv _ r2
 subst e
 obtain ⟨p,_,_⟩:=I.hok a _ ha
 exact WV (zda (T.k z hz) (T.c z hz)) I.kIn p (T.one z hz) (fun z=>nomatch z) fun tk=>⟨.bl (tab z),H,I.tok tk,rfl,q⟩
end
structure RoomH (k:Nat) (A:Wn):Prop where
 dp:A.depth + 3 * k + 5 < recursionLimit
 un:A.units + 16 * k + 200 < Ql
theorem RoomH.deeper (r:RoomH (k + 1) A) (env:Env):RoomH k (A.deeper env) :=
 ⟨by have:=r.dp; show A.depth + 1 + 3 * k + 5 < _; omega,by have:=r.un; show A.units + 3 + 16 * k + 200 < _; omega⟩
theorem Room.h (r:Room k A):RoomH k A:=⟨r.dp,r.un⟩
theorem RoomH.mono (r:RoomH k A) (h:j≤k):RoomH j A:=⟨by have:=r.dp; omega,by have:=r.un; omega⟩
theorem RoomH.mark (r:RoomH k A) (v:Option Value):RoomH k (A.mark v):=⟨r.dp,r.un⟩
def Cx.cold (X:Cx):Cx:={ X with calm:=false,xe:=fun _ _=>False }
structure FnOkH (P:Wk) (w:Wp) (K:W0) (mg:Str→Option Value) (base:Heap) (k:Nat) (f:Addr) (fd:WF) (ps:List Str) (sp:Sp):Prop where
 len:∀ vs H Q E,sp vs H Q E→vs.length=ps.length
 run:∀ (A:Wn) (outer:List Env) (s:W2) (H:Hp) (args:Args) (us:List Value) (vs:List V) (Q:VK),RoomH k A→Env0 P w K mg base A outer s H→BindsTo s fd args (ps.zip us)→Vals vs us→sp vs H Q E0 →
  Qr (model P w) A (.call (.ref f) args) (CR CX0 outer P w H s Q E0) s
section
variable {P:Wk} {w:Wp} {K:W0} {mg:Str→Option Value} {base:Heap} {k:Nat} {f:Addr}
theorem zgR {x qual:Str} {st:Stmt} {fd:WF} {N ps:List Str} {sp:Sp} (F:Fun K x qual st f fd) (S:FnScope N ps (z05 st)) (len:∀ vs H Q E,sp vs H Q E→vs.length=ps.length)
  (hbody:∀ (cdv:Value) (A:Wn) (outer:List Env) (s:W2) (H:Hp) (vs:List V) (Q:VK),RoomH k (A.deeper (QI qual (z05 st) s.heap.objs.size f cdv))→sp vs H Q E0 →
   ∃ t,PSs (cxOf CX0 P w K mg base N qual (z05 st) f cdv A outer s H E0).cold (z1i st) t∧t { nx:=fun _ H'=>Q .non H',rt:=Q } (start N vs) H):FnOkH P w K mg base (k + 1) f fd ps sp:=by
 obtain ⟨oc,od,kV,doc,pm,an,cdv,ct,osl,rfl,lk,hcd⟩:=F.ex
 refine ⟨len,fun A outer s H args us vs Q hr e0 hb r hsp=>?_⟩
 have hl:=len _ _ _ _ hsp
 have KX:K.In s.heap:=e0.mod.kin.keeps fun b o e=>(e0.bs b o e).1
 have lim:s.heap.NoLimit:=e0.mod.nolimit.keeps fun b o e=>(e0.bs b o e).1
 have hkind:∀ y ∈ ps.zip us,(z05 st).names.lookup y.1=some .local∨((z05 st).names.lookup y.1=some .cell∧((Qd (s.heap.objs.size + 1) (z05 st).names []).lookup y.1).isSome=true):=fun ⟨n,v⟩ hy=>by
  rcases S.par n (JD hy).1 with q | q
  ·exact .inl q
  ·exact .inr ⟨q,QW _ _ _ (.inl q)⟩
 have hdep:A.depth < recursionLimit:=by have:=hr.dp; omega
 refine codeAny_call_function hdep (KX _ _ lk) rfl S.co S.gen rfl (PySem.W.codeRec_of KX hcd) (hb _ _ _ _ ?_)
 refine wpAny_newFunctionEnv_cells S.kind hkind fun env he s1 x=>?_
 subst he
 refine ⟨lim.keeps x.toInCall.keep,codeAny_func ?_⟩
 obtain ⟨t,ht,hq⟩:=hbody cdv A outer s H vs Q (hr.deeper _) hsp
 have e1:Env0 P w K mg base { A with handled:=none } outer s H:=⟨e0.frames,e0.mod,e0.bs,e0.bsz,e0.funs,e0.frf,e0.hok,e0.bare⟩
 have J:=z80 (CX:=CX0) (E:=E0) (qual:=qual) (f:=f) (cd:=cdv) (A:={ A with handled:=none }) S rfl e1 hl r x
 have I:Inv (cxOf CX0 P w K mg base N qual (z05 st) f cdv A outer s H E0).cold [] (start N vs) H s1:=by
  have o:=J.ok
  exact ⟨⟨o.mod,o.kind,o.glob,o.blt,o.above,o.inj,o.has,o.cab,fun z=>(by cases z),Around.frames_deeper e0.frames,o.stk,o.exf,o.bs,o.bsz,o.noex,o.exfs,o.funs,o.frf⟩,J.os,J.bare,J.base,J.loc,J.cell,J.free,J.freeC,J.pin,J.hok,J.len⟩
 refine WU (ht [] s1 (start N vs) H _ I hq) (fun fl s' hs=>?_) fun e s' hs=>hs.elim
 cases fl with
 | ret u =>
  obtain ⟨v,σ',H',J2,rv,q⟩:=hs
  exact ⟨v,H',J2.os,J2.bare,J2.base,J2.hok,rv,q⟩
 | next =>
  obtain ⟨σ',H',J2,q⟩:=hs
  exact ⟨V.non,H',J2.os,J2.bare,J2.base,J2.hok,rfl,q⟩
 | brk =>
  obtain ⟨_,_,_,q⟩:=hs
  exact False.elim q
 | cont =>
  obtain ⟨_,_,_,q⟩:=hs
  exact False.elim q
end
section
variable {X:Cx} {k:Nat} {f:Addr} {fd:WF} {ps:List Str} {sp:Sp} {x:Str} {p pos:Pos} {e:Expr} {es:List Expr} {t:TA}
theorem zcR (F:FnOkH X.prog X.w X.K X.mg X.base k f fd ps sp) (hr:RoomH k X.A) (hg:Gl X x) (hm:X.mg x=some (.ref f)) (hk:Q6 X.K (.ref f)=true) (hb:Binds X.K fd ps [])
  (ha:PA X (e :: es) t) (hdb:(x == ("__debug__" : Str))=false:=by decide) (he:W5 (e :: es) X.env=(false,eval e X.env) :: W5 es X.env:=by rfl) (hpl:(WJ pos (W5 es X.env)).any (·.1)=false:=by rfl) :
  PE X (.Call (.Name x p) (e :: es) [] pos) (zeh sp [] E0 t):=by
 intro pins s σ H Q I h
 refine Qu (z3Z I hg hm ?_ hdb)
 refine PySem.W.callWith_K (h₀:=X.base) I.ok.mod.kin hk (thn (ha pos pins s σ H _ I h) fun us s1 ⟨vs,H1,I1,r,q⟩=>⟨I1.kIn,?_⟩) he hpl
 have q:sp vs H1 Q E0:=by have q':sp (vs ++ []) H1 Q E0:=q; rwa [WW] at q'
 have hl:(us ++ []).length=ps.length:=by rw [WW,← r.length]; exact F.len _ _ _ _ q
 refine wpAny_call (Ji (F.run X.A X.stack s1 H1 ⟨us,[]⟩ us vs Q hr I1.env0 (by have:=hb s1 us I1.kIn hl; rwa [WW] at this) r q) fun r s' hq=>?_)
 cases r with
 | error e=>exact False.elim hq
 | ok fl =>
  cases fl with
  | ret u=>exact I1.after hq
  | next=>exact False.elim hq
  | brk=>exact False.elim hq
  | cont=>exact False.elim hq
end
end L2
namespace DV
open PySem PySem.Spec PyProof.Rows L2
def eIsC (ce:Tx→Nat) (ys:List Tx) (tab:Tx→Bool) (fb:BE):DE:=fun δ=>(fb δ).bind fun d δ'=>match d with
 | .exc n _=>match ys.find? fun z=>ce z == n with
  | some z=>.ok (.pure (.bl (tab z))) δ'
  | none=>.stuck
 | _=>.stuck
section
variable {X:Cx} {c:Fc} {e:Expr} {fb:BE} {pp py pos:Pos} {y:Str} {ce:Tx→Nat} {ys:List Tx} {tab:Tx→Bool}
theorem z9f (h:tD c (eIsC ce ys tab fb) σ H Q):tB c fb σ H fun v H1=>∃ (a:Addr) (z:Tx) (w:V),[v,cV]=[.ref a,cV]∧H1 a=some (.ext (excAt (ce z) w a))∧z ∈ ys∧Q (.bl (tab z)) H1:=by
 obtain ⟨δ,k,q⟩:=h
 unfold eIsC at q
 rw [z01] at q
 refine ⟨δ,k,z00 q fun d δ1 q1 v H1 a1 r1=>?_⟩
 cases d <;> first | exact q1.elim | skip
 rename_i n fl
 simp only at q1
 split at q1
 ·rename_i z hz
  have h1:=List.find?_some hz
  have h2:=List.mem_of_find?_eq_some hz
  have e:ce z=n:=by simpa using h1
  subst e
  rcases r1 with r1 | ⟨a,_,o⟩
  ·cases r1 with
   | exc _ ha _=>exact ⟨_,z,_,rfl,ha,h2,q1 _ H1 a1 (.bl _)⟩
  ·exact o.elim
 ·exact q1.elim
theorem z4e {D:Addr} (T:IsT X.K ce ys (.ref D) tab) (hg:Gl X "isinstance") (hm:X.mg "isinstance" = none) (hgy:Gl X y) (hmy:X.mg y=some (.ref D)) (he:SB X c e fb) (hdy:(y == ("__debug__" : Str))=false:=by decide)
  (hs:W5 [e,.Name y py] X.env=(false,eval e X.env) :: W5 [.Name y py] X.env:=by rfl) (hpl:(WJ pos (W5 [.Name y py] X.env)).any (·.1)=false:=by rfl) :
  SE X c (.Call (.Name "isinstance" pp) [e,.Name y py] [] pos) (eIsC ce ys tab fb) :=
 PE.weak (z4q (z9v (cV:=.ref D) (fun u r=>by cases r; rfl) T) hg hm PyProof.Rows.boot_isinstance (z0V he (z0V (zgm hgy hmy hdy) z23) hs) (by decide) (by decide) hs hpl) fun σ H Q h=>z9f h
theorem zfH {T':String} (T:IsT X.K ce ys (.type T') tab) (hg:Gl X "isinstance") (hm:X.mg "isinstance" = none) (hgy:Gl X y) (hmy:X.mg y=none) (hvy:Q1 y=some (.type T')) (he:SB X c e fb)
  (hny:y≠"__name__":=by decide) (hdy:(y == ("__debug__" : Str))=false:=by decide)
  (hs:W5 [e,.Name y py] X.env=(false,eval e X.env) :: W5 [.Name y py] X.env:=by rfl) (hpl:(WJ pos (W5 [.Name y py] X.env)).any (·.1)=false:=by rfl) :
  SE X c (.Call (.Name "isinstance" pp) [e,.Name y py] [] pos) (eIsC ce ys tab fb) :=
 PE.weak (z4q (z9v (cV:=.ty T') (fun u r=>by cases r; rfl) T) hg hm PyProof.Rows.boot_isinstance (z0V he (z0V (zbc (v:=.ty T') hgy hmy hvy rfl hny hdy) z23) hs) (by decide) (by decide) hs hpl) fun σ H Q h=>z9f h
end
def KFnH (P:Wk) (w:Wp) (K:W0) (mg:Str→Option Value) (base:Heap) (k:Nat) (x:Str) (n:Nat) (G:DF):Prop :=
 ∃ (f:Addr) (fd:WF) (ps:List Str),mg x=some (.ref f)∧Q6 K (.ref f)=true∧Binds K fd ps []∧FnOkH P w K mg base k f fd ps (spD n G)
theorem zdV (r:RoomH k A):A.units + 64 < Ql:=by have:=r.un; omega
section
variable {P:Wk} {w:Wp} {K:W0} {mg:Str→Option Value} {base:Heap}
theorem zbJ {x qual:Str} {st:Stmt} {f:Addr} {fd:WF} {N ps:List Str} {k:Nat} {np:List Nat} {fb:DS} {G:DF} (F:Fun K x qual st f fd) (hm:mg x=some (.ref f)) (hb:Binds K fd ps []) (S:FnScope N ps (z05 st))
  (hbody:∀ (c:Fc) (cdv:Value) (A:Wn) (outer:List Env) (s:W2) (H:Hp) (E:XK),RoomH k (A.deeper (QI qual (z05 st) s.heap.objs.size f cdv))→Np c np→SSs (cxOf CX0 P w K mg base N qual (z05 st) f cdv A outer s H E).cold c (z1i st) fb)
  (hG:∀ ss y,G ss=some y→ioOk np 0 ss=true∧runD fb N.length ss=some y):KFnH P w K mg base (k + 1) x ps.length G:=by
 refine ⟨f,fd,ps,hm,F.kp,hb,zgR F S (fun vs H Q E h=>?_) fun cdv A outer s H vs Q hr h=>?_⟩
 ·obtain ⟨ss,B,hl,_⟩:=h
  exact hl
 ·obtain ⟨ss,B,hl,ok,r,outs,hg,q⟩:=h
  obtain ⟨hio,hrun⟩:=hG ss _ hg
  have hvs:ss.length=vs.length:=by have:=ok.len; simpa using this
  have np':Np ⟨H,B,z0A 0 ss vs,fun _ _=>False⟩ np:=fun p hp=>by
   obtain ⟨j,d,e,h1,_⟩:=z1w (i:=p.1) (a:=p.2) hp
   rw [e]
   exact z7a hio h1
  refine ⟨tDS ⟨H,B,z0A 0 ss vs,fun _ _=>False⟩ fb,hbody ⟨H,B,z0A 0 ss vs,fun _ _=>False⟩ cdv A outer s H E0 hr np',?_⟩
  have hst:start N vs=z12 vs ++ Wb (N.length - ss.length) none:=by rw [hvs]; rfl
  refine ⟨z0a N.length ss,by rw [hst]; exact ok.ext _,?_⟩
  unfold runD at hrun
  unfold z1R
  cases e:fb (z0a N.length ss) with
  | exc x δx=>rw [e] at hrun; cases hrun
  | stuck=>rw [e] at hrun; cases hrun
  | ok fl δ' =>
   rw [e] at hrun
   show ∀ σ' H',Aft _ (start N vs) (z0a N.length ss) H σ' δ' H'→fin _ _ σ' δ' H' fl
   intro σ' H' a
   rw [hst] at a
   simp only at hrun
   cases fl with
   | brk=>cases hrun
   | cont=>cases hrun
   | next =>
    simp only [z0n,WT] at hrun
    cases eo:z09 0 ss δ' with
    | none=>rw [eo] at hrun; cases hrun
    | some os =>
     rw [eo] at hrun
     cases hrun
     obtain ⟨l1,l2⟩:=z7V rfl ok a eo
     exact q .non H' l1 .non
   | ret r' =>
    simp only [z0n,WT] at hrun
    cases eo:z09 0 ss δ' with
    | none=>rw [eo] at hrun; cases hrun
    | some os =>
     rw [eo] at hrun
     cases hrun
     obtain ⟨l1,l2⟩:=z7V rfl ok a eo
     exact fun v rv=>q v H' l1 (l2 v _ rv)
end
section
variable {X:Cx} {c:Fc} {e:Expr} {es:List Expr} {as:List Ak} {k n:Nat} {x:Str} {G:DF} {pp pos:Pos}
theorem z8X (F:KFnH X.prog X.w X.K X.mg X.base k x n G) (hK:z1p G) (hr:RoomH k X.A) (hg:Gl X x) (ha:SX X c (e :: es) as) (hl:as.length=n) (hdb:(x == ("__debug__" : Str))=false:=by decide)
  (he:W5 (e :: es) X.env=(false,eval e X.env) :: W5 es X.env:=by rfl) (hpl:(WJ pos (W5 es X.env)).any (·.1)=false:=by rfl):SE X c (.Call (.Name x pp) (e :: es) [] pos) (z08 G as):=by
 obtain ⟨f,fd,ps,hm,hk,hb,ok⟩:=F
 exact PE.weak (zcR ok hr hg hm hk hb ha hdb he hpl) fun σ H Q h=>z8g (ps:=ps) hK hl h
end
end DV
namespace L2
open PySem PySem.Spec PyProof.Rows PySem.SeqAt
theorem z6O:∀ {bs:List Bool} {us:List Value},Vals (bs.map V.bl) us→us=bs.map Value.bool
 | [],us,r=>by cases r; rfl
 | b :: bs,us,r=>by
  cases r with
  | cons r1 r2 =>
   cases r1
   rw [z6O r2]
   rfl
def z65:Value→Bool
 | .bool b=>b
 | _=>false
theorem z6f:∀ bs:List Bool,(bs.map Value.bool).countP z65=bs.count true
 | []=>rfl
 | b :: bs=>by
  rw [Wz,List.countP_cons,z6f bs,List.count_cons]
  cases b <;> rfl
def zdI (K:W0):V→List V→Hp→VK→Prop:=fun x xs H Q=>∃ (a:Addr) (bs:List Bool),x = .ref a∧xs=[.bl true]∧SqL K H a (bs.map V.bl)∧Q (.int (bs.count true:Nat)) H
def zdH (K:W0):V→List V→Hp→VK→Prop:=fun x xs H Q=>∃ (a:Addr) (bs:List Bool),x = .ref a∧xs=[.bl true]∧SqL K H a (bs.map V.bl)∧true ∈ bs∧bs.length≤1000∧Q (.int (bs.idxOf true:Nat)) H
section
variable {X:Cx}
theorem zd5:MtR X "list.count" (zdI X.K):=by
 intro pins s σ H x xs v us Q I rx rs h
 obtain ⟨a,bs,rfl,rfl,hq,q⟩:=h
 obtain ⟨u,rfl,ru⟩:=z3F rs
 cases ru
 cases rx
 obtain ⟨its,r',p,_⟩:=I.list hq
 obtain rfl:=z6O r'
 obtain ⟨⟨cls,dd,data,sl⟩,ho,hc,n,hd⟩:=p.isList
 simp only at hc hd
 subst hc; subst hd
 refine J5 PySem.F.slot_list_count ⟨_,ho,rfl⟩ PySem.F.entry_list_count (PySem.F.args_list_count_2 _ _) (list_countAt a _ n dd sl (.bool true) z65) ⟨ho,fun y hy=>?_,?_⟩
 ·have hy':y ∈ bs.map Value.bool:=by simpa using hy
  obtain ⟨b,_,rfl⟩:=Qx.mp hy'
  have:=EqAt.bool_bool (A:=X.A.in1) (s:=s) b true
  cases b <;> exact this
 ·rw [show (bs.map Value.bool).toArray.toList=bs.map Value.bool from rfl,z6f]
  exact ⟨.int (bs.count true:Nat),H,I.tok _,⟨_,rfl⟩,q⟩
theorem zd4:MtR X "list.index" (zdH X.K):=by
 intro pins s σ H x xs v us Q I rx rs h
 obtain ⟨a,bs,rfl,rfl,hq,hm,hl,q⟩:=h
 obtain ⟨u,rfl,ru⟩:=z3F rs
 cases ru
 cases rx
 obtain ⟨its,r',p,_⟩:=I.list hq
 obtain rfl:=z6O r'
 obtain ⟨⟨cls,dd,data,sl⟩,ho,hc,n,hd⟩:=p.isList
 simp only at hc hd
 subst hc; subst hd
 have hj:bs.idxOf true < bs.length:=List.idxOf_lt_length_iff.mpr hm
 refine J5 PySem.F.slot_list_index ⟨_,ho,rfl⟩ PySem.F.entry_list_index (PySem.F.args_list_index_2 _ _) (list_indexAt a _ n dd sl (.bool true) z65 (bs.idxOf true) (by simpa using hj) (by omega) ?_ ?_) ⟨ho,fun y hy=>?_,⟨.int (bs.idxOf true:Nat),H,I.tok _,⟨_,rfl⟩,q⟩⟩
 ·have:=List.getElem_idxOf hj
  simp [z65,this]
 ·intro m hm' hlt
  have hm2:m < bs.length:=by simpa using hm'
  have:bs[m]≠true:=fun z=>by
   have z2:=List.not_of_lt_findIdx (p:=(· == true)) (xs:=bs) (i:=m) hlt
   rw [z] at z2
   cases z2
  simp [z65,this]
 ·have hy':y ∈ bs.map Value.bool:=by simpa using hy
  obtain ⟨b,_,rfl⟩:=Qx.mp hy'
  have:=EqAt.bool_bool (A:=X.A.in1) (s:=s) b true
  cases b <;> exact this
end
end L2
namespace DV
open PySem PySem.Spec PyProof.Rows L2
def z6G:D→Option S
 | .lst ds=>(z3I ds).map fun bs=>.pure (.int (bs.count true:Nat))
 | _=>none
def z4Y:D→Option S
 | .lst ds=>match z3I ds with
  | some bs=>if true ∈ bs∧bs.length≤1000 then some (.pure (.int (bs.idxOf true:Nat))) else none
  | none=>none
 | _=>none
section
variable {X:Cx} {c:Fc} {e:Expr} {fb:BE}
theorem zd0 {K:W0}:Op1 (fun x H Q=>tyV K "list" x H∧zdI K x [.bl true] H Q) z6G:=by
 intro c σ δ H x d s Q k rx hp q
 cases d with
 | lst ds =>
  simp only [z6G] at hp
  cases e:z3I ds with
  | none=>rw [e] at hp; cases hp
  | some bs =>
   rw [e] at hp
   cases hp
   obtain ⟨a,vs,ea,ha,ra⟩:=rx.lst
   obtain rfl:=z2S e ra
   subst ea
   exact ⟨.inl ⟨rfl,_,.inl ha⟩,a,bs,rfl,rfl,.inl ha,q _ H (.refl k) (.int _)⟩
 | _=>simp [z6G] at hp
theorem zcZ {K:W0}:Op1 (fun x H Q=>tyV K "list" x H∧zdH K x [.bl true] H Q) z4Y:=by
 intro c σ δ H x d s Q k rx hp q
 cases d with
 | lst ds =>
  simp only [z4Y] at hp
  cases e:z3I ds with
  | none=>rw [e] at hp; cases hp
  | some bs =>
   rw [e] at hp
   simp only at hp
   split at hp
   ·rename_i hz
    cases hp
    obtain ⟨a,vs,ea,ha,ra⟩:=rx.lst
    obtain rfl:=z2S e ra
    subst ea
    exact ⟨.inl ⟨rfl,_,.inl ha⟩,a,bs,rfl,rfl,.inl ha,hz.1,hz.2,q _ H (.refl k) (.int _)⟩
   ·cases hp
 | _=>simp [z4Y] at hp
theorem zcz {j} {p0 apos cpos:Pos} (he:SB X c e fb)
  (hbase:Qa e "count" X.env (eval e X.env)=eval e X.env:=by rfl)
  (hfew:((WJ cpos (W5 [.Constant (.bool true) j p0] X.env)).all (fun x=>!x.1) && (backToKw cpos (QX [] X.env)).all (fun x=>x.1.isSome)
   && decide ([Expr.Constant (.bool true) j p0].length + ([]:List Keyword).length + (if ([]:List Keyword).isEmpty then 0 else 1) < 30))=true:=by rfl)
  (hline:(apos.endLine == cpos.line)=true:=by rfl) (hs:W5 [.Constant (.bool true) j p0] X.env=(false,eval (.Constant (.bool true) j p0) X.env) :: W5 [] X.env:=by rfl) :
  SE X c (.Call (.Attribute e "count" apos) [.Constant (.bool true) j p0] [] cpos) (eC1 z6G fb):=by
 refine PE.weak (zbb QQ PySem.F.slot_list_count PySem.F.type_list_count zd5 he (z0V zeO z23 hs) hbase hfew hline hs rfl) fun σ H Q h=>?_
 obtain ⟨δ,k,q⟩:=z4O (zd0 (K:=X.K)) h
 exact ⟨δ,k,z00 q fun y δ1 q1 v H1 a1 r1=>q1 v H1 a1 r1⟩
theorem zcx {j} {p0 apos cpos:Pos} (he:SB X c e fb)
  (hbase:Qa e "index" X.env (eval e X.env)=eval e X.env:=by rfl)
  (hfew:((WJ cpos (W5 [.Constant (.bool true) j p0] X.env)).all (fun x=>!x.1) && (backToKw cpos (QX [] X.env)).all (fun x=>x.1.isSome)
   && decide ([Expr.Constant (.bool true) j p0].length + ([]:List Keyword).length + (if ([]:List Keyword).isEmpty then 0 else 1) < 30))=true:=by rfl)
  (hline:(apos.endLine == cpos.line)=true:=by rfl) (hs:W5 [.Constant (.bool true) j p0] X.env=(false,eval (.Constant (.bool true) j p0) X.env) :: W5 [] X.env:=by rfl) :
  SE X c (.Call (.Attribute e "index" apos) [.Constant (.bool true) j p0] [] cpos) (eC1 z4Y fb):=by
 refine PE.weak (zbb QQ PySem.F.slot_list_index PySem.F.type_list_index zd4 he (z0V zeO z23 hs) hbase hfew hline hs rfl) fun σ H Q h=>?_
 obtain ⟨δ,k,q⟩:=z4O (zcZ (K:=X.K)) h
 exact ⟨δ,k,z00 q fun y δ1 q1 v H1 a1 r1=>q1 v H1 a1 r1⟩
end
theorem z6i:Q1 "ValueError" = some (.type "ValueError"):=by decide +kernel
def ceOf:List (Tx×Nat)→Tx→Nat
 | [],_=>0
 | p :: r,x=>bif p.1 == x then p.2 else ceOf r x
end DV
namespace L2
open PySem PySem.Spec PyProof.Rows
section
variable {X:Cx}
end
end L2
namespace DV
open PySem PySem.Spec PyProof.Rows L2
end DV
namespace PySem
open Sem (wp)
structure ZA (z TI TO i1 i2:Addr) (f1 f2:List Addr):Prop where
 m1:i1 ∈ f1
 m2:i2 ∈ f2
 z1:z ∉ f1
 z2:z ∉ f2
 t1:TO ∉ f1
 t2:TO ∉ f2
 k1:i1 ∉ f2
 k2:i2 ∉ f1
 tz:TO≠z
 iz:TI≠z
 io:TI≠TO
 n1:TI≠i1
 n2:TI≠i2
section
variable {prog:Wk} {w:Wp} {A:Wn} {E:Value→W2→Prop} {s:W2}
end
end PySem
namespace L2
open PySem PySem.Spec PyProof.Rows
section
variable {X:Cx} {pins:List (Addr×Obj)} {σ:St} {H:Hp} {s:W2} {h':Heap}
end
end L2
namespace DV
open PySem PySem.Spec PyProof.Rows L2
section
variable {X:Cx} {c:Fc} {tg e:Expr} {fe:DE} {pos pp:Pos}
end
section
variable {X:Cx} {c:Fc} {e:Expr} {es:List Expr} {as:List Ak} {k n:Nat} {x:Str} {G:DX} {pp pos:Pos}
end
end DV
namespace PySem
open Sem (wp)
section
variable {prog:Wk} {w:Wp} {A:Wn} {E:Value→W2→Prop} {hp:Heap} {g:Array GenState} {d:Drawn} {t:Nat} {os:OsState}
variable {nm qn:Str} {C N:Addr} {bs bm bmB:List Value} {hdct:Bool} {sn:List Str} {sub:List Value} {ab:Bool} {col:Option Bool} {dd:Option Addr} {k0 k1 k2 k3 k5:Option Value} {B newId initId:String}
theorem z9F (F:ExcBaseFacts B newId initId bmB) (T:OwnTail hp bmB bm)
  (hC:hp.get? C=some (excClassObj nm qn C N bs bm hdct sn sub ab col dd k0 k1 k2 k3 k5 newId)) (hN:hp.Ns N mN) (hi:mN "__init__" = some (.ref f)) (hf:hp.get? f=some o) (hfc:o.cls = .type "function")
  (q:∀ h' e,Heap.MadeExcOf hp h' e (.ref C) vs→W8 (model prog w) A (call (.ref f) (.ref e :: vs)) (fun r s'=>r = .none∧Q (.done (.ret (.ref e))) s') E ⟨h',g,d,t,os⟩) (hl:vs.length≤W6) :
  W8 (model prog w) A (Builtin.«type.__call__» ⟨.ref C :: vs,[]⟩) Q E ⟨hp,g,d,t,os⟩:=by
 repeat (first | with_reducible refine Q8 hC ?_ | with_reducible refine wpAny_madeBy_exc hC ?_ | wp_step)
 refine codeAny_call_builtin_code (Code.quiet_builtin _ F.quiet) (wpAny_check_new_subT F T hC (codeAny_exc_new_subT F T hC ?_ hl))
 show W8 _ _ _ _ _ _
 have up:∀ {o1 o2:Obj} {b:Addr} {u:Obj},hp.get? b=some u→((hp.push o1).push o2).get? b=some u:=fun e=>W4 _ (W4 _ e)
 have hC1:=up (o1:={ cls:=.type "tuple",data:=.seq vs.toArray }) (o2:={ cls:=.ref C,data:=.fields #[.ref hp.objs.size,.none,.none,.none,.bool false,.none] }) hC
 have hf1:=up (o1:={ cls:=.type "tuple",data:=.seq vs.toArray }) (o2:={ cls:=.ref C,data:=.fields #[.ref hp.objs.size,.none,.none,.none,.bool false,.none] }) hf
 have hN1:((hp.push { cls:=.type "tuple",data:=.seq vs.toArray }).push { cls:=.ref C,data:=.fields #[.ref hp.objs.size,.none,.none,.none,.bool false,.none] }).Ns N mN:=let ⟨o,es,ep,e,r⟩:=hN; ⟨o,es,ep,up e,r⟩
 have he:((hp.push { cls:=.type "tuple",data:=.seq vs.toArray }).push { cls:=.ref C,data:=.fields #[.ref hp.objs.size,.none,.none,.none,.bool false,.none] }).get? (hp.objs.size + 1)=some { cls:=.ref C,data:=.fields #[.ref hp.objs.size,.none,.none,.none,.bool false,.none] }:=by heap_get
 have hc:(Value.ref C :: bm).contains (.ref C)=true:=by simp
 have T1:=T.keeps (h':=(hp.push { cls:=.type "tuple",data:=.seq vs.toArray }).push { cls:=.ref C,data:=.fields #[.ref hp.objs.size,.none,.none,.none,.bool false,.none] }) fun b o e=>up e
 unfold isInstance
 repeat (first | with_reducible refine Q8 he ?_ | (with_reducible refine wpAny_isSubtype_exc hC1 ?_; rw [hc]) | wp_step)
 show W8 _ _ (typeLookup (.ref C) _) _ _ _
 refine wpAny_typeLookup_tail hC1 hN1 T1 F.mroIs F.init.lookup ?_
 rw [hi]
 refine WR (W1 ?_)
 unfold bindSpecial
 refine W1 (J0 (T:="function") ⟨_,hf1,hfc⟩ ?_)
 rw [if_pos (by decide)]
 refine Wc (W1 (WU (q _ (hp.objs.size + 1) ⟨fun b o hb=>up hb,J3 (Qs _),hp.objs.size,he,J3 (W9 _),W4 _ (Heap.get?_push_at rfl rfl)⟩) (fun r s' hr=>?_) fun _ _ x=>x))
 obtain ⟨rfl,hQ⟩:=hr
 wp_walk
 exact hQ
theorem zc8 (F:ExcBaseFacts B newId initId bmB) (T:OwnTail hp bmB bm)
  (hC:hp.get? C=some (excClassObj nm qn C N bs bm hdct sn sub ab col dd k0 k1 k2 k3 k5 newId)) (hN:hp.Ns N mN) (hi:mN "__init__" = some (.ref f)) (hf:hp.get? f=some o) (hfc:o.cls = .type "function")
  (q:∀ h' e,Heap.MadeExcOf hp h' e (.ref C) vs→W8 (model prog w) (A.under (.builtin "type.__call__" ⟨.ref C :: vs,[]⟩)) (call (.ref f) (.ref e :: vs)) (fun r s'=>r = .none∧Q (.ref e) s') E ⟨h',g,d,t,os⟩) (hl:vs.length≤W6) :
  W8 (model prog w) A (call (.ref C) vs) Q E ⟨hp,g,d,t,os⟩:=by
 have f1:=tc_lookup
 have f2:=tc_bind (.ref C)
 have hT:(⟨hp,g,d,t,os⟩:W2).TypeIs (.ref C) "type":=⟨_,hC,rfl⟩
 refine wpAny_call (codeAny_of_tree ?_); show W8 _ _ (callAny (.ref C) _) _ _ _
 repeat (any_goals (first | assumption | with_reducible refine Q8 hC ?_ | wp_step))
 exact ⟨rfl,codeAny_call_builtin_at (Code.quiet_builtin _ (by decide +kernel)) entry_typeCall (wpAny_check_type_call_sub hC (z9F F T hC hN hi hf hfc (fun h' e hm=>q h' e hm) hl))⟩
theorem zcD (hh:A.handled=none)
  (h:W8 M A x (fun v s1=>∃ (e C N:Addr) (dx:Option Addr) (vs:Array Value) (sl:Array (Option Value)) (nm qn:Str) (bs bm:List Value) (hdct:Bool) (sn:List Str) (sub:List Value) (ab:Bool) (col:Option Bool) (dd:Option Addr) (k0 k1 k2 k3 k5:Option Value) (newId:String),
   v = .ref e∧bm.contains (.type "BaseException")=true∧s1.heap.get? C=some (excClassObj nm qn C N bs bm hdct sn sub ab col dd k0 k1 k2 k3 k5 newId)∧s1.heap.get? e=some ⟨.ref C,dx,.fields vs,sl⟩∧vs[1]? = some .none∧E (.ref e) s1) E s) :
  W8 M A (raiseStmt env (some x) none) Q E s:=by
 unfold raiseStmt
 refine W1 (WU h (fun v s1 h1=>?_) fun _ _ x=>x)
 obtain ⟨e,C,N,dx,vs,sl,nm,qn,bs,bm,hdct,sn,sub,ab,col,dd,k0,k1,k2,k3,k5,newId,rfl,hb,hC,he,hv,hE⟩:=h1
 have hc:(Value.ref C :: bm).contains (.type "BaseException")=true:=by rw [Jn,hb,Bool.or_true]
 obtain ⟨hp,g,d,tk,os⟩:=s1
 repeat (first | with_reducible refine Q8 he ?_ | with_reducible refine Q8 hC ?_ | (with_reducible refine wpAny_isSubtype_exc hC ?_; rw [hc]) | wp_step)
 rw [hv]
 repeat (first | wp_step)
 exact wpAny_raiseNew_none hh hE
end
end PySem
namespace L2
open PySem PySem.Spec PyProof.Rows PySem.W PySem.Builtin PySem.Builtin.ObjectAttr
def zcU:List Value→Bool
 | .ref _ :: r=>zcU r
 | l=>l == vErr
theorem z4Z (self:Value):∀ {l:List Value},zcU l=true→refuseLoop self "__setattr__" l=pure ()
 | [],e=>by cases e
 | .ref c :: r,e=>by rw [refuseLoop_ref]; exact z4Z self e
 | .none :: r,e=>by cases e
 | .type n :: r,e=>by
  have:(Value.type n :: r)=vErr:=beq_iff_eq.mp e
  rw [this]; exact PySem.F.store_ValueError.passes self
 | .bool b :: r,e=>by cases (beq_iff_eq.mp (show ((Value.bool b :: r) == vErr)=true from e))
 | v :: r,e=>by
  cases v <;> first
   | (rw [refuseLoop_ref]; exact z4Z self e)
   | (rw [show _=vErr from beq_iff_eq.mp e]; exact PySem.F.store_ValueError.passes self)
theorem z7K:∀ {l:List Value},zcU l=true→l.contains (.type "object")=true
 | [],e=>by cases e
 | v :: r,e=>by
  cases v <;> first
   | (rw [Jn,z7K (l:=r) e,Bool.or_true])
   | (rw [show _=vErr from beq_iff_eq.mp e]; decide)
def z95 (K:W0) (C:Addr):Bool:=(clsIn K C).any fun cd=>zcU cd.mro
section
variable {prog:Wk} {w:Wp} {A:Wn} {E:Value→W2→Prop} {s:W2} {K:W0} {x C:Addr} {name:Str} {v:Value} {R:Result→W2→Prop}
theorem zeQ (X:K.In s.heap) (I:InstAt s.heap x ox C od) (hp:z95 K C=true) (ht:takerIn K C name=some none)
  (q:∀ b,W8 (model prog w) A.in1 (storeInOwnDict (.ref x) (.ref C) (.str name tk) name v b) (fun fin s'=>match fin with | .done f=>R (.ok f) s' | .again c'=>c'.quiet=true∧Qr (model prog w) A c' R s') (fun e s'=>R (.error e) s') s) :
  Qr (model prog w) A (.call (.builtin "object.__setattr__") ⟨[.ref x,.str name tk,v],[]⟩) R s:=by
 have SF:=PySem.F.store_object
 obtain ⟨cd,hc,ho⟩:=any_some hp
 have ne:cd.mro.isEmpty=false:=by
  cases z:cd.mro with
  | nil=>rw [z] at ho; cases ho
  | cons _ _=>rfl
 have sub:Looks (model prog w) s.heap (isInstance (.ref x) (.type "object")) true:=I.type.andThen (looks_mroIn X (by unfold mroIn; rw [hc,WT,if_neg (by rw [ne]; decide),z7K ho]))
 refine Ja SF.slot.plain SF.entry (@check_slot (model prog w) _ _ s "object.__setattr__" "object" "__setattr__" (.ref x) [.str name tk,v] [] _ SF.kind SF.split sub (SF.args (.ref x) (.str name tk) v) ?_)
 obtain ⟨attr,ha,hr⟩:=Option.bind_eq_some_iff.mp ht
 have hm:Looks (model prog w) s.heap (mroOf (.ref C)) cd.mro:=(looks_clsIn X hc).andThen .now
 have L3:Looks (model prog w) s.heap (storeTaker? attr) none:=by
  cases attr with
  | none=>exact .now
  | some a =>
   obtain ⟨b,hb,hn⟩:=Option.map_eq_some_iff.mp hr
   refine (looks_takesIn X hb).andThen ?_
   cases b
   ·exact .now
   ·cases hn
 rw [osa_eq,refuse_eq]
 refine W1 (W1 (I.type.here (W1 (hm.here ?_))))
 rw [z4Z _ ho]
 exact Wc (W1 (I.type.here (W1 ((Jo X ha).here (W1 (L3.here (q _)))))))
theorem zer (X:K.In s.heap) (hx:s.heap.get? x=some ⟨.ref C,none,.fields vs,sl⟩)
  (hs:Jc K (.ref C) "__setattr__" = some (some (.builtin "object.__setattr__"))) (hp:z95 K C=true) (ht:takerIn K C name=some none) (hh:hasDictIn K C=true)
  (q:∀ h' tk,h'.get? x=some ⟨.ref C,some s.heap.objs.size,.fields vs,sl⟩→(∀ b o,b≠x→s.heap.get? b=some o→h'.get? b=some o)→h'.Ns1 s.heap.objs.size (fun z=>if z=name then some v else none)→Q () { s with heap:=h',toks:=tk }) :
  W8 (model prog w) A (setAttr (.ref x) name v) Q E s:=by
 have J:InstAt s.heap x ⟨.ref C,none,.fields vs,sl⟩ C none:=⟨hx,rfl,rfl,trivial⟩
 refine set_plain X J hs (zeQ (s:={ s with toks:=s.toks + 1 }) X J hp ht fun b=>?_)
 obtain ⟨cd,hc,hd'⟩:=any_some hh
 have hx1:(s.heap.push { cls:=.type "dict",data:=.dict #[] }).get? x=some ⟨.ref C,none,.fields vs,sl⟩:=W4 _ hx
 have hxs:x≠s.heap.objs.size:=WA (We hx)
 refine W1 (Wc (W1 (W1 (wpAny_loadPart hx (W1 (PySem.W.Looks.here (s:={ s with toks:=s.toks + 1 }) (PySem.W.looks_clsIn X hc) ?_))))))
 rw [hd']
 show W8 _ _ (alloc { cls:=.type "dict",data:=.dict #[] } >>= fun d=>(update x fun o=>{ cls:=o.cls,dict:=some d,data:=o.data,slots:=o.slots }) >>= fun _=>dictMade (.ref C) x d) _ _ _
 refine W1 (wpAny_alloc' (W1 (wpAny_update' hx1 (Wc ?_))))
 have gd:((s.heap.push { cls:=.type "dict",data:=.dict #[] }).update x fun o=>{ cls:=o.cls,dict:=some s.heap.objs.size,data:=o.data,slots:=o.slots }).get? s.heap.objs.size=some { cls:=.type "dict",data:=.dict #[] }:=(Heap.get?_update_ne _ _ _ _ hxs.symm).trans (Heap.get?_push_at rfl rfl)
 have nd:((s.heap.push { cls:=.type "dict",data:=.dict #[] }).update x fun o=>{ cls:=o.cls,dict:=some s.heap.objs.size,data:=o.data,slots:=o.slots }).Ns s.heap.objs.size (fun _=>none):=⟨_,#[],_,gd,rfl,fun e he=>absurd he (by simp),fun _=>rfl⟩
 show W8 _ _ (storeInDict s.heap.objs.size (.str name _) name v) _ _ _
 unfold storeInDict newKeyGuard
 refine W1 (Wc (W1 (wpAny_nsSet1 (Heap.Ns1.of_empty nd) fun h' hn' sb=>?_)))
 obtain ⟨oD,esD,epD,hoD,hdD,hcD⟩:=hn'.count (Within.cons name v Within.nil)
 refine W1 (wpAny_lookBehind hoD (by rw [hdD]; exact pastItsLine_dict (Q5 hcD (by rw [WH,List.length_nil,WO]; omega))) ?_)
 refine Wc (q h' _ ((sb.2 x hxs).trans (Qk _ hx1 rfl)) (fun b o hb e=>?_) hn')
 exact (sb.2 b (WA (We e))).trans ((Heap.get?_update_ne _ _ _ _ hb).trans (W4 _ e))
theorem zf4 {vs:Array Value} {sl:Array (Option Value)} {dx:Addr} {mA:Str→Option Value} {expr:Bool} {Q:Value→W2→Prop} (X:K.In s.heap) (hx:s.heap.get? x=some ⟨.ref C,some dx,.fields vs,sl⟩) (hd:s.heap.Ns1 dx mA)
  (k:ExcK K C) (hat:Jc K (.ref C) name=some none) (hh:hasDictIn K C=true)
  (hv:mA name=some v) (hin:handedIn v=true) (q:Q v { s with toks:=s.toks + 1 }):W8 (model prog w) A (getAttr (.ref x) name expr) Q E s:=by
 obtain ⟨od,ho,hl⟩:=z7T hd
 have J:InstAt s.heap x ⟨.ref C,some dx,.fields vs,sl⟩ C (some od):=⟨hx,rfl,rfl,ho⟩
 obtain ⟨h,g,d,t,os⟩:=s
 have L0:Looks (model prog w) h (typeOf (.ref x)) (.ref C):=J.type
 have L1:=Jo (M:=model prog w) X k.ga
 have L2:=Jo (M:=model prog w) X k.gt
 have L4:=looks_find (M:=model prog w) X J (findObj_own (v:=v) hh hat rfl (by rw [hl,hv]))
 have hx0:(expr && onTheHeap (Value.builtin "BaseException.__getattribute__"))=false:=by cases expr <;> rfl
 have hx2:(Value.builtin "BaseException.__getattribute__" == Value.builtin "object.__getattribute__")=false:=by decide +kernel
 have f3:=F.attrBase_ValueError.ga.bind (.ref x)
 unfold getAttr getAttrBy
 refine W1 (wpAny_mkText (WR (W1 (L0.at (W1 (L1.at ?_))))))
 dsimp only
 rw [hx2,Bool.and_false]
 simp only [Jp,if_false]
 unfold getAttrByItsOwn hookBefore
 repeat (any_goals (first | assumption | with_reducible refine Looks.at L2 ?_ | wp_step))
 refine Ja F.attrBase_ValueError.ga.plain F.entry_bexc_ga (z85 X k hx rfl ?_)
 repeat (any_goals (first | assumption | with_reducible refine Looks.at L0 ?_ | with_reducible refine Looks.at L4 ?_ | wp_step))
 show W8 _ _ (handedOut v) _ _ _
 rw [handedOut_of hin]; exact Wc q
end
def excN (C a:Addr):Heap→Prop:=fun h=>∃ vs sl a0,h.get? a=some ⟨.ref C,none,.fields vs,sl⟩∧vs[0]? = some a0∧vs[1]? = some .none
def excD (C:Addr) (dx:Option Addr) (a:Addr):Heap→Prop:=fun h=>∃ vs sl a0,h.get? a=some ⟨.ref C,dx,.fields vs,sl⟩∧vs[0]? = some a0∧vs[1]? = some .none
section
variable {P:Wk} {w:Wp} {H:Hp} {h:Heap} {C a:Addr}
theorem zf9 (q:excN C a h):ObjOk P w H h a (.ext (excN C a)):=by
 refine ⟨q,?_,?_⟩
 ·obtain ⟨vs,sl,a0,e,_⟩:=q
  exact ⟨_,e⟩
 ·rintro h1 h2 ⟨vs,sl,a0,e,r⟩ k
  exact ⟨vs,sl,a0,k _ e,r⟩
theorem zfa {dx:Option Addr} (q:excD C dx a h):ObjOk P w H h a (.ext (excD C dx a)):=by
 refine ⟨q,?_,?_⟩
 ·obtain ⟨vs,sl,a0,e,_⟩:=q
  exact ⟨_,e⟩
 ·rintro h1 h2 ⟨vs,sl,a0,e,r⟩ k
  exact ⟨vs,sl,a0,k _ e,r⟩
theorem xd_ok {fs:List (Str×V)} (q:DV.xdAt fs a h):ObjOk P w H h a (.ext (DV.xdAt fs a)):=by
 refine ⟨q,?_,?_⟩
 ·obtain ⟨mA,⟨o,_,_,e,_⟩,_⟩:=q
  exact ⟨_,e⟩
 ·rintro h1 h2 ⟨mA,⟨o,es,ep,e,c⟩,r⟩ k
  exact ⟨mA,⟨o,es,ep,k _ e,c⟩,r⟩
end
structure ExcS (K:W0) (C:Addr) (f:Str):Prop where
 set:Jc K (.ref C) "__setattr__" = some (some (.builtin "object.__setattr__"))
 over:z95 K C=true
 hd:hasDictIn K C=true
 tk:takerIn K C f=some none
section
variable {X:Cx} {o value:Expr} {f:Str} {ta tv:TE} {pos pos':Pos}
def zfJ (K:W0) (ta tv:TE) (f:Str):TS:=fun D σ H=>tv σ H fun y H1=>ta σ H1 fun x H2=>∃ a C,x = .ref a∧H2 a=some (.ext (excN C a))∧ExcS K C f∧∀ dx,H2 dx=none→dx≠a→D.nx σ (upd (upd H2 a (.ext (excD C (some dx) a))) dx (.ext (DV.xdAt [(f,y)] dx)))
theorem zgA {f g:Str} {y:V} {u:Value} (r:RelV y u):RelO (List.lookup g [(f,y)]) (if g=f then some u else none):=by
 by_cases z:g=f
 ·subst z; simp [RelO,r]
 ·rw [WI,beq_eq_false_iff_ne.mpr z,if_neg z]; trivial
theorem zeB (hex:X.ex=[]) (ha:PE X o ta) (hv:PE X value tv) (hs:swapsWith value (some (.Attribute o f pos')) pos.line X.env=pure false):PS X (.Assign [.Attribute o f pos'] value pos) (zfJ X.K ta tv f):=by
 intro pins s σ H D I h
 refine plainObj_wpAny_Assign_Attribute (thn (hv pins s σ H _ I h) fun u s1 ⟨y,H1,I1,ry,q⟩=>thn (ha pins s1 σ H1 _ I1 q) fun ov s2 ⟨x,H2,I2,rx,a,C,ex,ea,c,q2⟩=>?_) hs
 subst ex
 obtain rfl:ov=Value.ref a:=rx
 obtain ⟨⟨vs,sl,a0,e0,e1,e2⟩,_,_⟩:=(show ObjOk X.prog X.w H2 s2.heap a (.ext (excN C a)) from I2.hok a _ ea)
 have n0:=I2.hok.fresh (W9 s2.heap.objs.size)
 have ne:s2.heap.objs.size≠a:=Jh (We e0)
 refine zer I2.kIn e0 c.set c.over c.tk c.hd fun h' tk g1 g2 g3=>⟨σ,_,?_,q2 _ n0 ne⟩
 have Iw:=I2.write (x:=a) (e:=a) (t':=tk) (by rw [ea]; exact True.intro) (.inl rfl) (fun b u nb z=>g2 b u nb z) ⟨_,g1⟩ (zfa (P:=X.prog) (w:=X.w) (H:=upd H2 a (.ext (excD C (some s2.heap.objs.size) a))) ⟨vs,sl,a0,g1,e1,e2⟩)
 exact Iw.track (I2.apart hex (J3 (W9 _)) (by rw [z0l ne]; exact n0)) (xd_ok ⟨_,g3,fun g=>zgA ry⟩)
end
def excI (K:W0) (C f:Addr):Bool:=match K.lookup C with
 | some ⟨.type "type",_,.cls c,ss⟩=>(match c.mro,ss.toList with
  | .ref C' :: bm,[_,_,_,_,some (.builtin n),_]=>C' == C && n == "ValueError.__new__" && !c.hasDel && tailIn K vErr bm && nsOkIn K c.ns && nsIn K c.ns "__init__" == some (some (.ref f))
  | _,_=>false)
 | _=>false
theorem zeW {K:W0} {h:Heap} {N:Addr} {m:Str→Option Value} {n:Str} {v:Value} (X:K.In h) (G:h.Ns N m) (e:nsIn K N n=some (some v)):m n=some v:=by
 obtain ⟨o,es,ep,ho,hd,_,hf⟩:=G
 unfold nsIn at e
 split at e
 next c d es' n' sl q =>
  have z:=X _ _ q
  rw [ho] at z
  cases z
  simp only at hd
  injection hd with h1 h2
  subst h1
  split at e
  next x hx =>
   cases e
   rw [← hf n]
   unfold nsFind findBy
   rw [← Array.find?_toList,hx]
   rfl
  next=>split at e <;> cases e
 next=>cases e
theorem z9o {K:W0} {C f:Addr} {h:Heap} (q:excI K C f=true) (X:K.In h):∃ (bm:List Value) (N:Addr) (nm qn:Str) (bs:List Value) (hdct:Bool) (sn:List Str) (sub:List Value) (ab:Bool) (col:Option Bool) (dd:Option Addr) (k0 k1 k2 k3 k5:Option Value) (mN:Str→Option Value),
  h.get? C=some (excClassObj nm qn C N bs bm hdct sn sub ab col dd k0 k1 k2 k3 k5 "ValueError.__new__")∧h.Ns N mN∧mN "__init__" = some (.ref f)∧OwnTail h vErr bm:=by
 unfold excI at q
 split at q
 next dd cd sl lk =>
  split at q
  next C' bm k0 k1 k2 k3 n k5 e1 e2 =>
   simp only [Wf,beq_iff_eq,QE] at q
   obtain ⟨⟨⟨⟨⟨c1,c2⟩,c3⟩,c4⟩,c5⟩,c6⟩:=q
   subst c1; subst c2
   have e3:sl = #[k0,k1,k2,k3,some (.builtin "ValueError.__new__"),k5]:=by
    cases sl; simp only at e2; rw [e2]
   subst e3
   cases cd
   simp only at e1 c3 c4 c5 c6 lk
   subst e1; subst c3
   have hN:=Heap.Ns.of_isNs (isNs_of_in X c5)
   exact ⟨bm,_,_,_,_,_,_,_,_,_,dd,k0,k1,k2,k3,k5,_,X _ _ lk,hN,zeW X hN c6,tail_of_in X c4⟩
  next=>cases q
 next=>cases q
section
variable {X:Cx} {k:Nat} {f C:Addr} {fd:WF} {ps:List Str} {sp:Sp} {x:Str} {p pos:Pos} {e:Expr} {es:List Expr} {t:TA}
theorem fn_at {K:W0} {h:Heap} (X:K.In h) (q:isFn K (.ref f)=true):∃ o,h.get? f=some o∧o.cls = .type "function":=by
 have z:(K.lookup f).map (·.cls)=some (.type "function"):=beq_iff_eq.mp q
 obtain ⟨o,lk,e⟩:=Option.map_eq_some_iff.mp z
 exact ⟨o,X _ _ lk,e⟩
theorem zaK {pins:List (Addr×Obj)} {σ:St} {H:Hp} {s:W2} {Q:VK} {us:List Value} {vs:List V} (q:excI X.K C f=true) (hfn:isFn X.K (.ref f)=true) (F:FnOk X.prog X.w X.K X.mg X.base CX0 k f fd ps sp) (hr:Room (k + 1) X.A) (hb:Binds X.K fd ps []) (hex:X.ex=[])
  (I:Inv X pins σ H s) (r:Vals vs us) (hl:us.length≤W6)
  (h:∀ a,H a=none→X.s₀.heap.get? a=none→sp (.ref a :: vs) (upd H a (.ext (excN C a))) (fun v H2=>v = .non∧Q (.ref a) H2) E0) :
  W8 (model X.prog X.w) X.A (call (.ref C) us) (EP X pins σ Q) X.xe s:=by
 obtain ⟨bm,N,nm,qn,bs,hdct,sn,sub,ab,col,dd,k0,k1,k2,k3,k5,mN,hC,hN,hi,hT⟩:=z9o q I.kIn
 obtain ⟨o,hf,hfc⟩:=fn_at I.kIn hfn
 obtain ⟨hp,g,d,tk,os⟩:=s
 refine zc8 PySem.F.excBase_ValueError hT hC hN hi hf hfc (fun h' a hm=>?_) hl
 obtain ⟨t0,ht,_,_⟩:=hm.there
 have I1:Inv X pins σ H ⟨h',g,d,tk,os⟩:=I.kept (t':=tk) hm.keeps
 have g1:=I.gone hex hm.new
 have ap:=I.apart hex hm.new g1.1
 have I2:Inv X pins σ (upd H a (.ext (excN C a))) ⟨h',g,d,tk,os⟩:=I1.track ap (zf9 ⟨_,_,_,ht,rfl,rfl⟩)
 have hq:=h a g1.1 g1.2
 have r2:Vals (V.ref a :: vs) (Value.ref a :: us):=.cons rfl r
 have hln:(Value.ref a :: us ++ []).length=ps.length:=by
  rw [WW,← r2.length]; exact F.len _ _ _ _ hq
 refine wpAny_call (Ji (F.run _ X.stack _ _ ⟨Value.ref a :: us,[]⟩ (Value.ref a :: us) _ _ E0 (hr.make C us []) (I2.env0.make C us []) (by have:=hb _ (Value.ref a :: us) I2.kIn hln; rwa [WW] at this) r2 hq) fun rr s' hq'=>?_)
 cases rr with
 | error z=>exact hq'.elim
 | ok fl =>
  cases fl with
  | ret u =>
   obtain ⟨v,H',I3,rv,ev,q3⟩:=I2.after hq'
   subst ev
   exact ⟨rv,⟨V.ref a,H',I3,rfl,q3⟩⟩
  | next=>exact False.elim hq'
  | brk=>exact False.elim hq'
  | cont=>exact False.elim hq'
theorem zcN (q:excI X.K C f=true) (hfn:isFn X.K (.ref f)=true) (hk:keepIn X.K (.ref C)=true) (F:FnOk X.prog X.w X.K X.mg X.base CX0 k f fd ps sp) (hr:Room (k + 1) X.A) (hb:Binds X.K fd ps []) (hex:X.ex=[]) (hg:Gl X x) (hm:X.mg x=some (.ref C))
  (ha:PA X (e :: es) t) (hl:(e :: es).length≤100) (hdb:(x == ("__debug__" : Str))=false:=by decide) (he:W5 (e :: es) X.env=(false,eval e X.env) :: W5 es X.env:=by rfl) (hpl:(WJ pos (W5 es X.env)).any (·.1)=false:=by rfl) :
  PE X (.Call (.Name x p) (e :: es) [] pos) (fun σ H Q=>t σ H fun vs H1=>vs.length≤100∧∀ a,H1 a=none→X.s₀.heap.get? a=none→sp (.ref a :: vs) (upd H1 a (.ext (excN C a))) (fun v H2=>v = .non∧Q (.ref a) H2) E0):=by
 intro pins s σ H Q I h
 refine Qu (z3Z I hg hm ?_ hdb)
 refine callWith_K (h₀:=X.base) I.ok.mod.kin hk (thn (ha pos pins s σ H _ I h) fun us s1 ⟨vs,H1,I1,r,q1⟩=>⟨I1.kIn,?_⟩) he hpl
 exact zaK q hfn F hr hb hex I1 r (by rw [WX,← r.length,WO]; have:=q1.1; omega) q1.2
end
def spX1 (K:W0) (fl:List Str):Sp:=fun vs H Q _=>∃ a C ys,vs = .ref a :: ys∧ys.length=fl.length∧H a=some (.ext (excN C a))∧(∀ f ∈ fl,ExcS K C f)∧∀ dx,H dx=none→dx≠a→Q .non (upd (upd H a (.ext (excD C (some dx) a))) dx (.ext (DV.xdAt (fl.zip ys) dx)))
section
variable {P:Wk} {w:Wp} {K:W0} {mg:Str→Option Value} {base:Heap} {x qual f1 f2:Str} {st:Stmt} {f:Addr} {fd:WF} {N ps:List Str} {k:Nat}
theorem zdf (F:Fun K x qual st f fd) (S:FnScope N ps (z05 st)) (hps:ps.length=2) (h0:∀ vs:List V,vs.length=2→start N vs=vs.map some)
  (hbody:∀ (cdv:Value) (A:Wn) (outer:List Env) (s:W2) (H:Hp) (E:XK),Room k (A.deeper (QI qual (z05 st) s.heap.objs.size f cdv))→PSs (cxOf CX0 P w K mg base N qual (z05 st) f cdv A outer s H E).nox (z1i st) (zfJ K (tVar 0) (tVar 1) f1)) :
  FnOk P w K mg base CX0 (k + 1) f fd ps (spX1 K [f1]):=by
 refine F.ok S (fun vs H Q E ⟨a,C,ys,e,l,_⟩=>by rw [e,hps,WH,l]; rfl) fun cdv A outer s H vs Q E hr ⟨a,C,ys,e,l,ea,c,q⟩=>⟨_,hbody cdv A outer s H E hr,?_⟩
 subst e
 obtain ⟨y,rfl⟩:=List.length_eq_one_iff.mp l
 rw [h0 _ rfl]
 exact ⟨y,rfl,.ref a,rfl,a,C,rfl,ea,c _ (by simp),q⟩
end
theorem ObjOk.less:∀ {b:Addr} {o:HO},ObjOk P w (upd H a (.ext φ)) h b o→ObjOk P w H h b o:=by
 have dn:∀ {c:Addr} {u:HO},upd H a (.ext φ) c=some u→(∀ ψ,u≠.ext ψ)→H c=some u:=fun {c u} e n=>by
  by_cases hc:c=a
  ·subst hc; rw [z0t] at e; cases e; exact absurd rfl (n φ)
  ·rw [z0l hc] at e; exact e
 intro b o
 induction o generalizing b with
 | dT kvs =>
  rintro ⟨h1,h2,xs,h3,h4⟩
  refine ⟨h1,h2,xs,L2.Paired.mapP h3 (fun p q ⟨e1,e2,e3⟩=>⟨e1,dn e2 (fun ψ z=>by cases z),e3⟩),h4⟩
 | ins C dx fs =>
  rintro ⟨h1,h2⟩
  exact ⟨dn h1 (fun ψ z=>by cases z),h2⟩
 | frz ob u ih=>exact fun ⟨h1,h2⟩=>⟨h1,ih h2⟩
 | _=>exact fun x=>x
theorem Inv.untrack (I:Inv X pins σ (upd H a (.ext φ)) s) (hn:H a=none):Inv X pins σ H s:=by
 have dn:∀ {c:Addr} {u:HO},upd H a (.ext φ) c=some u→(∀ ψ,u≠.ext ψ)→H c=some u:=fun {c u} e n=>by
  by_cases hc:c=a
  ·subst hc; rw [z0t] at e; cases e; exact absurd rfl (n φ)
  ·rw [z0l hc] at e; exact e
 have no:∀ {c:Addr},upd H a (.ext φ) c=none→H c=none:=fun {c} e=>by
  by_cases hc:c=a
  ·subst hc; exact hn
  ·rw [z0l hc] at e; exact e
 refine ⟨I.ok,I.os,I.bare,⟨I.base.keep,I.base.slot,fun b o e n hx=>no (I.base.free b o e n hx),I.base.there,fun b xs e=>dn (I.base.tups b xs e) (fun ψ z=>by cases z),fun b o u e=>dn (I.base.frzs b o u e) (fun ψ z=>by cases z),fun b ps e=>?_⟩,I.loc,I.cell,no I.free,fun x c e=>no (I.freeC x c e),fun p hp=>?_,fun b o e=>?_,I.len⟩
 ·obtain ⟨m,q⟩:=I.base.tbls b ps e
  exact ⟨m,dn q (fun ψ z=>by cases z)⟩
 ·obtain ⟨e,n,r⟩:=I.pin p hp
  exact ⟨e,no n,r⟩
 ·have hb:b≠a:=fun z=>by rw [z,hn] at e; cases e
  exact (I.hok b o (by rw [z0l hb]; exact e)).less
section
variable {X:Cx} {C f:Addr} {call:Expr} {te:TE} {pos:Pos}
theorem zb2 {W:Option Addr→St→Hp→Prop} (q:excI X.K C f=true) (hc:X.calm=true) (he:PE X call te)
  (hxe:∀ pins σ H s a dx,Inv X pins σ (upd H a (.ext (excD C dx a))) s→H a=none→X.s₀.heap.get? a=none→W dx σ H→X.xe (.ref a) s) :
  PS X (.Raise (some call) none pos) (fun _ σ H=>te σ H fun v H2=>∃ a H1 dx,v = .ref a∧H2=upd H1 a (.ext (excD C dx a))∧H1 a=none∧X.s₀.heap.get? a=none∧W dx σ H1):=by
 intro pins s σ H D I h
 rw [arm_exec_Raise]
 refine W1 (wpAny_standAt (zcD (I.ok.hd hc) (W1 (thn (he pins s σ H _ I h) fun v s1 ⟨x,H2,I2,rx,a,H1,dx,ex,eH,n1,n2,w⟩=>W1 (wpAny_standAt (Wc ?_))))))
 subst ex eH
 obtain rfl:v=Value.ref a:=rx
 obtain ⟨bm,N,nm,qn,bs,hdct,sn,sub,ab,col,dd,k0,k1,k2,k3,k5,mN,hC,hN,hi,hT⟩:=z9o q I2.kIn
 obtain ⟨⟨vs,sl,a0,e0,e1,e2⟩,_,_⟩:=(show ObjOk X.prog X.w (upd H1 a (.ext (excD C dx a))) s1.heap a (.ext (excD C dx a)) from I2.hok a _ z0t)
 exact ⟨a,C,N,dx,vs,sl,nm,qn,bs,bm,hdct,sn,sub,ab,col,dd,k0,k1,k2,k3,k5,_,rfl,hT.hasType rfl,hC,e0,e2,hxe pins σ H1 s1 a dx I2 n1 n2 w⟩
end
end L2
namespace DV
open PySem PySem.Spec PyProof.Rows L2 PySem.W
def z1B (y:Tx) (fl:List Tx) (fs:DA):DS:=fun δ=>(fs δ).bind fun ds δ1=>if ds.length=fl.length then .exc ⟨y,.xd (fl.zip ds)⟩ δ1 else .stuck
theorem zfN {c:Fc} {σ:St} {δ:Dl} {H:Hp} {dx:Addr} {vs:List V} {fl:List Tx} {ds:List D} (k:Ok c σ δ H) (n:H dx=none) (r:Reps H (Av c σ δ) vs ds) (hl:ds.length=fl.length) :
  Ok c σ δ (upd H dx (.ext (xdAt ((fl.map toS).zip vs) dx)))∧Rep (upd H dx (.ext (xdAt ((fl.map toS).zip vs) dx))) (Av c σ δ) (.ref dx) (.xd (fl.zip ds)):=by
 have r1:=Reps.aft r (Aft.alloc k n (.ext (xdAt ((fl.map toS).zip vs) dx)))
 refine ⟨k.alloc n _,.xd (k.nav n) z0t ?_ fun i p q e1 e2=>?_⟩
 ·rw [List.map_fst_zip (by rw [WC,r.1,hl]; omega)]
  have z:(fl.zip ds).map (fun p=>toS p.1)=((fl.zip ds).map Prod.fst).map toS:=by rw [WL]; rfl
  rw [z,List.map_fst_zip (by omega)]
 ·rw [List.getElem?_zip_eq_some] at e1 e2
  exact r1.2 i _ _ e1.2 e2.2
theorem zav {X:Cx} {c:Fc} {x:Str} {fl:List Str} {C f:Addr} {fd:WF} {ps:List Str} {k:Nat} {e:Expr} {es:List Expr} {fe:DA} {np cpos pos:Pos} (y:Tx) (gl:List Tx) (q:excI X.K C f=true) (hfn:isFn X.K (.ref f)=true) (hk:keepIn X.K (.ref C)=true) (hS:∀ z ∈ fl,ExcS X.K C z)
  (F:FnOk X.prog X.w X.K X.mg X.base CX0 k f fd ps (spX1 X.K fl)) (hr:Room (k + 1) X.A) (hb:Binds X.K fd ps []) (hc:X.calm=true) (hg:Gl X x) (hm:X.mg x=some (.ref C)) (he:SA X c (e :: es) fe) (hx:XOk X (wD X.mg c)) (hl:(e :: es).length≤100) (hgl:fl=gl.map toS:=by decide +kernel) (hln:fl.length≤100:=by decide) (hy:x=toS y:=by decide +kernel) (hd:(x == ("__debug__" : Str))=false:=by decide) (hex:X.ex=[]:=by rfl)
  (hs:W5 (e :: es) X.env=(false,eval e X.env) :: W5 es X.env:=by rfl) (hpl:(WJ cpos (W5 es X.env)).any (·.1)=false:=by rfl):SS X c (.Raise (some (.Call (.Name x np) (e :: es) [] cpos)) none pos) (z1B y gl fe) :=
 PS.weak (zb2 (W:=fun dx σ H=>wD X.mg c C dx σ H) q hc (zcN (p:=np) (pos:=cpos) q hfn hk F hr hb hex hg hm he.pa hl hd hs hpl) fun pins σ H s a dx I n1 n2 w=>by
  obtain ⟨⟨vs,sl,a0,e0,e1,e2⟩,_,_⟩:=(show ObjOk X.prog X.w (upd H a (.ext (excD C dx a))) s.heap a (.ext (excD C dx a)) from I.hok a _ z0t)
  have ne:∀ {b:Addr},upd H a (.ext (excD C dx a)) b=none→a≠b:=fun {b} z e=>by rw [← e,z0t] at z; cases z
  exact hx pins σ H s a C dx (I.untrack n1) (.inr ⟨⟨vs,sl,a0,e0,e1,e2⟩,n2,n1,ne I.free,fun x c hc z=>ne (I.freeC x c hc) z.symm,fun p hp z=>ne (I.pin p hp).2.1 z.symm⟩) w) fun D σ H ⟨δ,k,q⟩=>by
  unfold z1B z1R at q
  rw [z01] at q
  refine ⟨δ,k,z00 q fun ds δ1 q1 vs H1 a1 r1=>?_⟩
  split at q1
  ·rename_i hlen
   have hvl:vs.length=fl.length:=by rw [r1.1,hlen,hgl,WC]
   refine ⟨by omega,fun a n1 n2=>⟨a,C,vs,rfl,hvl,z0t,hS,fun dx d1 d2=>⟨rfl,a,upd H1 dx (.ext (xdAt (fl.zip vs) dx)),some dx,rfl,?_,?_,n2,?_⟩⟩⟩
   ·funext b
    unfold upd
    by_cases hb:b=a
    ·subst hb; simp [Ne.symm d2]
    ·simp [hb]
   ·rw [z0l (Ne.symm d2)]; exact n1
   ·have d1':H1 dx=none:=by rwa [z0l d2] at d1
    obtain ⟨k1,rx⟩:=zfN (fl:=gl) a1.ok d1' r1 hlen
    rw [hgl]
    exact ⟨⟨y,.xd (gl.zip ds)⟩,δ1,.ref dx,by rw [← hy]; exact hm,k1,rx,fun z e=>by cases e; rfl,q1⟩
  ·exact q1.elim
def IniK (P:Wk) (w:Wp) (K:W0) (mg:Str→Option Value) (base:Heap) (C:Addr) (fl:List Str):Prop :=
 ∃ (f:Addr) (fd:WF) (ps:List Str),excI K C f=true∧isFn K (.ref f)=true∧keepIn K (.ref C)=true∧(∀ z ∈ fl,ExcS K C z)∧Binds K fd ps []∧FnOk P w K mg base CX0 1 f fd ps (spX1 K fl)
theorem z4d {X:Cx} {c:Fc} {x:Str} {fl:List Str} {C:Addr} {e:Expr} {es:List Expr} {fe:DA} {np cpos pos:Pos} (y:Tx) (gl:List Tx) (N:IniK X.prog X.w X.K X.mg X.base C fl) (hr:Room 2 X.A) (hc:X.calm=true) (hg:Gl X x) (hm:X.mg x=some (.ref C)) (he:SA X c (e :: es) fe) (hx:XOk X (wD X.mg c)) (hl:(e :: es).length≤100:=by decide) (hgl:fl=gl.map toS:=by decide +kernel) (hln:fl.length≤100:=by decide)
  (hy:x=toS y:=by decide +kernel) (hd:(x == ("__debug__" : Str))=false:=by decide) (hex:X.ex=[]:=by rfl) (hs:W5 (e :: es) X.env=(false,eval e X.env) :: W5 es X.env:=by rfl) (hpl:(WJ cpos (W5 es X.env)).any (·.1)=false:=by rfl):SS X c (.Raise (some (.Call (.Name x np) (e :: es) [] cpos)) none pos) (z1B y gl fe):=by
 obtain ⟨f,fd,ps,h1,h2,h3,h4,h5,h6⟩:=N
 exact zav y gl h1 h2 h3 h4 h6 hr h5 hc hg hm he hx hl hgl hln hy hd hex hs hpl
def zfk:Stmt→List Stmt
 | .ClassDef _ _ _ b _ _ _ _ _ _ _=>b
 | _=>[]
section
variable {X:Cx} {c:Fc} {e:Expr} {fb:BE}
end
end DV
namespace L2
open PySem PySem.Spec PyProof.Rows
section
variable {X:Cx} {tg:Expr}
end
end L2
namespace DV
open PySem PySem.Spec PyProof.Rows L2
section
variable {X:Cx} {c:Fc} {tg e:Expr} {fe:DE} {pos pp:Pos}
end
end DV
namespace PySem.SeqAt
open AutoSeq1 (wpAny_loadPart')
open MeetsSeq
section
variable {A:Wn} {s:W2}
end
end PySem.SeqAt
namespace DV
open PySem PySem.Spec PyProof.Rows L2
end DV
namespace PySem.SeqAt
open AutoSeq1 (wpAny_loadPart')
open MeetsSeq
abbrev prO (dd:Option Addr) (a1 a2:Int) (t1 t2:Tok) (n:Nat) (sl:Array (Option Value)):Obj:={ cls:=.type "tuple",dict:=dd,data:=.seq #[.int a1 t1,.int a2 t2] n,slots:=sl }
def ltP (a1 a2 b1 b2:Int):Bool:=if a1 == b1 then decide (a2 < b2) else decide (a1 < b1)
theorem zaq (l b:Addr) (a1 a2 b1 b2:Int) (t1 t2 u1 u2:Tok) (n n2:Nat) (dd dd2:Option Addr) (sl sl2:Array (Option Value)) :
  Meets (Builtin.«tuple.__lt__» ⟨[.ref l,.ref b],[]⟩)
   (fun _ R s=>s.heap.get? l=some (prO dd a1 a2 t1 t2 n sl)∧s.heap.get? b=some (prO dd2 b1 b2 u1 u2 n2 sl2)∧R (.ok (.ret (.bool (ltP a1 a2 b1 b2)))) s) :=
 .of_wp fun prog w A R s h=>by
  obtain ⟨hp,g,d,tk,os⟩:=s; obtain ⟨hl,hb,h⟩:=h
  have f2:=AutoSeq1.sub_tuple_tuple
  wp_walk using Q3 hl,Q3 hb,wpAny_forIn_list _ (fun rest c s'=>c.1=none∧s' = ⟨hp,g,d,tk,os⟩ ∧
   (rest=[(.int a1 t1,.int b1 u1),(.int a2 t2,.int b2 u2)]∨(rest=[(.int a2 t2,.int b2 u2)]∧a1=b1)∨(rest=[]∧a1=b1∧a2=b2))) _
  case turn =>
   rintro ⟨y,x⟩ rest c s' ⟨hc,rfl,hz⟩
   rcases hz with hz | ⟨hz,e1⟩ | ⟨hz,_⟩
   ·injection hz with hyx hrest
    cases hyx
    refine W1 (EqAt.int_int a1 t1 b1 u1 prog w _ _ ?_)
    by_cases e:a1=b1
    ·rw [show (a1 == b1)=true by simp [e]]
     wp_walk
     exact ⟨rfl,rfl,.inr (.inl ⟨hrest,e⟩)⟩
    ·rw [show (a1 == b1)=false by simp [e]]
     have hlt:ltP a1 a2 b1 b2=decide (a1 < b1):=by simp [ltP,e]
     rw [hlt] at h
     simp only [Bool.not_false,if_true]
     refine W1 (Ju ?_)
     refine W1 (richCompare_gives (op:=.Lt) (Js _ _ t1) (Js _ _ u1) F.slot_int_lt F.entry_int_lt (F.args_int_lt_2 _ _) (gives_int_lt _ _ t1 u1) (fun x=>nomatch x) ?_)
     refine W1 (Wc ?_)
     exact Wc (Wc ⟨_,rfl,h⟩)
   ·injection hz with hyx hrest
    cases hyx
    refine W1 (EqAt.int_int a2 t2 b2 u2 prog w _ _ ?_)
    by_cases e:a2=b2
    ·rw [show (a2 == b2)=true by simp [e]]
     wp_walk
     exact ⟨rfl,rfl,.inr (.inr ⟨hrest,e1,e⟩)⟩
    ·rw [show (a2 == b2)=false by simp [e]]
     have hlt:ltP a1 a2 b1 b2=decide (a2 < b2):=by simp [ltP,e1]
     rw [hlt] at h
     simp only [Bool.not_false,if_true]
     refine W1 (Ju ?_)
     refine W1 (richCompare_gives (op:=.Lt) (Js _ _ t2) (Js _ _ u2) F.slot_int_lt F.entry_int_lt (F.args_int_lt_2 _ _) (gives_int_lt _ _ t2 u2) (fun x=>nomatch x) ?_)
     refine W1 (Wc ?_)
     exact Wc (Wc ⟨_,rfl,h⟩)
   ·cases hz
  case fin =>
   rintro ⟨c1,c2⟩ s' ⟨hc,rfl,hz⟩
   simp only at hc
   subst hc
   rcases hz with hz | ⟨hz,e1⟩ | ⟨_,e1,e2⟩
   ·cases hz
   ·cases hz
   ·have hlt:ltP a1 a2 b1 b2=false:=by simp [ltP,e1,e2]
    rw [hlt] at h
    wp_walk
    exact ⟨_,rfl,h⟩
  case h=>exact ⟨rfl,rfl,.inl rfl⟩
end PySem.SeqAt
namespace PySem
open SeqAt (prO ltP zaq)
section
variable {prog:Wk} {w:Wp} {A:Wn} {R:Result→W2→Prop} {I:Addr} {fp wr:List Addr} {n:Nat} {P:Nat→Value→Prop} {St:Nat→Heap→Prop}
end
section
variable {prog:Wk} {w:Wp} {A:Wn} {E:Value→W2→Prop} {s:W2}
end
end PySem
namespace DV
open PySem PySem.Spec PyProof.Rows L2
open PySem.SeqAt (prO ltP)
section
variable {X:Cx} {c:Fc} {e:Expr} {fb:BE} {pos pp:Pos}
end
section
variable {c:Fc} {σ:St} {δ δ':Dl} {H H':Hp} {p:Addr}
end
end DV
namespace L2
open PySem PySem.Spec PyProof.Rows
end L2
namespace DV
open PySem PySem.Spec PyProof.Rows L2
section
variable {X:Cx} {c:Fc} {tg e:Expr} {fe:DE} {pos pp:Pos}
end
section
variable {K:W0} {h:Heap} {mg:Str→Option Value} {x q:Str} {st:Stmt} {f:Addr} {fd:WF}
abbrev FnH (K:W0) (x:Str) (st:Stmt):Prop:=∃ (f:Addr) (oc:Value) (od:Option Addr) (kV dc pm:Value) (an:Option Addr) (cd ct:Value) (sl:Array (Option Value)),
 PySem.W.nsIn K Wj x=some (some (.ref f))∧K.lookup f=some ⟨oc,od,.func (Qg x x (z36 st) (z1i st) (z05 st) .none kV dc pm an cd ct),sl⟩∧PySem.W.codeIn K cd x=true∧Q6 K (.ref f)=true
theorem fnH (X:K.In h) (G:h.Ns Wj mg) (d:FnH K x st):∃ f fd,Fun K x x st f fd∧mg x=some (.ref f):=by
 obtain ⟨f,oc,od,kV,dc,pm,an,cd,ct,sl,a,l,c,k⟩:=d
 exact ⟨f,_,zbI l c k,PySem.W.mg_of X G a⟩
abbrev Bd (x q:Str) (st:Stmt) (ps:List Str) (us:List Value):Prop:=∀ (kV doc pm:Value) (an:Option Addr) (cdv ct:Value),bindArgs (Qg x q (z36 st) (z1i st) (z05 st) .none kV doc pm an cdv ct) ⟨us,[]⟩=pure (ps.zip us)
variable {p1 p2 p3 p4 p5 p6:Str}
theorem bd1 (F:Fun K x q st f fd) (h:∀ a,Bd x q st [p1] [a]):Binds K fd [p1] []:=F.binds fun _ _ _ _ _ _ us hl=>match us,hl with
 | [a],_=>h a _ _ _ _ _ _
theorem bd2 (F:Fun K x q st f fd) (h:∀ a b,Bd x q st [p1,p2] [a,b]):Binds K fd [p1,p2] []:=F.binds fun _ _ _ _ _ _ us hl=>match us,hl with
 | [a,b],_=>h a b _ _ _ _ _ _
theorem bd3 (F:Fun K x q st f fd) (h:∀ a b c,Bd x q st [p1,p2,p3] [a,b,c]):Binds K fd [p1,p2,p3] []:=F.binds fun _ _ _ _ _ _ us hl=>match us,hl with
 | [a,b,c],_=>h a b c _ _ _ _ _ _
theorem bd4 (F:Fun K x q st f fd) (h:∀ a b c d,Bd x q st [p1,p2,p3,p4] [a,b,c,d]):Binds K fd [p1,p2,p3,p4] []:=F.binds fun _ _ _ _ _ _ us hl=>match us,hl with
 | [a,b,c,d],_=>h a b c d _ _ _ _ _ _
end
theorem fm1 {α:Type} {P:α→Prop} {a:α} (x:P a):∀ z ∈ [a],P z:=fun _ h=>by cases h with | head=>exact x | tail _ h=>cases h
end DV
namespace L2
open PySem PySem.Spec PyProof.Rows
section
variable {X:Cx} {tg:Expr}
theorem zeC (hc:X.calm=true) (hi:PI X tg iter wi) (hg:PG X.loop tg g) (hb:PSs X.loop body tb)
  (hs:∀ x,QC iter X.env x=pure x:=by intro _; rfl):PS X (.For tg iter body [] pos) (tFor wi g tb):=by
 intro pins s σ H D I h
 refine wpAny_For (thn (hi pins s σ H _ I h) fun v s1 h1=>thn h1 fun itv s2 h2=>?_) hs
 obtain ⟨it,fp,tn,J,H2,e,I2,T,st2,f2,W,⟨m0,w0⟩,turn⟩:=h2
 subst e
 -- what stays true of the iterator's objects through the loop
 have stat:∀ {H':Hp},(∀ b ∈ fp,H' b=none)→∀ b ∈ fp,FpOk X.loop pins H' b:=fun hn b hb=>⟨hn b hb,(f2 b hb).2⟩
 refine codeAny_forLoop_any (fun n s'=>∃ i σ' H',Inv X.loop pins σ' H' s'∧tn i s'.heap∧(∀ b ∈ fp,H' b=none)∧W i n σ' H') ?_ m0 ⟨0,σ,H2,I2.loop,st2,fun b hb=>(f2 b hb).1,w0⟩
 rintro n s3 ⟨i,σ3,H3,I3,st3,fr3,w3⟩
 rcases turn i n σ3 H3 w3 with ⟨stop,qn⟩ | ⟨go,N,hN,step⟩
 ·refine wpAny_noRaise (thn (T.done X.loop rfl rfl rfl hc i pins s3 σ3 H3 (fun _ _=>False) I3 (stat fr3) st3 stop) fun r s4 ⟨hr,I4⟩=>?_)
  subst hr
  exact QT ⟨σ3,H3,I4.unloop,qn⟩
 ·refine wpAny_noRaise (thn (T.item X.loop rfl rfl rfl hc i pins s3 σ3 H3 (fun _ _=>False) I3 (stat fr3) st3 go) fun r s4 ⟨u,hr,h4⟩=>?_)
  subst hr
  refine wpAny_noRaise (thn h4 fun _ s5 ⟨x,H5,I5,r5,y5,st5,fr5⟩=>?_)
  have I5':=I5.pinned (stat fr5) (T.obj _ _ st5)
  refine (thn (hg _ s5 σ3 H5 x u _ I5' r5 (step x H5 y5)) fun _ s6 ⟨σ6,H6,I6,q6⟩=>?_)
  refine (thn (hb _ s6 σ6 H6 _ I6 q6) fun f s7 q7=>?_)
  have again:∀ {σ7:St} {H7:Hp},Inv X.loop (pins ++ z6F fp s5.heap) σ7 H7 s7→N σ7 H7→∃ m,m < n∧∃ i σ' H',Inv X.loop pins σ' H' s7∧tn i s7.heap∧(∀ b ∈ fp,H' b=none)∧W i m σ' H':=fun {σ7 H7} I7 n7=>by
   obtain ⟨m',hm,w7⟩:=hN σ7 H7 n7
   refine ⟨m',hm,i + 1,σ7,H7,I7.unpinned,T.keep _ _ _ st5 fun b hb o e=>(I7.pin (b,o) (Ww _ (Ww _ (z2a hb e)))).1,fun b hb=>?_,w7⟩
   obtain ⟨o,e,d⟩:=T.obj _ _ st5 b hb
   exact (I7.pin (b,o) (Ww _ (Ww _ (z2a hb e)))).2.1
  cases f with
  | next=>obtain ⟨σ7,H7,I7,n7⟩:=q7; exact again I7 n7
  | cont=>obtain ⟨σ7,H7,I7,n7⟩:=q7; exact again I7 n7
  | brk=>obtain ⟨σ7,H7,I7,q7⟩:=q7; exact ⟨σ7,H7,I7.unpinned.unloop,q7⟩
  | ret v=>obtain ⟨x7,σ7,H7,I7,r7,q7⟩:=q7; exact ⟨x7,σ7,H7,I7.unpinned.unloop,r7,q7⟩
end
section
variable {X:Cx} {e:Expr} {ta:TE} {f:Str} {pos:Pos}
structure AtT (K:W0) (ce:DV.Tx→Nat) (ys:List DV.Tx) (f:Str):Prop where
 k:∀ z ∈ ys,ExcK K (ce z)
 no:∀ z ∈ ys,QZ K (.ref (ce z)) f=some none
 hd:∀ z ∈ ys,Jw K (ce z)=true
theorem zgb (T:AtT X.K ce ys f) (he:PE X e ta) (hb:Qa e f X.env (eval e X.env)=eval e X.env) :
  PE X (.Attribute e f pos) (fun σ H Q=>ta σ H fun x H1=>∃ (a dx:Addr) (z:DV.Tx) (fs:List (Str×V)) (v:V),x = .ref a∧z ∈ ys∧H1 a=some (.ext (DV.excAt (ce z) (.ref dx) a))∧H1 dx=some (.ext (DV.xdAt fs dx))∧fs.lookup f=some v∧Q v H1):=by
 intro pins s σ H Q I h
 refine zfm hb (thn (he pins s σ H _ I h) fun u s1 ⟨x,H1,I1,rx,a,dx,z,fs,v,ex,hz,ea,ed,l,q⟩=>?_)
 subst ex
 obtain rfl:u=Value.ref a:=rx
 obtain ⟨⟨⟨cls,dd,data,sl⟩,o1,o2,o3,vs,o4⟩,_,_⟩:=(show ObjOk X.prog X.w H1 s1.heap a (.ext (DV.excAt (ce z) (.ref dx) a)) from I1.hok a _ ea)
 obtain ⟨⟨mA,ns,rl⟩,_,_⟩:=(show ObjOk X.prog X.w H1 s1.heap dx (.ext (DV.xdAt fs dx)) from I1.hok dx _ ed)
 have o5:dd=some dx:=o3 dx rfl
 have o6:cls = .ref (ce z):=o2
 have o7:data = .fields vs:=o4
 subst o5; subst o6; subst o7
 obtain ⟨w,hw,rw'⟩:=RelO.some_of (by rw [← l]; exact rl f)
 exact zf4 I1.kIn o1 ns (T.k z hz) (T.no z hz) (T.hd z hz) hw (zbG rw') ⟨v,H1,I1.tok _,rw',q⟩
end
end L2
namespace DV
open PySem PySem.Spec PyProof.Rows L2
section
variable {X:Cx} {c:Fc} {tg e:Expr} {fe:DE} {pos pp:Pos}
theorem zen (hc:X.calm=true) (hi:SI X c tg iter it) (hg:SG X.loop c tg g) (hb:SSs X.loop c body b)
  (hs:∀ x,QC iter X.env x=pure x:=by intro _; rfl):SS X c (.For tg iter body [] pos) (dFor it g b):=PS.weak (zeC hc hi hg hb hs) fun D σ H ⟨δ,k,q⟩=>by
 unfold dFor z1R at q
 rw [z01] at q
 refine ⟨δ,k,z00 q fun ds δ1 q1 J H1 a1 io=>?_⟩
 refine ⟨fun i m σ2 H2=>∃ δ2,m=ds.length - i∧i≤ds.length∧Aft c σ δ1 H1 σ2 δ2 H2∧z1R c D σ2 δ2 H2 (forL g b (ds.drop i) δ2),⟨ds.length,δ1,by simp,WY _,.refl a1.ok,?_⟩,?_⟩
 ·rw [List.drop_zero]
  exact z00 q1 fun fl δ2 q2 σ2 H2 a2=>q2 σ2 H2 (a1.trans a2)
 ·rintro i m σ2 H2 ⟨δ2,rfl,hil,a2,p2⟩
  by_cases hlt:i < ds.length
  ·right
   have e:ds[i]? = some ds[i]:=by simp [hlt]
   rw [List.drop_eq_getElem_cons hlt] at p2
   refine ⟨((io H2 a2.keep).2 i _ e).1,fun σ4 H4=>∃ δ4,Aft c σ δ1 H1 σ4 δ4 H4∧z1R c D σ4 δ4 H4 (forL g b (ds.drop (i + 1)) δ4),fun σ4 H4 ⟨δ4,a4,p4⟩=>⟨ds.length - (i + 1),by omega,δ4,rfl,hlt,a4,p4⟩,fun x H3 y=>?_⟩
   obtain ⟨a3,r3⟩:=z6P io a2 e y
   simp only [forL,z1R] at p2
   cases eg:g (.pure ds[i]) δ2 with
   | none=>rw [eg] at p2; exact p2.elim
   | some δ3 =>
    rw [eg] at p2
    refine ⟨σ2,δ2,H3,δ2,.pure ds[i],δ3,.refl a3.ok,r3,eg,fun σ3 a3'=>?_⟩
    have p3:post c ((b δ3).bind fun fl δ2=>match fl with
     | .next=>forL g b (ds.drop (i + 1)) δ2
     | .cont=>forL g b (ds.drop (i + 1)) δ2
     | .brk=>.ok .next δ2
     | .ret v=>.ok (.ret v) δ2) fun fl δ'=>∀ σ' H',Aft c σ2 δ2 H2 σ' δ' H'→fin c D σ' δ' H' fl:=p2
    rw [z01] at p3
    have a23:Aft c σ2 δ2 H2 σ3 δ3 H3:=a3.trans a3'
    refine ⟨δ3,a3'.ok,z00 p3 fun fl δ4 p4 σ4 H4 a4=>?_⟩
    have a24:=a23.trans a4
    cases fl with
    | next=>exact ⟨δ4,a2.trans a24,z00 p4 fun fl δ5 p5 σ5 H5 a5=>p5 σ5 H5 (a24.trans a5)⟩
    | cont=>exact ⟨δ4,a2.trans a24,z00 p4 fun fl δ5 p5 σ5 H5 a5=>p5 σ5 H5 (a24.trans a5)⟩
    | brk=>exact p4 σ4 H4 a24
    | ret r=>exact p4 σ4 H4 a24
  ·left
   have hi2:i=ds.length:=by omega
   subst hi2
   rw [List.drop_length] at p2
   exact ⟨(io H2 a2.keep).1,p2 σ2 H2 (.refl a2.ok)⟩
def z8H (ce:Tx→Nat) (ys:List Tx) (f:Tx) (fb:BE):DE:=fun δ=>(fb δ).bind fun d δ'=>match d with
 | .exc n (.xd fs)=>match ys.find? (fun z=>ce z == n),fs.lookup f with
  | some _,some d=>.ok (.pure d) δ'
  | _,_=>.stuck
 | _=>.stuck
theorem z6H:∀ {fs:List (Str×V)} {ds:List (Tx×D)} {d:D},fs.map (·.1)=ds.map (fun p=>toS p.1)→(∀ (i:Nat) p q,fs[i]? = some p→ds[i]? = some q→Rep H O p.2 q.2)→ds.lookup f=some d→∃ v,fs.lookup (toS f)=some v∧Rep H O v d
 | _,[],_,_,_,h=>by simp at h
 | [],_ :: _,_,h,_,_=>by simp at h
 | p :: fs,q :: ds,d,h1,h2,h=>by
  obtain ⟨n,v⟩:=p
  obtain ⟨g,e⟩:=q
  simp only [Wz,List.cons.injEq] at h1
  obtain ⟨rfl,h1⟩:=h1
  by_cases z:f=g
  ·subst z
   simp only [WI,beq_self_eq_true,W7] at h
   subst h
   exact ⟨v,by simp,h2 0 _ _ rfl rfl⟩
  ·have zs:toS f≠toS g:=fun w=>z (z5D w)
   rw [WI,beq_eq_false_iff_ne.mpr z] at h
   rw [WI,beq_eq_false_iff_ne.mpr zs]
   exact z6H h1 (fun i p q e1 e2=>h2 (i + 1) p q (by simpa using e1) (by simpa using e2)) h
theorem zaG (f:Tx) (T:AtT X.K ce ys x) (he:SB X c e fb) (hx:x=toS f:=by decide +kernel) (hb:Qa e x X.env (eval e X.env)=eval e X.env:=by rfl):SE X c (.Attribute e x pos) (z8H ce ys f fb) :=
 PE.weak (zgb T he hb) fun σ H Q ⟨δ,k,q⟩=>by
  unfold z8H at q
  rw [z01] at q
  refine ⟨δ,k,z00 q fun d δ1 q1 v H1 a1 r1=>?_⟩
  cases d <;> first | exact q1.elim | skip
  rename_i n fl
  cases fl <;> first | exact q1.elim | skip
  rename_i ds
  simp only at q1
  split at q1
  ·rename_i z d hz hd
   have h1:=List.find?_some hz
   have h2:=List.mem_of_find?_eq_some hz
   have e:ce z=n:=by simpa using h1
   subst e
   rcases r1 with r1 | ⟨a,_,o⟩
   ·cases r1 with
    | exc _ ha r2 =>
     cases r2 with
     | xd _ hx2 h3 h4 =>
      obtain ⟨v,l,rv⟩:=z6H h3 h4 hd
      exact ⟨_,_,z,_,v,rfl,h2,ha,hx2,by rw [hx]; exact l,q1 _ H1 a1 rv⟩
   ·exact o.elim
  ·exact q1.elim
end
end DV
namespace L2
open PySem PySem.Spec PyProof.Rows
section
variable {X:Cx}
end
end L2
namespace DV
open PySem PySem.Spec PyProof.Rows L2
end DV
namespace L2
open PySem PySem.Spec PyProof.Rows PySem.SeqAt DV
section
variable {X:Cx}
end
end L2
namespace DV
open PySem PySem.Spec PyProof.Rows L2
section
variable {X:Cx} {c:Fc} {o e:Expr} {fa fb:DE}
end
end DV
namespace L2
open PySem PySem.Spec PyProof.Rows PySem.W DV
def Good (n:Nat) {α:Type}:KasT α→(α→Prop)→Prop
 | .ret a,R=>R a
 | .ask i j k,R=>i < n∧j < n∧i≠j∧∀ b,Good n (k b) R
def runK {α:Type} (lt:Nat→Nat→Bool):KasT α→α
 | .ret a=>a
 | .ask i j k=>runK lt (k (lt i j))
section
variable {α β:Type} {n:Nat}
theorem Good.bind:∀ {t:KasT α},Good n t R→(∀ a,R a→Good n (f a) R')→Good n (t.bind f) R'
 | .ret a,h,k=>k a h
 | .ask i j g,h,k=>⟨h.1,h.2.1,h.2.2.1,fun b=>Good.bind (h.2.2.2 b) k⟩
theorem Good.mono:∀ {t:KasT α},Good n t R→(∀ a,R a→R' a)→Good n t R'
 | .ret a,h,k=>k a h
 | .ask i j g,h,k=>⟨h.1,h.2.1,h.2.2.1,fun b=>Good.mono (h.2.2.2 b) k⟩
theorem Good.run (lt:Nat→Nat→Bool):∀ {t:KasT α},Good n t R→R (runK lt t)
 | .ret a,h=>h
 | .ask i j g,h=>Good.run (t:=g (lt i j)) lt (h.2.2.2 _)
theorem Good.wp
  (hc:∀ i j,i < n→j < n→i≠j→∀ C:Bool→W2→Prop,C (lt i j) s→cmp i j C s):∀ {t:KasT α},Good n t R→G (runK lt t) s→t.kasWp cmp G s
 | .ret a,h,g=>g
 | .ask i j k,h,g=>hc i j h.1 h.2.1 h.2.2.1 _ (Good.wp hc (h.2.2.2 _) g)
end
section
variable {n:Nat} {p:Array Nat}
abbrev PermN (n:Nat) (p:Array Nat):Prop:=p.Perm (Jq (WM n))
theorem PermN.size (h:PermN n p):p.size=n:=by rw [Array.Perm.size_eq h]; simp
theorem PermN.list (h:PermN n p):p.toList.Perm (WM n):=by simpa using Array.perm_iff_toList_perm.mp h
theorem PermN.lt (h:PermN n p) (h0:0 < n) (i:Nat):p.getD i 0 < n:=by
 by_cases hi:i < p.size
 ·have:p[i] ∈ p.toList:=by simp
  have:=(h.list.mem_iff).mp this
  simpa [Array.getD,hi] using this
 ·simpa [Array.getD,hi] using h0
theorem PermN.ne (h:PermN n p) (hi:i < n) (hj:j < n) (e:i≠j):p.getD i 0≠p.getD j 0:=by
 have hs:=h.size
 have nd:p.toList.Nodup:=h.list.nodup_iff.mpr List.nodup_range
 have hi':i < p.size:=by omega
 have hj':j < p.size:=by omega
 intro z
 have e1:p.getD i 0=p.toList[i]'(by simpa using hi'):=by simp [Array.getD,hi']
 have e2:p.getD j 0=p.toList[j]'(by simpa using hj'):=by simp [Array.getD,hj']
 rw [e1,e2] at z
 rcases Nat.lt_or_gt_of_ne e with q | q
 ·exact (List.pairwise_iff_getElem.mp nd) i j (by simpa using hi') (by simpa using hj') q z
 ·exact (List.pairwise_iff_getElem.mp nd) j i (by simpa using hj') (by simpa using hi') q z.symm
theorem PermN.rev (h:PermN n p) (i j:Nat):PermN n (kas_rev p i j):=(mirror_perm p i j _).trans h
theorem PermN.bub (h:PermN n p) (i j:Nat):PermN n (bubble p i j):=(bubble_perm p i j).trans h
theorem z7b (h:PermN n p):∀ (f m:Nat),1≤m→m + f≤n→Good n (kas_asc p f m) (fun r=>m≤r∧r≤n)
 | 0,m,h1,h2=>⟨W9 _,h2⟩
 | f + 1,m,h1,h2=>⟨h.lt (by omega) _,h.lt (by omega) _,h.ne (by omega) (by omega) (by omega),fun b=>by
  cases b
  ·exact (z7b h f (m + 1) (by omega) (by omega)).mono fun r z=>⟨by omega,z.2⟩
  ·exact ⟨W9 _,by omega⟩⟩
theorem z4G:∀ (f:Nat) {p:Array Nat} (h:PermN n p) (m q:Nat),1≤m→m + f≤n→Good n (Jr f p m q) (fun r=>PermN n r.1∧1≤r.2.1∧r.2.1≤n)
 | 0,p,h,m,q,h1,h2=>⟨h,h1,h2⟩
 | f + 1,p,h,m,q,h1,h2=>⟨h.lt (by omega) _,h.lt (by omega) _,h.ne (by omega) (by omega) (by omega),fun b=>by
  cases b
  ·refine ⟨h.lt (by omega) _,h.lt (by omega) _,h.ne (by omega) (by omega) (by omega),fun d=>?_⟩
   cases d
   ·exact z4G f h (m + 1) (q + 1) (by omega) (by omega)
   ·exact ⟨h,h1,show m≤n by omega⟩
  ·show Good n (if q > 0 then Jr f (kas_rev p (m - (q + 1)) m) (m + 1) 0 else Jr f p (m + 1) 0) _
   split
   ·exact z4G f (h.rev _ _) (m + 1) 0 (by omega) (by omega)
   ·exact z4G f h (m + 1) 0 (by omega) (by omega)⟩
theorem z6J (h:PermN n p) (h1:1≤m) (h2:m≤n):Good n (kas_tail3 m n p) (fun r=>PermN n r.2∧1≤r.1∧r.1≤n) :=
 (z7b (h.rev 0 m) (n - m) m h1 (by omega)).bind fun r z=>⟨h.rev _ _,by have:=z.1; omega,z.2⟩
theorem z4F (h:PermN n p) (h1:1≤m) (h2:m + 1≤n):Good n (kas_descPart m n p) (fun r=>PermN n r.2∧1≤r.1∧r.1≤n) :=
 (z4G (n - (m + 1)) h (m + 1) 0 (by omega) (by omega)).bind fun r z=>by
  show Good n (if r.2.2 > 0 then _ else _) _
  split
  ·exact z6J (z.1.rev _ _) z.2.1 z.2.2
  ·exact z6J z.1 z.2.1 z.2.2
theorem za0 (h:PermN n p) (h2:2≤n):Good n (kas_count n p) (fun r=>PermN n r.2∧1≤r.1∧r.1≤n) :=
 (z7b h (n - 1) 1 (by omega) (by omega)).bind fun m z=>by
  show Good n (if (m == n)=true then _ else _) _
  split
  ·exact ⟨h,z.1,z.2⟩
  ·rename_i hm
   have hm':m≠n:=fun e=>hm (by simp [e])
   split
   ·refine ⟨h.lt (by omega) _,h.lt (by omega) _,h.ne (by omega) (by omega) (by omega),fun c=>?_⟩
    cases c
    ·exact z4F (h.rev _ _) z.1 (by omega)
    ·exact ⟨h,z.1,z.2⟩
   ·exact z4F h z.1 (by omega)
theorem z59 (h:PermN n p) (hk:k < n):∀ (f l r:Nat),r≤k→Good n (QH p k f l r) (fun _=>True)
 | 0,l,r,_=>trivial
 | f + 1,l,r,hr=>by
  show Good n (if l ≥ r then _ else _) _
  split
  ·trivial
  ·refine ⟨h.lt (by omega) _,h.lt (by omega) _,h.ne (by omega) (by omega) (by omega),fun c=>?_⟩
   cases c
   ·exact z59 h hk f _ _ hr
   ·exact z59 h hk f _ _ (by omega)
theorem z9i:∀ (f:Nat) {p:Array Nat} (h:PermN n p) (k:Nat),k + f≤n→Good n (kas_bin f p k) (fun r=>PermN n r)
 | 0,p,h,k,_=>h
 | f + 1,p,h,k,hk=>(z59 h (by omega) k 0 k (W9 _)).bind fun l _=>z9i f (h.bub _ _) (k + 1) (by omega)
theorem z83 (h2:2≤n):Good n (kas_sort n) (fun r=>PermN n r) :=
 (za0 (.refl _) h2).bind fun r z=>by
  show Good n (if r.1 < n then _ else _) _
  split
  ·exact z9i _ z.1 _ (by omega)
  ·exact z.1
end
def ordK (ks:List Tx):List Nat:=(runK (fun i j=>decide (ks.getD i [] < ks.getD j [])) (kas_sort ks.length)).toList
theorem z2U (h:2≤ks.length):(ordK ks).Perm (WM ks.length):=PermN.list (Good.run _ (z83 h))
structure TupK (h:Heap) (vs:List Value) (ks:List Tx):Prop where
 len:ks.length=vs.length
 at':∀ i v,vs[i]? = some v→∃ b o xs m t,v = .ref b∧h.get? b=some o∧o.cls = .type "tuple"∧o.data = .seq xs m∧xs[0]? = some (.str (toS (ks.getD i [])) t)
theorem TupK.keeps (t:TupK h vs ks) (k:∀ b o,h.get? b=some o→o.cls = .type "tuple"→h'.get? b=some o):TupK h' vs ks :=
 ⟨t.len,fun i v e=>let ⟨b,o,xs,m,tk,e1,e2,e3,r⟩:=t.at' i v e; ⟨b,o,xs,m,tk,e1,k b o e2 e3,e3,r⟩⟩
theorem zdU:∀ {vs:List Value} {ks:List Tx},TupK h vs ks→∃ fs,KatTups h vs fs∧fs.length=vs.length∧∀ v ∈ fs,∃ x t,v=Value.str x t
 | [],ks,t=>⟨[],trivial,rfl,fun v h=>by simp at h⟩
 | v :: vs,[],t=>by have:=t.len; simp at this
 | v :: vs,k :: ks,t=>by
  obtain ⟨fs,a,b,c⟩:=zdU (vs:=vs) (ks:=ks) ⟨by have:=t.len; simpa using this,fun i v e=>by
   have:=t.at' (i + 1) v (by simpa using e)
   simpa using this⟩
  obtain ⟨x,o,xs,m,tk,rfl,e2,e3,e4,e5⟩:=t.at' 0 v rfl
  exact ⟨_ :: fs,⟨⟨x,o,xs,m,rfl,e2,e3,e4,e5⟩,a⟩,by simp [b],fun v hv=>by
   rcases Wg.mp hv with rfl | hv
   ·exact ⟨_,_,rfl⟩
   ·exact c v hv⟩
section
variable {prog:Wk} {w:Wp} {A:Wn} {E:Value→W2→Prop} {s:W2} {vs:List Value} {ks:List Tx}
theorem zfn (t:TupK s.heap vs ks) (nd:ks.Nodup) (hi:i < vs.length) (hj:j < vs.length) (ne:i≠j) (h:C (decide (ks.getD i [] < ks.getD j [])) s):kas_ask prog w A (tuples' true) vs i j C s:=by
 obtain ⟨a,o,xs,m,tk,e1,e2,e3,e4,e5⟩:=t.at' i vs[i] (by simp [hi])
 obtain ⟨b,p,ys,n,tl,f1,f2,f3,f4,f5⟩:=t.at' j vs[j] (by simp [hj])
 unfold kas_ask
 rw [Qi,Qi,Wo hi,Wo hj]
 simp only [QN]
 rw [e1,f1]
 refine kat_lt e2 e4 f2 f4 ?_
 have hx:∃ r,xs.toList = .str (toS (ks.getD i [])) tk :: r:=by
  have:xs.toList[0]? = some (.str (toS (ks.getD i [])) tk):=by simpa using e5
  cases z:xs.toList with
  | nil=>rw [z] at this; simp at this
  | cons u r=>rw [z] at this; simp at this; exact ⟨r,by rw [this]; simp⟩
 have hy:∃ r,ys.toList = .str (toS (ks.getD j [])) tl :: r:=by
  have:ys.toList[0]? = some (.str (toS (ks.getD j [])) tl):=by simpa using f5
  cases z:ys.toList with
  | nil=>rw [z] at this; simp at this
  | cons u r=>rw [z] at this; simp at this; exact ⟨r,by rw [this]; simp⟩
 obtain ⟨r,hr⟩:=hx
 obtain ⟨q,hq⟩:=hy
 rw [hr,hq,List.zip_cons_cons]
 have hki:i < ks.length:=by rw [t.len]; exact hi
 have hkj:j < ks.length:=by rw [t.len]; exact hj
 have hne:(toS (ks.getD i []) == toS (ks.getD j []))=false:=by
  rw [beq_eq_false_iff_ne]
  intro z
  have z:=z5D z
  rw [Qi,Qi,Wo hki,Wo hkj] at z
  exact ne ((List.getElem_inj nd).mp z)
 refine kat_cons (eqBool_str ?_)
 rw [hne]
 refine kat_no (oneLt_str ?_)
 rw [z4P,z4P]
 exact h
theorem zcr (ho:s.heap.get? a=some (WE "list" vs.toArray n)) (t:TupK s.heap vs ks) (nd:ks.Nodup) (h2:2≤vs.length) (h64:vs.length < 64)
  (h:P (.done (.ret .none)) { s with heap:=sortedHeap s.heap a vs (Jq ((ordK ks).map fun i=>vs.getD i Value.none)) }):W8 (model prog w) A (Builtin.«list.sort» ⟨[.ref a],[]⟩) P E s:=by
 have hlt:a < s.heap.objs.size:=We ho
 obtain ⟨e1,ho1⟩:∃ e1,(s.heap.update a (Obj.mapSeq fun _=>(#[]:Array Value))).get? a=some (WE "list" #[] e1):=⟨_,get?_update_seq ho fun _=>#[]⟩
 rw [list_sort_plain]
 refine W1 (listItems_at ho rfl (W1 (listUpdate_at ho rfl (W1 (seqEpoch_at ho1 rfl (W1 (wpAny_newTuple (W1 (wpAny_newList (WR ?_) (WY _))) (by show vs.length≤_; rw [WO]; omega))))) (by rw [Wd,WO]; omega) (WY _))))
 show W8 (model prog w) A _ P E { s with heap:=((s.heap.update a (Obj.mapSeq fun _=>(#[]:Array Value))).push (WE "tuple" vs.toArray 0)).push (WE "list" #[] 0) }
 have h6:(((s.heap.update a (Obj.mapSeq fun _=>(#[]:Array Value))).push (WE "tuple" vs.toArray 0)).push (WE "list" #[] 0)).get? a=some (WE "list" #[] e1):=W4 _ (W4 _ ho1)
 have t6:TupK (((s.heap.update a (Obj.mapSeq fun _=>(#[]:Array Value))).push (WE "tuple" vs.toArray 0)).push (WE "list" #[] 0)) vs ks:=t.keeps fun b o e c=>by
  have nb:b≠a:=fun z=>by
   rw [z,ho] at e
   cases e
   exact absurd (Value.type.inj c) (by decide)
  refine W4 _ (W4 _ ?_)
  rw [WP _ _ (Ne.symm nb)]
  exact e
 dsimp only
 have hn2:¬ vs.toArray.size < 2:=by rw [Wd]; omega
 rw [if_neg hn2,if_neg hn2]
 obtain ⟨fs,kt,fl,ft⟩:=zdU t6
 refine W1 (kat_kind (s:={ s with heap:=((s.heap.update a (Obj.mapSeq fun _=>(#[]:Array Value))).push (WE "tuple" vs.toArray 0)).push (WE "list" #[] 0) }) (T:=.type "str") kt (by omega) (fun v hv=>by obtain ⟨x,tk,rfl⟩:=ft v hv; exact .now) rfl ?_)
 refine W1 (WU (kat_run (s:={ s with heap:=((s.heap.update a (Obj.mapSeq fun _=>(#[]:Array Value))).push (WE "tuple" vs.toArray 0)).push (WE "list" #[] 0) }) (κ:=tuples' true) (ks:=vs) (vs:=vs) (E:=E)
  (G:=fun p s'=>p.toList=ordK ks∧s' = { s with heap:=((s.heap.update a (Obj.mapSeq fun _=>(#[]:Array Value))).push (WE "tuple" vs.toArray 0)).push (WE "list" #[] 0) })
  (Q:=fun st' s'=>(arrOf st').map (·.2)=Jq ((ordK ks).map fun i=>vs.getD i Value.none)∧failedOf st'=none∧s' = { s with heap:=((s.heap.update a (Obj.mapSeq fun _=>(#[]:Array Value))).push (WE "tuple" vs.toArray 0)).push (WE "list" #[] 0) })
  rfl h2 h64 (fun p st' s' a1 a2 a3 a4=>⟨by rw [kat_snds rfl a2,a4.1],a3,a4.2⟩) ?_) ?_ fun _ _ e=>e)
 ·refine Good.wp (n:=vs.length) (lt:=fun i j=>decide (ks.getD i [] < ks.getD j [])) (R:=fun _=>True) (fun i j hi hj ne C hC=>zfn t6 nd hi hj ne hC) ((z83 h2).mono fun _ _=>trivial) ⟨?_,rfl⟩
  unfold ordK
  rw [t.len]
 ·rintro ⟨⟨⟩,st'⟩ s' ⟨q1,q2,rfl⟩
  dsimp only at q1 q2 ⊢
  have hz:((ordK ks).map fun i=>vs.getD i Value.none).length=vs.length:=by
   rw [WC,(z2U (ks:=ks) (by rw [t.len]; exact h2)).length_eq,List.length_range,t.len]
  rw [q1]
  refine W1 (seqEpoch_at h6 rfl (W1 (listUpdate_at h6 rfl ?_ (WY _) (by rw [Wd,hz,WO]; omega))))
  rw [q2]
  simp only [bne_self_eq_false,Jp,if_false]
  exact Wc h
theorem z9G (hl:s.heap.IsList l vs.toArray) (t:TupK s.heap vs ks) (nd:ks.Nodup) (h2:2≤vs.length) (h64:vs.length < 64)
  (h:Q (.ref (s.heap.objs.size + 1)) { s with heap:=sortedAll s.heap vs (Jq ((ordK ks).map fun i=>vs.getD i Value.none)) }):W8 (model prog w) A (call (.builtin "sorted") [.ref l]) Q E s:=by
 refine Calls.call_function_entry kind_sorted plain_sorted entry_sorted (args_sorted1 _) ?_
 unfold Builtin.«sorted»
 refine W1 (m:=checkCount "sorted" 1 1 _) (Wc (W1 (collect_list hl (W1 (wpAny_newList ?_ (by rw [WO]; omega))) (by rw [WO]; omega))))
 have hz:((s.heap.push (WE "list" #[] 0)).update s.heap.objs.size (Obj.mapSeq (· ++ vs.toArray))).objs.size=s.heap.objs.size + 1:=by rw [Heap.size_update,size_push']
 have hoL:(((s.heap.push (WE "list" #[] 0)).update s.heap.objs.size (Obj.mapSeq (· ++ vs.toArray))).push (WE "list" vs.toArray 0)).get? (s.heap.objs.size + 1)=some (WE "list" vs.toArray 0):=by
  rw [← hz]; exact Wi _ rfl
 have t2:TupK (((s.heap.push (WE "list" #[] 0)).update s.heap.objs.size (Obj.mapSeq (· ++ vs.toArray))).push (WE "list" vs.toArray 0)) vs ks:=t.keeps fun b o e _=>by
  have hb:b < s.heap.objs.size:=We e
  refine W4 _ ?_
  rw [WP _ _ (Jh hb)]
  exact W4 _ e
 show W8 _ _ _ _ _ { s with heap:=((s.heap.push (WE "list" #[] 0)).update s.heap.objs.size (Obj.mapSeq (· ++ vs.toArray))).push (WE "list" vs.toArray 0) }
 rw [hz]
 refine W1 (WR (QK slot_list_sort ⟨_,hoL,rfl⟩ entry_list_sort (zcr (s:={ s with heap:=((s.heap.push (WE "list" #[] 0)).update s.heap.objs.size (Obj.mapSeq (· ++ vs.toArray))).push (WE "list" vs.toArray 0) }) hoL t2 nd h2 h64 ⟨_,rfl,?_⟩) (args_list_sort _)))
 exact Wc ⟨_,rfl,h⟩
end
theorem Vals.at2 {vs:List V} {its:List Value} {i:Nat} {v:V} {u:Value} (r:Vals vs its) (e1:vs[i]? = some v) (e2:its[i]? = some u):RelV v u:=by
 obtain ⟨u',e,q⟩:=Vals.get r e1
 rw [e2] at e; cases e; exact q
theorem Vals.pick {vs:List V} {its:List Value} (r:Vals vs its):∀ is:List Nat,(∀ i ∈ is,i < vs.length)→Vals (is.map fun i=>vs.getD i .non) (is.map fun i=>its.getD i Value.none)
 | [],_=>.nil
 | i :: is,h=>by
  refine .cons ?_ (Vals.pick r is fun j hj=>h j (Wl _ hj))
  have hi:=h i Wy
  have hl:=r.length
  have e1:vs.getD i .non=vs[i]:=by simp [hi]
  have e2:its.getD i Value.none=its[i]'(by omega):=by simp [show i < its.length by omega]
  show RelV (vs.getD i .non) (its.getD i Value.none)
  rw [e1,e2]
  exact Vals.at2 (i:=i) r (Wo hi) (Wo (by omega))
section
variable {X:Cx}
theorem zae:CallR X (.builtin "sorted") (fun xs H Q=>∃ (a:Addr) (vs:List V) (ks:List Tx),xs=[.ref a]∧SqL X.K H a vs∧ks.length=vs.length∧(∀ (i:Nat) v,vs[i]? = some v→∃ b ws,v = .ref b∧H b=some (.tup ws)∧ws[0]? = some (.str (toS (ks.getD i []))))∧ks.Nodup∧2≤vs.length∧vs.length < 64 ∧
  ∀ p,H p=none→Q (.ref p) (upd H p (.lst ((ordK ks).map fun i=>vs.getD i .non)))):=by
 intro pins s σ H xs us Q I r h
 obtain ⟨a,vs,ks,rfl,hq,hlen,ht,nd,h2,h64,q⟩:=h
 obtain ⟨u,rfl,ru⟩:=z3F r
 cases ru
 obtain ⟨its,r',p,_⟩:=I.list hq
 have hl:=r'.length
 have t:TupK s.heap its ks:=⟨by omega,fun i v e=>by
  have hi:i < its.length:=(Wa.mp e).1
  have hv:vs[i]? = some (vs[i]'(by omega)):=by simp [show i < vs.length by omega]
  have rv:=Vals.at2 r' hv e
  obtain ⟨b,ws,eb,hb,h0⟩:=ht i _ hv
  rw [eb] at rv
  obtain rfl:v=Value.ref b:=rv
  obtain ⟨_,its',r2,n,eo⟩:=(show ObjOk X.prog X.w H s.heap b (.tup ws) from I.hok b _ hb)
  have hl2:=r2.length
  have hw0:0 < ws.length:=(Wa.mp h0).1
  have r0:=Vals.at2 r2 h0 (show its'[0]? = some (its'[0]'(by omega)) by simp [show 0 < its'.length by omega])
  obtain ⟨tk,e0⟩:=(show ∃ tk,its'[0]'(by omega)=Value.str (toS (ks.getD i [])) tk from r0)
  exact ⟨b,_,its'.toArray,n,tk,rfl,eo,rfl,rfl,by rw [← e0]; simp [show 0 < its'.length by omega]⟩⟩
 refine z9G p.isList t nd (by omega) (by omega) ?_
 have hp:=z2U (ks:=ks) (by omega)
 have hlo:((ordK ks).map fun i=>vs.getD i V.non).length=vs.length:=by rw [WC,hp.length_eq,List.length_range,hlen]
 obtain ⟨e,he⟩:=sortedAll_at s.heap its (Jq ((ordK ks).map fun i=>its.getD i Value.none))
 have I1:Inv X pins σ (upd H (s.heap.objs.size + 1) (.lst ((ordK ks).map fun i=>vs.getD i .non))) { s with heap:=sortedAll s.heap its (Jq ((ordK ks).map fun i=>its.getD i Value.none)) } :=
  I.laid (t':=s.toks) (fun b o z=>sortedAll_old z) (Qs _) (show ObjOk X.prog X.w _ _ _ (.lst ((ordK ks).map fun i=>vs.getD i .non)) from ⟨by rw [hlo,WO]; omega,(ordK ks).map fun i=>its.getD i Value.none,e,r'.pick _ fun i hi=>by
   have:=hp.mem_iff.mp hi
   simp at this
   omega,he⟩)
 exact ⟨.ref _,_,I1,rfl,q _ (I.hok.fresh (Qs _))⟩
end
end L2
namespace DV
open PySem PySem.Spec PyProof.Rows L2
def z7X:List D→Option (List Tx)
 | []=>some []
 | .tup (.str x :: _) :: r=>(z7X r).map (x :: ·)
 | _ :: _=>none
theorem z9b:∀ {ds:List D} {ks:List Tx},z7X ds=some ks→ks.length=ds.length∧∀ (i:Nat) d,ds[i]? = some d→∃ r,d = .tup (.str (ks.getD i []) :: r)
 | [],ks,h=>by cases h; exact ⟨rfl,fun i d e=>by simp at e⟩
 | d :: r,ks,h=>by
  unfold z7X at h
  split at h
  ·rename_i e; cases e
  ·rename_i x q r' e
   cases e
   cases e:z7X r with
   | none=>rw [e] at h; cases h
   | some ks' =>
    rw [e] at h
    cases h
    obtain ⟨h1,h2⟩:=z9b e
    refine ⟨by simp [h1],fun i d' e'=>?_⟩
    cases i with
    | zero=>simp at e'; subst e'; exact ⟨q,by simp⟩
    | succ i=>simpa using h2 i d' (by simpa using e')
  ·cases h
def ndT:List Tx→Bool
 | []=>true
 | x :: r=>!r.contains x && ndT r
theorem zdR:∀ {ks:List Tx},ndT ks=true→ks.Nodup
 | [],_=>.nil
 | x :: r,h=>by
  simp only [ndT,Wf,QE,List.contains_iff_mem,← Bool.not_eq_true] at h
  exact List.nodup_cons.mpr ⟨by simpa using h.1,zdR h.2⟩
def z7J:D→Option S
 | .lst ds=>match z7X ds with
  | some ks=>if 2≤ks.length∧ks.length < 64∧ndT ks=true then some (.own (.lst ((ordK ks).map fun i=>ds.getD i .non))) else none
  | none=>none
 | _=>none
section
variable {X:Cx} {c:Fc} {e:Expr} {fb:BE} {pp pos:Pos}
theorem Reps.pick (r:Reps H O vs ds):∀ is:List Nat,(∀ i ∈ is,i < vs.length)→Reps H O (is.map fun i=>vs.getD i .non) (is.map fun i=>ds.getD i .non)
 | [],_=>.nil
 | i :: is,h=>by
  have hi:=h i Wy
  have hl:=r.1
  refine .cons (r.2 i _ _ ?_ ?_) (Reps.pick r is fun j hj=>h j (Wl _ hj))
  ·simp [hi]
  ·simp [show i < ds.length by omega]
theorem zcY {K:W0}:Op1 (fun v H Q=>∃ (a:Addr) (vs:List V) (ks:List Tx),v = .ref a∧SqL K H a vs∧ks.length=vs.length∧(∀ (i:Nat) v,vs[i]? = some v→∃ b ws,v = .ref b∧H b=some (.tup ws)∧ws[0]? = some (.str (toS (ks.getD i []))))∧ks.Nodup∧2≤vs.length∧vs.length < 64 ∧
  ∀ p,H p=none→Q (.ref p) (upd H p (.lst ((ordK ks).map fun i=>vs.getD i .non)))) z7J :=
 fun c σ δ H x d s Q k rx hp q=>by
  cases d with
  | lst ds =>
   simp only [z7J] at hp
   cases e:z7X ds with
   | none=>rw [e] at hp; cases hp
   | some ks =>
    rw [e] at hp
    simp only at hp
    split at hp
    ·rename_i hh
     cases hp
     obtain ⟨h1,h2⟩:=z9b e
     obtain ⟨a,vs,ea,ha,ra⟩:=rx.lst
     have hl:=ra.1
     refine ⟨a,vs,ks,ea,.inl ha,by omega,fun i v ev=>?_,zdR hh.2.2,by omega,by omega,fun p hp=>?_⟩
     ·have hi:i < vs.length:=(Wa.mp ev).1
      have hd:ds[i]? = some (ds[i]'(by omega)):=by simp [show i < ds.length by omega]
      obtain ⟨r,er⟩:=h2 i _ hd
      have rv:=ra.2 i v _ ev hd
      rw [er] at rv
      cases rv with
      | @tup b ws _ _ hb hlen hat =>
       have h0:0 < ws.length:=by rw [hlen]; simp
       have r0:=hat 0 (ws[0]'h0) (.str (ks.getD i [])) (by simp [h0]) rfl
       refine ⟨b,ws,rfl,hb,?_⟩
       generalize hz:ws[0]'h0=z at r0
       cases r0
       rw [Wo h0,hz]
     ·refine q _ _ (.alloc k hp _) (RepS.newL k (Reps.pick ra _ fun i hi=>?_) hp)
      have:=(z2U (ks:=ks) hh.1).mem_iff.mp hi
      simp at this
      omega
    ·cases hp
  | _=>simp [z7J] at hp
end
section
variable {X:Cx} {c:Fc} {e:Expr} {fe:DE} {fb:BE} {pos:Pos}
end
section
variable {X:Cx}
end
section
variable {X:Cx} {c:Fc} {e:Expr} {fb:BE}
end
def popL (δ:Dl) (i:Nat) (k:Int):Rs S:=match δ[i]? with
 | some (some (.own (.lst ds)))=>if 0≤k∧ds.length < 1000000 then (match ds[k.toNat]? with
  | some d=>.ok (.pure d) (δ.set i (some (.own (.lst (ds.eraseIdx k.toNat)))))
  | none=>.stuck) else .stuck
 | _=>.stuck
def ePop (i:Nat) (f:DE):DE:=fun δ=>if z2u δ i then (f δ).bind fun r δ1=>match r with
 | .pure (.int k)=>popL δ1 i k
 | _=>.stuck else .stuck
section
variable {X:Cx} {c:Fc} {e:Expr} {fe:DE}
theorem zb4 (h:post c (popL δ i k) kk):∃ ds d,δ[i]? = some (some (.own (.lst ds)))∧0≤k∧ds.length < 1000000∧ds[k.toNat]? = some d∧kk (.pure d) (δ.set i (some (.own (.lst (ds.eraseIdx k.toNat))))):=by
 unfold popL at h
 split at h
 ·rename_i ds e
  split at h
  ·rename_i hk
   split at h
   ·rename_i d e2
    exact ⟨ds,d,e,hk.1,hk.2,e2,h⟩
   ·exact h.elim
  ·exact h.elim
 ·exact h.elim
theorem Reps.erase (h:Reps H O vs ds) (j:Nat):Reps H O (vs.eraseIdx j) (ds.eraseIdx j):=by
 rw [List.eraseIdx_eq_take_drop_succ,List.eraseIdx_eq_take_drop_succ]
 exact (h.take j).append (h.drop (j + 1))
theorem zfE (ho:PE X o (tVar i)) (he:SE X c e fe)
  (hbase:Qa o "pop" X.env (eval o X.env)=eval o X.env:=by rfl)
  (hfew:((WJ cpos (W5 [e] X.env)).all (fun x=>!x.1) && (backToKw cpos (QX [] X.env)).all (fun x=>x.1.isSome)
   && decide ([e].length + ([]:List Keyword).length + (if ([]:List Keyword).isEmpty then 0 else 1) < 30))=true:=by rfl)
  (hline:(apos.endLine == cpos.line)=true:=by rfl) (hs:W5 [e] X.env=(false,eval e X.env) :: W5 [] X.env:=by rfl):SE X c (.Call (.Attribute o "pop" apos) [e] [] cpos) (ePop i fe) :=
 PE.weak (zbb QQ PySem.F.slot_list_pop PySem.F.type_list_pop zd3 ho (z0V he z23 hs) hbase hfew hline hs rfl) fun σ H Q ⟨δ,k,q⟩=>by
  unfold ePop at q
  split at q
  ·rename_i hown
   obtain ⟨ds0,e0⟩:=z4E hown
   rw [z01] at q
   obtain ⟨a,ea,oa,_⟩:=k.own i _ e0
   refine ⟨.ref a,ea,?_,δ,k,z00 q fun r δ1 q1 v H1 a1 r1=>?_⟩
   ·obtain ⟨vs,ha,_⟩:=oa
    exact .inl ⟨rfl,vs,.of ha⟩
   ·split at q1
    ·rename_i m
     obtain ⟨ds,d,e1,hm,hl,e2,q2⟩:=zb4 q1
     obtain ⟨a',ea',oa1,_⟩:=a1.ok.own i _ e1
     rw [ea] at ea'; cases ea'
     obtain ⟨vs,ha,ra⟩:=id oa1
     have ev:v = .int m:=by cases (show Rep H1 _ v (.int m) from r1); rfl
     subst ev
     obtain ⟨y,hy,ry⟩:=ra.get e2
     have hlt:m.toNat < vs.length:=(Wa.mp hy).1
     have hlv:vs.length < 1000000:=by rw [ra.1]; exact hl
     have A2:=Ok.mutL a1.ok e1 ea (ra.erase m.toNat)
     refine ⟨a,vs,m,m.toNat,y,rfl,rfl,ha,by omega,by omega,?_,hy,q2 y _ (a1.trans A2) (Rep.aft ry A2)⟩
     exact PySem.StrLaws.seqIndex_nonneg hm (by omega)
    ·exact q1.elim
  ·exact q.elim
end
def lfree:Nat→D→Bool
 | 0,_=>false
 | n + 1,d=>match d with
  | .non | .bl _ | .int _ | .str _=>true
  | .tup xs=>xs.all (lfree n)
  | .xd fs=>fs.all fun p=>lfree n p.2
  | _=>false
section
variable {H H':Hp} {O:Addr→Prop} {v:V} {a:Addr} {us:List V}
theorem Rep.lfree:∀ (n:Nat) {d:D} {v:V},DV.lfree n d=true→H a=some (.lst us)→Rep H O v d→Rep H (fun b=>O b∨b=a) v d
 | 0,_,_,h,_,_=>by simp [DV.lfree] at h
 | n + 1,_,_,h,ha,r=>by
  cases r with
  | non=>exact .non
  | bl b=>exact .bl b
  | int i=>exact .int i
  | str x=>exact .str x
  | @tup b vs ds h1 h2 h3 h4 =>
   simp only [DV.lfree,WB] at h
   exact .tup (fun z=>z.elim h1 fun e=>by rw [e,ha] at h2; cases h2) h2 h3 fun i v d e1 e2=>Rep.lfree n (h d (Wr e2)) ha (h4 i v d e1 e2)
  | lst=>simp [DV.lfree] at h
  | dct=>simp [DV.lfree] at h
  | exc=>simp [DV.lfree] at h
  | @xd x fs ds h1 h2 h3 h4 =>
   simp only [DV.lfree,WB] at h
   exact .xd (fun z=>z.elim h1 fun e=>by rw [e,ha] at h2; cases h2) h2 h3 fun i p q e1 e2=>Rep.lfree n (h q (Wr e2)) ha (h4 i p q e1 e2)
end
section
variable {c:Fc} {σ:St} {δ δ1:Dl} {H H1:Hp} {i:Nat} {ds:List D} {g:Xc→Dl→Prop}
theorem z5O (hno:z6q (δ.set i none)=true) (e:δ[j]? = some (some (.own d))):j=i:=by
 by_cases hj:i=j
 ·exact hj.symm
 ·have e':(δ.set i none)[j]? = some (some (.own d)):=by rw [W3 hj]; exact e
  have:=WB.mp hno _ (Wr e')
  cases this
theorem zd7 (hno:z6q (δ.set i none)=true) (b:Addr):¬ Own σ (δ.set i (some (.pure (.lst ds)))) b:=fun ⟨j,d,e1,e2⟩=>by
 by_cases hj:i=j
 ·subst hj
  rw [Wx] at e1
  simp at e1
 ·rw [W3 hj] at e1
  exact hj (z5O hno e1).symm
theorem Ok.loan (k:Ok c σ δ H) (e:δ[i]? = some (some (.own (.lst ds)))) (hno:z6q (δ.set i none)=true):Ok ⟨H,c.B,[],g⟩ σ (δ.set i (some (.pure (.lst ds)))) H:=by
 have nI:∀ a,¬ (⟨H,c.B,[],g⟩:Fc).I a:=fun a ⟨j,z⟩=>by simp at z
 have av:∀ b,Av ⟨H,c.B,[],g⟩ σ (δ.set i (some (.pure (.lst ds)))) b→c.B b:=fun b z=>z.elim id fun z=>absurd z (zd7 hno b)
 refine ⟨fun _ _ e _=>e,k.bd,fun a z=>absurd z (nI a),by simp [k.len],fun j d ej=>?_,fun j d ej=>?_,fun j1 j2 a d d' e1 e2 e3 e4=>?_,fun p z=>by simp at z⟩
 ·by_cases hj:i=j
  ·subst hj
   rw [Wx] at ej
   have hi:i < δ.length:=(Wa.mp e).1
   simp [hi] at ej
   subst ej
   obtain ⟨a,ea,oa,_,nb⟩:=k.own i _ e
   exact ⟨.ref a,ea,(oa.anti fun b z=>.inl (.inl (av b z))).rep fun z=>nb (av a z)⟩
  ·rw [W3 hj] at ej
   obtain ⟨v,ev,r⟩:=k.slot j d ej
   exact ⟨v,ev,r.anti fun b z=>.inl (.inl (av b z))⟩
 ·by_cases hj:i=j
  ·subst hj
   rw [Wx] at ej
   simp at ej
  ·rw [W3 hj] at ej
   exact absurd (z5O hno ej).symm hj
 ·by_cases hj:i=j1
  ·subst hj
   rw [Wx] at e1
   simp at e1
  ·rw [W3 hj] at e1
   exact absurd (z5O hno e1).symm hj
theorem Ok.unloan (k:Ok c σ δ H) (e:δ[i]? = some (some (.own (.lst ds)))) (hno:z6q (δ.set i none)=true) (k1:Ok ⟨H,c.B,[],g⟩ σ δ1 H1):Aft c σ δ H σ δ H1:=by
 have kp:∀ b o,H b=some o→H1 b=some o:=fun b o eb=>k1.keep b o eb fun ⟨j,z⟩=>by simp at z
 refine ⟨⟨fun a o ea n=>kp a o (k.keep a o ea n),fun a z=>(k.bd a z).elim fun o eo=>⟨o,kp a o eo⟩,fun a z=>(k.ith a z).elim fun o eo=>⟨o,kp a o eo⟩,k.len,fun j d ej=>?_,fun j d ej=>?_,k.inj,k.pinned⟩,fun b o eb _=>kp b o eb,fun b z=>.inl z,fun b o eb=>⟨o,kp b o eb⟩⟩
 ·obtain ⟨v,ev,r⟩:=k.slot j d ej
  exact ⟨v,ev,r.keep fun a o ea _=>kp a o ea⟩
 ·obtain ⟨a,ea,oa,q⟩:=k.own j d ej
  exact ⟨a,ea,oa.keep (fun b o eb _=>kp b o eb) fun o eo=>kp a o eo,q⟩
theorem Ok.unloanV (k:Ok c σ δ H) (e:δ[i]? = some (some (.own (.lst ds)))) (hno:z6q (δ.set i none)=true) (k1:Ok ⟨H,c.B,[],g⟩ σ δ1 H1) (hn:lfree n d=true)
  (r:Rep H1 (Av ⟨H,c.B,[],g⟩ σ δ1) v d):Rep H1 (Av c σ δ) v d:=by
 obtain ⟨a,ea,⟨vs,ha,_⟩,_⟩:=k.own i _ e
 have h1:H1 a=some (.lst vs):=k1.keep a _ ha fun ⟨j,z⟩=>by simp at z
 refine (Rep.lfree n hn h1 r).anti fun b z=>.inl ?_
 rcases z with z | ⟨j,d',e1,e2⟩
 ·exact .inl (.inl z)
 ·have hj:=z5O hno e1
  subst hj
  rw [ea] at e2; cases e2
  exact .inr rfl
end
def z89 (i:Nat) (G:DX) (as:List Ak):DE:=fun δ=>match δ[i]? with
 | some (some (.own (.lst ds)))=>if z6q (δ.set i none) then (match z6c G as (δ.set i (some (.pure (.lst ds)))) with
   | .ok (.pure d) _=>if lfree 9 d then .ok (.pure d) δ else .stuck
   | .exc x _=>if lfree 9 x.flds then .exc x δ else .stuck
   | _=>.stuck) else .stuck
 | _=>.stuck
section
variable {X:Cx} {c:Fc} {e:Expr} {es:List Expr} {as:List Ak} {k n i:Nat} {x:Str} {G:DX} {pp pos:Pos}
theorem zcq (h:spX mg n G vs H Q E) (hQ:∀ v H,Q v H→Q' v H) (hE:∀ c dx H,E c dx H→E' c dx H):spX mg n G vs H Q' E':=by
 obtain ⟨ss,B,hl,k,y,hy,q⟩:=h
 refine ⟨ss,B,hl,k,y,hy,?_⟩
 cases y with
 | inl y=>exact fun v H' a r=>hQ _ _ (q v H' a r)
 | inr y=>exact fun C dx v H' h1 h2 h3 h4=>hE _ _ _ (q C dx v H' h1 h2 h3 h4)
theorem zed (h:tX c as σ H Q) (hQ:∀ v H,Q v H→Q' v H):tX c as σ H Q':=by
 obtain ⟨δ,k,hio,q⟩:=h
 exact ⟨δ,k,hio,z00 q fun ds δ1 q1 vs H1 a r=>hQ _ _ (q1 vs H1 a r)⟩
theorem zcw (F:KFnX X.prog X.w X.K X.mg X.base k x n G) (hK:z9y G) (hr:Room k X.A) (hex:X.ex=[]) (hx:XOk X (wD X.mg c)) (hg:Gl X x) (ha:∀ c,SX X c (e :: es) as) (hl:as.length=n) (hdb:(x == ("__debug__" : Str))=false:=by decide)
  (he:W5 (e :: es) X.env=(false,eval e X.env) :: W5 es X.env:=by rfl) (hpl:(WJ pos (W5 es X.env)).any (·.1)=false:=by rfl):SE X c (.Call (.Name x pp) (e :: es) [] pos) (z89 i G as):=by
 obtain ⟨f,fd,ps,hm,hk,hb,ok⟩:=F
 have ha':PA X (e :: es) (fun σ H Q=>∃ c',tX c' as σ H Q):=fun pos pins s σ H Q I ⟨c',h⟩=>ha c' pos pins s σ H Q I h
 refine PE.weak (zcQ ok hr hex hg hm hk hb hx ha' hdb he hpl) fun σ H Q ⟨δ,kk,q⟩=>?_
 unfold z89 at q
 split at q
 ·rename_i ds e0
  split at q
  ·rename_i hno
   let c':Fc:=⟨H,c.B,[],fun z _=>lfree 9 z.flds=true∧c.xc z δ⟩
   have k0:Ok c' σ (δ.set i (some (.pure (.lst ds)))) H:=kk.loan e0 hno
   let Q':VK:=fun v H1=>Q v H1
   have h0:tD c' (z6c G as) σ H Q:=by
    refine ⟨_,k0,?_⟩
    cases er:z6c G as (δ.set i (some (.pure (.lst ds)))) with
    | stuck=>rw [er] at q; exact q.elim
    | exc z δ1 =>
     rw [er] at q
     simp only at q
     split at q
     ·rename_i hn
      exact ⟨hn,q⟩
     ·exact q.elim
    | ok r δ1 =>
     rw [er] at q
     cases r with
     | own d=>exact q.elim
     | pure d =>
      simp only at q
      split at q
      ·rename_i hn
       intro v H1 a1 r1
       exact q v H1 (kk.unloan e0 hno a1.ok) (kk.unloanV e0 hno a1.ok hn r1)
      ·exact q.elim
   refine ⟨c',zed (zag (X:=X) hK hl h0) fun vs H1 h1=>zcq h1 (fun _ _ z=>z) fun cc dx H2 ⟨C,hC,z,δ1,v,hm,k1,rv,hv,hn,hw⟩=>?_⟩
   exact ⟨C,hC,z,δ,v,hm,(kk.unloan e0 hno k1).ok,kk.unloanV e0 hno k1 hn rv,hv,hw⟩
  ·exact q.elim
 ·exact q.elim
end
def z2T (σ:St) (i:Nat):List (Nat×Addr):=match σ[i]? with
 | some (some (.ref a))=>[(i,a)]
 | _=>[]
def z8c (ce:Tx→Nat) (ys:List Tx) (i i0:Nat) (fb fh:DS):DS:=fun δ=>if z6q (δ.set i0 none) && z2u δ i0 then match fb δ with
  | .exc x δ'=>if ys.contains x.cls && decide (i < δ'.length) then unset i (fh (δ'.set i (some (.pure (.exc (ce x.cls) x.flds))))) else .stuck
  | r=>r
 else .stuck
section
variable {c:Fc} {σ σ':St} {δ δ':Dl} {H H':Hp} {B':Addr→Prop} {g:Xc→Dl→Prop} {i0:Nat} {a:Addr} {ds:List D}
theorem zd1 (σ:St) (i:Nat):Np ⟨H,B,z2T σ i,g⟩ [i]:=fun p hp=>by
 have hp:p ∈ z2T σ i:=hp
 unfold z2T at hp
 split at hp
 ·simp at hp; subst hp; simp
 ·simp at hp
theorem z6Y (ea:σ[i0]? = some (some (.ref a))):z2T σ i0=[(i0,a)]:=by unfold z2T; rw [ea]
theorem zb5 (ea:σ[i0]? = some (some (.ref a))) (e:δ[i0]? = some (some (.own (.lst ds)))) (h:(⟨H,B,z2T σ i0,g⟩:Fc).I b):Own σ δ b:=by
 obtain ⟨j,z⟩:=h
 have z:(j,b) ∈ z2T σ i0:=z
 rw [z6Y ea] at z
 simp at z
 obtain ⟨rfl,rfl⟩:=z
 exact ⟨_,_,e,ea⟩
theorem Ok.inTryO (k:Ok c σ δ H) (hno:z6q (δ.set i0 none)=true) (e:δ[i0]? = some (some (.own (.lst ds)))):Ok ⟨H,c.B,z2T σ i0,g⟩ σ δ H:=by
 obtain ⟨a,ea,oa,_⟩:=id (k.own i0 _ e)
 refine ⟨fun _ _ e _=>e,k.bd,fun b z=>k.othere (zb5 ea e z),k.len,k.slot,fun j d ej=>?_,k.inj,fun p z=>?_⟩
 ·have hj:=z5O hno ej
  subst hj
  obtain ⟨a',ea',oa',_,nb⟩:=k.own j d ej
  rw [ea] at ea'; cases ea'
  exact ⟨a,ea,oa',.inl ⟨j,by rw [show (⟨H,c.B,z2T σ j,g⟩:Fc).pin=z2T σ j from rfl,z6Y ea]; simp⟩,nb⟩
 ·have z:p ∈ z2T σ i0:=z
  rw [z6Y ea] at z
  simp at z
  subst z
  exact ea
theorem Ok.outTryO (k:Ok c σ δ H) (hp:c.pin=[]) (e:δ[i0]? = some (some (.own (.lst ds)))) (k':Ok ⟨H,B',z2T σ i0,g⟩ σ' δ' H'):Ok { c with B:=B' } σ' δ' H':=by
 have nI:∀ a,¬ c.I a:=fun a ⟨i,z⟩=>by rw [hp] at z; simp at z
 obtain ⟨a,ea,oa,qa,_⟩:=id (k.own i0 _ e)
 have h0:c.H₀ a=none:=qa.elim (fun z=>absurd z (nI a)) id
 have nI':∀ b,(⟨H,B',z2T σ i0,g⟩:Fc).I b→b=a:=fun b ⟨i,z⟩=>by
  have z:(i,b) ∈ z2T σ i0:=z
  rw [z6Y ea] at z
  simp at z
  exact z.2
 refine ⟨fun b o eb n=>k'.keep b o (k.keep b o eb n) fun z=>?_,k'.bd,fun a z=>absurd z (nI a),k'.len,k'.slot,fun i d e=>?_,k'.inj,fun p z=>by rw [show ({ c with B:=B' }:Fc).pin=c.pin from rfl,hp] at z; simp at z⟩
 ·rw [nI' b z,h0] at eb; cases eb
 ·obtain ⟨b,e1,r,q,nb⟩:=k'.own i d e
  refine ⟨b,e1,r,.inr ?_,nb⟩
  rcases q with q | q
  ·rw [nI' b q]; exact h0
  ·exact k.fresh₀ q
theorem Aft.outTryO (k:Ok c σ δ H) (hp:c.pin=[]) (e:δ[i0]? = some (some (.own (.lst ds)))) (x:Aft ⟨H,c.B,z2T σ i0,g⟩ σ δ H σ' δ' H'):Aft c σ δ H σ' δ' H':=⟨k.outTryO hp e x.ok,x.keep,x.own,x.there⟩
theorem RepS.outTryO (k:Ok c σ δ H) (hp:c.pin=[]) (e:δ[i0]? = some (some (.own (.lst ds)))) (h:RepS ⟨H,c.B,z2T σ i0,g⟩ σ' δ' H H' v r):RepS c σ' δ' c.H₀ H' v r:=by
 cases r with
 | pure d=>exact h
 | own d =>
  obtain ⟨a,ev,o,n,f,k',q⟩:=h
  exact ⟨a,ev,o,n,k.fresh₀ f,k.outTryO hp e k',k.fresh₀ f⟩
end
theorem zek (hex:X.ex=[]) (hnp:Np c []) (hst:X.stack=X.env :: X.outer) (hf:X.env.frame=some X.env.locals)
  (hN:X.N.Nodup) (hi:X.N[i]? = some n) (hl:X.env.scope.names.lookup n=some .local) (hg:Gl X x) (hm:X.mg x=some (.ref B)) (qB:ExcC X.K B)
  (hys:∀ y ∈ ys,X.mg (toS y)=some (.ref (ce y))∧PySem.W.mroIn X.K (ce y) (.ref B)=some true)
  (hb:∀ (c':Fc) (pn:List (Addr×Obj)) (xe:Value→W2→Prop),Np c' [i0]→XOk (X.wt pn xe) (wD X.mg c')→SSs (X.wt pn xe) c' body fb) (hh:∀ a,SSs (X.hand a) c (b₀ :: suite) fh) (hdb:(x == ("__debug__" : Str))=false:=by decide) :
  SS X c (.Try body [.ExceptHandler (some (.Name x np)) (some n) (b₀ :: suite) hpos] [] [] pos) (z8c ce ys i i0 fb fh):=by
 have hp:=zgy hnp
 refine PS.weak (zb1 (i:=i) (B:=B) (th:=fun _ _=>tDS c fh)
  (tb:=fun W D σ H=>tDS ⟨H,c.B,z2T σ i0,fun z δ'=>∀ σ' H',Ok ⟨H,c.B,z2T σ i0,fun _ _=>False⟩ σ' δ' H'→∀ C dx v,X.mg (toS z.cls)=some (.ref C)→Rep H' (Av ⟨H,c.B,z2T σ i0,fun _ _=>False⟩ σ' δ') v z.flds→(∀ y,v = .ref y→dx=some y)→W C dx σ' H'⟩ fb D σ H) hex hst hf hN hi hl hg hm qB hdb
  (fun W pn xe acc pins s σ H D I hw=>hb _ pn xe (zd1 σ i0) (fun ps σ' H' s' a C dx J co ⟨y,δ',v,hy,k',rv,hv,w'⟩=>acc ps σ' H' s' a C dx J co (w' σ' H' ⟨k'.keep,k'.bd,k'.ith,k'.len,k'.slot,k'.own,k'.inj,k'.pinned⟩ C dx v hy rv hv)) pins s σ H D I hw)
  (fun _ a=>hh a)) fun D σ H ⟨δ,k,q⟩=>?_
 unfold z8c at q
 split at q
 ·rename_i hno
  rw [Wf] at hno
  obtain ⟨hno,hw⟩:=hno
  obtain ⟨ds,e0⟩:=z4E hw
  obtain ⟨a0,ea0,oa0,_⟩:=id (k.own i0 _ e0)
  refine ⟨δ,k.inTryO hno e0,?_⟩
  unfold z1R at q ⊢
  cases e:fb δ with
  | stuck=>rw [e] at q; exact q.elim
  | ok fl δ' =>
   rw [e] at q
   intro σ' H' a
   have f0:=q σ' H' (Aft.outTryO k hp e0 a)
   cases fl with
   | next=>exact f0
   | brk=>exact f0
   | cont=>exact f0
   | ret r=>exact fun v rv=>f0 v (RepS.outTryO k hp e0 rv)
  | exc z δ' =>
   rw [e] at q
   simp only at q
   split at q
   ·rename_i hc
    simp only [Wf,decide_eq_true_eq] at hc
    obtain ⟨hy,hlt⟩:=hc
    intro σ' H' k' C dx v hC rv hv
    obtain ⟨y1,y2⟩:=hys z.cls (by simpa using hy)
    rw [y1] at hC
    cases hC
    refine ⟨y2,v,hv,fun a ha=>?_⟩
    have A1:Aft c σ δ H σ' δ' H':=Aft.outTryO k hp e0 (Ok.since (c:=⟨H,c.B,z2T σ i0,fun _ _=>False⟩) rfl (k.inTryO hno e0) (fun a z=>zb5 ea0 e0 z) k')
    have A2:=A1.trans (Aft.alloc A1.ok ha (.ext (excAt (ce z.cls) v a)))
    have A3:=Ok.set (i:=i) (v:=.ref a) (r:=.pure (.exc (ce z.cls) z.flds)) A2 (.exc (A1.ok.nav ha) z0t (Rep.aft rv (Aft.alloc A1.ok ha _))) (fun p zz=>by rw [hp] at zz; simp at zz)
    refine ⟨δ'.set i (some (.pure (.exc (ce z.cls) z.flds))),A3.ok,?_⟩
    unfold z1R
    generalize fh (δ'.set i (some (.pure (.exc (ce z.cls) z.flds))))=r at q
    cases r with
    | stuck=>exact q.elim
    | exc z' δ4=>exact q
    | ok fl δ4 =>
     intro σ4 H4 A4
     have f0:=q (σ4.set i none) H4 (Aft.unset (A3.trans A4) hp i)
     cases fl with
     | next=>exact f0
     | brk=>exact f0
     | cont=>exact f0
     | ret r=>exact fun v rv=>f0 v (RepS.unset hp i rv)
   ·exact q.elim
 ·exact q.elim
end DV
namespace L2
open PySem PySem.Spec PyProof.Rows PySem.W DV
section
variable {prog:Wk} {w:Wp} {A:Wn} {E:Value→W2→Prop} {s:W2} {vs:List Value}
theorem zcs (ho:s.heap.get? a=some (WE "list" vs.toArray n)) (h1:vs.length < 2)
  (h:P (.done (.ret .none)) { s with heap:=sortedHeap s.heap a vs vs.toArray }):W8 (model prog w) A (Builtin.«list.sort» ⟨[.ref a],[]⟩) P E s:=by
 obtain ⟨e1,ho1⟩:∃ e1,(s.heap.update a (Obj.mapSeq fun _=>(#[]:Array Value))).get? a=some (WE "list" #[] e1):=⟨_,get?_update_seq ho fun _=>#[]⟩
 rw [list_sort_plain]
 refine W1 (listItems_at ho rfl (W1 (listUpdate_at ho rfl (W1 (seqEpoch_at ho1 rfl (W1 (wpAny_newTuple (W1 (wpAny_newList (WR ?_) (WY _))) (by show vs.length≤_; rw [WO]; omega))))) (by rw [Wd,WO]; omega) (WY _))))
 show W8 (model prog w) A _ P E { s with heap:=((s.heap.update a (Obj.mapSeq fun _=>(#[]:Array Value))).push (WE "tuple" vs.toArray 0)).push (WE "list" #[] 0) }
 have h6:(((s.heap.update a (Obj.mapSeq fun _=>(#[]:Array Value))).push (WE "tuple" vs.toArray 0)).push (WE "list" #[] 0)).get? a=some (WE "list" #[] e1):=W4 _ (W4 _ ho1)
 dsimp only
 have hn2:vs.toArray.size < 2:=by rw [Wd]; exact h1
 rw [if_pos hn2,if_pos hn2]
 refine W1 (Wc (W1 (Wc ?_)))
 dsimp only
 have q1:(arrOf (SortSt.mk' general' (vs.toArray.zip vs.toArray) #[] 7 none)).map (·.2)=vs.toArray:=by
  show (vs.toArray.zip vs.toArray).map (·.2)=vs.toArray
  have:List.map (fun x:Value×Value=>x.2) (vs.zip vs)=vs:=List.map_snd_zip (W9 _)
  simpa using this
 rw [q1]
 refine W1 (seqEpoch_at h6 rfl (W1 (listUpdate_at h6 rfl ?_ (WY _) (by rw [Wd,WO]; omega))))
 simp only [bne_self_eq_false,Jp,if_false]
 exact Wc h
theorem z9H (hl:s.heap.IsList l vs.toArray) (h1:vs.length < 2)
  (h:Q (.ref (s.heap.objs.size + 1)) { s with heap:=sortedAll s.heap vs vs.toArray }):W8 (model prog w) A (call (.builtin "sorted") [.ref l]) Q E s:=by
 refine Calls.call_function_entry kind_sorted plain_sorted entry_sorted (args_sorted1 _) ?_
 unfold Builtin.«sorted»
 refine W1 (m:=checkCount "sorted" 1 1 _) (Wc (W1 (collect_list hl (W1 (wpAny_newList ?_ (by rw [WO]; omega))) (by rw [WO]; omega))))
 have hz:((s.heap.push (WE "list" #[] 0)).update s.heap.objs.size (Obj.mapSeq (· ++ vs.toArray))).objs.size=s.heap.objs.size + 1:=by rw [Heap.size_update,size_push']
 have hoL:(((s.heap.push (WE "list" #[] 0)).update s.heap.objs.size (Obj.mapSeq (· ++ vs.toArray))).push (WE "list" vs.toArray 0)).get? (s.heap.objs.size + 1)=some (WE "list" vs.toArray 0):=by
  rw [← hz]; exact Wi _ rfl
 show W8 _ _ _ _ _ { s with heap:=((s.heap.push (WE "list" #[] 0)).update s.heap.objs.size (Obj.mapSeq (· ++ vs.toArray))).push (WE "list" vs.toArray 0) }
 rw [hz]
 refine W1 (WR (QK slot_list_sort ⟨_,hoL,rfl⟩ entry_list_sort (zcs (s:={ s with heap:=((s.heap.push (WE "list" #[] 0)).update s.heap.objs.size (Obj.mapSeq (· ++ vs.toArray))).push (WE "list" vs.toArray 0) }) hoL h1 ⟨_,rfl,?_⟩) (args_list_sort _)))
 exact Wc ⟨_,rfl,h⟩
end
theorem zaf:CallR X (.builtin "sorted") (fun xs H Q=>∃ (a:Addr) (vs:List V),xs=[.ref a]∧SqL X.K H a vs∧vs.length < 2∧∀ p,H p=none→Q (.ref p) (upd H p (.lst vs))):=by
 intro pins s σ H xs us Q I r h
 obtain ⟨a,vs,rfl,hq,h1,q⟩:=h
 obtain ⟨u,rfl,ru⟩:=z3F r
 cases ru
 obtain ⟨its,r',p,_⟩:=I.list hq
 have hl:=r'.length
 refine z9H p.isList (by omega) ?_
 obtain ⟨e,he⟩:=sortedAll_at s.heap its its.toArray
 have I1:Inv X pins σ (upd H (s.heap.objs.size + 1) (.lst vs)) { s with heap:=sortedAll s.heap its its.toArray } :=
  I.laid (t':=s.toks) (fun b o z=>sortedAll_old z) (Qs _) (show ObjOk X.prog X.w _ _ _ (.lst vs) from ⟨by rw [WO]; omega,its,e,r',he⟩)
 exact ⟨.ref _,_,I1,rfl,q _ (I.hok.fresh (Qs _))⟩
section
variable {lt:Nat→Nat→Bool} {r:Nat→Nat} {n:Nat} {α β:Type}
theorem z2Q (f:α→KasT β):∀ t:KasT α,runK lt (t.bind f)=runK lt (f (runK lt t))
 | .ret a=>rfl
 | .ask i j k=>z2Q f (k (lt i j))
abbrev kAt (r:Nat→Nat) (p:Array Nat) (i:Nat):Nat:=r (p.getD i 0)
def Ri (r:Nat→Nat) (p:Array Nat) (m:Nat):Prop:=∀ i j,i < j→j < m→kAt r p i < kAt r p j
def Fa (r:Nat→Nat) (p:Array Nat) (m:Nat):Prop:=∀ i j,i < j→j < m→kAt r p j < kAt r p i
structure Lt (lt:Nat→Nat→Bool) (r:Nat→Nat) (n:Nat):Prop where
 lt:∀ i j,i < n→j < n→lt i j=decide (r i < r j)
 inj:∀ i j,i < n→j < n→i≠j→r i≠r j
theorem Lt.ask (h:Lt lt r n) (hp:PermN n p) (h0:0 < n) (i j:Nat):lt (p.getD i 0) (p.getD j 0)=decide (kAt r p i < kAt r p j):=h.lt _ _ (hp.lt h0 i) (hp.lt h0 j)
theorem Lt.ne (h:Lt lt r n) (hp:PermN n p) (hi:i < n) (hj:j < n) (e:i≠j):kAt r p i≠kAt r p j:=h.inj _ _ (hp.lt (by omega) i) (hp.lt (by omega) j) (hp.ne hi hj e)
theorem Ri.succ (h:Ri r p m) (h1:1≤m) (k:kAt r p (m - 1) < kAt r p m):Ri r p (m + 1):=fun i j hij hj=>by
 by_cases e:j=m
 ·subst e
  by_cases e':i=j - 1
  ·subst e'; exact k
  ·exact Nat.lt_trans (h i (j - 1) (by omega) (by omega)) k
 ·exact h i j hij (by omega)
theorem Fa.succ (h:Fa r p m) (h1:1≤m) (k:kAt r p m < kAt r p (m - 1)):Fa r p (m + 1):=fun i j hij hj=>by
 by_cases e:j=m
 ·subst e
  by_cases e':i=j - 1
  ·subst e'; exact k
  ·exact Nat.lt_trans k (h i (j - 1) (by omega) (by omega))
 ·exact h i j hij (by omega)
theorem z8q (L:Lt lt r n) (hp:PermN n p):∀ (f m:Nat),1≤m→m + f=n→Ri r p m→Ri r p (runK lt (kas_asc p f m))∧m≤runK lt (kas_asc p f m)∧runK lt (kas_asc p f m)≤n ∧
  (runK lt (kas_asc p f m) < n→kAt r p (runK lt (kas_asc p f m)) < kAt r p (runK lt (kas_asc p f m) - 1))
 | 0,m,h1,h2,h=>⟨h,W9 _,by show m≤n; omega,fun z=>by have:m < n:=z; omega⟩
 | f + 1,m,h1,h2,h=>by
  have e:runK lt (kas_asc p (f + 1) m)=runK lt (if lt (p.getD m 0) (p.getD (m - 1) 0)=true then KasT.ret m else kas_asc p f (m + 1)):=rfl
  rw [e,L.ask hp (by omega)]
  by_cases c:kAt r p m < kAt r p (m - 1)
  ·rw [if_pos (decide_eq_true c)]
   exact ⟨h,W9 _,by show m≤n; omega,fun _=>c⟩
  ·rw [if_neg (by simpa using c)]
   have ne:=L.ne hp (i:=m) (j:=m - 1) (by omega) (by omega) (by omega)
   obtain ⟨a1,a2,a3,a4⟩:=z8q L hp f (m + 1) (by omega) (by omega) (h.succ h1 (by omega))
   exact ⟨a1,by omega,a3,a4⟩
theorem z8Y (L:Lt lt r n) (hp:PermN n p):∀ (f m:Nat),1≤m→m + f=n→Fa r p m→∃ m',runK lt (Jr f p m 0)=(p,m',0)∧m≤m'∧m'≤n∧Fa r p m'
 | 0,m,h1,h2,h=>⟨m,rfl,W9 _,by omega,h⟩
 | f + 1,m,h1,h2,h=>by
  have e:runK lt (Jr (f + 1) p m 0)=runK lt (if lt (p.getD m 0) (p.getD (m - 1) 0)=true then (if 0 > 0 then Jr f (kas_rev p (m - (0 + 1)) m) (m + 1) 0 else Jr f p (m + 1) 0) else .ask (p.getD (m - 1) 0) (p.getD m 0) fun d=>if d=true then .ret (p,m,0) else Jr f p (m + 1) (0 + 1)):=rfl
  rw [e,L.ask hp (by omega)]
  by_cases c:kAt r p m < kAt r p (m - 1)
  ·rw [if_pos (decide_eq_true c),if_neg (by omega)]
   obtain ⟨m',a1,a2,a3⟩:=z8Y L hp f (m + 1) (by omega) (by omega) (h.succ h1 c)
   exact ⟨m',a1,by omega,a3⟩
  ·rw [if_neg (by simpa using c)]
   have ne:=L.ne hp (i:=m) (j:=m - 1) (by omega) (by omega) (by omega)
   have d:lt (p.getD (m - 1) 0) (p.getD m 0)=true:=by rw [L.ask hp (by omega)]; simp; omega
   refine ⟨m,?_,W9 _,by omega,h⟩
   show runK lt (if lt (p.getD (m - 1) 0) (p.getD m 0)=true then .ret (p,m,0) else Jr f p (m + 1) (0 + 1))=_
   rw [if_pos d]; rfl
theorem z2v (p:Array Nat) (i:Nat):p.getD i 0=(p[i]?).getD 0:=by
 rw [Array.getD_eq_getD_getElem?]
theorem zfM (hm:m≤p.size) (h:Fa r p m):Ri r (kas_rev p 0 m) m:=fun i j hij hj=>by
 have e:∀ k,k < m→(kas_rev p 0 m).getD k 0=p.getD (m - 1 - k) 0:=fun k hk=>by
  rw [z2v,z2v]
  unfold kas_rev
  rw [getElem?_mirror_all hm,if_pos ⟨WY _,hk⟩]
  congr 2; omega
 show r _ < r _
 rw [e i (by omega),e j hj]
 exact h _ _ (by omega) (by omega)
theorem zaL (L:Lt lt r n) (hp:PermN n p) (h2:2≤n):∃ m p',runK lt (kas_count n p)=(m,p')∧PermN n p'∧1≤m∧m≤n∧Ri r p' m:=by
 unfold kas_count
 rw [z2Q]
 obtain ⟨a1,a2,a3,a4⟩:=z8q L hp (n - 1) 1 (W9 _) (by omega) (fun i j hij hj=>by omega)
 generalize runK lt (kas_asc p (n - 1) 1)=m at a1 a2 a3 a4
 by_cases e:m=n
 ·rw [if_pos (by simp [e])]
  exact ⟨m,p,rfl,hp,a2,a3,a1⟩
 ·rw [if_neg (by simpa using e)]
  by_cases e1:m > 1
  ·rw [if_pos e1]
   have c:lt (p.getD 0 0) (p.getD (m - 1) 0)=true:=by rw [L.ask hp (by omega)]; simpa using a1 0 (m - 1) (by omega) (by omega)
   refine ⟨m,p,?_,hp,a2,a3,a1⟩
   show runK lt (if lt (p.getD 0 0) (p.getD (m - 1) 0)=true then .ret (m,p) else _)=_
   rw [if_pos c]; rfl
  ·rw [if_neg e1]
   have em:m=1:=by omega
   subst em
   unfold kas_descPart
   rw [z2Q]
   have f2:Fa r p (1 + 1):=fun i j hij hj=>by
    have:i=0:=by omega
    have:j=1:=by omega
    subst i j
    exact a4 (by omega)
   obtain ⟨m',b1,b2,b3,b4⟩:=z8Y L hp (n - (1 + 1)) (1 + 1) (by omega) (by omega) f2
   rw [b1]
   rw [if_neg (by show ¬ 0 > 0; omega)]
   show ∃ m p',runK lt (kas_tail3 m' n p)=_∧_
   unfold kas_tail3
   rw [z2Q]
   have hq:=hp.rev 0 m'
   obtain ⟨c1,c2,c3,_⟩:=z8q L hq (n - m') m' (by omega) (by omega) (zfM (by rw [hp.size]; exact b3) b4)
   exact ⟨_,_,rfl,hq,by omega,c3,c1⟩
theorem z5L (L:Lt lt r n) (hp:PermN n p) (hk:k < n) (h:Ri r p k):∀ (f l u:Nat),l≤u→u≤k→u - l≤f→(∀ i,i < l→kAt r p i < kAt r p k)→(∀ i,u≤i→i < k→kAt r p k < kAt r p i) →
  ∃ l',runK lt (QH p k f l u)=l'∧l'≤k∧(∀ i,i < l'→kAt r p i < kAt r p k)∧∀ i,l'≤i→i < k→kAt r p k < kAt r p i
 | 0,l,u,h1,h2,h3,h4,h5=>⟨l,rfl,by omega,h4,fun i a b=>h5 i (by omega) b⟩
 | f + 1,l,u,h1,h2,h3,h4,h5=>by
  have e:runK lt (QH p k (f + 1) l u)=runK lt (if l ≥ u then .ret l else .ask (p.getD k 0) (p.getD ((l + u) / 2) 0) fun c=>if c=true then QH p k f l ((l + u) / 2) else QH p k f ((l + u) / 2 + 1) u):=rfl
  rw [e]
  by_cases z:l ≥ u
  ·rw [if_pos z]
   exact ⟨l,rfl,by omega,h4,fun i a b=>h5 i (by omega) b⟩
  ·rw [if_neg z]
   have e2:runK lt (.ask (p.getD k 0) (p.getD ((l + u) / 2) 0) fun c=>if c=true then QH p k f l ((l + u) / 2) else QH p k f ((l + u) / 2 + 1) u)=runK lt (if lt (p.getD k 0) (p.getD ((l + u) / 2) 0)=true then QH p k f l ((l + u) / 2) else QH p k f ((l + u) / 2 + 1) u):=rfl
   rw [e2,L.ask hp (by omega)]
   have ri:∀ i j,i≤j→j < k→kAt r p i≤kAt r p j:=fun i j a b=>by
    rcases Nat.lt_or_eq_of_le a with q | q
    ·exact Jg (h i j q b)
    ·rw [q]; exact W9 _
   by_cases c:kAt r p k < kAt r p ((l + u) / 2)
   ·rw [if_pos (decide_eq_true c)]
    exact z5L L hp hk h f l _ (by omega) (by omega) (by omega) h4 fun i a b=>Ws c (ri _ _ a b)
   ·rw [if_neg (by simpa using c)]
    have ne:=L.ne hp (i:=k) (j:=(l + u) / 2) hk (by omega) (by omega)
    exact z5L L hp hk h f _ u (by omega) h2 (by omega) (fun i a=>Nat.lt_of_le_of_lt (ri i ((l + u) / 2) (by omega) (by omega)) (by omega)) h5
theorem zh0 (hk:k < p.size) (hl:l≤k) (h:Ri r p k) (h1:∀ i,i < l→kAt r p i < kAt r p k) (h2:∀ i,l≤i→i < k→kAt r p k < kAt r p i):Ri r (bubble p k (k - l)) (k + 1):=by
 have e1:(bubble p k (k - l)).getD l 0=p.getD k 0:=by
  rw [z2v,z2v,getElem?_bubble hk _ (by omega),if_pos (by omega)]
 have e2:∀ i,l < i→i≤k→(bubble p k (k - l)).getD i 0=p.getD (i - 1) 0:=fun i a b=>by
  rw [z2v,z2v,getElem?_bubble hk _ (by omega),if_neg (by omega),if_pos (by omega)]
 have e3:∀ i,i < l→(bubble p k (k - l)).getD i 0=p.getD i 0:=fun i a=>by
  rw [z2v,z2v,getElem?_bubble hk _ (by omega),if_neg (by omega),if_neg (by omega)]
 intro i j hij hj
 show r _ < r _
 rcases Nat.lt_trichotomy i l with a | a | a
 ·rw [e3 i a]
  rcases Nat.lt_trichotomy j l with b | b | b
  ·rw [e3 j b]; exact h _ _ hij (by omega)
  ·subst b; rw [e1]; exact h1 _ a
  ·rw [e2 j b (by omega)]
   exact h _ _ (by omega) (by omega)
 ·subst a
  rw [e1,e2 j hij (by omega)]
  exact h2 _ (by omega) (by omega)
 ·rw [e2 i a (by omega),e2 j (by omega) (by omega)]
  exact h _ _ (by omega) (by omega)
theorem zaM (L:Lt lt r n):∀ (f:Nat) {p:Array Nat} (hp:PermN n p) (k:Nat),k + f=n→Ri r p k→PermN n (runK lt (kas_bin f p k))∧Ri r (runK lt (kas_bin f p k)) n
 | 0,p,hp,k,hk,h=>by
  obtain rfl:k=n:=by omega
  exact ⟨hp,h⟩
 | f + 1,p,hp,k,hk,h=>by
  have e:runK lt (kas_bin (f + 1) p k)=runK lt (kas_bin f (bubble p k (k - runK lt (QH p k k 0 k))) (k + 1)):=by
   show runK lt ((QH p k k 0 k).bind _)=_
   rw [z2Q]
  obtain ⟨l,el,a1,a2,a3⟩:=z5L L hp (by omega) h k 0 k (WY _) (W9 _) (by omega) (fun i a=>by omega) fun i a b=>by omega
  rw [e,el]
  exact zaM L f (hp.bub _ _) (k + 1) (by omega) (zh0 (by rw [hp.size]; omega) a1 h a2 a3)
theorem zcB (L:Lt lt r n) (h2:2≤n):PermN n (runK lt (kas_sort n))∧Ri r (runK lt (kas_sort n)) n:=by
 unfold kas_sort
 rw [z2Q]
 obtain ⟨m,p,e,hp,h1,h3,h4⟩:=zaL L (.refl _) h2
 rw [e]
 by_cases hm:m < n
 ·rw [if_pos hm]
  have em:max m 1=m:=by omega
  rw [em]
  exact zaM L _ hp m (by omega) h4
 ·rw [if_neg hm]
  have:m=n:=by omega
  subst this
  exact ⟨hp,h4⟩
end
theorem zeR (ts:List Nat) (nd:ts.Nodup) (h2:2≤ts.length):((ordK (ts.map fun t=>[t])).map fun i=>ts.getD i 0).Pairwise (· < ·):=by
 have hl:(ts.map fun t=>[t]).length=ts.length:=by simp
 have L:Lt (fun i j=>decide ((ts.map fun t=>[t]).getD i [] < (ts.map fun t=>[t]).getD j [])) (fun i=>ts.getD i 0) ts.length:=by
  have g:∀ i,i < ts.length→(ts.map fun t=>[t]).getD i []=[ts.getD i 0]:=fun i hi=>by simp [hi]
  refine ⟨fun i j hi hj=>?_,fun i j hi hj e=>?_⟩
  ·rw [g i hi,g j hj]
   refine decide_eq_decide.mpr ?_
   rw [List.cons_lt_cons_iff]
   simp
  ·simp only [Qi,Wo hi,Wo hj,QN]
   intro z
   exact e ((List.getElem_inj nd).mp z)
 obtain ⟨hp,h⟩:=zcB L h2
 unfold ordK
 rw [hl]
 generalize runK (fun i j=>decide ((ts.map fun t=>[t]).getD i [] < (ts.map fun t=>[t]).getD j [])) (kas_sort ts.length)=p at hp h
 have hs:=hp.size
 rw [List.pairwise_iff_getElem]
 intro i j hi hj hij
 simp only [WC,Je] at hi hj
 have:=h i j hij (by omega)
 simpa [kAt,Array.getD,show i < p.size by omega,show j < p.size by omega] using this
end L2
namespace DV
open PySem PySem.Spec PyProof.Rows L2
def z3N:D→Option S
 | .lst ds=>if ds.length < 2 then some (.own (.lst ds)) else z7J (.lst ds)
 | _=>none
section
variable {X:Cx} {c:Fc} {e:Expr} {fb:BE} {pp pos:Pos}
abbrev rSq1 (K:W0):V→Hp→VK→Prop:=fun v H Q=>∃ (a:Addr) (vs:List V),v = .ref a∧SqL K H a vs∧vs.length < 2∧∀ p,H p=none→Q (.ref p) (upd H p (.lst vs))
abbrev rSq2 (K:W0):V→Hp→VK→Prop:=fun v H Q=>∃ (a:Addr) (vs:List V) (ks:List Tx),v = .ref a∧SqL K H a vs∧ks.length=vs.length∧(∀ (i:Nat) v,vs[i]? = some v→∃ b ws,v = .ref b∧H b=some (.tup ws)∧ws[0]? = some (.str (toS (ks.getD i []))))∧ks.Nodup∧2≤vs.length∧vs.length < 64 ∧
  ∀ p,H p=none→Q (.ref p) (upd H p (.lst ((ordK ks).map fun i=>vs.getD i .non)))
theorem z8V (hg:Gl X "sorted") (hm:X.mg "sorted" = none) (he:SB X c e fb) (hs:W5 [e] X.env=(false,eval e X.env) :: W5 [] X.env:=by rfl):SE X c (.Call (.Name "sorted" pp) [e] [] pos) (eC1 z3N fb) :=
 z4h (r:=fun v H Q=>rSq1 X.K v H Q∨rSq2 X.K v H Q) (rl:=fun xs H Q=>∃ v,xs=[v]∧(rSq1 X.K v H Q∨rSq2 X.K v H Q))
  (fun pins s σ H xs us Q I r ⟨v,ex,h⟩=>h.elim (fun ⟨a,vs,e,h⟩=>zaf pins s σ H xs us Q I r ⟨a,vs,by rw [ex,e],h⟩) fun ⟨a,vs,ks,e,h⟩=>zae pins s σ H xs us Q I r ⟨a,vs,ks,by rw [ex,e],h⟩) (fun v H Q h=>⟨v,rfl,h⟩) (fun c σ δ H x d s Q k rx hp q=>by
   cases d with
   | lst ds =>
    simp only [z3N] at hp
    split at hp
    ·rename_i hl
     cases hp
     obtain ⟨a,vs,ea,ha,ra⟩:=rx.lst
     exact .inl ⟨a,vs,ea,.inl ha,by rw [ra.1]; exact hl,fun p hp=>q _ _ (.alloc k hp _) (RepS.newL k ra hp)⟩
    ·exact .inr (zcY c σ δ H x _ s Q k rx hp q)
   | _=>cases hp) hg hm PyProof.Rows.boot_sorted he (by decide) (by decide) hs
end
open PySem (sizeLine)
section
variable {α β:Type}
@[simp] theorem z0M (a:α) (δ:Dl) (f:α→Dl→Rs β):(Rs.ok a δ).bind f=f a δ:=id rfl
@[simp] theorem zdi (f:α→Dl→Rs β):(Rs.stuck:Rs α).bind f = .stuck:=id rfl
@[simp] theorem ev_d1 (d:D):(S.pure d).d=d:=id rfl
@[simp] theorem ev_d2 (d:D):(S.own d).d=d:=id rfl
end
section
variable (δ:Dl) (i:Nat) (d e:D) (f g:DE) (fb:BE) (t u:DT) (p:D→D→Option S)
@[simp] theorem ev_eD:eD d δ = .ok (.pure d) δ:=id rfl
@[simp] theorem zgV:bOf f δ=(f δ).bind fun r δ'=>.ok r.d δ':=id rfl
@[simp] theorem zgU:eOp p f fb δ=(f δ).bind fun x δ1=>(fb δ1).bind fun y δ2=>p2 p x.d y δ2:=id rfl
@[simp] theorem ev_dAnd:dAnd t u δ=(t δ).bind fun b δ1=>if b then u δ1 else .ok false δ1:=id rfl
@[simp] theorem ev_dOr:dOr t u δ=(t δ).bind fun b δ1=>if b then .ok true δ1 else u δ1:=id rfl
@[simp] theorem ev_dNot:dNot t δ=(t δ).bind fun b δ1=>.ok (!b) δ1:=id rfl
@[simp] theorem ev_eIf:eIf t f g δ=(t δ).bind fun b δ1=>if b then f δ1 else g δ1:=id rfl
@[simp] theorem ev_dNext:z0I δ = .ok .next δ:=id rfl
@[simp] theorem ev_dYes:dYes δ = .ok true δ:=id rfl
@[simp] theorem ev_dDrop:dDrop f δ=(f δ).bind fun _ δ1=>.ok .next δ1:=id rfl
@[simp] theorem ev_dRet:dRet f δ=(f δ).bind fun r δ1=>.ok (.ret r) δ1:=id rfl
@[simp] theorem ev_dIf (a b:DS):dIf t a b δ=(t δ).bind fun x δ1=>if x then a δ1 else b δ1:=id rfl
@[simp] theorem z7f (it:DI) (gg:DG) (b:DS):dFor it gg b δ=(it δ).bind fun ds δ1=>forL gg b ds δ1:=id rfl
@[simp] theorem ev_eTup (a:DA):eTup a δ=(a δ).bind fun ds δ'=>.ok (.pure (.tup ds)) δ':=id rfl
@[simp] theorem ev_eLst (a:DA):eLst a δ=(a δ).bind fun ds δ'=>.ok (.own (.lst ds)) δ':=id rfl
@[simp] theorem ev_eLstC (ds:List D):za5 ds δ = .ok (.own (.lst ds)) δ:=id rfl
@[simp] theorem ev_aNil:aNil δ = .ok [] δ:=id rfl
@[simp] theorem ev_aCons (a:DA):z0b f a δ=(f δ).bind fun x δ1=>(a δ1).bind fun xs δ2=>.ok (x.d :: xs) δ2:=id rfl
@[simp] theorem ev_eC1 (q:D→Option S):eC1 q fb δ=(fb δ).bind fun x δ1=>p1 q x δ1:=id rfl
@[simp] theorem ev_eMax:eMax f g δ=(f δ).bind fun x δ1=>(g δ1).bind fun y δ2=>p2 pMax x.d y.d δ2:=id rfl
@[simp] theorem ev_eSl (fl fh:DOp):eSl f fl fh δ=(f δ).bind fun x δ1=>(fl δ1).bind fun l δ2=>(fh δ2).bind fun h δ3=>p1 (pSl l h) x.d δ3:=id rfl
@[simp] theorem ev_oNone:z34 δ = .ok none δ:=id rfl
@[simp] theorem z3D (cs:List Nat) (it:DI) (gg:DG) (el:DE):z2j cs it gg t el δ=(it δ).bind fun ds δ1=>if cs.any (z0H δ1) then .stuck else
 (z1F cs gg t el ds (clrD cs δ1) []).bind fun acc δ2=>.ok (.own (.lst acc)) (z1s cs δ1 δ2):=id rfl
@[simp] theorem ev_gNm (np:List Nat) (r:S):gNm np i r δ=if np.contains i then none else some (δ.set i (some r)):=id rfl
@[simp] theorem zfb (gg:DG) (b:DS):forL gg b [] δ = .ok .next δ:=id rfl
end
section
variable (δ:Dl) (i:Nat) (d e:D) (f g:DE) (fb:BE) (p:D→D→Option S) (s:S)
@[simp] theorem ev_p2 (x y:D):p2 p x y δ=match p x y with | some s=>.ok s δ | none=>.stuck:=id rfl
@[simp] theorem ev_p1 (q:D→Option S) (x:D):p1 q x δ=match q x with | some s=>.ok s δ | none=>.stuck:=id rfl
@[simp] theorem zfc (a b:DS):dSeq a b δ=(a δ).bind fun fl δ1=>match fl with | .next=>b δ1 | .ret r=>.ok (.ret r) δ1 | .brk=>.ok .brk δ1 | .cont=>.ok .cont δ1:=id rfl
@[simp] theorem zfp {α β:Type} (c:Prop) [Decidable c] (x y:Rs α) (k:α→Dl→Rs β):(if c then x else y).bind k=if c then x.bind k else y.bind k:=by split <;> rfl
end
theorem z13:W6=16777216:=rfl
theorem z1E (xs:List α) (i:Nat):atI xs (i:Int)=xs[i]?:=by
 unfold atI ixN
 by_cases h:i < xs.length
 ·rw [if_pos (by omega),if_pos (by omega)]
  simp
 ·rw [if_pos (by omega),if_neg (by omega)]
  simp [WK (Nat.le_of_not_lt h)]
theorem z8J (xs:List α):atI xs 2=xs[2]?:=z1E xs 2
theorem z3E (xs:List α):atI xs 0=xs[0]?:=z1E xs 0
theorem z8K (xs:List α):atI xs 1=xs[1]?:=z1E xs 1
theorem z4M (I:Dl→Prop) (R:D→D→Prop) :
  ∀ (ds:List D) (δ:Dl) (acc:List D),I δ→acc.length + ds.length≤W6 →
   (∀ d ∈ ds,∀ δ,I δ→∃ δ1 δ2 x δ3,g (.pure d) δ=some δ1∧t δ1 = .ok true δ2∧el δ2 = .ok x δ3∧I (clrD cs δ3)∧R d x.d) →
   ∃ xs δ',z1F cs g t el ds δ acc = .ok (acc ++ xs) δ'∧I δ'∧xs.length=ds.length∧∀ (i:Nat) d x,ds[i]? = some d→xs[i]? = some x→R d x
 | [],δ,acc,h,_,_=>⟨[],δ,by simp [z1F],h,rfl,fun i d x e=>by simp at e⟩
 | d :: r,δ,acc,h,hl,hs=>by
  obtain ⟨δ1,δ2,x,δ3,e1,e2,e3,h3,hr⟩:=hs d Wy δ h
  have hl':acc.length < W6:=by simp at hl; omega
  obtain ⟨xs,δ',e4,h4,hn,hf⟩:=z4M (g:=g) (t:=t) (el:=el) I R r (clrD cs δ3) (acc ++ [x.d]) h3 (by simp at hl ⊢; omega) (fun d hd=>hs d (Wl _ hd))
  refine ⟨x.d :: xs,δ',?_,h4,by simp [hn],fun i d' x' f1 f2=>?_⟩
  ·unfold z1F
   rw [e1]
   simp only [e2,z0M,if_true,e3,if_pos hl',e4]
   simp
  ·cases i with
   | zero=>simp at f1 f2; subst f1 f2; exact hr
   | succ i=>exact hf i d' x' (by simpa using f1) (by simpa using f2)
theorem zc0 (F:D→D) (δ:Dl) :
  ∀ (ds:List D) (acc:List D),acc.length + ds.length≤W6 →
   (∀ d ∈ ds,∃ δ1 δ2 x δ3,g (.pure d) δ=some δ1∧t δ1 = .ok true δ2∧el δ2 = .ok x δ3∧clrD cs δ3=δ∧x.d=F d) →
   z1F cs g t el ds δ acc = .ok (acc ++ ds.map F) δ:=by
 intro ds acc hl hs
 obtain ⟨xs,δ',e,h,hn,hf⟩:=z4M (cs:=cs) (g:=g) (t:=t) (el:=el) (fun δ'=>δ'=δ) (fun d x=>x=F d) ds δ acc rfl hl (fun d hd δ' h=>by
  subst h
  obtain ⟨δ1,δ2,x,δ3,a,b,c,d,e⟩:=hs d hd
  exact ⟨δ1,δ2,x,δ3,a,b,c,d,e⟩)
 subst h
 rw [e]
 congr 2
 apply List.ext_getElem?
 intro i
 by_cases hi:i < ds.length
 ·have:=hf i ds[i] (xs[i]'(by omega)) (by simp [hi]) (by simp [hn,hi])
  simp [hn,hi,this]
 ·rw [WK (by omega),WK (by simp; omega)]
theorem z4H (I:Nat→Dl→Prop) :
  ∀ (ds:List D) (n:Nat) (δ:Dl),I n δ →
   (∀ (i:Nat) d δ,ds[i]? = some d→I (n + i) δ→∃ δ1 δ2,g (.pure d) δ=some δ1∧b δ1 = .ok .next δ2∧I (n + i + 1) δ2) →
   ∃ δ',forL g b ds δ = .ok .next δ'∧I (n + ds.length) δ'
 | [],n,δ,h,_=>⟨δ,rfl,h⟩
 | d :: r,n,δ,h,hs=>by
  obtain ⟨δ1,δ2,e1,e2,h2⟩:=hs 0 d δ rfl h
  obtain ⟨δ',e3,h3⟩:=z4H (g:=g) (b:=b) I r (n + 1) δ2 h2 (fun i d' δ' e hi=>by
   have:=hs (i + 1) d' δ' (by simpa using e) (by rw [show n + (i + 1)=n + 1 + i by omega]; exact hi)
   rw [show n + (i + 1) + 1=n + 1 + i + 1 by omega] at this
   exact this)
  refine ⟨δ',?_,by rw [WH,show n + (r.length + 1)=n + 1 + r.length by omega]; exact h3⟩
  unfold forL
  rw [e1]
  simp only [e2,z0M,e3]
theorem z5y (xs:List Tx):z3e (xs.map .str)=some xs:=by
 induction xs with
 | nil=>rfl
 | cons x r ih=>simp [z3e,ih]
theorem z3u:∀ ts:List Tx,z64 [] ts=ts.flatten
 | []=>rfl
 | [x]=>by simp [z64]
 | x :: y :: r=>by rw [z64,z3u (y :: r)]; simp
theorem za4 (xs:List Nat):z4z (xs.map fun n=>[n])=xs.length:=by
 unfold z4z
 induction xs with
 | nil=>rfl
 | cons x r ih=>simp at ih ⊢; omega
theorem zdh (xs:List Nat):(xs.map fun n=>[n]).flatten=xs:=by
 induction xs with
 | nil=>rfl
 | cons x r ih=>simp [ih]
theorem zdg (xs:List Nat) (h:xs.length≤16777216):z4X [] (.lst (xs.map fun n=>.str [n]))=some (.pure (.str xs)):=by
 have e:(xs.map fun n=>D.str [n])=(xs.map fun n=>[n]).map D.str:=by simp
 unfold z4X
 simp only [e,z5y,za4,z3u,zdh]
 rw [if_pos (by simpa using h)]
theorem z7g (bs:List Bool):z3I (bs.map .bl)=some bs:=by
 induction bs with
 | nil=>rfl
 | cons x r ih=>simp [z3I,ih]
theorem zbO (r:Tx) (c:Nat) (h:c < r.length) (hl:r.length≤64):pIx (.str r) (.int c)=some (.pure (.str [r.getD c 0])):=by
 unfold pIx
 have:W6=16777216:=rfl
 simp only
 rw [if_pos (by omega),z1E]
 simp [h]
abbrev flD (fl:List Tx):D:=.tup (fl.map .str)
structure Rect (w:Nat) (fl:List Tx):Prop where
 h0:0 < fl.length
 h1:fl.length≤64
 w0:0 < w
 w1:w≤64
 all:∀ r ∈ fl,r.length=w
def turn (w:Nat) (fl:List Tx):List Tx:=(WM w).map fun c=>fl.map fun r=>r.getD c 0
def back (fl:List Tx):List Tx:=fl.map List.reverse
def rng (r:S) (δ1:Dl):Rs (List D):=match r with
 | .pure (.int j)=>if z3b j then .ok (z0v 0 j.toNat) δ1 else .stuck
 | _=>.stuck
@[simp] theorem zgT (f:DE) (δ:Dl):z1o f δ=(f δ).bind fun r δ1=>rng r δ1:=id rfl
theorem z7s (w:Nat) (hw:w≤1000000):z3b (w:Int)=true:=by
 have h1 : -(4611686018427387904:Int)≤(w:Int):=by omega
 have h2:(w:Int) < 4611686018427387904:=by omega
 unfold z3b
 rw [Wf]
 exact ⟨decide_eq_true h1,decide_eq_true h2⟩
theorem zfL (j:Int) (hs:z3b j=true) (δ:Dl):rng (.pure (.int j)) δ = .ok (z0v 0 j.toNat) δ:=by unfold rng; simp only [hs,if_true]
theorem zaQ (w:Nat) (hw:w≤1000000) (δ:Dl):rng (.pure (.int w)) δ = .ok (z0v 0 w) δ:=by
 have:=zfL (w:Int) (z7s w hw) δ
 rwa [Int.toNat_natCast] at this
theorem z3t (h:(z0v 0 n)[i]? = some d):i < n∧d = .int (i:Int):=by
 unfold z0v at h
 rw [Qb] at h
 by_cases hi:i < n
 ·rw [List.getElem?_range hi] at h
  simp at h
  exact ⟨hi,h.symm⟩
 ·rw [WK (by simpa using hi)] at h
  cases h
theorem z5i (h:d ∈ z0v 0 n):∃ i:Nat,i < n∧d = .int (i:Int):=by
 obtain ⟨i,hi⟩:=List.getElem?_of_mem h
 exact ⟨i,z3t hi⟩
@[simp] theorem ze0 (lo:Int) (n:Nat):(z0v lo n).length=n:=by simp [z0v]
def insN (x:Nat):List Nat→List Nat
 | []=>[x]
 | y :: r=>if y < x then y :: insN x r else x :: y :: r
def z4S:List Nat→List Nat
 | []=>[]
 | x :: r=>insN x (z4S r)
theorem lt1 (a b:Nat):(([a]:Tx) < [b]) ↔ a < b:=by
 constructor
 ·intro h
  cases h with
  | cons h=>cases h
  | rel h=>exact h
 ·intro h; exact List.Lex.rel h
theorem zgL (x:Nat):∀ xs:List Nat,insT [x] (xs.map fun n=>[n])=(insN x xs).map fun n=>[n]
 | []=>rfl
 | y :: r=>by
  simp only [Wz,insT,insN]
  by_cases h:y < x
  ·rw [if_pos ((lt1 y x).mpr h),if_pos h,zgL x r]; rfl
  ·rw [if_neg fun z=>h ((lt1 y x).mp z),if_neg h]; rfl
theorem zdE:∀ xs:List Nat,z4R (xs.map fun n=>[n])=(z4S xs).map fun n=>[n]
 | []=>rfl
 | x :: r=>by rw [Wz,z4R,zdE r,zgL]; rfl
theorem insN_mem:∀ {xs:List Nat},y ∈ insN x xs ↔ y=x∨y ∈ xs
 | []=>by simp [insN]
 | z :: r=>by
  unfold insN
  split
  ·simp [insN_mem (xs:=r)]; constructor <;> (rintro (h | h | h) <;> simp [h])
  ·simp
theorem sortN_mem:∀ {xs:List Nat},y ∈ z4S xs ↔ y ∈ xs
 | []=>by simp [z4S]
 | x :: r=>by rw [z4S,insN_mem,sortN_mem (xs:=r)]; simp
theorem z9g (x:Nat):∀ xs:List Nat,(insN x xs).length=xs.length + 1
 | []=>rfl
 | y :: r=>by unfold insN; split <;> simp [z9g x r]
theorem z7r:∀ xs:List Nat,(z4S xs).length=xs.length
 | []=>rfl
 | x :: r=>by rw [z4S,z9g,z7r r]; rfl
theorem zbC:∀ {xs:List Nat},xs.Pairwise (· < ·)→x ∉ xs→(insN x xs).Pairwise (· < ·)
 | [],_,_=>by simp [insN]
 | y :: r,h,hx=>by
  rw [List.pairwise_cons] at h
  simp at hx
  unfold insN
  split
  ·rename_i hl
   rw [List.pairwise_cons]
   refine ⟨fun z hz=>?_,zbC h.2 hx.2⟩
   rcases insN_mem.mp hz with rfl | hz
   ·exact hl
   ·exact h.1 z hz
  ·rename_i hl
   rw [List.pairwise_cons]
   refine ⟨fun z hz=>?_,Jl.mpr h⟩
   rcases Wg.mp hz with rfl | hz
   ·omega
   ·have:=h.1 z hz; omega
theorem z8T:∀ {xs:List Nat},xs.Nodup→(z4S xs).Pairwise (· < ·)
 | [],_=>by simp [z4S]
 | x :: r,h=>by
  rw [List.nodup_cons] at h
  exact zbC (z8T h.2) fun z=>h.1 (sortN_mem.mp z)
theorem zay {P:Nat→Prop}:∀ {xs:List D},(∀ x ∈ xs,∃ n,P n∧x = .str [n])→∃ row:List Nat,xs=row.map (fun n=>.str [n])∧∀ n ∈ row,P n
 | [],_=>⟨[],rfl,by simp⟩
 | x :: r,h=>by
  obtain ⟨n,hn,rfl⟩:=h x Wy
  obtain ⟨row,rfl,hr⟩:=zay (xs:=r) fun y hy=>h y (Wl _ hy)
  exact ⟨n :: row,rfl,by simpa using ⟨hn,hr⟩⟩
theorem zet {R:D→D→Prop} {ds xs:List D} {Q:D→Prop} (hn:xs.length=ds.length) (hf:∀ (i:Nat) d x,ds[i]? = some d→xs[i]? = some x→R d x) (hq:∀ d x,d ∈ ds→R d x→Q x):∀ x ∈ xs,Q x:=fun x hx=>by
 obtain ⟨i,hi⟩:=List.getElem?_of_mem hx
 have h1:=(Wa.mp hi).1
 have h2:ds[i]? = some (ds[i]'(by omega)):=by simp [show i < ds.length by omega]
 exact hq _ x (J9 _) (hf i _ x h2 hi)
theorem zaP (w:Nat) (hw:w≤100000) (δ:Dl):rng (.pure (.int (1 + (w:Int)))) δ = .ok (z0v 0 (1 + w)) δ:=by
 have:=zaQ (1 + w) (by omega) δ
 rwa [show (((1 + w:Nat):Int))=1 + (w:Int) by omega] at this
abbrev blD (b:Nat×List Tx):D:=.tup [.str [b.1],flD b.2]
abbrev ruD (h w:Nat) (bs:List (Nat×List Tx)):D:=.tup [.int h,.int w,.tup (bs.map blD)]
structure Rul (h w:Nat) (bs:List (Nat×List Tx)):Prop where
 h0:0 < h
 h1:h≤4
 w0:0 < w
 w1:w≤4
 hw:2 < h + w
 n0:0 < bs.length
 n1:bs.length≤26
 up:(bs.map (·.1)).Pairwise (· < ·)
 let':∀ b ∈ bs,97≤b.1∧b.1≤122
 blk:∀ b ∈ bs,b.2.length=h∧∀ r ∈ b.2,r.length=w∧∀ n ∈ r,n ∈ bs.map (·.1)
theorem z2X (f F:A→D) (δ:Dl):∀ (as:List A) (acc:List D),acc.length + as.length≤W6 →
  (∀ a ∈ as,∃ δ1 δ2 x δ3,g (.pure (f a)) δ=some δ1∧t δ1 = .ok true δ2∧el δ2 = .ok x δ3∧clrD cs δ3=δ∧x.d=F a)→z1F cs g t el (as.map f) δ acc = .ok (acc ++ as.map F) δ
 | [],acc,_,_=>by simp [z1F]
 | a :: r,acc,hl,hs=>by
  obtain ⟨δ1,δ2,x,δ3,e1,e2,e3,e4,e5⟩:=hs a Wy
  have hl':acc.length < W6:=by simp at hl; omega
  have ih:=z2X (cs:=cs) (g:=g) (t:=t) (el:=el) f F δ r (acc ++ [x.d]) (by simp at hl ⊢; omega) (fun a ha=>hs a (Wl _ ha))
  rw [Wz]
  unfold z1F
  rw [e1]
  rw [e5] at ih
  simp only [e2,z0M,if_true,e3,if_pos hl',e4,e5,ih]
  simp
end DV
namespace K03
open PySem.W (nsIn keepIn codeIn findIn mroIn kitOne mg_of)
open PySem PySem.Spec PyProof.Rows L2 DV
def top (i:Nat):Stmt:=PySem.Challenge.pw_tilegrow_k03_rules_made.main.body.getD i (.Pass ⟨0,0,0,0⟩)
abbrev z2p:Stmt:=top 30
abbrev z1I:Stmt:=top 37
abbrev z1J:Stmt:=top 35
abbrev z1Z:Stmt:=top 36
abbrev z2D:Stmt:=top 38
abbrev z1K:Stmt:=top 42
abbrev z3j:Stmt:=top 12
abbrev z2B:Stmt:=top 13
abbrev z3k:Stmt:=top 21
abbrev z2C:Stmt:=top 14
abbrev z3l:Stmt:=top 18
abbrev z3R:Stmt:=top 15
abbrev z3S:Stmt:=top 22
abbrev z1H:Stmt:=top 23
abbrev z5K:Stmt:=top 24
abbrev z1Y:Stmt:=top 39
abbrev z2F:Stmt:=top 34
abbrev z3m:Stmt:=top 43
abbrev z2G:Stmt:=top 26
abbrev z32:Stmt:=top 28
abbrev z3U:Stmt:=top 27
abbrev z3V:Stmt:=top 29
abbrev z2e:Stmt:=top 32
abbrev z3T:Stmt:=top 31
abbrev z2E:Stmt:=top 33
abbrev z2f:Stmt:=top 40
abbrev z31:Stmt:=top 41
abbrev z6V:Stmt:=top 44
abbrev si_g:Stmt:=(zfk (top 8)).getD 0 (.Pass ⟨0,0,0,0⟩)
theorem sci_g:FnScope ["self","number"] ["self","number"] (z05 si_g):=⟨rfl,rfl,rfl,by decide +kernel,rfl,by decide +kernel,by decide +kernel⟩
abbrev ys:List Tx:=[[78,111,82,117,108,101]]
section
variable (ce:Tx→Nat)
structure Txt (K:W0) (mg:Str→Option Value):Prop where
 z_ValueError:mg "ValueError" = none
 z_all:mg "all" = none
 z_any:mg "any" = none
 z_bool:mg "bool" = none
 z_dict:mg "dict" = none
 z_enumerate:mg "enumerate" = none
 z_int:mg "int" = none
 z_isinstance:mg "isinstance" = none
 z_len:mg "len" = none
 z_list:mg "list" = none
 z_max:mg "max" = none
 z_range:mg "range" = none
 z_sorted:mg "sorted" = none
 z_str:mg "str" = none
 z_tuple:mg "tuple" = none
 ty_bool:TyK K "bool"
 ty_int:TyK K "int"
 ty_str:TyK K "str"
 ty_tuple:TyK K "tuple"
 g_MOST_SIZE:∃ t,mg "MOST_SIZE" = some (.int 4 t)
 g_MOST_TILES:∃ t,mg "MOST_TILES" = some (.int 64 t)
 c_j:mg "FloorError" = some (.ref (ce [70,108,111,111,114,69,114,114,111,114]))
 c_a:mg "NoFloor" = some (.ref (ce [78,111,70,108,111,111,114]))
 c_b:mg "NoPlace" = some (.ref (ce [78,111,80,108,97,99,101]))
 c_c:mg "NoNumber" = some (.ref (ce [78,111,78,117,109,98,101,114]))
 c_d:mg "NoRow" = some (.ref (ce [78,111,82,111,119]))
 c_e:mg "Unlike" = some (.ref (ce [85,110,108,105,107,101]))
 c_f:mg "NoTile" = some (.ref (ce [78,111,84,105,108,101]))
 c_g:mg "NoRule" = some (.ref (ce [78,111,82,117,108,101]))
 c_h:mg "NoText" = some (.ref (ce [78,111,84,101,120,116]))
 c_i:mg "TooGreat" = some (.ref (ce [84,111,111,71,114,101,97,116]))
 q_j:ExcC K (ce [70,108,111,111,114,69,114,114,111,114])
 i_a:IsT K ce ys (.ref (ce [78,111,70,108,111,111,114])) (fun z=>z == [78,111,70,108,111,111,114])
 i_b:IsT K ce ys (.ref (ce [78,111,80,108,97,99,101])) (fun z=>z == [78,111,80,108,97,99,101])
 i_c:IsT K ce ys (.ref (ce [78,111,78,117,109,98,101,114])) (fun z=>z == [78,111,78,117,109,98,101,114])
 i_d:IsT K ce ys (.ref (ce [78,111,82,111,119])) (fun z=>z == [78,111,82,111,119])
 i_e:IsT K ce ys (.ref (ce [85,110,108,105,107,101])) (fun z=>z == [85,110,108,105,107,101])
 i_f:IsT K ce ys (.ref (ce [78,111,84,105,108,101])) (fun z=>z == [78,111,84,105,108,101])
 i_g:IsT K ce ys (.ref (ce [78,111,82,117,108,101])) (fun z=>z == [78,111,82,117,108,101])
 i_h:IsT K ce ys (.ref (ce [78,111,84,101,120,116])) (fun z=>z == [78,111,84,101,120,116])
 i_i:IsT K ce ys (.ref (ce [84,111,111,71,114,101,97,116])) (fun z=>z == [84,111,111,71,114,101,97,116])
 at_number:AtT K ce ys "number"
 i_ValueError:IsT K ce ys (.type "ValueError") (fun _=>true)
 m_j:∀ y ∈ ys,mg (toS y)=some (.ref (ce y))∧mroIn K (ce y) (.ref (ce [70,108,111,111,114,69,114,114,111,114]))=some true
end
def z2x:DS:=(dRet (eAnd (eIsi "int" (bVar 0)) (eNot (eIsi "bool" (bVar 0)))))
def z0K:DF:=gOf [] 1 z2x
theorem z20:z1p z0K:=z0o
theorem z4i:FnScope ["found"] ["found"] (z05 z2p):=⟨rfl,rfl,rfl,by decide +kernel,rfl,by decide +kernel,by decide +kernel⟩
theorem z75 {K:W0} (F:Fun K "_law_whole" "_law_whole" z2p f fd) (hm:mg "_law_whole" = some (.ref f)) (hb:Binds K fd ["found"] []) (T:Txt ce K mg):KFn P w K mg base 1 "_law_whole" 1 z0K :=
 z1b (np:=[]) (fb:=z2x) F hm hb z4i (fun c cdv A outer s H E hr hnp=>by
  have hq:=z1M hr
  refine (z0e ?_)
  refine (z0k ?_)
  exact (z3L (z2d T.ty_int rfl T.z_isinstance rfl T.z_int boot_int (z0c (pv 0)) (by decide) (by decide) (by rfl) (by rfl)) (z3J (z8W (z2d T.ty_bool rfl T.z_isinstance rfl T.z_bool boot_bool (z0c (pv 0)) (by decide) (by decide) (by rfl) (by rfl)))))) fun ss y h=>z0C h
theorem z6n {K:W0} (F:Fun K "_law_whole" "_law_whole" z2p f fd) (hm:mg "_law_whole" = some (.ref f)) (hb:Binds K fd ["found"] []) (T:Txt ce K mg):KFnH P w K mg base 1 "_law_whole" 1 z0K :=
 zbJ (np:=[]) (fb:=z2x) F hm hb z4i (fun c cdv A outer s H E hr hnp=>by
  have hq:=zdV hr
  refine (z0e ?_)
  refine (z0k ?_)
  exact (z3L (z2d T.ty_int rfl T.z_isinstance rfl T.z_int boot_int (z0c (pv 0)) (by decide) (by decide) (by rfl) (by rfl)) (z3J (z8W (z2d T.ty_bool rfl T.z_isinstance rfl T.z_bool boot_bool (z0c (pv 0)) (by decide) (by decide) (by rfl) (by rfl)))))) fun ss y h=>z0C h
def z1N:DS:=(dSeq (dIf (dOr (dNot (dTr (z08 z0K [.val (eVar 0)]))) (dNot (dTr (z08 z0K [.val (eVar 1)])))) (dRet (eD (.bl false))) z0I) (dRet (eAnd (eInR false (eVar 0) (eD (.int 1)) (eD (.int 5))) (eAnd (eInR false (eVar 1) (eD (.int 1)) (eD (.int 5))) (eOp pGt (eOpF pAdd 0 (bVar 1)) (bOf (eD (.int 2))))))))
def z0u:DF:=gOf [] 2 z1N
theorem z1U:z1p z0u:=z0o
theorem z4j:FnScope ["high","wide"] ["high","wide"] (z05 z1I):=⟨rfl,rfl,rfl,by decide +kernel,rfl,by decide +kernel,by decide +kernel⟩
theorem z4s {K:W0} (F:Fun K "_law_sizes_good" "_law_sizes_good" z1I f fd) (hm:mg "_law_sizes_good" = some (.ref f)) (hb:Binds K fd ["high","wide"] []) (T:Txt ce K mg) (k__law_whole:KFn P w K mg base 1 "_law_whole" 1 z0K):KFn P w K mg base 2 "_law_sizes_good" 2 z0u :=
 z1b (np:=[]) (fb:=z1N) F hm hb z4j (fun c cdv A outer s H E hr hnp=>by
  have hq:=z1M hr
  refine (z03 ?_ ?_)
  ·refine (z18 ?_ ?_ ?_)
   ·exact (z2P (z2m (z0S (z0U (@z0h _ _ _ _ _ (1) _ _ _ _ _ k__law_whole z20 (hr.mono (by decide)) rfl (z06 (z07 (pv 0)) z0q (by rfl)) rfl (by decide) (by rfl) (by rfl)) (by intro _; rfl))) (z1z (z0S (z0U (@z0h _ _ _ _ _ (1) _ _ _ _ _ k__law_whole z20 (hr.mono (by decide)) rfl (z06 (z07 (pv 1)) z0q (by rfl)) rfl (by decide) (by rfl) (by rfl)) (by intro _; rfl))))))
   ·refine (z0e ?_)
    refine (z0k ?_)
    exact z1G
   ·exact z0B
  refine (z0e ?_)
  refine (z0k ?_)
  exact (z3L (zdG false rfl T.z_range (z07 (pv 0)) z04 z04 (by rfl) (by rfl) (by rfl) (by rfl)) (z3L (zdG false rfl T.z_range (z07 (pv 1)) z04 z04 (by rfl) (by rfl) (by rfl) (by rfl)) (z3J (z5G z97 z2g (z2o z0O z1e (pv 0) (z0c (pv 1))) (z0d z04) (z0G _)))))) fun ss y h=>z0C h
def z1O:DS:=(dSeq (dIf (dOr (dNot (dTr (eIsi "tuple" (bVar 0)))) (dTr (eInR true (eC1 pLen (bVar 0)) (eD (.int 1)) (eD (.int 65))))) (dRet (eD (.bl false))) z0I) (dSeq (dIf (dNot (dTr (eC1 pAll (bOf (z2j [1] (iSq (eVar 0)) (gNm [] 1) dYes (eIsi "str" (bVar 1))))))) (dRet (eD (.bl false))) z0I) (dSeq (dIf (dTr (eInR true (eC1 pLen (bOf (eOpF pIx 0 (bOf (eD (.int 0)))))) (eD (.int 1)) (eD (.int 65)))) (dRet (eD (.bl false))) z0I) (dSeq (dFor (iSq (eVar 0)) (gNm [] 1) (dIf (dOr (dTr (eOp pNe (eC1 pLen (bVar 1)) (bOf (eC1 pLen (bOf (eOpF pIx 0 (bOf (eD (.int 0))))))))) (dTr (eOp pNe (z2j [2] (iSq (eVar 1)) (gNm [] 2) (dTr (eOp (pInS true) (eVar 2) (bOf (eD (.str [97,98,99,100,101,102,103,104,105,106,107,108,109,110,111,112,113,114,115,116,117,118,119,120,121,122]))))) (eVar 2)) (bOf (eLst aNil))))) (dRet (eD (.bl false))) z0I)) (dRet (eD (.bl true)))))))
def z0R:DF:=gOf [] 3 z1O
theorem z3r:z1p z0R:=z0o
theorem sc__law_floor_good:FnScope ["thing","row","sign"] ["thing"] (z05 z1J):=⟨rfl,rfl,rfl,by decide +kernel,rfl,by decide +kernel,by decide +kernel⟩
theorem z4t {K:W0} (F:Fun K "_law_floor_good" "_law_floor_good" z1J f fd) (hm:mg "_law_floor_good" = some (.ref f)) (hb:Binds K fd ["thing"] []) (T:Txt ce K mg):KFn P w K mg base 1 "_law_floor_good" 1 z0R :=
 z1b (np:=[]) (fb:=z1O) F hm hb sc__law_floor_good (fun c cdv A outer s H E hr hnp=>by
  have hq:=z1M hr
  refine (z03 ?_ ?_)
  ·refine (z18 ?_ ?_ ?_)
   ·exact (z2P (z2m (z0S (z0U (z2d T.ty_tuple rfl T.z_isinstance rfl T.z_tuple boot_tuple (z0c (pv 0)) (by decide) (by decide) (by rfl) (by rfl)) (by intro _; rfl))) (z1z (zdD true rfl T.z_range (z17 rfl T.z_len (z0c (pv 0)) (by rfl)) z04 z04 (by rfl) (by rfl) (by rfl) (by rfl)))))
   ·refine (z0e ?_)
    refine (z0k ?_)
    exact z1G
   ·exact z0B
  refine (z03 ?_ ?_)
  ·refine (z18 ?_ ?_ ?_)
   ·exact (z0S (z0U (zaH rfl rfl T.z_all (z0d (@z30 _ _ ([1]) _ _ _ _ _ _ _ _ _ _ rfl (z1C rfl rfl) (z5j (z07 (pv 0))) (fun l s0 H0 ex=>(@z26 _ _ _ _ ([]) (1) _ hnp sc__law_floor_good.nd rfl (by first | exact Or.inl rfl | exact Or.inr rfl) (by first | exact Or.inl rfl | exact Or.inr rfl) (by decide))) (fun l s0 H0 ex=>z3Q) (fun l s0 H0 ex=>(z2d T.ty_str rfl T.z_isinstance rfl T.z_str boot_str (z0c (pv 1)) (by decide) (by decide) (by rfl) (by rfl))) (z4x hnp rfl) (by intro _; rfl))) (by rfl)) (by intro _; rfl)))
   ·refine (z0e ?_)
    refine (z0k ?_)
    exact z1G
   ·exact z0B
  refine (z03 ?_ ?_)
  ·refine (z18 ?_ ?_ ?_)
   ·exact (zdD true rfl T.z_range (z17 rfl T.z_len (z0d (z0s z0p z0J (pv 0) (z0d z04) (fun _ _=>rfl))) (by rfl)) z04 z04 (by rfl) (by rfl) (by rfl) (by rfl))
   ·refine (z0e ?_)
    refine (z0k ?_)
    exact z1G
   ·exact z0B
  refine (z03 ?_ ?_)
  ·refine (z3a PassesOwn.never rfl ?_ ?_ ?_ (by intro _; rfl))
   ·exact (z5j (z07 (pv 0)))
   ·exact (@z0F _ _ _ ([]) (1) _ hnp sc__law_floor_good.nd rfl (by first | exact Or.inl rfl | exact Or.inr rfl) (Or.inl rfl))
   ·refine (z0e ?_)
    refine (z18 ?_ ?_ ?_)
    ·exact (z2P (z2m (z1f (z2V hq) z52 (z17 rfl T.z_len (z0c (pv 1)) (by rfl)) (z0d (z17 rfl T.z_len (z0d (z0s z0p z0J (pv 0) (z0d z04) (fun _ _=>rfl))) (by rfl))) (z0G _)) (z1z (z1f (z2V hq) z52 (@z30 _ _ ([2]) _ _ _ _ _ _ _ _ _ _ rfl (z1C rfl rfl) (z5j (z07 (pv 1))) (fun l s0 H0 ex=>(@z26 _ _ _ _ ([]) (2) _ hnp sc__law_floor_good.nd rfl (by first | exact Or.inl rfl | exact Or.inr rfl) (by first | exact Or.inl rfl | exact Or.inr rfl) (by decide))) (fun l s0 H0 ex=>(zat (z1f z3o z7Q (z07 (pv 2)) (z0d (z3c [97,98,99,100,101,102,103,104,105,106,107,108,109,110,111,112,113,114,115,116,117,118,119,120,121,122] (by decide +kernel))) rfl))) (fun l s0 H0 ex=>(z07 (pv 2))) (z4x hnp rfl) (by intro _; rfl)) (z0d (z1A z0w (by decide))) (z0G _)))))
    ·refine (z0e ?_)
     refine (z0k ?_)
     exact z1G
    ·exact z0B
  refine (z0e ?_)
  refine (z0k ?_)
  exact z1G) fun ss y h=>z0C h
def z22:DS:=(dSeq (dIf (dOr (dNot (dTr (eIsi "tuple" (bVar 2)))) (dOr (dTr (eOp pNe (eC1 pLen (bVar 2)) (bOf (eD (.int 2))))) (dNot (dTr (eIsi "str" (bOf (eOpF pIx 2 (bOf (eD (.int 0)))))))))) (dRet (eD (.bl false))) z0I) (dSeq (dIf (dOr (dTr (eOp pNe (eC1 pLen (bOf (eOpF pIx 2 (bOf (eD (.int 0)))))) (bOf (eD (.int 1))))) (dOr (dTr (eOp (pInS true) (eOpF pIx 2 (bOf (eD (.int 0)))) (bOf (eD (.str [97,98,99,100,101,102,103,104,105,106,107,108,109,110,111,112,113,114,115,116,117,118,119,120,121,122]))))) (dNot (dTr (z08 z0R [.val (eOpF pIx 2 (bOf (eD (.int 1))))]))))) (dRet (eD (.bl false))) z0I) (dRet (eAnd (eOp pEq (eC1 pLen (bOf (eOpF pIx 2 (bOf (eD (.int 1)))))) (bVar 0)) (eOp pEq (eC1 pLen (bOf (eOp pIx (eOpF pIx 2 (bOf (eD (.int 1)))) (bOf (eD (.int 0)))))) (bVar 1))))))
def z0m:DF:=gOf [] 3 z22
theorem z25:z1p z0m:=z0o
theorem z4V:FnScope ["high","wide","thing"] ["high","wide","thing"] (z05 z1Z):=⟨rfl,rfl,rfl,by decide +kernel,rfl,by decide +kernel,by decide +kernel⟩
theorem z51 {K:W0} (F:Fun K "_law_pair_good" "_law_pair_good" z1Z f fd) (hm:mg "_law_pair_good" = some (.ref f)) (hb:Binds K fd ["high","wide","thing"] []) (T:Txt ce K mg) (k__law_floor_good:KFn P w K mg base 1 "_law_floor_good" 1 z0R):KFn P w K mg base 2 "_law_pair_good" 3 z0m :=
 z1b (np:=[]) (fb:=z22) F hm hb z4V (fun c cdv A outer s H E hr hnp=>by
  have hq:=z1M hr
  refine (z03 ?_ ?_)
  ·refine (z18 ?_ ?_ ?_)
   ·exact (z2P (z2m (z0S (z0U (z2d T.ty_tuple rfl T.z_isinstance rfl T.z_tuple boot_tuple (z0c (pv 2)) (by decide) (by decide) (by rfl) (by rfl)) (by intro _; rfl))) (z2m (z1f (z2V hq) z52 (z17 rfl T.z_len (z0c (pv 2)) (by rfl)) (z0d z04) (z0G _)) (z1z (z0S (z0U (z2d T.ty_str rfl T.z_isinstance rfl T.z_str boot_str (z0d (z0s z0p z0J (pv 2) (z0d z04) (fun _ _=>rfl))) (by decide) (by decide) (by rfl) (by rfl)) (by intro _; rfl)))))))
   ·refine (z0e ?_)
    refine (z0k ?_)
    exact z1G
   ·exact z0B
  refine (z03 ?_ ?_)
  ·refine (z18 ?_ ?_ ?_)
   ·exact (z2P (z2m (z1f (z2V hq) z52 (z17 rfl T.z_len (z0d (z0s z0p z0J (pv 2) (z0d z04) (fun _ _=>rfl))) (by rfl)) (z0d z04) (z0G _)) (z2m (z1f z3o z7Q (z0s z0p z0J (pv 2) (z0d z04) (fun _ _=>rfl)) (z0d (z3c [97,98,99,100,101,102,103,104,105,106,107,108,109,110,111,112,113,114,115,116,117,118,119,120,121,122] (by decide +kernel))) rfl) (z1z (z0S (z0U (@z0h _ _ _ _ _ (1) _ _ _ _ _ k__law_floor_good z3r (hr.mono (by decide)) rfl (z06 (z0s z0p z0J (pv 2) (z0d z04) (fun _ _=>rfl)) z0q (by rfl)) rfl (by decide) (by rfl) (by rfl)) (by intro _; rfl)))))))
   ·refine (z0e ?_)
    refine (z0k ?_)
    exact z1G
   ·exact z0B
  refine (z0e ?_)
  refine (z0k ?_)
  exact (z3L (z5G (z2q hq) z4w (z17 rfl T.z_len (z0d (z0s z0p z0J (pv 2) (z0d z04) (fun _ _=>rfl))) (by rfl)) (z0c (pv 0)) (z0G _)) (z3J (z5G (z2q hq) z4w (z17 rfl T.z_len (z0d (zaD z0p z0J (z0s z0p z0J (pv 2) (z0d z04) (fun _ _=>rfl)) (z0d z04) (fun _ _=>rfl))) (by rfl)) (z0c (pv 1)) (z0G _))))) fun ss y h=>z0C h
def z2L:DS:=(dRet (eOp pNe (z2j [2] (iSq (eC1 (z4X []) (bVar 0))) (gNm [] 2) (dTr (eOp (pIn true) (eVar 2) (bVar 1))) (eVar 2)) (bOf (eLst aNil))))
def z0z:DF:=gOf [] 3 z2L
theorem z2t:z1p z0z:=z0o
theorem sc__law_strange:FnScope ["block","tiles","sign"] ["block","tiles"] (z05 z2D):=⟨rfl,rfl,rfl,by decide +kernel,rfl,by decide +kernel,by decide +kernel⟩
theorem z5U {K:W0} (F:Fun K "_law_strange" "_law_strange" z2D f fd) (hm:mg "_law_strange" = some (.ref f)) (hb:Binds K fd ["block","tiles"] []) (T:Txt ce K mg):KFn P w K mg base 1 "_law_strange" 2 z0z :=
 z1b (np:=[]) (fb:=z2L) F hm hb sc__law_strange (fun c cdv A outer s H E hr hnp=>by
  have hq:=z1M hr
  refine (z0e ?_)
  refine (z0k ?_)
  exact (z5G (z2V hq) z52 (@z30 _ _ ([2]) _ _ _ _ _ _ _ _ _ _ rfl (z1C rfl rfl) (z5j (z8p [] (z0c (pv 0)) (by decide +kernel) (by rfl) (by rfl) (by rfl) (by rfl))) (fun l s0 H0 ex=>(@z26 _ _ _ _ ([]) (2) _ hnp sc__law_strange.nd rfl (by first | exact Or.inl rfl | exact Or.inr rfl) (by first | exact Or.inl rfl | exact Or.inr rfl) (by decide))) (fun l s0 H0 ex=>(zat (z1f (z5Q hq) (z5w true) (z07 (pv 2)) (z0c (pv 1)) rfl))) (fun l s0 H0 ex=>(z07 (pv 2))) (z4x hnp rfl) (by intro _; rfl)) (z0d (z1A z0w (by decide))) (z0G _))) fun ss y h=>z0C h
abbrev z7j:DS:=(dSeq (dIf (dOr (dNot (dTr (z08 z0m [.val (eVar 0),.val (eVar 1),.val (eOpF pIx 2 (bVar 4))]))) (dTr (eOp (pIn false) (eOp pIx (eOpF pIx 2 (bVar 4)) (bOf (eD (.int 0)))) (bVar 3)))) (dRet (eVar 4)) z0I) (z0W 3 (eOp pIx (eOpF pIx 2 (bVar 4)) (bOf (eD (.int 0))))))
abbrev z7i:DS:=(dIf (dTr (z08 z0z [.val (eOp pIx (eOpF pIx 2 (bVar 4)) (bOf (eD (.int 1)))),.val (eVar 3)])) (dRet (eVar 4)) z0I)
def z14:DS:=(dSeq (dIf (dNot (dTr (z08 z0u [.val (eVar 0),.val (eVar 1)]))) (dRet (eC1 pNeg (bOf (eD (.int 1))))) z0I) (dSeq (dAsg (eLst aNil) (gNm [] 3)) (dSeq (dFor (z1o (eC1 pLen (bVar 2))) (gNm [] 4) z7j) (dSeq (dIf (dTr (eOpF pEq 3 (bOf (eLst aNil)))) (dRet (eD (.int 0))) z0I) (dSeq (dFor (z1o (eC1 pLen (bVar 2))) (gNm [] 4) z7i) (dRet (eD .non)))))))
def z0r:DF:=gOf [] 5 z14
theorem z3s:z1p z0r:=z0o
theorem sc__law_due_number:FnScope ["high","wide","things","tiles","spot"] ["high","wide","things"] (z05 z1K):=⟨rfl,rfl,rfl,by decide +kernel,rfl,by decide +kernel,by decide +kernel⟩
theorem z4u {K:W0} (F:Fun K "_law_due_number" "_law_due_number" z1K f fd) (hm:mg "_law_due_number" = some (.ref f)) (hb:Binds K fd ["high","wide","things"] []) (T:Txt ce K mg) (k__law_sizes_good:KFn P w K mg base 2 "_law_sizes_good" 2 z0u) (k__law_pair_good:KFn P w K mg base 2 "_law_pair_good" 3 z0m) (k__law_strange:KFn P w K mg base 1 "_law_strange" 2 z0z):KFn P w K mg base 3 "_law_due_number" 3 z0r :=
 z1b (np:=[]) (fb:=z14) F hm hb sc__law_due_number (fun c cdv A outer s H E hr hnp=>by
  have hq:=z1M hr
  refine (z03 ?_ ?_)
  ·refine (z18 ?_ ?_ ?_)
   ·exact (z0S (z0U (@z0h _ _ _ _ _ (2) _ _ _ _ _ k__law_sizes_good z1U (hr.mono (by decide)) rfl (z06 (z07 (pv 0)) (z06 (z07 (pv 1)) z0q (by rfl)) (by rfl)) rfl (by decide) (by rfl) (by rfl)) (by intro _; rfl)))
   ·refine (z0e ?_)
    refine (z0k ?_)
    exact (z7u (z0d z04))
   ·exact z0B
  refine (z03 ?_ ?_)
  ·exact (@z0E _ _ _ _ _ _ ([]) (3) _ hnp sc__law_due_number.nd rfl (Or.inl rfl) (z1A z0w (by decide)) rfl (Or.inl rfl))
  refine (z03 ?_ ?_)
  ·refine (z3a PassesOwn.never rfl ?_ ?_ ?_ (by intro _; rfl))
   ·exact (z2c rfl T.z_range (z17 rfl T.z_len (z0c (pv 2)) (by rfl)) (by rfl))
   ·exact (@z0F _ _ _ ([]) (4) _ hnp sc__law_due_number.nd rfl (Or.inl rfl) (Or.inl rfl))
   ·refine (z03 ?_ ?_)
    ·refine (z18 ?_ ?_ ?_)
     ·exact (z2P (z2m (z0S (z0U (@z0h _ _ _ _ _ (2) _ _ _ _ _ k__law_pair_good z25 (hr.mono (by decide)) rfl (z06 (z07 (pv 0)) (z06 (z07 (pv 1)) (z06 (z0s z0p z0J (pv 2) (z0c (pv 4)) (fun _ _=>rfl)) z0q (by rfl)) (by rfl)) (by rfl)) rfl (by decide) (by rfl) (by rfl)) (by intro _; rfl))) (z1z (z1f (z96 hq) (z5w false) (zaD z0p z0J (z0s z0p z0J (pv 2) (z0c (pv 4)) (fun _ _=>rfl)) (z0d z04) (fun _ _=>rfl)) (z0c (pv 3)) rfl))))
     ·refine (z0e ?_)
      refine (z0k ?_)
      exact (z07 (pv 4))
     ·exact z0B
    refine (z0e ?_)
    exact (z29 (pv 3) (zaD z0p z0J (z0s z0p z0J (pv 2) (z0c (pv 4)) (fun _ _=>rfl)) (z0d z04) (fun _ _=>rfl)) (by rfl) (by rfl) (by rfl) (by rfl) (by rfl))
  refine (z03 ?_ ?_)
  ·refine (z18 ?_ ?_ ?_)
   ·exact (z3g (z2q hq) z4w (pv 3) (z0d (z1A z0w (by decide))) (z0G _))
   ·refine (z0e ?_)
    refine (z0k ?_)
    exact z04
   ·exact z0B
  refine (z03 ?_ ?_)
  ·refine (z3a PassesOwn.never rfl ?_ ?_ ?_ (by intro _; rfl))
   ·exact (z2c rfl T.z_range (z17 rfl T.z_len (z0c (pv 2)) (by rfl)) (by rfl))
   ·exact (@z0F _ _ _ ([]) (4) _ hnp sc__law_due_number.nd rfl (Or.inl rfl) (Or.inl rfl))
   ·refine (z0e ?_)
    refine (z18 ?_ ?_ ?_)
    ·exact (z0U (@z0h _ _ _ _ _ (1) _ _ _ _ _ k__law_strange z2t (hr.mono (by decide)) rfl (z06 (zaD z0p z0J (z0s z0p z0J (pv 2) (z0c (pv 4)) (fun _ _=>rfl)) (z0d z04) (fun _ _=>rfl)) (z06 (z07 (pv 3)) z0q (by rfl)) (by rfl)) rfl (by decide) (by rfl) (by rfl)) (by intro _; rfl))
    ·refine (z0e ?_)
     refine (z0k ?_)
     exact (z07 (pv 4))
    ·exact z0B
  refine (z0e ?_)
  refine (z0k ?_)
  exact z3K) fun ss y h=>z0C h
def z3y:DS:=(dRet (eAnd (eIsi "int" (bVar 0)) (eAnd (eNot (eIsi "bool" (bVar 0))) (eOpF pLe 1 (bVar 0)))))
def z1x:DF:=gOf [] 2 z3y
theorem z5p:z1p z1x:=z0o
theorem z6T:FnScope ["thing","least"] ["thing","least"] (z05 z3j):=⟨rfl,rfl,rfl,by decide +kernel,rfl,by decide +kernel,by decide +kernel⟩
theorem z72 {K:W0} (F:Fun K "whole_from" "whole_from" z3j f fd) (hm:mg "whole_from" = some (.ref f)) (hb:Binds K fd ["thing","least"] []) (T:Txt ce K mg):KFn P w K mg base 1 "whole_from" 2 z1x :=
 z1b (np:=[]) (fb:=z3y) F hm hb z6T (fun c cdv A outer s H E hr hnp=>by
  have hq:=z1M hr
  refine (z0e ?_)
  refine (z0k ?_)
  exact (z3L (z2d T.ty_int rfl T.z_isinstance rfl T.z_int boot_int (z0c (pv 0)) (by decide) (by decide) (by rfl) (by rfl)) (z3L (z8W (z2d T.ty_bool rfl T.z_isinstance rfl T.z_bool boot_bool (z0c (pv 0)) (by decide) (by decide) (by rfl) (by rfl))) (z3J (z4U z5g z2g (pv 1) (z0c (pv 0)) (z0G _)))))) fun ss y h=>z0C h
def z2J:DS:=(dRet (eAnd (z08 z1x [.val (eVar 0),.val (eVar 1)]) (eOpF pLe 0 (bVar 2))))
def z0Z:DF:=gOf [] 3 z2J
theorem z2r:z1p z0Z:=z0o
theorem z5H:FnScope ["thing","least","most"] ["thing","least","most"] (z05 z2B):=⟨rfl,rfl,rfl,by decide +kernel,rfl,by decide +kernel,by decide +kernel⟩
theorem z5S {K:W0} (F:Fun K "whole_within" "whole_within" z2B f fd) (hm:mg "whole_within" = some (.ref f)) (hb:Binds K fd ["thing","least","most"] []) (T:Txt ce K mg) (k_whole_from:KFn P w K mg base 1 "whole_from" 2 z1x):KFn P w K mg base 2 "whole_within" 3 z0Z :=
 z1b (np:=[]) (fb:=z2J) F hm hb z5H (fun c cdv A outer s H E hr hnp=>by
  have hq:=z1M hr
  refine (z0e ?_)
  refine (z0k ?_)
  exact (z3L (@z0h _ _ _ _ _ (1) _ _ _ _ _ k_whole_from z5p (hr.mono (by decide)) rfl (z06 (z07 (pv 0)) (z06 (z07 (pv 1)) z0q (by rfl)) (by rfl)) rfl (by decide) (by rfl) (by rfl)) (z3J (z4U z5g z2g (pv 0) (z0c (pv 2)) (z0G _))))) fun ss y h=>z0C h
def z3z:DS:=(dSeq (dIf (dOr (dNot (dTr (z08 z0Z [.val (eVar 0),.val (eD (.int 1)),.val (eD (.int 4))]))) (dNot (dTr (z08 z0Z [.val (eVar 1),.val (eD (.int 1)),.val (eD (.int 4))])))) (dRet (eD (.bl false))) z0I) (dRet (eOr (eOpF pGt 0 (bOf (eD (.int 1)))) (eOpF pGt 1 (bOf (eD (.int 1)))))))
def z1j:DF:=gOf [] 2 z3z
theorem z5q:z1p z1j:=z0o
theorem z6U:FnScope ["high","wide"] ["high","wide"] (z05 z3k):=⟨rfl,rfl,rfl,by decide +kernel,rfl,by decide +kernel,by decide +kernel⟩
theorem z73 {K:W0} (F:Fun K "sizes_good" "sizes_good" z3k f fd) (hm:mg "sizes_good" = some (.ref f)) (hb:Binds K fd ["high","wide"] []) (T:Txt ce K mg) (k_whole_within:KFn P w K mg base 2 "whole_within" 3 z0Z):KFn P w K mg base 3 "sizes_good" 2 z1j :=
 z1b (np:=[]) (fb:=z3z) F hm hb z6U (fun c cdv A outer s H E hr hnp=>by
  have hq:=z1M hr
  refine (z03 ?_ ?_)
  ·refine (z18 ?_ ?_ ?_)
   ·exact (z2P (z2m (z0S (z0U (@z0h _ _ _ _ _ (2) _ _ _ _ _ k_whole_within z2r (hr.mono (by decide)) rfl (z06 (z07 (pv 0)) (z06 z04 (z06 (z2Z rfl T.g_MOST_SIZE (by decide)) z0q (by rfl)) (by rfl)) (by rfl)) rfl (by decide) (by rfl) (by rfl)) (by intro _; rfl))) (z1z (z0S (z0U (@z0h _ _ _ _ _ (2) _ _ _ _ _ k_whole_within z2r (hr.mono (by decide)) rfl (z06 (z07 (pv 1)) (z06 z04 (z06 (z2Z rfl T.g_MOST_SIZE (by decide)) z0q (by rfl)) (by rfl)) (by rfl)) rfl (by decide) (by rfl) (by rfl)) (by intro _; rfl))))))
   ·refine (z0e ?_)
    refine (z0k ?_)
    exact z1G
   ·exact z0B
  refine (z0e ?_)
  refine (z0k ?_)
  exact (zfF (z4U z97 z2g (pv 0) (z0d z04) (z0G _)) (z3J (z4U z97 z2g (pv 1) (z0d z04) (z0G _))))) fun ss y h=>z0C h
def z2K:DS:=(dSeq (dIf (dOr (dNot (dTr (eIsi "str" (bVar 0)))) (dNot (dTr (z4L pLe pLe (eD (.int 1)) (eC1 pLen (bVar 0)) (bVar 1))))) (dRet (eD (.bl false))) z0I) (dRet (eC1 pAll (bOf (z2j [2] (iSq (eVar 0)) (gNm [] 2) dYes (z4L pLe pLe (eD (.str [97])) (eVar 2) (bOf (eD (.str [122])))))))))
def z0y:DF:=gOf [] 3 z2K
theorem z2s:z1p z0y:=z0o
theorem sc_letters_good:FnScope ["thing","most","sign"] ["thing","most"] (z05 z2C):=⟨rfl,rfl,rfl,by decide +kernel,rfl,by decide +kernel,by decide +kernel⟩
theorem z5T {K:W0} (F:Fun K "letters_good" "letters_good" z2C f fd) (hm:mg "letters_good" = some (.ref f)) (hb:Binds K fd ["thing","most"] []) (T:Txt ce K mg):KFn P w K mg base 1 "letters_good" 2 z0y :=
 z1b (np:=[]) (fb:=z2K) F hm hb sc_letters_good (fun c cdv A outer s H E hr hnp=>by
  have hq:=z1M hr
  refine (z03 ?_ ?_)
  ·refine (z18 ?_ ?_ ?_)
   ·exact (z2P (z2m (z0S (z0U (z2d T.ty_str rfl T.z_isinstance rfl T.z_str boot_str (z0c (pv 0)) (by decide) (by decide) (by rfl) (by rfl)) (by intro _; rfl))) (z1z (z0S (z8S z5g z5g z2g z2g z04 (z17 rfl T.z_len (z0c (pv 0)) (by rfl)) (z0c (pv 1)) (by with_unfolding_all rfl))))))
   ·refine (z0e ?_)
    refine (z0k ?_)
    exact z1G
   ·exact z0B
  refine (z0e ?_)
  refine (z0k ?_)
  exact (zaH rfl rfl T.z_all (z0d (@z30 _ _ ([2]) _ _ _ _ _ _ _ _ _ _ rfl (z1C rfl rfl) (z5j (z07 (pv 0))) (fun l s0 H0 ex=>(@z26 _ _ _ _ ([]) (2) _ hnp sc_letters_good.nd rfl (by first | exact Or.inl rfl | exact Or.inr rfl) (by first | exact Or.inl rfl | exact Or.inr rfl) (by decide))) (fun l s0 H0 ex=>z3Q) (fun l s0 H0 ex=>(zcA z5g z5g z2g z2g (z3c [97] (by decide +kernel)) (z07 (pv 2)) (z0d (z3c [122] (by decide +kernel))) (by with_unfolding_all rfl))) (z4x hnp rfl) (by intro _; rfl))) (by rfl))) fun ss y h=>z0C h
def z3A:DS:=(dSeq (dIf (dOr (dNot (dTr (eIsi "tuple" (bVar 0)))) (dNot (dTr (z4L pLe pLe (eD (.int 1)) (eC1 pLen (bVar 0)) (bOf (eD (.int 64))))))) (dRet (eD (.bl false))) z0I) (dSeq (dFor (iSq (eVar 0)) (gNm [] 1) (dIf (dOr (dNot (dTr (z08 z0y [.val (eVar 1),.val (eD (.int 64))]))) (dTr (eOp pNe (eC1 pLen (bVar 1)) (bOf (eC1 pLen (bOf (eOpF pIx 0 (bOf (eD (.int 0)))))))))) (dRet (eD (.bl false))) z0I)) (dRet (eD (.bl true)))))
def z1y:DF:=gOf [] 2 z3A
theorem z5r:z1p z1y:=z0o
theorem sc_floor_good:FnScope ["thing","row"] ["thing"] (z05 z3l):=⟨rfl,rfl,rfl,by decide +kernel,rfl,by decide +kernel,by decide +kernel⟩
theorem z74 {K:W0} (F:Fun K "floor_good" "floor_good" z3l f fd) (hm:mg "floor_good" = some (.ref f)) (hb:Binds K fd ["thing"] []) (T:Txt ce K mg) (k_letters_good:KFn P w K mg base 1 "letters_good" 2 z0y):KFn P w K mg base 2 "floor_good" 1 z1y :=
 z1b (np:=[]) (fb:=z3A) F hm hb sc_floor_good (fun c cdv A outer s H E hr hnp=>by
  have hq:=z1M hr
  refine (z03 ?_ ?_)
  ·refine (z18 ?_ ?_ ?_)
   ·exact (z2P (z2m (z0S (z0U (z2d T.ty_tuple rfl T.z_isinstance rfl T.z_tuple boot_tuple (z0c (pv 0)) (by decide) (by decide) (by rfl) (by rfl)) (by intro _; rfl))) (z1z (z0S (z8S z5g z5g z2g z2g z04 (z17 rfl T.z_len (z0c (pv 0)) (by rfl)) (z0d (z2Z rfl T.g_MOST_TILES (by decide))) (by with_unfolding_all rfl))))))
   ·refine (z0e ?_)
    refine (z0k ?_)
    exact z1G
   ·exact z0B
  refine (z03 ?_ ?_)
  ·refine (z3a PassesOwn.never rfl ?_ ?_ ?_ (by intro _; rfl))
   ·exact (z5j (z07 (pv 0)))
   ·exact (@z0F _ _ _ ([]) (1) _ hnp sc_floor_good.nd rfl (Or.inl rfl) (Or.inl rfl))
   ·refine (z0e ?_)
    refine (z18 ?_ ?_ ?_)
    ·exact (z2P (z2m (z0S (z0U (@z0h _ _ _ _ _ (1) _ _ _ _ _ k_letters_good z2s (hr.mono (by decide)) rfl (z06 (z07 (pv 1)) (z06 (z2Z rfl T.g_MOST_TILES (by decide)) z0q (by rfl)) (by rfl)) rfl (by decide) (by rfl) (by rfl)) (by intro _; rfl))) (z1z (z1f (z2V hq) z52 (z17 rfl T.z_len (z0c (pv 1)) (by rfl)) (z0d (z17 rfl T.z_len (z0d (z0s z0p z0J (pv 0) (z0d z04) (fun _ _=>rfl))) (by rfl))) (z0G _)))))
    ·refine (z0e ?_)
     refine (z0k ?_)
     exact z1G
    ·exact z0B
  refine (z0e ?_)
  refine (z0k ?_)
  exact z1G) fun ss y h=>z0C h
def z48:DS:=(dRet (z08 z0y [.val (eVar 0),.val (eD (.int 1))]))
def z1P:DF:=gOf [] 1 z48
theorem z61:z1p z1P:=z0o
theorem z7v:FnScope ["thing"] ["thing"] (z05 z3R):=⟨rfl,rfl,rfl,by decide +kernel,rfl,by decide +kernel,by decide +kernel⟩
theorem z7L {K:W0} (F:Fun K "tile_good" "tile_good" z3R f fd) (hm:mg "tile_good" = some (.ref f)) (hb:Binds K fd ["thing"] []) (T:Txt ce K mg) (k_letters_good:KFn P w K mg base 1 "letters_good" 2 z0y):KFn P w K mg base 2 "tile_good" 1 z1P :=
 z1b (np:=[]) (fb:=z48) F hm hb z7v (fun c cdv A outer s H E hr hnp=>by
  have hq:=z1M hr
  refine (z0e ?_)
  refine (z0k ?_)
  exact (@z0h _ _ _ _ _ (1) _ _ _ _ _ k_letters_good z2s (hr.mono (by decide)) rfl (z06 (z07 (pv 0)) (z06 z04 z0q (by rfl)) (by rfl)) rfl (by decide) (by rfl) (by rfl))) fun ss y h=>z0C h
def z49:DS:=(dSeq (dIf (dOr (dNot (dTr (eIsi "tuple" (bVar 2)))) (dTr (eOp pNe (eC1 pLen (bVar 2)) (bOf (eD (.int 2)))))) (dRet (eD (.bl false))) z0I) (dSeq (dAsg (eVar 2) (gTp 2 (z0j (gNm [] 3) (z0j (gNm [] 4) z1d)))) (dSeq (dIf (dOr (dNot (dTr (z08 z1P [.val (eVar 3)]))) (dNot (dTr (z08 z1y [.val (eVar 4)])))) (dRet (eD (.bl false))) z0I) (dRet (eAnd (eOp pEq (eC1 pLen (bVar 4)) (bVar 0)) (eOp pEq (eC1 pLen (bOf (eOpF pIx 4 (bOf (eD (.int 0)))))) (bVar 1)))))))
def z1Q:DF:=gOf [] 5 z49
theorem z62:z1p z1Q:=z0o
theorem sc_pair_good:FnScope ["high","wide","thing","tile","block"] ["high","wide","thing"] (z05 z3S):=⟨rfl,rfl,rfl,by decide +kernel,rfl,by decide +kernel,by decide +kernel⟩
theorem z7M {K:W0} (F:Fun K "pair_good" "pair_good" z3S f fd) (hm:mg "pair_good" = some (.ref f)) (hb:Binds K fd ["high","wide","thing"] []) (T:Txt ce K mg) (k_floor_good:KFn P w K mg base 2 "floor_good" 1 z1y) (k_tile_good:KFn P w K mg base 2 "tile_good" 1 z1P):KFn P w K mg base 3 "pair_good" 3 z1Q :=
 z1b (np:=[]) (fb:=z49) F hm hb sc_pair_good (fun c cdv A outer s H E hr hnp=>by
  have hq:=z1M hr
  refine (z03 ?_ ?_)
  ·refine (z18 ?_ ?_ ?_)
   ·exact (z2P (z2m (z0S (z0U (z2d T.ty_tuple rfl T.z_isinstance rfl T.z_tuple boot_tuple (z0c (pv 2)) (by decide) (by decide) (by rfl) (by rfl)) (by intro _; rfl))) (z1z (z1f (z2V hq) z52 (z17 rfl T.z_len (z0c (pv 2)) (by rfl)) (z0d z04) (z0G _)))))
   ·refine (z0e ?_)
    refine (z0k ?_)
    exact z1G
   ·exact z0B
  refine (z03 ?_ ?_)
  ·refine (z7q ?_ ?_ (by rfl) (by rfl) (by rfl))
   ·exact (z07 (pv 2))
   ·exact (z5d rfl (z0X (@z0F _ _ _ ([]) (3) _ hnp sc_pair_good.nd rfl (Or.inl rfl) (Or.inl rfl)) (z0X (@z0F _ _ _ ([]) (4) _ hnp sc_pair_good.nd rfl (Or.inl rfl) (Or.inl rfl)) z3i (by rfl)) (by rfl)) (by rfl) (by rfl))
  refine (z03 ?_ ?_)
  ·refine (z18 ?_ ?_ ?_)
   ·exact (z2P (z2m (z0S (z0U (@z0h _ _ _ _ _ (2) _ _ _ _ _ k_tile_good z61 (hr.mono (by decide)) rfl (z06 (z07 (pv 3)) z0q (by rfl)) rfl (by decide) (by rfl) (by rfl)) (by intro _; rfl))) (z1z (z0S (z0U (@z0h _ _ _ _ _ (2) _ _ _ _ _ k_floor_good z5r (hr.mono (by decide)) rfl (z06 (z07 (pv 4)) z0q (by rfl)) rfl (by decide) (by rfl) (by rfl)) (by intro _; rfl))))))
   ·refine (z0e ?_)
    refine (z0k ?_)
    exact z1G
   ·exact z0B
  refine (z0e ?_)
  refine (z0k ?_)
  exact (z3L (z5G (z2q hq) z4w (z17 rfl T.z_len (z0c (pv 4)) (by rfl)) (z0c (pv 0)) (z0G _)) (z3J (z5G (z2q hq) z4w (z17 rfl T.z_len (z0d (z0s z0p z0J (pv 4) (z0d z04) (fun _ _=>rfl))) (by rfl)) (z0c (pv 1)) (z0G _))))) fun ss y h=>z0C h
abbrev unI:DS:=(dIf (dTr (eOp (pIn true) (eVar 4) (bVar 1))) (dRet (eVar 2)) z0I)
abbrev unB:DS:=(dFor (iSq (eC1 (z4X []) (bOf (eOpF pIx 3 (bOf (eD (.int 1))))))) (gNm [] 4) unI)
def z1l:DS:=(dSeq (dAsg (eC1 z3X (bVar 0)) (gNm [] 1)) (dSeq (dFor (z82 (eVar 0)) (gTp 2 (z0j (gNm [] 2) (z0j (gNm [] 3) z1d))) unB) (dRet (eD .non))))
def z0Q:DF:=gOf [] 5 z1l
theorem z3p:z1p z0Q:=z0o
theorem sc_first_unblocked:FnScope ["pairs","block_of","place","pair","tile"] ["pairs"] (z05 z1H):=⟨rfl,rfl,rfl,by decide +kernel,rfl,by decide +kernel,by decide +kernel⟩
theorem z4r {K:W0} (F:Fun K "first_unblocked" "first_unblocked" z1H f fd) (hm:mg "first_unblocked" = some (.ref f)) (hb:Binds K fd ["pairs"] []) (T:Txt ce K mg):KFn P w K mg base 1 "first_unblocked" 1 z0Q :=
 z1b (np:=[]) (fb:=z1l) F hm hb sc_first_unblocked (fun c cdv A outer s H E hr hnp=>by
  have hq:=z1M hr
  refine (z03 ?_ ?_)
  ·exact (@z0E _ _ _ _ _ _ ([]) (1) _ hnp sc_first_unblocked.nd rfl (Or.inl rfl) (zaE rfl rfl T.z_dict (z0c (pv 0)) (by rfl)) rfl (Or.inl rfl))
  refine (z03 ?_ ?_)
  ·refine (z3a PassesOwn.never rfl ?_ ?_ ?_ (by intro _; rfl))
   ·exact (zaA rfl T.z_enumerate (z07 (pv 0)) (by rfl))
   ·exact (z5d rfl (z0X (@z0F _ _ _ ([]) (2) _ hnp sc_first_unblocked.nd rfl (Or.inl rfl) (Or.inl rfl)) (z0X (@z0F _ _ _ ([]) (3) _ hnp sc_first_unblocked.nd rfl (Or.inl rfl) (Or.inl rfl)) z3i (by rfl)) (by rfl)) (by rfl) (by rfl))
   ·refine (z0e ?_)
    refine (z3a PassesOwn.never rfl ?_ ?_ ?_ (by intro _; rfl))
    ·exact (z5j (z8p [] (z0d (z0s z0p z0J (pv 3) (z0d z04) (fun _ _=>rfl))) (by decide +kernel) (by rfl) (by rfl) (by rfl) (by rfl)))
    ·exact (@z0F _ _ _ ([]) (4) _ hnp sc_first_unblocked.nd rfl (Or.inl rfl) (Or.inl rfl))
    ·refine (z0e ?_)
     refine (z18 ?_ ?_ ?_)
     ·exact (z1f (z5Q hq) (z5w true) (z07 (pv 4)) (z0c (pv 1)) rfl)
     ·refine (z0e ?_)
      refine (z0k ?_)
      exact (z07 (pv 2))
     ·exact z0B
  refine (z0e ?_)
  refine (z0k ?_)
  exact z3K) fun ss y h=>z0C h
abbrev ruB:DS:=(dSeq (dIf (dOr (dNot (dTr (z08 z1Q [.val (eVar 0),.val (eVar 1),.val (eVar 5)]))) (dTr (eOp (pIn false) (eOpF pIx 5 (bOf (eD (.int 0)))) (bVar 3)))) (z1B [78,111,82,117,108,101] [[110,117,109,98,101,114]] (z0b (eVar 4) aNil)) z0I) (zdm 3 (eOpF pIx 5 (bOf (eD (.int 0)))) (eD (.bl true))))
def z2k:DS:=(dSeq (dIf (dNot (dTr (z08 z1j [.val (eVar 0),.val (eVar 1)]))) (z1B [78,111,82,117,108,101] [[110,117,109,98,101,114]] (z0b (eC1 pNeg (bOf (eD (.int 1)))) aNil)) z0I) (dSeq (dAsg zbS (gNm [] 3)) (dSeq (dFor (z82 (eVar 2)) (gTp 2 (z0j (gNm [] 4) (z0j (gNm [] 5) z1d))) ruB) (dSeq (dIf (dTr (eOp pEq (eC1 pLen (bVar 2)) (bOf (eD (.int 0))))) (z1B [78,111,82,117,108,101] [[110,117,109,98,101,114]] (z0b (eD (.int 0)) aNil)) z0I) (dSeq (dAsg (z08 z0Q [.val (eVar 2)]) (gNm [] 6)) (dSeq (dIf (dTr (eOp (pIsN true) (eVar 6) (bOf (eD .non)))) (z1B [78,111,82,117,108,101] [[110,117,109,98,101,114]] (z0b (eVar 6) aNil)) z0I) (dRet (eTup (z0b (eVar 0) (z0b (eVar 1) (z0b (eC1 z24 (bOf (eC1 z3N (bVar 2)))) aNil)))))))))))
def z1k:DX:=gOfX [] 7 z2k
theorem z79:z9y z1k:=za1
theorem sc_rule_of:FnScope ["high","wide","things","seen","place","thing","lacking"] ["high","wide","things"] (z05 z5K):=⟨rfl,rfl,rfl,by decide +kernel,rfl,by decide +kernel,by decide +kernel⟩
theorem z9Q {K:W0} (F:Fun K "rule_of" "rule_of" z5K f fd) (hm:mg "rule_of" = some (.ref f)) (hb:Binds K fd ["high","wide","things"] []) (T:Txt ce K mg) (k_sizes_good:KFn P w K mg base 3 "sizes_good" 2 z1j) (k_pair_good:KFn P w K mg base 3 "pair_good" 3 z1Q) (k_first_unblocked:KFn P w K mg base 1 "first_unblocked" 1 z0Q) (n_g:IniK P w K mg base (ce [78,111,82,117,108,101]) ["number"]):KFnX P w K mg base 4 "rule_of" 3 z1k :=
 zf7 (np:=[]) (fb:=z2k) F hm hb sc_rule_of (fun c cdv A outer s H E hr hnp hxo=>by
  have hq:=z1M hr
  refine (z03 ?_ ?_)
  ·refine (z18 ?_ ?_ ?_)
   ·exact (z0S (z0U (@z0h _ _ _ _ _ (3) _ _ _ _ _ k_sizes_good z5q (hr.mono (by decide)) rfl (z06 (z07 (pv 0)) (z06 (z07 (pv 1)) z0q (by rfl)) (by rfl)) rfl (by decide) (by rfl) (by rfl)) (by intro _; rfl)))
   ·refine (z0e ?_)
    exact (z4d [78,111,82,117,108,101] [[110,117,109,98,101,114]] n_g (hr.mono (by decide)) rfl rfl T.c_g (z02 (z7u (z0d z04)) z0w (by rfl)) hxo (by decide) (by decide +kernel) (by decide) (by decide +kernel) (by decide) (by rfl) (by rfl) (by rfl))
   ·exact z0B
  refine (z03 ?_ ?_)
  ·exact (@z0E _ _ _ _ _ _ ([]) (3) _ hnp sc_rule_of.nd rfl (Or.inl rfl) zcy rfl (Or.inl rfl))
  refine (z03 ?_ ?_)
  ·refine (zen rfl ?_ ?_ ?_ (by intro _; rfl))
   ·exact (zaA rfl T.z_enumerate (z07 (pv 2)) (by rfl))
   ·exact (z5d rfl (z0X (@z0F _ _ _ ([]) (4) _ hnp sc_rule_of.nd rfl (Or.inl rfl) (Or.inl rfl)) (z0X (@z0F _ _ _ ([]) (5) _ hnp sc_rule_of.nd rfl (Or.inl rfl) (Or.inl rfl)) z3i (by rfl)) (by rfl)) (by rfl) (by rfl))
   ·have hxo:=zci hxo rfl rfl rfl
    refine (z03 ?_ ?_)
    ·refine (z18 ?_ ?_ ?_)
     ·exact (z2P (z2m (z0S (z0U (@z0h _ _ _ _ _ (3) _ _ _ _ _ k_pair_good z62 (hr.mono (by decide)) rfl (z06 (z07 (pv 0)) (z06 (z07 (pv 1)) (z06 (z07 (pv 5)) z0q (by rfl)) (by rfl)) (by rfl)) rfl (by decide) (by rfl) (by rfl)) (by intro _; rfl))) (z1z (z1f (z96 hq) (z5w false) (z0s z0p z0J (pv 5) (z0d z04) (fun _ _=>rfl)) (z0c (pv 3)) rfl))))
     ·refine (z0e ?_)
      exact (z4d [78,111,82,117,108,101] [[110,117,109,98,101,114]] n_g (hr.mono (by decide)) rfl rfl T.c_g (z02 (z07 (pv 4)) z0w (by rfl)) hxo (by decide) (by decide +kernel) (by decide) (by decide +kernel) (by decide) (by rfl) (by rfl) (by rfl))
     ·exact z0B
    refine (z0e ?_)
    exact (zel hq (pv 3) (z0s z0p z0J (pv 5) (z0d z04) (fun _ _=>rfl)) z1G (by rfl))
  refine (z03 ?_ ?_)
  ·refine (z18 ?_ ?_ ?_)
   ·exact (z1f (z2q hq) z4w (z17 rfl T.z_len (z0c (pv 2)) (by rfl)) (z0d z04) (z0G _))
   ·refine (z0e ?_)
    exact (z4d [78,111,82,117,108,101] [[110,117,109,98,101,114]] n_g (hr.mono (by decide)) rfl rfl T.c_g (z02 z04 z0w (by rfl)) hxo (by decide) (by decide +kernel) (by decide) (by decide +kernel) (by decide) (by rfl) (by rfl) (by rfl))
   ·exact z0B
  refine (z03 ?_ ?_)
  ·exact (@z0E _ _ _ _ _ _ ([]) (6) _ hnp sc_rule_of.nd rfl (Or.inl rfl) (@z0h _ _ _ _ _ (1) _ _ _ _ _ k_first_unblocked z3p (hr.mono (by decide)) rfl (z06 (z07 (pv 2)) z0q (by rfl)) rfl (by decide) (by rfl) (by rfl)) rfl (Or.inl rfl))
  refine (z03 ?_ ?_)
  ·refine (z18 ?_ ?_ ?_)
   ·exact (z1f zbg zbl (z07 (pv 6)) (z0d z3K) rfl)
   ·refine (z0e ?_)
    exact (z4d [78,111,82,117,108,101] [[110,117,109,98,101,114]] n_g (hr.mono (by decide)) rfl rfl T.c_g (z02 (z07 (pv 6)) z0w (by rfl)) hxo (by decide) (by decide +kernel) (by decide) (by decide +kernel) (by decide) (by rfl) (by rfl) (by rfl))
   ·exact z0B
  refine (z0e ?_)
  refine (z0k ?_)
  exact (z1v (z02 (z07 (pv 0)) (z02 (z07 (pv 1)) (z02 (z5u rfl T.z_tuple (z0d (z8V rfl T.z_sorted (z0c (pv 2)))) (by rfl)) z0w (by rfl)) (by rfl)) (by rfl)) (by decide))) fun ss y h=>z9l h
def z21:DS:=(dSeq (dIf (dOr (dNot (dTr (eIsi "tuple" (bVar 0)))) (dOr (dTr (eOp pNe (eC1 pLen (bVar 0)) (bOf (eD (.int 3))))) (dNot (dTr (z08 z0u [.val (eOpF pIx 0 (bOf (eD (.int 0)))),.val (eOpF pIx 0 (bOf (eD (.int 1))))]))))) (dRet (eD (.bl false))) z0I) (dSeq (dIf (dOr (dNot (dTr (eIsi "tuple" (bOf (eOpF pIx 0 (bOf (eD (.int 2)))))))) (dTr (eOp pEq (eOpF pIx 0 (bOf (eD (.int 2)))) (bOf (eTup aNil))))) (dRet (eD (.bl false))) z0I) (dSeq (dIf (dNot (dTr (eC1 pAll (bOf (z2j [3] (iSq (eOpF pIx 0 (bOf (eD (.int 2))))) (gNm [] 3) dYes (z08 z0m [.val (eOpF pIx 0 (bOf (eD (.int 0)))),.val (eOpF pIx 0 (bOf (eD (.int 1)))),.val (eVar 3)])))))) (dRet (eD (.bl false))) z0I) (dSeq (dAsg (z2j [3] (iSq (eOpF pIx 0 (bOf (eD (.int 2))))) (gNm [] 3) dYes (eOpF pIx 3 (bOf (eD (.int 0))))) (gNm [] 1)) (dSeq (dFor (z43 (eD (.int 1)) (eC1 pLen (bVar 1))) (gNm [] 2) (dIf (dTr (eOp pGe (eOpF pIx 1 (bOf (eOpF pSub 2 (bOf (eD (.int 1)))))) (bOf (eOpF pIx 1 (bVar 2))))) (dRet (eD (.bl false))) z0I)) (dRet (eNot (eC1 pAny (bOf (z2j [3] (iSq (eOpF pIx 0 (bOf (eD (.int 2))))) (gNm [] 3) dYes (z08 z0z [.val (eOpF pIx 3 (bOf (eD (.int 1)))),.val (eVar 1)])))))))))))
def z0D:DF:=gOf [] 4 z21
theorem z3H:z1p z0D:=z0o
theorem sc__law_rule_good:FnScope ["thing","tiles","k","pair"] ["thing"] (z05 z1Y):=⟨rfl,rfl,rfl,by decide +kernel,rfl,by decide +kernel,by decide +kernel⟩
theorem z50 {K:W0} (F:Fun K "_law_rule_good" "_law_rule_good" z1Y f fd) (hm:mg "_law_rule_good" = some (.ref f)) (hb:Binds K fd ["thing"] []) (T:Txt ce K mg) (k__law_sizes_good:KFn P w K mg base 2 "_law_sizes_good" 2 z0u) (k__law_pair_good:KFn P w K mg base 2 "_law_pair_good" 3 z0m) (k__law_strange:KFn P w K mg base 1 "_law_strange" 2 z0z):KFn P w K mg base 3 "_law_rule_good" 1 z0D :=
 z1b (np:=[]) (fb:=z21) F hm hb sc__law_rule_good (fun c cdv A outer s H E hr hnp=>by
  have hq:=z1M hr
  refine (z03 ?_ ?_)
  ·refine (z18 ?_ ?_ ?_)
   ·exact (z2P (z2m (z0S (z0U (z2d T.ty_tuple rfl T.z_isinstance rfl T.z_tuple boot_tuple (z0c (pv 0)) (by decide) (by decide) (by rfl) (by rfl)) (by intro _; rfl))) (z2m (z1f (z2V hq) z52 (z17 rfl T.z_len (z0c (pv 0)) (by rfl)) (z0d z04) (z0G _)) (z1z (z0S (z0U (@z0h _ _ _ _ _ (2) _ _ _ _ _ k__law_sizes_good z1U (hr.mono (by decide)) rfl (z06 (z0s z0p z0J (pv 0) (z0d z04) (fun _ _=>rfl)) (z06 (z0s z0p z0J (pv 0) (z0d z04) (fun _ _=>rfl)) z0q (by rfl)) (by rfl)) rfl (by decide) (by rfl) (by rfl)) (by intro _; rfl)))))))
   ·refine (z0e ?_)
    refine (z0k ?_)
    exact z1G
   ·exact z0B
  refine (z03 ?_ ?_)
  ·refine (z18 ?_ ?_ ?_)
   ·exact (z2P (z2m (z0S (z0U (z2d T.ty_tuple rfl T.z_isinstance rfl T.z_tuple boot_tuple (z0d (z0s z0p z0J (pv 0) (z0d z04) (fun _ _=>rfl))) (by decide) (by decide) (by rfl) (by rfl)) (by intro _; rfl))) (z1z (z1f (z2q hq) z4w (z0s z0p z0J (pv 0) (z0d z04) (fun _ _=>rfl)) (z0d (z1v z0w (by decide))) (z0G _)))))
   ·refine (z0e ?_)
    refine (z0k ?_)
    exact z1G
   ·exact z0B
  refine (z03 ?_ ?_)
  ·refine (z18 ?_ ?_ ?_)
   ·exact (z0S (z0U (zaH rfl rfl T.z_all (z0d (@z30 _ _ ([3]) _ _ _ _ _ _ _ _ _ _ rfl (z1C rfl rfl) (z5j (z0s z0p z0J (pv 0) (z0d z04) (fun _ _=>rfl))) (fun l s0 H0 ex=>(@z26 _ _ _ _ ([]) (3) _ hnp sc__law_rule_good.nd rfl (by first | exact Or.inl rfl | exact Or.inr rfl) (by first | exact Or.inl rfl | exact Or.inr rfl) (by decide))) (fun l s0 H0 ex=>z3Q) (fun l s0 H0 ex=>(@z0h _ _ _ _ _ (2) _ _ _ _ _ k__law_pair_good z25 (hr.mono (by decide)) rfl (z06 (z0s z0p z0J (pv 0) (z0d z04) (fun _ _=>rfl)) (z06 (z0s z0p z0J (pv 0) (z0d z04) (fun _ _=>rfl)) (z06 (z07 (pv 3)) z0q (by rfl)) (by rfl)) (by rfl)) rfl (by decide) (by rfl) (by rfl))) (z4x hnp rfl) (by intro _; rfl))) (by rfl)) (by intro _; rfl)))
   ·refine (z0e ?_)
    refine (z0k ?_)
    exact z1G
   ·exact z0B
  refine (z03 ?_ ?_)
  ·exact (@z0E _ _ _ _ _ _ ([]) (1) _ hnp sc__law_rule_good.nd rfl (by first | exact Or.inl rfl | exact Or.inr rfl) (@z30 _ _ ([3]) _ _ _ _ _ _ _ _ _ _ rfl (z1C rfl rfl) (z5j (z0s z0p z0J (pv 0) (z0d z04) (fun _ _=>rfl))) (fun l s0 H0 ex=>(@z26 _ _ _ _ ([]) (3) _ hnp sc__law_rule_good.nd rfl (by first | exact Or.inl rfl | exact Or.inr rfl) (by first | exact Or.inl rfl | exact Or.inr rfl) (by decide))) (fun l s0 H0 ex=>z3Q) (fun l s0 H0 ex=>(z0s z0p z0J (pv 3) (z0d z04) (fun _ _=>rfl))) (z4x hnp rfl) (by intro _; rfl)) rfl (Or.inl rfl))
  refine (z03 ?_ ?_)
  ·refine (z3a PassesOwn.never rfl ?_ ?_ ?_ (by intro _; rfl))
   ·exact (zaz rfl T.z_range z04 (z17 rfl T.z_len (z0c (pv 1)) (by rfl)) (by rfl) (by rfl) (by rfl))
   ·exact (@z0F _ _ _ ([]) (2) _ hnp sc__law_rule_good.nd rfl (by first | exact Or.inl rfl | exact Or.inr rfl) (Or.inl rfl))
   ·refine (z0e ?_)
    refine (z18 ?_ ?_ ?_)
    ·exact (z1f zdN z2g (z0s z0p z0J (pv 1) (z0d (z2o zdM zdO (pv 2) (z0d z04))) (fun _ _=>rfl)) (z0d (z0s z0p z0J (pv 1) (z0c (pv 2)) (fun _ _=>rfl))) (z0G _))
    ·refine (z0e ?_)
     refine (z0k ?_)
     exact z1G
    ·exact z0B
  refine (z0e ?_)
  refine (z0k ?_)
  exact (z8W (zfI rfl rfl T.z_any (z0d (@z30 _ _ ([3]) _ _ _ _ _ _ _ _ _ _ rfl (z1C rfl rfl) (z5j (z0s z0p z0J (pv 0) (z0d z04) (fun _ _=>rfl))) (fun l s0 H0 ex=>(@z26 _ _ _ _ ([]) (3) _ hnp sc__law_rule_good.nd rfl (by first | exact Or.inl rfl | exact Or.inr rfl) (by first | exact Or.inl rfl | exact Or.inr rfl) (by decide))) (fun l s0 H0 ex=>z3Q) (fun l s0 H0 ex=>(@z0h _ _ _ _ _ (1) _ _ _ _ _ k__law_strange z2t (hr.mono (by decide)) rfl (z06 (z0s z0p z0J (pv 3) (z0d z04) (fun _ _=>rfl)) (z06 (z07 (pv 1)) z0q (by rfl)) (by rfl)) rfl (by decide) (by rfl) (by rfl))) (z4x hnp rfl) (by intro _; rfl))) (by rfl)))) fun ss y h=>z0C h
def z2N (ce:Tx→Nat):DS:=(dSeq (dAsg (eLst (z0b (eIsC ce ys (fun z=>z == [78,111,70,108,111,111,114]) (bVar 0)) (z0b (eIsC ce ys (fun z=>z == [78,111,80,108,97,99,101]) (bVar 0)) (z0b (eIsC ce ys (fun z=>z == [78,111,78,117,109,98,101,114]) (bVar 0)) (z0b (eIsC ce ys (fun z=>z == [78,111,82,111,119]) (bVar 0)) aNil))))) (gNm [] 1)) (dSeq (dAsg (eOpF pAdd 1 (bOf (eLst (z0b (eIsC ce ys (fun z=>z == [85,110,108,105,107,101]) (bVar 0)) (z0b (eIsC ce ys (fun z=>z == [78,111,84,105,108,101]) (bVar 0)) (z0b (eIsC ce ys (fun z=>z == [78,111,82,117,108,101]) (bVar 0)) (z0b (eIsC ce ys (fun z=>z == [78,111,84,101,120,116]) (bVar 0)) aNil))))))) (gNm [] 1)) (dSeq (z0W 1 (eIsC ce ys (fun z=>z == [84,111,111,71,114,101,97,116]) (bVar 0))) (dSeq (dIf (dOr (dNot (dTr (eIsC ce ys (fun _=>true) (bVar 0)))) (dTr (eOp pNe (eC1 z6G (bVar 1)) (bOf (eD (.int 1)))))) (dRet (eD (.str [111,116,104,101,114]))) z0I) (dSeq (dAsg (za5 [.str [102,108,111,111,114],.str [112,108,97,99,101],.str [110,117,109,98,101,114],.str [114,111,119],.str [117,110,108,105,107,101],.str [116,105,108,101],.str [114,117,108,101],.str [116,101,120,116],.str [103,114,101,97,116]]) (gNm [] 2)) (dRet (eOpF pIx 2 (bOf (eC1 z4Y (bVar 1))))))))))
def z11 (ce:Tx→Nat):DF:=gOf [] 3 (z2N ce)
theorem z4C {ce:Tx→Nat}:z1p (z11 ce):=z0o
theorem sc__law_kind_of:FnScope ["e","marks","words"] ["e"] (z05 z2F):=⟨rfl,rfl,rfl,by decide +kernel,rfl,by decide +kernel,by decide +kernel⟩
theorem z5k {K:W0} (F:Fun K "_law_kind_of" "_law_kind_of" z2F f fd) (hm:mg "_law_kind_of" = some (.ref f)) (hb:Binds K fd ["e"] []) (T:Txt ce K mg):KFnH P w K mg base 1 "_law_kind_of" 1 (z11 ce) :=
 zbJ (np:=[]) (fb:=(z2N ce)) F hm hb sc__law_kind_of (fun c cdv A outer s H E hr hnp=>by
  have hq:=zdV hr
  refine (z03 ?_ ?_)
  ·exact (@z0E _ _ _ _ _ _ ([]) (1) _ hnp sc__law_kind_of.nd rfl (Or.inl rfl) (z1A (z02 (z4e T.i_a rfl T.z_isinstance rfl T.c_a (z0c (pv 0)) (by decide) (by rfl) (by rfl)) (z02 (z4e T.i_b rfl T.z_isinstance rfl T.c_b (z0c (pv 0)) (by decide) (by rfl) (by rfl)) (z02 (z4e T.i_c rfl T.z_isinstance rfl T.c_c (z0c (pv 0)) (by decide) (by rfl) (by rfl)) (z02 (z4e T.i_d rfl T.z_isinstance rfl T.c_d (z0c (pv 0)) (by decide) (by rfl) (by rfl)) z0w (by rfl)) (by rfl)) (by rfl)) (by rfl)) (by decide)) rfl (Or.inl rfl))
  refine (z03 ?_ ?_)
  ·exact (@z0E _ _ _ _ _ _ ([]) (1) _ hnp sc__law_kind_of.nd rfl (Or.inl rfl) (z2o z0O z1e (pv 1) (z0d (z1A (z02 (z4e T.i_e rfl T.z_isinstance rfl T.c_e (z0c (pv 0)) (by decide) (by rfl) (by rfl)) (z02 (z4e T.i_f rfl T.z_isinstance rfl T.c_f (z0c (pv 0)) (by decide) (by rfl) (by rfl)) (z02 (z4e T.i_g rfl T.z_isinstance rfl T.c_g (z0c (pv 0)) (by decide) (by rfl) (by rfl)) (z02 (z4e T.i_h rfl T.z_isinstance rfl T.c_h (z0c (pv 0)) (by decide) (by rfl) (by rfl)) z0w (by rfl)) (by rfl)) (by rfl)) (by rfl)) (by decide)))) rfl (Or.inl rfl))
  refine (z03 ?_ ?_)
  ·exact (z29 (pv 1) (z4e T.i_i rfl T.z_isinstance rfl T.c_i (z0c (pv 0)) (by decide) (by rfl) (by rfl)) (by rfl) (by rfl) (by rfl) (by rfl) (by rfl))
  refine (z03 ?_ ?_)
  ·refine (z18 ?_ ?_ ?_)
   ·exact (z2P (z2m (z0S (z0U (zfH T.i_ValueError rfl T.z_isinstance rfl T.z_ValueError z6i (z0c (pv 0)) (by decide) (by decide) (by rfl) (by rfl)) (by intro _; rfl))) (z1z (z1f (z2V hq) z52 (zcz (z0c (pv 1)) (by rfl) (by rfl) (by rfl) (by rfl)) (z0d z04) (z0G _)))))
   ·refine (z0e ?_)
    refine (z0k ?_)
    exact (z3c [111,116,104,101,114] (by decide +kernel))
   ·exact z0B
  refine (z03 ?_ ?_)
  ·exact (@z0E _ _ _ _ _ _ ([]) (2) _ hnp sc__law_kind_of.nd rfl (Or.inl rfl) (z4f (by rfl) (by decide)) rfl (Or.inl rfl))
  refine (z0e ?_)
  refine (z0k ?_)
  exact (z0s z0p z0J (pv 2) (z0d (zcx (z0c (pv 1)) (by rfl) (by rfl) (by rfl) (by rfl))) (fun _ _=>rfl))) fun ss y h=>z0C h
abbrev tryB:DS:=(dAsg (z89 3 z1k [.val (eVar 0),.val (eVar 1),.val (eVar 3)]) (gNm [3] 5))
abbrev hanB (ce:Tx→Nat):DS:=(dSeq (dIf (dOr (dTr (eOp pNe (z08 (z11 ce) [.val (eVar 7)]) (bOf (eD (.str [114,117,108,101]))))) (dNot (dTr (z08 z0K [.val (z8H ce ys [110,117,109,98,101,114] (bVar 7))])))) (dRet (eD (.bl false))) z0I) (dAsg (z8H ce ys [110,117,109,98,101,114] (bVar 7)) (gNm [] 6)))
abbrev finB:DS:=(dRet (eOr (eOp (pIsN true) (eVar 4) (bOf (eD .non))) (eAnd (z08 z0D [.val (eVar 5)]) (eOpF pEq 5 (bOf (eTup (z0b (eVar 0) (z0b (eVar 1) (z0b (eC1 z24 (bOf (eC1 z3N (bVar 2)))) aNil)))))))))
abbrev zco:DS:=(dSeq (dIf (dOr (dTr (eOpF pNe 3 (bVar 2))) (dTr (eOpF pNe 6 (bVar 4)))) (dRet (eD (.bl false))) z0I) (dSeq (z0W 3 (eD .non)) finB))
def z2y (ce:Tx→Nat):DS:=(dSeq (dAsg (eC1 z5f (bVar 2)) (gNm [] 3)) (dSeq (dAsg (z08 z0r [.val (eVar 0),.val (eVar 1),.val (eVar 2)]) (gNm [] 4)) (dSeq (dAsg (eD .non) (gNm [] 5)) (dSeq (dAsg (eD .non) (gNm [] 6)) (dSeq (z8c ce ys 7 3 tryB (hanB ce)) zco)))))
def z0x (ce:Tx→Nat):DF:=gOf [] 8 (z2y ce)
theorem z1q {ce:Tx→Nat}:z1p (z0x ce):=z0o
theorem sc__law_right:FnScope ["high","wide","things","handed","due","told","number","e"] ["high","wide","things"] (z05 z3m):=⟨rfl,rfl,rfl,by decide +kernel,rfl,by decide +kernel,by decide +kernel⟩
theorem z76 {K:W0} (F:Fun K "_law_right" "_law_right" z3m f fd) (hm:mg "_law_right" = some (.ref f)) (hb:Binds K fd ["high","wide","things"] []) (T:Txt ce K mg) (k__law_due_number:KFn P w K mg base 3 "_law_due_number" 3 z0r) (k_rule_of:KFnX P w K mg base 4 "rule_of" 3 z1k) (k__law_rule_good:KFn P w K mg base 3 "_law_rule_good" 1 z0D) (h__law_whole:KFnH P w K mg base 1 "_law_whole" 1 z0K) (h__law_kind_of:KFnH P w K mg base 1 "_law_kind_of" 1 (z11 ce)):KFn P w K mg base 5 "_law_right" 3 (z0x ce) :=
 z1b (np:=[]) (fb:=(z2y ce)) F hm hb sc__law_right (fun c cdv A outer s H E hr hnp=>by
  have hq:=z1M hr
  refine (z03 ?_ ?_)
  ·exact (@z0E _ _ _ _ _ _ ([]) (3) _ hnp sc__law_right.nd rfl (Or.inl rfl) (z6S rfl rfl T.z_list (z0c (pv 2)) (by rfl)) rfl (Or.inl rfl))
  refine (z03 ?_ ?_)
  ·exact (@z0E _ _ _ _ _ _ ([]) (4) _ hnp sc__law_right.nd rfl (Or.inl rfl) (@z0h _ _ _ _ _ (3) _ _ _ _ _ k__law_due_number z3s (hr.mono (by decide)) rfl (z06 (z07 (pv 0)) (z06 (z07 (pv 1)) (z06 (z07 (pv 2)) z0q (by rfl)) (by rfl)) (by rfl)) rfl (by decide) (by rfl) (by rfl)) rfl (Or.inl rfl))
  refine (z03 ?_ ?_)
  ·exact (@z0E _ _ _ _ _ _ ([]) (5) _ hnp sc__law_right.nd rfl (Or.inl rfl) z3K rfl (Or.inl rfl))
  refine (z03 ?_ ?_)
  ·exact (@z0E _ _ _ _ _ _ ([]) (6) _ hnp sc__law_right.nd rfl (Or.inl rfl) z3K rfl (Or.inl rfl))
  refine (z03 ?_ ?_)
  ·refine zek (ce:=ce) (ys:=ys) (i:=7) (i0:=3) rfl hnp rfl rfl sc__law_right.nd rfl rfl rfl T.c_j T.q_j (fun y hy=>T.m_j y hy) ?_ ?_
   ·intro c pn xe hnp hxo
    refine (z0e ?_)
    exact (@z0E _ _ _ _ _ _ ([3]) (5) _ hnp sc__law_right.nd rfl (Or.inl rfl) (zcw (k:=4) (i:=3) k_rule_of z79 (hr.mono (by decide)) rfl hxo rfl (fun _=>(z06 (z07 (pv 0)) (z06 (z07 (pv 1)) (z06 (z07 (pv 3)) z0q (by rfl)) (by rfl)) (by rfl))) rfl) rfl (Or.inl rfl))
   ·intro ea
    refine (z03 ?_ ?_)
    ·refine (z18 ?_ ?_ ?_)
     ·exact (z2P (z2m (z1f (z2V hq) z52 (@z8X _ _ _ _ _ (1) _ _ _ _ _ h__law_kind_of z4C ((hr.h.mono (by decide)).mark _) rfl (z06 (z07 (pv 7)) z0q (by rfl)) rfl (by decide) (by rfl) (by rfl)) (z0d (z3c [114,117,108,101] (by decide +kernel))) (z0G _)) (z1z (z0S (z0U (@z8X _ _ _ _ _ (1) _ _ _ _ _ h__law_whole z20 ((hr.h.mono (by decide)).mark _) rfl (z06 (zaG [110,117,109,98,101,114] T.at_number (z0c (pv 7)) (by decide +kernel) (by rfl)) z0q (by rfl)) rfl (by decide) (by rfl) (by rfl)) (by intro _; rfl))))))
     ·refine (z0e ?_)
      refine (z0k ?_)
      exact z1G
     ·exact z0B
    refine (z0e ?_)
    exact (@z0E _ _ _ _ _ _ ([]) (6) _ hnp sc__law_right.nd rfl (Or.inl rfl) (zaG [110,117,109,98,101,114] T.at_number (z0c (pv 7)) (by decide +kernel) (by rfl)) rfl (Or.inl rfl))
  refine (z03 ?_ ?_)
  ·refine (z18 ?_ ?_ ?_)
   ·exact (z2P (z2m (z3g (z2V hq) z52 (pv 3) (z0c (pv 2)) (z0G _)) (z1z (z3g (z2V hq) z52 (pv 6) (z0c (pv 4)) (z0G _)))))
   ·refine (z0e ?_)
    refine (z0k ?_)
    exact z1G
   ·exact z0B
  refine (z03 ?_ ?_)
  ·exact (z29 (pv 3) z3K (by rfl) (by rfl) (by rfl) (by rfl) (by rfl))
  refine (z0e ?_)
  refine (z0k ?_)
  exact (zfF (z5G zbg zbl (z07 (pv 4)) (z0d z3K) rfl) (z3J (z3L (@z0h _ _ _ _ _ (3) _ _ _ _ _ k__law_rule_good z3H (hr.mono (by decide)) rfl (z06 (z07 (pv 5)) z0q (by rfl)) rfl (by decide) (by rfl) (by rfl)) (z3J (z4U (z2q hq) z4w (pv 5) (z0d (z1v (z02 (z07 (pv 0)) (z02 (z07 (pv 1)) (z02 (z5u rfl T.z_tuple (z0d (z8V rfl T.z_sorted (z0c (pv 2)))) (by rfl)) z0w (by rfl)) (by rfl)) (by rfl)) (by decide))) (z0G _))))))) fun ss y h=>z0C h
def z2O:DS:=(dSeq (dIf (dTr (eOpF pLt 1 (bOf (eC1 pLen (bVar 0))))) (dRet (eOpF pIx 0 (bVar 1))) z0I) (dRet (eD (.int 0))))
def z1c:DF:=gOf [] 2 z2O
theorem z4D:z1p z1c:=z0o
theorem z5I:FnScope ["script","k"] ["script","k"] (z05 z2G):=⟨rfl,rfl,rfl,by decide +kernel,rfl,by decide +kernel,by decide +kernel⟩
theorem z5W {K:W0} (F:Fun K "_law_cell_at" "_law_cell_at" z2G f fd) (hm:mg "_law_cell_at" = some (.ref f)) (hb:Binds K fd ["script","k"] []) (T:Txt ce K mg):KFn P w K mg base 1 "_law_cell_at" 2 z1c :=
 z1b (np:=[]) (fb:=z2O) F hm hb z5I (fun c cdv A outer s H E hr hnp=>by
  have hq:=z1M hr
  refine (z03 ?_ ?_)
  ·refine (z18 ?_ ?_ ?_)
   ·exact (z3g zgp o2_lt (pv 1) (z0d (z17 rfl T.z_len (z0c (pv 0)) (by rfl))) (z0G _))
   ·refine (z0e ?_)
    refine (z0k ?_)
    exact (z0s z0p z0J (pv 0) (z0c (pv 1)) (fun _ _=>rfl))
   ·exact z0B
  refine (z0e ?_)
  refine (z0k ?_)
  exact z04) fun ss y h=>z0C h
def z39:DS:=(dSeq (dAsg (eMax (eVar 0) (eOp pSub (eD (.int 0)) (bVar 0))) (gNm [] 1)) (dRet (eLst (z0b (eVar 1) (z0b (eC1 pInt (bOf (eOpF pGe 1 (bOf (eOp pPow (eD (.int 10)) (bOf (eD (.int 18)))))))) (z0b (eOpF pMod 1 (bOf (eD (.int 1000003)))) aNil))))))
def z1n:DF:=gOf [] 2 z39
theorem z58:z1p z1n:=z0o
theorem sc__law_pen_of:FnScope ["cell","left"] ["cell"] (z05 z32):=⟨rfl,rfl,rfl,by decide +kernel,rfl,by decide +kernel,by decide +kernel⟩
theorem z6p {K:W0} (F:Fun K "_law_pen_of" "_law_pen_of" z32 f fd) (hm:mg "_law_pen_of" = some (.ref f)) (hb:Binds K fd ["cell"] []) (T:Txt ce K mg):KFn P w K mg base 1 "_law_pen_of" 1 z1n :=
 z1b (np:=[]) (fb:=z39) F hm hb sc__law_pen_of (fun c cdv A outer s H E hr hnp=>by
  have hq:=z1M hr
  refine (z03 ?_ ?_)
  ·exact (@z0E _ _ _ _ _ _ ([]) (1) _ hnp sc__law_pen_of.nd rfl (Or.inl rfl) (zfG rfl rfl T.z_max (z07 (pv 0)) (z1X zdM zdO z04 (z0c (pv 0))) (by rfl) (by rfl) (by rfl)) rfl (Or.inl rfl))
  refine (z0e ?_)
  refine (z0k ?_)
  exact (z1A (z02 (z07 (pv 1)) (z02 (zes rfl T.z_int (z0d (z4U zdN z2g (pv 1) (z0d (z1X zgo zgt z04 (z0d z04))) (z0G _))) (by rfl)) (z02 (z2o z5R z5X (pv 1) (z0d z04)) z0w (by rfl)) (by rfl)) (by rfl)) (by decide))) fun ss y h=>z0C h
def z4b:DS:=(dSeq (dAsg (eOp pMod (eOpF pAdd 0 (bOf (eD (.int 7919)))) (bOf (eD (.int 2147483647)))) (gNm [] 0)) (dRet (eOp pMod (eOp pAdd (eOp pAdd (eOpF z5N 0 (bVar 0)) (bOf (eOp z5N (eD (.int 48271)) (bVar 0)))) (bOf (eD (.int 12345)))) (bOf (eD (.int 2147483629))))))
def z1t:DF:=gOf [] 1 z4b
theorem z3q:z1p z1t:=z0o
theorem sc__law_next:FnScope ["seed"] ["seed"] (z05 z3U):=⟨rfl,rfl,rfl,by decide +kernel,rfl,by decide +kernel,by decide +kernel⟩
theorem z7O {K:W0} (F:Fun K "_law_next" "_law_next" z3U f fd) (hm:mg "_law_next" = some (.ref f)) (hb:Binds K fd ["seed"] []) (T:Txt ce K mg):KFn P w K mg base 1 "_law_next" 1 z1t :=
 z1b (np:=[]) (fb:=z4b) F hm hb sc__law_next (fun c cdv A outer s H E hr hnp=>by
  have hq:=z1M hr
  refine (z03 ?_ ?_)
  ·exact (@z0E _ _ _ _ _ _ ([]) (0) _ hnp sc__law_next.nd rfl (Or.inl rfl) (z1X z5R z5X (z2o z0O z1e (pv 0) (z0d z04)) (z0d z04)) rfl (Or.inl rfl))
  refine (z0e ?_)
  refine (z0k ?_)
  exact (z1X z5R z5X (z1X z0O z1e (z1X z0O z1e (z2o z8y z8z (pv 0) (z0c (pv 0))) (z0d (z1X z8y z8z z04 (z0c (pv 0))))) (z0d z04)) (z0d z04))) fun ss y h=>z0C h
def z4c:DS:=(dSeq (dIf (dTr (eOp pEq (eOpF pIx 0 (bOf (eD (.int 1)))) (bOf (eD (.int 1))))) (dSeq (dAsg (eOp pMod (eOpF pIx 0 (bOf (eD (.int 0)))) (bVar 1)) (gNm [0] 2)) (dSeq (za6 0 (eD (.int 0)) (eOp pDiv (eOpF pIx 0 (bOf (eD (.int 0)))) (bVar 1))) (dRet (eVar 2)))) z0I) (dSeq (za6 0 (eD (.int 2)) (z08 z1t [.val (eOp pAdd (z08 z1t [.val (eOpF pIx 0 (bOf (eD (.int 2))))]) (bOf (eD (.int 7))))])) (dRet (eOp pMod (eOp pDiv (eOpF pIx 0 (bOf (eD (.int 2)))) (bOf (eD (.int 64)))) (bVar 1)))))
def z0f:DF:=gOf [0] 3 z4c
theorem z0i:z1p z0f:=z0o
theorem sc__law_draw:FnScope ["pen","many","found"] ["pen","many"] (z05 z3V):=⟨rfl,rfl,rfl,by decide +kernel,rfl,by decide +kernel,by decide +kernel⟩
theorem z7P {K:W0} (F:Fun K "_law_draw" "_law_draw" z3V f fd) (hm:mg "_law_draw" = some (.ref f)) (hb:Binds K fd ["pen","many"] []) (T:Txt ce K mg) (k__law_next:KFn P w K mg base 1 "_law_next" 1 z1t):KFn P w K mg base 2 "_law_draw" 2 z0f :=
 z1b (np:=[0]) (fb:=z4c) F hm hb sc__law_draw (fun c cdv A outer s H E hr hnp=>by
  have hq:=z1M hr
  refine (z03 ?_ ?_)
  ·refine (z18 ?_ ?_ ?_)
   ·exact (z1f (z2q hq) z4w (z0s z0p z0J (pv 0) (z0d z04) (fun _ _=>rfl)) (z0d z04) (z0G _))
   ·refine (z03 ?_ ?_)
    ·exact (@z0E _ _ _ _ _ _ ([0]) (2) _ hnp sc__law_draw.nd rfl (Or.inl rfl) (z1X z5R z5X (z0s z0p z0J (pv 0) (z0d z04) (fun _ _=>rfl)) (z0c (pv 1))) rfl (Or.inl rfl))
    refine (z03 ?_ ?_)
    ·exact (zau (pv 0) z04 (z1X zbj zdP (z0s z0p z0J (pv 0) (z0d z04) (fun _ _=>rfl)) (z0c (pv 1))) (by intro _; rfl) (by rfl) (by rfl) (by rfl))
    refine (z0e ?_)
    refine (z0k ?_)
    exact (z07 (pv 2))
   ·exact z0B
  refine (z03 ?_ ?_)
  ·exact (zau (pv 0) z04 (@z0h _ _ _ _ _ (1) _ _ _ _ _ k__law_next z3q (hr.mono (by decide)) rfl (z06 (z1X z0O z1e (@z0h _ _ _ _ _ (1) _ _ _ _ _ k__law_next z3q (hr.mono (by decide)) rfl (z06 (z0s z0p z0J (pv 0) (z0d z04) (fun _ _=>rfl)) z0q (by rfl)) rfl (by decide) (by rfl) (by rfl)) (z0d z04)) z0q (by rfl)) rfl (by decide) (by rfl) (by rfl)) (by intro _; rfl) (by rfl) (by rfl) (by rfl))
  refine (z0e ?_)
  refine (z0k ?_)
  exact (z1X z5R z5X (z1X zbj zdP (z0s z0p z0J (pv 0) (z0d z04) (fun _ _=>rfl)) (z0d z04)) (z0c (pv 1)))) fun ss y h=>z0C h
def z2l:DS:=(dSeq (dAsg (eOp pAdd (eD (.int 1)) (bOf (z08 z0f [.io 0,.val (eD (.int 3))]))) (gNm [0] 1)) (dSeq (dAsg (eOp pAdd (eD (.int 1)) (bOf (z08 z0f [.io 0,.val (eD (.int 3))]))) (gNm [0] 2)) (dSeq (dIf (dTr (eOp pEq (z08 z0f [.io 0,.val (eD (.int 8))]) (bOf (eD (.int 0))))) (dAsg (eOp pIx (za5 [.tup [.int 4,.int 1],.tup [.int 1,.int 4],.tup [.int 4,.int 4],.tup [.int 4,.int 3],.tup [.int 1,.int 2],.tup [.int 2,.int 1]]) (bOf (z08 z0f [.io 0,.val (eD (.int 6))]))) (gTp 2 (z0j (gNm [0] 1) (z0j (gNm [0] 2) z1d)))) z0I) (dSeq (dIf (dTr (eOp pEq (eOpF pAdd 1 (bVar 2)) (bOf (eD (.int 2))))) (dAsg (eD (.int 2)) (gNm [0] 2)) z0I) (dRet (eTup (z0b (eVar 1) (z0b (eVar 2) aNil))))))))
def z15:DF:=gOf [0] 3 z2l
theorem z41:z1p z15:=z0o
theorem sc__law_sizes_by:FnScope ["pen","high","wide"] ["pen"] (z05 z2e):=⟨rfl,rfl,rfl,by decide +kernel,rfl,by decide +kernel,by decide +kernel⟩
theorem z5l {K:W0} (F:Fun K "_law_sizes_by" "_law_sizes_by" z2e f fd) (hm:mg "_law_sizes_by" = some (.ref f)) (hb:Binds K fd ["pen"] []) (T:Txt ce K mg) (k__law_draw:KFn P w K mg base 2 "_law_draw" 2 z0f):KFn P w K mg base 3 "_law_sizes_by" 1 z15 :=
 z1b (np:=[0]) (fb:=z2l) F hm hb sc__law_sizes_by (fun c cdv A outer s H E hr hnp=>by
  have hq:=z1M hr
  refine (@z03 _ _ _ _ _ _ ?_ ?_)
  ·exact (@z0E _ _ _ _ _ _ ([0]) (1) _ hnp sc__law_sizes_by.nd rfl (Or.inl rfl) (@z1X _ _ _ _ _ _ _ _ _ _ z0O z1e (@z04 _ _ _ _ _) (@z0d _ _ _ _ (@z0h _ _ _ _ _ (2) _ _ _ _ _ k__law_draw z0i (hr.mono (by decide)) rfl (@z1u _ _ _ _ _ _ (pv 0) (@z06 _ _ _ _ _ _ (@z04 _ _ _ _ _) (@z0q _ _) (by rfl)) (by rfl)) rfl (by decide) (by rfl) (by rfl)))) rfl (Or.inl rfl))
  refine (@z03 _ _ _ _ _ _ ?_ ?_)
  ·exact (@z0E _ _ _ _ _ _ ([0]) (2) _ hnp sc__law_sizes_by.nd rfl (Or.inl rfl) (@z1X _ _ _ _ _ _ _ _ _ _ z0O z1e (@z04 _ _ _ _ _) (@z0d _ _ _ _ (@z0h _ _ _ _ _ (2) _ _ _ _ _ k__law_draw z0i (hr.mono (by decide)) rfl (@z1u _ _ _ _ _ _ (pv 0) (@z06 _ _ _ _ _ _ (@z04 _ _ _ _ _) (@z0q _ _) (by rfl)) (by rfl)) rfl (by decide) (by rfl) (by rfl)))) rfl (Or.inl rfl))
  refine (@z03 _ _ _ _ _ _ ?_ ?_)
  ·refine (@z18 _ _ _ _ _ _ _ _ _ ?_ ?_ ?_)
   ·exact (@z1f _ _ _ _ _ _ _ _ _ _ (z2q hq) z4w (@z0h _ _ _ _ _ (2) _ _ _ _ _ k__law_draw z0i (hr.mono (by decide)) rfl (@z1u _ _ _ _ _ _ (pv 0) (@z06 _ _ _ _ _ _ (@z04 _ _ _ _ _) (@z0q _ _) (by rfl)) (by rfl)) rfl (by decide) (by rfl) (by rfl)) (@z0d _ _ _ _ (@z04 _ _ _ _ _)) (z0G _))
   ·refine (@z0e _ _ _ _ ?_)
    refine (@z7q _ _ _ _ _ _ _ ?_ ?_ (by rfl) (by rfl) (by rfl))
    ·exact (@zaD _ _ _ _ _ _ _ _ _ z0p z0J (@z4f _ _ _ _ _ (by rfl) (by decide)) (@z0d _ _ _ _ (@z0h _ _ _ _ _ (2) _ _ _ _ _ k__law_draw z0i (hr.mono (by decide)) rfl (@z1u _ _ _ _ _ _ (pv 0) (@z06 _ _ _ _ _ _ (@z04 _ _ _ _ _) (@z0q _ _) (by rfl)) (by rfl)) rfl (by decide) (by rfl) (by rfl))) (fun _ _=>rfl))
    ·exact (@z5d _ _ _ _ _ _ _ rfl (@z0X _ _ _ _ _ _ (@z0F _ _ _ ([0]) (1) _ hnp sc__law_sizes_by.nd rfl (Or.inl rfl) (Or.inl rfl)) (@z0X _ _ _ _ _ _ (@z0F _ _ _ ([0]) (2) _ hnp sc__law_sizes_by.nd rfl (Or.inl rfl) (Or.inl rfl)) (@z3i _ _) (by rfl)) (by rfl)) (by rfl) (by rfl))
   ·exact z0B
  refine (@z03 _ _ _ _ _ _ ?_ ?_)
  ·refine (@z18 _ _ _ _ _ _ _ _ _ ?_ ?_ ?_)
   ·exact (@z1f _ _ _ _ _ _ _ _ _ _ (z2q hq) z4w (@z2o _ _ _ _ _ _ _ _ _ _ z0O z1e (pv 1) (@z0c _ _ _ _ (pv 2))) (@z0d _ _ _ _ (@z04 _ _ _ _ _)) (z0G _))
   ·refine (@z0e _ _ _ _ ?_)
    exact (@z0E _ _ _ _ _ _ ([0]) (2) _ hnp sc__law_sizes_by.nd rfl (Or.inl rfl) (@z04 _ _ _ _ _) rfl (Or.inl rfl))
   ·exact z0B
  refine (@z0e _ _ _ _ ?_)
  refine (@z0k _ _ _ _ _ ?_)
  exact (@z1v _ _ _ _ _ _ (@z02 _ _ _ _ _ _ (@z07 _ _ _ _ (pv 1)) (@z02 _ _ _ _ _ _ (@z07 _ _ _ _ (pv 2)) (@z0w _ _) (by rfl)) (by rfl)) (by decide))) fun ss y h=>z0C h
def z4a:DS:=(dSeq (dIf (dTr (eOpF pEq 3 (bOf (eD (.int 1))))) (dRet (eOpF pIx 1 (bOf (z08 z0f [.io 0,.val (eOpF pAdd 2 (bOf (eD (.int 1))))])))) z0I) (dSeq (dIf (dTr (eOpF pEq 3 (bOf (eD (.int 2))))) (dRet (eOpF pIx 1 (bOf (eOp pMod (eOpF pAdd 2 (bOf (eD (.int 1)))) (bOf (eC1 pLen (bVar 1))))))) z0I) (dSeq (dIf (dAnd (dTr (eOpF pEq 3 (bOf (eD (.int 3))))) (dTr (eOp pGt (z08 z0f [.io 0,.val (eD (.int 4))]) (bOf (eD (.int 0)))))) (dRet (eOpF pIx 1 (bVar 2))) z0I) (dRet (eOpF pIx 1 (bOf (z08 z0f [.io 0,.val (eC1 pLen (bVar 1))])))))))
def z0N:DF:=gOf [0] 4 z4a
theorem z63:z1p z0N:=z0o
theorem z7w:FnScope ["pen","tiles","place","way"] ["pen","tiles","place","way"] (z05 z3T):=⟨rfl,rfl,rfl,by decide +kernel,rfl,by decide +kernel,by decide +kernel⟩
theorem z7N {K:W0} (F:Fun K "_law_pick" "_law_pick" z3T f fd) (hm:mg "_law_pick" = some (.ref f)) (hb:Binds K fd ["pen","tiles","place","way"] []) (T:Txt ce K mg) (k__law_draw:KFn P w K mg base 2 "_law_draw" 2 z0f):KFn P w K mg base 3 "_law_pick" 4 z0N :=
 z1b (np:=[0]) (fb:=z4a) F hm hb z7w (fun c cdv A outer s H E hr hnp=>by
  have hq:=z1M hr
  refine (z03 ?_ ?_)
  ·refine (z18 ?_ ?_ ?_)
   ·exact (z3g (z2q hq) z4w (pv 3) (z0d z04) (z0G _))
   ·refine (z0e ?_)
    refine (z0k ?_)
    exact (z0s z0p z0J (pv 1) (z0d (@z0h _ _ _ _ _ (2) _ _ _ _ _ k__law_draw z0i (hr.mono (by decide)) rfl (z1u (pv 0) (z06 (z2o z0O z1e (pv 2) (z0d z04)) z0q (by rfl)) (by rfl)) rfl (by decide) (by rfl) (by rfl))) (fun _ _=>rfl))
   ·exact z0B
  refine (z03 ?_ ?_)
  ·refine (z18 ?_ ?_ ?_)
   ·exact (z3g (z2q hq) z4w (pv 3) (z0d z04) (z0G _))
   ·refine (z0e ?_)
    refine (z0k ?_)
    exact (z0s z0p z0J (pv 1) (z0d (z1X z5R z5X (z2o z0O z1e (pv 2) (z0d z04)) (z0d (z17 rfl T.z_len (z0c (pv 1)) (by rfl))))) (fun _ _=>rfl))
   ·exact z0B
  refine (z03 ?_ ?_)
  ·refine (z18 ?_ ?_ ?_)
   ·exact (z2P (zfC (z3g (z2q hq) z4w (pv 3) (z0d z04) (z0G _)) (zei (z1f z97 z2g (@z0h _ _ _ _ _ (2) _ _ _ _ _ k__law_draw z0i (hr.mono (by decide)) rfl (z1u (pv 0) (z06 z04 z0q (by rfl)) (by rfl)) rfl (by decide) (by rfl) (by rfl)) (z0d z04) (z0G _)))))
   ·refine (z0e ?_)
    refine (z0k ?_)
    exact (z0s z0p z0J (pv 1) (z0c (pv 2)) (fun _ _=>rfl))
   ·exact z0B
  refine (z0e ?_)
  refine (z0k ?_)
  exact (z0s z0p z0J (pv 1) (z0d (@z0h _ _ _ _ _ (2) _ _ _ _ _ k__law_draw z0i (hr.mono (by decide)) rfl (z1u (pv 0) (z06 (z17 rfl T.z_len (z0c (pv 1)) (by rfl)) z0q (by rfl)) (by rfl)) rfl (by decide) (by rfl) (by rfl))) (fun _ _=>rfl))) fun ss y h=>z0C h
def z2M:DS:=(dSeq (dAsg (z08 z15 [.io 0]) (gTp 2 (z0j (gNm [0] 2) (z0j (gNm [0] 3) z1d)))) (dSeq (dAsg (eOp pAdd (eD (.int 1)) (bOf (z08 z0f [.io 0,.val (eVar 1)]))) (gNm [0] 4)) (dSeq (dAsg (z08 z0f [.io 0,.val (eD (.int 26))]) (gNm [0] 5)) (dSeq (dAsg (eD (.str [97,98,99,100,101,102,103,104,105,106,107,108,109,110,111,112,113,114,115,116,117,118,119,120,121,122])) (gNm [0] 6)) (dSeq (dAsg (eC1 z4W (bOf (z2j [13] (z1o (eVar 4)) (gNm [0] 13) dYes (eOpF pIx 6 (bOf (eOp pMod (eOpF pAdd 5 (bOf (eOp z5N (eD (.int 5)) (bVar 13)))) (bOf (eD (.int 26))))))))) (gNm [0] 7)) (dSeq (dAsg (z08 z0f [.io 0,.val (eD (.int 5))]) (gNm [0] 8)) (dSeq (dAsg (eLst aNil) (gNm [0] 9)) (dSeq (dFor (z1o (eVar 4)) (gNm [0] 10) (dSeq (dAsg (eLst aNil) (gNm [0] 11)) (dSeq (dFor (z1o (eVar 2)) (gNm [0] 12) (z0W 11 (eC1 (z4X []) (bOf (z2j [14] (z1o (eVar 3)) (gNm [0] 14) dYes (z08 z0N [.io 0,.val (eVar 7),.val (eVar 10),.val (eVar 8)])))))) (z0W 9 (eTup (z0b (eOpF pIx 7 (bVar 10)) (z0b (eC1 z24 (bVar 11)) aNil))))))) (dRet (eTup (z0b (eVar 2) (z0b (eVar 3) (z0b (eC1 z24 (bVar 9)) aNil)))))))))))))
def z10:DF:=gOf [0] 15 z2M
theorem z4B:z1p z10:=z0o
theorem sc__law_rule_by:FnScope ["pen","most","high","wide","size","first","letters","tiles","way","blocks","place","block","row","k","column"] ["pen","most"] (z05 z2E):=⟨rfl,rfl,rfl,by decide +kernel,rfl,by decide +kernel,by decide +kernel⟩
theorem z5V {K:W0} (F:Fun K "_law_rule_by" "_law_rule_by" z2E f fd) (hm:mg "_law_rule_by" = some (.ref f)) (hb:Binds K fd ["pen","most"] []) (T:Txt ce K mg) (k__law_draw:KFn P w K mg base 2 "_law_draw" 2 z0f) (k__law_sizes_by:KFn P w K mg base 3 "_law_sizes_by" 1 z15) (k__law_pick:KFn P w K mg base 3 "_law_pick" 4 z0N):KFn P w K mg base 4 "_law_rule_by" 2 z10 :=
 z1b (np:=[0]) (fb:=z2M) F hm hb sc__law_rule_by (fun c cdv A outer s H E hr hnp=>by
  have hq:=z1M hr
  refine (@z03 _ _ _ _ _ _ ?_ ?_)
  ·refine (@z7q _ _ _ _ _ _ _ ?_ ?_ (by rfl) (by rfl) (by rfl))
   ·exact (@z0h _ _ _ _ _ (3) _ _ _ _ _ k__law_sizes_by z41 (hr.mono (by decide)) rfl (@z1u _ _ _ _ _ _ (pv 0) (@z0q _ _) (by rfl)) rfl (by decide) (by rfl) (by rfl))
   ·exact (@z5d _ _ _ _ _ _ _ rfl (@z0X _ _ _ _ _ _ (@z0F _ _ _ ([0]) (2) _ hnp sc__law_rule_by.nd rfl (by first | exact Or.inl rfl | exact Or.inr rfl) (Or.inl rfl)) (@z0X _ _ _ _ _ _ (@z0F _ _ _ ([0]) (3) _ hnp sc__law_rule_by.nd rfl (by first | exact Or.inl rfl | exact Or.inr rfl) (Or.inl rfl)) (@z3i _ _) (by rfl)) (by rfl)) (by rfl) (by rfl))
  refine (@z03 _ _ _ _ _ _ ?_ ?_)
  ·exact (@z0E _ _ _ _ _ _ ([0]) (4) _ hnp sc__law_rule_by.nd rfl (by first | exact Or.inl rfl | exact Or.inr rfl) (@z1X _ _ _ _ _ _ _ _ _ _ z0O z1e (@z04 _ _ _ _ _) (@z0d _ _ _ _ (@z0h _ _ _ _ _ (2) _ _ _ _ _ k__law_draw z0i (hr.mono (by decide)) rfl (@z1u _ _ _ _ _ _ (pv 0) (@z06 _ _ _ _ _ _ (@z07 _ _ _ _ (pv 1)) (@z0q _ _) (by rfl)) (by rfl)) rfl (by decide) (by rfl) (by rfl)))) rfl (Or.inl rfl))
  refine (@z03 _ _ _ _ _ _ ?_ ?_)
  ·exact (@z0E _ _ _ _ _ _ ([0]) (5) _ hnp sc__law_rule_by.nd rfl (by first | exact Or.inl rfl | exact Or.inr rfl) (@z0h _ _ _ _ _ (2) _ _ _ _ _ k__law_draw z0i (hr.mono (by decide)) rfl (@z1u _ _ _ _ _ _ (pv 0) (@z06 _ _ _ _ _ _ (@z04 _ _ _ _ _) (@z0q _ _) (by rfl)) (by rfl)) rfl (by decide) (by rfl) (by rfl)) rfl (Or.inl rfl))
  refine (@z03 _ _ _ _ _ _ ?_ ?_)
  ·exact (@z0E _ _ _ _ _ _ ([0]) (6) _ hnp sc__law_rule_by.nd rfl (by first | exact Or.inl rfl | exact Or.inr rfl) (@z3c _ _ _ _ _ [97,98,99,100,101,102,103,104,105,106,107,108,109,110,111,112,113,114,115,116,117,118,119,120,121,122] (by decide +kernel)) rfl (Or.inl rfl))
  refine (@z03 _ _ _ _ _ _ ?_ ?_)
  ·exact (@z0E _ _ _ _ _ _ ([0]) (7) _ hnp sc__law_rule_by.nd rfl (by first | exact Or.inl rfl | exact Or.inr rfl) (@zaC _ _ _ _ _ _ rfl T.z_sorted (@z0d _ _ _ _ (@z30 _ _ ([13]) _ _ _ _ _ _ _ _ _ _ rfl (@z1C _ _ _ rfl rfl) (@z2c _ _ _ _ _ _ _ rfl T.z_range (@z07 _ _ _ _ (pv 4)) (by rfl)) (fun l s0 H0 ex=>(@z26 _ _ _ _ ([0]) (13) _ hnp sc__law_rule_by.nd rfl (by first | exact Or.inl rfl | exact Or.inr rfl) (by first | exact Or.inl rfl | exact Or.inr rfl) (by decide))) (fun l s0 H0 ex=>(@z3Q _ _)) (fun l s0 H0 ex=>(@z0s _ _ _ _ _ _ _ _ _ z0p z0J (pv 6) (@z0d _ _ _ _ (@z1X _ _ _ _ _ _ _ _ _ _ z5R z5X (@z2o _ _ _ _ _ _ _ _ _ _ z0O z1e (pv 5) (@z0d _ _ _ _ (@z1X _ _ _ _ _ _ _ _ _ _ z8y z8z (@z04 _ _ _ _ _) (@z0c _ _ _ _ (pv 13))))) (@z0d _ _ _ _ (@z04 _ _ _ _ _)))) (fun _ _=>rfl))) (z4x hnp rfl) (by intro _; rfl))) (by rfl)) rfl (Or.inl rfl))
  refine (@z03 _ _ _ _ _ _ ?_ ?_)
  ·exact (@z0E _ _ _ _ _ _ ([0]) (8) _ hnp sc__law_rule_by.nd rfl (by first | exact Or.inl rfl | exact Or.inr rfl) (@z0h _ _ _ _ _ (2) _ _ _ _ _ k__law_draw z0i (hr.mono (by decide)) rfl (@z1u _ _ _ _ _ _ (pv 0) (@z06 _ _ _ _ _ _ (@z04 _ _ _ _ _) (@z0q _ _) (by rfl)) (by rfl)) rfl (by decide) (by rfl) (by rfl)) rfl (Or.inl rfl))
  refine (@z03 _ _ _ _ _ _ ?_ ?_)
  ·exact (@z0E _ _ _ _ _ _ ([0]) (9) _ hnp sc__law_rule_by.nd rfl (by first | exact Or.inl rfl | exact Or.inr rfl) (@z1A _ _ _ _ _ (@z0w _ _) (by decide)) rfl (Or.inl rfl))
  refine (@z03 _ _ _ _ _ _ ?_ ?_)
  ·refine (@z3a _ _ _ _ _ _ _ _ _ PassesOwn.never rfl ?_ ?_ ?_ (by intro _; rfl))
   ·exact (@z2c _ _ _ _ _ _ _ rfl T.z_range (@z07 _ _ _ _ (pv 4)) (by rfl))
   ·exact (@z0F _ _ _ ([0]) (10) _ hnp sc__law_rule_by.nd rfl (by first | exact Or.inl rfl | exact Or.inr rfl) (Or.inl rfl))
   ·refine (@z03 _ _ _ _ _ _ ?_ ?_)
    ·exact (@z0E _ _ _ _ _ _ ([0]) (11) _ hnp sc__law_rule_by.nd rfl (by first | exact Or.inl rfl | exact Or.inr rfl) (@z1A _ _ _ _ _ (@z0w _ _) (by decide)) rfl (Or.inl rfl))
    refine (@z03 _ _ _ _ _ _ ?_ ?_)
    ·refine (@z3a _ _ _ _ _ _ _ _ _ PassesOwn.never rfl ?_ ?_ ?_ (by intro _; rfl))
     ·exact (@z2c _ _ _ _ _ _ _ rfl T.z_range (@z07 _ _ _ _ (pv 2)) (by rfl))
     ·exact (@z0F _ _ _ ([0]) (12) _ hnp sc__law_rule_by.nd rfl (by first | exact Or.inl rfl | exact Or.inr rfl) (Or.inl rfl))
     ·refine (@z0e _ _ _ _ ?_)
      exact (@z29 _ _ _ _ _ _ _ _ _ (pv 11) (@z8p _ _ _ _ _ _ _ _ _ [] (@z0d _ _ _ _ (@z30 _ _ ([14]) _ _ _ _ _ _ _ _ _ _ rfl (@z1C _ _ _ rfl rfl) (@z2c _ _ _ _ _ _ _ rfl T.z_range (@z07 _ _ _ _ (pv 3)) (by rfl)) (fun l s0 H0 ex=>(@z26 _ _ _ _ ([0]) (14) _ hnp sc__law_rule_by.nd rfl (by first | exact Or.inl rfl | exact Or.inr rfl) (by first | exact Or.inl rfl | exact Or.inr rfl) (by decide))) (fun l s0 H0 ex=>(@z3Q _ _)) (fun l s0 H0 ex=>(@z0h _ _ _ _ _ (3) _ _ _ _ _ k__law_pick z63 (hr.mono (by decide)) rfl (@z1u _ _ _ _ _ _ (pv 0) (@z06 _ _ _ _ _ _ (@z07 _ _ _ _ (pv 7)) (@z06 _ _ _ _ _ _ (@z07 _ _ _ _ (pv 10)) (@z06 _ _ _ _ _ _ (@z07 _ _ _ _ (pv 8)) (@z0q _ _) (by rfl)) (by rfl)) (by rfl)) (by rfl)) rfl (by decide) (by rfl) (by rfl))) (z4x hnp rfl) (by intro _; rfl))) (by decide +kernel) (by rfl) (by rfl) (by rfl) (by rfl)) (by rfl) (by rfl) (by rfl) (by rfl) (by rfl))
    refine (@z0e _ _ _ _ ?_)
    exact (@z29 _ _ _ _ _ _ _ _ _ (pv 9) (@z1v _ _ _ _ _ _ (@z02 _ _ _ _ _ _ (@z0s _ _ _ _ _ _ _ _ _ z0p z0J (pv 7) (@z0c _ _ _ _ (pv 10)) (fun _ _=>rfl)) (@z02 _ _ _ _ _ _ (@z5u _ _ _ _ _ _ rfl T.z_tuple (@z0c _ _ _ _ (pv 11)) (by rfl)) (@z0w _ _) (by rfl)) (by rfl)) (by decide)) (by rfl) (by rfl) (by rfl) (by rfl) (by rfl))
  refine (@z0e _ _ _ _ ?_)
  refine (@z0k _ _ _ _ _ ?_)
  exact (@z1v _ _ _ _ _ _ (@z02 _ _ _ _ _ _ (@z07 _ _ _ _ (pv 2)) (@z02 _ _ _ _ _ _ (@z07 _ _ _ _ (pv 3)) (@z02 _ _ _ _ _ _ (@z5u _ _ _ _ _ _ rfl T.z_tuple (@z0c _ _ _ _ (pv 9)) (by rfl)) (@z0w _ _) (by rfl)) (by rfl)) (by rfl)) (by decide))) fun ss y h=>z0C h
def z1D:DS:=(dSeq (dAsg (eC1 z5f (bVar 1)) (gNm [0] 2)) (dSeq (dAsg (eLst aNil) (gNm [0] 3)) (dSeq (z2b (dTr (eOpF pNe 2 (bOf (eLst aNil)))) (z0W 3 (ePop 2 (z08 z0f [.io 0,.val (eC1 pLen (bVar 2))]))) 1000000) (zfj [0] 3))))
def z16:DF:=gOf [0] 4 z1D
theorem z42:z1p z16:=z0o
theorem sc__law_shuffled:FnScope ["pen","things","left","found"] ["pen","things"] (z05 z2f):=⟨rfl,rfl,rfl,by decide +kernel,rfl,by decide +kernel,by decide +kernel⟩
theorem z5m {K:W0} (F:Fun K "_law_shuffled" "_law_shuffled" z2f f fd) (hm:mg "_law_shuffled" = some (.ref f)) (hb:Binds K fd ["pen","things"] []) (T:Txt ce K mg) (k__law_draw:KFn P w K mg base 2 "_law_draw" 2 z0f):KFn P w K mg base 3 "_law_shuffled" 2 z16 :=
 z1b (np:=[0]) (fb:=z1D) F hm hb sc__law_shuffled (fun c cdv A outer s H E hr hnp=>by
  have hq:=z1M hr
  refine (z03 ?_ ?_)
  ·exact (@z0E _ _ _ _ _ _ ([0]) (2) _ hnp sc__law_shuffled.nd rfl (Or.inl rfl) (z6S rfl rfl T.z_list (z0c (pv 1)) (by rfl)) rfl (Or.inl rfl))
  refine (z03 ?_ ?_)
  ·exact (@z0E _ _ _ _ _ _ ([0]) (3) _ hnp sc__law_shuffled.nd rfl (Or.inl rfl) (z1A z0w (by decide)) rfl (Or.inl rfl))
  refine (z03 ?_ ?_)
  ·refine (zcp 1000000 (fun h1 h2=>zcK PassesOwn.never h1 h2) ?_ ?_)
   ·exact (z3g (z2V hq) z52 (pv 2) (z0d (z1A z0w (by decide))) (z0G _))
   ·refine (z0e ?_)
    exact (z29 (pv 3) (zfE (pv 2) (@z0h _ _ _ _ _ (2) _ _ _ _ _ k__law_draw z0i (hr.mono (by decide)) rfl (z1u (pv 0) (z06 (z17 rfl T.z_len (z0c (pv 2)) (by rfl)) z0q (by rfl)) (by rfl)) rfl (by decide) (by rfl) (by rfl))) (by rfl) (by rfl) (by rfl) (by rfl) (by rfl))
  refine (z0e ?_)
  exact (zem hnp (pv 3))) fun ss y h=>z0C h
def z28:DS:=(dSeq (dAsg (z08 z0f [.io 1,.val (eC1 pLen (bVar 0))]) (gNm [1] 2)) (dSeq (dAsg (eOpF pIx 0 (bVar 2)) (gTp 2 (z0j (gNm [1] 3) (z0j (gNm [1] 4) z1d)))) (dSeq (dAsg (eLst (z0b (eOpF pIx 0 (bOf (z08 z0f [.io 1,.val (eC1 pLen (bVar 0))]))) (z0b (eTup (z0b (eD (.str [65])) (z0b (eVar 4) aNil))) (z0b (eTup (z0b (eD (.str [])) (z0b (eVar 4) aNil))) (z0b (eTup (z0b (eVar 3) (z0b (eSlN 4 (z2n (eD (.int 1))) z34) aNil))) (z0b (eTup (z0b (eVar 3) (z0b (eOpF pAdd 4 (bOf (eSlN 4 z34 (z2n (eD (.int 1)))))) aNil))) aNil)))))) (gNm [1] 5)) (dSeq (dAsg (eOpF pAdd 5 (bOf (eLst (z0b (eTup (z0b (eVar 3) (z0b (eC1 z5f (bVar 4)) aNil))) (z0b (eLst (z0b (eVar 3) (z0b (eVar 4) aNil))) (z0b (eD .non) (z0b (eTup (z0b (eVar 3) aNil)) (z0b (eTup (z0b (eVar 3) (z0b (eVar 4) (z0b (eD (.int 0)) aNil)))) (z0b (eTup (z0b (eVar 3) (z0b (eD .non) aNil))) (z0b (eTup (z0b (eD (.int 5)) (z0b (eVar 4) aNil))) aNil)))))))))) (gNm [1] 5)) (dSeq (dAsg (eOpF pAdd 5 (bOf (eLst (z0b (eTup (z0b (eVar 3) (z0b (eOp pAdd (eTup (z0b (eOp pAdd (eD (.str [57])) (bOf (eSl (eOpF pIx 4 (bOf (eD (.int 0)))) (z2n (eD (.int 1))) z34))) aNil)) (bOf (eSlN 4 (z2n (eD (.int 1))) z34))) aNil))) (z0b (eTup (z0b (eVar 3) (z0b (eOp pAdd (eSlN 4 z34 (z2n (eC1 pNeg (bOf (eD (.int 1)))))) (bOf (eTup (z0b (eOp pAdd (eSl (eOpF pIx 4 (bOf (eC1 pNeg (bOf (eD (.int 1)))))) z34 (z2n (eC1 pNeg (bOf (eD (.int 1)))))) (bOf (eD (.str [113])))) aNil)))) aNil))) aNil))))) (gNm [1] 5)) (dSeq (dAsg (z08 z0f [.io 1,.val (eD (.int 14))]) (gNm [1] 6)) (dRet (eOp pAdd (eOp pAdd (eSlN 0 z34 (z2n (eVar 2))) (bOf (eLst (z0b (eOpF pIx 5 (bVar 6)) aNil)))) (bOf (eSlN 0 (z2n (eOpF pAdd 2 (bOf (z08 z0f [.io 1,.val (eD (.int 2))])))) z34))))))))))
def z1m:DF:=gOf [1] 7 z28
theorem z57:z1p z1m:=z0o
theorem sc__law_spoilt:FnScope ["things","pen","spot","tile","block","odd","way"] ["things","pen"] (z05 z31):=⟨rfl,rfl,rfl,by decide +kernel,rfl,by decide +kernel,by decide +kernel⟩
theorem z6o {K:W0} (F:Fun K "_law_spoilt" "_law_spoilt" z31 f fd) (hm:mg "_law_spoilt" = some (.ref f)) (hb:Binds K fd ["things","pen"] []) (T:Txt ce K mg) (k__law_draw:KFn P w K mg base 2 "_law_draw" 2 z0f):KFn P w K mg base 3 "_law_spoilt" 2 z1m :=
 z1b (np:=[1]) (fb:=z28) F hm hb sc__law_spoilt (fun c cdv A outer s H E hr hnp=>by
  have hq:=z1M hr
  refine (z03 ?_ ?_)
  ·exact (@z0E _ _ _ _ _ _ ([1]) (2) _ hnp sc__law_spoilt.nd rfl (Or.inl rfl) (@z0h _ _ _ _ _ (2) _ _ _ _ _ k__law_draw z0i (hr.mono (by decide)) rfl (z1u (pv 1) (z06 (z17 rfl T.z_len (z0c (pv 0)) (by rfl)) z0q (by rfl)) (by rfl)) rfl (by decide) (by rfl) (by rfl)) rfl (Or.inl rfl))
  refine (z03 ?_ ?_)
  ·refine (z7q ?_ ?_ (by rfl) (by rfl) (by rfl))
   ·exact (z0s z0p z0J (pv 0) (z0c (pv 2)) (fun _ _=>rfl))
   ·exact (z5d rfl (z0X (@z0F _ _ _ ([1]) (3) _ hnp sc__law_spoilt.nd rfl (Or.inl rfl) (Or.inl rfl)) (z0X (@z0F _ _ _ ([1]) (4) _ hnp sc__law_spoilt.nd rfl (Or.inl rfl) (Or.inl rfl)) z3i (by rfl)) (by rfl)) (by rfl) (by rfl))
  refine (z03 ?_ ?_)
  ·exact (@z0E _ _ _ _ _ _ ([1]) (5) _ hnp sc__law_spoilt.nd rfl (Or.inl rfl) (z1A (z02 (z0s z0p z0J (pv 0) (z0d (@z0h _ _ _ _ _ (2) _ _ _ _ _ k__law_draw z0i (hr.mono (by decide)) rfl (z1u (pv 1) (z06 (z17 rfl T.z_len (z0c (pv 0)) (by rfl)) z0q (by rfl)) (by rfl)) rfl (by decide) (by rfl) (by rfl))) (fun _ _=>rfl)) (z02 (z1v (z02 (z3c [65] (by decide +kernel)) (z02 (z07 (pv 4)) z0w (by rfl)) (by rfl)) (by decide)) (z02 (z1v (z02 (z3c [] (by decide +kernel)) (z02 (z07 (pv 4)) z0w (by rfl)) (by rfl)) (by decide)) (z02 (z1v (z02 (z07 (pv 3)) (z02 (z5F (pv 4) (z2A z04) z3h) z0w (by rfl)) (by rfl)) (by decide)) (z02 (z1v (z02 (z07 (pv 3)) (z02 (z2o z0O z1e (pv 4) (z0d (z5F (pv 4) z3h (z2A z04)))) z0w (by rfl)) (by rfl)) (by decide)) z0w (by rfl)) (by rfl)) (by rfl)) (by rfl)) (by rfl)) (by decide)) rfl (Or.inl rfl))
  refine (z03 ?_ ?_)
  ·exact (@z0E _ _ _ _ _ _ ([1]) (5) _ hnp sc__law_spoilt.nd rfl (Or.inl rfl) (z2o z0O z1e (pv 5) (z0d (z1A (z02 (z1v (z02 (z07 (pv 3)) (z02 (z6S rfl rfl T.z_list (z0c (pv 4)) (by rfl)) z0w (by rfl)) (by rfl)) (by decide)) (z02 (z1A (z02 (z07 (pv 3)) (z02 (z07 (pv 4)) z0w (by rfl)) (by rfl)) (by decide)) (z02 z3K (z02 (z1v (z02 (z07 (pv 3)) z0w (by rfl)) (by decide)) (z02 (z1v (z02 (z07 (pv 3)) (z02 (z07 (pv 4)) (z02 z04 z0w (by rfl)) (by rfl)) (by rfl)) (by decide)) (z02 (z1v (z02 (z07 (pv 3)) (z02 z3K z0w (by rfl)) (by rfl)) (by decide)) (z02 (z1v (z02 z04 (z02 (z07 (pv 4)) z0w (by rfl)) (by rfl)) (by decide)) z0w (by rfl)) (by rfl)) (by rfl)) (by rfl)) (by rfl)) (by rfl)) (by rfl)) (by decide)))) rfl (Or.inl rfl))
  refine (z03 ?_ ?_)
  ·exact (@z0E _ _ _ _ _ _ ([1]) (5) _ hnp sc__law_spoilt.nd rfl (Or.inl rfl) (z2o z0O z1e (pv 5) (z0d (z1A (z02 (z1v (z02 (z07 (pv 3)) (z02 (z1X z0O z1e (z1v (z02 (z1X z0O z1e (z3c [57] (by decide +kernel)) (z0d (zfD (z0s z0p z0J (pv 4) (z0d z04) (fun _ _=>rfl)) (z2A z04) z3h))) z0w (by rfl)) (by decide)) (z0d (z5F (pv 4) (z2A z04) z3h))) z0w (by rfl)) (by rfl)) (by decide)) (z02 (z1v (z02 (z07 (pv 3)) (z02 (z1X z0O z1e (z5F (pv 4) z3h (z2A (z7u (z0d z04)))) (z0d (z1v (z02 (z1X z0O z1e (zfD (z0s z0p z0J (pv 4) (z0d (z7u (z0d z04))) (fun _ _=>rfl)) z3h (z2A (z7u (z0d z04)))) (z0d (z3c [113] (by decide +kernel)))) z0w (by rfl)) (by decide)))) z0w (by rfl)) (by rfl)) (by decide)) z0w (by rfl)) (by rfl)) (by decide)))) rfl (Or.inl rfl))
  refine (z03 ?_ ?_)
  ·exact (@z0E _ _ _ _ _ _ ([1]) (6) _ hnp sc__law_spoilt.nd rfl (Or.inl rfl) (@z0h _ _ _ _ _ (2) _ _ _ _ _ k__law_draw z0i (hr.mono (by decide)) rfl (z1u (pv 1) (z06 z04 z0q (by rfl)) (by rfl)) rfl (by decide) (by rfl) (by rfl)) rfl (Or.inl rfl))
  refine (z0e ?_)
  refine (z0k ?_)
  exact (z1X z0O z1e (z1X z0O z1e (z5F (pv 0) z3h (z2A (z07 (pv 2)))) (z0d (z1A (z02 (z0s z0p z0J (pv 5) (z0c (pv 6)) (fun _ _=>rfl)) z0w (by rfl)) (by decide)))) (z0d (z5F (pv 0) (z2A (z2o z0O z1e (pv 2) (z0d (@z0h _ _ _ _ _ (2) _ _ _ _ _ k__law_draw z0i (hr.mono (by decide)) rfl (z1u (pv 1) (z06 z04 z0q (by rfl)) (by rfl)) rfl (by decide) (by rfl) (by rfl))))) z3h)))) fun ss y h=>z0C h
abbrev sizB (ce:Tx→Nat):DS:=(dIf (dOr (dNot (dTr (z08 (z0x ce) [.val (eVar 2),.val (eVar 3),.val (eVar 1)]))) (dNot (dTr (z08 (z0x ce) [.val (eVar 2),.val (eVar 3),.val (eLst aNil)])))) (dRet (eD (.bl false))) z0I)
abbrev trnB (ce:Tx→Nat):DS:=(dIf (dNot (dTr (z08 (z0x ce) [.val (eVar 2),.val (eVar 3),.val (z08 z1m [.val (eVar 7),.io 5])]))) (dRet (eD (.bl false))) z0I)
abbrev celB (ce:Tx→Nat):DS:=(dSeq (dAsg (z08 z1n [.val (eVar 4)]) (gNm [] 5)) (dSeq (dAsg (z08 z10 [.io 5,.val (eD (.int 6))]) (gTp 3 (z0j (gNm [] 2) (z0j (gNm [] 3) (z0j (gNm [] 6) z1d))))) (dSeq (dAsg (z08 z16 [.io 5,.val (eVar 6)]) (gNm [] 7)) (dSeq (dIf (dNot (dTr (z08 (z0x ce) [.val (eVar 2),.val (eVar 3),.val (eVar 7)]))) (dRet (eD (.bl false))) z0I) (dFor (z1o (eD (.int 2))) (gNm [] 8) (trnB ce))))))
def zdv (ce:Tx→Nat):DS:=(dSeq (dAsg (za5 [.tup [.str [97],.tup [.str [97,98]]],.tup [.str [98],.tup [.str [98,97]]]]) (gNm [] 1)) (dSeq (dFor (iSq (za5 [.tup [.int 1,.int 2],.tup [.int 1,.int 1],.tup [.int 0,.int 2],.tup [.int 1,.bl true],.tup [.non,.int 2],.tup [.int 5,.int 1],.tup [.int 2,.int 1],.tup [.str [49],.int 2]])) (gTp 2 (z0j (gNm [] 2) (z0j (gNm [] 3) z1d))) (sizB ce)) (dSeq (dFor (iSq (eOp pAdd (eLst (z0b (z08 z1c [.val (eVar 0),.val (eD (.int 0))]) aNil)) (bOf (eSlN 0 (z2n (eD (.int 1))) (z2n (eD (.int 5))))))) (gNm [] 4) (celB ce)) (dRet (eD (.bl true))))))
def zaj (ce:Tx→Nat):DF:=gOf [] 9 (zdv ce)
theorem zgG {ce:Tx→Nat}:z1p (zaj ce):=z0o
theorem sc_law:FnScope ["script","one","high","wide","cell","pen","blocks","things","turn"] ["script"] (z05 z6V):=⟨rfl,rfl,rfl,by decide +kernel,rfl,by decide +kernel,by decide +kernel⟩
theorem zgs {K:W0} (F:Fun K "law" "law" z6V f fd) (T:Txt ce K mg) (k__law_right:KFn P w K mg base 5 "_law_right" 3 (z0x ce)) (k__law_cell_at:KFn P w K mg base 1 "_law_cell_at" 2 z1c) (k__law_pen_of:KFn P w K mg base 1 "_law_pen_of" 1 z1n) (k__law_rule_by:KFn P w K mg base 4 "_law_rule_by" 2 z10) (k__law_shuffled:KFn P w K mg base 3 "_law_shuffled" 2 z16) (k__law_spoilt:KFn P w K mg base 3 "_law_spoilt" 2 z1m) {Gt:DF} (hGt:∀ ss y,Gt ss=some y→zaj ce ss=some y):FnOk P w K mg base CX0 6 f fd ["script"] (spD 1 Gt) :=
 zgQ (np:=[]) (fb:=(zdv ce)) F sc_law (fun c cdv A outer s H E hr hnp=>by
  have hq:=z1M hr
  refine (@z03 _ _ _ _ _ _ ?_ ?_)
  ·exact (@z0E _ _ _ _ _ _ ([]) (1) _ hnp sc_law.nd rfl (Or.inl rfl) (@z4f _ _ _ _ _ (by rfl) (by decide)) rfl (Or.inl rfl))
  refine (@z03 _ _ _ _ _ _ ?_ ?_)
  ·refine (@z3a _ _ _ _ _ _ _ _ _ PassesOwn.never rfl ?_ ?_ ?_ (by intro _; rfl))
   ·exact (@z5j _ _ _ _ _ (@z4f _ _ _ _ _ (by rfl) (by decide)))
   ·exact (@z5d _ _ _ _ _ _ _ rfl (@z0X _ _ _ _ _ _ (@z0F _ _ _ ([]) (2) _ hnp sc_law.nd rfl (Or.inl rfl) (Or.inl rfl)) (@z0X _ _ _ _ _ _ (@z0F _ _ _ ([]) (3) _ hnp sc_law.nd rfl (Or.inl rfl) (Or.inl rfl)) (@z3i _ _) (by rfl)) (by rfl)) (by rfl) (by rfl))
   ·refine (@z0e _ _ _ _ ?_)
    refine (@z18 _ _ _ _ _ _ _ _ _ ?_ ?_ ?_)
    ·exact (@z2P _ _ _ _ (@z2m _ _ _ _ _ _ _ _ (@z0S _ _ _ _ _ (@z0U _ _ _ _ (@z0h _ _ _ _ _ (5) _ _ _ _ _ k__law_right z1q (hr.mono (by decide)) rfl (@z06 _ _ _ _ _ _ (@z07 _ _ _ _ (pv 2)) (@z06 _ _ _ _ _ _ (@z07 _ _ _ _ (pv 3)) (@z06 _ _ _ _ _ _ (@z07 _ _ _ _ (pv 1)) (@z0q _ _) (by rfl)) (by rfl)) (by rfl)) rfl (by decide) (by rfl) (by rfl)) (by intro _; rfl))) (@z1z _ _ _ _ _ (@z0S _ _ _ _ _ (@z0U _ _ _ _ (@z0h _ _ _ _ _ (5) _ _ _ _ _ k__law_right z1q (hr.mono (by decide)) rfl (@z06 _ _ _ _ _ _ (@z07 _ _ _ _ (pv 2)) (@z06 _ _ _ _ _ _ (@z07 _ _ _ _ (pv 3)) (@z06 _ _ _ _ _ _ (@z1A _ _ _ _ _ (@z0w _ _) (by decide)) (@z0q _ _) (by rfl)) (by rfl)) (by rfl)) rfl (by decide) (by rfl) (by rfl)) (by intro _; rfl))))))
    ·refine (@z0e _ _ _ _ ?_)
     refine (@z0k _ _ _ _ _ ?_)
     exact (@z1G _ _ _ _ _)
    ·exact z0B
  refine (@z03 _ _ _ _ _ _ ?_ ?_)
  ·refine (@z3a _ _ _ _ _ _ _ _ _ PassesOwn.never rfl ?_ ?_ ?_ (by intro _; rfl))
   ·exact (@z5j _ _ _ _ _ (@z1X _ _ _ _ _ _ _ _ _ _ z0O z1e (@z1A _ _ _ _ _ (@z02 _ _ _ _ _ _ (@z0h _ _ _ _ _ (1) _ _ _ _ _ k__law_cell_at z4D (hr.mono (by decide)) rfl (@z06 _ _ _ _ _ _ (@z07 _ _ _ _ (pv 0)) (@z06 _ _ _ _ _ _ (@z04 _ _ _ _ _) (@z0q _ _) (by rfl)) (by rfl)) rfl (by decide) (by rfl) (by rfl)) (@z0w _ _) (by rfl)) (by decide)) (@z0d _ _ _ _ (@z5F _ _ _ _ _ _ _ _ _ _ (pv 0) (@z2A _ _ _ _ (@z04 _ _ _ _ _)) (@z2A _ _ _ _ (@z04 _ _ _ _ _))))))
   ·exact (@z0F _ _ _ ([]) (4) _ hnp sc_law.nd rfl (Or.inl rfl) (Or.inl rfl))
   ·refine (@z03 _ _ _ _ _ _ ?_ ?_)
    ·exact (@z0E _ _ _ _ _ _ ([]) (5) _ hnp sc_law.nd rfl (Or.inl rfl) (@z0h _ _ _ _ _ (1) _ _ _ _ _ k__law_pen_of z58 (hr.mono (by decide)) rfl (@z06 _ _ _ _ _ _ (@z07 _ _ _ _ (pv 4)) (@z0q _ _) (by rfl)) rfl (by decide) (by rfl) (by rfl)) rfl (Or.inl rfl))
    refine (@z03 _ _ _ _ _ _ ?_ ?_)
    ·refine (@z7q _ _ _ _ _ _ _ ?_ ?_ (by rfl) (by rfl) (by rfl))
     ·exact (@z0h _ _ _ _ _ (4) _ _ _ _ _ k__law_rule_by z4B (hr.mono (by decide)) rfl (@z1u _ _ _ _ _ _ (pv 5) (@z06 _ _ _ _ _ _ (@z04 _ _ _ _ _) (@z0q _ _) (by rfl)) (by rfl)) rfl (by decide) (by rfl) (by rfl))
     ·exact (@z5d _ _ _ _ _ _ _ rfl (@z0X _ _ _ _ _ _ (@z0F _ _ _ ([]) (2) _ hnp sc_law.nd rfl (Or.inl rfl) (Or.inl rfl)) (@z0X _ _ _ _ _ _ (@z0F _ _ _ ([]) (3) _ hnp sc_law.nd rfl (Or.inl rfl) (Or.inl rfl)) (@z0X _ _ _ _ _ _ (@z0F _ _ _ ([]) (6) _ hnp sc_law.nd rfl (Or.inl rfl) (Or.inl rfl)) (@z3i _ _) (by rfl)) (by rfl)) (by rfl)) (by rfl) (by rfl))
    refine (@z03 _ _ _ _ _ _ ?_ ?_)
    ·exact (@z0E _ _ _ _ _ _ ([]) (7) _ hnp sc_law.nd rfl (Or.inl rfl) (@z0h _ _ _ _ _ (3) _ _ _ _ _ k__law_shuffled z42 (hr.mono (by decide)) rfl (@z1u _ _ _ _ _ _ (pv 5) (@z06 _ _ _ _ _ _ (@z07 _ _ _ _ (pv 6)) (@z0q _ _) (by rfl)) (by rfl)) rfl (by decide) (by rfl) (by rfl)) rfl (Or.inl rfl))
    refine (@z03 _ _ _ _ _ _ ?_ ?_)
    ·refine (@z18 _ _ _ _ _ _ _ _ _ ?_ ?_ ?_)
     ·exact (@z0S _ _ _ _ _ (@z0U _ _ _ _ (@z0h _ _ _ _ _ (5) _ _ _ _ _ k__law_right z1q (hr.mono (by decide)) rfl (@z06 _ _ _ _ _ _ (@z07 _ _ _ _ (pv 2)) (@z06 _ _ _ _ _ _ (@z07 _ _ _ _ (pv 3)) (@z06 _ _ _ _ _ _ (@z07 _ _ _ _ (pv 7)) (@z0q _ _) (by rfl)) (by rfl)) (by rfl)) rfl (by decide) (by rfl) (by rfl)) (by intro _; rfl)))
     ·refine (@z0e _ _ _ _ ?_)
      refine (@z0k _ _ _ _ _ ?_)
      exact (@z1G _ _ _ _ _)
     ·exact z0B
    refine (@z0e _ _ _ _ ?_)
    refine (@z3a _ _ _ _ _ _ _ _ _ PassesOwn.never rfl ?_ ?_ ?_ (by intro _; rfl))
    ·exact (@z2c _ _ _ _ _ _ _ rfl T.z_range (@z04 _ _ _ _ _) (by rfl))
    ·exact (@z0F _ _ _ ([]) (8) _ hnp sc_law.nd rfl (Or.inl rfl) (Or.inl rfl))
    ·refine (@z0e _ _ _ _ ?_)
     refine (@z18 _ _ _ _ _ _ _ _ _ ?_ ?_ ?_)
     ·exact (@z0S _ _ _ _ _ (@z0U _ _ _ _ (@z0h _ _ _ _ _ (5) _ _ _ _ _ k__law_right z1q (hr.mono (by decide)) rfl (@z06 _ _ _ _ _ _ (@z07 _ _ _ _ (pv 2)) (@z06 _ _ _ _ _ _ (@z07 _ _ _ _ (pv 3)) (@z06 _ _ _ _ _ _ (@z0h _ _ _ _ _ (3) _ _ _ _ _ k__law_spoilt z57 (hr.mono (by decide)) rfl (@z06 _ _ _ _ _ _ (@z07 _ _ _ _ (pv 7)) (@z1u _ _ _ _ _ _ (pv 5) (@z0q _ _) (by rfl)) (by rfl)) rfl (by decide) (by rfl) (by rfl)) (@z0q _ _) (by rfl)) (by rfl)) (by rfl)) rfl (by decide) (by rfl) (by rfl)) (by intro _; rfl)))
     ·refine (@z0e _ _ _ _ ?_)
      refine (@z0k _ _ _ _ _ ?_)
      exact (@z1G _ _ _ _ _)
     ·exact z0B
  refine (@z0e _ _ _ _ ?_)
  refine (@z0k _ _ _ _ _ ?_)
  exact (@z1G _ _ _ _ _)) fun ss y h=>z0C (hGt ss y h)
theorem all_mk {l:PySem.W.OpenLaw} {w:Wp} {K:W0} {h:Heap} {mg:Str→Option Value} {fa:Addr} {Gt:DF} (hGt:∀ ce ss y,Gt ss=some y→zaj ce ss=some y) (X:K.In h) (G:h.Ns Wj mg) (hfa:mg "law" = some (.ref fa))
  (d0:FnH K "_law_whole" z2p)
  (d1:FnH K "_law_sizes_good" z1I)
  (d2:FnH K "_law_floor_good" z1J)
  (d3:FnH K "_law_pair_good" z1Z)
  (d4:FnH K "_law_strange" z2D)
  (d5:FnH K "_law_due_number" z1K)
  (d6:FnH K "whole_from" z3j)
  (d7:FnH K "whole_within" z2B)
  (d8:FnH K "sizes_good" z3k)
  (d9:FnH K "letters_good" z2C)
  (d10:FnH K "floor_good" z3l)
  (d11:FnH K "tile_good" z3R)
  (d12:FnH K "pair_good" z3S)
  (d13:FnH K "first_unblocked" z1H)
  (d14:FnH K "rule_of" z5K)
  (d15:FnH K "_law_rule_good" z1Y)
  (d16:FnH K "_law_kind_of" z2F)
  (d17:FnH K "_law_right" z3m)
  (d18:FnH K "_law_cell_at" z2G)
  (d19:FnH K "_law_pen_of" z32)
  (d20:FnH K "_law_next" z3U)
  (d21:FnH K "_law_draw" z3V)
  (d22:FnH K "_law_sizes_by" z2e)
  (d23:FnH K "_law_pick" z3T)
  (d24:FnH K "_law_rule_by" z2E)
  (d25:FnH K "_law_shuffled" z2f)
  (d26:FnH K "_law_spoilt" z31)
  (a27:nsIn K Wj "law" = some (some (.ref f27)))
  (l27:K.lookup f27=some ⟨oc27,od27,.func (Qg "law" "law" (z36 z6V) (z1i z6V) (z05 z6V) .none kV27 dc27 pm27 an27 cd27 ct27),sl27⟩)
  (c27:codeIn K cd27 "law" = true)
  (k27:keepIn K (.ref f27)=true)
  (z_ValueError:nsIn K Wj "ValueError" = some none)
  (z_all:nsIn K Wj "all" = some none)
  (z_any:nsIn K Wj "any" = some none)
  (z_bool:nsIn K Wj "bool" = some none)
  (z_dict:nsIn K Wj "dict" = some none)
  (z_enumerate:nsIn K Wj "enumerate" = some none)
  (z_int:nsIn K Wj "int" = some none)
  (z_isinstance:nsIn K Wj "isinstance" = some none)
  (z_len:nsIn K Wj "len" = some none)
  (z_list:nsIn K Wj "list" = some none)
  (z_max:nsIn K Wj "max" = some none)
  (z_range:nsIn K Wj "range" = some none)
  (z_sorted:nsIn K Wj "sorted" = some none)
  (z_str:nsIn K Wj "str" = some none)
  (z_tuple:nsIn K Wj "tuple" = some none)
  (g_MOST_SIZE:nsIn K Wj "MOST_SIZE" = some (some (.int 4 t_MOST_SIZE)))
  (g_MOST_TILES:nsIn K Wj "MOST_TILES" = some (some (.int 64 t_MOST_TILES)))
  (ac_j:nsIn K Wj "FloorError" = some (some (.ref C_j)))
  (ac_a:nsIn K Wj "NoFloor" = some (some (.ref C_a)))
  (ac_b:nsIn K Wj "NoPlace" = some (some (.ref C_b)))
  (ac_c:nsIn K Wj "NoNumber" = some (some (.ref C_c)))
  (ac_d:nsIn K Wj "NoRow" = some (some (.ref C_d)))
  (ac_e:nsIn K Wj "Unlike" = some (some (.ref C_e)))
  (ac_f:nsIn K Wj "NoTile" = some (some (.ref C_f)))
  (ac_g:nsIn K Wj "NoRule" = some (some (.ref C_g)))
  (ac_h:nsIn K Wj "NoText" = some (some (.ref C_h)))
  (ac_i:nsIn K Wj "TooGreat" = some (some (.ref C_i)))
  (ia_g:Jc K (.ref C_g) "__init__" = some (some (.ref fi_g)))
  (li_g:K.lookup fi_g=some ⟨oci_g,odi_g,.func (Qg "__init__" "NoRule.__init__" (z36 si_g) (z1i si_g) (z05 si_g) .none kVi_g dci_g pmi_g ani_g cdi_g cti_g),sli_g⟩)
  (cci_g:codeIn K cdi_g "NoRule.__init__" = true)
  (kfi_g:keepIn K (.ref fi_g)=true)
  (qi_g:excI K C_g fi_g=true)
  (fni_g:PySem.W.isFn K (.ref fi_g)=true)
  (kci_g:keepIn K (.ref C_g)=true)
  (sai_g:Jc K (.ref C_g) "__setattr__" = some (some (.builtin "object.__setattr__")))
  (ovi_g:z95 K C_g=true)
  (hdi_g:Jw K C_g=true)
  (tki_g_number:PySem.W.takerIn K C_g "number" = some none)
  (qc_j:PySem.W.excIn K C_j vErr "ValueError.__new__" = true)
  (spc:PySem.W.specialIn K (.builtin "object.__class__") "__get__" = some (some (.builtin "getset_descriptor.__get__")))
  (tkc:PySem.W.takesIn K (.builtin "object.__class__")=some true)
  (ga_g:Jc K (.ref C_g) "__getattribute__" = some (some (.builtin "BaseException.__getattribute__")))
  (gt_g:Jc K (.ref C_g) "__getattr__" = some none)
  (cl_g:Jc K (.ref C_g) "__class__" = some (some (.builtin "object.__class__")))
  (mo_g:mroIn K C_g (.type "object")=some true)
  (mb_g:mroIn K C_g (.type "BaseException")=some true)
  (ci_g:PySem.W.isClsIn K C_g=true)
  (kv_g:kitOne K (.ref C_g) (.type "ValueError")=some true)
  (no_g_number:Jc K (.ref C_g) "number" = some none)
  (hx_g:Jw K C_g=true)
  (ki_g_a:kitOne K (.ref C_g) (.ref C_a)=some false)
  (ki_g_b:kitOne K (.ref C_g) (.ref C_b)=some false)
  (ki_g_c:kitOne K (.ref C_g) (.ref C_c)=some false)
  (ki_g_d:kitOne K (.ref C_g) (.ref C_d)=some false)
  (ki_g_e:kitOne K (.ref C_g) (.ref C_e)=some false)
  (ki_g_f:kitOne K (.ref C_g) (.ref C_f)=some false)
  (ki_g_g:kitOne K (.ref C_g) (.ref C_g)=some true)
  (ki_g_h:kitOne K (.ref C_g) (.ref C_h)=some false)
  (ki_g_i:kitOne K (.ref C_g) (.ref C_i)=some false)
  (mr_g_j:mroIn K C_g (.ref C_j)=some true)
  : ∃ fd:WF,(∀ (s:W2) (v:Value),BindsTo s fd ⟨[v],[]⟩ [("script",v)])∧∀ base:Heap,K.In base→base.Ns Wj mg→FnOk l.prog w K mg base CX0 6 fa fd ["script"] (spD 1 Gt):=by
 have e:=hfa.symm.trans (mg_of X G a27)
 cases e
 have E_g:ExcK K C_g:=⟨ga_g,gt_g,cl_g,spc,tkc,mo_g,mb_g⟩
 have T:Txt (ceOf [([70,108,111,111,114,69,114,114,111,114],C_j),([78,111,70,108,111,111,114],C_a),([78,111,80,108,97,99,101],C_b),([78,111,78,117,109,98,101,114],C_c),([78,111,82,111,119],C_d),([85,110,108,105,107,101],C_e),([78,111,84,105,108,101],C_f),([78,111,82,117,108,101],C_g),([78,111,84,101,120,116],C_h),([84,111,111,71,114,101,97,116],C_i)]) K mg:=⟨WD X G z_ValueError,WD X G z_all,WD X G z_any,WD X G z_bool,WD X G z_dict,WD X G z_enumerate,WD X G z_int,WD X G z_isinstance,WD X G z_len,WD X G z_list,WD X G z_max,WD X G z_range,WD X G z_sorted,WD X G z_str,WD X G z_tuple,zck,zea,ze9,zao,⟨_,mg_of X G g_MOST_SIZE⟩,⟨_,mg_of X G g_MOST_TILES⟩,mg_of X G ac_j,mg_of X G ac_a,mg_of X G ac_b,mg_of X G ac_c,mg_of X G ac_d,mg_of X G ac_e,mg_of X G ac_f,mg_of X G ac_g,mg_of X G ac_h,mg_of X G ac_i,qc_j,⟨(fm1 E_g),(fm1 ci_g),(fm1 ki_g_a)⟩,⟨(fm1 E_g),(fm1 ci_g),(fm1 ki_g_b)⟩,⟨(fm1 E_g),(fm1 ci_g),(fm1 ki_g_c)⟩,⟨(fm1 E_g),(fm1 ci_g),(fm1 ki_g_d)⟩,⟨(fm1 E_g),(fm1 ci_g),(fm1 ki_g_e)⟩,⟨(fm1 E_g),(fm1 ci_g),(fm1 ki_g_f)⟩,⟨(fm1 E_g),(fm1 ci_g),(fm1 ki_g_g)⟩,⟨(fm1 E_g),(fm1 ci_g),(fm1 ki_g_h)⟩,⟨(fm1 E_g),(fm1 ci_g),(fm1 ki_g_i)⟩,⟨(fm1 E_g),(fm1 no_g_number),(fm1 hx_g)⟩,⟨(fm1 E_g),(fm1 ci_g),(fm1 kv_g)⟩,(fm1 ⟨(by rw [show toS [78,111,82,117,108,101]=("NoRule" : Str) from by decide +kernel]; exact mg_of X G ac_g),mr_g_j⟩)⟩
 obtain ⟨f0,fd0,F0,m0⟩:=fnH X G d0
 obtain ⟨f1,fd1,F1,m1⟩:=fnH X G d1
 obtain ⟨f2,fd2,F2,m2⟩:=fnH X G d2
 obtain ⟨f3,fd3,F3,m3⟩:=fnH X G d3
 obtain ⟨f4,fd4,F4,m4⟩:=fnH X G d4
 obtain ⟨f5,fd5,F5,m5⟩:=fnH X G d5
 obtain ⟨f6,fd6,F6,m6⟩:=fnH X G d6
 obtain ⟨f7,fd7,F7,m7⟩:=fnH X G d7
 obtain ⟨f8,fd8,F8,m8⟩:=fnH X G d8
 obtain ⟨f9,fd9,F9,m9⟩:=fnH X G d9
 obtain ⟨f10,fd10,F10,m10⟩:=fnH X G d10
 obtain ⟨f11,fd11,F11,m11⟩:=fnH X G d11
 obtain ⟨f12,fd12,F12,m12⟩:=fnH X G d12
 obtain ⟨f13,fd13,F13,m13⟩:=fnH X G d13
 obtain ⟨f14,fd14,F14,m14⟩:=fnH X G d14
 obtain ⟨f15,fd15,F15,m15⟩:=fnH X G d15
 obtain ⟨f16,fd16,F16,m16⟩:=fnH X G d16
 obtain ⟨f17,fd17,F17,m17⟩:=fnH X G d17
 obtain ⟨f18,fd18,F18,m18⟩:=fnH X G d18
 obtain ⟨f19,fd19,F19,m19⟩:=fnH X G d19
 obtain ⟨f20,fd20,F20,m20⟩:=fnH X G d20
 obtain ⟨f21,fd21,F21,m21⟩:=fnH X G d21
 obtain ⟨f22,fd22,F22,m22⟩:=fnH X G d22
 obtain ⟨f23,fd23,F23,m23⟩:=fnH X G d23
 obtain ⟨f24,fd24,F24,m24⟩:=fnH X G d24
 obtain ⟨f25,fd25,F25,m25⟩:=fnH X G d25
 obtain ⟨f26,fd26,F26,m26⟩:=fnH X G d26
 have F27:=zbI (st:=z6V) l27 c27 k27
 have Fi_g:=zbI (st:=si_g) li_g cci_g kfi_g
 have bi_g:Binds K _ ["self","number"] []:=bd2 Fi_g fun _ _ _ _ _ _ _ _=>rfl
 refine ⟨Qg "law" "law" (z36 z6V) (z1i z6V) (z05 z6V) .none kV27 dc27 pm27 an27 cd27 ct27,fun s v=>.of_eq rfl,fun base _ _=>?_⟩
 have n_g:IniK l.prog w K mg base C_g ["number"]:=⟨fi_g,_,["self","number"],qi_g,fni_g,kci_g,(List.forall_mem_cons.mpr ⟨⟨sai_g,ovi_g,hdi_g,tki_g_number⟩,(fun _ h=>nomatch h)⟩),bi_g,zdf Fi_g sci_g rfl (fun vs h=>by unfold L2.start; simp [h]) fun cdv A outer s H E hr=>zb0 (zeB rfl (pv 0) (pv 1) rfl)⟩
 have k__law_whole:=z75 (P:=l.prog) (w:=w) (base:=base) F0 m0 (bd1 F0 fun _ _ _ _ _ _ _=>rfl) T
 have h__law_whole:=z6n (P:=l.prog) (w:=w) (base:=base) F0 m0 (bd1 F0 fun _ _ _ _ _ _ _=>rfl) T
 have k__law_sizes_good:=z4s F1 m1 (bd2 F1 fun _ _ _ _ _ _ _ _=>rfl) T k__law_whole
 have k__law_floor_good:=z4t (P:=l.prog) (w:=w) (base:=base) F2 m2 (bd1 F2 fun _ _ _ _ _ _ _=>rfl) T
 have k__law_pair_good:=z51 F3 m3 (bd3 F3 fun _ _ _ _ _ _ _ _ _=>rfl) T k__law_floor_good
 have k__law_strange:=z5U (P:=l.prog) (w:=w) (base:=base) F4 m4 (bd2 F4 fun _ _ _ _ _ _ _ _=>rfl) T
 have k__law_due_number:=z4u F5 m5 (bd3 F5 fun _ _ _ _ _ _ _ _ _=>rfl) T k__law_sizes_good k__law_pair_good k__law_strange
 have k_whole_from:=z72 (P:=l.prog) (w:=w) (base:=base) F6 m6 (bd2 F6 fun _ _ _ _ _ _ _ _=>rfl) T
 have k_whole_within:=z5S F7 m7 (bd3 F7 fun _ _ _ _ _ _ _ _ _=>rfl) T k_whole_from
 have k_sizes_good:=z73 F8 m8 (bd2 F8 fun _ _ _ _ _ _ _ _=>rfl) T k_whole_within
 have k_letters_good:=z5T (P:=l.prog) (w:=w) (base:=base) F9 m9 (bd2 F9 fun _ _ _ _ _ _ _ _=>rfl) T
 have k_floor_good:=z74 F10 m10 (bd1 F10 fun _ _ _ _ _ _ _=>rfl) T k_letters_good
 have k_tile_good:=z7L F11 m11 (bd1 F11 fun _ _ _ _ _ _ _=>rfl) T k_letters_good
 have k_pair_good:=z7M F12 m12 (bd3 F12 fun _ _ _ _ _ _ _ _ _=>rfl) T k_floor_good k_tile_good
 have k_first_unblocked:=z4r (P:=l.prog) (w:=w) (base:=base) F13 m13 (bd1 F13 fun _ _ _ _ _ _ _=>rfl) T
 have k_rule_of:=z9Q F14 m14 (bd3 F14 fun _ _ _ _ _ _ _ _ _=>rfl) T k_sizes_good k_pair_good k_first_unblocked n_g
 have k__law_rule_good:=z50 F15 m15 (bd1 F15 fun _ _ _ _ _ _ _=>rfl) T k__law_sizes_good k__law_pair_good k__law_strange
 have h__law_kind_of:=z5k (P:=l.prog) (w:=w) (base:=base) F16 m16 (bd1 F16 fun _ _ _ _ _ _ _=>rfl) T
 have k__law_right:=z76 F17 m17 (bd3 F17 fun _ _ _ _ _ _ _ _ _=>rfl) T k__law_due_number k_rule_of k__law_rule_good h__law_whole h__law_kind_of
 have k__law_cell_at:=z5W (P:=l.prog) (w:=w) (base:=base) F18 m18 (bd2 F18 fun _ _ _ _ _ _ _ _=>rfl) T
 have k__law_pen_of:=z6p (P:=l.prog) (w:=w) (base:=base) F19 m19 (bd1 F19 fun _ _ _ _ _ _ _=>rfl) T
 have k__law_next:=z7O (P:=l.prog) (w:=w) (base:=base) F20 m20 (bd1 F20 fun _ _ _ _ _ _ _=>rfl) T
 have k__law_draw:=z7P F21 m21 (bd2 F21 fun _ _ _ _ _ _ _ _=>rfl) T k__law_next
 have k__law_sizes_by:=z5l F22 m22 (bd1 F22 fun _ _ _ _ _ _ _=>rfl) T k__law_draw
 have k__law_pick:=z7N F23 m23 (bd4 F23 fun _ _ _ _ _ _ _ _ _ _=>rfl) T k__law_draw
 have k__law_rule_by:=z5V F24 m24 (bd2 F24 fun _ _ _ _ _ _ _ _=>rfl) T k__law_draw k__law_sizes_by k__law_pick
 have k__law_shuffled:=z5m F25 m25 (bd2 F25 fun _ _ _ _ _ _ _ _=>rfl) T k__law_draw
 have k__law_spoilt:=z6o F26 m26 (bd2 F26 fun _ _ _ _ _ _ _ _=>rfl) T k__law_draw
 exact zgs F27 T k__law_right k__law_cell_at k__law_pen_of k__law_rule_by k__law_shuffled k__law_spoilt (hGt _)
open PySem (sizeLine)
theorem z45 (f:DE) (δ:Dl):iSq f δ=(f δ).bind fun r δ1=>match r.d with
 | .lst ds=>.ok ds δ1
 | .tup ds=>.ok ds δ1
 | .str x=>.ok (x.map fun n=>.str [n]) δ1
 | _=>.stuck:=id rfl
theorem z27 (p p':D→D→Option S) (fa fb:DE) (fc:BE) (δ:Dl):z4L p p' fa fb fc δ=(fa δ).bind fun x δ1=>(fb δ1).bind fun y δ2=>(p2 p x.d y.d δ2).bind fun z δ3=>match z with
 | .pure (.bl true)=>(fc δ3).bind fun w δ4=>p2 p' y.d w δ4
 | .pure (.bl false)=>.ok (.pure (.bl false)) δ3
 | _=>.stuck:=id rfl
theorem z3O (neg:Bool) (fa f g:DE) (δ:Dl):eInR neg fa f g δ=(fa δ).bind fun v δ1=>(f δ1).bind fun lo δ2=>(g δ2).bind fun hi δ3=>match v.d,lo.d,hi.d with
 | .int i,.int l,.int h=>.ok (.pure (.bl (if neg then !(decide (l≤i) && decide (i < h)) else (decide (l≤i) && decide (i < h))))) δ3
 | _,_,_=>.stuck:=id rfl
theorem z2w (f F:A→D) (p:A→Bool) (δ:Dl):∀ (as:List A) (acc:List D),acc.length + as.length≤W6 →
  (∀ a ∈ as,∃ δ1 δ2 x δ3,g (.pure (f a)) δ=some δ1∧t δ1 = .ok (p a) δ2∧clrD cs δ2=δ∧el δ2 = .ok x δ3∧clrD cs δ3=δ∧x.d=F a)→z1F cs g t el (as.map f) δ acc = .ok (acc ++ (as.filter p).map F) δ
 | [],acc,_,_=>by simp [z1F]
 | a :: r,acc,hl,hs=>by
  obtain ⟨δ1,δ2,x,δ3,e1,e2,e2',e3,e4,e5⟩:=hs a Wy
  have hl':acc.length < W6:=by simp at hl; omega
  rw [Wz]
  unfold z1F
  rw [e1]
  cases hp:p a with
  | true =>
   have ih:=z2w (cs:=cs) (g:=g) (t:=t) (el:=el) f F p δ r (acc ++ [x.d]) (by simp at hl ⊢; omega) (fun a ha=>hs a (Wl _ ha))
   rw [e5] at ih
   rw [hp] at e2
   simp only [e2,z0M,if_true,e3,if_pos hl',e4,e5,ih,List.filter_cons,hp]
   simp
  | false =>
   have ih:=z2w (cs:=cs) (g:=g) (t:=t) (el:=el) f F p δ r acc (by simp at hl ⊢; omega) (fun a ha=>hs a (Wl _ ha))
   rw [hp] at e2
   simp only [e2,z0M,e2',ih,List.filter_cons,hp]
   simp
theorem z4I (I:Nat→Dl→Prop) (bad:D→Bool) (r:S) (R:Dl→Prop) :
  ∀ (ds:List D) (n:Nat) (δ:Dl),I n δ →
   (∀ (i:Nat) d δ,ds[i]? = some d→I (n + i) δ→∃ δ1,g (.pure d) δ=some δ1∧((bad d=true∧∃ δ2,b δ1 = .ok (.ret r) δ2∧R δ2)∨(bad d=false∧∃ δ2,b δ1 = .ok .next δ2∧I (n + i + 1) δ2))) →
   (ds.any bad=true∧∃ δ',forL g b ds δ = .ok (.ret r) δ'∧R δ')∨(ds.any bad=false∧∃ δ',forL g b ds δ = .ok .next δ'∧I (n + ds.length) δ')
 | [],n,δ,h,_=>.inr ⟨rfl,δ,rfl,h⟩
 | d :: rs,n,δ,h,hs=>by
  obtain ⟨δ1,e1,hh⟩:=hs 0 d δ rfl h
  rcases hh with ⟨hb,δ2,e2,h2⟩ | ⟨hb,δ2,e2,h2⟩
  ·refine .inl ⟨by simp [hb],δ2,?_,h2⟩
   unfold forL
   rw [e1]
   simp only [e2,z0M]
  ·have ih:=z4I (g:=g) (b:=b) I bad r R rs (n + 1) δ2 h2 (fun i d' δ' e hi=>by
    have:=hs (i + 1) d' δ' (by simpa using e) (by rw [show n + (i + 1)=n + 1 + i by omega]; exact hi)
    rw [show n + (i + 1) + 1=n + 1 + i + 1 by omega] at this
    exact this)
   have ef:∀ x,forL g b rs δ2=x→forL g b (d :: rs) δ=x:=fun x hx=>by
    unfold forL
    rw [e1]
    simp only [e2,z0M,hx]
   rcases ih with ⟨ha,δ',e3,h3⟩ | ⟨ha,δ',e3,h3⟩
   ·exact .inl ⟨by simp [ha],δ',ef _ e3,h3⟩
   ·exact .inr ⟨by simp [hb,ha],δ',ef _ e3,by rw [WH,show n + (rs.length + 1)=n + 1 + rs.length by omega]; exact h3⟩
def nx (s:Int):Int:=(((s + 7919) % 2147483647) * ((s + 7919) % 2147483647) + 48271 * ((s + 7919) % 2147483647) + 12345) % 2147483629
theorem zfR (s:Int):z1t [.pure (.int s)]=some (.pure (.int (nx s)),[.pure (.int s)]):=by
 unfold z1t gOf z4b runD
 have h1:=Int.emod_nonneg (s + 7919) (b:=2147483647) (by decide)
 have h2:=Int.emod_lt_of_pos (s + 7919) (b:=2147483647) (by decide)
 have c1:cMul ((s + 7919) % 2147483647) ((s + 7919) % 2147483647)=true:=by unfold cMul; simp; omega
 have c2:cMul 48271 ((s + 7919) % 2147483647)=true:=by unfold cMul; simp
 simp [ioOk,z0a,dAsg,eOpF,eOpN,bVar,pAdd,pMod,pII,z5N,pMul,c1,c2,z0n,z09]
 rfl
def Pen (d:D):Prop:=∃ l f s:Int,d = .lst [.int l,.int f,.int s]∧0≤l
theorem z5M (hp:Pen d) (m:Nat) (h0:0 < m) (h1:m < 1073741824):∃ (r:Nat) (d':D),z0f [.own d,.pure (.int m)]=some (.pure (.int r),[.own d',.pure (.int m)])∧r < m∧Pen d':=by
 obtain ⟨l,f,s,rfl,hl⟩:=hp
 have hm:(0:Int) < (m:Int):=by omega
 have hd:cDiv l m=true:=by unfold cDiv; simp; omega
 unfold z0f gOf z4c runD
 by_cases hf:f=1
 ·subst hf
  have e1:=Int.emod_nonneg l (b:=(m:Int)) (by omega)
  have e2:=Int.emod_lt_of_pos l hm
  refine ⟨(l % (m:Int)).toNat,.lst [.int (l / m),.int 1,.int s],?_,by omega,⟨_,_,_,rfl,Int.ediv_nonneg hl (by omega)⟩⟩
  simp [ioOk,z0a,dAsg,eOpF,eOpN,bVar,eVar,pIx,pEq,eqD,flat,z3E,z8K,z8J,dTr,pMod,pDiv,pII,h0,hd,za6,z2u,putL,z0n,z09,ixN]
  omega
 ·have e1:=Int.emod_nonneg (nx (nx s + 7) / 64) (b:=(m:Int)) (by omega)
  have e2:=Int.emod_lt_of_pos (nx (nx s + 7) / 64) hm
  refine ⟨(nx (nx s + 7) / 64 % (m:Int)).toNat,.lst [.int l,.int f,.int (nx (nx s + 7))],?_,by omega,⟨_,_,_,rfl,hl⟩⟩
  simp [ioOk,z0a,dAsg,eOpF,eOpN,bVar,eVar,pIx,pEq,eqD,flat,z3E,z8K,z8J,dTr,pMod,pDiv,pII,h0,hd,za6,z2u,putL,z0n,z09,ixN,hf,z08,ios,z0H,ndup,evX,mkA,zfR,pAdd,putA,cDiv]
  omega
theorem r_pen (c:Int):∃ d,z1n [.pure (.int c)]=some (.own d,[.pure (.int c)])∧Pen d:=by
 unfold z1n gOf z39 runD
 refine ⟨.lst [.int (if 0 - c > c then 0 - c else c),.int (if decide (1000000000000000000≤(if 0 - c > c then 0 - c else c)) then 1 else 0),.int ((if 0 - c > c then 0 - c else c) % 1000003)],?_,⟨_,_,_,rfl,by split <;> omega⟩⟩
 simp [ioOk,z0a,dAsg,eOpF,eOpN,bVar,eVar,pMax,pSub,pII,pInt,pGe,pCmp,pPow,cPow,pMod,z0n,z09]
theorem z8t (ns:List Int):∃ c:Int,z1c [.pure (.lst (ns.map .int)),.pure (.int 0)]=some (.pure (.int c),[.pure (.lst (ns.map .int)),.pure (.int 0)]):=by
 unfold z1c gOf z2O runD
 cases ns with
 | nil=>exact ⟨0,by simp [ioOk,z0a,eOpF,eOpN,bVar,pLt,pCmp,dTr,pLen,z0n,z09]⟩
 | cons n r=>exact ⟨n,by
   have:(0:Int) < (r.length:Int) + 1:=by omega
   simp [ioOk,z0a,eOpF,eOpN,bVar,pLt,pCmp,dTr,pLen,z0n,z09,pIx,z3E,this]⟩
theorem z2H (hp:Pen d) (m:Nat) (i:Int) (hi:i=m) (h0:0 < m) (h1:m < 1073741824):∃ (r:Nat) (d':D),z0f [.own d,.pure (.int i)]=some (.pure (.int r),[.own d',.pure (.int i)])∧r < m∧Pen d':=by
 subst hi
 exact z5M hp m h0 h1
def letN (n:Nat):Bool:=decide (97≤n) && decide (n≤122)
def lg (m:Nat):D→Bool
 | .str x=>decide (1≤x.length) && decide (x.length≤m) && x.all letN
 | _=>false
def z0P (w:Nat):D→Bool
 | .str x=>lg 64 (.str x) && x.length == w
 | _=>false
def len0:List D→Nat
 | .str x :: _=>x.length
 | _=>0
def isFl:D→Bool
 | .tup ds=>decide (1≤ds.length) && decide (ds.length≤64) && ds.all (z0P (len0 ds))
 | _=>false
def Sm:D→Prop
 | .str x=>x.length≤1000
 | .exc _ _=>False
 | .xd _=>False
 | _=>True
def SmT:D→Prop
 | .tup ds=>ds.length≤1000∧∀ d ∈ ds,Sm d
 | .exc _ _=>False
 | .xd _=>False
 | _=>True
theorem le_a (n:Nat):pLe (.str [97]) (.str [n])=some (.pure (.bl (decide (97≤n)))):=by
 unfold pLe pCmp
 simp only [lt1]
 congr 3
 by_cases h:97≤n <;> simp [h] <;> omega
theorem le_z (n:Nat):pLe (.str [n]) (.str [122])=some (.pure (.bl (decide (n≤122)))):=by
 unfold pLe pCmp
 simp only [lt1]
 congr 3
 by_cases h:n≤122 <;> simp [h] <;> omega
theorem le_int (i j:Int):pLe (.int i) (.int j)=some (.pure (.bl (decide (i≤j)))):=rfl
theorem z0T (x:Tx) (h:x.length≤1000):pLen (.str x)=some (.pure (.int x.length)):=by
 unfold pLen
 have:W6=16777216:=rfl
 simp only
 rw [if_pos (by omega)]
theorem zcf (xs:List Nat) (p:Nat→Bool):pAll (.lst (xs.map fun n=>.bl (p n)))=some (.pure (.bl (xs.all p))):=by
 have e:(xs.map fun n=>D.bl (p n))=(xs.map p).map D.bl:=by simp
 unfold pAll
 simp only [e,z7g,Wv]
 simp [QM,Function.comp_def]
theorem z7E (d:D) (m:Nat) (hd:Sm d):z0y [.pure d,.pure (.int m)]=some (.pure (.bl (lg m d)),[.pure d,.pure (.int m)]):=by
 unfold z0y gOf z2K runD
 cases d with
 | str x =>
  have hx:x.length≤1000:=hd
  by_cases h1:1≤x.length
  ·by_cases h2:x.length≤m
   ·have e:=z2X (cs:=[2]) (g:=gNm [] 2) (t:=dYes) (el:=z4L pLe pLe (eD (.str [97])) (eVar 2) (bOf (eD (.str [122])))) (fun n:Nat=>D.str [n]) (fun n=>.bl (letN n)) [some (.pure (.str x)),some (.pure (.int m)),none] x [] (by rw [z13]; simp; omega) (fun n hn=>by
     refine ⟨_,_,.pure (.bl (letN n)),[some (.pure (.str x)),some (.pure (.int m)),some (.pure (.str [n]))],rfl,rfl,?_,rfl,rfl⟩
     unfold letN
     by_cases ha:97≤n
     ·simp [z27,eVar,le_a,le_z,ha]
     ·simp [z27,eVar,le_a,ha])
    have ea:=zcf x letN
    simp only [WX] at e
    have c1:(1:Int)≤(x.length:Int):=by omega
    simp [ioOk,z0a,dTr,eIsi,isTy,bVar,eVar,z27,z0T x hx,le_int,h2,c1,z45,z0H,clrD]
    rw [e]
    simp [ea,z1s,z0n,z09,lg,h1,h2]
   ·have c1:(1:Int)≤(x.length:Int):=by omega
    simp [ioOk,z0a,dTr,eIsi,isTy,bVar,z27,z0T x hx,le_int,h2,c1,z0n,z09,lg]
  ·have c1:¬ (1:Int)≤(x.length:Int):=by omega
   simp [ioOk,z0a,dTr,eIsi,isTy,bVar,z27,z0T x hx,le_int,c1,z0n,z09,lg,h1]
 | exc _ _=>exact hd.elim
 | xd _=>exact hd.elim
 | _=>simp [ioOk,z0a,dTr,eIsi,isTy,bVar,z0n,z09,lg]
theorem z1T (i j:Int):pNe (.int i) (.int j)=some (.pure (.bl (!(i == j)))):=rfl
theorem z1h (ds:List D):pLen (.tup ds)=some (.pure (.int ds.length)):=rfl
theorem ix0 (ds:List D) (d:D) (h:ds[0]? = some d):pIx (.tup ds) (.int 0)=some (.pure d):=by simp [pIx,z3E,h]
theorem z7F (d:D) (hd:SmT d):z1y [.pure d]=some (.pure (.bl (isFl d)),[.pure d]):=by
 unfold z1y gOf z3A runD
 cases d with
 | tup ds =>
  obtain ⟨hl,hs⟩:=hd
  by_cases h1:1≤ds.length
  ·have c1:(1:Int)≤(ds.length:Int):=by omega
   by_cases h2:ds.length≤64
   ·have c2:(ds.length:Int)≤64:=by omega
    obtain ⟨d0,h0⟩:∃ d0,ds[0]? = some d0:=⟨ds[0],by simp [h1]⟩
    have hw:∀ x,d0 = .str x→len0 ds=x.length:=fun x e=>by
     cases ds with
     | nil=>simp at h0
     | cons a r=>simp at h0; subst h0; subst e; rfl
    have F:=z4I (g:=gNm [] 1) (b:=(dIf (dOr (dNot (dTr (z08 z0y [.val (eVar 1),.val (eD (.int 64))]))) (dTr (eOp pNe (eC1 pLen (bVar 1)) (bOf (eC1 pLen (bOf (eOpF pIx 0 (bOf (eD (.int 0)))))))))) (dRet (eD (.bl false))) z0I))
     (fun n δ=>(∃ a,δ=[some (.pure (.tup ds)),a])∧(0 < n→∃ x,d0 = .str x∧x.length≤1000)) (fun d=>!z0P (len0 ds) d) (.pure (.bl false)) (fun _=>True) ds 0 [some (.pure (.tup ds)),none] ⟨⟨_,rfl⟩,fun h=>absurd h (by omega)⟩ (fun i d δ hi ⟨⟨a,e⟩,hx⟩=>by
      subst e
      have hm:Sm d:=hs d (Wr hi)
      have el:=z7E d 64 hm
      have el':z0y [.pure d,.pure (.int 64)]=some (.pure (.bl (lg 64 d)),[.pure d,.pure (.int 64)]):=el
      refine ⟨[some (.pure (.tup ds)),some (.pure d)],rfl,?_⟩
      cases hg:lg 64 d with
      | false =>
       refine .inl ⟨?_,[some (.pure (.tup ds)),some (.pure d)],?_,trivial⟩
       ·cases d <;> simp [z0P] at hg ⊢
        simp [hg]
       ·rw [hg] at el'
        simp [dTr,z08,ios,ndup,evX,eVar,mkA,el',putA]
      | true =>
       obtain ⟨x,rfl⟩:∃ x,d = .str x:=by cases d <;> simp [lg] at hg <;> exact ⟨_,rfl⟩
       have hx1:x.length≤1000:=hm
       obtain ⟨x0,ex0,hx0⟩:∃ x,d0 = .str x∧x.length≤1000:=by
        cases i with
        | zero=>rw [h0] at hi; cases hi; exact ⟨x,rfl,hx1⟩
        | succ i=>exact hx (by omega)
       have ei:=ix0 ds d0 h0
       rw [ex0] at ei
       rw [hg] at el'
       have hw':=hw x0 ex0
       by_cases hc:x.length=x0.length
       ·refine .inr ⟨by simp [z0P,hg,hw',hc],[some (.pure (.tup ds)),some (.pure (.str x))],?_,⟨⟨_,rfl⟩,fun _=>⟨x0,ex0,hx0⟩⟩⟩
        simp [dTr,z08,ios,ndup,evX,eVar,mkA,el',putA,bVar,z0T x hx1,eOpF,eOpN,ei,z0T x0 hx0,z1T,hc]
       ·refine .inl ⟨by simp [z0P,hg,hw',hc],[some (.pure (.tup ds)),some (.pure (.str x))],?_,trivial⟩
        have hc':¬ (x.length:Int)=(x0.length:Int):=by omega
        simp [dTr,z08,ios,ndup,evX,eVar,mkA,el',putA,bVar,z0T x hx1,eOpF,eOpN,ei,z0T x0 hx0,z1T,hc'])
    have hall:ds.any (fun d=>!z0P (len0 ds) d) = !ds.all (z0P (len0 ds)):=by rw [List.any_eq_not_all_not]; simp
    rcases F with ⟨ha,δ',e,_⟩ | ⟨ha,δ',e,⟨a,rfl⟩,_⟩
    ·have:ds.all (z0P (len0 ds))=false:=by rw [hall] at ha; simpa using ha
     simp [ioOk,z0a,dTr,eIsi,isTy,bVar,z27,z1h,le_int,c1,c2,z45,eVar]
     rw [e]
     simp [z0n,z09,isFl,h1,h2,this]
    ·have:ds.all (z0P (len0 ds))=true:=by rw [hall] at ha; simpa using ha
     simp [ioOk,z0a,dTr,eIsi,isTy,bVar,z27,z1h,le_int,c1,c2,z45,eVar]
     rw [e]
     simp [z0n,z09,isFl,h1,h2,this]
   ·have c2:¬ (ds.length:Int)≤64:=by omega
    simp [ioOk,z0a,dTr,eIsi,isTy,bVar,z27,z1h,le_int,c1,c2,z0n,z09,isFl,h2]
  ·have c1:¬ (1:Int)≤(ds.length:Int):=by omega
   simp [ioOk,z0a,dTr,eIsi,isTy,bVar,z27,z1h,le_int,c1,z0n,z09,isFl,h1]
 | exc _ _=>exact hd.elim
 | xd _=>exact hd.elim
 | _=>simp [ioOk,z0a,dTr,eIsi,isTy,bVar,z0n,z09,isFl]
def lettersT:Tx:=[97,98,99,100,101,102,103,104,105,106,107,108,109,110,111,112,113,114,115,116,117,118,119,120,121,122]
theorem z60 (n:Nat):decide (n ∈ lettersT)=letN n:=by
 by_cases h:n < 123
 ·revert n; decide
 ·rw [decide_eq_false fun m=>h ((by decide:∀ x ∈ lettersT,x < 123) n m)]; simp [letN]; omega
theorem zbp (L:List D) (hL:flat 50 (.lst L)=true):pNe (.lst L) (.lst [])=some (.pure (.bl (!L.isEmpty))):=by
 unfold pNe
 rw [hL]
 cases L with
 | nil=>rfl
 | cons a r=>rfl
theorem z6a (xs:List Tx) (n:Nat):flat (n + 1) (.lst (xs.map .str))=true:=by
 unfold flat
 induction xs with
 | nil=>rfl
 | cons x r ih=>simp [z2I,flat] at ih ⊢; exact ih
theorem z9x (ds:List D) (f:D→Bool):pAll (.lst (ds.map fun d=>.bl (f d)))=some (.pure (.bl (ds.all f))):=by
 have e:(ds.map fun d=>D.bl (f d))=(ds.map f).map D.bl:=by simp
 unfold pAll
 simp only [e,z7g,Wv]
 simp [QM,Function.comp_def]
theorem z6L (x:List Nat) (p:Nat→Bool):(x.filter fun n=>!p n).isEmpty=x.all p:=by
 induction x with
 | nil=>rfl
 | cons a r ih=>cases hq:p a <;> simp [List.filter_cons,hq,ih]
def z9Z:D→Bool
 | .str _=>true
 | _=>false
theorem z9O (d:D) (hd:SmT d):z0R [.pure d]=some (.pure (.bl (isFl d)),[.pure d]):=by
 unfold z0R gOf z1O runD
 cases d with
 | tup ds =>
  obtain ⟨hl,hs⟩:=hd
  by_cases h1:1≤ds.length∧ds.length≤64
  ·have c1:(1:Int)≤(ds.length:Int):=by omega
   have c2:(ds.length:Int) < 65:=by omega
   obtain ⟨d0,h0⟩:∃ d0,ds[0]? = some d0:=⟨ds[0]'(by omega),by simp [h1.1]⟩
   have ec:=z2X (cs:=[1]) (g:=gNm [] 1) (t:=dYes) (el:=eIsi "str" (bVar 1)) (fun d:D=>d) (fun d=>.bl (z9Z d)) [some (.pure (.tup ds)),none,none] ds [] (by rw [z13]; simp; omega) (fun d hd=>by
    refine ⟨_,_,.pure (.bl (z9Z d)),[some (.pure (.tup ds)),some (.pure d),none],rfl,rfl,?_,rfl,rfl⟩
    have hd:=hs d hd
    cases d <;> first | rfl | exact hd.elim)
   rw [show ds.map (fun d:D=>d)=ds by simp] at ec
   simp only [WX] at ec
   have ea:=z9x ds z9Z
   cases hstr:ds.all z9Z with
   | false =>
    have:ds.all (z0P (len0 ds))=false:=by
     rw [List.all_eq_false] at hstr ⊢
     obtain ⟨d,hm,hn⟩:=hstr
     exact ⟨d,hm,by cases d <;> simp [z9Z,z0P] at hn ⊢⟩
    rw [hstr] at ea
    simp [ioOk,z0a,dTr,eIsi,isTy,bVar,z3O,z1h,c1,c2,z45,eVar,z0H,clrD]
    rw [ec]
    simp [ea,z0n,z09,z1s,isFl,this]
   | true =>
    rw [hstr] at ea
    have hS:∀ d ∈ ds,∃ x,d = .str x∧x.length≤1000:=fun d hm=>by
     have:=WB.mp hstr d hm
     have hq:=hs d hm
     cases d <;> simp [z9Z] at this
     exact ⟨_,rfl,hq⟩
    obtain ⟨x0,rfl,hx0⟩:=hS d0 (Wr h0)
    have ei:=ix0 ds _ h0
    have hw:len0 ds=x0.length:=by
     cases ds with
     | nil=>simp at h0
     | cons a r=>simp at h0; subst h0; rfl
    by_cases h2:1≤x0.length∧x0.length≤64
    ·have c3:(1:Int)≤(x0.length:Int):=by omega
     have c4:(x0.length:Int) < 65:=by omega
     have F:=z4I (g:=gNm [] 1) (b:=(dIf (dOr (dTr (eOp pNe (eC1 pLen (bVar 1)) (bOf (eC1 pLen (bOf (eOpF pIx 0 (bOf (eD (.int 0))))))))) (dTr (eOp pNe (z2j [2] (iSq (eVar 1)) (gNm [] 2) (dTr (eOp (pInS true) (eVar 2) (bOf (eD (.str lettersT))))) (eVar 2)) (bOf (eLst aNil))))) (dRet (eD (.bl false))) z0I))
      (fun n δ=>∃ a,δ=[some (.pure (.tup ds)),a,none]) (fun d=>!z0P (len0 ds) d) (.pure (.bl false)) (fun _=>True) ds 0 [some (.pure (.tup ds)),none,none] ⟨_,rfl⟩ (fun i d δ hi ⟨a,e⟩=>by
       subst e
       obtain ⟨x,rfl,hx⟩:=hS d (Wr hi)
       refine ⟨[some (.pure (.tup ds)),some (.pure (.str x)),none],rfl,?_⟩
       by_cases hc:x.length=x0.length
       ·have ef:=z2w (cs:=[2]) (g:=gNm [] 2) (t:=dTr (eOp (pInS true) (eVar 2) (bOf (eD (.str lettersT))))) (el:=eVar 2) (fun n:Nat=>D.str [n]) (fun n:Nat=>D.str [n]) (fun n=>!letN n) [some (.pure (.tup ds)),some (.pure (.str x)),none] x [] (by rw [z13]; simp; omega) (fun n hn=>by
         refine ⟨[some (.pure (.tup ds)),some (.pure (.str x)),some (.pure (.str [n]))],[some (.pure (.tup ds)),some (.pure (.str x)),some (.pure (.str [n]))],.pure (.str [n]),[some (.pure (.tup ds)),some (.pure (.str x)),some (.pure (.str [n]))],rfl,?_,rfl,rfl,rfl,rfl⟩
         have:pInS true (.str [n]) (.str lettersT)=some (.pure (.bl (!letN n))):=by
          unfold pInS
          simp only [z60,if_true]
         simp [dTr,eVar,this])
        simp only [WX] at ef
        have hne:=zbp ((x.filter fun n=>!letN n).map fun n=>D.str [n]) (by
         have:=z6a ((x.filter fun n=>!letN n).map fun n=>[n]) 49
         simpa [WL,Function.comp_def] using this)
        have hcI:(x.length:Int)=(x0.length:Int):=by omega
        have run:(dIf (dOr (dTr (eOp pNe (eC1 pLen (bVar 1)) (bOf (eC1 pLen (bOf (eOpF pIx 0 (bOf (eD (.int 0))))))))) (dTr (eOp pNe (z2j [2] (iSq (eVar 1)) (gNm [] 2) (dTr (eOp (pInS true) (eVar 2) (bOf (eD (.str lettersT))))) (eVar 2)) (bOf (eLst aNil))))) (dRet (eD (.bl false))) z0I) [some (.pure (.tup ds)),some (.pure (.str x)),none]=if (!(x.all letN)) then .ok (.ret (.pure (.bl false))) [some (.pure (.tup ds)),some (.pure (.str x)),none] else .ok .next [some (.pure (.tup ds)),some (.pure (.str x)),none]:=by
         have hb:(!((x.filter fun n=>!letN n).map fun n=>D.str [n]).isEmpty) = !(x.all letN):=by
          rw [List.isEmpty_map,z6L]
         rw [hb] at hne
         simp [dTr,bVar,z0T x hx,eOpF,eOpN,ei,z0T x0 hx0,z1T,hcI,eVar,z45,z0H,clrD]
         rw [ef]
         simp [hne,z1s]
        cases hx2:x.all letN with
        | true =>
         rw [hx2] at run
         exact .inr ⟨by simp [z0P,lg,hw,hc,hx2,h2],_,run,⟨_,rfl⟩⟩
        | false =>
         rw [hx2] at run
         exact .inl ⟨by simp [z0P,lg,hx2],_,run,trivial⟩
       ·have hcI:¬ (x.length:Int)=(x0.length:Int):=by omega
        refine .inl ⟨by simp [z0P,hw,hc],[some (.pure (.tup ds)),some (.pure (.str x)),none],?_,trivial⟩
        simp [dTr,bVar,z0T x hx,eOpF,eOpN,ei,z0T x0 hx0,z1T,hcI])
     have hall:ds.any (fun d=>!z0P (len0 ds) d) = !ds.all (z0P (len0 ds)):=by rw [List.any_eq_not_all_not]; simp
     unfold lettersT at F
     rcases F with ⟨ha,δ',e,_⟩ | ⟨ha,δ',e,a,rfl⟩
     ·have:ds.all (z0P (len0 ds))=false:=by rw [hall] at ha; simpa using ha
      simp [ioOk,z0a,dTr,eIsi,isTy,bVar,z3O,z1h,c1,c2,z45,eVar,z0H,clrD]
      rw [ec]
      simp [ea,z1s,eOpF,eOpN,bVar,ei,z0T x0 hx0,c3,c4]
      rw [e]
      simp [z0n,z09,isFl,this]
     ·have:ds.all (z0P (len0 ds))=true:=by rw [hall] at ha; simpa using ha
      simp [ioOk,z0a,dTr,eIsi,isTy,bVar,z3O,z1h,c1,c2,z45,eVar,z0H,clrD]
      rw [ec]
      simp [ea,z1s,eOpF,eOpN,bVar,ei,z0T x0 hx0,c3,c4]
      rw [e]
      simp [z0n,z09,isFl,h1,this]
    ·have:ds.all (z0P (len0 ds))=false:=by
      rw [List.all_eq_false]
      refine ⟨.str x0,Wr h0,?_⟩
      simp [z0P,lg]
      omega
     by_cases ha:(1:Int)≤(x0.length:Int)
     ·have hb:¬ (x0.length:Int) < 65:=by omega
      simp [ioOk,z0a,dTr,eIsi,isTy,bVar,z3O,z1h,c1,c2,z45,eVar,z0H,clrD]
      rw [ec]
      simp [ea,z1s,eOpF,eOpN,bVar,ei,z0T x0 hx0,ha,hb,z0n,z09,isFl,this]
     ·simp [ioOk,z0a,dTr,eIsi,isTy,bVar,z3O,z1h,c1,c2,z45,eVar,z0H,clrD]
      rw [ec]
      simp [ea,z1s,eOpF,eOpN,bVar,ei,z0T x0 hx0,ha,z0n,z09,isFl,this]
  ·have c1:¬ ((1:Int)≤(ds.length:Int)∧(ds.length:Int) < 65):=by omega
   have hf:isFl (.tup ds)=false:=by
    simp [isFl]
    omega
   rw [hf]
   by_cases ha:(1:Int)≤(ds.length:Int)
   ·have hb:¬ (ds.length:Int) < 65:=by omega
    simp [ioOk,z0a,dTr,eIsi,isTy,bVar,z3O,z1h,ha,hb,z0n,z09]
   ·simp [ioOk,z0a,dTr,eIsi,isTy,bVar,z3O,z1h,ha,z0n,z09]
 | exc _ _=>exact hd.elim
 | xd _=>exact hd.elim
 | _=>simp [ioOk,z0a,dTr,eIsi,isTy,bVar,z0n,z09,isFl]
theorem zeu (hp:Pen d):∃ (h w:Nat) (d':D),z15 [.own d]=some (.pure (.tup [.int h,.int w]),[.own d'])∧0 < h∧h≤4∧0 < w∧w≤4∧2 < h + w∧Pen d':=by
 obtain ⟨r1,d1,e1,l1,p1⟩:=z2H hp 3 3 rfl (by decide) (by decide)
 obtain ⟨r2,d2,e2,l2,p2⟩:=z2H p1 3 3 rfl (by decide) (by decide)
 obtain ⟨r3,d3,e3,l3,p3⟩:=z2H p2 8 8 rfl (by decide) (by decide)
 obtain ⟨r4,d4,e4,l4,p4⟩:=z2H p3 6 6 rfl (by decide) (by decide)
 unfold z15 gOf z2l runD
 by_cases h3:r3=0
 ·subst h3
  have:r4=0∨r4=1∨r4=2∨r4=3∨r4=4∨r4=5:=by omega
  rcases this with rfl | rfl | rfl | rfl | rfl | rfl
  ·exact ⟨4,1,d4,by simp [ioOk,z0a,dAsg,z08,ios,ndup,z0H,evX,mkA,e1,e2,e3,e4,putA,pAdd,pEq,eqD,flat,dTr,pIx,atI,ixN,gTp,z0j,z1d,eOpF,eOpN,bVar,eVar,z0n,z09],by decide,by decide,by decide,by decide,by decide,p4⟩
  ·exact ⟨1,4,d4,by simp [ioOk,z0a,dAsg,z08,ios,ndup,z0H,evX,mkA,e1,e2,e3,e4,putA,pAdd,pEq,eqD,flat,dTr,pIx,atI,ixN,gTp,z0j,z1d,eOpF,eOpN,bVar,eVar,z0n,z09],by decide,by decide,by decide,by decide,by decide,p4⟩
  ·exact ⟨4,4,d4,by simp [ioOk,z0a,dAsg,z08,ios,ndup,z0H,evX,mkA,e1,e2,e3,e4,putA,pAdd,pEq,eqD,flat,dTr,pIx,atI,ixN,gTp,z0j,z1d,eOpF,eOpN,bVar,eVar,z0n,z09],by decide,by decide,by decide,by decide,by decide,p4⟩
  ·exact ⟨4,3,d4,by simp [ioOk,z0a,dAsg,z08,ios,ndup,z0H,evX,mkA,e1,e2,e3,e4,putA,pAdd,pEq,eqD,flat,dTr,pIx,atI,ixN,gTp,z0j,z1d,eOpF,eOpN,bVar,eVar,z0n,z09],by decide,by decide,by decide,by decide,by decide,p4⟩
  ·exact ⟨1,2,d4,by simp [ioOk,z0a,dAsg,z08,ios,ndup,z0H,evX,mkA,e1,e2,e3,e4,putA,pAdd,pEq,eqD,flat,dTr,pIx,atI,ixN,gTp,z0j,z1d,eOpF,eOpN,bVar,eVar,z0n,z09],by decide,by decide,by decide,by decide,by decide,p4⟩
  ·exact ⟨2,1,d4,by simp [ioOk,z0a,dAsg,z08,ios,ndup,z0H,evX,mkA,e1,e2,e3,e4,putA,pAdd,pEq,eqD,flat,dTr,pIx,atI,ixN,gTp,z0j,z1d,eOpF,eOpN,bVar,eVar,z0n,z09],by decide,by decide,by decide,by decide,by decide,p4⟩
 ·by_cases hs:r1=0∧r2=0
  ·obtain ⟨rfl,rfl⟩:=hs
   refine ⟨1,2,d3,?_,by decide,by decide,by decide,by decide,by decide,p3⟩
   simp [ioOk,z0a,dAsg,z08,ios,ndup,z0H,evX,mkA,e1,e2,e3,putA,pAdd,pEq,eqD,flat,dTr,h3,eOpF,eOpN,bVar,eVar,z0n,z09]
  ·have hn:¬ (1 + (r1:Int) + (1 + (r2:Int))=2):=by omega
   refine ⟨1 + r1,1 + r2,d3,?_,by omega,by omega,by omega,by omega,by omega,p3⟩
   simp [ioOk,z0a,dAsg,z08,ios,ndup,z0H,evX,mkA,e1,e2,e3,putA,pAdd,pEq,eqD,flat,dTr,h3,hn,eOpF,eOpN,bVar,eVar,z0n,z09]
theorem z4J (ts:List Nat) (r:Nat) (h:r < ts.length):pIx (.lst (ts.map fun n=>.str [n])) (.int r)=some (.pure (.str [ts.getD r 0])):=by
 simp [pIx,z1E,h]
theorem zfQ (hp:Pen d) (ts:List Nat) (place way:Nat) (h1:place < ts.length) (h2:ts.length≤64):∃ (n:Nat) (d':D),
  z0N [.own d,.pure (.lst (ts.map fun n=>.str [n])),.pure (.int place),.pure (.int way)]=some (.pure (.str [n]),[.own d',.pure (.lst (ts.map fun n=>.str [n])),.pure (.int place),.pure (.int way)])∧n ∈ ts∧Pen d':=by
 have mem:∀ r,r < ts.length→ts.getD r 0 ∈ ts:=fun r h=>by simp [h]
 unfold z0N gOf z4a runD
 by_cases w1:way=1
 ·subst w1
  obtain ⟨r,d1,e1,l1,p1⟩:=z2H hp (place + 1) ((place:Int) + 1) (by omega) (by omega) (by omega)
  refine ⟨ts.getD r 0,d1,?_,mem r (by omega),p1⟩
  simp [ioOk,z0a,eOpF,eOpN,bVar,pEq,eqD,flat,dTr,z08,ios,ndup,z0H,evX,pAdd,mkA,e1,putA,pIx,z1E,z0n,z09,show r < ts.length by omega]
 ·by_cases w2:way=2
  ·subst w2
   have hr:(place + 1) % ts.length < ts.length:=Nat.mod_lt _ (by omega)
   refine ⟨ts.getD ((place + 1) % ts.length) 0,d,?_,mem _ hr,hp⟩
   have hm:pMod (.int ((place:Int) + 1)) (.int ts.length)=some (.pure (.int (((place + 1) % ts.length:Nat):Int))):=by
    simp only [pMod,pII]
    rw [if_pos (by simp; omega)]
    simp
   simp [ioOk,z0a,eOpF,eOpN,bVar,pEq,eqD,flat,dTr,pAdd,pLen,hm,z0n,z09]
   have hx:=z4J ts ((place + 1) % ts.length) hr
   simp at hx
   simp [hx]
  ·by_cases w3:way=3
   ·subst w3
    obtain ⟨r,d1,e1,l1,p1⟩:=z2H hp 4 4 rfl (by decide) (by decide)
    by_cases hr:0 < r
    ·refine ⟨ts.getD place 0,d1,?_,mem place h1,p1⟩
     simp [ioOk,z0a,eOpF,eOpN,bVar,pEq,eqD,flat,dTr,z08,ios,ndup,z0H,evX,mkA,e1,putA,pGt,pCmp,hr,pIx,z1E,h1,z0n,z09]
    ·obtain ⟨r',d2,e2,l2,p2⟩:=z5M p1 ts.length (by omega) (by omega)
     refine ⟨ts.getD r' 0,d2,?_,mem r' l2,p2⟩
     simp [ioOk,z0a,eOpF,eOpN,bVar,pEq,eqD,flat,dTr,z08,ios,ndup,z0H,evX,mkA,e1,putA,pGt,pCmp,hr,pLen,e2,pIx,z1E,l2,z0n,z09]
   ·obtain ⟨r',d2,e2,l2,p2⟩:=z5M hp ts.length (by omega) (by omega)
    refine ⟨ts.getD r' 0,d2,?_,mem r' l2,p2⟩
    have c1:¬ (way:Int)=1:=by omega
    have c2:¬ (way:Int)=2:=by omega
    have c3:¬ (way:Int)=3:=by omega
    simp [ioOk,z0a,eOpF,eOpN,bVar,pEq,eqD,flat,dTr,z08,ios,ndup,z0H,evX,mkA,putA,c1,c2,c3,pLen,e2,pIx,z1E,l2,z0n,z09]
theorem z9X:∀ k,k < 26→lettersT.getD k 0=97 + k:=by decide
theorem za3 (xs:List Nat) (h:xs.length < 64):z4W (.lst (xs.map fun n=>.str [n]))=some (.own (.lst ((z4S xs).map fun n=>.str [n]))):=by
 have e:(xs.map fun n=>D.str [n])=(xs.map fun n=>[n]).map D.str:=by simp
 unfold z4W
 simp only [e,z5y]
 rw [if_pos (by simpa using h),zdE]
 simp
def rawT (f n:Nat):List Nat:=(WM n).map fun k=>97 + (f + 5 * k) % 26
theorem zaT (f n:Nat) (hn:n≤26):(rawT f n).Nodup:=by
 unfold rawT
 rw [List.nodup_iff_pairwise_ne,List.pairwise_map]
 refine (List.pairwise_lt_range (n:=n)).imp_of_mem ?_
 intro a b ha hb hab e
 simp at ha hb
 omega
def rb (pd:D) (m h w n f:Nat) (s7:S) (wy:Nat) (blocks:List D) (a b c:Option S):Dl :=
 [some (.own pd),some (.pure (.int m)),some (.pure (.int h)),some (.pure (.int w)),some (.pure (.int (1 + (n:Int)))),some (.pure (.int f)),some (.pure (.str lettersT)),some s7,some (.pure (.int wy)),some (.own (.lst blocks)),a,b,c,none,none]
def tD (ts:List Nat):D:=.lst (ts.map fun n=>.str [n])
def sT (ts:List Nat) (s:S):Prop:=s = .own (tD ts)∨s = .pure (tD ts)
theorem z9N (hts:ts.length≤64) (hw:w≤4) (hpd:Pen pd) (h7:sT ts s7) (blocks:List D) (place:Nat) (hpl:place < ts.length) (block:List D) (row:Nat) :
  ∃ (x:Tx) (pd':D) (s7':S),z1F [14] (gNm [0] 14) dYes (z08 z0N [.io 0,.val (eVar 7),.val (eVar 10),.val (eVar 8)]) (z0v 0 w) (rb pd m h w n f s7 wy blocks (some (.pure (.int place))) (some (.own (.lst block))) (some (.pure (.int row)))) []
   = .ok (x.map fun n=>.str [n]) (rb pd' m h w n f s7' wy blocks (some (.pure (.int place))) (some (.own (.lst block))) (some (.pure (.int row))))∧x.length=w∧(∀ n ∈ x,n ∈ ts)∧Pen pd'∧sT ts s7':=by
 obtain ⟨xs,δ',e,⟨pd',s7',hpd',h7',rfl⟩,hn,hf⟩:=z4M (cs:=[14]) (g:=gNm [0] 14) (t:=dYes) (el:=z08 z0N [.io 0,.val (eVar 7),.val (eVar 10),.val (eVar 8)]) (fun δ=>∃ pd s7,Pen pd∧sT ts s7∧δ=rb pd m h w n f s7 wy blocks (some (.pure (.int place))) (some (.own (.lst block))) (some (.pure (.int row))))
  (fun _ x=>∃ n,n ∈ ts∧x = .str [n]) (z0v 0 w) _ [] ⟨pd,s7,hpd,h7,rfl⟩ (by rw [z13]; simp; omega) (fun d hd δ ⟨pd,s7,hpd,h7,e⟩=>by
   subst e
   obtain ⟨i,hi,rfl⟩:=z5i hd
   obtain ⟨k,d',e,hk,p⟩:=zfQ hpd ts place wy hpl hts
   have e':z0N [.own pd,.pure (tD ts),.pure (.int place),.pure (.int wy)]=some (.pure (.str [k]),[.own d',.pure (tD ts),.pure (.int place),.pure (.int wy)]):=e
   refine ⟨_,_,.pure (.str [k]),(rb d' m h w n f (.pure (tD ts)) wy blocks (some (.pure (.int place))) (some (.own (.lst block))) (some (.pure (.int row)))).set 14 (some (.pure (.int i))),rfl,rfl,?_,⟨d',_,p,.inr rfl,rfl⟩,⟨_,hk,rfl⟩⟩
   rcases h7 with rfl | rfl
   ·simp [rb,z08,ios,ndup,z0H,evX,eVar,mkA,e',putA]
   ·simp [rb,z08,ios,ndup,z0H,evX,eVar,mkA,e',putA])
 obtain ⟨x,rfl,hx⟩:=zay (P:=fun n=>n ∈ ts) (zet hn hf fun d x _ h=>h)
 exact ⟨x,pd',s7',by simpa using e,by simpa using hn,hx,hpd',h7'⟩
theorem z7D (hts:ts.length≤64) (hw:w≤4) (hh:h≤4) (hpd:Pen pd) (h7:sT ts s7) (blocks:List D) (place:Nat) (hpl:place < ts.length) (rs:Option S) :
  ∃ (fl:List Tx) (pd':D) (s7':S) (rs':Option S),forL (gNm [0] 12) (z0W 11 (eC1 (z4X []) (bOf (z2j [14] (z1o (eVar 3)) (gNm [0] 14) dYes (z08 z0N [.io 0,.val (eVar 7),.val (eVar 10),.val (eVar 8)]))))) (z0v 0 h) (rb pd m h w n f s7 wy blocks (some (.pure (.int place))) (some (.own (.lst []))) rs)
   = .ok .next (rb pd' m h w n f s7' wy blocks (some (.pure (.int place))) (some (.own (.lst (fl.map .str)))) rs')∧fl.length=h∧(∀ r ∈ fl,r.length=w∧∀ n ∈ r,n ∈ ts)∧Pen pd'∧sT ts s7':=by
 obtain ⟨δ',e3,pd',s7',fl,rs',hpd',h7',hfl,hall,rfl⟩:=z4H (g:=gNm [0] 12) (b:=z0W 11 (eC1 (z4X []) (bOf (z2j [14] (z1o (eVar 3)) (gNm [0] 14) dYes (z08 z0N [.io 0,.val (eVar 7),.val (eVar 10),.val (eVar 8)]))))) (fun k δ=>∃ (pd:D) (s7:S) (fl:List Tx) (rs:Option S),Pen pd∧sT ts s7∧fl.length=k∧(∀ r ∈ fl,r.length=w∧∀ n ∈ r,n ∈ ts)∧δ=rb pd m h w n f s7 wy blocks (some (.pure (.int place))) (some (.own (.lst (fl.map .str)))) rs)
  (z0v 0 h) 0 _ ⟨pd,s7,[],rs,hpd,h7,rfl,by simp,rfl⟩ (fun i d δ hd ⟨pd,s7,fl,rs,hpd,h7,hfl,hall,e⟩=>by
   subst e
   obtain ⟨hi,rfl⟩:=z3t hd
   obtain ⟨x,pd',s7',e,hx,hxt,hpd',h7'⟩:=z9N (m:=m) (h:=h) (n:=n) (f:=f) (wy:=wy) hts hw hpd h7 blocks place hpl (fl.map .str) i
   have hz:fl.length < W6:=by rw [z13]; omega
   have ej:=zdg x (by omega)
   refine ⟨_,rb pd' m h w n f s7' wy blocks (some (.pure (.int place))) (some (.own (.lst ((fl ++ [x]).map .str)))) (some (.pure (.int i))),rfl,?_,⟨pd',s7',fl ++ [x],_,hpd',h7',by simp [hfl],?_,rfl⟩⟩
   ·unfold rb at e ⊢
    simp [z0W,z2u,eVar,zaQ w (by omega),z0H,clrD]
    rw [e]
    simp [ej,z1s,putL,hz]
   ·intro r hr
    rcases Q2.mp hr with hr | hr
    ·exact hall r hr
    ·simp at hr; subst hr; exact ⟨hx,hxt⟩)
 exact ⟨fl,pd',s7',rs',e3,by simpa using hfl,hall,hpd',h7'⟩
theorem zaV (hp:Pen d) (m:Nat) (hm0:0 < m) (hm1:m≤26):∃ (h w:Nat) (bs:List (Nat×List Tx)) (d':D),
  z10 [.own d,.pure (.int m)]=some (.pure (ruD h w bs),[.own d',.pure (.int m)])∧Rul h w bs∧bs.length≤m∧Pen d':=by
 obtain ⟨h,w,d1,e1,h0,h1,w0,w1,hw,p1⟩:=zeu hp
 obtain ⟨r,d2,e2,l2,p2⟩:=z5M p1 m hm0 (by omega)
 obtain ⟨f,d3,e3,l3,p3⟩:=z2H p2 26 26 rfl (by decide) (by decide)
 obtain ⟨wy,d4,e4,l4,p4⟩:=z2H p3 5 5 rfl (by decide) (by decide)
 -- the tiles
 have ec:=zc0 (cs:=[13]) (g:=gNm [0] 13) (t:=dYes) (el:=eOpF pIx 6 (bOf (eOp pMod (eOpF pAdd 5 (bOf (eOp z5N (eD (.int 5)) (bVar 13)))) (bOf (eD (.int 26)))))) (fun d=>match d with | .int k=>.str [97 + (f + 5 * k.toNat) % 26] | _=>.non)
  [some (.own d3),some (.pure (.int m)),some (.pure (.int h)),some (.pure (.int w)),some (.pure (.int (1 + (r:Int)))),some (.pure (.int f)),some (.pure (.str lettersT)),none,none,none,none,none,none,none,none] (z0v 0 (1 + r)) [] (by rw [z13]; simp; omega) (fun d hd=>by
   obtain ⟨i,hi,rfl⟩:=z5i hd
   refine ⟨_,_,.pure (.str [97 + (f + 5 * i) % 26]),[some (.own d3),some (.pure (.int m)),some (.pure (.int h)),some (.pure (.int w)),some (.pure (.int (1 + (r:Int)))),some (.pure (.int f)),some (.pure (.str lettersT)),none,none,none,none,none,none,some (.pure (.int i)),none],rfl,rfl,?_,rfl,rfl⟩
   have hk:(f + 5 * i) % 26 < 26:=Nat.mod_lt _ (by decide)
   have hx:=zbO lettersT ((f + 5 * i) % 26) hk (by decide)
   rw [z9X _ hk] at hx
   have hc:((f:Int) + 5 * (i:Int)) % 26=(((f + 5 * i) % 26:Nat):Int):=by omega
   have hmul:z5N (.int 5) (.int i)=some (.pure (.int (5 * (i:Int)))):=by
    unfold z5N pMul pII
    have:cMul 5 i=true:=by unfold cMul; simp
    simp only [this,if_true]
   have hmod:pMod (.int ((f:Int) + 5 * (i:Int))) (.int 26)=some (.pure (.int (((f + 5 * i) % 26:Nat):Int))):=by
    rw [← hc]; rfl
   generalize lettersT=lt at hx ⊢
   simp only [eOpF,eOpN,bVar,zgV,zgU,ev_eD,z0M,ev_p2,List.set_cons_succ,List.set_cons_zero,List.getElem?_cons_succ,List.getElem?_cons_zero,ev_d1,hmul,pAdd,hmod,hx])
 have hraw:List.map (fun (d:D)=>match d with | .int k=>D.str [97 + (f + 5 * k.toNat) % 26] | _=>.non) (z0v 0 (1 + r))=(rawT f (1 + r)).map fun n=>.str [n]:=by
  simp [z0v,rawT]
 rw [hraw] at ec
 simp only [WX] at ec
 have hrl:(rawT f (1 + r)).length=1 + r:=by simp [rawT]
 have es:=za3 (rawT f (1 + r)) (by rw [hrl]; omega)
 have hts:(z4S (rawT f (1 + r))).length=1 + r:=by rw [z7r,hrl]
 have hlt:=z8T (zaT f (1 + r) (by omega))
 have hle:∀ t ∈ z4S (rawT f (1 + r)),97≤t∧t≤122:=fun t ht=>by
  rw [sortN_mem] at ht
  simp [rawT] at ht
  obtain ⟨k,_,rfl⟩:=ht
  omega
 generalize z4S (rawT f (1 + r))=ts at es hts hlt hle
 -- the blocks
 obtain ⟨δ',e5,pd,s7,bs,a,b,c,hpd,h7,hbl,hbt,hall,rfl⟩:=z4H (g:=gNm [0] 10) (b:=(dSeq (dAsg (eLst aNil) (gNm [0] 11)) (dSeq (dFor (z1o (eVar 2)) (gNm [0] 12) (z0W 11 (eC1 (z4X []) (bOf (z2j [14] (z1o (eVar 3)) (gNm [0] 14) dYes (z08 z0N [.io 0,.val (eVar 7),.val (eVar 10),.val (eVar 8)])))))) (z0W 9 (eTup (z0b (eOpF pIx 7 (bVar 10)) (z0b (eC1 z24 (bVar 11)) aNil)))))))
  (fun k δ=>∃ (pd:D) (s7:S) (bs:List (Nat×List Tx)) (a b c:Option S),Pen pd∧sT ts s7∧bs.length=k∧bs.map (·.1)=ts.take k∧(∀ b ∈ bs,b.2.length=h∧∀ r ∈ b.2,r.length=w∧∀ n ∈ r,n ∈ ts)∧δ=rb pd m h w r f s7 wy (bs.map blD) a b c)
  (z0v 0 (1 + r)) 0 (rb d4 m h w r f (.own (tD ts)) wy [] none none none) ⟨d4,_,[],none,none,none,p4,.inl rfl,rfl,rfl,by simp,rfl⟩ (fun i d δ hd ⟨pd,s7,bs,a,b,c,hpd,h7,hbl,hbt,hall,e⟩=>by
   subst e
   obtain ⟨hi,rfl⟩:=z3t hd
   rw [JE] at hbl hbt
   obtain ⟨fl,pd',s7',rs',e,hfl,hflt,hpd',h7'⟩:=z7D (m:=m) (n:=r) (f:=f) (wy:=wy) (ts:=ts) (by omega) w1 h1 hpd h7 (bs.map blD) i (by omega) c
   have hz:bs.length < W6:=by rw [z13]; omega
   have hx:=z4J ts i (by omega)
   refine ⟨_,rb pd' m h w r f s7' wy ((bs ++ [(ts.getD i 0,fl)]).map blD) (some (.pure (.int i))) (some (.own (.lst (fl.map .str)))) rs',rfl,?_,⟨pd',s7',bs ++ [(ts.getD i 0,fl)],_,_,_,hpd',h7',by simp [hbl],?_,?_,rfl⟩⟩
   ·unfold rb at e ⊢
    simp [dAsg,eVar,zaQ h (by omega)]
    rw [e]
    rcases h7' with rfl | rfl
    ·simp [z0W,z2u,eOpF,eOpN,bVar,tD,hx,z24,putL,hz,blD]
    ·simp [z0W,z2u,eOpF,eOpN,bVar,tD,hx,z24,putL,hz,blD]
   ·rw [JE,List.map_append,hbt,List.take_add_one]
    simp [show i < ts.length by omega]
   ·intro b hb
    rcases Q2.mp hb with hb | hb
    ·exact hall b hb
    ·simp at hb; subst hb; exact ⟨hfl,hflt⟩)
 have hbl':bs.length=1 + r:=by simpa using hbl
 have hbt':bs.map (·.1)=ts:=by
  rw [hbt,List.take_of_length_le]
  simp [hts]
 refine ⟨h,w,bs,pd,?_,⟨h0,h1,w0,w1,hw,by omega,by omega,by rw [hbt']; exact hlt,fun b hb=>hle _ (by rw [← hbt']; exact Jf hb),fun b hb=>by rw [hbt']; exact hall b hb⟩,by omega,hpd⟩
 unfold z10 gOf z2M runD
 unfold lettersT at ec
 simp [ioOk,z0a,dAsg,z08,ios,ndup,z0H,evX,mkA,e1,putA,gTp,z0j,z1d,eVar,e2,pAdd,e3,zaP r (by omega),clrD]
 rw [ec]
 simp [z1s,es,e4,putA,eVar,zaP r (by omega)]
 unfold rb lettersT tD at e5
 rw [e5]
 simp [bVar,z24,z0n,z09,eVar]
def wh:D→Bool
 | .int i=>decide (1≤i) && decide (i≤4)
 | _=>false
theorem gt_int (i j:Int):pGt (.int i) (.int j)=some (.pure (.bl (decide (j < i)))):=rfl
theorem z86 (i j:Int):pEq (.int i) (.int j)=some (.pure (.bl (i == j))):=rfl
theorem add_int (i j:Int):pAdd (.int i) (.int j)=some (.pure (.int (i + j))):=rfl
def NX:D→Prop
 | .exc _ _=>False
 | .xd _=>False
 | _=>True
theorem zfS (d:D) (hd:NX d):z1x [.pure d,.pure (.int 1)]=some (.pure (.bl (match d with | .int i=>decide (1≤i) | _=>false)),[.pure d,.pure (.int 1)]):=by
 unfold z1x gOf z3y runD
 cases d with
 | int i=>simp [ioOk,z0a,eAnd,eNot,eIsi,isTy,bVar,eVar,eOpF,eOpN,le_int,z0n,z09]
 | exc _ _=>exact hd.elim
 | xd _=>exact hd.elim
 | _=>simp [ioOk,z0a,eAnd,eNot,eIsi,isTy,bVar,eVar,z0n,z09]
theorem z92 (d:D) (hd:NX d):z0Z [.pure d,.pure (.int 1),.pure (.int 4)]=some (.pure (.bl (wh d)),[.pure d,.pure (.int 1),.pure (.int 4)]):=by
 unfold z0Z gOf z2J runD
 have e:=zfS d hd
 cases d with
 | int i =>
  by_cases h1:1≤i
  ·simp [h1] at e
   simp [ioOk,z0a,eAnd,z08,ios,ndup,z0H,evX,mkA,e,putA,bVar,eVar,eOpF,eOpN,le_int,h1,z0n,z09,wh]
  ·simp [h1] at e
   simp [ioOk,z0a,eAnd,z08,ios,ndup,z0H,evX,mkA,e,putA,bVar,eVar,h1,z0n,z09,wh]
 | exc _ _=>exact hd.elim
 | xd _=>exact hd.elim
 | _=>simp [ioOk,z0a,eAnd,z08,ios,ndup,z0H,evX,mkA,e,putA,bVar,eVar,z0n,z09,wh]
def szD (a b:D):Bool:=match a,b with
 | .int h,.int w=>wh (.int h) && wh (.int w) && (decide (1 < h) || decide (1 < w))
 | _,_=>false
theorem zdC (h:wh a=false):szD a b=false:=by
 cases a <;> cases b <;> simp [szD,h]
theorem zdB (h:wh b=false):szD a b=false:=by
 cases a <;> cases b <;> simp [szD,h]
theorem zdw (h:wh a=true):∃ i,a = .int i∧1≤i∧i≤4:=by
 cases a <;> simp [wh] at h
 exact ⟨_,rfl,h.1,h.2⟩
theorem z5e (a b:D) (ha:NX a) (hb:NX b):z1j [.pure a,.pure b]=some (.pure (.bl (szD a b)),[.pure a,.pure b]):=by
 have ea:=z92 a ha
 have eb:=z92 b hb
 clear ha hb
 unfold z1j gOf z3z runD
 cases ha:wh a with
 | false =>
  rw [ha] at ea
  simp [ioOk,z0a,dTr,z08,ios,ndup,evX,eVar,mkA,ea,putA,z0n,z09,zdC ha]
 | true =>
  rw [ha] at ea
  cases hb:wh b with
  | false =>
   rw [hb] at eb
   simp [ioOk,z0a,dTr,z08,ios,ndup,evX,eVar,mkA,ea,eb,putA,z0n,z09,zdB hb]
  | true =>
   rw [hb] at eb
   obtain ⟨i,rfl,i1,i4⟩:=zdw ha
   obtain ⟨j,rfl,j1,j4⟩:=zdw hb
   by_cases h1:1 < i
   ·simp [ioOk,z0a,dTr,z08,ios,ndup,evX,eVar,mkA,ea,eb,putA,eOr,eOpF,eOpN,bVar,gt_int,h1,z0n,z09,szD,ha,hb]
   ·simp [ioOk,z0a,dTr,z08,ios,ndup,evX,eVar,mkA,ea,eb,putA,eOr,eOpF,eOpN,bVar,gt_int,h1,z0n,z09,szD,ha,hb]
def isI:D→Bool
 | .int _=>true
 | _=>false
theorem z8r (d:D) (hd:NX d):z0K [.pure d]=some (.pure (.bl (isI d)),[.pure d]):=by
 unfold z0K gOf z2x runD
 cases d <;> first | exact hd.elim | simp [ioOk,z0a,eAnd,eNot,eIsi,isTy,bVar,z0n,z09,isI]
theorem z3W (a b:D) (ha:NX a) (hb:NX b):z0u [.pure a,.pure b]=some (.pure (.bl (szD a b)),[.pure a,.pure b]):=by
 have ea:=z8r a ha
 have eb:=z8r b hb
 unfold z0u gOf z1N runD
 cases a with
 | int i =>
  cases b with
  | int j =>
   simp only [isI] at ea eb
   by_cases h1:1≤i∧i < 5
   ·by_cases h2:1≤j∧j < 5
    ·have hs:szD (.int i) (.int j)=decide (2 < i + j):=by
      have:decide (2 < i + j)=(decide (1 < i) || decide (1 < j)):=by
       rw [← Bool.decide_or]
       exact decide_eq_decide.mpr (by omega)
      rw [this]
      have w1:wh (.int i)=true:=by simp [wh]; omega
      have w2:wh (.int j)=true:=by simp [wh]; omega
      simp [szD,w1,w2]
     rw [hs]
     simp [ioOk,z0a,dTr,z08,ios,ndup,evX,eVar,mkA,ea,eb,putA,eAnd,z3O,h1,h2,eOpF,eOpN,bVar,add_int,gt_int,z0n,z09]
    ·have hw:wh (.int j)=false:=by simp [wh]; omega
     rw [zdB hw]
     have h2':(decide (1≤j) && decide (j < 5))=false:=by simp; omega
     simp [ioOk,z0a,dTr,z08,ios,ndup,evX,eVar,mkA,ea,eb,putA,eAnd,z3O,h1,h2',z0n,z09]
   ·have hw:wh (.int i)=false:=by simp [wh]; omega
    rw [zdC hw]
    have h1':(decide (1≤i) && decide (i < 5))=false:=by simp; omega
    simp [ioOk,z0a,dTr,z08,ios,ndup,evX,eVar,mkA,ea,eb,putA,eAnd,z3O,h1',z0n,z09]
  | _ =>
   simp only [isI] at ea eb
   simp [ioOk,z0a,dTr,z08,ios,ndup,evX,eVar,mkA,ea,eb,putA,z0n,z09,szD]
 | _ =>
  simp only [isI] at ea
  simp [ioOk,z0a,dTr,z08,ios,ndup,evX,eVar,mkA,ea,putA,z0n,z09,szD]
theorem zfP (d:D) (hd:Sm d):z1P [.pure d]=some (.pure (.bl (lg 1 d)),[.pure d]):=by
 have e:=z7E d 1 hd
 have e':z0y [.pure d,.pure (.int 1)]=some (.pure (.bl (lg 1 d)),[.pure d,.pure (.int 1)]):=e
 unfold z1P gOf z48 runD
 simp [ioOk,z0a,z08,ios,ndup,evX,eVar,mkA,e',putA,z0n,z09]
def dims (h w:Int):D→Bool
 | .tup ds=>((ds.length:Int) == h) && ((len0 ds:Int) == w)
 | _=>false
def isPr (h w:Int):D→Bool
 | .tup [t,b]=>lg 1 t && isFl b && dims h w b
 | _=>false
def SmP:D→Prop
 | .tup [t,b]=>Sm t∧SmT b
 | .exc _ _=>False
 | .xd _=>False
 | _=>True
theorem zdY (h:isFl b=true) (hs:SmT b):∃ ds x,b = .tup ds∧ds[0]? = some (.str x)∧x.length≤1000∧len0 ds=x.length:=by
 cases b <;> simp [isFl] at h
 rename_i ds
 obtain ⟨⟨h1,h2⟩,h3⟩:=h
 cases ds with
 | nil=>simp at h1
 | cons a r =>
  have ha:=h3 a (by simp)
  cases a <;> simp [z0P] at ha
  rename_i x
  have:=hs.2 (.str x) (by simp)
  exact ⟨_,x,rfl,rfl,this,rfl⟩
theorem tup2 (ds:List D) (h:ds.length=2):∃ a b,ds=[a,b]:=by
 match ds,h with
 | [a,b],_=>exact ⟨a,b,rfl⟩
theorem z8s (h w:Int) (d:D) (hd:SmP d):z1Q [.pure (.int h),.pure (.int w),.pure d]=some (.pure (.bl (isPr h w d)),[.pure (.int h),.pure (.int w),.pure d]):=by
 unfold z1Q gOf z49 runD
 cases d with
 | tup ds =>
  by_cases hl:ds.length=2
  ·obtain ⟨t,b,rfl⟩:=tup2 ds hl
   obtain ⟨ht,hb⟩:=hd
   have et:=zfP t ht
   have eb:=z7F b hb
   have el:pLen (.tup [t,b])=some (.pure (.int 2)):=rfl
   cases h1:lg 1 t with
   | false =>
    rw [h1] at et
    simp [ioOk,z0a,dTr,eIsi,isTy,bVar,el,z1T,dAsg,eVar,gTp,z0j,z1d,z08,ios,ndup,evX,mkA,et,putA,z0n,z09,isPr,h1]
   | true =>
    rw [h1] at et
    cases h2:isFl b with
    | false =>
     rw [h2] at eb
     simp [ioOk,z0a,dTr,eIsi,isTy,bVar,el,z1T,dAsg,eVar,gTp,z0j,z1d,z08,ios,ndup,evX,mkA,et,eb,putA,z0n,z09,isPr,h2]
    | true =>
     rw [h2] at eb
     obtain ⟨rs,x,rfl,h0,hx,hx0⟩:=zdY h2 hb
     have ei:=ix0 rs _ h0
     by_cases hh:(rs.length:Int)=h
     ·simp [ioOk,z0a,dTr,eIsi,isTy,bVar,el,z1T,dAsg,eVar,gTp,z0j,z1d,z08,ios,ndup,evX,mkA,et,eb,putA,z0n,z09,isPr,h1,h2,dims,eAnd,z1h,z86,hh,eOpF,eOpN,ei,z0T x hx,hx0]
     ·have hh':((rs.length:Int) == h)=false:=by simpa using hh
      simp [ioOk,z0a,dTr,eIsi,isTy,bVar,el,z1T,dAsg,eVar,gTp,z0j,z1d,z08,ios,ndup,evX,mkA,et,eb,putA,z0n,z09,isPr,h1,h2,dims,eAnd,z1h,z86,hh']
  ·have hl':¬ (ds.length:Int)=2:=by omega
   have hp:isPr h w (.tup ds)=false:=by
    unfold isPr
    split
    ·rename_i heq; cases heq; simp at hl
    ·rfl
   simp [ioOk,z0a,dTr,eIsi,isTy,bVar,z1h,z1T,hl',z0n,z09,hp]
 | exc _ _=>exact hd.elim
 | xd _=>exact hd.elim
 | _=>simp [ioOk,z0a,dTr,eIsi,isTy,bVar,z0n,z09,isPr]
theorem ix1 (a b:D) (r:List D):pIx (.tup (a :: b :: r)) (.int 1)=some (.pure b):=by simp [pIx,z8K]
theorem ix00 (a:D) (r:List D):pIx (.tup (a :: r)) (.int 0)=some (.pure a):=by simp [pIx,z3E]
theorem z6E (h w:Int) (d:D) (hd:SmP d):z0m [.pure (.int h),.pure (.int w),.pure d]=some (.pure (.bl (isPr h w d)),[.pure (.int h),.pure (.int w),.pure d]):=by
 unfold z0m gOf z22 runD
 cases d with
 | tup ds =>
  by_cases hl:ds.length=2
  ·obtain ⟨t,b,rfl⟩:=tup2 ds hl
   obtain ⟨ht,hb⟩:=hd
   have eb:=z9O b hb
   have el:pLen (.tup [t,b])=some (.pure (.int 2)):=rfl
   have e0:=ix00 t [b]
   have e1:=ix1 t b []
   cases t with
   | str x =>
    have hx:x.length≤1000:=ht
    by_cases hx1:x.length=1
    ·obtain ⟨n,rfl⟩:∃ n,x=[n]:=by
      match x,hx1 with
      | [n],_=>exact ⟨n,rfl⟩
     have el1:pLen (.str [n])=some (.pure (.int 1)):=rfl
     have hin:pInS true (.str [n]) (.str lettersT)=some (.pure (.bl (!letN n))):=by
      unfold pInS
      simp only [z60,if_true]
     unfold lettersT at hin
     have hlg:lg 1 (.str [n])=letN n:=by simp [lg]
     cases hn:letN n with
     | false =>
      rw [hn] at hin hlg
      simp [ioOk,z0a,dTr,eIsi,isTy,bVar,el,z1T,eOpF,eOpN,e0,el1,hin,z0n,z09,isPr,hlg]
     | true =>
      rw [hn] at hin hlg
      cases h2:isFl b with
      | false =>
       rw [h2] at eb
       simp [ioOk,z0a,dTr,eIsi,isTy,bVar,el,z1T,eOpF,eOpN,e0,e1,el1,hin,z08,ios,ndup,evX,mkA,eb,putA,z0n,z09,isPr,hlg,h2]
      | true =>
       rw [h2] at eb
       obtain ⟨rs,y,rfl,h0,hy,hy0⟩:=zdY h2 hb
       have ei:=ix0 rs _ h0
       by_cases hh:(rs.length:Int)=h
       ·simp [ioOk,z0a,dTr,eIsi,isTy,bVar,el,z1T,eOpF,eOpN,e0,e1,el1,hin,z08,ios,ndup,evX,mkA,eb,putA,z0n,z09,isPr,hlg,h2,dims,eAnd,z1h,z86,hh,ei,z0T y hy,hy0]
       ·have hh':((rs.length:Int) == h)=false:=by simpa using hh
        simp [ioOk,z0a,dTr,eIsi,isTy,bVar,el,z1T,eOpF,eOpN,e0,e1,el1,hin,z08,ios,ndup,evX,mkA,eb,putA,z0n,z09,isPr,hlg,h2,dims,eAnd,z1h,z86,hh']
    ·have hlg:lg 1 (.str x)=false:=by
      simp only [lg,Bool.and_eq_false_iff,decide_eq_false_iff_not]
      exact .inl (by omega)
     have hx1':¬ (x.length:Int)=1:=by omega
     simp [ioOk,z0a,dTr,eIsi,isTy,bVar,el,z1T,eOpF,eOpN,e0,z0T x hx,hx1',z0n,z09,isPr,hlg]
   | exc _ _=>exact ht.elim
   | xd _=>exact ht.elim
   | _=>simp [ioOk,z0a,dTr,eIsi,isTy,bVar,el,z1T,eOpF,eOpN,e0,z0n,z09,isPr,lg]
  ·have hl':¬ (ds.length:Int)=2:=by omega
   have hp:isPr h w (.tup ds)=false:=by
    unfold isPr
    split
    ·rename_i heq; cases heq; simp at hl
    ·rfl
   simp [ioOk,z0a,dTr,eIsi,isTy,bVar,z1h,z1T,hl',z0n,z09,hp]
 | exc _ _=>exact hd.elim
 | xd _=>exact hd.elim
 | _=>simp [ioOk,z0a,dTr,eIsi,isTy,bVar,z0n,z09,isPr]
structure GP (h w:Int) (b:Nat×List Tx):Prop where
 t:letN b.1=true
 l:(b.2.length:Int)=h
 n:b.2.length≤64
 r:∀ r ∈ b.2,r.length≤64
theorem z9m:∀ {ds:List D},ds.all (z0P w)=true→∃ fl:List Tx,ds=fl.map .str∧∀ r ∈ fl,r.length≤64
 | [],_=>⟨[],rfl,by simp⟩
 | d :: ds,h=>by
  simp only [Qh,Wf] at h
  obtain ⟨fl,rfl,hf⟩:=z9m h.2
  cases d <;> simp [z0P] at h
  rename_i x
  refine ⟨x :: fl,rfl,fun r hr=>?_⟩
  rcases Wg.mp hr with rfl | hr
  ·have:=h.1.1
   simp [lg] at this
   exact this.1.2
  ·exact hf r hr
theorem zeF (hp:isPr h w d=true):∃ b,d=blD b∧GP h w b:=by
 cases d with
 | tup ds =>
  unfold isPr at hp
  split at hp
  ·rename_i t b heq
   cases heq
   simp only [Wf] at hp
   obtain ⟨⟨h1,h2⟩,h3⟩:=hp
   cases t <;> simp [lg] at h1
   rename_i x
   obtain ⟨⟨l1,l2⟩,ha⟩:=h1
   obtain ⟨n,rfl⟩:∃ n,x=[n]:=by
    match x,l1,l2 with
    | [n],_,_=>exact ⟨n,rfl⟩
   cases b <;> simp [isFl] at h2
   rename_i rs
   obtain ⟨fl,rfl,hf⟩:=z9m (w:=len0 rs) (by simpa [WB] using h2.2)
   simp only [dims,Wf,beq_iff_eq] at h3
   refine ⟨(n,fl),rfl,⟨by simpa using ha,by simpa using h3.1,by simpa using h2.1.2,hf⟩⟩
  ·cases hp
 | _=>simp [isPr] at hp
theorem zcS (bs:List (Nat×List Tx)):z3M (bs.map blD)=some (bs.map fun b=>(Sum.inr [b.1],flD b.2)):=by
 induction bs with
 | nil=>rfl
 | cons b r ih=>simp [z3M,keyD,ih]
theorem z93 (kvs:List (DKey×D)) (k j:DKey) (v:D):((putD kvs k v).any fun kv=>decide (kv.1=j))=(decide (k=j) || kvs.any fun kv=>decide (kv.1=j)):=by
 unfold putD
 split
 ·rename_i h
  have e:((kvs.map fun kv=>if kv.1=k then (kv.1,v) else kv).any fun kv=>decide (kv.1=j))=kvs.any fun kv=>decide (kv.1=j):=by
   rw [Qw]
   congr 1
   funext kv
   simp only [Function.comp]
   split <;> rfl
  rw [e]
  by_cases hk:k=j
  ·subst hk; simp [h]
  ·simp [hk]
 ·rw [List.any_append]
  simp [Bool.or_comm]
theorem z7H (j:DKey):∀ (kps acc:List (DKey×D)),((z8u kps acc).any fun kv=>decide (kv.1=j))=((kps.any fun kv=>decide (kv.1=j)) || acc.any fun kv=>decide (kv.1=j))
 | [],acc=>rfl
 | p :: kps,acc=>by
  show ((z8u kps (putD acc p.1 p.2)).any fun kv=>decide (kv.1=j))=_
  rw [z7H j kps,z93,WS]
  cases (decide (p.1=j)) <;> cases (kps.any fun kv=>decide (kv.1=j)) <;> simp
theorem z5B (kvs:List (DKey×D)) (k:DKey):(valD kvs k).isSome=kvs.any fun kv=>decide (kv.1=k):=by
 unfold valD
 rw [Jx,List.isSome_find?]
theorem z3Y:∀ fl:List Tx,(∀ r ∈ fl,r.length≤64)→z4z fl≤fl.length * 64
 | [],_=>by simp [z4z]
 | x :: fl,h=>by
  have h1:=h x (by simp)
  have h2:=z3Y fl fun r hr=>h r (by simp [hr])
  unfold z4z at h2 ⊢
  rw [Wz,List.sum_cons,WH]
  omega
theorem zbu (g:GP h w b):z4X [] (flD b.2)=some (.pure (.str b.2.flatten)):=by
 have hl:=z3Y b.2 g.r
 have hn:=g.n
 unfold z4X
 simp only [z5y,z3u]
 rw [if_pos (by have:W6=16777216:=rfl; simp; omega)]
def txt:D→Tx
 | .str x=>x
 | _=>[]
theorem txts (fl:List Tx):(fl.map D.str).map txt=fl:=by simp [Function.comp_def,txt]
def okB (ts:List Nat):D→Bool
 | .tup [_,.tup rs]=>(rs.map txt).flatten.all fun c=>ts.contains c
 | _=>false
theorem z98 (ts:List Nat) (b:Nat×List Tx):okB ts (blD b)=b.2.flatten.all fun c=>ts.contains c:=by
 show (((b.2.map D.str).map txt).flatten.all fun c=>ts.contains c)=_
 rw [txts]
def zc1 (bs:List (Nat×List Tx)):Bool:=bs.all fun b=>b.2.flatten.all fun c=>(bs.map (·.1)).contains c
def dcD (bs:List (Nat×List Tx)):D:=.dct (z8u (bs.map fun b=>(Sum.inr [b.1],flD b.2)) [])
theorem in_dc (bs:List (Nat×List Tx)) (n:Nat):pIn true (.str [n]) (dcD bs)=some (.pure (.bl (!(bs.map (·.1)).contains n))):=by
 unfold dcD pIn
 simp only [keyD,Wv,if_true,z5B,z7H]
 congr 4
 simp only [List.any_nil,Bool.or_false,Qw]
 rw [List.contains_eq_any_beq,Qw]
 congr 1
 funext b
 simp only [Function.comp]
 by_cases e:b.1=n
 ·subst e; simp
 ·have:¬ n=b.1:=fun z=>e z.symm
  simp [e,this]
theorem zbP (f:DE) (δ:Dl):z82 f δ=(f δ).bind fun r δ1=>match r.d with
 | .lst ds=>.ok (z7h ds) δ1
 | .tup ds=>.ok (z7h ds) δ1
 | _=>.stuck:=id rfl
def z8o:D→Tx
 | .tup (.str x :: _)=>x
 | _=>[]
def SmR:D→Prop
 | .tup [_,_,.tup ps]=>flat 50 (.tup ps)=true∧ps.length≤1000∧∀ p ∈ ps,SmP p
 | _=>True
def upN:List Nat→Bool
 | []=>true
 | [_]=>true
 | a :: b :: r=>decide (a < b) && upN (b :: r)
def isRu:D→Bool
 | .tup [a,b,.tup ps]=>szD a b && !ps.isEmpty && ps.all (isPr (match a with | .int h=>h | _=>0) (match b with | .int w=>w | _=>0)) && upN (ps.map fun p=>(z8o p).getD 0 0) &&
   ps.all fun p=>okB (ps.map fun p=>(z8o p).getD 0 0) p
 | _=>false
theorem zbw (h w:Int) (ps:List D):isRu (.tup [.int h,.int w,.tup ps])=(szD (.int h) (.int w) && !ps.isEmpty && ps.all (isPr h w) && upN (ps.map fun p=>(z8o p).getD 0 0) && ps.all fun p=>okB (ps.map fun p=>(z8o p).getD 0 0) p):=rfl
theorem zfA (h:szD a b=true):∃ i j,a = .int i∧b = .int j:=by
 cases a <;> cases b <;> simp [szD] at h
 exact ⟨_,_,rfl,rfl⟩
theorem z8Q (bs:List (Nat×List Tx)):((bs.map blD).map fun p=>(z8o p).getD 0 0)=bs.map (·.1):=by
 simp [Function.comp_def,z8o]
theorem ok_bl (bs:List (Nat×List Tx)):((bs.map blD).all fun p=>okB (bs.map (·.1)) p)=zc1 bs:=by
 rw [QM]
 unfold zc1
 congr 1
 funext b
 exact z98 _ b
theorem zac (I:Dl→Prop) (F:D→D) (δ:Dl) (ds:List D) (hI:I δ) (hl:ds.length≤W6)
  (hs:∀ d ∈ ds,∀ δ,I δ→∃ δ1 δ2 x δ3,g (.pure d) δ=some δ1∧t δ1 = .ok true δ2∧el δ2 = .ok x δ3∧I (clrD cs δ3)∧x.d=F d) :
  ∃ δ',z1F cs g t el ds δ [] = .ok (ds.map F) δ'∧I δ':=by
 obtain ⟨xs,δ',e,h,hn,hf⟩:=z4M (cs:=cs) (g:=g) (t:=t) (el:=el) I (fun d x=>x=F d) ds δ [] hI (by simpa using hl) hs
 refine ⟨δ',?_,h⟩
 rw [e]
 congr 1
 apply List.ext_getElem?
 intro i
 by_cases hi:i < ds.length
 ·have:=hf i ds[i] (xs[i]'(by omega)) (by simp [hi]) (by simp [hn,hi])
  simp [hn,hi,this]
 ·rw [WK (by simp; omega),WK (by simp; omega)]
theorem zdz (ts:List Nat):z3e (ts.map fun n=>D.str [n])=some (ts.map fun n=>[n]):=by
 have:=z5y (ts.map fun n=>[n])
 simpa [WL,Function.comp_def] using this
theorem z8d (ts:List Nat) (n:Nat):(ts.map fun n=>[n]).contains [n]=ts.contains n:=by
 rw [List.contains_eq_any_beq,List.contains_eq_any_beq,Qw]
 congr 1
 funext b
 simp only [Function.comp]
 by_cases e:n=b
 ·subst e; simp
 ·simp [e]
theorem in_ts (ts:List Nat) (n:Nat):pIn true (.str [n]) (tD ts)=some (.pure (.bl (!ts.contains n))):=by
 unfold pIn tD
 simp only [zdz,if_true,z8d]
theorem z7C (gb:GP h w b) (ts:List Nat):z0z [.pure (flD b.2),.pure (tD ts)]=some (.pure (.bl (!okB ts (blD b))),[.pure (flD b.2),.pure (tD ts)]):=by
 have ej:=zbu gb
 have hlen:b.2.flatten.length≤4096:=by
  have:=z3Y b.2 gb.r
  have hn:=gb.n
  have e:b.2.flatten.length=z4z b.2:=by rw [List.length_flatten]; rfl
  omega
 have ef:=z2w (cs:=[2]) (g:=gNm [] 2) (t:=dTr (eOp (pIn true) (eVar 2) (bVar 1))) (el:=eVar 2) (fun n:Nat=>D.str [n]) (fun n:Nat=>D.str [n]) (fun n=>!ts.contains n) [some (.pure (flD b.2)),some (.pure (tD ts)),none] b.2.flatten [] (by rw [z13]; simp [-List.length_flatten]; omega) (fun n hn=>by
  refine ⟨[some (.pure (flD b.2)),some (.pure (tD ts)),some (.pure (.str [n]))],[some (.pure (flD b.2)),some (.pure (tD ts)),some (.pure (.str [n]))],.pure (.str [n]),[some (.pure (flD b.2)),some (.pure (tD ts)),some (.pure (.str [n]))],rfl,?_,rfl,rfl,rfl,rfl⟩
  have:=in_ts ts n
  simp [dTr,eVar,bVar,this])
 simp only [WX] at ef
 have hne:=zbp ((b.2.flatten.filter fun n=>!ts.contains n).map fun n=>D.str [n]) (by
  have:=z6a ((b.2.flatten.filter fun n=>!ts.contains n).map fun n=>[n]) 49
  simpa [WL,Function.comp_def] using this)
 rw [List.isEmpty_map,z6L b.2.flatten fun n=>ts.contains n,← z98] at hne
 generalize ((b.2.flatten.filter fun n=>!ts.contains n).map fun n=>D.str [n])=L at ef hne
 unfold z0z gOf z2L runD
 simp [-List.map_flatten,ioOk,z0a,bVar,ej,z45,z0H,clrD]
 rw [ef]
 simp [-List.map_flatten,hne,z1s,z0n,z09]
def badK (ts:List Nat):D→Bool
 | .int k=>!decide (ts.getD (k.toNat - 1) 0 < ts.getD k.toNat 0)
 | _=>true
theorem zdx:∀ ts:List Nat,((WM (ts.length - 1)).any fun k=>!decide (ts.getD k 0 < ts.getD (k + 1) 0)) = !upN ts
 | []=>rfl
 | [_]=>rfl
 | a :: b :: r=>by
  have ih:=zdx (b :: r)
  have e1:(a :: b :: r).length - 1=r.length + 1:=by simp
  have e2:(b :: r).length - 1=r.length:=by simp
  rw [e2] at ih
  rw [e1,Qt,WS,Qw]
  simp only [upN,Bool.not_and,← ih]
  congr 1
theorem zcj (ts:List Nat):(z0v 1 (ts.length - 1)).any (badK ts) = !upN ts:=by
 rw [← zdx]
 unfold z0v
 rw [Qw]
 congr 1
 funext k
 have h1:((1:Int) + (k:Int)).toNat=k + 1:=by omega
 simp only [Function.comp,badK,h1,Nat.add_sub_cancel]
theorem zgO (x y:Tx):pGe (.str x) (.str y)=some (.pure (.bl (!decide (x < y)))):=rfl
theorem sub_int (i j:Int):pSub (.int i) (.int j)=some (.pure (.int (i - j))):=rfl
theorem zcd (ds:List D) (f:D→Bool):pAny (.lst (ds.map fun d=>.bl (f d)))=some (.pure (.bl (ds.any f))):=by
 have e:(ds.map fun d=>D.bl (f d))=(ds.map f).map D.bl:=by simp
 unfold pAny
 simp only [e,z7g,Wv]
 simp [Qw,Function.comp_def]
theorem zfe (ps:List D) (hf:flat 50 (.tup ps)=true):pEq (.tup ps) (.tup [])=some (.pure (.bl ps.isEmpty)):=by
 unfold pEq
 rw [hf]
 cases ps with
 | nil=>rfl
 | cons a r=>rfl
theorem ix2 (a b c:D):pIx (.tup [a,b,c]) (.int 2)=some (.pure c):=by simp [pIx,z8J]
theorem zbN (n:Nat) (hn:n≤1000) (ds:List D) (hd:ds.length=n) (s:S) (hs:s.d = .lst ds) (T:Option S) (r:Dl):z43 (eD (.int 1)) (eC1 pLen (bVar 1)) (T :: some s :: r) = .ok (z0v 1 (n - 1)) (T :: some s :: r):=by
 have hl:pLen (.lst ds)=some (.pure (.int n)):=by rw [← hd]; rfl
 have hb:bVar 1 (T :: some s :: r) = .ok (.lst ds) (T :: some s :: r):=by
  cases s <;> cases hs <;> rfl
 have e1:z3b 1=true:=by decide
 have e2:=z7s n (by omega)
 have e3:((n:Int) - 1).toNat=n - 1:=by omega
 unfold z43
 simp [hb,hl,e1,e2,e3]
theorem zd6 (T:D) (ts:List Nat):(upN ts=false∧∃ δ',forL (gNm [] 2) (dIf (dTr (eOp pGe (eOpF pIx 1 (bOf (eOpF pSub 2 (bOf (eD (.int 1)))))) (bOf (eOpF pIx 1 (bVar 2))))) (dRet (eD (.bl false))) z0I) (z0v 1 (ts.length - 1)) [some (.pure T),some (.own (tD ts)),none,none] = .ok (.ret (.pure (.bl false))) δ') ∨
  (upN ts=true∧∃ k,forL (gNm [] 2) (dIf (dTr (eOp pGe (eOpF pIx 1 (bOf (eOpF pSub 2 (bOf (eD (.int 1)))))) (bOf (eOpF pIx 1 (bVar 2))))) (dRet (eD (.bl false))) z0I) (z0v 1 (ts.length - 1)) [some (.pure T),some (.own (tD ts)),none,none] = .ok .next [some (.pure T),some (.own (tD ts)),k,none]):=by
 have F:=z4I (g:=gNm [] 2) (b:=(dIf (dTr (eOp pGe (eOpF pIx 1 (bOf (eOpF pSub 2 (bOf (eD (.int 1)))))) (bOf (eOpF pIx 1 (bVar 2))))) (dRet (eD (.bl false))) z0I))
  (fun _ δ=>∃ k,δ=[some (.pure T),some (.own (tD ts)),k,none]) (badK ts) (.pure (.bl false)) (fun _=>True) (z0v 1 (ts.length - 1)) 0 [some (.pure T),some (.own (tD ts)),none,none] ⟨_,rfl⟩ (fun i d δ hi ⟨k,e⟩=>by
   subst e
   obtain ⟨hi',rfl⟩:=z6D hi
   have hx1:=z4J ts i (by omega)
   have hx2:=z4J ts (i + 1) (by omega)
   have c1:(1:Int) + (i:Int) - 1=(i:Int):=by omega
   have c2:(1:Int) + (i:Int)=((i + 1:Nat):Int):=by omega
   have hg2:=zgO [ts.getD i 0] [ts.getD (i + 1) 0]
   have hd2:decide (([ts.getD i 0]:Tx) < [ts.getD (i + 1) 0])=decide (ts.getD i 0 < ts.getD (i + 1) 0):=decide_eq_decide.mpr (lt1 _ _)
   rw [hd2] at hg2
   have hbad:badK ts (.int (1 + (i:Int))) = !decide (ts.getD i 0 < ts.getD (i + 1) 0):=by
    have h1:((1:Int) + (i:Int)).toNat=i + 1:=by omega
    simp only [badK,h1,Nat.add_sub_cancel]
   rw [hbad]
   generalize ts.getD i 0=u at hx1 hx2 hg2
   generalize ts.getD (i + 1) 0=v at hx1 hx2 hg2
   refine ⟨[some (.pure T),some (.own (tD ts)),some (.pure (.int (1 + (i:Int)))),none],rfl,?_⟩
   have hx1':pIx (tD ts) (.int i)=some (.pure (.str [u])):=hx1
   have hx2':pIx (tD ts) (.int (1 + (i:Int)))=some (.pure (.str [v])):=by rw [c2]; exact hx2
   have hsb:pSub (.int (1 + (i:Int))) (.int 1)=some (.pure (.int i)):=by rw [sub_int,c1]
   cases hq:decide (u < v) with
   | true =>
    rw [hq] at hg2
    refine .inr ⟨rfl,[some (.pure T),some (.own (tD ts)),some (.pure (.int (1 + (i:Int)))),none],?_,⟨_,rfl⟩⟩
    simp [dTr,eOpF,eOpN,bVar,hsb,hx1',hx2',hg2]
   | false =>
    rw [hq] at hg2
    refine .inl ⟨rfl,[some (.pure T),some (.own (tD ts)),some (.pure (.int (1 + (i:Int)))),none],?_,trivial⟩
    simp [dTr,eOpF,eOpN,bVar,hsb,hx1',hx2',hg2])
 rw [zcj] at F
 rcases F with ⟨hu,δ',e,_⟩ | ⟨hu,δ',e,k,rfl⟩
 ·exact .inl ⟨by simpa using hu,δ',e⟩
 ·exact .inr ⟨by simpa using hu,k,e⟩
theorem zaa (T:D) (ps:List D) (hn:ps.length≤1000) (hp:∀ p ∈ ps,SmP p) (e0:pIx T (.int 0)=some (.pure (.int h))) (e1:pIx T (.int 1)=some (.pure (.int w))) :
  z1F [3] (gNm [] 3) dYes (z08 z0m [.val (eOpF pIx 0 (bOf (eD (.int 0)))),.val (eOpF pIx 0 (bOf (eD (.int 1)))),.val (eVar 3)]) ps [some (.pure T),none,none,none] [] = .ok (ps.map fun d=>.bl (isPr h w d)) [some (.pure T),none,none,none]:=by
 have ec:=z2X (cs:=[3]) (g:=gNm [] 3) (t:=dYes) (el:=z08 z0m [.val (eOpF pIx 0 (bOf (eD (.int 0)))),.val (eOpF pIx 0 (bOf (eD (.int 1)))),.val (eVar 3)]) (fun d:D=>d) (fun d=>.bl (isPr h w d)) [some (.pure T),none,none,none] ps [] (by rw [z13]; simp; omega) (fun p hm=>by
  have ep:=z6E h w p (hp p hm)
  refine ⟨_,_,.pure (.bl (isPr h w p)),[some (.pure T),none,none,some (.pure p)],rfl,rfl,?_,rfl,rfl⟩
  simp [z08,ios,ndup,evX,eOpF,eOpN,bVar,e0,e1,eVar,mkA,ep,putA])
 rw [show ps.map (fun d:D=>d)=ps by simp] at ec
 simpa only [WX] using ec
theorem za8 (T:D) (bs:List (Nat×List Tx)) (hn:bs.length≤1000):∃ L2,z1F [3] (gNm [] 3) dYes (eOpF pIx 3 (bOf (eD (.int 0)))) (bs.map blD) [some (.pure T),none,none,none] [] = .ok L2 [some (.pure T),none,none,none]∧.lst L2=tD (bs.map (·.1)):=by
 refine ⟨bs.map fun b=>.str [b.1],?_,by simp [tD,Function.comp_def]⟩
 have et:=z2X (cs:=[3]) (g:=gNm [] 3) (t:=dYes) (el:=eOpF pIx 3 (bOf (eD (.int 0)))) blD (fun b=>.str [b.1]) [some (.pure T),none,none,none] bs [] (by rw [z13]; simp; omega) (fun b hm=>by
  have e0b:=ix00 (.str [b.1]) [flD b.2]
  refine ⟨_,_,.pure (.str [b.1]),[some (.pure T),none,none,some (.pure (blD b))],rfl,rfl,?_,rfl,rfl⟩
  simp [eOpF,eOpN,bVar,e0b])
 simpa only [WX] using et
theorem z8e (T:D) (bs:List (Nat×List Tx)) (hn:bs.length≤1000) (hg:∀ b ∈ bs,GP h w b) (k:Option S):∃ s,z1F [3] (gNm [] 3) dYes (z08 z0z [.val (eOpF pIx 3 (bOf (eD (.int 1)))),.val (eVar 1)]) (bs.map blD) [some (.pure T),some (.own (tD (bs.map (·.1)))),k,none] [] =
  .ok ((bs.map blD).map fun p=>.bl (!okB (bs.map (·.1)) p)) [some (.pure T),some s,k,none]:=by
 obtain ⟨δ',ex,s',hs',hδ⟩:=zac (cs:=[3]) (g:=gNm [] 3) (t:=dYes) (el:=z08 z0z [.val (eOpF pIx 3 (bOf (eD (.int 1)))),.val (eVar 1)]) (fun δ=>∃ s,sT (bs.map (·.1)) s∧δ=[some (.pure T),some s,k,none]) (fun p=>.bl (!okB (bs.map (·.1)) p))
  [some (.pure T),some (.own (tD (bs.map (·.1)))),k,none] (bs.map blD) ⟨_,.inl rfl,rfl⟩ (by rw [z13]; simp; omega) (fun d hm δ ⟨s,h7,e⟩=>by
   subst e
   obtain ⟨b,hb,rfl⟩:=Qx.mp hm
   have est:=z7C (hg b hb) (bs.map (·.1))
   have e1b:=ix1 (.str [b.1]) (flD b.2) []
   refine ⟨[some (.pure T),some s,k,some (.pure (blD b))],[some (.pure T),some s,k,some (.pure (blD b))],.pure (.bl (!okB (bs.map (·.1)) (blD b))),[some (.pure T),some (.pure (tD (bs.map (·.1)))),k,some (.pure (blD b))],rfl,rfl,?_,⟨_,.inr rfl,rfl⟩,rfl⟩
   rcases h7 with rfl | rfl <;> simp [z08,ios,ndup,evX,eOpF,eOpN,bVar,e1b,eVar,mkA,est,putA])
 subst hδ
 exact ⟨s',ex⟩
theorem zcF (bs:List (Nat×List Tx)) (hn:bs.length≤1000) (hg:∀ b ∈ bs,GP h w b) (hp:∀ p ∈ bs.map blD,SmP p) (hs:szD (.int h) (.int w)=true) (hz:(bs.map blD).isEmpty=false) (hflat:flat 50 (.tup (bs.map blD))=true) (hall:(bs.map blD).all (isPr h w)=true) :
  z0D [.pure (.tup [.int h,.int w,.tup (bs.map blD)])]=some (.pure (.bl (isRu (.tup [.int h,.int w,.tup (bs.map blD)]))),[.pure (.tup [.int h,.int w,.tup (bs.map blD)])]):=by
 have es:=z3W (.int h) (.int w) trivial trivial
 have eq0:=zfe (bs.map blD) hflat
 have ea:=z9x (bs.map blD) (isPr h w)
 have hru:=zbw h w (bs.map blD)
 rw [z8Q,hs,hz,hall] at hru
 rw [hs] at es
 rw [hz] at eq0
 rw [hall] at ea
 have el:pLen (.tup [.int h,.int w,.tup (bs.map blD)])=some (.pure (.int 3)):=rfl
 have e0:=ix00 (.int h) [.int w,.tup (bs.map blD)]
 have e1:=ix1 (.int h) (.int w) [.tup (bs.map blD)]
 have e2:=ix2 (.int h) (.int w) (.tup (bs.map blD))
 have et0:isTy "tuple" (.tup [.int h,.int w,.tup (bs.map blD)])=some true:=rfl
 generalize D.tup [.int h,.int w,.tup (bs.map blD)]=T at el e0 e1 e2 et0 hru
 have ety:isTy "tuple" (.tup (bs.map blD))=some true:=rfl
 have ec:=zaa T (bs.map blD) (by simpa using hn) hp e0 e1
 generalize ((bs.map blD).map fun d=>D.bl (isPr h w d))=L at ec ea
 obtain ⟨L2,et,etD⟩:=za8 T bs hn
 have F:=zd6 T (bs.map (·.1))
 rw [WC] at F
 have hr2:=zbN bs.length hn ((bs.map (·.1)).map fun n=>D.str [n]) (by simp) (.own (tD (bs.map (·.1)))) rfl (some (.pure T)) [none,none]
 have S1:∀ r:DS,(dSeq (dIf (dOr (dNot (dTr (eIsi "tuple" (bVar 0)))) (dOr (dTr (eOp pNe (eC1 pLen (bVar 0)) (bOf (eD (.int 3))))) (dNot (dTr (z08 z0u [.val (eOpF pIx 0 (bOf (eD (.int 0)))),.val (eOpF pIx 0 (bOf (eD (.int 1))))]))))) (dRet (eD (.bl false))) z0I) r) [some (.pure T),none,none,none]=r [some (.pure T),none,none,none]:=fun r=>by
  simp [dTr,eIsi,bVar,et0,el,z1T,eOpF,eOpN,e0,e1,z08,ios,ndup,evX,mkA,es,putA]
 have S2:∀ r:DS,(dSeq (dIf (dOr (dNot (dTr (eIsi "tuple" (bOf (eOpF pIx 0 (bOf (eD (.int 2)))))))) (dTr (eOp pEq (eOpF pIx 0 (bOf (eD (.int 2)))) (bOf (eTup aNil))))) (dRet (eD (.bl false))) z0I) r) [some (.pure T),none,none,none]=r [some (.pure T),none,none,none]:=fun r=>by
  simp [dTr,eIsi,bVar,ety,eOpF,eOpN,e2,eq0]
 have S3:∀ r:DS,(dSeq (dIf (dNot (dTr (eC1 pAll (bOf (z2j [3] (iSq (eOpF pIx 0 (bOf (eD (.int 2))))) (gNm [] 3) dYes (z08 z0m [.val (eOpF pIx 0 (bOf (eD (.int 0)))),.val (eOpF pIx 0 (bOf (eD (.int 1)))),.val (eVar 3)])))))) (dRet (eD (.bl false))) z0I) r) [some (.pure T),none,none,none]=r [some (.pure T),none,none,none]:=fun r=>by
  have q:(iSq (eOpF pIx 0 (bOf (eD (.int 2))))) [some (.pure T),none,none,none] = .ok (bs.map blD) [some (.pure T),none,none,none]:=by simp [z45,eOpF,eOpN,bVar,e2]
  have q2:(z2j [3] (iSq (eOpF pIx 0 (bOf (eD (.int 2))))) (gNm [] 3) dYes (z08 z0m [.val (eOpF pIx 0 (bOf (eD (.int 0)))),.val (eOpF pIx 0 (bOf (eD (.int 1)))),.val (eVar 3)])) [some (.pure T),none,none,none] = .ok (.own (.lst L)) [some (.pure T),none,none,none]:=by
   rw [z3D,q]
   simp only [z0M,z0H,clrD,WS,List.any_nil]
   simp
   rw [ec]
   simp [z1s]
  simp [-z3D,dTr,q2,ea]
 have S4:∀ r:DS,(dSeq (dAsg (z2j [3] (iSq (eOpF pIx 0 (bOf (eD (.int 2))))) (gNm [] 3) dYes (eOpF pIx 3 (bOf (eD (.int 0))))) (gNm [] 1)) r) [some (.pure T),none,none,none]=r [some (.pure T),some (.own (tD (bs.map (·.1)))),none,none]:=fun r=>by
  have q:(iSq (eOpF pIx 0 (bOf (eD (.int 2))))) [some (.pure T),none,none,none] = .ok (bs.map blD) [some (.pure T),none,none,none]:=by simp [z45,eOpF,eOpN,bVar,e2]
  have q2:(z2j [3] (iSq (eOpF pIx 0 (bOf (eD (.int 2))))) (gNm [] 3) dYes (eOpF pIx 3 (bOf (eD (.int 0))))) [some (.pure T),none,none,none] = .ok (.own (tD (bs.map (·.1)))) [some (.pure T),none,none,none]:=by
   rw [z3D,q]
   simp only [z0M,z0H,clrD,WS,List.any_nil]
   simp
   rw [et]
   simp [z1s,etD]
  simp [-z3D,dAsg,q2]
 unfold z0D gOf z21 runD
 have st:z0a 4 [S.pure T]=[some (.pure T),none,none,none]:=rfl
 simp only [ioOk,st,S1,S2,S3,S4]
 rcases F with ⟨hu,δ',e⟩ | ⟨hu,k,e⟩
 ·rw [hu] at hru
  simp only [Bool.and_false,Bool.false_and] at hru
  have q:(dFor (z43 (eD (.int 1)) (eC1 pLen (bVar 1))) (gNm [] 2) (dIf (dTr (eOp pGe (eOpF pIx 1 (bOf (eOpF pSub 2 (bOf (eD (.int 1)))))) (bOf (eOpF pIx 1 (bVar 2))))) (dRet (eD (.bl false))) z0I)) [some (.pure T),some (.own (tD (bs.map (·.1)))),none,none] = .ok (.ret (.pure (.bl false))) δ':=by
   rw [z7f,hr2,z0M]
   exact e
  simp [-z7f,q,z0n,z09,hru]
 ·obtain ⟨s',ex⟩:=z8e T bs hn hg k
  have ey:=zcd (bs.map blD) fun p=>!okB (bs.map (·.1)) p
  have hru':isRu T = !((bs.map blD).any fun p=>!okB (bs.map (·.1)) p):=by
   rw [hru,hu,List.any_eq_not_all_not]
   simp
  generalize ((bs.map blD).map fun p=>D.bl (!okB (bs.map (·.1)) p))=L3 at ex ey
  generalize ((bs.map blD).any fun p=>!okB (bs.map (·.1)) p)=bb at ey hru'
  have q:(dFor (z43 (eD (.int 1)) (eC1 pLen (bVar 1))) (gNm [] 2) (dIf (dTr (eOp pGe (eOpF pIx 1 (bOf (eOpF pSub 2 (bOf (eD (.int 1)))))) (bOf (eOpF pIx 1 (bVar 2))))) (dRet (eD (.bl false))) z0I)) [some (.pure T),some (.own (tD (bs.map (·.1)))),none,none] = .ok .next [some (.pure T),some (.own (tD (bs.map (·.1)))),k,none]:=by
   rw [z7f,hr2,z0M]
   exact e
  have q1:(iSq (eOpF pIx 0 (bOf (eD (.int 2))))) [some (.pure T),some (.own (tD (bs.map (·.1)))),k,none] = .ok (bs.map blD) [some (.pure T),some (.own (tD (bs.map (·.1)))),k,none]:=by simp [z45,eOpF,eOpN,bVar,e2]
  have q2:(z2j [3] (iSq (eOpF pIx 0 (bOf (eD (.int 2))))) (gNm [] 3) dYes (z08 z0z [.val (eOpF pIx 3 (bOf (eD (.int 1)))),.val (eVar 1)])) [some (.pure T),some (.own (tD (bs.map (·.1)))),k,none] = .ok (.own (.lst L3)) [some (.pure T),some s',k,none]:=by
   rw [z3D,q1]
   simp only [z0M,z0H,clrD,WS,List.any_nil]
   simp
   rw [ex]
   simp [z1s]
  simp [-z7f,-z3D,q,q2,eNot,ey,z0n,z09,hru']
theorem sl_tup (ds:List D) (lo hi:Option Int):pSl lo hi (.tup ds)=some (.pure (.tup (cutL ds lo hi))):=rfl
theorem sl_str (x:Tx) (h:x.length≤1000) (lo hi:Option Int):pSl lo hi (.str x)=some (.pure (.str (cutL x lo hi))):=by
 simp only [pSl]
 rw [if_pos (by rw [z13]; omega)]
theorem add_str (x y:Tx) (h:x.length + y.length≤1000):pAdd (.str x) (.str y)=some (.pure (.str (x ++ y))):=by
 simp only [pAdd]
 rw [if_pos (by rw [z13]; omega)]
theorem z8M (xs ys:List D) (h:xs.length + ys.length≤1000):pAdd (.tup xs) (.tup ys)=some (.pure (.tup (xs ++ ys))):=by
 simp only [pAdd]
 rw [if_pos (by rw [z13]; omega)]
theorem z37 {α:Type} (xs:List α) (lo hi:Option Int):(cutL xs lo hi).length≤xs.length:=z9s xs lo hi
theorem z5b {α:Type} {xs:List α} {lo hi:Option Int} {x:α} (h:x ∈ cutL xs lo hi):x ∈ xs:=List.mem_of_mem_drop (List.mem_of_mem_take h)
theorem zgI (L:List D) (r:Nat) (h:r < L.length):∃ e ∈ L,pIx (.lst L) (.int r)=some (.pure e):=⟨L[r],J9 h,by simp [pIx,z1E,h]⟩
theorem z6l (xs ys:List D) (h:xs.length + ys.length≤1000):pAdd (.lst xs) (.lst ys)=some (.own (.lst (xs ++ ys))):=by
 simp only [pAdd]
 rw [if_pos (by rw [z13]; omega)]
theorem zbX (h:a δ = .ok .next δ1) (h2:b δ1=x):dSeq a b δ=x:=by
 rw [zfc,h]
 exact h2
theorem z6d {α β:Type} (f:α→β) (xs:List α) (lo hi:Option Int):cutL (xs.map f) lo hi=(cutL xs lo hi).map f:=by
 unfold cutL
 simp [List.map_take,List.map_drop]
def TS (e:D):Prop:=(∃ xs:List Tx,(e = .tup (xs.map .str)∨e = .lst (xs.map .str))∧xs.length≤100∧∀ x ∈ xs,x.length≤100)∨e = .non∨∃ x:Tx,e = .str x∧x.length≤100
theorem z69 (n:Nat) (xs:List Tx):z2I n (xs.map .str)=true:=by
 induction xs with
 | nil=>rfl
 | cons x r ih=>simp [z2I,flat,ih]
theorem TS.ok (h:TS e):SmT e∧flat 48 e=true:=by
 rcases h with ⟨xs,h,hl,hx⟩ | rfl | ⟨x,rfl,hx⟩
 ·rcases h with rfl | rfl
  ·exact ⟨⟨by simp; omega,fun d hd=>by
    obtain ⟨x,hm,rfl⟩:=Qx.mp hd
    have:=hx x hm
    show x.length≤1000
    omega⟩,z69 47 xs⟩
  ·exact ⟨trivial,z69 47 xs⟩
 ·exact ⟨trivial,rfl⟩
 ·exact ⟨trivial,rfl⟩
theorem TS.fl (R:Rul h w bs) (hb:b ∈ bs):b.2.length≤4∧∀ r ∈ b.2,r.length≤4:=by
 have k:=R.blk b hb
 have h1:=R.h1
 have w1:=R.w1
 exact ⟨by omega,fun r hr=>by have:=(k.2 r hr).1; omega⟩
def PEok (p:D):Prop:=SmP p∧flat 49 p=true
theorem z2W:∀ {ps:List D},(∀ p ∈ ps,flat n p=true)→z2I n ps=true
 | [],_=>rfl
 | p :: ps,h=>by
  simp only [z2I,h p (by simp),z2W (ps:=ps) fun q hq=>h q (by simp [hq]),Bool.and_self]
theorem PEok.bl (R:Rul h w bs) (hb:b ∈ bs):PEok (blD b):=by
 obtain ⟨h1,h2⟩:=TS.fl R hb
 have:TS (flD b.2):=.inl ⟨b.2,.inl rfl,by omega,fun x hx=>by have:=h2 x hx; omega⟩
 obtain ⟨s,f⟩:=this.ok
 refine ⟨⟨by show 1≤1000; decide,s⟩,?_⟩
 show (flat 48 (.str [b.1]) && (flat 48 (flD b.2) && true))=true
 rw [f]
 rfl
theorem PEok.two (ht:Sm t) (ft:flat 48 t=true) (he:TS e):PEok (.tup [t,e]):=by
 obtain ⟨s,f⟩:=he.ok
 refine ⟨⟨ht,s⟩,?_⟩
 show (flat 48 t && (flat 48 e && true))=true
 rw [f,ft]
 rfl
theorem z8B:pNeg (.int 1)=some (.pure (.int (-1))):=rfl
theorem zf1 (B:List D) (h:0 < B.length):∃ e ∈ B,pIx (.tup B) (.int (-1))=some (.pure e):=by
 refine ⟨B[B.length - 1],J9 _,?_⟩
 have:atI B (-1)=B[B.length - 1]?:=by
  unfold atI ixN
  rw [if_neg (by decide),if_pos (by omega)]
  have:(-1 + (B.length:Int)).toNat=B.length - 1:=by omega
  simp [this]
 simp [pIx,this,h]
theorem zdn (ns:List Int) (lo hi:Option Int):cutL (ns.map D.int) lo hi=(cutL ns lo hi).map D.int:=z6d _ _ _ _
def tN (p:D):Nat:=(z8o p).getD 0 0
def fb (h w:Int):List Nat→List D→Option Nat
 | _,[]=>none
 | ts,p :: ps=>if isPr h w p && !ts.contains (tN p) then (fb h w (ts ++ [tN p]) ps).map (· + 1) else some 0
def fs (ts:List Nat):List (Nat×List Tx)→Option Nat
 | []=>none
 | b :: bs=>if okB ts (blD b) then (fs ts bs).map (· + 1) else some 0
abbrev e5 (h w:Int) (L:D) (a b:Option S):Dl:=[some (.pure (.int h)),some (.pure (.int w)),some (.pure L),a,b]
theorem ixl {L:List D} {r:Nat} {d:D} (h:L[r]? = some d):pIx (.lst L) (.int r)=some (.pure d):=by
 have hr:r < L.length:=(Wa.mp h).1
 simp [pIx,z1E,h]
theorem zgM (ts:List Nat) (n:Nat):pIn false (.str [n]) (tD ts)=some (.pure (.bl (ts.contains n))):=by
 unfold pIn tD
 simp [zdz,z8d]
theorem z7B (k m:Nat):z0v (k:Int) (m + 1) = .int (k:Int) :: z0v ((k + 1:Nat):Int) m:=by
 unfold z0v
 rw [Qt,Wz,WL]
 simp only [Function.comp_def,List.cons.injEq,D.int.injEq]
 refine ⟨by simp,QO fun i _=>?_⟩
 simp only [D.int.injEq]
 push_cast
 omega
theorem zdj {h w:Int} {all:List D} {p:D} {k:Nat} (hp:SmP p) (hk:all[k]? = some p) (ts:List Nat) (ht:ts.length≤1000) :
  z7j (e5 h w (.lst all) (some (.own (tD ts))) (some (.pure (.int k))))=(if isPr h w p && !ts.contains (tN p) then
   .ok .next (e5 h w (.lst all) (some (.own (tD (ts ++ [tN p])))) (some (.pure (.int k))))
   else .ok (.ret (.pure (.int k))) (e5 h w (.lst all) (some (.own (tD ts))) (some (.pure (.int k))))):=by
 have ep:=z6E h w p hp
 have ei:=ixl hk
 generalize D.lst all=A at ei
 unfold z7j
 cases hi:isPr h w p with
 | false =>
  rw [hi] at ep
  simp [e5,dTr,z08,ios,ndup,evX,eVar,eOpF,eOpN,bVar,ei,mkA,ep,putA]
 | true =>
  rw [hi] at ep
  obtain ⟨b,rfl,gb⟩:=zeF hi
  have e0:pIx (blD b) (.int 0)=some (.pure (.str [b.1])):=ix00 (.str [b.1]) [flD b.2]
  have et:tN (blD b)=b.1:=rfl
  have en:=zgM ts b.1
  rw [et]
  generalize hB:blD b=B at ei ep e0
  cases hc:ts.contains b.1 with
  | true =>
   rw [hc] at en
   generalize tD ts=T at en
   simp [e5,dTr,z08,ios,ndup,evX,eVar,eOpF,eOpN,bVar,ei,mkA,ep,putA,e0,en]
  | false =>
   rw [hc] at en
   have ea:z0W 3 (eOp pIx (eOpF pIx 2 (bVar 4)) (bOf (eD (.int 0)))) (e5 h w A (some (.own (tD ts))) (some (.pure (.int k)))) = .ok .next (e5 h w A (some (.own (tD (ts ++ [b.1])))) (some (.pure (.int k)))):=by
    have hz:ts.length < W6:=by rw [z13]; omega
    simp [e5,z0W,z2u,tD,eOpF,eOpN,bVar,ei,e0,putL,hz]
   rw [zbX (h:=?_) (h2:=ea)]
   ·rfl
   ·generalize tD ts=T at en
    simp [e5,dTr,z08,ios,ndup,evX,eVar,eOpF,eOpN,bVar,ei,mkA,ep,putA,e0,en]
theorem z9q {h w:Int} {all:List D} (hp:∀ p ∈ all,SmP p) (hn:all.length≤1000):∀ (ps:List D) (k:Nat) (ts:List Nat) (s4:Option S),all.drop k=ps→ts.length=k →
  ∃ s:Option S,∃ δ',forL (gNm [] 4) z7j (z0v k ps.length) (e5 h w (.lst all) (some (.own (tD ts))) s4)=(match fb h w ts ps with
   | some j=>.ok (.ret (.pure (.int ((k + j:Nat):Int)))) δ'
   | none=>.ok .next (e5 h w (.lst all) (some (.own (tD (ts ++ ps.map tN)))) s))
 | [],k,ts,s4,hd,ht=>⟨s4,[],by simp [e5,fb]; rfl⟩
 | p :: ps,k,ts,s4,hd,ht=>by
  have hk:all[k]? = some p:=by
   have:=congrArg (fun l=>l[0]?) hd
   simpa using this
  have hlt:k < all.length:=(Wa.mp hk).1
  have hm:p ∈ all:=Wr hk
  have hd':all.drop (k + 1)=ps:=by
   have:=congrArg List.tail hd
   simpa using this
  have st:=zdj (h:=h) (w:=w) (hp p hm) hk ts (by omega)
  rw [WH,z7B]
  have un:∀ x,(z7j (e5 h w (.lst all) (some (.own (tD ts))) (some (.pure (.int k))))).bind (fun fl δ2=>match fl with
    | .next=>forL (gNm [] 4) z7j (z0v ((k + 1:Nat):Int) ps.length) δ2
    | .cont=>forL (gNm [] 4) z7j (z0v ((k + 1:Nat):Int) ps.length) δ2
    | .brk=>.ok .next δ2
    | .ret v=>.ok (.ret v) δ2)=x→forL (gNm [] 4) z7j (.int (k:Int) :: z0v ((k + 1:Nat):Int) ps.length) (e5 h w (.lst all) (some (.own (tD ts))) s4)=x:=fun x e=>e
  rw [st] at un
  cases hc:isPr h w p && !ts.contains (tN p) with
  | false =>
   rw [hc] at un
   exact ⟨s4,(e5 h w (.lst all) (some (.own (tD ts))) (some (.pure (.int k)))),un _ (by simp only [fb,hc]; rfl)⟩
  | true =>
   rw [hc] at un
   obtain ⟨s,δ',e⟩:=z9q hp hn ps (k + 1) (ts ++ [tN p]) (some (.pure (.int k))) hd' (by simp [e5,ht])
   refine ⟨s,δ',un _ ?_⟩
   show forL (gNm [] 4) z7j (z0v ((k + 1:Nat):Int) ps.length) (e5 h w (.lst all) (some (.own (tD (ts ++ [tN p])))) (some (.pure (.int k))))=_
   rw [e]
   have ef:fb h w ts (p :: ps)=(fb h w (ts ++ [tN p]) ps).map (· + 1):=by rw [fb,hc]; rfl
   rw [ef]
   cases fb h w (ts ++ [tN p]) ps with
   | none=>simp
   | some j =>
    simp only [Wv]
    congr 4
    omega
theorem z5a (np:List Nat) (n:Nat) (b:DS) (ss:List S):gOf np n b ss=if ioOk np 0 ss then (match b (z0a n ss) with
 | .ok fl δ=>(z0n fl).bind fun r=>(z09 0 ss δ).map fun outs=>(r,outs)
 | _=>none) else none:=rfl
theorem zbH (e:b (z0a n [.pure x,.pure y,.pure z]) = .ok (.ret v) δ1):gOf [] n b [.pure x,.pure y,.pure z]=some (v,[.pure x,.pure y,.pure z]):=by
 rw [z5a,e]; rfl
theorem z0g (h:a δ = .ok .next δ1):dSeq a b δ=b δ1:=by unfold dSeq; rw [h]; rfl
theorem z6R (h:a δ = .ok (.ret v) δ1):dSeq a b δ = .ok (.ret v) δ1:=by unfold dSeq; rw [h]; rfl
theorem z4T (h:a δ = .exc v δ1):dSeq a b δ = .exc v δ1:=by unfold dSeq; rw [h]; rfl
theorem z3d (h:it δ = .ok ds δ1):dFor it g b δ=forL g b ds δ1:=by unfold dFor; rw [h]; rfl
theorem z8G:∀ {ps:List D} {ts:List Nat},ts.Nodup→fb h w ts ps=none→∃ bs:List (Nat×List Tx),ps=bs.map blD∧(∀ b ∈ bs,GP h w b)∧(ts ++ bs.map (·.1)).Nodup
 | [],ts,nd,_=>⟨[],rfl,fun b hb=>by simp at hb,by simpa using nd⟩
 | p :: ps,ts,nd,e=>by
  unfold fb at e
  split at e
  ·rename_i hc
   simp only [Wf,QE,List.contains_eq_mem,decide_eq_false_iff_not] at hc
   obtain ⟨b,rfl,gb⟩:=zeF hc.1
   have hb:b.1 ∉ ts:=hc.2
   have e':fb h w (ts ++ [b.1]) ps=none:=by
    have:=Option.map_eq_none_iff.mp e
    exact this
   obtain ⟨bs,rfl,hg,hnd⟩:=z8G (ts:=ts ++ [b.1]) (by
    rw [List.nodup_append]
    refine ⟨nd,by simp,fun x hx y hy=>?_⟩
    simp at hy
    subst hy
    exact fun z=>hb (z ▸ hx)) e'
   refine ⟨b :: bs,rfl,fun x hx=>?_,by simpa using hnd⟩
   rcases Wg.mp hx with rfl | hx
   ·exact gb
   ·exact hg x hx
  ·cases e
theorem zbT {h w:Int} {all:List D} {b:Nat×List Tx} {k:Nat} (gb:GP h w b) (hk:all[k]? = some (blD b)) (ts:List Nat) {s3:S} (h3:sT ts s3) :
  ∃ s3',sT ts s3'∧z7i (e5 h w (.lst all) (some s3) (some (.pure (.int k))))=(if okB ts (blD b) then
   .ok .next (e5 h w (.lst all) (some s3') (some (.pure (.int k))))
   else .ok (.ret (.pure (.int k))) (e5 h w (.lst all) (some s3') (some (.pure (.int k))))):=by
 have es:=z7C gb ts
 have ei:=ixl hk
 have e1:pIx (blD b) (.int 1)=some (.pure (flD b.2)):=ix1 (.str [b.1]) (flD b.2) []
 refine ⟨.pure (tD ts),.inr rfl,?_⟩
 generalize D.lst all=A at ei
 generalize hB:blD b=B at ei e1
 rw [hB] at es
 unfold z7i
 unfold sT at h3
 generalize tD ts=T at *
 generalize flD b.2=F at *
 cases hc:okB ts B with
 | true =>
  rw [hc] at es
  rcases h3 with rfl | rfl
  ·simp [e5,dTr,z08,ios,ndup,evX,eVar,eOpF,eOpN,bVar,ei,e1,mkA,es,putA]
  ·simp [e5,dTr,z08,ios,ndup,evX,eVar,eOpF,eOpN,bVar,ei,e1,mkA,es,putA]
 | false =>
  rw [hc] at es
  rcases h3 with rfl | rfl
  ·simp [e5,dTr,z08,ios,ndup,evX,eVar,eOpF,eOpN,bVar,ei,e1,mkA,es,putA]
  ·simp [e5,dTr,z08,ios,ndup,evX,eVar,eOpF,eOpN,bVar,ei,e1,mkA,es,putA]
theorem z8a {h w:Int} {all:List D} (ts:List Nat):∀ (bs:List (Nat×List Tx)) (k:Nat) (s3:S) (s4:Option S),(∀ b ∈ bs,GP h w b)→all.drop k=bs.map blD→sT ts s3 →
  ∃ δ',forL (gNm [] 4) z7i (z0v k bs.length) (e5 h w (.lst all) (some s3) s4)=(match fs ts bs with
   | some j=>.ok (.ret (.pure (.int ((k + j:Nat):Int)))) δ'
   | none=>.ok .next δ')
 | [],k,s3,s4,hg,hd,h3=>⟨_,by simp [e5,fs]; rfl⟩
 | b :: bs,k,s3,s4,hg,hd,h3=>by
  have hk:all[k]? = some (blD b):=by
   have:=congrArg (fun l=>l[0]?) hd
   simpa using this
  have hd':all.drop (k + 1)=bs.map blD:=by
   have:=congrArg List.tail hd
   simpa using this
  obtain ⟨s3',h3',st⟩:=zbT (hg b (by simp)) hk ts h3
  rw [WH,z7B]
  have un:∀ x,(z7i (e5 h w (.lst all) (some s3) (some (.pure (.int k))))).bind (fun fl δ2=>match fl with
    | .next=>forL (gNm [] 4) z7i (z0v ((k + 1:Nat):Int) bs.length) δ2
    | .cont=>forL (gNm [] 4) z7i (z0v ((k + 1:Nat):Int) bs.length) δ2
    | .brk=>.ok .next δ2
    | .ret v=>.ok (.ret v) δ2)=x→forL (gNm [] 4) z7i (.int (k:Int) :: z0v ((k + 1:Nat):Int) bs.length) (e5 h w (.lst all) (some s3) s4)=x:=fun x e=>e
  rw [st] at un
  cases hc:okB ts (blD b) with
  | false =>
   rw [hc] at un
   exact ⟨_,un _ (by simp only [fs,hc]; rfl)⟩
  | true =>
   rw [hc] at un
   obtain ⟨δ',e⟩:=z8a ts bs (k + 1) s3' (some (.pure (.int k))) (fun x hx=>hg x (by simp [e5,hx])) hd' h3'
   refine ⟨δ',un _ ?_⟩
   show forL (gNm [] 4) z7i (z0v ((k + 1:Nat):Int) bs.length) (e5 h w (.lst all) (some s3') (some (.pure (.int k))))=_
   rw [e]
   have ef:fs ts (b :: bs)=(fs ts bs).map (· + 1):=by rw [fs,hc]; rfl
   rw [ef]
   cases fs ts bs with
   | none=>simp
   | some j =>
    simp only [Wv]
    congr 4
    omega
def due (h w:Int) (ps:List D):D:=match fb h w [] ps with
 | some k=>.int k
 | none=>if ps.isEmpty then .int 0 else match fs (ps.map tN) (ps.map fun p=>(tN p,match p with | .tup [_,.tup rs]=>rs.map txt | _=>[])) with
  | some k=>.int k
  | none=>.non
theorem zcb {h w:Int} {bs:List (Nat×List Tx)}:((bs.map blD).map fun p=>(tN p,match p with | .tup [_,.tup rs]=>rs.map txt | _=>[]))=bs:=by
 rw [WL]
 conv=>rhs; rw [← List.map_id bs]
 refine QO fun b _=>?_
 simp only [Function.comp,blD,flD,id]
 exact Prod.ext rfl (txts b.2)
theorem zeg (bs:List (Nat×List Tx)):(bs.map blD).map tN=bs.map (·.1):=by rw [WL]; rfl
theorem zaW (ha:NX a) (hb:NX b) (hs:szD a b=false) (L:D):z0r [.pure a,.pure b,.pure L]=some (.pure (.int (-1)),[.pure a,.pure b,.pure L]):=by
 have es:=z3W a b ha hb
 rw [hs] at es
 rw [z0r,z5a,z14]
 simp [e5,ioOk,z0a,dTr,z08,ios,ndup,evX,eVar,mkA,es,putA,z8B,z0n,z09]
theorem zff (L:List D) (hL:flat 50 (.lst L)=true):pEq (.lst L) (.lst [])=some (.pure (.bl L.isEmpty)):=by
 unfold pEq
 rw [hL]
 cases L <;> rfl
theorem r_due {h w:Int} (hs:szD (.int h) (.int w)=true) {ps:List D} (hp:∀ p ∈ ps,SmP p) (hn:ps.length≤1000):z0r [.pure (.int h),.pure (.int w),.pure (.lst ps)]=some (.pure (due h w ps),[.pure (.int h),.pure (.int w),.pure (.lst ps)]):=by
 have es:=z3W (.int h) (.int w) trivial trivial
 rw [hs] at es
 have R1:∀ s3 s4,z1o (eC1 pLen (bVar 2)) (e5 h w (.lst ps) s3 s4) = .ok (z0v 0 ps.length) (e5 h w (.lst ps) s3 s4):=fun s3 s4=>by
  have ln:pLen (.lst ps)=some (.pure (.int (ps.length:Int))):=by rfl
  clear hp es
  generalize D.lst ps=L at *
  have hsm:z3b (ps.length:Int)=true:=by unfold z3b; simp; omega
  simp [e5,z1o,bVar,ln,hsm]
 obtain ⟨s,δ',e⟩:=z9q (h:=h) (w:=w) hp hn ps 0 [] none rfl rfl
 have key:∃ δ1,z14 (e5 h w (.lst ps) none none) = .ok (.ret (.pure (due h w ps))) δ1:=by
  rw [z14]
  rw [z0g (δ1:=(e5 h w (.lst ps) none none)) (by simp [e5,dTr,z08,ios,ndup,evX,eVar,mkA,es,putA])]
  rw [z0g (δ1:=(e5 h w (.lst ps) (some (.own (tD []))) none)) (show dAsg (eLst aNil) (gNm [] 3) (e5 h w (.lst ps) none none)=_ from rfl)]
  cases hf:fb h w [] ps with
  | some j =>
   rw [hf] at e
   refine ⟨δ',?_⟩
   rw [z6R ((z3d (R1 _ _)).trans e)]
   simp [e5,due,hf]
  | none =>
   rw [hf] at e
   rw [z0g ((z3d (R1 _ _)).trans e)]
   obtain ⟨bs,rfl,hg,hnd⟩:=z8G (by simp) hf
   have ed:due h w (bs.map blD)=if bs.isEmpty then .int 0 else match fs (bs.map (·.1)) bs with
     | some k=>.int k
     | none=>.non:=by
    unfold due
    rw [hf,zeg,zcb (h:=h) (w:=w)]
    simp
   simp only [WX,zeg] at hnd ⊢
   have efl:flat 50 (tD (bs.map (·.1)))=true:=by
    have:=z6a ((bs.map (·.1)).map fun n=>[n]) 49
    simpa [tD,WL,Function.comp_def] using this
   have q:=zff ((bs.map (fun b:Nat×List Tx=>b.1)).map fun n:Nat=>D.str [n]) efl
   replace q:pEq (tD (bs.map (·.1))) (.lst [])=_:=q
   obtain ⟨δ2,e2⟩:=z8a (h:=h) (w:=w) (all:=bs.map blD) (bs.map (·.1)) bs 0 (.own (tD (bs.map (·.1)))) s hg rfl (.inl rfl)
   have hl:(bs.map blD).length=bs.length:=by simp
   rw [hl] at R1
   cases hb:bs.isEmpty with
   | true =>
    rw [hb] at ed
    have q':pEq (tD (bs.map (·.1))) (.lst [])=some (.pure (.bl true)):=by rw [q]; simpa using hb
    generalize tD (bs.map (·.1))=T at q'
    rw [ed]
    refine ⟨_,z6R (δ1:=(e5 h w (.lst (bs.map blD)) (some (.own T)) s)) ?_⟩
    simp [e5,dTr,eOpF,eOpN,bVar,q']
   | false =>
    rw [hb] at ed
    have q':pEq (tD (bs.map (·.1))) (.lst [])=some (.pure (.bl false)):=by rw [q]; simpa using hb
    rw [z0g (δ1:=(e5 h w (.lst (bs.map blD)) (some (.own (tD (bs.map (·.1))))) s)) (by
     generalize tD (bs.map (·.1))=T at q'
     simp [e5,dTr,eOpF,eOpN,bVar,q'])]
    cases hs2:fs (bs.map (·.1)) bs with
    | some j =>
     rw [hs2] at e2 ed
     refine ⟨δ2,?_⟩
     rw [z6R ((z3d (R1 _ _)).trans e2),ed]
     simp
    | none =>
     rw [hs2] at e2 ed
     refine ⟨δ2,?_⟩
     rw [z0g ((z3d (R1 _ _)).trans e2),ed]
     rfl
 obtain ⟨δ1,e1⟩:=key
 exact zbH e1
def enF:Nat→List D→List D
 | _,[]=>[]
 | k,p :: r=>.tup [.int k,p] :: enF (k + 1) r
theorem zbR:∀ (ds:List D) (k:Nat),ds.mapIdx (fun i d=>D.tup [.int ((i + k:Nat):Int),d])=enF k ds
 | [],k=>rfl
 | d :: r,k=>by
  rw [List.mapIdx_cons,enF]
  congr 1
  ·simp
  ·rw [← zbR r (k + 1)]
   congr 1
   funext i d
   congr 4
   omega
theorem z9p (ds:List D):z7h ds=enF 0 ds:=zbR ds 0
abbrev clsR:Tx:=[78,111,82,117,108,101]
abbrev numT:Tx:=[110,117,109,98,101,114]
abbrev excR (n:Int):Xc:=⟨clsR,.xd [(numT,.int n)]⟩
abbrev d7 (h w:Int) (L:D) (a b c d:Option S):Dl:=[some (.pure (.int h)),some (.pure (.int w)),some (.pure L),a,b,c,d]
structure Seen (ts:List Nat) (kvs:List (DKey×D)):Prop where
 any:∀ n:Nat,(kvs.any fun kv=>decide (kv.1=Sum.inr [n]))=ts.contains n
 len:kvs.length≤ts.length
theorem Seen.put (s:Seen ts kvs) (m:Nat) (v:D):Seen (ts ++ [m]) (putD kvs (Sum.inr [m]) v) where
 any:=fun n=>by
  rw [z93,s.any]
  by_cases e:m=n
  ·subst e; simp
  ·have e':¬ n=m:=fun z=>e z.symm
   simp [e,e']
 len:=by
  have:=s.len
  unfold putD
  split
  ·simp; omega
  ·simp; omega
theorem zf3 (s:Seen ts kvs) (n:Nat):pIn false (.str [n]) (.dct kvs)=some (.pure (.bl (ts.contains n))):=by
 unfold pIn
 simp [keyD,z5B,s.any]
theorem zaO (hp:SmP p) (sn:Seen ts kvs) (ht:ts.length≤1000) (s6:Option S) :
  ∃ kvs' s,ruB (d7 h w A (some (.own (.dct kvs))) (some (.pure (.int k))) (some (.pure p)) s6)=(if isPr h w p && !ts.contains (tN p) then
   .ok .next (d7 h w A (some (.own (.dct kvs'))) (some (.pure (.int k))) (some (.pure p)) s6)
   else .exc (excR k) s)∧(isPr h w p && !ts.contains (tN p)→Seen (ts ++ [tN p]) kvs'):=by
 have ep:=z8s h w p hp
 cases hi:isPr h w p with
 | false =>
  rw [hi] at ep
  refine ⟨kvs,(d7 h w A (some (.own (.dct kvs))) (some (.pure (.int k))) (some (.pure p)) s6),?_,by simp⟩
  refine (z4T (v:=excR k) (δ1:=(d7 h w A (some (.own (.dct kvs))) (some (.pure (.int k))) (some (.pure p)) s6)) ?_).trans (by simp)
  simp [d7,dTr,z08,ios,ndup,evX,eVar,mkA,ep,putA,z1B]
 | true =>
  rw [hi] at ep
  obtain ⟨b,rfl,gb⟩:=zeF hi
  have e0:pIx (blD b) (.int 0)=some (.pure (.str [b.1])):=ix00 (.str [b.1]) [flD b.2]
  have en:=zf3 sn b.1
  have et:tN (blD b)=b.1:=rfl
  rw [et]
  cases hc:ts.contains b.1 with
  | true =>
   rw [hc] at en
   refine ⟨kvs,(d7 h w A (some (.own (.dct kvs))) (some (.pure (.int k))) (some (.pure (blD b))) s6),?_,by simp⟩
   generalize blD b=B at ep e0
   refine (z4T (v:=excR k) (δ1:=(d7 h w A (some (.own (.dct kvs))) (some (.pure (.int k))) (some (.pure B)) s6)) ?_).trans (by simp)
   simp [d7,dTr,z08,ios,ndup,evX,eVar,mkA,ep,putA,z1B,eOpF,eOpN,bVar,e0,en]
  | false =>
   rw [hc] at en
   refine ⟨putD kvs (Sum.inr [b.1]) (.bl true),[],?_,fun _=>sn.put b.1 _⟩
   generalize blD b=B at ep e0
   unfold ruB
   rw [z0g (δ1:=(d7 h w A (some (.own (.dct kvs))) (some (.pure (.int k))) (some (.pure B)) s6)) (by
    simp [d7,dTr,z08,ios,ndup,evX,eVar,mkA,ep,putA,eOpF,eOpN,bVar,e0,en])]
   have hz:kvs.length < W6:=by have:=sn.len; rw [z13]; omega
   simp [d7,zdm,z7Z,eOpF,eOpN,bVar,e0,keyD,hz]
theorem z7x:∀ (ps:List D) (k:Nat) (ts:List Nat) (kvs:List (DKey×D)) (s4 s5 s6:Option S),(∀ p ∈ ps,SmP p)→Seen ts kvs→ts.length + ps.length≤1000 →
  ∃ kvs' s s' δ',forL (gTp 2 (z0j (gNm [] 4) (z0j (gNm [] 5) z1d))) ruB (enF k ps) (d7 h w A (some (.own (.dct kvs))) s4 s5 s6)=(match fb h w ts ps with
   | some j=>.exc (excR ((k + j:Nat):Int)) δ'
   | none=>.ok .next (d7 h w A (some (.own (.dct kvs'))) s s' s6))
 | [],k,ts,kvs,s4,s5,s6,hp,sn,hn=>⟨kvs,s4,s5,[],by simp [d7,fb]; rfl⟩
 | p :: ps,k,ts,kvs,s4,s5,s6,hp,sn,hn=>by
  simp only [WH] at hn
  obtain ⟨kvs',s,st,sn'⟩:=zaO (h:=h) (w:=w) (A:=A) (k:=k) (hp p (by simp)) sn (by omega) s6
  have un:∀ x,(ruB (d7 h w A (some (.own (.dct kvs))) (some (.pure (.int k))) (some (.pure p)) s6)).bind (fun fl δ2=>match fl with
    | .next=>forL (gTp 2 (z0j (gNm [] 4) (z0j (gNm [] 5) z1d))) ruB (enF (k + 1) ps) δ2
    | .cont=>forL (gTp 2 (z0j (gNm [] 4) (z0j (gNm [] 5) z1d))) ruB (enF (k + 1) ps) δ2
    | .brk=>.ok .next δ2
    | .ret v=>.ok (.ret v) δ2)=x→forL (gTp 2 (z0j (gNm [] 4) (z0j (gNm [] 5) z1d))) ruB (enF k (p :: ps)) (d7 h w A (some (.own (.dct kvs))) s4 s5 s6)=x:=fun x e=>e
  rw [st] at un
  cases hc:isPr h w p && !ts.contains (tN p) with
  | false =>
   rw [hc] at un
   exact ⟨kvs,s4,s5,s,un _ (by simp only [fb,hc]; rfl)⟩
  | true =>
   rw [hc] at un
   obtain ⟨kvs2,s',s'',δ',e⟩:=z7x (A:=A) ps (k + 1) (ts ++ [tN p]) kvs' (some (.pure (.int k))) (some (.pure p)) s6 (fun q hq=>hp q (by simp [d7,hq])) (sn' hc) (by simp; omega)
   refine ⟨kvs2,s',s'',δ',un _ ?_⟩
   show forL (gTp 2 (z0j (gNm [] 4) (z0j (gNm [] 5) z1d))) ruB (enF (k + 1) ps) (d7 h w A (some (.own (.dct kvs'))) (some (.pure (.int k))) (some (.pure p)) s6)=_
   rw [e]
   have ef:fb h w ts (p :: ps)=(fb h w (ts ++ [tN p]) ps).map (· + 1):=by rw [fb,hc]; rfl
   rw [ef]
   cases fb h w (ts ++ [tN p]) ps with
   | none=>simp
   | some j =>
    simp only [Wv]
    have:k + 1 + j=k + (j + 1):=by omega
    rw [this]
theorem zfu:∀ (xs:List Nat) (c:Option S),∃ c',forL (gNm [] 4) unI (xs.map fun n=>D.str [n]) [some (.pure L),some (.own (dcD all)),some (.pure (.int k)),some (.pure P),c] =
  (if xs.all (fun n=>(all.map (·.1)).contains n) then .ok .next [some (.pure L),some (.own (dcD all)),some (.pure (.int k)),some (.pure P),c'] else .ok (.ret (.pure (.int k))) [some (.pure L),some (.own (dcD all)),some (.pure (.int k)),some (.pure P),c'])
 | [],c=>⟨c,rfl⟩
 | n :: xs,c=>by
  have hin:=in_dc all n
  have un:∀ x,(unI [some (.pure L),some (.own (dcD all)),some (.pure (.int k)),some (.pure P),some (.pure (.str [n]))]).bind (fun fl δ2=>match fl with
    | .next=>forL (gNm [] 4) unI (xs.map fun n=>D.str [n]) δ2
    | .cont=>forL (gNm [] 4) unI (xs.map fun n=>D.str [n]) δ2
    | .brk=>.ok .next δ2
    | .ret v=>.ok (.ret v) δ2)=x→forL (gNm [] 4) unI ((n :: xs).map fun n=>D.str [n]) [some (.pure L),some (.own (dcD all)),some (.pure (.int k)),some (.pure P),c]=x:=fun x e=>e
  cases hc:(all.map (·.1)).contains n with
  | true =>
   rw [hc] at hin
   have st:unI [some (.pure L),some (.own (dcD all)),some (.pure (.int k)),some (.pure P),some (.pure (.str [n]))] = .ok .next [some (.pure L),some (.own (dcD all)),some (.pure (.int k)),some (.pure P),some (.pure (.str [n]))]:=by
    generalize dcD all=T at hin
    simp [dTr,eVar,bVar,hin]
   rw [st] at un
   obtain ⟨c',e⟩:=zfu xs (some (.pure (.str [n])))
   refine ⟨c',un _ (e.trans ?_)⟩
   rw [Qh,hc,Bool.true_and]
  | false =>
   rw [hc] at hin
   have st:unI [some (.pure L),some (.own (dcD all)),some (.pure (.int k)),some (.pure P),some (.pure (.str [n]))] = .ok (.ret (.pure (.int k))) [some (.pure L),some (.own (dcD all)),some (.pure (.int k)),some (.pure P),some (.pure (.str [n]))]:=by
    generalize dcD all=T at hin
    simp [dTr,eVar,bVar,hin]
   rw [st] at un
   refine ⟨some (.pure (.str [n])),un _ ?_⟩
   rw [Qh,hc,Bool.false_and]
   rfl
theorem ze8 (gb:GP h w b) (c:Option S):∃ c',unB [some (.pure L),some (.own (dcD all)),some (.pure (.int k)),some (.pure (blD b)),c] =
  (if okB (all.map (·.1)) (blD b) then .ok .next [some (.pure L),some (.own (dcD all)),some (.pure (.int k)),some (.pure (blD b)),c'] else .ok (.ret (.pure (.int k))) [some (.pure L),some (.own (dcD all)),some (.pure (.int k)),some (.pure (blD b)),c']):=by
 have ej:=zbu gb
 have e1:pIx (blD b) (.int 1)=some (.pure (flD b.2)):=ix1 (.str [b.1]) (flD b.2) []
 obtain ⟨c',e⟩:=zfu (all:=all) (L:=L) (P:=blD b) (k:=k) b.2.flatten c
 refine ⟨c',?_⟩
 rw [z98]
 refine (z3d (δ1:=[some (.pure L),some (.own (dcD all)),some (.pure (.int k)),some (.pure (blD b)),c]) (ds:=b.2.flatten.map fun n=>D.str [n]) ?_).trans ?_
 rotate_left
 ·exact e
 ·generalize flD b.2=F at *
  generalize blD b=B at *
  simp [z45,eOpF,eOpN,bVar,e1,ej]
theorem zan:∀ (bs:List (Nat×List Tx)) (k:Nat) (s2 s3 c:Option S),(∀ b ∈ bs,GP h w b)→∃ δ',
  forL (gTp 2 (z0j (gNm [] 2) (z0j (gNm [] 3) z1d))) unB (enF k (bs.map blD)) [some (.pure L),some (.own (dcD all)),s2,s3,c]=(match fs (all.map (·.1)) bs with
   | some j=>.ok (.ret (.pure (.int ((k + j:Nat):Int)))) δ'
   | none=>.ok .next δ')
 | [],k,s2,s3,c,hg=>⟨_,by simp [fs]; rfl⟩
 | b :: bs,k,s2,s3,c,hg=>by
  obtain ⟨c',st⟩:=ze8 (all:=all) (L:=L) (k:=k) (hg b (by simp)) c
  have un:∀ x,(unB [some (.pure L),some (.own (dcD all)),some (.pure (.int k)),some (.pure (blD b)),c]).bind (fun fl δ2=>match fl with
    | .next=>forL (gTp 2 (z0j (gNm [] 2) (z0j (gNm [] 3) z1d))) unB (enF (k + 1) (bs.map blD)) δ2
    | .cont=>forL (gTp 2 (z0j (gNm [] 2) (z0j (gNm [] 3) z1d))) unB (enF (k + 1) (bs.map blD)) δ2
    | .brk=>.ok .next δ2
    | .ret v=>.ok (.ret v) δ2)=x→forL (gTp 2 (z0j (gNm [] 2) (z0j (gNm [] 3) z1d))) unB (enF k ((b :: bs).map blD)) [some (.pure L),some (.own (dcD all)),s2,s3,c]=x:=fun x e=>e
  rw [st] at un
  cases hc:okB (all.map (·.1)) (blD b) with
  | false =>
   rw [hc] at un
   exact ⟨_,un _ (by simp only [fs,hc]; rfl)⟩
  | true =>
   rw [hc] at un
   obtain ⟨δ',e⟩:=zan (all:=all) (L:=L) bs (k + 1) (some (.pure (.int k))) (some (.pure (blD b))) c' (fun x hx=>hg x (by simp [hx]))
   refine ⟨δ',un _ ?_⟩
   show forL (gTp 2 (z0j (gNm [] 2) (z0j (gNm [] 3) z1d))) unB (enF (k + 1) (bs.map blD)) [some (.pure L),some (.own (dcD all)),some (.pure (.int k)),some (.pure (blD b)),c']=_
   rw [e]
   have ef:fs (all.map (·.1)) (b :: bs)=(fs (all.map (·.1)) bs).map (· + 1):=by rw [fs,hc]; rfl
   rw [ef]
   cases fs (all.map (·.1)) bs with
   | none=>simp
   | some j =>
    simp only [Wv]
    have:k + 1 + j=k + (j + 1):=by omega
    rw [this]
def z55 (bs:List (Nat×List Tx)):D:=match fs (bs.map (·.1)) bs with
 | some k=>.int k
 | none=>.non
theorem zdW (e:b (z0a n [.pure x]) = .ok (.ret v) δ1):gOf [] n b [.pure x]=some (v,[.pure x]):=by
 rw [z5a,e]; rfl
theorem zcG (hn:bs.length≤1000) (hg:∀ b ∈ bs,GP h w b):z0Q [.pure (.lst (bs.map blD))]=some (.pure (z55 bs),[.pure (.lst (bs.map blD))]):=by
 have ed:z3X (.lst (bs.map blD))=some (.own (dcD bs)):=by
  unfold z3X
  simp only [zcS,WT]
  rw [if_pos (by have:W6=16777216:=rfl; simp; omega)]
  rfl
 obtain ⟨δ',e⟩:=zan (h:=h) (w:=w) (all:=bs) (L:=.lst (bs.map blD)) bs 0 none none none hg
 have key:∃ δ1,z1l [some (.pure (.lst (bs.map blD))),none,none,none,none] = .ok (.ret (.pure (z55 bs))) δ1:=by
  rw [z1l]
  rw [z0g (δ1:=[some (.pure (.lst (bs.map blD))),some (.own (dcD bs)),none,none,none]) (by
   generalize dcD bs=T at ed
   generalize D.lst (bs.map blD)=L at ed
   simp [dAsg,bVar,ed])]
  have it:z82 (eVar 0) [some (.pure (.lst (bs.map blD))),some (.own (dcD bs)),none,none,none] = .ok (enF 0 (bs.map blD)) [some (.pure (.lst (bs.map blD))),some (.own (dcD bs)),none,none,none]:=by
   rw [zbP,← z9p]; rfl
  unfold z55
  cases hf:fs (bs.map (·.1)) bs with
  | some j =>
   rw [hf] at e
   refine ⟨δ',?_⟩
   rw [z6R ((z3d it).trans e)]
   simp
  | none =>
   rw [hf] at e
   refine ⟨δ',?_⟩
   rw [z0g ((z3d it).trans e)]
   rfl
 obtain ⟨δ1,e1⟩:=key
 exact zdW e1
theorem zbq:∀ bs:List (Nat×List Tx),z7X (bs.map blD)=some (bs.map fun b=>[b.1])
 | []=>rfl
 | b :: bs=>by
  show (z7X (bs.map blD)).map _=_
  rw [zbq bs]; rfl
theorem zdQ:∀ {ks:List Tx},ks.Nodup→ndT ks=true
 | [],_=>rfl
 | x :: r,h=>by
  obtain ⟨h1,h2⟩:=Qz.mp h
  simp only [ndT,zdQ h2,JB]
  simpa using h1
theorem zfq (bs:List (Nat×List Tx)) (nd:(bs.map (·.1)).Nodup) (hl:bs.length < 64):∃ sb:List (Nat×List Tx),z3N (.lst (bs.map blD))=some (.own (.lst (sb.map blD)))∧sb.Perm bs∧(sb.map (·.1)).Pairwise (· < ·):=by
 by_cases h2:bs.length < 2
 ·refine ⟨bs,by simp only [z3N,WC]; rw [if_pos h2],.refl _,?_⟩
  match bs,h2 with
  | [],_=>exact .nil
  | [b],_=>exact List.pairwise_singleton _ _
 ·have e1:(bs.map fun b=>[b.1])=(bs.map (·.1)).map fun t=>[t]:=by rw [WL]; rfl
  have hnd:ndT (bs.map fun b=>[b.1])=true:=by
   rw [e1]
   refine zdQ ?_
   rw [List.nodup_iff_pairwise_ne,List.pairwise_map]
   exact (List.nodup_iff_pairwise_ne.mp nd).imp fun h z=>h (by simpa using z)
  refine ⟨(ordK (bs.map fun b=>[b.1])).map fun i=>bs.getD i (0,[]),?_,?_,?_⟩
  ·simp only [z3N,WC]
   rw [if_neg h2]
   simp only [z7J,zbq]
   rw [if_pos ⟨by simp; omega,by simpa using hl,hnd⟩,WL]
   have hp:=z2U (ks:=bs.map fun b=>[b.1]) (by simp; omega)
   congr 3
   refine QO fun i hi=>?_
   have:=hp.mem_iff.mp hi
   simp at this
   simp [this]
  ·have hp:=(z2U (ks:=bs.map fun b=>[b.1]) (by simp; omega)).map fun i=>bs.getD i (0,[])
   refine hp.trans ?_
   have:(WM (bs.map fun b=>[b.1]).length).map (fun i=>bs.getD i (0,[]))=bs:=by
    apply List.ext_getElem
    ·simp
    ·intro i h1 h2
     simp at h1
     simp [h1]
   rw [this]
  ·have:=zeR (bs.map (·.1)) nd (by simp; omega)
   rw [← e1] at this
   rw [WL]
   have e2:((ordK (bs.map fun b=>[b.1])).map fun i=>(bs.map (·.1)).getD i 0)=(ordK (bs.map fun b=>[b.1])).map ((fun b:Nat×List Tx=>b.1) ∘ fun i=>bs.getD i (0,[])):=by
    refine QO fun i hi=>?_
    have hp:=z2U (ks:=bs.map fun b=>[b.1]) (by simp; omega)
    have:=hp.mem_iff.mp hi
    simp at this
    simp [this]
   rw [← e2]
   exact this
theorem z7c (e:b (z0a n [.pure x,.pure y,.pure z]) = .exc v δ1):gOfX [] n b [.pure x,.pure y,.pure z]=some (.inr (v,[.pure x,.pure y,.pure z])):=by
 unfold gOfX runX; rw [e]; rfl
theorem zf5 (e:b (z0a n [.pure x,.pure y,.pure z]) = .ok (.ret v) δ1):gOfX [] n b [.pure x,.pure y,.pure z]=some (.inl (v,[.pure x,.pure y,.pure z])):=by
 unfold gOfX runX; rw [e]; rfl
theorem x_bad (ha:NX a) (hb:NX b) (hs:szD a b=false) (L:D):z1k [.pure a,.pure b,.pure L]=some (.inr (excR (-1),[.pure a,.pure b,.pure L])):=by
 have es:=z5e a b ha hb
 rw [hs] at es
 refine z7c (δ1:=[some (.pure a),some (.pure b),some (.pure L),none,none,none,none]) ?_
 rw [z2k]
 refine z4T ?_
 show _=Rs.exc (excR (-1)) [some (.pure a),some (.pure b),some (.pure L),none,none,none,none]
 simp [z0a,dTr,z08,ios,ndup,evX,eVar,mkA,es,putA,z8B,z1B]
theorem zfg (n:Nat):pEq (.int (n:Int)) (.int 0)=some (.pure (.bl (n == 0))):=by
 rw [z86]
 congr 3
 cases n <;> rfl
theorem zdk (hf:fb h w [] ps=none) (e:ps=bs.map blD):due h w ps=if bs.isEmpty then .int 0 else z55 bs:=by
 subst e
 unfold due z55
 rw [hf,zeg,zcb (h:=h) (w:=w)]
 cases fs (bs.map (·.1)) bs <;> simp
theorem zbz (k:Int):pIsN true (.int k) .non=some (.pure (.bl true)):=rfl
theorem zby:pIsN true .non .non=some (.pure (.bl false)):=rfl
theorem zfr (hs:szD (.int h) (.int w)=true) (hp:∀ p ∈ ps,SmP p) (hn:ps.length < 64) :
  (∃ k:Int,due h w ps = .int k∧z1k [.pure (.int h),.pure (.int w),.pure (.lst ps)]=some (.inr (excR k,[.pure (.int h),.pure (.int w),.pure (.lst ps)]))) ∨
  (due h w ps = .non∧∃ bs sb:List (Nat×List Tx),ps=bs.map blD∧(∀ b ∈ bs,GP h w b)∧bs≠[]∧fs (bs.map (·.1)) bs=none∧z3N (.lst ps)=some (.own (.lst (sb.map blD)))∧sb.Perm bs∧(sb.map (·.1)).Pairwise (· < ·) ∧
   z1k [.pure (.int h),.pure (.int w),.pure (.lst ps)]=some (.inl (.pure (.tup [.int h,.int w,.tup (sb.map blD)]),[.pure (.int h),.pure (.int w),.pure (.lst ps)]))):=by
 have es:=z5e (.int h) (.int w) trivial trivial
 rw [hs] at es
 obtain ⟨kvs,s,s',δ',e⟩:=z7x (h:=h) (w:=w) (A:=.lst ps) ps 0 [] [] none none none hp ⟨fun n=>by simp,by simp⟩ (by simp; omega)
 have q1:∀ r:DS,dSeq (dIf (dNot (dTr (z08 z1j [.val (eVar 0),.val (eVar 1)]))) (z1B [78,111,82,117,108,101] [[110,117,109,98,101,114]] (z0b (eC1 pNeg (bOf (eD (.int 1)))) aNil)) z0I) (dSeq (dAsg zbS (gNm [] 3)) r) (z0a 7 [.pure (.int h),.pure (.int w),.pure (.lst ps)])=r (d7 h w (.lst ps) (some (.own (.dct []))) none none none):=fun r=>by
  rw [z0g (δ1:=d7 h w (.lst ps) none none none none) (by simp [z0a,dTr,z08,ios,ndup,evX,eVar,mkA,es,putA])]
  exact z0g rfl
 have it:z82 (eVar 2) (d7 h w (.lst ps) (some (.own (.dct []))) none none none) = .ok (enF 0 ps) (d7 h w (.lst ps) (some (.own (.dct []))) none none none):=by
  rw [zbP,← z9p]; rfl
 have ln:pLen (.lst ps)=some (.pure (.int (ps.length:Int))):=by rfl
 have q0:=zfg ps.length
 cases hf:fb h w [] ps with
 | some j =>
  rw [hf] at e
  refine .inl ⟨j,by simp [due,hf],z7c (δ1:=δ') ?_⟩
  rw [z2k,q1]
  exact z4T ((z3d it).trans (e.trans (by simp)))
 | none =>
  rw [hf] at e
  obtain ⟨bs,eb,hg,hnd⟩:=z8G (by simp) hf
  have ed:=zdk hf eb
  have hl:bs.length=ps.length:=by rw [eb]; simp
  have q2:∀ r:DS,dSeq (dFor (z82 (eVar 2)) (gTp 2 (z0j (gNm [] 4) (z0j (gNm [] 5) z1d))) ruB) r (d7 h w (.lst ps) (some (.own (.dct []))) none none none)=r (d7 h w (.lst ps) (some (.own (.dct kvs))) s s' none):=fun r=>z0g ((z3d it).trans e)
  cases hz:ps.length == 0 with
  | true =>
   rw [hz] at q0
   have hb:bs.isEmpty=true:=by
    have:bs.length=0:=by rw [hl]; simpa using hz
    simpa using this
   rw [hb] at ed
   refine .inl ⟨0,ed,z7c (δ1:=d7 h w (.lst ps) (some (.own (.dct kvs))) s s' none) ?_⟩
   rw [z2k,q1]
   refine (q2 _).trans (z4T ?_)
   generalize D.lst ps=L at ln
   simp [d7,dTr,bVar,ln,q0,z1B]
  | false =>
   rw [hz] at q0
   have hb:bs.isEmpty=false:=by
    have:¬ bs.length=0:=by rw [hl]; simpa using hz
    simpa using this
   rw [hb] at ed
   have ef:=zcG (h:=h) (w:=w) (bs:=bs) (by omega) hg
   rw [← eb] at ef
   have q3:∀ r:DS,dSeq (dIf (dTr (eOp pEq (eC1 pLen (bVar 2)) (bOf (eD (.int 0))))) (z1B [78,111,82,117,108,101] [[110,117,109,98,101,114]] (z0b (eD (.int 0)) aNil)) z0I) (dSeq (dAsg (z08 z0Q [.val (eVar 2)]) (gNm [] 6)) r) (d7 h w (.lst ps) (some (.own (.dct kvs))) s s' none)=r (d7 h w (.lst ps) (some (.own (.dct kvs))) s s' (some (.pure (z55 bs)))):=fun r=>by
    rw [z0g (δ1:=d7 h w (.lst ps) (some (.own (.dct kvs))) s s' none) (by
     generalize D.lst ps=L at ln
     simp [d7,dTr,bVar,ln,q0])]
    refine z0g ?_
    generalize D.lst ps=L at ef
    generalize z55 bs=K at ef
    simp [d7,dAsg,z08,ios,ndup,evX,eVar,mkA,ef,putA]
   cases hfs:fs (bs.map (·.1)) bs with
   | some j =>
    have el:z55 bs = .int j:=by unfold z55; rw [hfs]
    refine .inl ⟨j,by rw [ed,el]; simp,z7c (δ1:=d7 h w (.lst ps) (some (.own (.dct kvs))) s s' (some (.pure (z55 bs)))) ?_⟩
    rw [z2k,q1]
    refine (q2 _).trans ((q3 _).trans (z4T ?_))
    rw [el]
    simp [d7,dTr,eVar,zbz,z1B]
   | none =>
    have el:z55 bs = .non:=by unfold z55; rw [hfs]
    obtain ⟨sb,e1,e2,e3⟩:=zfq bs (by simpa using hnd) (by omega)
    rw [← eb] at e1
    refine .inr ⟨by rw [ed,el]; simp,bs,sb,eb,hg,fun z=>by rw [z] at hb; simp at hb,hfs,e1,e2,e3,zf5 (δ1:=d7 h w (.lst ps) (some (.own (.dct kvs))) s s' (some (.pure (z55 bs)))) ?_⟩
    rw [z2k,q1]
    refine (q2 _).trans ((q3 _).trans ?_)
    rw [el]
    rw [z0g (δ1:=d7 h w (.lst ps) (some (.own (.dct kvs))) s s' (some (.pure .non))) (by simp [d7,dTr,eVar,zby])]
    have et:z24 (.lst (sb.map blD))=some (.pure (.tup (sb.map blD))):=rfl
    generalize D.lst (sb.map blD)=M at *
    generalize D.tup (sb.map blD)=N at *
    generalize D.lst ps=L at *
    simp [d7,dRet,eTup,z0b,aNil,eVar,bVar,e1,et]
section
variable (ce:Tx→Nat)
theorem is0 (fl:D) (tab:Tx→Bool) (rest:Dl):eIsC ce ys tab (bVar 0) (some (.pure (.exc (ce clsR) fl)) :: rest) = .ok (.pure (.bl (tab clsR))) (some (.pure (.exc (ce clsR) fl)) :: rest):=by
 simp [eIsC,bVar,ys]
theorem zew (fl:D):z11 ce [.pure (.exc (ce clsR) fl)]=some (.pure (.str [114,117,108,101]),[.pure (.exc (ce clsR) fl)]):=by
 have i0:=is0 ce fl
 have c1:z6G (.lst [.bl false,.bl false,.bl false,.bl false,.bl false,.bl false,.bl true,.bl false,.bl false])=some (.pure (.int 1)):=by rfl
 have c2:z4Y (.lst [.bl false,.bl false,.bl false,.bl false,.bl false,.bl false,.bl true,.bl false,.bl false])=some (.pure (.int 6)):=by rfl
 rw [z11,z5a,z2N]
 generalize ce clsR=n at *
 simp [ioOk,z0a,dAsg,i0,eOpF,eOpN,bVar,pAdd,z13,z0W,z2u,putL,dTr,c1,c2,pNe,flat,eqD,pIx,atI,ixN,z0n,z09]
abbrev d8 (a b L:D) (s3:S) (c d e f:Option S):Dl:=[some (.pure a),some (.pure b),some (.pure L),some s3,c,d,e,f]
abbrev dp (a b L:D) (s3:S) (u t n:D) (f:Option S):Dl:=d8 a b L s3 (some (.pure u)) (some (.pure t)) (some (.pure n)) f
theorem han (a b L T u t:D) (n:Int):hanB ce (dp a b L (.own T) u t .non (some (.pure (.exc (ce clsR) (.xd [(numT,.int n)]))))) =
  .ok .next (dp a b L (.own T) u t (.int n) (some (.pure (.exc (ce clsR) (.xd [(numT,.int n)]))))):=by
 have ek:=zew ce (.xd [(numT,.int n)])
 have ew:=z8r (.int n) trivial
 have ea:∀ r,z8H ce ys [110,117,109,98,101,114] (bVar 7) (d8 a b L (.own T) (some (.pure u)) (some (.pure t)) r (some (.pure (.exc (ce clsR) (.xd [(numT,.int n)]))))) = .ok (.pure (.int n)) (d8 a b L (.own T) (some (.pure u)) (some (.pure t)) r (some (.pure (.exc (ce clsR) (.xd [(numT,.int n)]))))):=fun r=>by
  simp [z8H,bVar,ys,d8]
 have q:pNe (.str [114,117,108,101]) (.str [114,117,108,101])=some (.pure (.bl false)):=by rfl
 simp only [isI] at ew
 unfold hanB
 rw [z0g (δ1:=dp a b L (.own T) u t .non (some (.pure (.exc (ce clsR) (.xd [(numT,.int n)])))))]
 ·simp only [dAsg,ea]
  rfl
 ·have ec:z08 (z11 ce) [.val (eVar 7)] (dp a b L (.own T) u t .non (some (.pure (.exc (ce clsR) (.xd [(numT,.int n)]))))) = .ok (.pure (.str [114,117,108,101])) (dp a b L (.own T) u t .non (some (.pure (.exc (ce clsR) (.xd [(numT,.int n)]))))):=by
   generalize D.exc (ce clsR) (.xd [(numT,.int n)])=E at ek
   simp [d8,dp,z08,ios,ndup,evX,eVar,mkA,ek,putA]
  have ed:z08 z0K [.val (z8H ce ys [110,117,109,98,101,114] (bVar 7))] (dp a b L (.own T) u t .non (some (.pure (.exc (ce clsR) (.xd [(numT,.int n)]))))) = .ok (.pure (.bl true)) (dp a b L (.own T) u t .non (some (.pure (.exc (ce clsR) (.xd [(numT,.int n)]))))):=by
   simp [z08,ios,ndup,evX,ea,mkA,ew,putA]
  generalize dp a b L (.own T) u t .non (some (.pure (.exc (ce clsR) (.xd [(numT,.int n)]))))=δ at *
  simp [dTr,ec,ed,q]
theorem zeb (hx:z1k [.pure a,.pure b,.pure (.lst ps)]=some (.inr (excR n,[.pure a,.pure b,.pure (.lst ps)]))) :
  z8c ce ys 7 3 tryB (hanB ce) (dp a b (.lst ps) (.own (.lst ps)) u .non .non none) = .ok .next (dp a b (.lst ps) (.own (.lst ps)) u .non (.int n) none):=by
 have ex:tryB (dp a b (.lst ps) (.own (.lst ps)) u .non .non none) = .exc (excR n) (dp a b (.lst ps) (.own (.lst ps)) u .non .non none):=by
  simp [d8,dp,dAsg,z89,z6q,z6c,ios,ndup,evX,eVar,mkA,hx,putA,lfree]
  rfl
 unfold z8c
 rw [if_pos (by rfl),ex]
 simp only
 rw [if_pos (by rfl)]
 have:=han ce a b (.lst ps) (.lst ps) u .non n
 show unset 7 (hanB ce (dp a b (.lst ps) (.own (.lst ps)) u .non .non (some (.pure (.exc (ce clsR) (.xd [(numT,.int n)]))))))=_
 rw [this]
 rfl
theorem zeY (h w:Int) (sb:List (Nat×List Tx)):lfree 9 (.tup [.int h,.int w,.tup (sb.map blD)])=true:=by
 simp only [lfree,Qh,List.all_nil,JB,Bool.true_and,QM]
 rw [WB]
 intro b _
 simp only [Function.comp,lfree,Qh,List.all_nil,JB,Bool.true_and,QM]
 rw [WB]
 intro r _
 rfl
theorem zcm {h w:Int} {ps:List D} {u:D} {sb:List (Nat×List Tx)} (hx:z1k [.pure (.int h),.pure (.int w),.pure (.lst ps)]=some (.inl (.pure (.tup [.int h,.int w,.tup (sb.map blD)]),[.pure (.int h),.pure (.int w),.pure (.lst ps)]))) :
  z8c ce ys 7 3 tryB (hanB ce) (dp (.int h) (.int w) (.lst ps) (.own (.lst ps)) u .non .non none) = .ok .next (dp (.int h) (.int w) (.lst ps) (.own (.lst ps)) u (.tup [.int h,.int w,.tup (sb.map blD)]) .non none):=by
 have lf:=zeY h w sb
 have ex:tryB (dp (.int h) (.int w) (.lst ps) (.own (.lst ps)) u .non .non none) = .ok .next (dp (.int h) (.int w) (.lst ps) (.own (.lst ps)) u (.tup [.int h,.int w,.tup (sb.map blD)]) .non none):=by
  generalize D.tup [.int h,.int w,.tup (sb.map blD)]=R at *
  simp [d8,dp,dAsg,z89,z6q,z6c,ios,ndup,evX,eVar,mkA,hx,putA,lf]
 unfold z8c
 rw [if_pos (by rfl),ex]
end
section
variable (ce:Tx→Nat)
theorem zbo (h:flat 50 d=true):pNe d d=some (.pure (.bl false)):=by
 unfold pNe
 rw [h,z4K h]; rfl
theorem zfd (h:flat 50 d=true):pEq d d=some (.pure (.bl true)):=by
 unfold pEq
 rw [h,z4K h]; rfl
theorem zar (hL:flat 50 (.lst ps)=true) (hu:flat 50 u=true) (hn:ps.length≤1000) (e:finB (dp a b (.lst ps) (.own (.lst (ps ++ [.non]))) u t u none)=x) :
  zco (dp a b (.lst ps) (.own (.lst ps)) u t u none)=x:=by
 have q1:=zbo hL
 have q2:=zbo hu
 unfold zco
 rw [z0g (δ1:=dp a b (.lst ps) (.own (.lst ps)) u t u none) (by
  generalize D.lst ps=L at q1
  simp [d8,dp,dTr,eOpF,eOpN,bVar,q1,q2])]
 rw [z0g (δ1:=dp a b (.lst ps) (.own (.lst (ps ++ [.non]))) u t u none) (by
  have hz:ps.length < W6:=by rw [z13]; omega
  simp [d8,dp,z0W,z2u,putL,hz])]
 exact e
theorem zbF (hd:z0r [.pure a,.pure b,.pure (.lst ps)]=some (.pure u,[.pure a,.pure b,.pure (.lst ps)]))
  (e:dSeq (z8c ce ys 7 3 tryB (hanB ce)) zco (dp a b (.lst ps) (.own (.lst ps)) u .non .non none)=x):z2y ce (z0a 8 [.pure a,.pure b,.pure (.lst ps)])=x:=by
 rw [z2y]
 rw [z0g (δ1:=d8 a b (.lst ps) (.own (.lst ps)) none none none none) (by rfl)]
 rw [z0g (δ1:=d8 a b (.lst ps) (.own (.lst ps)) (some (.pure u)) none none none) (by
  generalize D.lst ps=L at hd
  simp [d8,dp,dAsg,z08,ios,ndup,evX,eVar,mkA,hd,putA])]
 rw [z0g (δ1:=d8 a b (.lst ps) (.own (.lst ps)) (some (.pure u)) (some (.pure .non)) none none) (by rfl)]
 rw [z0g (δ1:=dp a b (.lst ps) (.own (.lst ps)) u .non .non none) (by rfl)]
 exact e
theorem z7z (hL:flat 50 (.lst ps)=true) (hn:ps.length≤1000) (hd:z0r [.pure a,.pure b,.pure (.lst ps)]=some (.pure (.int n),[.pure a,.pure b,.pure (.lst ps)]))
  (hx:z1k [.pure a,.pure b,.pure (.lst ps)]=some (.inr (excR n,[.pure a,.pure b,.pure (.lst ps)]))):z0x ce [.pure a,.pure b,.pure (.lst ps)]=some (.pure (.bl true),[.pure a,.pure b,.pure (.lst ps)]):=by
 rw [z0x]
 refine zbH (δ1:=dp a b (.lst ps) (.own (.lst (ps ++ [.non]))) (.int n) .non (.int n) none) (zbF ce hd ?_)
 rw [z0g (zeb ce hx)]
 refine zar hL (by rfl) hn ?_
 simp [finB,d8,dp,eVar,zbz,eOr]
theorem z9K {h w:Int} {ps:List D} {sb:List (Nat×List Tx)} (hL:flat 50 (.lst ps)=true) (hn:ps.length≤1000) (hd:z0r [.pure (.int h),.pure (.int w),.pure (.lst ps)]=some (.pure .non,[.pure (.int h),.pure (.int w),.pure (.lst ps)]))
  (hx:z1k [.pure (.int h),.pure (.int w),.pure (.lst ps)]=some (.inl (.pure (.tup [.int h,.int w,.tup (sb.map blD)]),[.pure (.int h),.pure (.int w),.pure (.lst ps)])))
  (hr:z0D [.pure (.tup [.int h,.int w,.tup (sb.map blD)])]=some (.pure (.bl true),[.pure (.tup [.int h,.int w,.tup (sb.map blD)])])) (hf:flat 50 (.tup [.int h,.int w,.tup (sb.map blD)])=true)
  (hs:z3N (.lst ps)=some (.own (.lst (sb.map blD)))):z0x ce [.pure (.int h),.pure (.int w),.pure (.lst ps)]=some (.pure (.bl true),[.pure (.int h),.pure (.int w),.pure (.lst ps)]):=by
 rw [z0x]
 refine zbH (δ1:=dp (.int h) (.int w) (.lst ps) (.own (.lst (ps ++ [.non]))) .non (.tup [.int h,.int w,.tup (sb.map blD)]) .non none) (zbF ce hd ?_)
 rw [z0g (zcm ce hx)]
 refine zar hL (by rfl) hn ?_
 have q:=zfd hf
 have et:z24 (.lst (sb.map blD))=some (.pure (.tup (sb.map blD))):=rfl
 have ec:z08 z0D [.val (eVar 5)] (dp (.int h) (.int w) (.lst ps) (.own (.lst (ps ++ [.non]))) .non (.tup [.int h,.int w,.tup (sb.map blD)]) .non none) = .ok (.pure (.bl true)) (dp (.int h) (.int w) (.lst ps) (.own (.lst (ps ++ [.non]))) .non (.tup [.int h,.int w,.tup (sb.map blD)]) .non none):=by
  generalize D.tup [.int h,.int w,.tup (sb.map blD)]=R at hr
  simp [d8,dp,z08,ios,ndup,evX,eVar,mkA,hr,putA]
 have eq:eOpF pEq 5 (bOf (eTup (z0b (eVar 0) (z0b (eVar 1) (z0b (eC1 z24 (bOf (eC1 z3N (bVar 2)))) aNil))))) (dp (.int h) (.int w) (.lst ps) (.own (.lst (ps ++ [.non]))) .non (.tup [.int h,.int w,.tup (sb.map blD)]) .non none) = .ok (.pure (.bl true)) (dp (.int h) (.int w) (.lst ps) (.own (.lst (ps ++ [.non]))) .non (.tup [.int h,.int w,.tup (sb.map blD)]) .non none):=by
  clear hd hx hr ec
  generalize D.lst (sb.map blD)=M at *
  generalize D.tup (sb.map blD)=N at *
  generalize D.lst ps=L at *
  simp [d8,dp,eOpF,eOpN,eTup,z0b,aNil,eVar,bVar,hs,et,q]
 have e0:eVar 4 (dp (.int h) (.int w) (.lst ps) (.own (.lst (ps ++ [.non]))) .non (.tup [.int h,.int w,.tup (sb.map blD)]) .non none) = .ok (.pure .non) (dp (.int h) (.int w) (.lst ps) (.own (.lst (ps ++ [.non]))) .non (.tup [.int h,.int w,.tup (sb.map blD)]) .non none):=rfl
 unfold finB
 generalize dp (.int h) (.int w) (.lst ps) (.own (.lst (ps ++ [.non]))) .non (.tup [.int h,.int w,.tup (sb.map blD)]) .non none=δ at *
 simp [e0,zby,eOr,eAnd,ec,eq]
end
theorem zdZ:∀ {ps:List D} {ts:List Nat},fb h w ts ps=none→∀ p ∈ ps,isPr h w p=true
 | [],ts,_,p,hp=>by simp at hp
 | q :: ps,ts,e,p,hp=>by
  unfold fb at e
  split at e
  ·rename_i hc
   simp only [Wf] at hc
   rcases Wg.mp hp with rfl | hp
   ·exact hc.1
   ·exact zdZ (Option.map_eq_none_iff.mp e) p hp
  ·cases e
theorem zgY (hd:due h w ps = .non):fb h w [] ps=none:=by
 unfold due at hd
 cases e:fb h w [] ps with
 | none=>rfl
 | some k=>rw [e] at hd; cases hd
theorem zfs:∀ {ts:List Nat},ts.Pairwise (· < ·)→upN ts=true
 | [],_=>rfl
 | [_],_=>rfl
 | a :: b :: r,h=>by
  obtain ⟨h1,h2⟩:=List.pairwise_cons.mp h
  simp only [upN,Wf,decide_eq_true_eq]
  exact ⟨h1 b (by simp),zfs h2⟩
theorem zdX:∀ {bs:List (Nat×List Tx)},fs ts bs=none→∀ b ∈ bs,okB ts (blD b)=true
 | [],_,b,hb=>by simp at hb
 | a :: bs,e,b,hb=>by
  unfold fs at e
  split at e
  ·rename_i hc
   rcases Wg.mp hb with rfl | hb
   ·exact hc
   ·exact zdX (Option.map_eq_none_iff.mp e) b hb
  ·cases e
theorem z8F (n:Nat) (b:Nat×List Tx):flat (n + 2) (blD b)=true:=by
 simp [flat,z2I,z69]
section
variable (ce:Tx→Nat)
theorem zaR (ha:NX a) (hb:NX b) (hs:szD a b=false) (hL:flat 50 (.lst ps)=true) (hn:ps.length≤1000):z0x ce [.pure a,.pure b,.pure (.lst ps)]=some (.pure (.bl true),[.pure a,.pure b,.pure (.lst ps)]) :=
 z7z ce hL hn (zaW ha hb hs _) (x_bad ha hb hs _)
theorem z9L (hs:szD (.int h) (.int w)=true) (hp:∀ p ∈ ps,SmP p) (hL:flat 50 (.lst ps)=true) (hn:ps.length < 64):z0x ce [.pure (.int h),.pure (.int w),.pure (.lst ps)]=some (.pure (.bl true),[.pure (.int h),.pure (.int w),.pure (.lst ps)]):=by
 have ed:=r_due hs hp (by omega)
 rcases zfr hs hp hn with ⟨k,hd,hx⟩ | ⟨hd,bs,sb,eb,hg,hne,hfs,hsq,hperm,hup,hx⟩
 ·rw [hd] at ed
  exact z7z ce hL (by omega) ed hx
 ·rw [hd] at ed
  have hmem:∀ b ∈ sb,b ∈ bs:=fun b hb=>hperm.mem_iff.mp hb
  have hpr:∀ p ∈ ps,isPr h w p=true:=zdZ (zgY hd)
  have hln:sb.length=bs.length:=hperm.length_eq
  have hlb:bs.length=ps.length:=by rw [eb]; simp
  have hps:∀ p ∈ sb.map blD,p ∈ ps:=fun p hp=>by
   obtain ⟨b,hb,rfl⟩:=Qx.mp hp
   rw [eb]
   exact Jf (hmem b hb)
  have hall:(sb.map blD).all (isPr h w)=true:=List.all_eq_true.mpr fun p hp=>hpr p (hps p hp)
  have hz:(sb.map blD).isEmpty=false:=by
   cases e:sb with
   | nil =>
    rw [e] at hperm
    exact absurd (List.Perm.nil_eq hperm).symm hne
   | cons _ _=>rfl
  have hfl:flat 50 (.tup (sb.map blD))=true:=by
   show z2I 49 (sb.map blD)=true
   refine z2W fun p hp=>?_
   obtain ⟨b,_,rfl⟩:=Qx.mp hp
   exact z8F 47 b
  have hr:=zcF sb (by omega) (fun b hb=>hg b (hmem b hb)) (fun p hq=>hp p (hps p hq)) hs hz hfl hall
  have hru:isRu (.tup [.int h,.int w,.tup (sb.map blD)])=true:=by
   rw [zbw,hs,hz,hall,z8Q,zfs hup]
   simp only [Bool.not_false,Bool.true_and,JB,ok_bl]
   unfold zc1
   rw [WB]
   intro b hb
   have:=zdX hfs b (hmem b hb)
   rw [z98] at this
   rw [WB] at this ⊢
   intro c hc
   have:=this c hc
   simp only [List.contains_iff_mem] at this ⊢
   exact (hperm.map _).mem_iff.mpr this
  rw [hru] at hr
  refine z9K ce hL (by omega) ed hx hr ?_ hsq
  show z2I 49 [.int h,.int w,.tup (sb.map blD)]=true
  have:z2I 48 (sb.map blD)=true:=by
   refine z2W fun p hp=>?_
   obtain ⟨b,_,rfl⟩:=Qx.mp hp
   exact z8F 46 b
  simp [z2I,flat,this]
end
theorem z9z (h1:t δ = .ok true δ1) (h2:b δ1 = .ok .next δ2):z2b t b (n + 1) δ=z2b t b n δ2:=by
 simp only [z2b,h1,z0M,if_true,h2]
theorem zal (h1:t δ = .ok false δ1):z2b t b (n + 1) δ = .ok .next δ1:=by
 simp [z2b,h1]
abbrev shT:DT:=(dTr (eOpF pNe 2 (bOf (eLst aNil))))
abbrev shB:DS:=(z0W 3 (ePop 2 (z08 z0f [.io 0,.val (eC1 pLen (bVar 2))])))
theorem zeq (hp:Pen pd) (h0:0 < left.length) (hl:left.length + found.length≤1000):∃ (m:Nat) (d:D) (pd':D),Pen pd'∧left[m]? = some d ∧
  shB [some (.own pd),some (.pure T),some (.own (.lst left)),some (.own (.lst found))] = .ok .next [some (.own pd'),some (.pure T),some (.own (.lst (left.eraseIdx m))),some (.own (.lst (found ++ [d])))]:=by
 obtain ⟨m,pd',e,hm,hp'⟩:=z5M hp left.length h0 (by omega)
 refine ⟨m,left[m],pd',hp',by simp [hm],?_⟩
 have ln:pLen (.lst left)=some (.pure (.int (left.length:Int))):=by rfl
 have ec:z08 z0f [.io 0,.val (eC1 pLen (bVar 2))] [some (.own pd),some (.pure T),some (.own (.lst left)),some (.own (.lst found))] = .ok (.pure (.int m)) [some (.own pd'),some (.pure T),some (.own (.lst left)),some (.own (.lst found))]:=by
  generalize D.lst left=L at ln
  simp [z08,ios,ndup,z0H,evX,bVar,ln,mkA,e,putA]
 have hz:found.length < W6:=by rw [z13]; omega
 have ep:ePop 2 (z08 z0f [.io 0,.val (eC1 pLen (bVar 2))]) [some (.own pd),some (.pure T),some (.own (.lst left)),some (.own (.lst found))] = .ok (.pure left[m]) [some (.own pd'),some (.pure T),some (.own (.lst (left.eraseIdx m))),some (.own (.lst found))]:=by
  unfold ePop
  rw [if_pos (by rfl),ec]
  have h3:left.length < 1000000:=by omega
  simp [popL,hm,h3]
 unfold shB z0W
 rw [if_pos (by rfl),ep]
 simp [putL,hz]
theorem zaB {T:D} {P:D→Prop} (hP:∀ d,P d→flat 49 d=true):∀ (n:Nat) {pd:D} (left found:List D) (k:Nat),Pen pd→left.length=n→n < k→left.length + found.length≤1000→(∀ d ∈ left,P d)→(∀ d ∈ found,P d) →
  ∃ (pd':D) (out:List D),Pen pd'∧out.length=n + found.length∧(∀ d ∈ out,P d)∧z2b shT shB k [some (.own pd),some (.pure T),some (.own (.lst left)),some (.own (.lst found))] = .ok .next [some (.own pd'),some (.pure T),some (.own (.lst [])),some (.own (.lst out))]
 | 0,pd,left,found,k,hp,hl,hk,hs,h1,h2=>by
  obtain rfl:left=[]:=List.length_eq_zero_iff.mp hl
  obtain ⟨j,rfl⟩:∃ j,k=j + 1:=⟨k - 1,by omega⟩
  exact ⟨pd,found,hp,by omega,h2,zal (by rfl)⟩
 | n + 1,pd,left,found,k,hp,hl,hk,hs,h1,h2=>by
  obtain ⟨j,rfl⟩:∃ j,k=j + 1:=⟨k - 1,by omega⟩
  obtain ⟨m,d,pd1,hp1,hm,st⟩:=zeq (T:=T) hp (left:=left) (found:=found) (by omega) hs
  have hmlt:m < left.length:=(Wa.mp hm).1
  have hd:P d:=h1 d (Wr hm)
  have q:=zbp left (z2W fun x hx=>hP x (h1 x hx))
  have hne:left.isEmpty=false:=by cases left <;> simp_all
  rw [hne] at q
  have le:(left.eraseIdx m).length=n:=by rw [List.length_eraseIdx]; simp [hmlt]; omega
  obtain ⟨pd',out,a1,a2,a3,a4⟩:=zaB (T:=T) hP n (left.eraseIdx m) (found ++ [d]) j hp1 le (by omega) (by simp; omega) (fun x hx=>h1 x (List.mem_of_mem_eraseIdx hx)) (fun x hx=>by
   rcases Q2.mp hx with hx | hx
   ·exact h2 x hx
   ·simp at hx; rw [hx]; exact hd)
  refine ⟨pd',out,a1,by simp at a2; omega,a3,?_⟩
  rw [z9z (δ1:=[some (.own pd),some (.pure T),some (.own (.lst left)),some (.own (.lst found))]) (by
   generalize D.lst left=L at q
   simp [dTr,eOpF,eOpN,bVar,q]) st]
  exact a4
theorem z9M {P:D→Prop} (hP:∀ d,P d→flat 49 d=true) {pd:D} (hp:Pen pd) {ps:List D} (hn:ps.length≤100) (h:∀ p ∈ ps,P p):∃ (pd':D) (out:List D),Pen pd'∧out.length=ps.length∧(∀ p ∈ out,P p) ∧
  z16 [.own pd,.pure (.tup ps)]=some (.own (.lst out),[.own pd',.pure (.tup ps)]):=by
 obtain ⟨pd',out,a1,a2,a3,a4⟩:=zaB (T:=.tup ps) hP ps.length ps [] 1000000 hp rfl (by omega) (by simp; omega) h (by simp)
 refine ⟨pd',out,a1,by simpa using a2,a3,?_⟩
 have key:z1D [some (.own pd),some (.pure (.tup ps)),none,none] = .ok (.ret (.own (.lst out))) [some (.own pd'),some (.pure (.tup ps)),some (.own (.lst [])),none]:=by
  rw [z1D]
  rw [z0g (δ1:=[some (.own pd),some (.pure (.tup ps)),some (.own (.lst ps)),none]) (by rfl)]
  rw [z0g (δ1:=[some (.own pd),some (.pure (.tup ps)),some (.own (.lst ps)),some (.own (.lst []))]) (by rfl)]
  rw [z0g a4]
  rfl
 rw [z16,z5a]
 rw [show z0a 4 [.own pd,.pure (.tup ps)]=[some (.own pd),some (.pure (.tup ps)),none,none] from rfl,key]
 rfl
theorem zdF (ds:List D) (lo hi:Option Int):pSl lo hi (.lst ds)=some (.own (.lst (cutL ds lo hi))):=rfl
abbrev d7s (L pd:D) (a b c d e:Option S):Dl:=[some (.pure L),some (.own pd),a,b,c,d,e]
structure Blk (B:D) (rs:List Tx):Prop where
 eq:B = .tup (rs.map .str)
 l0:0 < rs.length
 l1:rs.length≤4
 r:∀ x ∈ rs,x.length≤4
theorem tsT (xs:List Tx) (h1:xs.length≤100) (h2:∀ x ∈ xs,x.length≤100):TS (.tup (xs.map .str)):=.inl ⟨xs,.inl rfl,h1,h2⟩
theorem sm1 (n:Nat):Sm (.str [n]):=by show 1≤1000; decide
theorem odd1 {L pd pd' x:D} {n k:Nat} {B:D} {rs:List Tx} (hB:Blk B rs) (s2:Option S) (ed:z0f [.own pd,.pure (.int n)]=some (.pure (.int k),[.own pd',.pure (.int n)])) (ln:pLen L=some (.pure (.int n))) (ex:pIx L (.int k)=some (.pure x)) (t:Nat) (hx:PEok x) :
  ∃ O:List D,O.length=5∧(∀ e ∈ O,PEok e)∧(dAsg (eLst (z0b (eOpF pIx 0 (bOf (z08 z0f [.io 1,.val (eC1 pLen (bVar 0))]))) (z0b (eTup (z0b (eD (.str [65])) (z0b (eVar 4) aNil))) (z0b (eTup (z0b (eD (.str [])) (z0b (eVar 4) aNil))) (z0b (eTup (z0b (eVar 3) (z0b (eSlN 4 (z2n (eD (.int 1))) z34) aNil))) (z0b (eTup (z0b (eVar 3) (z0b (eOpF pAdd 4 (bOf (eSlN 4 z34 (z2n (eD (.int 1)))))) aNil))) aNil)))))) (gNm [1] 5))
   (d7s L pd s2 (some (.pure (.str [t]))) (some (.pure B)) none none) = .ok .next (d7s L pd' s2 (some (.pure (.str [t]))) (some (.pure B)) (some (.own (.lst O))) none):=by
 obtain ⟨eB,l0,l1,hr⟩:=hB
 have c1:pSl (some 1) none B=some (.pure (.tup ((cutL rs (some 1) none).map .str))):=by rw [eB,sl_tup,z6d]
 have c2:pSl none (some 1) B=some (.pure (.tup ((cutL rs none (some 1)).map .str))):=by rw [eB,sl_tup,z6d]
 have n1:=z37 rs (some 1) none
 have n2:=z37 rs none (some 1)
 have c3:pAdd B (.tup ((cutL rs none (some 1)).map .str))=some (.pure (.tup ((rs ++ cutL rs none (some 1)).map .str))):=by
  rw [eB,z8M _ _ (by simp; omega),List.map_append]
 refine ⟨[x,.tup [.str [65],B],.tup [.str [],B],.tup [.str [t],.tup ((cutL rs (some 1) none).map .str)],.tup [.str [t],.tup ((rs ++ cutL rs none (some 1)).map .str)]],rfl,fun e he=>?_,?_⟩
 ·have tB:TS B:=by rw [eB]; exact tsT rs (by omega) fun x hx=>by have:=hr x hx; omega
  simp only [Wg,Jb,or_false] at he
  rcases he with rfl | rfl | rfl | rfl | rfl
  ·exact hx
  ·exact PEok.two (sm1 _) rfl tB
  ·exact PEok.two (by show 0≤1000; decide) rfl tB
  ·exact PEok.two (sm1 _) rfl (tsT _ (by omega) fun x hx=>by have:=hr x (z5b hx); omega)
  ·refine PEok.two (sm1 _) rfl (tsT _ (by simp; omega) fun x hx=>?_)
   rcases Q2.mp hx with hx | hx
   ·have:=hr x hx; omega
   ·have:=hr x (z5b hx); omega
 ·clear eB
  generalize D.tup ((cutL rs (some 1) none).map .str)=C1 at *
  generalize D.tup ((cutL rs none (some 1)).map .str)=C2 at *
  generalize D.tup ((rs ++ cutL rs none (some 1)).map .str)=C3 at *
  simp [d7s,dAsg,eLst,eTup,z0b,aNil,z08,ios,ndup,z0H,evX,bVar,ln,mkA,ed,putA,eOpF,eOpN,ex,eVar,eSlN,z2n,z34,c1,c2,c3]
theorem odd2 (hB:Blk B rs) (s2:Option S) (t:Nat) (hO:O.length=5) (hP:∀ e ∈ O,PEok e) :
  ∃ O':List D,O'.length=12∧(∀ e ∈ O',PEok e)∧(dAsg (eOpF pAdd 5 (bOf (eLst (z0b (eTup (z0b (eVar 3) (z0b (eC1 z5f (bVar 4)) aNil))) (z0b (eLst (z0b (eVar 3) (z0b (eVar 4) aNil))) (z0b (eD .non) (z0b (eTup (z0b (eVar 3) aNil)) (z0b (eTup (z0b (eVar 3) (z0b (eVar 4) (z0b (eD (.int 0)) aNil)))) (z0b (eTup (z0b (eVar 3) (z0b (eD .non) aNil))) (z0b (eTup (z0b (eD (.int 5)) (z0b (eVar 4) aNil))) aNil)))))))))) (gNm [1] 5))
   (d7s L pd s2 (some (.pure (.str [t]))) (some (.pure B)) (some (.own (.lst O))) none) = .ok .next (d7s L pd s2 (some (.pure (.str [t]))) (some (.pure B)) (some (.own (.lst O'))) none):=by
 obtain ⟨eB,l0,l1,hr⟩:=hB
 have el:z5f B=some (.own (.lst (rs.map .str))):=by rw [eB]; rfl
 have tB:TS B:=by rw [eB]; exact tsT rs (by omega) fun x hx=>by have:=hr x hx; omega
 have fB:=tB.ok.2
 have tL:TS (.lst (rs.map .str)):=.inl ⟨rs,.inr rfl,by omega,fun x hx=>by have:=hr x hx; omega⟩
 clear eB
 generalize D.lst (rs.map .str)=R at *
 have ea:=z6l O [.tup [.str [t],R],.lst [.str [t],B],.non,.tup [.str [t]],.tup [.str [t],B,.int 0],.tup [.str [t],.non],.tup [.int 5,B]] (by simp; omega)
 refine ⟨O ++ [.tup [.str [t],R],.lst [.str [t],B],.non,.tup [.str [t]],.tup [.str [t],B,.int 0],.tup [.str [t],.non],.tup [.int 5,B]],by simp [hO],fun e he=>?_,?_⟩
 ·rcases Q2.mp he with he | he
  ·exact hP e he
  ·simp only [Wg,Jb,or_false] at he
   rcases he with rfl | rfl | rfl | rfl | rfl | rfl | rfl
   ·exact PEok.two (sm1 _) rfl tL
   ·exact ⟨trivial,by simp [flat,z2I,fB]⟩
   ·exact ⟨trivial,rfl⟩
   ·exact ⟨trivial,rfl⟩
   ·exact ⟨trivial,by simp [flat,z2I,fB]⟩
   ·exact PEok.two (sm1 _) rfl (.inr (.inl rfl))
   ·exact PEok.two trivial rfl tB
 ·generalize D.lst O=Q at *
  simp [d7s,dAsg,eLst,eTup,z0b,aNil,bVar,eOpF,eOpN,eVar,el,ea]
theorem odd3 (hB:Blk B rs) (s2:Option S) (t:Nat) (hO:O.length=12) (hP:∀ e ∈ O,PEok e) :
  ∃ O':List D,O'.length=14∧(∀ e ∈ O',PEok e)∧(dAsg (eOpF pAdd 5 (bOf (eLst (z0b (eTup (z0b (eVar 3) (z0b (eOp pAdd (eTup (z0b (eOp pAdd (eD (.str [57])) (bOf (eSl (eOpF pIx 4 (bOf (eD (.int 0)))) (z2n (eD (.int 1))) z34))) aNil)) (bOf (eSlN 4 (z2n (eD (.int 1))) z34))) aNil))) (z0b (eTup (z0b (eVar 3) (z0b (eOp pAdd (eSlN 4 z34 (z2n (eC1 pNeg (bOf (eD (.int 1)))))) (bOf (eTup (z0b (eOp pAdd (eSl (eOpF pIx 4 (bOf (eC1 pNeg (bOf (eD (.int 1)))))) z34 (z2n (eC1 pNeg (bOf (eD (.int 1)))))) (bOf (eD (.str [113])))) aNil)))) aNil))) aNil))))) (gNm [1] 5))
   (d7s L pd s2 (some (.pure (.str [t]))) (some (.pure B)) (some (.own (.lst O))) none) = .ok .next (d7s L pd s2 (some (.pure (.str [t]))) (some (.pure B)) (some (.own (.lst O'))) none):=by
 obtain ⟨eB,l0,l1,hr⟩:=hB
 have c1:pSl (some 1) none B=some (.pure (.tup ((cutL rs (some 1) none).map .str))):=by rw [eB,sl_tup,z6d]
 have c2:pSl none (some (-1)) B=some (.pure (.tup ((cutL rs none (some (-1))).map .str))):=by rw [eB,sl_tup,z6d]
 have n1:=z37 rs (some 1) none
 have n2:=z37 rs none (some (-1))
 obtain ⟨r0,h0,m0⟩:∃ r0,pIx B (.int 0)=some (.pure (.str r0))∧r0 ∈ rs:=⟨rs[0],by rw [eB]; simp [pIx,z3E,l0],by simp⟩
 obtain ⟨e9,hm9,h9⟩:=zf1 (rs.map D.str) (by simpa using l0)
 obtain ⟨r9,m9,rfl⟩:=Qx.mp hm9
 rw [← eB] at h9
 have k0:=hr r0 m0
 have k9:=hr r9 m9
 have s0:=sl_str r0 (by omega) (some 1) none
 have s9:=sl_str r9 (by omega) none (some (-1))
 have q0:=z37 r0 (some 1) none
 have q9:=z37 r9 none (some (-1))
 have a0:=add_str [57] (cutL r0 (some 1) none) (by simp; omega)
 have a9:=add_str (cutL r9 none (some (-1))) [113] (by simp; omega)
 have b0:pAdd (.tup [.str ([57] ++ cutL r0 (some 1) none)]) (.tup ((cutL rs (some 1) none).map .str))=some (.pure (.tup ((([57] ++ cutL r0 (some 1) none) :: cutL rs (some 1) none).map .str))):=by
  rw [z8M _ _ (by simp; omega)]; rfl
 have b9:pAdd (.tup ((cutL rs none (some (-1))).map .str)) (.tup [.str (cutL r9 none (some (-1)) ++ [113])])=some (.pure (.tup ((cutL rs none (some (-1)) ++ [cutL r9 none (some (-1)) ++ [113]]).map .str))):=by
  rw [z8M _ _ (by simp; omega),List.map_append]; rfl
 have t0:TS (.tup ((([57] ++ cutL r0 (some 1) none) :: cutL rs (some 1) none).map .str)):=tsT _ (by simp; omega) fun x hx=>by
  rcases Wg.mp hx with rfl | hx
  ·simp; omega
  ·have:=hr x (z5b hx); omega
 have t9:TS (.tup ((cutL rs none (some (-1)) ++ [cutL r9 none (some (-1)) ++ [113]]).map .str)):=tsT _ (by simp; omega) fun x hx=>by
  rcases Q2.mp hx with hx | hx
  ·have:=hr x (z5b hx); omega
  ·simp at hx; subst hx; simp; omega
 clear eB n1 n2 q0 q9 hm9
 generalize D.tup ((cutL rs (some 1) none).map .str)=C1 at *
 generalize D.tup ((cutL rs none (some (-1))).map .str)=C2 at *
 generalize D.tup ((([57] ++ cutL r0 (some 1) none) :: cutL rs (some 1) none).map .str)=E0 at *
 generalize D.tup ((cutL rs none (some (-1)) ++ [cutL r9 none (some (-1)) ++ [113]]).map .str)=E9 at *
 generalize D.str (cutL r0 (some 1) none)=S0 at *
 generalize D.str (cutL r9 none (some (-1)))=S9 at *
 generalize D.str ([57] ++ cutL r0 (some 1) none)=T0 at *
 generalize D.str (cutL r9 none (some (-1)) ++ [113])=T9 at *
 have ea:=z6l O [.tup [.str [t],E0],.tup [.str [t],E9]] (by simp; omega)
 refine ⟨O ++ [.tup [.str [t],E0],.tup [.str [t],E9]],by simp [hO],fun e he=>?_,?_⟩
 ·rcases Q2.mp he with he | he
  ·exact hP e he
  ·simp only [Wg,Jb,or_false] at he
   rcases he with rfl | rfl
   ·exact PEok.two (sm1 _) rfl t0
   ·exact PEok.two (sm1 _) rfl t9
 ·generalize D.lst O=Q at *
  simp [d7s,dAsg,eLst,eTup,z0b,aNil,bVar,eOpF,eOpN,eVar,eSlN,eSl,z2n,z34,z8B,c1,c2,h0,h9,s0,s9,a0,a9,b0,b9,ea]
theorem zcE (R:Rul h w bs) (hL:∀ p ∈ L,∃ b ∈ bs,p=blD b) (h0:0 < L.length) (h1:L.length≤26) (hp:Pen pd) :
  ∃ (out:List D) (pd':D),Pen pd'∧out.length < 60∧(∀ p ∈ out,PEok p)∧z1m [.pure (.lst L),.own pd]=some (.own (.lst out),[.pure (.lst L),.own pd']):=by
 have ln:pLen (.lst L)=some (.pure (.int (L.length:Int))):=by rfl
 obtain ⟨sp,d1,e1,hsp,p1⟩:=z5M hp L.length h0 (by omega)
 obtain ⟨k,d2,e2,hk,p2⟩:=z5M p1 L.length h0 (by omega)
 obtain ⟨wy,d3,e3,hwy,p3⟩:=z2H p2 14 14 rfl (by decide) (by decide)
 obtain ⟨c,d4,e4,hc,p4⟩:=z2H p3 2 2 rfl (by decide) (by decide)
 have hE:∀ p ∈ L,PEok p:=fun p hm=>by
  obtain ⟨b,hb,rfl⟩:=hL p hm
  exact PEok.bl R hb
 obtain ⟨b,hb,eb⟩:=hL L[sp] (by simp)
 have x1:pIx (.lst L) (.int sp)=some (.pure (blD b)):=ixl (by simp [hsp,eb])
 have x2:pIx (.lst L) (.int k)=some (.pure L[k]):=ixl (by simp [hk])
 obtain ⟨f1,f2⟩:=TS.fl R hb
 have hB:Blk (flD b.2) b.2:=⟨rfl,by have:=R.blk b hb; have:=R.h0; omega,f1,f2⟩
 obtain ⟨O1,o1,q1,g1⟩:=odd1 (L:=.lst L) hB (some (.pure (.int sp))) e2 ln x2 b.1 (hE _ (by simp))
 obtain ⟨O2,o2,q2,g2⟩:=odd2 (L:=.lst L) (pd:=d2) hB (some (.pure (.int sp))) b.1 o1 q1
 obtain ⟨O3,o3,q3,g3⟩:=odd3 (L:=.lst L) (pd:=d2) hB (some (.pure (.int sp))) b.1 o2 q2
 obtain ⟨od,hod,xo⟩:=zgI O3 wy (by omega)
 have s1:=zdF L none (some (sp:Int))
 have s2:=zdF L (some ((sp:Int) + (c:Int))) none
 have m1:=z37 L none (some (sp:Int))
 have m2:=z37 L (some ((sp:Int) + (c:Int))) none
 have a1:=z6l (cutL L none (some (sp:Int))) [od] (by simp; omega)
 have a2:=z6l (cutL L none (some (sp:Int)) ++ [od]) (cutL L (some ((sp:Int) + (c:Int))) none) (by simp; omega)
 have ai:=add_int sp c
 refine ⟨cutL L none (some (sp:Int)) ++ [od] ++ cutL L (some ((sp:Int) + (c:Int))) none,d4,p4,by simp; omega,fun p hm=>?_,?_⟩
 ·rcases Q2.mp hm with hm | hm
  ·rcases Q2.mp hm with hm | hm
   ·exact hE p (z5b hm)
   ·simp at hm; subst hm; exact q3 _ hod
  ·exact hE p (z5b hm)
 ·have key:z28 (d7s (.lst L) pd none none none none none) = .ok (.ret (.own (.lst (cutL L none (some (sp:Int)) ++ [od] ++ cutL L (some ((sp:Int) + (c:Int))) none)))) (d7s (.lst L) d4 (some (.pure (.int sp))) (some (.pure (.str [b.1]))) (some (.pure (flD b.2))) (some (.own (.lst O3))) (some (.pure (.int wy)))):=by
   rw [z28]
   rw [z0g (δ1:=d7s (.lst L) d1 (some (.pure (.int sp))) none none none none) (by
    generalize D.lst L=M at ln
    simp [d7s,dAsg,z08,ios,ndup,z0H,evX,bVar,ln,mkA,e1,putA])]
   rw [z0g (δ1:=d7s (.lst L) d1 (some (.pure (.int sp))) (some (.pure (.str [b.1]))) (some (.pure (flD b.2))) none none) (by
    generalize D.lst L=M at x1
    simp [d7s,dAsg,eOpF,eOpN,bVar,x1,gTp,z0j,z1d])]
   rw [z0g g1,z0g g2,z0g g3]
   rw [z0g (δ1:=d7s (.lst L) d3 (some (.pure (.int sp))) (some (.pure (.str [b.1]))) (some (.pure (flD b.2))) (some (.own (.lst O3))) (some (.pure (.int wy)))) (by
    simp [d7s,dAsg,z08,ios,ndup,z0H,evX,mkA,e3,putA])]
   clear g1 g2 g3 x1 x2 m1 m2 ln
   generalize D.lst (cutL L none (some (sp:Int)) ++ [od] ++ cutL L (some ((sp:Int) + (c:Int))) none)=X4 at *
   generalize D.lst (cutL L none (some (sp:Int)) ++ [od])=X3 at *
   generalize D.lst (cutL L none (some (sp:Int)))=X1 at *
   generalize D.lst (cutL L (some ((sp:Int) + (c:Int))) none)=X2 at *
   generalize D.lst L=M at *
   generalize D.lst O3=O at *
   simp [d7s,dRet,eSlN,z2n,z34,bVar,eVar,s1,s2,eLst,z0b,aNil,eOpF,eOpN,xo,a1,a2,z08,ios,ndup,z0H,evX,mkA,e4,putA,ai]
  rw [z1m,z5a]
  rw [show z0a 7 [.pure (.lst L),.own pd]=d7s (.lst L) pd none none none none none from rfl,key]
  rfl
abbrev oneL:List D:=[.tup [.str [97],.tup [.str [97,98]]],.tup [.str [98],.tup [.str [98,97]]]]
theorem zgr:∀ p ∈ oneL,SmP p:=fun p hp=>by
 simp only [Wg,Jb,or_false] at hp
 rcases hp with rfl | rfl
 ·exact ⟨by show 1≤1000; decide,by show 1≤1000; decide,fun d hd=>by simp at hd; subst hd; show 2≤1000; decide⟩
 ·exact ⟨by show 1≤1000; decide,by show 1≤1000; decide,fun d hd=>by simp at hd; subst hd; show 2≤1000; decide⟩
theorem z4k (ce:Tx→Nat) (ha:NX a) (hb:NX b) (hp:∀ p ∈ ps,SmP p) (hL:flat 50 (.lst ps)=true) (hn:ps.length < 64):z0x ce [.pure a,.pure b,.pure (.lst ps)]=some (.pure (.bl true),[.pure a,.pure b,.pure (.lst ps)]):=by
 cases hs:szD a b with
 | false=>exact zaR ce ha hb hs hL (by omega)
 | true =>
  obtain ⟨i,j,rfl,rfl⟩:=zfA hs
  exact z9L ce hs hp hL hn
abbrev d9 (scr:D) (a b c d e f g h:Option S):Dl:=[some (.pure scr),a,b,c,d,e,f,g,h]
theorem zcu (ce:Tx→Nat) (scr:D) (ha:NX a) (hb:NX b) (h1:s1 = .own (.lst oneL)∨s1 = .pure (.lst oneL)):sizB ce (d9 scr (some s1) (some (.pure a)) (some (.pure b)) none none none none none) = .ok .next (d9 scr (some (.pure (.lst oneL))) (some (.pure a)) (some (.pure b)) none none none none none):=by
 have e1:=z4k ce ha hb zgr (by decide +kernel) (by decide)
 have e2:=z4k ce ha hb (ps:=[]) (by simp) (by decide +kernel) (by decide)
 generalize D.lst oneL=O at *
 rcases h1 with rfl | rfl
 ·simp [d9,dTr,z08,ios,ndup,evX,eVar,mkA,e1,e2,putA,eLst,aNil]
 ·simp [d9,dTr,z08,ios,ndup,evX,eVar,mkA,e1,e2,putA,eLst,aNil]
abbrev prs:List (D×D):=[(.int 1,.int 2),(.int 1,.int 1),(.int 0,.int 2),(.int 1,.bl true),(.non,.int 2),(.int 5,.int 1),(.int 2,.int 1),(.str [49],.int 2)]
theorem z8U (ce:Tx→Nat) (scr:D):∀ (ps:List (D×D)) (s1:S) (a b:Option S),(∀ p ∈ ps,NX p.1∧NX p.2)→(s1 = .own (.lst oneL)∨s1 = .pure (.lst oneL))→∃ s a' b',forL (gTp 2 (z0j (gNm [] 2) (z0j (gNm [] 3) z1d))) (sizB ce) (ps.map fun p=>D.tup [p.1,p.2]) (d9 scr (some s1) a b none none none none none) = .ok .next (d9 scr (some s) a' b' none none none none none)
 | [],s1,a,b,_,_=>⟨s1,a,b,rfl⟩
 | p :: ps,s1,a,b,hp,h1=>by
  obtain ⟨n1,n2⟩:=hp p (by simp)
  have st:=zcu ce scr n1 n2 h1
  obtain ⟨s,a',b',e⟩:=z8U ce scr ps (.pure (.lst oneL)) (some (.pure p.1)) (some (.pure p.2)) (fun q hq=>hp q (by simp [hq])) (.inr rfl)
  refine ⟨s,a',b',?_⟩
  have un:∀ x,(sizB ce (d9 scr (some s1) (some (.pure p.1)) (some (.pure p.2)) none none none none none)).bind (fun fl δ2=>match fl with
    | .next=>forL (gTp 2 (z0j (gNm [] 2) (z0j (gNm [] 3) z1d))) (sizB ce) (ps.map fun p=>D.tup [p.1,p.2]) δ2
    | .cont=>forL (gTp 2 (z0j (gNm [] 2) (z0j (gNm [] 3) z1d))) (sizB ce) (ps.map fun p=>D.tup [p.1,p.2]) δ2
    | .brk=>.ok .next δ2
    | .ret v=>.ok (.ret v) δ2)=x→forL (gTp 2 (z0j (gNm [] 2) (z0j (gNm [] 3) z1d))) (sizB ce) ((p :: ps).map fun p=>D.tup [p.1,p.2]) (d9 scr (some s1) a b none none none none none)=x:=fun x e=>e
  rw [st] at un
  exact un _ e
theorem zcn (ce:Tx→Nat) (scr:D) (o1 o4 o6:Option S) (R:Rul h w bs) (hL:∀ p ∈ L,∃ b ∈ bs,p=blD b) (h0:0 < L.length) (h1:L.length≤26) (hp:Pen pd) (s8:Option S) :
  ∃ pd',Pen pd'∧trnB ce (d9 scr o1 (some (.pure (.int h))) (some (.pure (.int w))) o4 (some (.own pd)) o6 (some (.pure (.lst L))) s8) = .ok .next (d9 scr o1 (some (.pure (.int h))) (some (.pure (.int w))) o4 (some (.own pd')) o6 (some (.pure (.lst L))) s8):=by
 obtain ⟨out,pd',hp',hl,hE,e⟩:=zcE R hL h0 h1 hp
 have e1:=z4k ce (a:=.int h) (b:=.int w) trivial trivial (ps:=out) (fun p hm=>(hE p hm).1) (z2W fun p hm=>(hE p hm).2) (by omega)
 refine ⟨pd',hp',?_⟩
 generalize D.lst out=O at *
 generalize D.lst L=M at *
 simp [d9,dTr,z08,ios,ndup,z0H,evX,eVar,mkA,e,e1,putA]
theorem zdp (ce:Tx→Nat) (scr:D) (o1 o2 o3 o5 o6 o7 o8:Option S) (c:Int):∃ a b d e f g,celB ce (d9 scr o1 o2 o3 (some (.pure (.int c))) o5 o6 o7 o8) = .ok .next (d9 scr o1 a b (some (.pure (.int c))) d e f g):=by
 obtain ⟨d0,e0,p0⟩:=r_pen c
 obtain ⟨h,w,bs,d1,e1,R,hl,p1⟩:=zaV p0 6 (by decide) (by decide)
 replace e1:z10 [.own d0,.pure (.int 6)]=some (.pure (.tup [.int h,.int w,.tup (bs.map blD)]),[.own d1,.pure (.int 6)]):=e1
 obtain ⟨d2,L,p2,lL,hL,e2⟩:=z9M (P:=fun p=>∃ b ∈ bs,p=blD b) (fun p ⟨b,hb,ep⟩=>by rw [ep]; exact z8F 47 b) p1 (ps:=bs.map blD) (by simp; omega) (fun p hm=>by
  obtain ⟨b,hb,rfl⟩:=Qx.mp hm
  exact ⟨b,hb,rfl⟩)
 have n0:=R.n0
 have lb:L.length=bs.length:=by rw [lL]; simp
 have hE:∀ p ∈ L,PEok p:=fun p hm=>by
  obtain ⟨b,hb,rfl⟩:=hL p hm
  exact PEok.bl R hb
 have e3:=z4k ce (a:=.int h) (b:=.int w) trivial trivial (ps:=L) (fun p hm=>(hE p hm).1) (z2W fun p hm=>(hE p hm).2) (by omega)
 obtain ⟨δ',e4,pd',s8,q5,rfl⟩:=z4H (g:=gNm [] 8) (b:=trnB ce) (fun _ δ=>∃ pd s8,Pen pd∧δ=d9 scr o1 (some (.pure (.int h))) (some (.pure (.int w))) (some (.pure (.int c))) (some (.own pd)) (some (.pure (.tup (bs.map blD)))) (some (.pure (.lst L))) s8) (z0v 0 2) 0
  (d9 scr o1 (some (.pure (.int h))) (some (.pure (.int w))) (some (.pure (.int c))) (some (.own d2)) (some (.pure (.tup (bs.map blD)))) (some (.pure (.lst L))) o8) ⟨d2,o8,p2,rfl⟩ (fun i d δ hi ⟨pd,s8,hp,eδ⟩=>by
   subst eδ
   obtain ⟨pd',hp',e⟩:=zcn ce scr o1 (some (.pure (.int c))) (some (.pure (.tup (bs.map blD)))) R hL (by omega) (by omega) hp (some (.pure d))
   exact ⟨_,_,rfl,e,pd',some (.pure d),hp',rfl⟩)
 refine ⟨some (.pure (.int h)),some (.pure (.int w)),some (.own pd'),some (.pure (.tup (bs.map blD))),some (.pure (.lst L)),s8,?_⟩
 ·unfold celB
  rw [z0g (δ1:=d9 scr o1 o2 o3 (some (.pure (.int c))) (some (.own d0)) o6 o7 o8) (by
   simp [d9,dAsg,z08,ios,ndup,z0H,evX,eVar,mkA,e0,putA])]
  rw [z0g (δ1:=d9 scr o1 (some (.pure (.int h))) (some (.pure (.int w))) (some (.pure (.int c))) (some (.own d1)) (some (.pure (.tup (bs.map blD)))) o7 o8) (by
   clear e2 e4
   generalize D.tup (bs.map blD)=T at *
   simp [d9,dAsg,z08,ios,ndup,z0H,evX,eVar,mkA,e1,putA,gTp,z0j,z1d])]
  rw [z0g (δ1:=d9 scr o1 (some (.pure (.int h))) (some (.pure (.int w))) (some (.pure (.int c))) (some (.own d2)) (some (.pure (.tup (bs.map blD)))) (some (.own (.lst L))) o8) (by
   clear e1 e4
   generalize D.tup (bs.map blD)=T at *
   generalize D.lst L=M at *
   simp [d9,dAsg,z08,ios,ndup,z0H,evX,eVar,mkA,e2,putA])]
  rw [z0g (δ1:=d9 scr o1 (some (.pure (.int h))) (some (.pure (.int w))) (some (.pure (.int c))) (some (.own d2)) (some (.pure (.tup (bs.map blD)))) (some (.pure (.lst L))) o8) (by
   clear e1 e2 e4
   generalize D.tup (bs.map blD)=T at *
   generalize D.lst L=M at *
   simp [d9,dTr,z08,ios,ndup,z0H,evX,eVar,mkA,e3,putA])]
  exact (z3d (by rfl)).trans e4
theorem zev (ce:Tx→Nat) (ns:List Int) (hn:ns.length≤63):zaj ce [.pure (.lst (ns.map .int))]=some (.pure (.bl true),[.pure (.lst (ns.map .int))]):=by
 obtain ⟨c0,e0⟩:=z8t ns
 have hs:pSl (some 1) (some 5) (.lst (ns.map .int))=some (.own (.lst ((cutL ns (some 1) (some 5)).map .int))):=by rw [← zdn]; rfl
 have hc:=z37 ns (some 1) (some 5)
 have ha:pAdd (.lst [.int c0]) (.lst ((cutL ns (some 1) (some 5)).map .int))=some (.own (.lst ((c0 :: cutL ns (some 1) (some 5)).map .int))):=by
  rw [z6l [.int c0] _ (by simp; omega)]; rfl
 obtain ⟨s1,a2,a3,f1⟩:=z8U ce (.lst (ns.map .int)) prs (.own (.lst oneL)) none none (by
  intro p hp
  simp only [Wg,Jb,or_false] at hp
  rcases hp with rfl | rfl | rfl | rfl | rfl | rfl | rfl | rfl <;> exact ⟨trivial,trivial⟩) (.inl rfl)
 obtain ⟨δ',e4,o2,o3,o4,o5,o6,o7,o8,rfl⟩:=z4H (g:=gNm [] 4) (b:=celB ce) (fun _ δ=>∃ a b c d e f g,δ=d9 (.lst (ns.map .int)) (some s1) a b c d e f g) ((c0 :: cutL ns (some 1) (some 5)).map .int) 0
  (d9 (.lst (ns.map .int)) (some s1) a2 a3 none none none none none) ⟨_,_,_,_,_,_,_,rfl⟩ (fun i d δ hi ⟨a,b,c,dd,e,f,g,eδ⟩=>by
   subst eδ
   rw [Qb] at hi
   cases en:(c0 :: cutL ns (some 1) (some 5))[i]? with
   | none=>rw [en] at hi; cases hi
   | some n =>
    rw [en] at hi
    cases hi
    obtain ⟨q2,q3,q5,q6,q7,q8,e⟩:=zdp ce (.lst (ns.map .int)) (some s1) a b dd e f g n
    exact ⟨_,_,rfl,e,_,_,_,_,_,_,_,rfl⟩)
 rw [zaj]
 refine (show gOf [] 9 (zdv ce) [.pure (.lst (ns.map .int))]=_ from zdW (δ1:=d9 (.lst (ns.map .int)) (some s1) o2 o3 o4 o5 o6 o7 o8) ?_)
 rw [zdv]
 rw [z0g (δ1:=d9 (.lst (ns.map .int)) (some (.own (.lst oneL))) none none none none none none none) (by rfl)]
 rw [z0g ((z3d (by rfl)).trans f1)]
 rw [z0g ((z3d (δ1:=d9 (.lst (ns.map .int)) (some s1) a2 a3 none none none none none) (ds:=(c0 :: cutL ns (some 1) (some 5)).map .int) (by
  generalize D.lst (ns.map .int)=M at *
  generalize D.lst ((cutL ns (some 1) (some 5)).map .int)=N at *
  simp [d9,z08,ios,ndup,z0H,evX,eVar,mkA,e0,putA,eSlN,z2n,bVar,hs,ha,z45,eLst,z0b,aNil])).trans e4)]
 rfl
def Gt:DF:=fun ss=>match ss with
 | [.pure (.lst ds)]=>match z6s ds with
  | some ns=>if ns.length≤63 then some (.pure (.bl true),ss) else none
  | none=>none
 | _=>none
theorem r_law (ns:List Int) (h:ns.length≤63):∃ outs,Gt [.pure (.lst (ns.map .int))]=some (.pure (.bl true),outs):=by
 unfold Gt
 simp only [DV.ints_map,h,if_true]
 exact ⟨_,rfl⟩
theorem zbB:∀ {ds:List D} {ns:List Int},z6s ds=some ns→ds=ns.map .int
 | [],ns,h=>by simp [z6s] at h; subst h; rfl
 | d :: r,ns,h=>by
  cases d with
  | int i =>
   simp only [z6s] at h
   cases e:z6s r with
   | none=>rw [e] at h; cases h
   | some m =>
    rw [e] at h
    cases h
    rw [zbB e]
    rfl
  | _=>simp [z6s] at h
theorem law_all:∀ ce ss y,Gt ss=some y→zaj ce ss=some y:=by
 intro ce ss y h
 unfold Gt at h
 split at h
 ·rename_i ds
  cases hi:z6s ds with
  | none=>rw [hi] at h; cases h
  | some ns =>
   rw [hi] at h
   by_cases hn:ns.length≤63
   ·simp only [hn,if_true] at h
    cases h
    have e:=zbB hi
    subst e
    exact zev ce ns hn
   ·simp only [hn,if_false] at h
    cases h
 ·cases h
end K03
open PySem PySem.W PyProof.Rows
namespace PySem.W.Fast
def tw4656262506937266169:=0
def tw9565398140199545717:=0
def tw4741027901715296659:=0
def tw3814357185470793616:=0
def tw11840571677658491427:=0
def tw9060506417456071548:=0
def tw14468439832180913814:=0
def tw6127337498879738701:=0
def tw17095996482376367800:=0
def tw6770644885128283856:=0
def tw18427285386334820320:=0
def tw11822918996265257348:=0
def tw1418826538309159413:=0
def tw4885750618558981475:=0
def tw8004216119149947249:=0
def tw17429444753080183811:=0
def tw8732223121520714803:=0
def tw10224667714664010401:=0
def tw13354138965854345595:=0
def tw2007378455479225376:=0
def tw6721840122008227737:=0
def tw10436867105189104143:=0
def tw6773867323785402072:=0
def tw16480610631069351968:=0
def tw14536181975387404181:=0
def tw12979415072643774580:=0
def tw8781119199911242698:=0
def tw12122808093973381775:=0
def tw12936792564143604205:=0
def tw7468951093246389313:=0
def tw5873442230215551509:=0
end PySem.W.Fast
set_option maxRecDepth 100000 in
set_option maxHeartbeats 0 in
theorem PySem.Challenge.cw_tilegrow_k03_rules_made_holds : PySem.Challenge.rw_tilegrow_k03_rules_made.Holds := by
 w_on; o_law; k_head; (case hw=>w_witness2)
 k_fill
 refine DV.walkD (l:=PySem.Challenge.rw_tilegrow_k03_rules_made) (k:=6) (G:=K03.Gt) rfl rfl ⟨rfl,by decide,by decide⟩ (fun w h Y=>PySem.W.kIn_of Y) ?L K03.r_law ?F
 case L=>intro p; exact Eq.refl true
 case F =>
  intro w mg fa h KX G hmg
  refine' K03.all_mk K03.law_all KX G hmg ?d0 ?d1 ?d2 ?d3 ?d4 ?d5 ?d6 ?d7 ?d8 ?d9 ?d10 ?d11 ?d12 ?d13 ?d14 ?d15 ?d16 ?d17 ?d18 ?d19 ?d20 ?d21 ?d22 ?d23 ?d24 ?d25 ?d26 ?a27 ?l27 ?c27 ?k27 ?z_ValueError ?z_all ?z_any ?z_bool ?z_dict ?z_enumerate ?z_int ?z_isinstance ?z_len ?z_list ?z_max ?z_range ?z_sorted ?z_str ?z_tuple ?g_MOST_SIZE ?g_MOST_TILES ?ac_j ?ac_a ?ac_b ?ac_c ?ac_d ?ac_e ?ac_f ?ac_g ?ac_h ?ac_i ?ia_g ?li_g ?cci_g ?kfi_g ?qi_g ?fni_g ?kci_g ?sai_g ?ovi_g ?hdi_g ?tki_g_number ?qc_j ?spc ?tkc ?ga_g ?gt_g ?cl_g ?mo_g ?mb_g ?ci_g ?kv_g ?no_g_number ?hx_g ?ki_g_a ?ki_g_b ?ki_g_c ?ki_g_d ?ki_g_e ?ki_g_f ?ki_g_g ?ki_g_h ?ki_g_i ?mr_g_j
  (case d0=>exact ⟨_,_,_,_,_,_,_,_,_,_,by k_is,by k_is,by k_is,by k_is⟩); (case d1=>exact ⟨_,_,_,_,_,_,_,_,_,_,by k_is,by k_is,by k_is,by k_is⟩); (case d2=>exact ⟨_,_,_,_,_,_,_,_,_,_,by k_is,by k_is,by k_is,by k_is⟩); (case d3=>exact ⟨_,_,_,_,_,_,_,_,_,_,by k_is,by k_is,by k_is,by k_is⟩); (case d4=>exact ⟨_,_,_,_,_,_,_,_,_,_,by k_is,by k_is,by k_is,by k_is⟩); (case d5=>exact ⟨_,_,_,_,_,_,_,_,_,_,by k_is,by k_is,by k_is,by k_is⟩); (case d6=>exact ⟨_,_,_,_,_,_,_,_,_,_,by k_is,by k_is,by k_is,by k_is⟩); (case d7=>exact ⟨_,_,_,_,_,_,_,_,_,_,by k_is,by k_is,by k_is,by k_is⟩)
  (case d8=>exact ⟨_,_,_,_,_,_,_,_,_,_,by k_is,by k_is,by k_is,by k_is⟩); (case d9=>exact ⟨_,_,_,_,_,_,_,_,_,_,by k_is,by k_is,by k_is,by k_is⟩); (case d10=>exact ⟨_,_,_,_,_,_,_,_,_,_,by k_is,by k_is,by k_is,by k_is⟩); (case d11=>exact ⟨_,_,_,_,_,_,_,_,_,_,by k_is,by k_is,by k_is,by k_is⟩); (case d12=>exact ⟨_,_,_,_,_,_,_,_,_,_,by k_is,by k_is,by k_is,by k_is⟩); (case d13=>exact ⟨_,_,_,_,_,_,_,_,_,_,by k_is,by k_is,by k_is,by k_is⟩); (case d14=>exact ⟨_,_,_,_,_,_,_,_,_,_,by k_is,by k_is,by k_is,by k_is⟩); (case d15=>exact ⟨_,_,_,_,_,_,_,_,_,_,by k_is,by k_is,by k_is,by k_is⟩)
  (case d16=>exact ⟨_,_,_,_,_,_,_,_,_,_,by k_is,by k_is,by k_is,by k_is⟩); (case d17=>exact ⟨_,_,_,_,_,_,_,_,_,_,by k_is,by k_is,by k_is,by k_is⟩); (case d18=>exact ⟨_,_,_,_,_,_,_,_,_,_,by k_is,by k_is,by k_is,by k_is⟩); (case d19=>exact ⟨_,_,_,_,_,_,_,_,_,_,by k_is,by k_is,by k_is,by k_is⟩); (case d20=>exact ⟨_,_,_,_,_,_,_,_,_,_,by k_is,by k_is,by k_is,by k_is⟩); (case d21=>exact ⟨_,_,_,_,_,_,_,_,_,_,by k_is,by k_is,by k_is,by k_is⟩); (case d22=>exact ⟨_,_,_,_,_,_,_,_,_,_,by k_is,by k_is,by k_is,by k_is⟩); (case d23=>exact ⟨_,_,_,_,_,_,_,_,_,_,by k_is,by k_is,by k_is,by k_is⟩)
  (case d24=>exact ⟨_,_,_,_,_,_,_,_,_,_,by k_is,by k_is,by k_is,by k_is⟩); (case d25=>exact ⟨_,_,_,_,_,_,_,_,_,_,by k_is,by k_is,by k_is,by k_is⟩); (case d26=>exact ⟨_,_,_,_,_,_,_,_,_,_,by k_is,by k_is,by k_is,by k_is⟩); (case a27=>k_is); (case l27=>k_is); (case c27=>k_is); (case k27=>k_is); (case z_ValueError=>k_is)
  (case z_all=>k_is); (case z_any=>k_is); (case z_bool=>k_is); (case z_dict=>k_is); (case z_enumerate=>k_is); (case z_int=>k_is); (case z_isinstance=>k_is); (case z_len=>k_is)
  (case z_list=>k_is); (case z_max=>k_is); (case z_range=>k_is); (case z_sorted=>k_is); (case z_str=>k_is); (case z_tuple=>k_is); (case g_MOST_SIZE=>k_is); (case g_MOST_TILES=>k_is)
  (case ac_j=>k_is); (case ac_a=>k_is); (case ac_b=>k_is); (case ac_c=>k_is); (case ac_d=>k_is); (case ac_e=>k_is); (case ac_f=>k_is); (case ac_g=>k_is)
  (case ac_h=>k_is); (case ac_i=>k_is); (case ia_g=>k_is); (case li_g=>k_is); (case cci_g=>k_is); (case kfi_g=>k_is); (case qi_g=>kernel_rfl); (case fni_g=>k_is)
  (case kci_g=>k_is); (case sai_g=>k_is); (case ovi_g=>kernel_rfl); (case hdi_g=>k_is); (case tki_g_number=>k_is); (case qc_j=>kernel_rfl); (case spc=>k_is); (case tkc=>k_is)
  (case ga_g=>k_is); (case gt_g=>k_is); (case cl_g=>k_is); (case mo_g=>k_is); (case mb_g=>k_is); (case ci_g=>k_is); (case kv_g=>kit_is); (case no_g_number=>k_is)
  (case hx_g=>k_is); (case ki_g_a=>kit_is); (case ki_g_b=>kit_is); (case ki_g_c=>kit_is); (case ki_g_d=>kit_is); (case ki_g_e=>kit_is); (case ki_g_f=>kit_is); (case ki_g_g=>kit_is)
  (case ki_g_h=>kit_is); (case ki_g_i=>kit_is); (case mr_g_j=>k_is)
