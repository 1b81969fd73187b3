import PyProof.Rows.All
import Wide.All
import OpenK.AllK
import Wide.FinOn
import Lean
import PyProof.EqAt
import PyProof.EqKinds
import PyProof.TupleCall
import PyProof.NeKinds
import PyProof.StrWalks
import PyProof.ListStr
import PyProof.StrOps2
import PyProof.StrLawsIn
import KE.KDictOf
import PyProof.AttrMissHeap
import PyProof.Draws
import PyProof.EnumMake
import PyProof.Rows.EnumRows
import PyProof.LongRange
import PyProof.NoPylong
import PyProof.SeqI3
import PyProof.Rows.SeqCalls
import PyProof.StrLawsChain
import PyProof.StrCalls2
import KE.KIntText
import PyProof.Rows.CallKwBuiltin
import OpenK.KOwn
import OpenK.KRaise
import PyProof.ExcBaseAll.ValueError
import PyProof.Rows.CatchOwn
import KE.KIsAll
import PyProof.ExcArgsOwn
import PyProof.ExcAttrAll.ValueError
import PyProof.Rows.SeqMore2
import PyProof.ListMulAny
import PyProof.ListMulRoad
import PyProof.ZipIter
import PyProof.Rows.FactsT2
import PyProof.ExcInit
import PyProof.InstStoreFacts
import PyProof.StrCalls
import PyProof.FactsAll.dict_1
import PyProof.FactsAll.subtypes_3
import PyProof.FactsAll.subtypes_4
import PyProof.Dict
import PyProof.MinMaxWalk
import PyProof.WalkInts
import PyProof.WalksMore
import PyProof.FactsAll.tuple_2
import PySem.Challenge.RW_tilegrow_k57_still_floors
open PySem.W renaming Frag→W3,mg_none_of→WI,kia_one→WV,keepIn→Q9,fnOf→Qp,kitOne→Qq,kitOne→Qr,hideAll_none→Qs,hideAll_get→QA,hideAll→QV,cellsFrom_some→QZ,findIn→J3,of_hideAll→Jm,findIn→Jt
open PySem renaming wpAny_bind→W4,Shared→W5,sizeLine→W6,starEach→W7,wpAny_pure→Wc,wpAny→We,Program→Wm,Spec→Wo,mainGlobals→Wp,Around→Wq,World→Ws,mem_of_lookup→Wv,compareOp→Wz,FuncData→WC,wpAny_mono→WJ,backTo→WU,assignEach→Q3,cLine→Q4,bootBuiltins→Q6,wpAny_holding→Q7,wpAny_newObj_type→Qa,wpAny_loadPart_at→Qb,binaryOp→Qc,behindInMarks→Qk,wpAny_truthy_bool→Ql,cellsFrom→Qm,wpAny_loadPart'→Qu,attributeBase→Qz,codeAny→QC,wpAny_Call_Name_kw→QE,wpAny_passesOwn→QF,foldedSetIterable→QJ,wpAny_typeOf→QQ,call_meets→QW,swapsWith→J5,sysModules→J9,getItem→Je,sliceBounds→Jf,keywordEach→Jg,wpAny_execs_nil→Jk,codeAny_mono→Jo,pushCells→Jq,getattributeRaised→Jr,typeIs_str→Ju,typeIs_int→Jv,wpAny_rule→Jw,wpAny_field→JC
open List renaming getElem?_set_ne→W8,range→Wb,replicate→Wd,getElem?_eq_some_iff→Wf,mem_cons_of_mem→Wg,mem_cons_self→Wi,mem_cons→Wj,size_toArray→Wl,getElem?_set_self→Wr,map_cons→Ww,getElem?_eq_getElem→WA,mem_of_getElem?→WB,mem_map→WE,getElem?_set→WF,mem_append_right→WK,mem_map_of_mem→WM,length_cons→WN,append_nil→WP,getElem?_map→WR,replicate_succ→WX,map_congr_left→WY,getElem?_eq_none→WZ,nil_append→Q0,length_append→Q2,lookup_cons→Q5,length_map→Qd,range_succ→Qf,map_map→Qg,all_eq_true→Qh,foldl_cons→Qn,mem_append→Qt,length_set→Qv,find?_cons→Qw,mem_of_mem_take→Qx,getElem_mem→QD,nodup_cons→QG,any_cons→QI,flatten_cons→QK,getElem?_append_left→QL,length_take→QP,filterMap_cons→QS,getElem?_cons_zero→QT,mem_append_left→Ja,not_mem_nil→Jb,all_cons→Jc,length→Jd,length_reverse→Ji,mem_filter→Jj,map_append→Jl,mem_filterMap→Jn,contains_cons→Js,any_eq_false→Jy,length_range→Jz,take_add_one→JB,filter_cons→JE,of_mem_zip→JG
open Option.some renaming injEq→W9,inj→Wx
open PySem.Heap renaming get?_push_of_some→Wa,lt_size→Wn,get?_push_size→Wu
open Nat renaming le_refl→Wh,lt_of_lt_of_le→Wt,zero_add→Wy,le_trans→WG,ne_of_lt→WT,mul_comm→Q8,pow_succ→Qi,lt_irrefl→Qj,pow_le_pow_right→Qy,zero_le→QM,add_comm→QR,le_mul_of_pos_right→QU,div_add_mod→QY,succ_mul→J1,pow_zero→J4,pow_pos→Jh,mul_le_mul→Jx,div_one→JD,div_eq_of_lt→JF,sub_zero→JH,mod_lt→JI
open Bool renaming and_eq_true→Wk,false_ne_true→Q1,and_false→QN,not_eq_true'→JA
open Option renaming bind_some→WD,map_some→WL,isSome_iff_exists→QO,map_eq_some_iff→J0
open PySem.Builtin.Str renaming strSliceIndices→WH
open PySem.Builtin.Slice renaming slicePlaces→WO,sliceAdjust→Qe,sliceApplied→QH
open PySem.Builtin.Tuple renaming tupleExact→WQ
open PyProof.Rows renaming slot_tuple_getitem→WS,envOfC→Qo
open Int renaming natCast_mul→QX
open LawfulBEq renaming eq_of_beq→Jp
set_option Elab.async false
set_option linter.all false
set_option maxRecDepth 100000
namespace L2
open PySem PySem.Spec PyProof.Rows
abbrev Key:=Sum Int Str
def zad:Key→Value→Bool
 | .inl k,v=>Value.isInt k v
 | .inr x,v=>Value.isStrOf x v
def keyH (w:Ws):Key→Int
 | .inl k=>hashInt k
 | .inr x=>hashStr w x
theorem z1c:∀ {k:Key} {v:Value},zad k v=true→(∃ i t,k=Sum.inl i∧v=Value.int i t)∨(∃ x t,k=Sum.inr x∧v=Value.str x t)
 | .inl i,v,h=>by
  obtain ⟨t,e⟩:=Value.isInt_shape (k:=i) (v:=v) h
  exact .inl ⟨i,t,rfl,e⟩
 | .inr x,v,h=>by
  obtain ⟨t,e⟩:=Value.isStrOf_shape (x:=x) (v:=v) h
  exact .inr ⟨x,t,rfl,e⟩
theorem zby (i:Int) (t:Tok):zad (.inl i) (.int i t)=true:=by simp [zad,Value.isInt]
theorem zbx (x:Str) (t:Tok):zad (.inr x) (.str x t)=true:=by simp [zad,Value.isStrOf]
theorem zgg (a b:Int):decide ((Sum.inl a:Key)=Sum.inl b)=(a == b):=by
 by_cases e:a=b
 ·subst e; simp
 ·have h:¬ (Sum.inl a:Key)=Sum.inl b:=fun q=>e (Sum.inl.inj q)
  rw [decide_eq_false h]
  exact (beq_eq_false_iff_ne.mpr e).symm
theorem zgd (a b:Str):decide ((Sum.inr a:Key)=Sum.inr b)=decide (a=b):=by
 by_cases e:a=b
 ·subst e; simp
 ·have h:¬ (Sum.inr a:Key)=Sum.inr b:=fun q=>e (Sum.inr.inj q)
  rw [decide_eq_false h,decide_eq_false e]
theorem zgf (a:Int) (b:Str):decide ((Sum.inl a:Key)=Sum.inr b)=false:=decide_eq_false (fun q=>nomatch q)
theorem zge (a:Str) (b:Int):decide ((Sum.inr a:Key)=Sum.inl b)=false:=decide_eq_false (fun q=>nomatch q)
def z2b (prog:Wm) (w:Ws):PySem.KeyKind prog w Key where
 is:=zad
 hash:=keyH w
 inj:=fun v a b ha hb=>by
  rcases z1c ha with ⟨i,t,rfl,rfl⟩ | ⟨x,t,rfl,rfl⟩
  ·rcases z1c hb with ⟨j,u,rfl,e⟩ | ⟨y,u,rfl,e⟩
   ·injection e with e1 _; rw [e1]
   ·exact nomatch e
  ·rcases z1c hb with ⟨j,u,rfl,e⟩ | ⟨y,u,rfl,e⟩
   ·exact nomatch e
   ·injection e with e1 _; rw [e1]
 byValue:=fun k v h=>by
  rcases z1c h with ⟨i,t,rfl,rfl⟩ | ⟨x,t,rfl,rfl⟩ <;> rfl
 pyHash:=fun hv h=>by
  rcases z1c hv with ⟨i,t,rfl,rfl⟩ | ⟨x,t,rfl,rfl⟩
  ·exact wpAny_pyHash_int h
  ·exact wpAny_pyHash_str h
 eqBool:=fun hu hv h=>by
  rcases z1c hu with ⟨i,t,rfl,rfl⟩ | ⟨x,t,rfl,rfl⟩
  ·rcases z1c hv with ⟨j,u,rfl,rfl⟩ | ⟨y,u,rfl,rfl⟩
   ·rw [zgg] at h; exact wpAny_eqBool_int h
   ·rw [zgf] at h; exact SeqAt.EqAt.int_str i t y u _ _ _ _ h
  ·rcases z1c hv with ⟨j,u,rfl,rfl⟩ | ⟨y,u,rfl,rfl⟩
   ·rw [zge] at h; exact SeqAt.EqAt.str_int x t j u _ _ _ _ h
   ·rw [zgd] at h; exact wpAny_eqBool_str h
 «strs»:=fun k x t v h=>by
  rcases z1c h with ⟨i,u,rfl,e⟩ | ⟨y,u,rfl,e⟩
  ·exact nomatch e
  ·injection e with e1 _
   subst e1
   cases v <;> rfl
theorem z8I (prog:Wm) (w:Ws) (i:Int) (t:Tok):(z2b prog w).is (.inl i) (.int i t)=true:=zby i t
theorem z8H (prog:Wm) (w:Ws) (x:Str) (t:Tok):(z2b prog w).is (.inr x) (.str x t)=true:=zbx x t
inductive V where
 | non | bl (b:Bool) | int (i:Int) | str (x:Str) | byt (b:Array UInt8) | flt (b:UInt64) | ref (a:Addr) | ty (n:String)
 deriving DecidableEq
def RelV:V→Value→Prop
 | .non,u=>u=Value.none
 | .bl b,u=>u=Value.bool b
 | .int i,u=>∃ t,u=Value.int i t
 | .str x,u=>∃ t,u=Value.str x t
 | .byt b,u=>∃ t,u=Value.bytes b t
 | .flt b,u=>∃ t,u=Value.float b t
 | .ref a,u=>u=Value.ref a
 | .ty n,u=>u=Value.type n
abbrev Vals:List V→List Value→Prop:=Paired RelV
theorem Vals.length (r:Vals xs us):xs.length=us.length:=Paired.length r
theorem Vals.get:∀ {xs:List V} {us:List Value} {i:Nat} {x:V},Vals xs us→xs[i]? = some x→∃ u,us[i]? = some u∧RelV x u
 | _,_,_,_,.nil,e=>by simp at e
 | _,_,0,_,.cons r _,e=>by simp at e; subst e; exact ⟨_,rfl,r⟩
 | _,_,i + 1,x,.cons _ t,e=>by
  obtain ⟨u,h1,h2⟩:=Vals.get (i:=i) (x:=x) t (by simpa using e)
  exact ⟨u,by simpa using h1,h2⟩
theorem Vals.set (r:RelV x u):∀ {xs:List V} {us:List Value} (i:Nat),Vals xs us→Vals (xs.set i x) (us.set i u)
 | _,_,_,.nil=>.nil
 | _,_,0,.cons _ t=>.cons r t
 | _,_,i + 1,.cons q t=>.cons q (Vals.set r i t)
theorem Vals.append:∀ {xs ys:List V} {us ws:List Value},Vals xs us→Vals ys ws→Vals (xs ++ ys) (us ++ ws)
 | _,_,_,_,.nil,s=>s
 | _,_,_,_,.cons r t,s=>.cons r (Vals.append t s)
theorem Vals.take:∀ {xs:List V} {us:List Value} (n:Nat),Vals xs us→Vals (xs.take n) (us.take n)
 | _,_,0,_=>.nil
 | _,_,_ + 1,.nil=>.nil
 | _,_,n + 1,.cons r t=>.cons r (Vals.take n t)
theorem Vals.drop:∀ {xs:List V} {us:List Value} (n:Nat),Vals xs us→Vals (xs.drop n) (us.drop n)
 | _,_,0,r=>r
 | _,_,_ + 1,.nil=>.nil
 | _,_,n + 1,.cons _ t=>Vals.drop n t
def RelO:Option V→Option Value→Prop
 | some v,some u=>RelV v u
 | none,none=>True
 | _,_=>False
def KV {κ:Type}:List (κ×V)→List (κ×Value)→Prop:=Paired fun (p:κ×V) (q:κ×Value)=>p.1=q.1∧RelV p.2 q.2
def kV:Key→V
 | .inl i=>.int i
 | .inr x=>.str x
inductive HO where
  | lst (xs:List V)
  | tup (xs:List V)
  | dK (kvs:List (Key×V)) | dT (kvs:List (List Key×V))
  | set (S:Int→Bool) (n:Nat)
  | ins (C dx:Addr) (fs:List (Str×V))
  | own (x:Addr)
  | xd (fs:List (Str×V))
  | met (f x:Addr)
  | rng (lo hi:Int)
  | frz (o:Obj) (u:HO)
  | tbl (ps:Array Value)
  | ext (φ:Heap→Prop)
abbrev Hp:=Addr→Option HO
def upd (H:Hp) (a:Addr) (o:HO):Hp:=fun b=>if b=a then some o else H b
theorem z0D:upd H a o a=some o:=by unfold upd; rw [if_pos rfl]
theorem z0x (h:b≠a):upd H a o b=H b:=by unfold upd; rw [if_neg h]
theorem zdL:upd (upd H a o) a u=upd H a u:=by
 funext b; unfold upd; split <;> rfl
theorem z0R {H:Hp} {a b:Addr} {o:HO} (h:H a=some o) (h':H b=none):a≠b:=by
 intro e; subst e; rw [h] at h'; cases h'
def IsTupN (h:Heap) (a:Addr) (its:Array Value):Prop:=∃ n,h.get? a=some { cls:=.type "tuple",dict:=none,data:=.seq its n,slots:=#[] }
theorem IsTupN.tup (x:IsTupN h a its):IsTup h a its:=let ⟨n,e⟩:=x; ⟨_,e,rfl,n,rfl⟩
theorem IsTupN.new (h:Heap) (its:Array Value):IsTupN (h.push { cls:=.type "tuple",data:=.seq its }) h.objs.size its:=⟨_,Wu _ rfl⟩
theorem IsTupN.lt (x:IsTupN h a its):a < h.objs.size:=let ⟨_,e⟩:=x; Wn e
section
variable (P:Wm) (w:Ws)
def ObjOk (H:Hp) (h:Heap) (a:Addr):HO→Prop
 | .lst xs=>xs.length≤W6∧∃ (its:List Value) (n:Nat),Vals xs its∧h.get? a=some { cls:=.type "list",data:=.seq its.toArray n }
 | .tup xs=>xs.length≤W6∧∃ its:List Value,Vals xs its∧IsTupN h a its.toArray
 | .dK kvs=>kvs.length≤W6∧(a == J9)=false∧∃ vs,KV kvs vs∧h.DictOf (z2b P w) a vs
 | .dT kvs=>kvs.length≤W6∧(a == J9)=false∧∃ xs:List (List Key×Addr×Value),
   Paired (fun (p:List Key×V) (q:List Key×Addr×Value)=>p.1=q.1∧H q.2.1=some (.tup (p.1.map kV))∧RelV p.2 q.2.2) kvs xs ∧
   ∃ o es ep,h.get? a=some o∧o.ExactDict∧o.data = .dict es ep∧es.toList=xs.map (entryOfKey (tupleKind (z2b P w)))∧(xs.map (·.1)).Nodup
 | .set S n=>h.SetOf (intKind P w) a S n
 | .ins C dx fs=>H dx=some (.own a)∧fs.length≤1000∧dx≠a∧h.get? a=some (PySem.W.instObj C dx) ∧
   ∃ mA,h.Ns1 dx mA∧(∀ f,RelO (fs.lookup f) (mA f))∧PySem.Within mA (fs.map (·.1))
 | .own _=>∃ o,h.get? a=some o
 | .xd fs=>∃ mA,h.Ns1 a mA∧∀ f,RelO (fs.lookup f) (mA f)
 | .rng lo hi=>∃ t u v,h.get? a=some { cls:=.type "range",data:=.fields #[.int lo t,.int hi u,.int 1 v] }
 | .frz o u=>h.get? a=some o∧ObjOk H h a u
 | .tbl ps=>h.get? a=some { cls:=.none,data:=.fields ps }
 | .met f x=>h.get? a=some (PySem.W.methodObj (.ref f) (.ref x))
 | .ext φ=>φ h∧(∃ o,h.get? a=some o)∧∀ h1 h2:Heap,φ h1→(∀ o,h1.get? a=some o→h2.get? a=some o)→φ h2
def HOk (H:Hp) (h:Heap):Prop:=∀ a o,H a=some o→ObjOk P w H h a o
end
section
variable {P:Wm} {w:Ws} {H H':Hp} {h h':Heap} {a:Addr} {o:HO}
theorem ObjOk.lt (x:ObjOk P w H h a o):a < h.objs.size:=by
 cases o with
 | lst xs=>obtain ⟨_,_,_,_,e⟩:=x; exact Wn e
 | tup xs=>obtain ⟨_,_,_,p⟩:=x; exact p.lt
 | dK kvs=>obtain ⟨_,_,_,_,o,_,_,e,_⟩:=x; exact Wn e
 | dT kvs=>obtain ⟨_,_,_,_,o,_,_,e,_⟩:=x; exact Wn e
 | set S n=>obtain ⟨o,_,_,_,e,_⟩:=x; exact Wn e
 | ins C dx fs=>obtain ⟨_,_,_,e,_⟩:=x; exact Wn e
 | own y=>obtain ⟨_,e⟩:=x; exact Wn e
 | xd fs=>obtain ⟨_,⟨_,_,_,e,_⟩,_⟩:=x; exact Wn e
 | rng lo hi=>obtain ⟨_,_,_,e⟩:=x; exact Wn e
 | frz ob u=>obtain ⟨e,_⟩:=x; exact Wn e
 | tbl ps=>exact Wn (show h.get? a=some _ from x)
 | met f y=>exact Wn (show h.get? a=some _ from x)
 | ext φ=>obtain ⟨_,⟨_,e⟩,_⟩:=x; exact Wn e
theorem Paired.mapP:∀ {l₁:List α} {l₂:List β},Paired F l₁ l₂→(∀ a b,F a b→G a b)→Paired G l₁ l₂
 | _,_,.nil,_=>.nil
 | _,_,.cons r t,f=>.cons (f _ _ r) (Paired.mapP t f)
theorem ObjOk.stay (x:ObjOk P w H h a o) (k:∀ b u,(b=a∨H b=some (.own a))→h.get? b=some u→h'.get? b=some u)
  (ho:∀ b,H b=some (.own a)→H' b=some (.own a)) (ht:∀ b xs,H b=some (.tup xs)→H' b=some (.tup xs)):ObjOk P w H' h' a o:=by
 induction o with
 | lst xs=>obtain ⟨z,its,n,r,e⟩:=x; exact ⟨z,its,n,r,k _ _ (.inl rfl) e⟩
 | tup xs=>obtain ⟨z,its,r,n,e⟩:=x; exact ⟨z,its,r,n,k _ _ (.inl rfl) e⟩
 | dK kvs=>obtain ⟨z,y,vs,r,ob,es,ep,e,c⟩:=x; exact ⟨z,y,vs,r,ob,es,ep,k _ _ (.inl rfl) e,c⟩
 | dT kvs =>
  obtain ⟨z,y,xs,r,ob,es,ep,e,c⟩:=x
  exact ⟨z,y,xs,Paired.mapP r fun p q z=>⟨z.1,ht _ _ z.2.1,z.2.2⟩,ob,es,ep,k _ _ (.inl rfl) e,c⟩
 | set S n=>obtain ⟨ob,es,ep,t,e,c⟩:=x; exact ⟨ob,es,ep,t,k _ _ (.inl rfl) e,c⟩
 | ins C dx fs =>
  obtain ⟨d,z,ne,e,mA,⟨od,es,ep,e2,c⟩,r⟩:=x
  exact ⟨ho _ d,z,ne,k _ _ (.inl rfl) e,mA,⟨od,es,ep,k _ _ (.inr d) e2,c⟩,r⟩
 | own y=>obtain ⟨ob,e⟩:=x; exact ⟨ob,k _ _ (.inl rfl) e⟩
 | xd fs=>obtain ⟨mA,⟨od,es,ep,e,c⟩,r⟩:=x; exact ⟨mA,⟨od,es,ep,k _ _ (.inl rfl) e,c⟩,r⟩
 | rng lo hi=>obtain ⟨t,u,v,e⟩:=x; exact ⟨t,u,v,k _ _ (.inl rfl) e⟩
 | frz ob u ih=>obtain ⟨e,q⟩:=x; exact ⟨k _ _ (.inl rfl) e,ih q⟩
 | tbl ps =>
  have e:h.get? a=some { cls:=.none,data:=.fields ps }:=x
  show h'.get? a=some { cls:=.none,data:=.fields ps }
  exact k a _ (.inl rfl) e
 | met f y =>
  have e:h.get? a=some (PySem.W.methodObj (.ref f) (.ref y)):=x
  show h'.get? a=some (PySem.W.methodObj (.ref f) (.ref y))
  exact k a _ (.inl rfl) e
 | ext φ=>obtain ⟨p,⟨o,e⟩,st⟩:=x; exact ⟨st _ _ p fun o q=>k _ _ (.inl rfl) q,⟨o,k _ _ (.inl rfl) e⟩,st⟩
theorem HOk.lt (x:HOk P w H h) (e:H a=some o):a < h.objs.size:=(x a o e).lt
theorem HOk.fresh (x:HOk P w H h) (e:h.objs.size≤a):H a=none:=by
 cases q:H a with
 | none=>rfl
 | some u=>exact absurd (Wt (x.lt q) e) (Qj _)
theorem HOk.kept (x:HOk P w H h) (k:∀ b u,h.get? b=some u→h'.get? b=some u):HOk P w H h':=fun a o e =>
 (x a o e).stay (fun b u _ q=>k b u q) (fun _ q=>q) fun _ _ q=>q
theorem HOk.laid (x:HOk P w H h) (k:∀ b u,h.get? b=some u→h'.get? b=some u) (hp:h.objs.size≤a) (new:ObjOk P w (upd H a o) h' a o):HOk P w (upd H a o) h':=fun b u e=>by
 have hn:=x.fresh hp
 by_cases hb:b=a
 ·subst hb; rw [z0D] at e; cases e; exact new
 ·rw [z0x hb] at e
  exact (x b u e).stay (fun c v _ q=>k c v q) (fun c q=>by rw [z0x (z0R q hn)]; exact q) fun c xs q=>by rw [z0x (z0R q hn)]; exact q
end
def Rd (H:Hp) (a:Addr) (u:HO):Prop:=H a=some u∨∃ o,H a=some (.frz o u)
theorem Rd.of (h:H a=some u):Rd H a u:=.inl h
theorem Rd.ok (r:Rd H a u) (x:HOk P w H h):ObjOk P w H h a u:=by
 rcases r with r | ⟨o,r⟩
 ·exact x a u r
 ·obtain ⟨_,q⟩:=x a _ r
  exact q
def Mut:Option HO→Prop
 | some (.lst _)=>True
 | some (.dK _)=>True
 | some (.dT _)=>True
 | some (.set _ _)=>True
 | some (.ins _ _ _)=>True
 | some (.ext _)=>True
 | _=>False
section
variable {P:Wm} {w:Ws} {H:Hp} {h h':Heap} {x e:Addr} {o':HO}
theorem HOk.write (ok:HOk P w H h) (mu:Mut (H x)) (he:e=x∨H e=some (.own x)) (k:∀ b u,b≠e→h.get? b=some u→h'.get? b=some u) (heo:∃ u,h'.get? e=some u)
  (new:ObjOk P w (upd H x o') h' x o'):HOk P w (upd H x o') h':=fun b u q=>by
 have nown:∀ c y,H c=some (.own y)→c≠x:=fun c y r z=>by subst z; rw [r] at mu; exact mu
 have ntup:∀ c xs,H c=some (.tup xs)→c≠x:=fun c xs r z=>by subst z; rw [r] at mu; exact mu
 by_cases hb:b=x
 ·subst hb; rw [z0D] at q; cases q; exact new
 ·rw [z0x hb] at q
  by_cases hbe:b=e
  ·have q':H b=some (.own x):=by
    rcases he with z | z
    ·exact absurd (hbe.trans z) hb
    ·rw [hbe]; exact z
   rw [q] at q'; cases q'
   obtain ⟨v,hv⟩:=heo
   exact ⟨v,by rw [hbe]; exact hv⟩
  ·refine (ok b u q).stay (fun c v hc r=>k c v ?_ r) (fun c r=>by rw [z0x (nown c b r)]; exact r) fun c xs r=>by rw [z0x (ntup c xs r)]; exact r
   rcases hc with rfl | hc
   ·exact hbe
   ·rintro rfl
    rcases he with z | z
    ·exact nown c b hc z
    ·rw [hc] at z; cases z; exact hb rfl
end
structure Un (fs ex:List Addr) (H H':Hp) (h h':Heap):Prop where
 keep:∀ b o,h.get? b=some o→H b=none→b ∉ fs→b ∉ ex→h'.get? b=some o
 slot:∀ b o,h.get? b=some o→H b=none→b ∈ fs→b ∉ ex→∃ sl,h'.get? b=some { o with slots:=sl }
 free:∀ b o,h.get? b=some o→H b=none→b ∉ ex→H' b=none
 there:∀ b o,h.get? b=some o→b ∉ ex→∃ o',h'.get? b=some o'
 tups:∀ b xs,H b=some (.tup xs)→H' b=some (.tup xs)
 frzs:∀ b o u,H b=some (.frz o u)→H' b=some (.frz o u)
 tbls:∀ b ps,H b=some (.tbl ps)→∃ more,H' b=some (.tbl (ps ++ more))
section
variable {fs fs' ex ex':List Addr} {H H1 H2:Hp} {h h1 h2 h':Heap} {a x e:Addr} {o:HO}
theorem Un.any (u:Un fs ex H H1 h h1) (q:h.get? b=some ob) (n:H b=none) (hx:b ∉ ex):∃ sl,h1.get? b=some { ob with slots:=sl }:=by
 by_cases hb:b ∈ fs
 ·exact u.slot b ob q n hb hx
 ·exact ⟨ob.slots,u.keep b ob q n hb hx⟩
theorem Un.trans (a:Un fs ex H H1 h h1) (b:Un fs ex H1 H2 h1 h2):Un fs ex H H2 h h2 where
 keep:=fun c ob q n hc hx=>b.keep c ob (a.keep c ob q n hc hx) (a.free c ob q n hx) hc hx
 slot:=fun c ob q n hc hx=>by
  obtain ⟨sl,e1⟩:=a.slot c ob q n hc hx
  obtain ⟨sl',e2⟩:=b.slot c _ e1 (a.free c ob q n hx) hc hx
  exact ⟨sl',e2⟩
 free:=fun c ob q n hx=>by
  obtain ⟨o',e1⟩:=a.there c ob q hx
  exact b.free c o' e1 (a.free c ob q n hx) hx
 there:=fun c ob q hx=>by
  obtain ⟨o',e1⟩:=a.there c ob q hx
  exact b.there c o' e1 hx
 tups:=fun c xs q=>b.tups c xs (a.tups c xs q)
 frzs:=fun c ob xs q=>b.frzs c ob xs (a.frzs c ob xs q)
 tbls:=fun c ps q=>by
  obtain ⟨m1,e1⟩:=a.tbls c ps q
  obtain ⟨m2,e2⟩:=b.tbls c _ e1
  exact ⟨m1 ++ m2,by rw [e2,Array.append_assoc]⟩
theorem Un.kept (k:∀ b u,h.get? b=some u→h'.get? b=some u):Un fs ex H H h h' :=
 ⟨fun b ob q _ _ _=>k b ob q,fun b ob q _ _ _=>⟨ob.slots,k b ob q⟩,fun _ _ _ n _=>n,fun b ob q _=>⟨ob,k b ob q⟩,fun _ _ q=>q,fun _ _ _ q=>q,fun _ ps q=>⟨#[],by rw [q]; simp⟩⟩
theorem Un.refl:Un fs ex H H h h:=Un.kept fun _ _ q=>q
theorem Un.laid (k:∀ b u,h.get? b=some u→h'.get? b=some u) (hp:h.objs.size≤a) (hn:H a=none):Un fs ex H (upd H a o) h h' where
 keep:=fun b u q _ _ _=>k b u q
 slot:=fun b u q _ _ _=>⟨u.slots,k b u q⟩
 free:=fun b u q n _=>by rw [z0x (WT (Wt (Wn q) hp))]; exact n
 there:=fun b u q _=>⟨u,k b u q⟩
 tups:=fun b xs q=>by rw [z0x (z0R q hn)]; exact q
 frzs:=fun b u xs q=>by rw [z0x (z0R q hn)]; exact q
 tbls:=fun b ps q=>⟨#[],by rw [z0x (z0R q hn),q]; simp⟩
theorem Un.write (mu:Mut (H x)) (he:e=x∨H e=some (.own x)) (k:∀ b u,b≠e→h.get? b=some u→h'.get? b=some u) (heo:∃ u,h'.get? e=some u):Un fs ex H (upd H x o) h h':=by
 have hx:∀ b,H b=none→b≠x:=fun b n z=>by subst z; rw [n] at mu; exact mu
 have hb:∀ b,H b=none→b≠e:=fun b n z=>by
  subst z
  rcases he with r | r
  ·exact hx b n r
  ·rw [n] at r; cases r
 have hm:∀ b u,H b=some u→¬ Mut (some u)→b≠x:=fun b u q nm z=>by subst z; rw [q] at mu; exact nm mu
 refine ⟨fun b u q n _ _=>k b u (hb b n) q,fun b u q n _ _=>⟨u.slots,k b u (hb b n) q⟩,fun b u q n _=>by rw [z0x (hx b n)]; exact n,fun b u q _=>?_,
  fun b xs q=>by rw [z0x (hm b _ q fun z=>z)]; exact q,fun b u xs q=>by rw [z0x (hm b _ q fun z=>z)]; exact q,fun b ps q=>⟨#[],by rw [z0x (hm b _ q fun z=>z),q]; simp⟩⟩
 by_cases hbe:b=e
 ·subst hbe; exact heo
 ·exact ⟨u,k b u hbe q⟩
theorem Un.mono (u:Un fs ex H H1 h h1) (hs:∀ b ∈ fs,b ∈ fs') (hx:∀ b ∈ ex,b ∈ ex'):Un fs' ex' H H1 h h1 :=
 ⟨fun b ob q n hb he=>u.keep b ob q n (fun z=>hb (hs b z)) fun z=>he (hx b z),fun _ _ q n _ he=>u.any q n fun z=>he (hx _ z),fun b ob q n he=>u.free b ob q n fun z=>he (hx b z),fun b ob q he=>u.there b ob q fun z=>he (hx b z),u.tups,u.frzs,u.tbls⟩
end
def trk (h:Heap) (H:Hp):List Addr:=(Wb h.objs.size).filter fun a=>(H a).isSome
def hidT (h:Heap) (H:Hp):Heap:=QV h (trk h H)
theorem zbF (h:Heap) (H:Hp):(hidT h H).objs.size=h.objs.size:=PySem.W.hideAll_size _ _
theorem zd3 (e:h.get? b=some o) (n:H b=none):(hidT h H).get? b=some o :=
 QA _ e fun hm=>by
  have q:(H b).isSome=true:=(Jj.mp hm).2
  rw [n] at q; simp at q
theorem zet (e:(hidT h H).get? b=some o):h.get? b=some o∧H b=none:=by
 have e':h.get? b=some o:=Jm (trk h H) e
 refine ⟨e',?_⟩
 cases q:H b with
 | none=>rfl
 | some x =>
  have hm:b ∈ trk h H:=List.mem_filter.mpr ⟨List.mem_range.mpr (Wn e'),by simp [q]⟩
  have z:(hidT h H).get? b=none:=Qs (trk h H) hm
  rw [z] at e; cases e
def zf2 (g h:Heap) (L:Addr):List (Addr×Obj):=(Wb h.objs.size).filterMap fun a=>if a=L∨(g.get? a).isSome=true then none else (h.get? a).map fun o=>(a,o)
def rest (g h:Heap) (L d:Addr):List (Addr×Obj):=(zf2 g h L).filter fun p=>decide (p.1≠d)
structure Mod (K:W3) (mg:Str→Option Value) (base:Heap):Prop where
 kin:K.In base
 glob:base.Ns Wp mg
 blt:∃ mb,base.Ns builtinsNs mb∧∀ x:Str,x≠"__name__"→mb x=Q6 x
 nolimit:base.NoLimit
structure Cx where
 prog:Wm
 w:Ws
 K:W3
 mg:Str→Option Value
 base:Heap
 A:Wq
 N:List Str
 s₀:W5
 H₀:Hp
 env:Env
 outer:List Env
 stack:List Env
 ex:List Addr
 fn:Str→Bool
 calm:Bool
 pn:List (Addr×Obj)
 xe:Value→W5→Prop
def frs (l:List Env):List Addr:=l.filterMap (·.frame)
abbrev Cx.fs (X:Cx):List Addr:=frs X.outer
def Vis (sc:Scope) (x:Str):Prop:=sc.names.lookup x=some .local∨sc.names.lookup x=some .cell∨sc.names.lookup x=some .free
def Loc (sc:Scope) (x:Str):Prop:=sc.names.lookup x=some .local∨sc.names.lookup x=some .cell
def Look (env:Env) (h:Heap) (m:Str→Option Value) (x:Str) (u:Value):Prop :=
 (env.kindOf x=some .local∧m x=some u)∨((env.kindOf x=some .cell∨env.kindOf x=some .free)∧∃ c,env.cells.lookup x=some c∧h.IsCell c (some u))
structure Cx.Ok (X:Cx):Prop where
 mod:Mod X.K X.mg X.base
 kind:X.env.scope.kind = .function
 glob:X.env.globals=Wp
 blt:X.env.builtins=builtinsNs
 above:X.s₀.heap.objs.size≤X.env.locals
 inj:∀ x y c,X.env.cells.lookup x=some c→X.env.cells.lookup y=some c→x=y
 has:∀ x,(X.env.kindOf x=some .cell∨X.env.kindOf x=some .free)→∃ c,X.env.cells.lookup x=some c
 cab:∀ x c,X.fn x=true→X.env.cells.lookup x=some c→X.s₀.heap.objs.size≤c
 hd:X.calm=true→X.A.handled=none
 frames:X.A.frames=some X.stack
 stk:X.stack=X.outer∨(X.stack=X.env :: X.outer∧X.env.frame=some X.env.locals)
 exf:∀ b ∈ X.ex,b≠X.env.locals∧∀ x c,X.env.cells.lookup x=some c→c≠b
 bs:∀ b o,X.base.get? b=some o→X.s₀.heap.get? b=some o∧X.H₀ b=none
 bsz:X.base.objs.size≤X.s₀.heap.objs.size
 noex:∀ b o,X.base.get? b=some o→b ∉ X.ex
 exfs:∀ b ∈ X.ex,b ∉ X.fs
 funs:X.s₀.heap.FunFrames X.base X.outer
 frf:∀ b ∈ X.fs,X.H₀ b=none
structure Inv (X:Cx) (pins:List (Addr×Obj)) (σ:List (Option V)) (H:Hp) (s:W5):Prop where
 ok:X.Ok
 os:s.os=X.s₀.os
 bare:AllBare s.gens
 base:Un X.fs X.ex X.H₀ H X.s₀.heap s.heap
 loc:∃ m,s.heap.Ns X.env.locals m∧∀ (i:Nat) (x:Str) (v:V),X.N[i]? = some x→σ[i]? = some (some v)→Vis X.env.scope x→∃ u,RelV v u∧Look X.env s.heap m x u
 cell:∀ x c,X.env.cells.lookup x=some c→∃ v,s.heap.IsCell c v
 free:H X.env.locals=none
 freeC:∀ x c,X.env.cells.lookup x=some c→H c=none
 pin:∀ p ∈ X.pn ++ pins,s.heap.get? p.1=some p.2∧H p.1=none∧p.1≠X.env.locals∧p.1 ∉ X.fs∧∀ v,p.2.data≠.cell v
 hok:HOk X.prog X.w H s.heap
 len:σ.length=X.N.length
section
variable {X:Cx} {pins:List (Addr×Obj)} {σ:List (Option V)} {H H':Hp} {s:W5} {h':Heap}
theorem Cx.Ok.nofr (ok:X.Ok) (e:X.base.get? b=some o):b ∉ X.fs:=fun hb=>by
 have:=(ok.funs.mem hb).1
 rw [e] at this; cases this
theorem Inv.bs (I:Inv X pins σ H s):∀ b o,X.base.get? b=some o→s.heap.get? b=some o∧H b=none:=fun b o e =>
 ⟨I.base.keep b o (I.ok.bs b o e).1 (I.ok.bs b o e).2 (I.ok.nofr e) (I.ok.noex b o e),I.base.free b o (I.ok.bs b o e).1 (I.ok.bs b o e).2 (I.ok.noex b o e)⟩
theorem Inv.bk (I:Inv X pins σ H s):∀ b o,X.base.get? b=some o→s.heap.get? b=some o:=fun b o e=>(I.bs b o e).1
theorem Inv.mod (I:Inv X pins σ H s):Mod X.K X.mg X.base:=I.ok.mod
theorem Inv.kIn (I:Inv X pins σ H s):X.K.In s.heap:=I.ok.mod.kin.keeps I.bk
theorem Inv.nolimit (I:Inv X pins σ H s):s.heap.NoLimit:=I.ok.mod.nolimit.keeps I.bk
theorem Inv.fr (I:Inv X pins σ H s):∃ m,Fr X.base X.env.locals s.heap m :=
 let ⟨m,hn,_⟩:=I.loc
 ⟨m,hn,I.bk,WG I.ok.bsz I.ok.above⟩
theorem Inv.lt (I:Inv X pins σ H s):X.env.locals < s.heap.objs.size:=let ⟨_,hn,_⟩:=I.loc; hn.lt
theorem Inv.sz (I:Inv X pins σ H s):X.s₀.heap.objs.size≤s.heap.objs.size:=WG I.ok.above (Nat.le_of_lt I.lt)
theorem Inv.nofs (I:Inv X pins σ H s) (h:s.heap.objs.size≤a):a ∉ X.fs:=fun hb=>by
 obtain ⟨_,o,ho,_⟩:=I.ok.funs.mem hb
 exact absurd (Wt (Wn ho) (WG I.sz h)) (Qj _)
theorem Inv.cne (I:Inv X pins σ H s):∀ x c,X.env.cells.lookup x=some c→c≠X.env.locals:=fun x c e z=>by
 obtain ⟨v,o,ho,hd⟩:=I.cell x c e
 obtain ⟨m,⟨o',es,ep,ho',hd',_⟩,_⟩:=I.loc
 rw [z,ho'] at ho; cases ho; rw [hd'] at hd; cases hd
theorem Inv.funs (I:Inv X pins σ H s):s.heap.FunFrames X.base X.outer:=by
 have all:∀ (l:List Env),(∀ b ∈ frs l,b ∈ X.fs)→X.s₀.heap.FunFrames X.base l→s.heap.FunFrames X.base l:=by
  intro l
  induction l with
  | nil=>intro _ _; trivial
  | cons env r ih =>
   intro hs hl
   obtain ⟨hk,⟨L,o,hf,hn,ho,hd⟩,hr⟩:=hl
   have hL:L ∈ X.fs:=hs L (by unfold frs; rw [QS,hf]; exact Wi)
   obtain ⟨sl,e⟩:=I.base.slot L o ho (I.ok.frf L hL) hL fun z=>I.ok.exfs L z hL
   exact ⟨hk,⟨L,_,hf,hn,e,hd⟩,ih (fun b hb=>hs b (by unfold frs; rw [QS,hf]; exact Wg _ hb)) hr⟩
 exact all X.outer (fun _ hb=>hb) I.ok.funs
theorem Inv.stack (I:Inv X pins σ H s):s.heap.FunFrames X.base X.stack:=by
 rcases I.ok.stk with e | ⟨e,hf⟩
 ·rw [e]; exact I.funs
 ·rw [e]
  obtain ⟨m,hn,_⟩:=I.loc
  refine .cons (by rw [I.ok.kind]; decide) hf hn ?_ I.funs
  exact Heap.get?_none_of_le (WG I.ok.bsz I.ok.above)
theorem Inv.stkSub (I:Inv X pins σ H s):∀ b ∈ frs X.stack,b ∈ X.env.locals :: X.fs:=fun b hb=>by
 rcases I.ok.stk with e | ⟨e,hf⟩
 ·rw [e] at hb; exact Wg _ hb
 ·rw [e] at hb
  unfold frs at hb
  rw [QS,hf] at hb
  exact hb
theorem Inv.stkFree (I:Inv X pins σ H s):∀ b ∈ frs X.stack,H b=none:=fun b hb=>by
 rcases Wj.mp (I.stkSub b hb) with e | hb
 ·rw [e]; exact I.free
 ·obtain ⟨_,o,ho,_⟩:=I.ok.funs.mem hb
  exact I.base.free b o ho (I.ok.frf b hb) fun z=>I.ok.exfs b z hb
theorem Inv.step {g':Array GenState} {t':Nat} {d':Drawn} {ch:List Addr} (I:Inv X pins σ H s)
  (hch:∀ b ∈ ch,(b ∈ X.ex∨X.s₀.heap.objs.size≤b)∧b≠X.env.locals∧(∀ x c,X.env.cells.lookup x=some c→c≠b)∧∀ p ∈ X.pn ++ pins,p.1≠b)
  (keep:∀ b o,b≠X.env.locals→b ∉ X.fs→b ∉ ch→s.heap.get? b=some o→H b=none→h'.get? b=some o)
  (slot:∀ b o,b≠X.env.locals→b ∈ X.fs→b ∉ ch→s.heap.get? b=some o→H b=none→∃ sl,h'.get? b=some { o with slots:=sl }) (free:∀ b o,b ∉ ch→s.heap.get? b=some o→H b=none→H' b=none)
  (there:∀ b o,b ∉ ch→s.heap.get? b=some o→∃ o',h'.get? b=some o')
  (tups:∀ b xs,H b=some (.tup xs)→H' b=some (.tup xs)) (frzs:∀ b o u,H b=some (.frz o u)→H' b=some (.frz o u)) (tbls:∀ b ps,H b=some (.tbl ps)→∃ more,H' b=some (.tbl (ps ++ more)))
  (ns:∀ m,s.heap.Ns X.env.locals m→h'.Ns X.env.locals m) (hok:HOk X.prog X.w H' h') (hg:AllBare g') :
  Inv X pins σ H' { s with heap:=h',gens:=g',drawn:=d',toks:=t' }:=by
 have neL:∀ b o,X.s₀.heap.get? b=some o→b≠X.env.locals:=fun b o e=>WT (Wt (Wn e) I.ok.above)
 have neC:∀ b o,X.s₀.heap.get? b=some o→b ∉ X.ex→b ∉ ch:=fun b o e hx hb=>by
  rcases (hch b hb).1 with z | z
  ·exact hx z
  ·exact absurd (Wt (Wn e) z) (Qj _)
 have cellK:∀ x c,X.env.cells.lookup x=some c→∀ v,s.heap.IsCell c v→h'.IsCell c v:=fun x c e v ⟨o,ho,hd⟩=>by
  have nch:c ∉ ch:=fun z=>(hch c z).2.2.1 x c e rfl
  by_cases hc:c ∈ X.fs
  ·obtain ⟨sl,q⟩:=slot c o (I.cne x c e) hc nch ho (I.freeC x c e)
   exact ⟨_,q,hd⟩
  ·exact ⟨o,keep c o (I.cne x c e) hc nch ho (I.freeC x c e),hd⟩
 refine ⟨I.ok,I.os,hg,⟨fun b o e n hb hx=>?_,fun b o e n hb hx=>?_,fun b o e n hx=>?_,fun b o e hx=>?_,fun b xs e=>tups b xs (I.base.tups b xs e),fun b o xs e=>frzs b o xs (I.base.frzs b o xs e),fun b ps e=>?_⟩,?_,fun x c e=>?_,?_,fun x c e=>?_,fun p hp=>?_,hok,I.len⟩
 ·exact keep b o (neL b o e) hb (neC b o e hx) (I.base.keep b o e n hb hx) (I.base.free b o e n hx)
 ·obtain ⟨sl,e1⟩:=I.base.slot b o e n hb hx
  obtain ⟨sl',e2⟩:=slot b _ (neL b o e) hb (neC b o e hx) e1 (I.base.free b o e n hx)
  exact ⟨sl',e2⟩
 ·obtain ⟨o',e1⟩:=I.base.there b o e hx
  exact free b o' (neC b o e hx) e1 (I.base.free b o e n hx)
 ·obtain ⟨o',e1⟩:=I.base.there b o e hx
  exact there b o' (neC b o e hx) e1
 ·obtain ⟨m1,e1⟩:=I.base.tbls b ps e
  obtain ⟨m2,e2⟩:=tbls b _ e1
  exact ⟨m1 ++ m2,by rw [e2,Array.append_assoc]⟩
 ·obtain ⟨m,hn,hl⟩:=I.loc
  refine ⟨m,ns m hn,fun i x v e1 e2 e3=>?_⟩
  obtain ⟨u,r,l⟩:=hl i x v e1 e2 e3
  refine ⟨u,r,?_⟩
  rcases l with l | ⟨k,c,e,z⟩
  ·exact .inl l
  ·exact .inr ⟨k,c,e,cellK x c e _ z⟩
 ·obtain ⟨v,z⟩:=I.cell x c e
  exact ⟨v,cellK x c e v z⟩
 ·obtain ⟨m,⟨o,_,_,ho,_⟩,_⟩:=I.loc
  exact free _ o (fun z=>(hch _ z).2.1 rfl) ho I.free
 ·obtain ⟨v,o,ho,hd⟩:=I.cell x c e
  exact free c o (fun z=>(hch c z).2.2.1 x c e rfl) ho (I.freeC x c e)
 ·obtain ⟨e,n,ne,nf,d⟩:=I.pin p hp
  have nch:p.1 ∉ ch:=fun z=>(hch p.1 z).2.2.2 p hp rfl
  exact ⟨keep p.1 p.2 ne nf nch e n,free p.1 p.2 nch e n,ne,nf,d⟩
theorem Inv.un {t':Nat} (I:Inv X pins σ H s) (u:Un X.fs [] H H' s.heap h') (hok:HOk X.prog X.w H' h'):Inv X pins σ H' { s with heap:=h',toks:=t' }:=by
 obtain ⟨m,⟨o,es,ep,ho,r⟩,_⟩:=id I.loc
 obtain ⟨sl,hL⟩:=u.any ho I.free (by simp)
 exact I.step (g':=s.gens) (d':=s.drawn) (ch:=[]) (fun _ z=>nomatch z) (fun b o _ hb _ e n=>u.keep b o e n hb (by simp)) (fun b o _ hb _ e n=>u.slot b o e n hb (by simp)) (fun b o _ e n=>u.free b o e n (by simp)) (fun b o _ e=>u.there b o e (by simp)) u.tups u.frzs u.tbls (fun m' hm=>by
  obtain ⟨o',es',ep',ho',r'⟩:=hm
  rw [ho] at ho'; cases ho'
  exact ⟨_,es',ep',hL,r'⟩) hok I.bare
theorem Inv.call {g':Array GenState} {t':Nat} {d':Drawn} {ch:List Addr} (I:Inv X pins σ H s) (u:Un (frs X.stack) ch H H' s.heap h') (hok:HOk X.prog X.w H' h') (hg:AllBare g')
  (hch:∀ b ∈ ch,(b ∈ X.ex∨X.s₀.heap.objs.size≤b)∧b≠X.env.locals∧(∀ x c,X.env.cells.lookup x=some c→c≠b)∧∀ p ∈ X.pn ++ pins,p.1≠b) :
  Inv X pins σ H' { s with heap:=h',gens:=g',drawn:=d',toks:=t' }:=by
 obtain ⟨m,⟨o,es,ep,ho,r⟩,_⟩:=id I.loc
 obtain ⟨sl,hL⟩:=u.any ho I.free fun z=>(hch _ z).2.1 rfl
 exact I.step (ch:=ch) hch (fun b o hL hb hc e n=>u.keep b o e n (fun z=>(Wj.mp (I.stkSub b z)).elim hL hb) hc) (fun b o _ _ hc e n=>u.any e n hc) (fun b o hc e n=>u.free b o e n hc) (fun b o hc e=>u.there b o e hc) u.tups u.frzs u.tbls (fun m' hm=>by
  obtain ⟨o',es',ep',ho',r'⟩:=hm
  rw [ho] at ho'; cases ho'
  exact ⟨_,es',ep',hL,r'⟩) hok hg
theorem Inv.turned {t':Nat} {it:Addr} (I:Inv X pins σ H s) (k:∀ b o,b≠it→s.heap.get? b=some o→h'.get? b=some o) (hn:H it=none) (hL:it≠X.env.locals)
  (h1:it ∈ X.ex∨X.s₀.heap.objs.size≤it) (h2:∀ x c,X.env.cells.lookup x=some c→c≠it) (h3:∀ p ∈ X.pn ++ pins,p.1≠it):Inv X pins σ H { s with heap:=h',toks:=t' }:=by
 have nit:∀ b u,H b=some u→b≠it:=fun b u e z=>by rw [z,hn] at e; cases e
 refine I.step (g':=s.gens) (d':=s.drawn) (ch:=[it]) (fun b hb=>?_) (fun b o _ _ hc e _=>k b o (fun z=>hc (by simp [z])) e) (fun b o _ _ hc e _=>⟨o.slots,k b o (fun z=>hc (by simp [z])) e⟩) (fun _ _ _ _ n=>n)
  (fun b o hc e=>⟨o,k b o (fun z=>hc (by simp [z])) e⟩) (fun _ _ e=>e) (fun _ _ _ e=>e) (fun b ps e=>⟨#[],by rw [e]; simp⟩) (fun m hm=>?_) (fun b u e=>?_) I.bare
 ·have e:b=it:=by simpa using hb
  subst e
  exact ⟨h1,hL,h2,h3⟩
 ·obtain ⟨o,es,ep,ho,r⟩:=hm
  exact ⟨o,es,ep,k _ o (Ne.symm hL) ho,r⟩
 ·refine (I.hok b u e).stay (fun c v hc q=>k c v ?_ q) (fun _ q=>q) fun _ _ q=>q
  rcases hc with z | z
  ·rw [z]; exact nit b u e
  ·exact nit c _ z
theorem Inv.tok (I:Inv X pins σ H s) (t:Nat):Inv X pins σ H { s with toks:=t }:=I.un (h':=s.heap) (t':=t) Un.refl I.hok
theorem Inv.kept (I:Inv X pins σ H s) (k:∀ b u,s.heap.get? b=some u→h'.get? b=some u):Inv X pins σ H { s with heap:=h',toks:=t' }:=I.un (Un.kept k) (I.hok.kept k)
theorem Inv.laid (I:Inv X pins σ H s) (k:∀ b u,s.heap.get? b=some u→h'.get? b=some u) (hp:s.heap.objs.size≤a) (new:ObjOk X.prog X.w (upd H a o) h' a o) :
  Inv X pins σ (upd H a o) { s with heap:=h',toks:=t' }:=I.un (Un.laid k hp (I.hok.fresh hp)) (I.hok.laid k hp new)
theorem Inv.write (I:Inv X pins σ H s) (mu:Mut (H x)) (he:e=x∨H e=some (.own x)) (k:∀ b u,b≠e→s.heap.get? b=some u→h'.get? b=some u) (heo:∃ u,h'.get? e=some u)
  (new:ObjOk X.prog X.w (upd H x o) h' x o):Inv X pins σ (upd H x o) { s with heap:=h',toks:=t' }:=I.un (Un.write mu he k heo) (I.hok.write mu he k heo new)
theorem Inv.weak (I:Inv X pins σ H s) (hl:σ'.length=σ.length) (w:∀ (i:Nat) v,σ'[i]? = some (some v)→σ[i]? = some (some v)):Inv X pins σ' H s :=
 ⟨I.ok,I.os,I.bare,I.base,let ⟨m,hn,hl'⟩:=I.loc; ⟨m,hn,fun i x v e1 e2 e3=>hl' i x v e1 (w i v e2) e3⟩,I.cell,I.free,I.freeC,I.pin,I.hok,hl.trans I.len⟩
theorem Inv.pins_of (I:Inv X pins σ H s) (h:∀ p ∈ pins',s.heap.get? p.1=some p.2∧H p.1=none∧p.1≠X.env.locals∧p.1 ∉ X.fs∧∀ v,p.2.data≠.cell v):Inv X pins' σ H s :=
 ⟨I.ok,I.os,I.bare,I.base,I.loc,I.cell,I.free,I.freeC,fun p hp=>(Qt.mp hp).elim (fun z=>I.pin p (Ja _ z)) (h p),I.hok,I.len⟩
theorem z78 {N:List Str} (hN:N.Nodup) {i j:Nat} {x:Str} (a:N[i]? = some x) (b:N[j]? = some x):i=j:=by
 obtain ⟨h1,e1⟩:=Wf.mp a
 obtain ⟨h2,e2⟩:=Wf.mp b
 exact (List.getElem_inj hN).mp (e1.trans e2.symm)
theorem z4l {M:Model} {A:Wq} {E:Value→W5→Prop} {i:Nat} {x:Str} {v:V} {u:Value} {Q:Unit→W5→Prop} (I:Inv X pins σ H s) (hN:X.N.Nodup) (hi:X.N[i]? = some x) (hx:Loc X.env.scope x) (r:RelV v u)
  (h:∀ s',Inv X pins (σ.set i (some v)) H s'→(∃ a,Heap.SameBut a s.heap s'.heap∧(a=X.env.locals∨X.env.cells.lookup x=some a))→Q () s') (hf:X.fn x=true∨X.env.scope.names.lookup x=some .local:=by first | exact .inl rfl | exact .inr rfl | assumption):We M A (storeName X.env x u) Q E s:=by
 obtain ⟨m,hn,hl⟩:=id I.loc
 have hcls:(X.env.scope.kind == .class || (X.env.scope.kind == .module && X.env.locals != X.env.globals))=false:=by rw [I.ok.kind]; rfl
 have hiσ:i < σ.length:=by rw [I.len]; exact (Wf.mp hi).1
 have cne:=I.cne
 have tracked:∀ {a:Addr} {h':Heap},(∃ o,s.heap.get? a=some o∧H a=none)→Heap.SameBut a s.heap h'→HOk X.prog X.w H h':=fun {a h'} ha hs b ob e=>by
  obtain ⟨_,_,hfree⟩:=ha
  refine (I.hok b ob e).stay (fun c w' hc q=>(hs.2 c ?_).trans q) (fun _ q=>q) fun _ _ q=>q
  rintro rfl
  rcases hc with rfl | hc
  ·rw [hfree] at e; cases e
  ·rw [hfree] at hc; cases hc
 rcases hx with hk | hk
 ·refine wpAny_storeName_local hk hn (fun h' hn' hs=>?_) hcls
  obtain ⟨oL,_,_,hoL,_⟩:=id hn
  refine h _ ⟨I.ok,I.os,I.bare,⟨fun b o e n hb hx=>?_,fun b o e n hb hx=>?_,I.base.free,fun b o e hx=>?_,I.base.tups,I.base.frzs,I.base.tbls⟩,⟨_,hn',fun j y v' e1 e2 e3=>?_⟩,fun y c e=>?_,I.free,I.freeC,fun p hp=>?_,tracked ⟨oL,hoL,I.free⟩ hs,by simpa using I.len⟩ ⟨_,hs,.inl rfl⟩
  ·exact (hs.2 b (WT (Wt (Wn e) I.ok.above))).trans (I.base.keep b o e n hb hx)
  ·obtain ⟨sl,e1⟩:=I.base.slot b o e n hb hx
   exact ⟨sl,(hs.2 b (WT (Wt (Wn e) I.ok.above))).trans e1⟩
  ·obtain ⟨o',e1⟩:=I.base.there b o e hx
   exact ⟨o',(hs.2 b (WT (Wt (Wn e) I.ok.above))).trans e1⟩
  ·by_cases hj:j=i
   ·subst hj
    rw [hi] at e1; cases e1
    rw [Wr hiσ] at e2
    cases e2
    exact ⟨u,r,.inl ⟨hk,by simp⟩⟩
   ·rw [W8 (Ne.symm hj)] at e2
    obtain ⟨u',r',q⟩:=hl j y v' e1 e2 e3
    refine ⟨u',r',?_⟩
    rcases q with ⟨k,e⟩ | ⟨k,c,e,z⟩
    ·refine .inl ⟨k,?_⟩
     have:y≠x:=fun e=>hj (z78 hN e1 (e ▸ hi))
     simp [this,e]
    ·exact .inr ⟨k,c,e,z.sameBut hs (cne y c e)⟩
  ·obtain ⟨w',z⟩:=I.cell y c e
   exact ⟨w',z.sameBut hs (cne y c e)⟩
  ·obtain ⟨e,n,ne,nf,d⟩:=I.pin p hp
   exact ⟨(hs.2 p.1 ne).trans e,n,ne,nf,d⟩
 ·have hfn:X.fn x=true:=by
   rcases hf with z | z
   ·exact z
   ·rw [z] at hk; cases hk
  obtain ⟨c,hc⟩:=I.ok.has x (.inl hk)
  obtain ⟨w',z⟩:=I.cell x c hc
  refine wpAny_storeName_cell I.ok.kind hk hc z (fun h' hc' hs=>?_)
  obtain ⟨oc,hoc,hocd⟩:=id z
  refine h { s with heap:=h' } ⟨I.ok,I.os,I.bare,⟨fun b o e n hb hx=>?_,fun b o e n hb hx=>?_,I.base.free,fun b o e hx=>?_,I.base.tups,I.base.frzs,I.base.tbls⟩,⟨m,hn.sameBut hs (Ne.symm (cne x c hc)),fun j y v' e1 e2 e3=>?_⟩,fun y c' e=>?_,I.free,I.freeC,fun p hp=>?_,tracked ⟨oc,hoc,I.freeC x c hc⟩ hs,by simpa using I.len⟩ ⟨c,hs,.inr hc⟩
  ·exact (hs.2 b (WT (Wt (Wn e) (I.ok.cab x c hfn hc)))).trans (I.base.keep b o e n hb hx)
  ·obtain ⟨sl,e1⟩:=I.base.slot b o e n hb hx
   exact ⟨sl,(hs.2 b (WT (Wt (Wn e) (I.ok.cab x c hfn hc)))).trans e1⟩
  ·obtain ⟨o',e1⟩:=I.base.there b o e hx
   exact ⟨o',(hs.2 b (WT (Wt (Wn e) (I.ok.cab x c hfn hc)))).trans e1⟩
  ·by_cases hj:j=i
   ·subst hj
    rw [hi] at e1; cases e1
    rw [Wr hiσ] at e2
    cases e2
    exact ⟨u,r,.inr ⟨.inl hk,c,hc,hc'⟩⟩
   ·rw [W8 (Ne.symm hj)] at e2
    obtain ⟨u',r',q⟩:=hl j y v' e1 e2 e3
    refine ⟨u',r',?_⟩
    rcases q with q | ⟨k,c',e,z'⟩
    ·exact .inl q
    ·refine .inr ⟨k,c',e,z'.sameBut hs ?_⟩
     rintro rfl
     exact hj (z78 hN e1 (I.ok.inj _ _ _ e hc ▸ hi))
  ·by_cases hcc:c'=c
   ·subst hcc; exact ⟨_,hc'⟩
   ·obtain ⟨w2,z2⟩:=I.cell y c' e
    exact ⟨w2,z2.sameBut hs hcc⟩
  ·obtain ⟨e,n,ne,nf,d⟩:=I.pin p hp
   refine ⟨(hs.2 p.1 ?_).trans e,n,ne,nf,d⟩
   intro q
   rw [q,hoc] at e
   have q':oc=p.2:=Wx e
   exact d w' (by rw [← q']; exact hocd)
theorem z94 (I:Inv X pins σ H s) (hN:X.N.Nodup) (hi:X.N[i]? = some x) (hx:Loc X.env.scope x) (r:RelV v u)
  (h:∀ s',Inv X pins (σ.set i (some v)) H s'→Q () s') (hf:X.fn x=true∨X.env.scope.names.lookup x=some .local:=by first | exact .inl rfl | exact .inr rfl | assumption):We M A (storeName X.env x u) Q E s :=
 z4l I hN hi hx r (fun s' I' _=>h s' I') hf
theorem Inv.call' (I:Inv X pins σ H s) (ho:s'.os=s.os) (u:Un (frs X.stack) ch H H' s.heap s'.heap) (hok:HOk X.prog X.w H' s'.heap) (hg:AllBare s'.gens)
  (hch:∀ b ∈ ch,(b ∈ X.ex∨X.s₀.heap.objs.size≤b)∧b≠X.env.locals∧(∀ x c,X.env.cells.lookup x=some c→c≠b)∧∀ p ∈ X.pn ++ pins,p.1≠b):Inv X pins σ H' s':=by
 obtain ⟨h',g',d',t',o'⟩:=s'
 have e:o'=s.os:=ho
 subst e
 exact I.call (g':=g') (t':=t') (d':=d') u hok hg hch
end
abbrev XK:=Value→Option Addr→Hp→Prop
abbrev St:=List (Option V)
abbrev VK:=V→Hp→Prop
abbrev TE:=St→Hp→VK→Prop
abbrev TT:=St→Hp→(Bool→Hp→Prop)→Prop
abbrev TA:=St→Hp→(List V→Hp→Prop)→Prop
structure Ends where
 nx:St→Hp→Prop
 rt:VK
 bk:St→Hp→Prop:=fun _ _=>False
 ct:St→Hp→Prop:=fun _ _=>False
abbrev TS:=Ends→St→Hp→Prop
def EP (X:Cx) (pins:List (Addr×Obj)) (σ:St) (Q:VK) (u:Value) (s':W5):Prop:=∃ v H',Inv X pins σ H' s'∧RelV v u∧Q v H'
def TP (X:Cx) (pins:List (Addr×Obj)) (σ:St) (Q:Bool→Hp→Prop) (b:Bool) (s':W5):Prop:=∃ H',Inv X pins σ H' s'∧Q b H'
def AP (X:Cx) (pins:List (Addr×Obj)) (σ:St) (Q:List V→Hp→Prop) (us:List Value) (s':W5):Prop:=∃ vs H',Inv X pins σ H' s'∧Vals vs us∧Q vs H'
def SP (X:Cx) (pins:List (Addr×Obj)) (D:Ends) (f:Flow) (s':W5):Prop :=
 match f with
 | .next=>∃ σ' H',Inv X pins σ' H' s'∧D.nx σ' H'
 | .brk=>∃ σ' H',Inv X pins σ' H' s'∧D.bk σ' H'
 | .cont=>∃ σ' H',Inv X pins σ' H' s'∧D.ct σ' H'
 | .ret u=>∃ v σ' H',Inv X pins σ' H' s'∧RelV v u∧D.rt v H'
def PE (X:Cx) (e:Expr) (t:TE):Prop :=
 ∀ (pins:List (Addr×Obj)) (s:W5) (σ:St) (H:Hp) (Q:VK),Inv X pins σ H s→t σ H Q→We (model X.prog X.w) X.A (eval e X.env) (EP X pins σ Q) X.xe s
def PT (X:Cx) (e:Expr) (t:TT):Prop :=
 ∀ (pins:List (Addr×Obj)) (s:W5) (σ:St) (H:Hp) (Q:Bool→Hp→Prop),Inv X pins σ H s→t σ H Q→We (model X.prog X.w) X.A (isTrue e X.env (eval e X.env)) (TP X pins σ Q) X.xe s
def PW (X:Cx) (e:Expr) (t:TT):Prop :=
 ∀ (whole:Sem Value) (pins:List (Addr×Obj)) (s:W5) (σ:St) (H:Hp) (Q:Bool→Hp→Prop),Inv X pins σ H s→t σ H Q→We (model X.prog X.w) X.A (isTrue e X.env whole) (TP X pins σ Q) X.xe s
theorem PW.pt (h:PW X e t):PT X e t:=h _
def PA (X:Cx) (es:List Expr) (t:TA):Prop :=
 ∀ (pos:Pos) (pins:List (Addr×Obj)) (s:W5) (σ:St) (H:Hp) (Q:List V→Hp→Prop),Inv X pins σ H s→t σ H Q→We (model X.prog X.w) X.A (spliced (WU pos (W7 es X.env))) (AP X pins σ Q) X.xe s
def PS (X:Cx) (st:Stmt) (t:TS):Prop :=
 ∀ (pins:List (Addr×Obj)) (s:W5) (σ:St) (H:Hp) (D:Ends),Inv X pins σ H s→t D σ H→We (model X.prog X.w) X.A (exec st X.env) (SP X pins D) X.xe s
def PSs (X:Cx) (st:List Stmt) (t:TS):Prop :=
 ∀ (pins:List (Addr×Obj)) (s:W5) (σ:St) (H:Hp) (D:Ends),Inv X pins σ H s→t D σ H→We (model X.prog X.w) X.A (execs st X.env) (SP X pins D) X.xe s
theorem thn (h:We M A t Q E s) (hQ:∀ a s,Q a s→Q' a s):We M A t Q' E s:=WJ h hQ fun _ _ x=>x
section
variable {X:Cx}
theorem bin {a b:Expr} {ta tb:TE} (ha:PE X a ta) (hb:PE X b tb) {pins:List (Addr×Obj)} {s:W5} {σ:St} {H:Hp} {R:V→V→Hp→Prop} (I:Inv X pins σ H s) (h:ta σ H fun x H1=>tb σ H1 fun y H2=>R x y H2)
  {α:Type} {Q:α→W5→Prop} {f:Value→Value→Sem α}
  (hf:∀ v u s2 x y H2,Inv X pins σ H2 s2→RelV x v→RelV y u→R x y H2→We (model X.prog X.w) X.A (f v u) Q X.xe s2) :
  We (model X.prog X.w) X.A (eval a X.env) (fun v s₁=>We (model X.prog X.w) X.A (eval b X.env) (fun u s₂=>We (model X.prog X.w) X.A (f v u) Q X.xe s₂) X.xe s₁) X.xe s:=by
 refine thn (ha pins s σ H _ I h) fun v s1 ⟨x,H1,I1,r1,q1⟩=>?_
 refine thn (hb pins s1 σ H1 _ I1 q1) fun u s2 ⟨y,H2,I2,r2,q2⟩=>?_
 exact hf v u s2 x y H2 I2 r1 r2 q2
def tVar (i:Nat):TE:=fun σ H Q=>∃ v,σ[i]? = some (some v)∧Q v H
def tC (v:V):TE:=fun _ H Q=>Q v H
theorem zfN (hN:X.N[i]? = some x) (hv:Vis X.env.scope x) (hd:(x == ("__debug__" : Str))=false:=by decide) (hcd:(x == ("__classdict__" : Str))=false:=by decide):PE X (.Name x pos) (tVar i):=by
 intro pins s σ H Q I h
 obtain ⟨v,e,h⟩:=h
 obtain ⟨m,hn,hl⟩:=I.loc
 obtain ⟨u,r,l⟩:=hl i x v hN e hv
 have fin:EP X pins σ Q u s:=⟨v,H,I,r,h⟩
 rcases l with ⟨hk,hm⟩ | ⟨hk,c,hc,hcell⟩
 ·exact wpAny_Name (wpAny_loadName_local I.ok.kind hk hn hm fin) hd
 ·rcases hk with hk | hk
  ·exact wpAny_Name (wpAny_loadName_cell I.ok.kind hk hc hcell fin) hd
  ·exact wpAny_Name (wpAny_loadName_free I.ok.kind hk hc hcell fin hcd) hd
theorem zdx {i j pos}:PE X (.Constant (.int i) j pos) (tC (.int i)):=fun _ _ _ H _ I h=>wpAny_Constant_int ⟨.int i,H,I.tok _,⟨_,rfl⟩,h⟩
theorem zeo {b j pos}:PE X (.Constant (.bool b) j pos) (tC (.bl b)):=fun _ _ _ H _ I h=>Constant_bool ⟨.bl b,H,I,rfl,h⟩
theorem zfU {j pos}:PE X (.Constant .none j pos) (tC .non):=fun _ _ _ H _ I h=>Constant_none ⟨.non,H,I,rfl,h⟩
theorem zdw {x j pos}:PE X (.Constant (.str x) j pos) (tC (.str x)):=fun _ _ _ H _ I h=>Calls.Constant_str ⟨.str x,H,I.tok _,⟨_,rfl⟩,h⟩
def Gl (X:Cx) (x:Str):Prop:=X.env.kindOf x=some .globalImplicit
theorem z48 (I:Inv X pins σ H s) (hg:Gl X x) (hm:X.mg x=some u) (h:Q u s)
  (hd:(x == ("__debug__" : Str))=false:=by decide):We (model X.prog X.w) X.A (eval (.Name x pos) X.env) Q E s :=
 Calls.Name_function_global I.ok.kind hg (Calls.loadGlobal_global (by rw [I.ok.glob]; exact I.mod.glob.keeps I.bk) hm h) hd
theorem z7U (I:Inv X pins σ H s) (hg:Gl X x) (hm:X.mg x=none) (hv:Q6 x=some u) (h:Q u s)
  (hn:x≠"__name__":=by decide) (hd:(x == ("__debug__" : Str))=false:=by decide):We (model X.prog X.w) X.A (eval (.Name x pos) X.env) Q E s:=by
 obtain ⟨mb,h1,h2⟩:=I.mod.blt
 exact Calls.Name_function_global I.ok.kind hg (Calls.loadGlobal_builtin (by rw [I.ok.glob]; exact I.mod.glob.keeps I.bk) hm (by rw [I.ok.blt]; exact h1.keeps I.bk) ((h2 x hn).trans hv) h) hd
theorem zbd (hg:Gl X x) (hm:X.mg x=none) (hv:Q6 x=some u) (r:RelV v u) (hn:x≠"__name__":=by decide) (hd:(x == ("__debug__" : Str))=false:=by decide):PE X (.Name x pos) (tC v) :=
 fun _ _ _ H _ I h=>z7U I hg hm hv ⟨v,H,I,r,h⟩ hn hd
variable {a b:Expr} {ta tb:TE} {pos:Pos}
def PC (X:Cx) (op:CmpOp) (a b:Expr) (t:TE):Prop :=
 ∀ (pins:List (Addr×Obj)) (s:W5) (σ:St) (H:Hp) (Q:VK),Inv X pins σ H s→t σ H Q →
  We (model X.prog X.w) X.A (eval a X.env) (fun v s₁=>We (model X.prog X.w) X.A (eval b X.env) (fun u s₂=>We (model X.prog X.w) X.A (Wz op v u) (EP X pins σ Q) X.xe s₂) X.xe s₁) X.xe s
theorem zcV (b:Expr) (h:op≠.In) (h2:op≠.NotIn):Qk op b=false:=by
 have e1:(op == CmpOp.In)=false:=by cases op <;> first | rfl | exact absurd rfl h
 have e2:(op == CmpOp.NotIn)=false:=by cases op <;> first | rfl | exact absurd rfl h2
 cases b <;> simp [Qk,e1,e2]
def tB (t:TE):TT:=fun σ H Q=>t σ H fun x H1=>∃ c,x = .bl c∧Q c H1
theorem pt_cmp (h:PC X op a b t) (h1:Qk op b=false:=by first | exact zcV _ (by decide) (by decide) | rfl):PT X (.Compare a [op] [b] pos) (tB t):=by
 intro pins s σ H Q I hw
 refine wpAny_isTrue_Compare1 (thn (h pins s σ H _ I hw) fun v s1 h1=>thn h1 fun u s2 h2=>thn h2 fun c s3 ⟨x,H1,I1,r1,q1⟩=>?_) h1
 obtain ⟨d,rfl,q⟩:=q1
 cases r1
 exact Ql ⟨H1,I1,q⟩
theorem zfH (h:PE X e t) (he:∀ whole,isTrue e X.env whole=(do let v ← whole; standAt e.pos; holding [v] (truthy v)):=by intro _; rfl):PT X e (tB t):=by
 intro pins s σ H Q I hw
 refine isTrue_plain (thn (h pins s σ H _ I hw) fun v s1 ⟨x,H1,I1,r1,q1⟩=>?_) (he _)
 obtain ⟨d,rfl,q⟩:=q1
 cases r1
 exact Ql ⟨H1,I1,q⟩
variable {tA tB':TT} {rest:List Expr}
def tAnd (t u:TT):TT:=fun σ H Q=>t σ H fun c H1=>if c=true then u σ H1 Q else Q false H1
def tOr (t u:TT):TT:=fun σ H Q=>t σ H fun c H1=>if c=true then Q true H1 else u σ H1 Q
def tNot (t:TT):TT:=fun σ H Q=>t σ H fun c H1=>Q (!c) H1
theorem zed (ha:PT X a tA):PW X (.BoolOp .And [a] pos) tA:=by
 intro wh pins s σ H Q I h
 refine isTrue_and (thn (ha pins s σ H Q I h) fun c s1 e=>?_)
 cases c with
 | true=>exact isTrue_and_nil e
 | false=>exact e
theorem zfF (ha:PT X a tA):PW X (.BoolOp .Or [a] pos) tA:=by
 intro wh pins s σ H Q I h
 refine isTrue_or (thn (ha pins s σ H Q I h) fun c s1 e=>?_)
 cases c with
 | false=>exact isTrue_or_nil e
 | true=>exact e
theorem zfG (ha:PT X a tA) (hb:PW X (.BoolOp .And (b :: rest) pos) tB'):PW X (.BoolOp .And (a :: b :: rest) pos) (tAnd tA tB'):=by
 intro wh pins s σ H Q I h
 refine isTrue_and (thn (ha pins s σ H _ I h) fun c s1 ⟨H1,I1,q1⟩=>?_)
 cases c with
 | true=>exact hb wh pins s1 σ H1 Q I1 q1
 | false=>exact ⟨H1,I1,q1⟩
theorem pw_or (ha:PT X a tA) (hb:PW X (.BoolOp .Or (b :: rest) pos) tB'):PW X (.BoolOp .Or (a :: b :: rest) pos) (tOr tA tB'):=by
 intro wh pins s σ H Q I h
 refine isTrue_or (thn (ha pins s σ H _ I h) fun c s1 ⟨H1,I1,q1⟩=>?_)
 cases c with
 | true=>exact ⟨H1,I1,q1⟩
 | false=>exact hb wh pins s1 σ H1 Q I1 q1
theorem zfI (ha:PT X a tA):PT X (.UnaryOp .Not a pos) (tNot tA):=by
 intro pins s σ H Q I h
 exact isTrue_not (ha pins s σ H (fun c H1=>Q (!c) H1) I h)
def tAndV (ta tb:TE):TE:=fun σ H Q=>ta σ H fun x H1=>∃ c,x = .bl c∧if c=true then tb σ H1 Q else Q (.bl false) H1
def tNotV (ta:TE):TE:=fun σ H Q=>ta σ H fun x H1=>∃ c,x = .bl c∧Q (.bl (!c)) H1
theorem zfS {op} (h:PE X a t):PE X (.BoolOp op [a] pos) t:=fun pins s σ H Q I hw=>BoolOp_one (h pins s σ H Q I hw)
theorem zfZ (ha:PE X a ta) (hb:PE X (.BoolOp .And (b :: rest) pos) tb):PE X (.BoolOp .And (a :: b :: rest) pos) (tAndV ta tb):=by
 intro pins s σ H Q I h
 refine BoolOp_and (thn (ha pins s σ H _ I h) fun v s1 ⟨x,H1,I1,r1,q1⟩=>?_)
 obtain ⟨c,rfl,q1⟩:=q1
 cases r1
 refine Ql ?_
 cases c with
 | true=>exact hb pins s1 σ H1 Q I1 q1
 | false=>exact ⟨.bl false,H1,I1,rfl,q1⟩
theorem zfT (ha:PE X a ta):PE X (.UnaryOp .Not a pos) (tNotV ta):=by
 intro pins s σ H Q I h
 refine UnaryOp_ (thn (ha pins s σ H _ I h) fun v s1 ⟨x,H1,I1,r1,q1⟩=>?_)
 obtain ⟨c,rfl,q1⟩:=q1
 cases r1
 exact not_of (Ql ⟨.bl (!c),H1,I1,rfl,q1⟩)
def tIf (t:TT) (ta tb:TE):TE:=fun σ H Q=>t σ H fun c H1=>if c=true then ta σ H1 Q else tb σ H1 Q
theorem zcH (hc:PT X c tA) (ha:PE X a ta) (hb:PE X b tb):PE X (.IfExp c a b pos) (tIf tA ta tb):=by
 intro pins s σ H Q I h
 refine wpAny_IfExp (thn (hc pins s σ H _ I h) fun d s1 ⟨H1,I1,q1⟩=>?_)
 cases d with
 | true=>exact ha pins s1 σ H1 Q I1 q1
 | false=>exact hb pins s1 σ H1 Q I1 q1
end
def SqL (K:W3) (H:Hp) (a:Addr) (xs:List V):Prop :=
 Rd H a (.lst xs) ∨
  ∃ (o:Obj) (its:Array Value) (n:Nat),K.lookup a=some o∧o.cls = .type "list"∧o.dict=none∧o.data = .seq its n∧its.size≤W6∧Vals xs its.toList
def SqT (K:W3) (H:Hp) (a:Addr) (xs:List V):Prop :=
 Rd H a (.tup xs) ∨
  ∃ (o:Obj) (its:Array Value) (n:Nat),K.lookup a=some o∧o.cls = .type "tuple"∧o.data = .seq its n∧its.size≤W6∧Vals xs its.toList
def absV:Value→Option V
 | .none=>some .non
 | .bool b=>some (.bl b)
 | .int i _=>some (.int i)
 | .str x _=>some (.str x)
 | .bytes b _=>some (.byt b)
 | .float b _=>some (.flt b)
 | .ref a=>some (.ref a)
 | .type n=>some (.ty n)
 | _=>none
theorem RelV.abs (r:RelV x u):absV u=some x:=by
 cases x with
 | non=>cases r; rfl
 | bl _=>cases r; rfl
 | int _=>obtain ⟨t,rfl⟩:=r; rfl
 | str _=>obtain ⟨t,rfl⟩:=r; rfl
 | byt _=>obtain ⟨t,rfl⟩:=r; rfl
 | flt _=>obtain ⟨t,rfl⟩:=r; rfl
 | ref _=>cases r; rfl
 | ty _=>cases r; rfl
theorem RelV.inj (r:RelV x u) (q:RelV y u):x=y:=Wx (r.abs.symm.trans q.abs)
theorem Vals.inj:∀ {xs ys:List V} {us:List Value},Vals xs us→Vals ys us→xs=ys
 | _,_,_,.nil,.nil=>rfl
 | _,_,_,.cons r t,.cons r' t'=>by rw [r.inj r',Vals.inj t t']
section
variable {X:Cx} {pins:List (Addr×Obj)} {σ:St} {H:Hp} {s:W5} {a:Addr} {xs ys:List V}
theorem SqL.of {K:W3} (h:H a=some (.lst xs)):SqL K H a xs:=.inl (.inl h)
theorem SqT.of {K:W3} (h:H a=some (.tup xs)):SqT K H a xs:=.inl (.inl h)
theorem Inv.list (I:Inv X pins σ H s) (h:SqL X.K H a xs):∃ its:List Value,Vals xs its∧PlainL s.heap a its.toArray∧xs.length≤W6:=by
 rcases h with h | ⟨o,its,n,hk,hc,hd,hs,hz,r⟩
 ·obtain ⟨z,its,n,r,e⟩:=h.ok I.hok
  exact ⟨its,r,⟨_,n,e,rfl,rfl,rfl⟩,z⟩
 ·refine ⟨its.toList,r,⟨o,n,I.kIn a o hk,hc,hd,by simpa using hs⟩,?_⟩
  have e:=r.length
  simp only [Array.length_toList] at e
  omega
theorem Inv.tuple (I:Inv X pins σ H s) (h:SqT X.K H a xs):∃ its:List Value,Vals xs its∧IsTup s.heap a its.toArray∧xs.length≤W6:=by
 rcases h with h | ⟨o,its,n,hk,hc,hs,hz,r⟩
 ·obtain ⟨z,its,r,p⟩:=h.ok I.hok
  exact ⟨its,r,p.tup,z⟩
 ·refine ⟨its.toList,r,⟨o,I.kIn a o hk,hc,n,by simpa using hs⟩,?_⟩
  have e:=r.length
  simp only [Array.length_toList] at e
  omega
theorem Inv.list_inj (I:Inv X pins σ H s) (h:SqL X.K H a xs) (h':SqL X.K H a ys):xs=ys:=by
 obtain ⟨its,r,⟨o,n,e,_,_,d⟩,_⟩:=I.list h
 obtain ⟨its',r',⟨o',n',e',_,_,d'⟩,_⟩:=I.list h'
 rw [e] at e'; cases e'
 rw [d] at d'
 injection d' with d1 _
 have:its=its':=by simpa using congrArg Array.toList d1
 subst this
 exact r.inj r'
theorem Inv.tuple_inj (I:Inv X pins σ H s) (h:SqT X.K H a xs) (h':SqT X.K H a ys):xs=ys:=by
 obtain ⟨its,r,⟨o,e,_,n,d⟩,_⟩:=I.tuple h
 obtain ⟨its',r',⟨o',e',_,n',d'⟩,_⟩:=I.tuple h'
 rw [e] at e'; cases e'
 rw [d] at d'
 injection d' with d1 _
 have:its=its':=by simpa using congrArg Array.toList d1
 subst this
 exact r.inj r'
end
abbrev Cx.wish (X:Cx) (E:Value→W5→Prop):Cx:={ X with xe:=E }
abbrev Cx.nox (X:Cx):Cx:=X.wish fun _ _=>False
theorem Cx.Ok.wish {X:Cx} (ok:X.Ok) (E:Value→W5→Prop):(X.wish E).Ok :=
 ⟨ok.mod,ok.kind,ok.glob,ok.blt,ok.above,ok.inj,ok.has,ok.cab,ok.hd,ok.frames,ok.stk,ok.exf,ok.bs,ok.bsz,ok.noex,ok.exfs,ok.funs,ok.frf⟩
theorem Cx.Ok.unwish {X:Cx} {E:Value→W5→Prop} (ok:(X.wish E).Ok):X.Ok :=
 ⟨ok.mod,ok.kind,ok.glob,ok.blt,ok.above,ok.inj,ok.has,ok.cab,ok.hd,ok.frames,ok.stk,ok.exf,ok.bs,ok.bsz,ok.noex,ok.exfs,ok.funs,ok.frf⟩
section
variable {X:Cx} {pins:List (Addr×Obj)} {σ:St} {H:Hp} {s:W5} {E:Value→W5→Prop}
theorem Inv.wish (I:Inv X pins σ H s) (E:Value→W5→Prop):Inv (X.wish E) pins σ H s:=⟨I.ok.wish E,I.os,I.bare,I.base,I.loc,I.cell,I.free,I.freeC,I.pin,I.hok,I.len⟩
theorem Inv.unwish (I:Inv (X.wish E) pins σ H s):Inv X pins σ H s:=⟨I.ok.unwish,I.os,I.bare,I.base,I.loc,I.cell,I.free,I.freeC,I.pin,I.hok,I.len⟩
theorem SP.unwish (h:SP (X.wish E) pins D f s'):SP X pins D f s':=by
 cases f with
 | next=>obtain ⟨σ',H',I,q⟩:=h; exact ⟨σ',H',I.unwish,q⟩
 | brk=>obtain ⟨σ',H',I,q⟩:=h; exact ⟨σ',H',I.unwish,q⟩
 | cont=>obtain ⟨σ',H',I,q⟩:=h; exact ⟨σ',H',I.unwish,q⟩
 | ret u=>obtain ⟨v,σ',H',I,r,q⟩:=h; exact ⟨v,σ',H',I.unwish,r,q⟩
theorem PE.nox (h:PE X.nox e t):PE X e t:=fun pins s σ H Q I hw =>
 WJ (h pins s σ H Q (I.wish _) hw) (fun _ _ ⟨v,H',I',r,q⟩=>⟨v,H',I'.unwish,r,q⟩) fun _ _ z=>False.elim z
theorem PT.nox (h:PT X.nox e t):PT X e t:=fun pins s σ H Q I hw =>
 WJ (h pins s σ H Q (I.wish _) hw) (fun _ _ ⟨H',I',q⟩=>⟨H',I'.unwish,q⟩) fun _ _ z=>False.elim z
theorem PSs.nox {st:List Stmt} {t:TS} (h:PSs X.nox st t):PSs X st t:=fun pins s σ H D I hw =>
 WJ (h pins s σ H D (I.wish _) hw) (fun _ _ q=>q.unwish) fun _ _ z=>False.elim z
end
section
variable {X:Cx} {st:Stmt} {rest:List Stmt} {t u:TS} {e:Expr} {te:TE} {pos:Pos}
def tNext:TS:=fun D σ H=>D.nx σ H
def tSeq (t u:TS):TS:=fun D σ H=>t { D with nx:=u D } σ H
theorem zeg:PSs X [] tNext:=fun _ _ σ H _ I h=>Jk ⟨σ,H,I,h⟩
theorem zcC (h1:PS X st t) (h2:PSs X rest u):PSs X (st :: rest) (tSeq t u):=by
 intro pins s σ H D I h
 refine wpAny_execs_cons (thn (h1 pins s σ H { D with nx:=u D } I h) fun f s1 q=>?_)
 cases f with
 | next =>
  obtain ⟨σ',H',I',q⟩:=q
  exact h2 pins s1 σ' H' D I' q
 | ret v=>exact q
 | brk=>exact q
 | cont=>exact q
theorem zb1 (h1:PS X st t):PSs X [st] t:=by
 intro pins s σ H D I h
 refine wpAny_execs_cons (thn (h1 pins s σ H D I h) fun f s1 q=>?_)
 cases f with
 | next=>exact Jk q
 | ret v=>exact q
 | brk=>exact q
 | cont=>exact q
theorem Inv.quiet (I:Inv X pins σ H s):interactive X.env=false:=by simp [interactive,I.ok.kind]
def zdR (te:TE):TS:=fun D σ H=>te σ H fun _ H1=>D.nx σ H1
theorem zb5 (he:PE X e te) (hs:J5 e none pos.line X.env=pure false:=by rfl):PS X (.Expr e pos) (zdR te):=by
 intro pins s σ H D I h
 exact wpAny_Expr_any (thn (he pins s σ H _ I h) fun v s1 ⟨x,H1,I1,r1,q1⟩=>⟨σ,H1,I1,q1⟩) I.quiet hs
def tRet (te:TE):TS:=fun D σ H=>te σ H D.rt
theorem zds (he:PE X e te):PS X (.Return (some e) pos) (tRet te):=by
 intro pins s σ H D I h
 exact wpAny_Return_some (thn (he pins s σ H _ I h) fun v s1 ⟨x,H1,I1,r1,q1⟩=>⟨x,σ,H1,I1,r1,q1⟩)
def tIfS (c:TT) (t u:TS):TS:=fun D σ H=>c σ H fun b H1=>if b=true then t D σ H1 else u D σ H1
theorem ps_if (hc:PT X c tc) (ha:PSs X a t) (hb:PSs X b u):PS X (.If c a b pos) (tIfS tc t u):=by
 intro pins s σ H D I h
 refine wpAny_If (thn (hc pins s σ H _ I h) fun d s1 ⟨H1,I1,q1⟩=>?_)
 cases d with
 | true=>exact ha pins s1 σ H1 D I1 q1
 | false=>exact hb pins s1 σ H1 D I1 q1
end
abbrev TG:=V→St→Hp→(St→Hp→Prop)→Prop
abbrev TGs:=List V→St→Hp→(St→Hp→Prop)→Prop
def PG (X:Cx) (target:Expr) (t:TG):Prop :=
 ∀ (pins:List (Addr×Obj)) (s:W5) (σ:St) (H:Hp) (v:V) (u:Value) (Q:St→Hp→Prop),Inv X pins σ H s→RelV v u→t v σ H Q →
  We (model X.prog X.w) X.A (assign target X.env u) (fun _ s'=>∃ σ' H',Inv X pins σ' H' s'∧Q σ' H') X.xe s
def PGs (X:Cx) (ts:List Expr) (t:TGs):Prop :=
 ∀ (pins:List (Addr×Obj)) (s:W5) (σ:St) (H:Hp) (vs:List V) (us:List Value) (Q:St→Hp→Prop),Inv X pins σ H s→Vals vs us→t vs σ H Q →
  We (model X.prog X.w) X.A (assignInOrder ((Q3 ts X.env).map (·.2)) us) (fun _ s'=>∃ σ' H',Inv X pins σ' H' s'∧Q σ' H') X.xe s
abbrev TSet:=V→V→V→Hp→(Hp→Prop)→Prop
def PSet (X:Cx) (t:TSet):Prop :=
 ∀ (pins:List (Addr×Obj)) (s:W5) (σ:St) (H:Hp) (o i v:V) (ov iv u:Value) (Q:Hp→Prop),Inv X pins σ H s→RelV o ov→RelV i iv→RelV v u→t o i v H Q →
  We (model X.prog X.w) X.A (setItem ov iv u) (fun _ s'=>∃ H',Inv X pins σ H' s'∧Q H') X.xe s
section
variable {X:Cx} {pos:Pos}
def zd4 (i:Nat):TG:=fun v σ H Q=>Q (σ.set i (some v)) H
theorem zba (hN:X.N.Nodup) (hi:X.N[i]? = some x) (hx:Loc X.env.scope x) (hf:X.fn x=true∨X.env.scope.names.lookup x=some .local:=by first | exact .inl rfl | exact .inr rfl | assumption):PG X (.Name x pos) (zd4 i):=by
 intro pins s σ H v u Q I r h
 exact wpAny_assign_Name (z94 I hN hi hx r (fun s' I'=>⟨_,H,I',h⟩) hf)
def gNil:TGs:=fun vs σ H Q=>vs=[]∧Q σ H
def gCons (t:TG) (u:TGs):TGs:=fun vs σ H Q=>∃ v r,vs=v :: r∧t v σ H fun σ' H'=>u r σ' H' Q
theorem zb9:PGs X [] gNil:=by
 intro pins s σ H vs us Q I r h
 obtain ⟨e,h⟩:=h
 subst e
 cases r
 exact assignInOrder_nil ⟨σ,H,I,h⟩
theorem z9h (h1:PG X e t) (h2:PGs X es u)
  (hs:(Q3 (e :: es) X.env).map (·.2)=assign e X.env :: (Q3 es X.env).map (·.2):=by rfl):PGs X (e :: es) (gCons t u):=by
 intro pins s σ H vs us Q I r h
 obtain ⟨v,vr,e1,h⟩:=h
 subst e1
 cases r with
 | cons r rr =>
  rw [hs]
  refine assignInOrder_cons (thn (h1 pins s σ H _ _ _ I r h) fun _ s1 ⟨σ1,H1,I1,q1⟩=>?_)
  exact h2 pins s1 σ1 H1 _ _ Q I1 rr q1
def gTup (K:W3) (n:Nat) (t:TGs):TG:=fun v σ H Q=>∃ a xs,v = .ref a∧SqT K H a xs∧xs.length=n∧t xs σ H Q
theorem zdv (hc:X.calm=true) (h:PGs X es t)
  (hn:(Q3 es X.env).length=n:=by rfl) (hst:(Q3 es X.env).findIdx? (·.1)=none:=by rfl):PG X (.Tuple es k pos) (gTup X.K n t):=by
 intro pins s σ H v u Q I r hw
 obtain ⟨a,xs,e1,hq,hl,hw⟩:=hw
 subst e1
 cases r
 obtain ⟨its,rv,ht,hz⟩:=I.tuple hq
 refine assign_Tuple_tuple (I.ok.hd hc) ht (by simp [hn,← hl,rv.length]) hst fun h' hx=>?_
 have I1:Inv X pins σ H { s with heap:=h' }:=I.kept (t':=s.toks) fun b o e=>hx b o (WT (Wn e)) e
 exact h pins _ σ H xs _ Q I1 (by simpa using rv) hw
def gSub (to ti:TE) (t:TSet):TG:=fun v σ H Q=>to σ H fun o H1=>ti σ H1 fun i H2=>t o i v H2 fun H3=>Q σ H3
theorem zfM (ho:PE X o to) (hi:PE X i ti) (hs:PSet X t)
  (ha:∀ v,assign (.Subscript o i pos) X.env v=(do
   let ov ← holding [v] (eval o X.env)
   let iv ← holding [v,ov] (eval i X.env)
   standAt pos
   holding [v,ov,iv] (setItem ov iv v)
   release [v,ov,iv] []):=by intro _; rfl):PG X (.Subscript o i pos) (gSub to ti t):=by
 intro pins s σ H v u Q I r h
 rw [ha]
 refine W4 (Q7 (thn (ho pins s σ H _ I h) fun ov s1 ⟨x,H1,I1,r1,q1⟩=>?_))
 refine W4 (Q7 (thn (hi pins s1 σ H1 _ I1 q1) fun iv s2 ⟨y,H2,I2,r2,q2⟩=>?_))
 refine W4 (wpAny_standAt (W4 (Q7 (thn (hs pins s2 σ H2 x y v ov iv u _ I2 r1 r2 r q2) fun _ s3 ⟨H3,I3,q3⟩=>?_))))
 exact wpAny_release ⟨σ,H3,I3,q3⟩
def tAsg (te:TE) (g:TG):TS:=fun D σ H=>te σ H fun x H1=>g x σ H1 D.nx
theorem zdt (he:PE X e te) (hg:PG X tg g) (hs:swapsWithSole [tg] e pos.line X.env=pure false:=by rfl) (hw:swappedStores [tg] e X.env=pure none:=by rfl)
  (h1:(Q3 [tg] X.env).map (·.2)=[assign tg X.env]:=by rfl):PS X (.Assign [tg] e pos) (tAsg te g):=by
 intro pins s σ H D I h
 refine wpAny_Assign_stores (thn (he pins s σ H _ I h) fun v s1 ⟨x,H1,I1,r1,q1⟩=>?_) hs hw
 rw [h1]
 exact thn (hg pins s1 σ H1 x v _ I1 r1 q1) fun _ s2 q=>q
theorem zfJ (hN:X.N.Nodup) (hi:X.N[i]? = some x) (hx:Loc X.env.scope x) (he:PE X e te) (hs:J5 e (some (.Name x pos')) pos.line X.env=pure false:=by rfl) (hf:X.fn x=true∨X.env.scope.names.lookup x=some .local:=by first | exact .inl rfl | exact .inr rfl | assumption) :
  PS X (.Assign [.Name x pos'] e pos) (tAsg te (zd4 i)):=by
 intro pins s σ H D I h
 refine wpAny_Assign_Name (thn (he pins s σ H _ I h) fun v s1 ⟨y,H1,I1,r1,q1⟩=>?_) hs
 exact z94 I1 hN hi hx r1 (fun s2 I2=>⟨_,H1,I2,q1⟩) hf
end
section
variable {X:Cx} {pos:Pos}
def zdn (c:TT) (tb:TS):TS:=fun D σ H=>∃ W:Nat→St→Hp→Prop,(∃ m,W m σ H)∧∀ m σ H,W m σ H →
 c σ H fun b H1=>if b=true then ∃ N:St→Hp→Prop,(∀ σ' H',N σ' H'→∃ m',m' < m∧W m' σ' H')∧tb { D with nx:=N,ct:=N,bk:=D.nx } σ H1 else D.nx σ H1
theorem z9g (hp:PassesOwn (model X.prog X.w) X.A X.env X.xe) (hc:PT X c tc) (hb:PSs X body tb):PS X (.While c body [] pos) (zdn tc tb):=by
 intro pins s σ H D I h
 obtain ⟨W,⟨m0,w0⟩,turn⟩:=h
 refine wpAny_While (codeAny_whileLoop (fun n s'=>∃ σ' H',Inv X pins σ' H' s'∧W n σ' H') ?_ m0 ⟨σ,H,I,w0⟩)
 rintro n s1 ⟨σ1,H1,I1,w1⟩
 refine QF hp (thn (hc pins s1 σ1 H1 _ I1 (turn n σ1 H1 w1)) fun b s2 ⟨H2,I2,q2⟩=>?_)
 cases b with
 | true =>
  obtain ⟨N,hN,q2⟩:=q2
  rw [if_pos rfl]
  refine QF hp (thn (hb pins s2 σ1 H2 _ I2 q2) fun f s3 q3=>?_)
  cases f with
  | next =>
   obtain ⟨σ3,H3,I3,n3⟩:=q3
   obtain ⟨m',hm,w3⟩:=hN σ3 H3 n3
   exact ⟨m',hm,σ3,H3,I3,w3⟩
  | cont =>
   obtain ⟨σ3,H3,I3,n3⟩:=q3
   obtain ⟨m',hm,w3⟩:=hN σ3 H3 n3
   exact ⟨m',hm,σ3,H3,I3,w3⟩
  | brk=>exact q3
  | ret v=>exact q3
 | false =>
  rw [if_neg Q1]
  exact Jk ⟨σ1,H2,I2,q2⟩
end
structure It where
 go:Nat→Hp→Prop
 yld:Nat→Hp→V→Hp→Prop
 stop:Nat→Hp→Prop
def FpOk (X:Cx) (pins:List (Addr×Obj)) (H:Hp) (b:Addr):Prop :=
 H b=none∧b≠X.env.locals∧b ∉ X.fs∧(b ∈ X.ex∨X.s₀.heap.objs.size≤b)∧(∀ x c,X.env.cells.lookup x=some c→c≠b)∧∀ p ∈ X.pn ++ pins,p.1≠b
theorem Inv.fpOk (I:Inv X pins σ H s) (hb:s.heap.objs.size≤b) (hn:H' b=none):FpOk X pins H' b:=by
 refine ⟨hn,Nat.ne_of_gt (Wt I.lt hb),I.nofs hb,.inr (WG I.sz hb),fun x c e z=>?_,fun p hp z=>?_⟩
 ·obtain ⟨v,q⟩:=I.cell x c e
  exact absurd (Wt q.lt (by rw [z]; exact hb)) (Qj _)
 ·exact absurd (Wt (Wn (I.pin p hp).1) (by rw [z]; exact hb)) (Qj _)
structure Turn (P:Wm) (w:Ws) (K:W3) (tg:Expr) (J:It) (fp:List Addr) (it:Addr) (tn:Nat→Heap→Prop):Prop where
 mem:it ∈ fp
 obj:∀ i h,tn i h→∀ b ∈ fp,∃ o,h.get? b=some o∧∀ v,o.data≠.cell v
 keep:∀ i h h',tn i h→(∀ b ∈ fp,∀ o,h.get? b=some o→h'.get? b=some o)→tn i h'
 item:∀ (X:Cx),X.prog=P→X.w=w→X.K=K→X.calm=true→∀ (i:Nat) (pins:List (Addr×Obj)) (s:W5) (σ:St) (H:Hp) (E:Value→W5→Prop),Inv X pins σ H s→(∀ b ∈ fp,FpOk X pins H b)→tn i s.heap→J.go i H →
  We (model P w) X.A (pyNext (.ref it)) (fun r s1=>∃ u,r=some u ∧
   We (model P w) X.A (letOwnedTupleGo tg (.ref it) u) (fun _ s2=>∃ x H',Inv X pins σ H' s2∧RelV x u∧J.yld i H x H'∧tn (i + 1) s2.heap∧∀ b ∈ fp,H' b=none) E s1) E s
 done:∀ (X:Cx),X.prog=P→X.w=w→X.K=K→X.calm=true→∀ (i:Nat) (pins:List (Addr×Obj)) (s:W5) (σ:St) (H:Hp) (E:Value→W5→Prop),Inv X pins σ H s→(∀ b ∈ fp,FpOk X pins H b)→tn i s.heap→J.stop i H →
  We (model P w) X.A (pyNext (.ref it)) (fun r s1=>r=none∧Inv X pins σ H s1) E s
 self:∀ (A:Wq) (i:Nat) (s:W5) (Q:Value→W5→Prop) (E:Value→W5→Prop),tn i s.heap→Q (.ref it) s→We (model P w) A (pyIter (.ref it)) Q E s
abbrev TI:=St→Hp→(It→Hp→Prop)→Prop
def PIE (X:Cx) (pins:List (Addr×Obj)) (σ:St) (tg:Expr) (R:It→Hp→Prop) (itv:Value) (s2:W5):Prop :=
 ∃ (it:Addr) (fp:List Addr) (tn:Nat→Heap→Prop) (J:It) (H':Hp),itv = .ref it∧Inv X pins σ H' s2∧Turn X.prog X.w X.K tg J fp it tn∧tn 0 s2.heap∧(∀ b ∈ fp,FpOk X pins H' b)∧R J H'
def PI (X:Cx) (tg iter:Expr) (wi:TI):Prop :=
 ∀ (pins:List (Addr×Obj)) (s:W5) (σ:St) (H:Hp) (R:It→Hp→Prop),Inv X pins σ H s→wi σ H R →
  We (model X.prog X.w) X.A (eval iter X.env) (fun v s1=>We (model X.prog X.w) X.A (pyIter v) (PIE X pins σ tg R) X.xe s1) X.xe s
theorem zbG (ho:s.heap.get? it=some o) (hc:o.cls = .type n) (hd:o.data = .fields vs)
  (hn:["enumerate","zip","dict_itemiterator","dict_reverseitemiterator","odict_iterator","itertools.zip_longest","itertools.pairwise"].contains n=false) (hQ:Q () s):We M A (letOwnedTupleGo tg (.ref it) u) Q E s:=by
 unfold letOwnedTupleGo
 cases tg <;> first
  | exact Wc hQ
  | (cases u <;> first
    | exact Wc hQ
    | (refine W4 (wpAny_load ho ?_); rw [hc,hd]; show We M A (if (["enumerate","zip","dict_itemiterator","dict_reverseitemiterator","odict_iterator","itertools.zip_longest","itertools.pairwise"].contains n && vs[0]? == some (rawInt _))=true then _ else _) Q E s; rw [if_neg (by intro h; rw [hn,Bool.false_and] at h; cases h)]; exact Wc hQ))
def Itl (K:W3) (a:Addr):It :=
 ⟨fun i H=>∃ xs x,SqL K H a xs∧xs[i]? = some x,fun i H x H'=>H'=H∧∀ xs,SqL K H a xs→xs[i]? = some x,fun i H=>∃ xs,SqL K H a xs∧xs.length≤i⟩
def Itt (K:W3) (a:Addr):It :=
 ⟨fun i H=>∃ xs x,SqT K H a xs∧xs[i]? = some x,fun i H x H'=>H'=H∧∀ xs,SqT K H a xs→xs[i]? = some x,fun i H=>∃ xs,SqT K H a xs∧xs.length≤i⟩
def Itr (lo:Int) (n:Nat):It:=⟨fun i _=>i < n,fun i H x H'=>H'=H∧x = .int (lo + i),fun i _=>n≤i⟩
theorem zau {P:Wm} {w:Ws} {K:W3} {tg:Expr} (a it:Addr):Turn P w K tg (Itl K a) [it] it (fun i h=>h.IsListIter it a i) where
 mem:=by simp
 obj:=fun i h st b hb=>by
  have e:b=it:=by simpa using hb
  subst e
  obtain ⟨o,e,c,d⟩:=st
  exact ⟨o,e,fun v z=>by rw [d] at z; cases z⟩
 keep:=fun i h h' st k=>st.at fun o e=>k it (by simp) o e
 item:=by
  intro X hP hw hK hc i pins s σ H E I hf st hg
  subst hP hw hK
  obtain ⟨xs,x,hq,hx⟩:=hg
  obtain ⟨its,rv,p,hz⟩:=I.list hq
  obtain ⟨u,hu,ru⟩:=rv.get hx
  obtain ⟨f0,f1,f2,f3,f4,f5⟩:=hf it (by simp)
  refine wpAny_pyNext_list_item st p.isList (x:=u) (by simpa using hu) fun h' st' sb=>?_
  have I1:Inv X pins σ H { s with heap:=h' }:=I.turned (t':=s.toks) (fun b o hb e=>(sb.2 b hb).trans e) f0 f1 f3 f4 f5
  obtain ⟨o,e,c,d⟩:=id st'
  exact ⟨u,rfl,zbG (s:={ s with heap:=h' }) e c d (by decide) ⟨x,H,I1,ru,⟨rfl,fun ys hy=>by rw [I.list_inj hy hq]; exact hx⟩,st',fun b hb=>(hf b hb).1⟩⟩
 done:=by
  intro X hP hw hK hc i pins s σ H E I hf st hg
  subst hP hw hK
  obtain ⟨xs,hq,hx⟩:=hg
  obtain ⟨its,rv,p,hz⟩:=I.list hq
  obtain ⟨f0,f1,f2,f3,f4,f5⟩:=hf it (by simp)
  have hl:=rv.length
  exact wpAny_pyNext_list_end (I.ok.hd hc) st p.isList (by simp; omega) fun h' eb=>⟨rfl,I.turned (t':=s.toks) (fun b o hb e=>eb b o hb e) f0 f1 f3 f4 f5⟩
 self:=fun _ _ _ _ _ st h=>wpAny_pyIter_listiter st h
theorem z9Q {P:Wm} {w:Ws} {K:W3} {tg:Expr} (a it:Addr):Turn P w K tg (Itt K a) [it] it (fun i h=>h.IsTupleIter it a i) where
 mem:=by simp
 obj:=fun i h st b hb=>by
  have e:b=it:=by simpa using hb
  subst e
  obtain ⟨o,e,c,d⟩:=st
  exact ⟨o,e,fun v z=>by rw [d] at z; cases z⟩
 keep:=fun i h h' st k=>st.at fun o e=>k it (by simp) o e
 item:=by
  intro X hP hw hK hc i pins s σ H E I hf st hg
  subst hP hw hK
  obtain ⟨xs,x,hq,hx⟩:=hg
  obtain ⟨its,rv,p,hz⟩:=I.tuple hq
  obtain ⟨u,hu,ru⟩:=rv.get hx
  obtain ⟨f0,f1,f2,f3,f4,f5⟩:=hf it (by simp)
  refine wpAny_pyNext_tuple_item st (show s.heap.IsTuple a its.toArray from p) (x:=u) (by simpa using hu) fun h' st' sb=>?_
  have I1:Inv X pins σ H { s with heap:=h' }:=I.turned (t':=s.toks) (fun b o hb e=>(sb.2 b hb).trans e) f0 f1 f3 f4 f5
  obtain ⟨o,e,c,d⟩:=id st'
  exact ⟨u,rfl,zbG (s:={ s with heap:=h' }) e c d (by decide) ⟨x,H,I1,ru,⟨rfl,fun ys hy=>by rw [I.tuple_inj hy hq]; exact hx⟩,st',fun b hb=>(hf b hb).1⟩⟩
 done:=by
  intro X hP hw hK hc i pins s σ H E I hf st hg
  subst hP hw hK
  obtain ⟨xs,hq,hx⟩:=hg
  obtain ⟨its,rv,p,hz⟩:=I.tuple hq
  obtain ⟨f0,f1,f2,f3,f4,f5⟩:=hf it (by simp)
  have hl:=rv.length
  exact wpAny_pyNext_tuple_end (I.ok.hd hc) st (show s.heap.IsTuple a its.toArray from p) (by simp; omega) fun h' eb=>⟨rfl,I.turned (t':=s.toks) (fun b o hb e=>eb b o hb e) f0 f1 f3 f4 f5⟩
 self:=fun _ _ _ _ _ st h=>wpAny_pyIter_tupleiter st h
theorem z6s {P:Wm} {w:Ws} {K:W3} {tg:Expr} (it:Addr) (lo:Int) (n:Nat):Turn P w K tg (Itr lo n) [it] it (fun i h=>IsRangeIter h it (lo + (i:Nat) * 1) ((n:Int) - (i:Nat)) 1) where
 mem:=by simp
 obj:=fun i h st b hb=>by
  have e:b=it:=by simpa using hb
  subst e
  exact ⟨_,st,fun v z=>by
   have z':Data.fields _=Data.cell v:=z
   cases z'⟩
 keep:=fun i h h' st k=>k it (by simp) _ st
 item:=by
  intro X hP hw hK hc i pins s σ H E I hf st hg
  subst hP hw hK
  obtain ⟨f0,f1,f2,f3,f4,f5⟩:=hf it (by simp)
  have W:=Walks.range (prog:=X.prog) (w:=X.w) (I.ok.hd hc) it lo 1 n
  refine W.item i s _ _ hg st fun v h' tk hv st' kk=>?_
  obtain ⟨t,rfl⟩:=hv
  have I1:Inv X pins σ H { s with heap:=h',toks:=tk }:=I.turned (fun b o hb e=>kk b o (by simpa using hb) e) f0 f1 f3 f4 f5
  refine ⟨_,rfl,zbG (s:={ s with heap:=h',toks:=tk }) (n:="range_iterator") st' rfl rfl (by decide) ⟨.int (lo + i),H,I1,⟨t,?_⟩,⟨rfl,rfl⟩,st',fun b hb=>(hf b hb).1⟩⟩
  rw [Int.mul_one]
 done:=by
  intro X hP hw hK hc i pins s σ H E I hf st hg
  subst hP hw hK
  obtain ⟨f0,f1,f2,f3,f4,f5⟩:=hf it (by simp)
  exact wpAny_pyNext_range_end (I.ok.hd hc) st (by have:n≤i:=hg; omega) fun h' eb=>⟨rfl,I.turned (t':=s.toks) (fun b o hb e=>eb b o hb e) f0 f1 f3 f4 f5⟩
 self:=fun _ _ _ _ _ st h=>wpAny_pyIter_rangeiter st h
section
variable {X:Cx} {tg:Expr}
theorem zcs {pins:List (Addr×Obj)} {σ:St} {H:Hp} {s:W5} {R:It→Hp→Prop} {E:Value→W5→Prop} {lo hi:Int} {t u v:Tok} {tk:Nat} (I:Inv X pins σ H s) (h1 : -(2 ^ 62)≤lo) (h2:lo < 2 ^ 62) (h3 : -(2 ^ 62)≤hi) (h4:hi < 2 ^ 62)
  (q:R (Itr lo (hi - lo).toNat) H):We (model X.prog X.w) X.A (pyIter (.ref s.heap.objs.size)) (PIE X pins σ tg R) E { s with heap:=s.heap.push { cls:=.type "range",data:=.fields #[.int lo t,.int hi u,.int 1 v] },toks:=tk }:=by
 refine wpAny_pyIter_range (IsRange.new ..) (small_one h1 h2 h3 h4) ?_
 have I1:Inv X pins σ H { s with heap:=s.heap.push { cls:=.type "range",data:=.fields #[.int lo t,.int hi u,.int 1 v] },toks:=tk }:=I.kept fun b o e=>Wa _ e
 refine ⟨(s.heap.push { cls:=.type "range",data:=.fields #[.int lo t,.int hi u,.int 1 v] }).objs.size,[(s.heap.push { cls:=.type "range",data:=.fields #[.int lo t,.int hi u,.int 1 v] }).objs.size],_,_,H,rfl,
  I1.kept (t':=tk) fun b o e=>Wa _ e,z6s _ lo (hi - lo).toNat,?_,fun b hb=>?_,q⟩
 ·have e1:lo + ((0:Nat):Int) * 1=lo:=by simp
  have e2:(((hi - lo).toNat:Nat):Int) - ((0:Nat):Int)=Builtin.Range.rangeSize lo hi 1:=by rw [rangeSize_one]; split <;> omega
  show IsRangeIter _ _ (lo + ((0:Nat):Int) * 1) ((((hi - lo).toNat:Nat):Int) - ((0:Nat):Int)) 1
  rw [e1,e2]
  exact Wu _ rfl
 ·have e:b=(s.heap.push { cls:=.type "range",data:=.fields #[.int lo t,.int hi u,.int 1 v] }).objs.size:=by simpa using hb
  subst e
  exact I1.fpOk (Wh _) (I1.hok.fresh (Wh _))
def iRng1 (ta:TA):TI:=fun σ H R=>ta σ H fun vs H1=>∃ j:Int,vs=[.int j]∧-(2 ^ 62)≤j∧j < 2 ^ 62∧R (Itr 0 j.toNat) H1
theorem zb8 {a:Expr} {ta:TA} {p pos:Pos} (hg:Gl X "range") (hm:X.mg "range" = none) (ha:PA X [a] ta) (hs:W7 [a] X.env=[(false,eval a X.env)]:=by rfl):PI X tg (.Call (.Name "range" p) [a] [] pos) (iRng1 ta):=by
 intro pins s σ H R I h
 refine Call_ (z7U I hg hm boot_range (PyProof.Rows.callWith_type1 (thn (ha pos pins s σ H _ I h) fun us s1 ⟨vs,H1,I1,r1,q1⟩=>?_) hs rfl))
 obtain ⟨j,e,q1,q2,q⟩:=q1
 subst e
 cases r1 with
 | cons r rr =>
  cases rr
  obtain ⟨t,rfl⟩:=r
  exact call_range_1 (zcs I1 (by omega) (by omega) q1 q2 (by simpa using q))
def tFor (wi:TI) (g:TG) (tb:TS):TS:=fun D σ H=>wi σ H fun J H1=>∃ W:Nat→Nat→St→Hp→Prop,(∃ m,W 0 m σ H1)∧∀ i m σ H,W i m σ H →
 (J.stop i H∧D.nx σ H)∨(J.go i H∧∃ N:St→Hp→Prop,(∀ σ' H',N σ' H'→∃ m',m' < m∧W (i + 1) m' σ' H')∧∀ x H',J.yld i H x H'→g x σ H' fun σ2 H2=>tb { D with nx:=N,ct:=N,bk:=D.nx } σ2 H2)
def z7F (fp:List Addr) (h:Heap):List (Addr×Obj):=fp.filterMap fun b=>(h.get? b).map fun o=>(b,o)
theorem z3F (hb:b ∈ fp) (e:h.get? b=some o):(b,o) ∈ z7F fp h:=Jn.mpr ⟨b,hb,by rw [e]; rfl⟩
theorem zbl (hp:p ∈ z7F fp h):p.1 ∈ fp∧h.get? p.1=some p.2:=by
 obtain ⟨b,hb,e⟩:=List.mem_filterMap.mp hp
 cases q:h.get? b with
 | none=>rw [q] at e; cases e
 | some o =>
  rw [q] at e
  have e':(b,o)=p:=Wx e
  subst e'
  exact ⟨hb,q⟩
theorem Inv.pinned (I:Inv X pins σ H s) (hf:∀ b ∈ fp,FpOk X pins H b) (ho:∀ b ∈ fp,∃ o,s.heap.get? b=some o∧∀ v,o.data≠.cell v):Inv X (pins ++ z7F fp s.heap) σ H s :=
 I.pins_of fun p hp=>(Qt.mp hp).elim (fun z=>I.pin p (WK _ z)) fun z=>by
  obtain ⟨hb,e⟩:=zbl z
  obtain ⟨f0,f1,f2,_⟩:=hf p.1 hb
  obtain ⟨o,e',d⟩:=ho p.1 hb
  rw [e] at e'; cases e'
  exact ⟨e,f0,f1,f2,d⟩
theorem Inv.unpinned (I:Inv X (pins ++ pl) σ H s):Inv X pins σ H s:=I.pins_of fun p hp=>I.pin p (WK _ (Ja _ hp))
theorem zfK (hp:PassesOwn (model X.prog X.w) X.A X.env X.xe) (hc:X.calm=true) (hi:PI X tg iter wi) (hg:PG X tg g) (hb:PSs X body tb)
  (hs:∀ x,QJ iter X.env x=pure x:=by intro _; rfl):PS X (.For tg iter body [] pos) (tFor wi g tb):=by
 intro pins s σ H D I h
 refine wpAny_For (thn (hi pins s σ H _ I h) fun v s1 h1=>thn h1 fun itv s2 h2=>?_) hs
 obtain ⟨it,fp,tn,J,H2,e,I2,T,st2,f2,W,⟨m0,w0⟩,turn⟩:=h2
 subst e
 -- what stays true of the iterator's objects through the loop
 have stat:∀ {H':Hp},(∀ b ∈ fp,H' b=none)→∀ b ∈ fp,FpOk X pins H' b:=fun hn b hb=>⟨hn b hb,(f2 b hb).2⟩
 refine codeAny_forLoop_any (fun n s'=>∃ i σ' H',Inv X pins σ' H' s'∧tn i s'.heap∧(∀ b ∈ fp,H' b=none)∧W i n σ' H') ?_ m0 ⟨0,σ,H2,I2,st2,fun b hb=>(f2 b hb).1,w0⟩
 rintro n s3 ⟨i,σ3,H3,I3,st3,fr3,w3⟩
 rcases turn i n σ3 H3 w3 with ⟨stop,qn⟩ | ⟨go,N,hN,step⟩
 ·refine QF hp (thn (T.done X rfl rfl rfl hc i pins s3 σ3 H3 X.xe I3 (stat fr3) st3 stop) fun r s4 ⟨hr,I4⟩=>?_)
  subst hr
  exact Jk ⟨σ3,H3,I4,qn⟩
 ·refine QF hp (thn (T.item X rfl rfl rfl hc i pins s3 σ3 H3 X.xe I3 (stat fr3) st3 go) fun r s4 ⟨u,hr,h4⟩=>?_)
  subst hr
  refine QF hp (thn h4 fun _ s5 ⟨x,H5,I5,r5,y5,st5,fr5⟩=>?_)
  have I5':=I5.pinned (stat fr5) (T.obj _ _ st5)
  refine QF hp (thn (hg _ s5 σ3 H5 x u _ I5' r5 (step x H5 y5)) fun _ s6 ⟨σ6,H6,I6,q6⟩=>?_)
  refine QF hp (thn (hb _ s6 σ6 H6 _ I6 q6) fun f s7 q7=>?_)
  have again:∀ {σ7:St} {H7:Hp},Inv X (pins ++ z7F fp s5.heap) σ7 H7 s7→N σ7 H7→∃ m,m < n∧∃ i σ' H',Inv X pins σ' H' s7∧tn i s7.heap∧(∀ b ∈ fp,H' b=none)∧W i m σ' H':=fun {σ7 H7} I7 n7=>by
   obtain ⟨m',hm,w7⟩:=hN σ7 H7 n7
   refine ⟨m',hm,i + 1,σ7,H7,I7.unpinned,T.keep _ _ _ st5 fun b hb o e=>(I7.pin (b,o) (WK _ (WK _ (z3F hb e)))).1,fun b hb=>?_,w7⟩
   obtain ⟨o,e,d⟩:=T.obj _ _ st5 b hb
   exact (I7.pin (b,o) (WK _ (WK _ (z3F hb e)))).2.1
  cases f with
  | next=>obtain ⟨σ7,H7,I7,n7⟩:=q7; exact again I7 n7
  | cont=>obtain ⟨σ7,H7,I7,n7⟩:=q7; exact again I7 n7
  | brk=>obtain ⟨σ7,H7,I7,q7⟩:=q7; exact ⟨σ7,H7,I7.unpinned,q7⟩
  | ret v=>obtain ⟨x7,σ7,H7,I7,r7,q7⟩:=q7; exact ⟨x7,σ7,H7,I7.unpinned,r7,q7⟩
end
abbrev R2:=V→V→Hp→VK→Prop
def OpR (X:Cx) (f:Value→Value→Sem Value) (r:R2):Prop :=
 ∀ (pins:List (Addr×Obj)) (s:W5) (σ:St) (H:Hp) (x y:V) (v u:Value) (Q:VK),Inv X pins σ H s→RelV x v→RelV y u→r x y H Q →
  We (model X.prog X.w) X.A (f v u) (EP X pins σ Q) X.xe s
def UnR (X:Cx) (f:Value→Sem Value) (r:V→Hp→VK→Prop):Prop :=
 ∀ (pins:List (Addr×Obj)) (s:W5) (σ:St) (H:Hp) (x:V) (v:Value) (Q:VK),Inv X pins σ H s→RelV x v→r x H Q →
  We (model X.prog X.w) X.A (f v) (EP X pins σ Q) X.xe s
def CallR (X:Cx) (f:Value) (r:List V→Hp→VK→Prop):Prop :=
 ∀ (pins:List (Addr×Obj)) (s:W5) (σ:St) (H:Hp) (xs:List V) (us:List Value) (Q:VK),Inv X pins σ H s→Vals xs us→r xs H Q →
  We (model X.prog X.w) X.A (call f us) (EP X pins σ Q) X.xe s
def tOp (r:R2) (ta tb:TE):TE:=fun σ H Q=>ta σ H fun x H1=>tb σ H1 fun y H2=>r x y H2 Q
def tUn (r:V→Hp→VK→Prop) (ta:TE):TE:=fun σ H Q=>ta σ H fun x H1=>r x H1 Q
def rI (C:Int→Int→Prop) (g:Int→Int→V):R2:=fun x y H Q=>∃ i j,x = .int i∧y = .int j∧C i j∧Q (g i j) H
def rI0 (g:Int→Int→V):R2:=fun x y H Q=>∃ i j,x = .int i∧y = .int j∧Q (g i j) H
def rU (g:Int→V):V→Hp→VK→Prop:=fun x H Q=>∃ i,x = .int i∧Q (g i) H
section
variable {X:Cx} {a b c:Expr} {ta tb tc:TE} {pos:Pos}
theorem binT (ha:PE X a ta) (hb:PE X b tb) {pins:List (Addr×Obj)} {s:W5} {σ:St} {H:Hp} {R:V→V→Hp→Prop} (I:Inv X pins σ H s)
  (h:ta σ H fun x H1=>tb σ H1 fun y H2=>R x y H2) {Q:Value→W5→Prop} {f:Value→Value→Sem Value}
  (hf:∀ v u s2 x y H2,Inv X pins σ H2 s2→RelV x v→RelV y u→R x y H2→We (model X.prog X.w) X.A (f v u) Q X.xe s2) :
  We (model X.prog X.w) X.A (eval a X.env) (fun v s₁=>We (model X.prog X.w) X.A (eval b X.env) (fun u s₂=>We (model X.prog X.w) X.A (f v u) Q X.xe s₂) X.xe s₁) X.xe s:=by
 refine thn (ha pins s σ H _ I h) fun v s1 ⟨x,H1,I1,r1,q1⟩=>?_
 refine thn (hb pins s1 σ H1 _ I1 q1) fun u s2 ⟨y,H2,I2,r2,q2⟩=>?_
 exact hf v u s2 x y H2 I2 r1 r2 q2
theorem zfR {op:Operator} {r:R2} (ho:OpR X (Qc op) r) (ha:PE X a ta) (hb:PE X b tb):PE X (.BinOp a op b pos) (tOp r ta tb):=by
 intro pins s σ H Q I h
 exact wpAny_BinOp (binT ha hb I h fun v u s2 x y H2 I2 rx ry q=>ho pins s2 σ H2 x y v u Q I2 rx ry q)
theorem zfO (ho:UnR X (unaryOp op) r) (ha:PE X a ta):PE X (.UnaryOp op a pos) (tUn r ta):=by
 intro pins s σ H Q I h
 exact UnaryOp_ (thn (ha pins s σ H _ I h) fun v s1 ⟨x,H1,I1,r1,q1⟩=>ho pins s1 σ H1 x v Q I1 r1 q1)
theorem opI {f:Value→Value→Sem Value} {C:Int→Int→Prop} {g:Int→Int→Int}
  (rule:∀ (i j:Int) (t u:Tok) (s:W5) (Q:Value→W5→Prop) (E:Value→W5→Prop),C i j→Q (.int (g i j) s.toks) { s with toks:=s.toks + 1 }→We (model X.prog X.w) X.A (f (.int i t) (.int j u)) Q E s) :
  OpR X f (rI C fun i j=>.int (g i j)):=by
 intro pins s σ H x y v u Q I rx ry h
 obtain ⟨i,j,rfl,rfl,hc,q⟩:=h
 obtain ⟨t,rfl⟩:=rx
 obtain ⟨t',rfl⟩:=ry
 exact rule i j t t' s _ _ hc ⟨.int (g i j),H,I.tok _,⟨_,rfl⟩,q⟩
theorem opI0 {f:Value→Value→Sem Value} {g:Int→Int→Int}
  (rule:∀ (i j:Int) (t u:Tok) (s:W5) (Q:Value→W5→Prop) (E:Value→W5→Prop),Q (.int (g i j) s.toks) { s with toks:=s.toks + 1 }→We (model X.prog X.w) X.A (f (.int i t) (.int j u)) Q E s) :
  OpR X f (rI0 fun i j=>.int (g i j)):=by
 intro pins s σ H x y v u Q I rx ry h
 obtain ⟨i,j,rfl,rfl,q⟩:=h
 obtain ⟨t,rfl⟩:=rx
 obtain ⟨t',rfl⟩:=ry
 exact rule i j t t' s _ _ ⟨.int (g i j),H,I.tok _,⟨_,rfl⟩,q⟩
theorem opB0 {f:Value→Value→Sem Value} {g:Int→Int→Bool}
  (rule:∀ (i j:Int) (t u:Tok) (s:W5) (Q:Value→W5→Prop) (E:Value→W5→Prop),Q (.bool (g i j)) s→We (model X.prog X.w) X.A (f (.int i t) (.int j u)) Q E s) :
  OpR X f (rI0 fun i j=>.bl (g i j)):=by
 intro pins s σ H x y v u Q I rx ry h
 obtain ⟨i,j,rfl,rfl,q⟩:=h
 obtain ⟨t,rfl⟩:=rx
 obtain ⟨t',rfl⟩:=ry
 exact rule i j t t' s _ _ ⟨.bl (g i j),H,I,rfl,q⟩
def CDiv (i j:Int):Prop:=0 < j∧j < 1073741824
def CPow (i j:Int):Prop:=0≤j∧j≤1000000∧i.natAbs < 2 ^ 64
def CMul (i j:Int):Prop:=(-(2 ^ 64) < i∧i < 2 ^ 64)∨(-(2 ^ 64) < j∧j < 2 ^ 64)
theorem CMul.ok (h:CMul i j):IntMulOk i j:=by
 rcases h with ⟨h1,h2⟩ | ⟨h1,h2⟩
 ·exact .of_left (intBits_le_64 h1 h2)
 ·exact .of_right (intBits_le_64 h1 h2)
theorem op_add:OpR X (Qc .Add) (rI0 fun i j=>.int (i + j)):=opI0 fun _ _ _ _ _ _ _ q=>add_int q
theorem z3N:OpR X (Qc .Sub) (rI0 fun i j=>.int (i - j)):=opI0 fun _ _ _ _ _ _ _ q=>sub_int q
theorem op_mul:OpR X (Qc .Mult) (rI CMul fun i j=>.int (i * j)):=opI fun _ _ _ _ _ _ _ hc q=>mul_int q hc.ok
theorem z44:OpR X (Qc .FloorDiv) (rI CDiv fun i j=>.int (i / j)):=opI fun i j _ _ _ _ _ hc q=>by
 have h1:(0:Int) < j:=hc.1
 have h2:j < 1073741824:=hc.2
 exact floordiv_int (by omega) (by rw [Int.fdiv_eq_ediv_of_nonneg i (by omega)]; exact q) (.inl (PyProof.noPylong_small (by omega)))
theorem z5L:OpR X (Qc .Mod) (rI (fun _ j=>0 < j) fun i j=>.int (i % j)):=opI fun i j _ _ _ _ _ hc q=>by
 have h1:(0:Int) < j:=hc
 exact mod_int' (by omega) (by rw [Int.fmod_eq_emod_of_nonneg i (by omega)]; exact q)
theorem z53:OpR X (Qc .Pow) (rI CPow fun i j=>.int (i ^ j.toNat)):=opI fun _ _ _ _ _ _ _ hc q=>pow_int_small hc.1 hc.2.1 hc.2.2 q
theorem unI {f:Value→Sem Value} {g:Int→Int}
  (rule:∀ (i:Int) (t:Tok) (s:W5) (Q:Value→W5→Prop) (E:Value→W5→Prop),Q (.int (g i) s.toks) { s with toks:=s.toks + 1 }→We (model X.prog X.w) X.A (f (.int i t)) Q E s) :
  UnR X f (rU fun i=>.int (g i)):=by
 intro pins s σ H x v Q I rx h
 obtain ⟨i,rfl,q⟩:=h
 obtain ⟨t,rfl⟩:=rx
 exact rule i t s _ _ ⟨.int (g i),H,I.tok _,⟨_,rfl⟩,q⟩
theorem zdl:UnR X (unaryOp .USub) (rU fun i=>.int (-i)):=unI fun _ _ _ _ _ q=>neg_int q
end
section
variable {X:Cx} {a b c:Expr} {ta tb tc:TE} {pos:Pos}
theorem zdE (I:Inv X pins σ H s) (q:Q (.bl k) H) (e:k=k'):EP X pins σ Q (.bool k') s:=by
 subst e
 exact ⟨.bl k,H,I,rfl,q⟩
theorem op_lt:OpR X (Wz .Lt) (rI0 fun i j=>.bl (decide (i < j))):=opB0 fun _ _ _ _ _ _ _ q=>lt_int q
theorem op_le:OpR X (Wz .LtE) (rI0 fun i j=>.bl (decide (i≤j))):=opB0 fun _ _ _ _ _ _ _ q=>le_int q
theorem op_gt:OpR X (Wz .Gt) (rI0 fun i j=>.bl (decide (j < i))):=opB0 fun _ _ _ _ _ _ _ q=>gt_int q
theorem op_ge:OpR X (Wz .GtE) (rI0 fun i j=>.bl (decide (j≤i))):=opB0 fun _ _ _ _ _ _ _ q=>ge_int q
theorem zbj:OpR X (Wz .Lt) (fun x y H Q=>∃ i j,x = .str i∧y = .str j∧Q (.bl (decide (i.cps.toList < j.cps.toList))) H):=by
 intro pins s σ H x y v u Q I rx ry h
 obtain ⟨i,j,rfl,rfl,q⟩:=h
 obtain ⟨t,rfl⟩:=rx
 obtain ⟨t',rfl⟩:=ry
 exact lt_str (zdE I q rfl)
theorem z7H:OpR X (Wz .NotIn) (fun x y H Q=>∃ i j,x = .str i∧y = .str j∧Q (.bl (!(!(Builtin.Str.occurrences j i 0 j.length 1).isEmpty))) H):=by
 intro pins s σ H x y v u Q I rx ry h
 obtain ⟨i,j,rfl,rfl,q⟩:=h
 obtain ⟨t,rfl⟩:=rx
 obtain ⟨t',rfl⟩:=ry
 exact notIn_str (zdE I q rfl)
theorem OpR.or (h:OpR X f r) (h':OpR X f r'):OpR X f (fun x y H Q=>r x y H Q∨r' x y H Q):=by
 intro pins s σ H x y v u Q I rx ry q
 rcases q with q | q
 ·exact h pins s σ H x y v u Q I rx ry q
 ·exact h' pins s σ H x y v u Q I rx ry q
theorem z0Q (b:Expr) (h:op≠.In:=by decide) (h2:op≠.NotIn:=by decide):Qk op b=false:=by
 have e1:(op == CmpOp.In)=false:=by cases op <;> first | rfl | exact absurd rfl h
 have e2:(op == CmpOp.NotIn)=false:=by cases op <;> first | rfl | exact absurd rfl h2
 cases b <;> simp [Qk,e1,e2]
theorem zbb {op:CmpOp} {r:R2} (ho:OpR X (Wz op) r) (ha:PE X a ta) (hb:PE X b tb) (hm:Qk op b=false):PE X (.Compare a [op] [b] pos) (tOp r ta tb):=by
 intro pins s σ H Q I h
 exact wpAny_Compare1 (binT ha hb I h fun v u s2 x y H2 I2 rx ry q=>ho pins s2 σ H2 x y v u Q I2 rx ry q) hm
def tTest (t:TE):TT:=fun σ H Q=>t σ H fun x H'=>∃ k,x = .bl k∧Q k H'
theorem zb0 (ho:OpR X (Wz op) r) (ha:PE X a ta) (hb:PE X b tb) (hm:Qk op b=false):PT X (.Compare a [op] [b] pos) (tTest (tOp r ta tb)):=by
 intro pins s σ H Q I h
 refine wpAny_isTrue_Compare1 (thn (ha pins s σ H _ I h) fun v s1 ⟨x,H1,I1,r1,q1⟩=>thn (hb pins s1 σ H1 _ I1 q1) fun u s2 ⟨y,H2,I2,r2,q2⟩ =>
  thn (ho pins s2 σ H2 x y v u _ I2 r1 r2 q2) fun c s3 ⟨z,H3,I3,r3,k,e,q3⟩=>?_) hm
 subst e
 cases r3
 exact Ql ⟨H3,I3,q3⟩
theorem z6G:(W6:Nat) < 2 ^ 63:=by rw [sizeLine_eq]; decide
theorem op_add_str:OpR X (Qc .Add) (fun x y H Q=>∃ i j,x = .str i∧y = .str j∧i.length + j.length≤W6∧Q (.str (i ++ j)) H):=by
 intro pins s σ H x y v u Q I rx ry h
 obtain ⟨i,j,rfl,rfl,hz,q⟩:=h
 obtain ⟨t,rfl⟩:=rx
 obtain ⟨t',rfl⟩:=ry
 exact add_str (fun t' tk=>⟨.str (i ++ j),H,I.tok _,⟨_,rfl⟩,q⟩) hz
theorem z6c (r:Vals [x] us):∃ u,us=[u]∧RelV x u:=by
 cases r with
 | cons r1 r2=>cases r2; exact ⟨_,rfl,r1⟩
theorem zcg (r:Vals [x,y] us):∃ u w',us=[u,w']∧RelV x u∧RelV y w':=by
 cases r with
 | cons r1 r2 =>
  cases r2 with
  | cons r3 r4=>cases r4; exact ⟨_,_,rfl,r1,r3⟩
theorem zc3 (hc:X.calm=true):CallR X (.builtin "max") (fun xs H Q=>∃ i j,xs=[.int i,.int j]∧Q (.int (if j > i then j else i)) H):=by
 intro pins s σ H xs us Q I r h
 obtain ⟨i,j,rfl,q⟩:=h
 obtain ⟨u,w',rfl,⟨t,rfl⟩,⟨t',rfl⟩⟩:=zcg r
 refine max_two_ints (I.ok.hd hc) fun h' tk k=>⟨_,H,I.kept k,?_,q⟩
 by_cases hj:j > i
 ·rw [if_pos hj,if_pos hj]; exact ⟨_,rfl⟩
 ·rw [if_neg hj,if_neg hj]; exact ⟨_,rfl⟩
theorem zc2 (hc:X.calm=true):CallR X (.builtin "min") (fun xs H Q=>∃ i j,xs=[.int i,.int j]∧Q (.int (if j < i then j else i)) H):=by
 intro pins s σ H xs us Q I r h
 obtain ⟨i,j,rfl,q⟩:=h
 obtain ⟨u,w',rfl,⟨t,rfl⟩,⟨t',rfl⟩⟩:=zcg r
 refine min_two_ints (I.ok.hd hc) fun h' tk k=>⟨_,H,I.kept k,?_,q⟩
 by_cases hj:j < i
 ·rw [if_pos hj,if_pos hj]; exact ⟨_,rfl⟩
 ·rw [if_neg hj,if_neg hj]; exact ⟨_,rfl⟩
theorem zc5:CallR X (.type "int") (fun xs H Q=>(∃ i,xs=[.int i]∧Q (.int i) H)∨∃ k,xs=[.bl k]∧Q (.int (if k then 1 else 0)) H):=by
 intro pins s σ H xs us Q I r h
 rcases h with ⟨i,rfl,q⟩ | ⟨k,rfl,q⟩
 ·obtain ⟨u,rfl,t,rfl⟩:=z6c r
  exact call_int_int ⟨.int i,H,I,⟨_,rfl⟩,q⟩
 ·obtain ⟨u,rfl,r1⟩:=z6c r
  cases r1
  exact call_int_bool ⟨.int (if k then 1 else 0),H,I.tok _,⟨_,rfl⟩,q⟩
end
structure ObjM (h:Heap) (x dx C:Addr) (mA:Str→Option Value):Prop where
 obj:h.get? x=some (PySem.W.instObj C dx)
 ns:h.Ns1 dx mA
 ne:dx≠x
theorem zbr {h:Heap} {dx:Addr} {mA:Str→Option Value} (n:h.Ns1 dx mA):∃ od,h.get? dx=some od∧∀ name,PySem.W.lookIn name od=some (mA name):=by
 obtain ⟨o,es,ep,ho,hd,hk,_,hm⟩:=n
 refine ⟨o,ho,fun name=>?_⟩
 have e:=hm name
 unfold nsFind findBy at e
 rw [← Array.find?_toList] at e
 unfold PySem.W.lookIn
 rw [hd]
 dsimp only
 split
 ·rename_i y q
  rw [q] at e
  exact congrArg some e
 ·rename_i q
  rw [q] at e
  have a:es.toList.any (·.refKey)=false:=by
   rw [Jy]
   intro y hy
   obtain ⟨z,t,hkey⟩:=hk y (Array.mem_toList_iff.mp hy)
   simp [DictEntry.refKey,hkey]
  have a':¬ es.toList.any (·.refKey)=true:=by rw [a]; exact Q1
  rw [if_neg a']
  exact congrArg some e
theorem ObjM.look (I:ObjM h x dx C mA):∃ od,PySem.W.InstAt h x (PySem.W.instObj C dx) C (some od)∧∀ name,PySem.W.lookIn name od=some (mA name) :=
 let ⟨od,ho,hl⟩:=zbr I.ns
 ⟨od,⟨I.obj,rfl,rfl,ho⟩,hl⟩
section
variable {prog:Wm} {w:Ws} {A:Wq} {E:Value→W5→Prop} {s:W5} {K:W3} {x dx C f:Addr} {mA:Str→Option Value} {name:Str} {v:Value}
end
theorem RelO.some_of (r:RelO (some v) o):∃ u,o=some u∧RelV v u:=by
 cases o with
 | none=>exact (show False from r).elim
 | some u=>exact ⟨u,rfl,r⟩
section
variable {P:Wm} {w:Ws} {H H':Hp} {h h':Heap} {a C dx:Addr} {fs fs':List (Str×V)}
theorem zeF (hok:HOk P w H h) (e:H a=some (.ins C dx fs)):∃ mA,ObjM h a dx C mA∧(∀ f,RelO (fs.lookup f) (mA f))∧PySem.Within mA (fs.map (·.1))∧fs.length≤1000∧H dx=some (.own a):=by
 obtain ⟨d,z,ne,ob,mA,n,r,q⟩:=(show ObjOk P w H h a (.ins C dx fs) from hok a _ e)
 exact ⟨mA,⟨ob,n,ne⟩,r,q,z,d⟩
end
structure Cls (K:W3) (C:Addr):Prop where
 pg:PySem.W.plainGet K C Str.empty=true
 hd:PySem.W.hasDictIn K C=true
 po:PySem.W.plainOver K C=true
 sa:Jt K (.ref C) "__setattr__" = some (some (.builtin "object.__setattr__"))
theorem Cls.get {K:W3} {C:Addr} (c:Cls K C) (f:Str):PySem.W.plainGet K C f=true:=c.pg
structure Con (K:W3) (C:Addr) (f:Str) (v:V) (u:Value):Prop where
 at_:Jt K (.ref C) f=some (some u)
 rel:RelV v u
 get:PySem.W.specialIn K u "__get__" = some none
 cp:PySem.W.copiedNames.contains f=false
structure Meth (K:W3) (C:Addr) (m:Str) (f:Addr):Prop where
 at_:Jt K (.ref C) m=some (some (.ref f))
 fn:PySem.W.isFn K (.ref f)=true
 kp:Q9 K (.ref f)=true
section
variable {X:Cx} {pins:List (Addr×Obj)} {σ:St} {H:Hp} {s:W5} {a C dx:Addr} {fs:List (Str×V)} {f:Str} {v:V} {A:Wq} {E:Value→W5→Prop}
end
section
variable {X:Cx} {o e value:Expr} {f:Str} {pos pos' tpos:Pos} {ta tv:TE}
end
section
variable {X:Cx} {pins:List (Addr×Obj)} {σ:St} {H:Hp} {s:W5} {A:Wq} {E:Value→W5→Prop} {Q:Value→W5→Prop} {c:Value} {b:Bool}
inductive TyOf (K:W3) (H:Hp):V→Value→Prop where
 | non:TyOf K H .non (.type "NoneType")
 | bl (x:Bool):TyOf K H (.bl x) (.type "bool")
 | int (i:Int):TyOf K H (.int i) (.type "int")
 | str (x:Str):TyOf K H (.str x) (.type "str")
 | flt (x:UInt64):TyOf K H (.flt x) (.type "float")
 | lst {a:Addr} {xs:List V} (e:H a=some (.lst xs)):TyOf K H (.ref a) (.type "list")
 | frz {a:Addr} {o:Obj} {xs:List V} (e:H a=some (.frz o (.lst xs))):TyOf K H (.ref a) (.type "list")
 | tup {a:Addr} {xs:List V} (e:H a=some (.tup xs)):TyOf K H (.ref a) (.type "tuple")
 | dK {a:Addr} {kvs:List (Key×V)} (e:H a=some (.dK kvs)):TyOf K H (.ref a) (.type "dict")
 | dT {a:Addr} {kvs:List (List Key×V)} (e:H a=some (.dT kvs)):TyOf K H (.ref a) (.type "dict")
 | ins {a C dx:Addr} {fs:List (Str×V)} (e:H a=some (.ins C dx fs)) (cl:Cls K C) (ha:Jt K (.ref C) "__class__" = some (some (.builtin "object.__class__")))
   (hn:PySem.W.specialIn K (.builtin "object.__class__") "__get__" = some (some (.builtin "getset_descriptor.__get__"))) (htk:PySem.W.takesIn K (.builtin "object.__class__")=some true)
   (hm:PySem.W.mroIn K C (.type "object")=some true):TyOf K H (.ref a) (.ref C)
theorem z27 (I:Inv X pins σ H s) (rx:RelV x u) (ty:TyOf X.K H x t) (e:Qq X.K t c=some b) (h:∀ tk,Q (.bool b) { s with toks:=tk }) :
  We (model X.prog X.w) A (call (.builtin "isinstance") [u,c]) Q E s:=by
 cases ty with
 | non=>cases (show u=Value.none from rx); exact WV PySem.W.kitx_none I.kIn True.intro e (fun z=>nomatch z) h
 | bl y=>cases (show u=Value.bool y from rx); exact WV PySem.W.kitx_bool I.kIn True.intro e (fun z=>nomatch z) h
 | int i=>obtain ⟨t,q⟩:=(show ∃ t,u=Value.int i t from rx); cases q; exact WV PySem.W.kitx_int I.kIn True.intro e (fun z=>nomatch z) h
 | str y=>obtain ⟨t,q⟩:=(show ∃ t,u=Value.str y t from rx); cases q; exact WV PySem.W.kitx_str I.kIn True.intro e (fun z=>nomatch z) h
 | flt y=>obtain ⟨t,q⟩:=(show ∃ t,u=Value.float y t from rx); cases q; exact WV PySem.W.kitx_float I.kIn True.intro e (fun z=>nomatch z) h
 | @lst a xs ea =>
  cases (show u=Value.ref a from rx)
  obtain ⟨_,_,n,_,h1⟩:=(show ObjOk X.prog X.w H s.heap a (.lst xs) from I.hok a _ ea)
  exact WV PySem.W.kitx_list I.kIn ⟨_,h1,rfl⟩ e (fun z=>nomatch z) h
 | @frz a ob xs ea =>
  cases (show u=Value.ref a from rx)
  obtain ⟨_,_,_,n,_,h1⟩:=(show ObjOk X.prog X.w H s.heap a (.frz ob (.lst xs)) from I.hok a _ ea)
  exact WV PySem.W.kitx_list I.kIn ⟨_,h1,rfl⟩ e (fun z=>nomatch z) h
 | @tup a xs ea =>
  cases (show u=Value.ref a from rx)
  obtain ⟨_,_,_,p⟩:=(show ObjOk X.prog X.w H s.heap a (.tup xs) from I.hok a _ ea)
  obtain ⟨o,h1,h2,_⟩:=p.tup
  exact WV PySem.W.kitx_tuple I.kIn ⟨o,h1,h2⟩ e (fun z=>nomatch z) h
 | @dK a kvs ea =>
  cases (show u=Value.ref a from rx)
  obtain ⟨_,_,vs,_,p⟩:=(show ObjOk X.prog X.w H s.heap a (.dK kvs) from I.hok a _ ea)
  obtain ⟨o,es,ep,h1,h2,_⟩:=p
  exact WV PySem.W.kitx_dict I.kIn ⟨o,h1,h2.1⟩ e (fun z=>nomatch z) h
 | @dT a kvs ea =>
  cases (show u=Value.ref a from rx)
  obtain ⟨_,_,xs,_,o,es,ep,h1,h2,_⟩:=(show ObjOk X.prog X.w H s.heap a (.dT kvs) from I.hok a _ ea)
  exact WV PySem.W.kitx_dict I.kIn ⟨o,h1,h2.1⟩ e (fun z=>nomatch z) h
 | @ins a C dx fs ea cl ha hn htk hm =>
  cases (show u=Value.ref a from rx)
  obtain ⟨mA,O,_⟩:=zeF I.hok ea
  obtain ⟨od,J,_⟩:=O.look
  exact WV (PySem.W.kitx_own (cl.get _) cl.hd ha hn htk hm) I.kIn J e (fun z=>nomatch z) h
end
structure Room (k:Nat) (A:Wq):Prop where
 hd:A.handled=none
 dp:A.depth + 3 * k + 5 < recursionLimit
 un:A.units + 16 * k + 200 < Q4
theorem Room.mono (r:Room k A) (h:j≤k):Room j A:=⟨r.hd,by have:=r.dp; omega,by have:=r.un; omega⟩
theorem Room.deeper (r:Room (k + 1) A) (env:Env):Room k (A.deeper env) :=
 ⟨r.hd,by have:=r.dp; show A.depth + 1 + 3 * k + 5 < _; omega,by have:=r.un; show A.units + 3 + 16 * k + 200 < _; omega⟩
theorem Room.in1 (r:Room (k + 1) A):Room k A.in1 :=
 ⟨r.hd,by have:=r.dp; show A.depth + 3 * k + 5 < _; omega,by have:=r.un; show A.units + 1 + 16 * k + 200 < _; omega⟩
theorem zac {A:Wq} {C:Addr} {us:List Value} {kw:List (Str×Value)}:(A.under (.builtin "type.__call__" ⟨.ref C :: us,kw⟩)).depth=A.depth + 1:=by
 first | rfl | simp [Around.under,Code.weight,Code.isCreation,Code.isGuard,Code.isCaller,Code.frames,Code.isFrame,guardIds]
theorem zab {A:Wq} {C:Addr} {us:List Value} {kw:List (Str×Value)}:(A.under (.builtin "type.__call__" ⟨.ref C :: us,kw⟩)).units=A.units + 1:=by
 first | rfl | simp [Around.under,Code.cUnits,Code.frames,Code.isFrame]
theorem Room.make (r:Room (k + 1) A) (C:Addr) (us:List Value) (kw:List (Str×Value)):Room k (A.under (.builtin "type.__call__" ⟨.ref C :: us,kw⟩)) :=
 ⟨r.hd,by have:=r.dp; rw [zac]; omega,by have:=r.un; rw [zab]; omega⟩
theorem Room.depth (r:Room k A):A.depth < recursionLimit:=by have:=r.dp; omega
theorem Room.units (r:Room k A):A.units + 64 < Q4:=by have:=r.un; omega
def tNil:TA:=fun _ H Q=>Q [] H
def zfa (ta:TE) (tr:TA):TA:=fun σ H Q=>ta σ H fun x H1=>tr σ H1 fun xs H2=>Q (x :: xs) H2
section
variable {X:Cx} {e:Expr} {es:List Expr} {te:TE} {t:TA} {pos:Pos}
theorem z2d:PA X [] tNil:=fun _ _ _ _ H Q I h=>Calls.spliced_nil ⟨[],H,I,.nil,h⟩
theorem z0U (ha:PE X e te) (hr:PA X es t) (hs:W7 (e :: es) X.env=(false,eval e X.env) :: W7 es X.env:=by rfl):PA X (e :: es) (zfa te t):=by
 intro pos pins s σ H Q I h
 rw [hs]
 show We _ _ (spliced ((false,eval e X.env) :: WU pos (W7 es X.env))) _ _ s
 refine Calls.spliced_cons (thn (ha pins s σ H _ I h) fun u s1 ⟨x,H1,I1,r1,q1⟩=>?_)
 exact thn (hr pos pins s1 σ H1 _ I1 q1) fun us s2 ⟨xs,H2,I2,r2,q2⟩=>⟨x :: xs,H2,I2,.cons r1 r2,q2⟩
def tTup (t:TA):TE:=fun σ H Q=>t σ H fun xs H1=>xs.length≤W6∧∀ p,H1 p=none→Q (.ref p) (upd H1 p (.tup xs))
def tLst (t:TA):TE:=fun σ H Q=>t σ H fun xs H1=>xs.length≤W6∧∀ p,H1 p=none→Q (.ref p) (upd H1 p (.lst xs))
theorem zfP {x1} (h:PA X es t):PE X (.Tuple es x1 pos) (tTup t):=by
 intro pins s σ H Q I hq
 refine wpAny_Tuple_spliced (thn (h pos pins s σ H _ I hq) fun us s1 ⟨xs,H1,I1,r,z,q⟩=>⟨by rw [← r.length]; exact z,?_⟩)
 have hf:H1 s1.heap.objs.size=none:=I1.hok.fresh (Wh _)
 refine ⟨.ref s1.heap.objs.size,upd H1 s1.heap.objs.size (.tup xs),I1.laid (t':=s1.toks) (fun b u e=>Wa _ e) (Wh _) ?_,rfl,q _ hf⟩
 exact ⟨z,us,r,⟨_,Wu _ rfl⟩⟩
theorem zfV (h:PA X es t):PE X (.List es pos) (tLst t):=by
 intro pins s σ H Q I hq
 refine wpAny_List_spliced (thn (h pos pins s σ H _ I hq) fun us s1 ⟨xs,H1,I1,r,z,q⟩=>⟨by rw [← r.length]; exact z,?_⟩)
 have hf:H1 s1.heap.objs.size=none:=I1.hok.fresh (Wh _)
 refine ⟨.ref s1.heap.objs.size,upd H1 s1.heap.objs.size (.lst xs),I1.laid (t':=s1.toks) (fun b u e=>Wa _ e) (Wh _) ?_,rfl,q _ hf⟩
 exact ⟨z,us,0,r,Wu _ rfl⟩
end
abbrev Sp:=List V→Hp→VK→XK→Prop
abbrev CXT:=List Env→Hp→W5→XK→Value→W5→Prop
structure Env0 (P:Wm) (w:Ws) (K:W3) (mg:Str→Option Value) (base:Heap) (A:Wq) (outer:List Env) (s:W5) (H:Hp):Prop where
 frames:A.frames=some outer
 mod:Mod K mg base
 bs:∀ b o,base.get? b=some o→s.heap.get? b=some o∧H b=none
 bsz:base.objs.size≤s.heap.objs.size
 funs:s.heap.FunFrames base outer
 frf:∀ b ∈ frs outer,H b=none
 hok:HOk P w H s.heap
 bare:AllBare s.gens
def CE (outer:List Env) (P:Wm) (w:Ws) (H:Hp) (s:W5) (Q:VK) (u:Value) (s':W5):Prop :=
 ∃ v H',s'.os=s.os∧AllBare s'.gens∧Un (frs outer) [] H H' s.heap s'.heap∧HOk P w H' s'.heap∧RelV v u∧Q v H'
def CR (CX:CXT) (outer:List Env) (P:Wm) (w:Ws) (H:Hp) (s:W5) (Q:VK) (E:XK) (r:Result) (s':W5):Prop :=
 match r with
 | .ok (.ret u)=>CE outer P w H s Q u s'
 | .ok _=>False
 | .error e=>CX outer H s E e s'
structure FnOk (P:Wm) (w:Ws) (K:W3) (mg:Str→Option Value) (base:Heap) (CX:CXT) (k:Nat) (f:Addr) (fd:WC) (ps:List Str) (sp:Sp):Prop where
 len:∀ vs H Q E,sp vs H Q E→vs.length=ps.length
 run:∀ (A:Wq) (outer:List Env) (s:W5) (H:Hp) (args:Args) (us:List Value) (vs:List V) (Q:VK) (E:XK),Room k A→Env0 P w K mg base A outer s H→BindsTo s fd args (ps.zip us)→Vals vs us→sp vs H Q E →
  QC (model P w) A (.call (.ref f) args) (CR CX outer P w H s Q E) s
theorem FnOk.mono {P:Wm} {w:Ws} {K:W3} {mg:Str→Option Value} {base:Heap} {CX:CXT} {j k:Nat} {f:Addr} {fd:WC} {ps:List Str} {sp:Sp} (F:FnOk P w K mg base CX j f fd ps sp) (h:j≤k) :
  FnOk P w K mg base CX k f fd ps sp:=⟨F.len,fun A outer s H args us vs Q E hr=>F.run A outer s H args us vs Q E (hr.mono h)⟩
theorem FnOk.imp {P:Wm} {w:Ws} {K:W3} {mg:Str→Option Value} {base:Heap} {CX:CXT} {k:Nat} {f:Addr} {fd:WC} {ps:List Str} {sp sp':Sp} (F:FnOk P w K mg base CX k f fd ps sp)
  (h:∀ vs H Q E,sp' vs H Q E→sp vs H Q E):FnOk P w K mg base CX k f fd ps sp' :=
 ⟨fun vs H Q E q=>F.len vs H Q E (h _ _ _ _ q),fun A outer s H args us vs Q E hr he hb hv hs=>F.run A outer s H args us vs Q E hr he hb hv (h _ _ _ _ hs)⟩
theorem Env0.make {P:Wm} {w:Ws} {K:W3} {mg:Str→Option Value} {base:Heap} {A:Wq} {outer:List Env} {s:W5} {H:Hp} (e:Env0 P w K mg base A outer s H) (C:Addr) (us:List Value) (kw:List (Str×Value)) :
  Env0 P w K mg base (A.under (.builtin "type.__call__" ⟨.ref C :: us,kw⟩)) outer s H:=⟨by first | exact e.frames | (simpa [Around.under,Code.envs,Code.isFrame,pushEnvs] using e.frames),e.mod,e.bs,e.bsz,e.funs,e.frf,e.hok,e.bare⟩
theorem Env0.in1 {P:Wm} {w:Ws} {K:W3} {mg:Str→Option Value} {base:Heap} {A:Wq} {outer:List Env} {s:W5} {H:Hp} (e:Env0 P w K mg base A outer s H) :
  Env0 P w K mg base A.in1 outer s H:=⟨e.frames,e.mod,e.bs,e.bsz,e.funs,e.frf,e.hok,e.bare⟩
section
variable {X:Cx} {pins:List (Addr×Obj)} {σ:St} {H:Hp} {s s':W5}
theorem Inv.env0 (I:Inv X pins σ H s):Env0 X.prog X.w X.K X.mg X.base X.A X.stack s H :=
 ⟨I.ok.frames,I.ok.mod,I.bs,WG I.ok.bsz I.sz,I.stack,I.stkFree,I.hok,I.bare⟩
theorem Inv.after (I:Inv X pins σ H s) (h:CE X.stack X.prog X.w H s Q u s'):EP X pins σ Q u s':=by
 obtain ⟨v,H',os,bare,un,hok,r,q⟩:=h
 obtain ⟨hh,g,d,t,os'⟩:=s'
 obtain rfl:os'=s.os:=os
 exact ⟨v,H',I.call (h':=hh) (g':=g) (d':=d) (t':=t) (ch:=[]) un hok bare (fun b z=>absurd z (by simp)),r,q⟩
end
def zdT (sp:Sp) (dvs:List V) (E:XK) (t:TA):TE:=fun σ H Q=>t σ H fun vs H1=>sp (vs ++ dvs) H1 Q E
def Binds (K:W3) (fd:WC) (ps:List Str) (ds:List Value):Prop :=
 ∀ (s:W5) (us:List Value),K.In s.heap→(us ++ ds).length=ps.length→BindsTo s fd ⟨us,[]⟩ (ps.zip (us ++ ds))
theorem Binds.all {K:W3} {fd:WC} {ps:List Str} (h:∀ us:List Value,us.length=ps.length→bindArgs fd ⟨us,[]⟩=pure (ps.zip us)):Binds K fd ps []:=fun s us _ hl=>by
 rw [WP] at hl ⊢
 exact .of_eq (h us hl)
def zcd (CX:CXT) (X:Cx) (E:XK):Prop:=∀ (pins:List (Addr×Obj)) (σ:St) (H:Hp) (s:W5) (e:Value) (s':W5),Inv X pins σ H s→CX X.stack H s E e s'→X.xe e s'
section
variable {X:Cx} {CX:CXT} {k:Nat} {f C:Addr} {fd:WC} {ps:List Str} {sp:Sp} {dvs:List V} {ds:List Value} {E:XK} {x m:Str} {p pos apos:Pos} {e o:Expr} {es:List Expr} {ta:TE} {t:TA}
theorem zfn (F:FnOk X.prog X.w X.K X.mg X.base CX k f fd ps sp) (hr:Room k X.A) (hb:Binds X.K fd ps ds) (hd:Vals dvs ds) (hx:zcd CX X E)
  (I:Inv X pins σ H s) (r:Vals vs us) (h:sp (vs ++ dvs) H Q E):We (model X.prog X.w) X.A (call (.ref f) us) (EP X pins σ Q) X.xe s:=by
 have r2:Vals (vs ++ dvs) (us ++ ds):=r.append hd
 have hl:(us ++ ds).length=ps.length:=by rw [← r2.length]; exact F.len _ _ _ _ h
 refine wpAny_call (Jo (F.run X.A X.stack s H ⟨us,[]⟩ (us ++ ds) (vs ++ dvs) Q E hr I.env0 (hb s us I.kIn hl) r2 h) fun r s' hq=>?_)
 cases r with
 | error e=>exact hx pins σ H s e s' I hq
 | ok fl =>
  cases fl with
  | ret u=>exact I.after hq
  | next=>exact False.elim hq
  | brk=>exact False.elim hq
  | cont=>exact False.elim hq
theorem zen (F:FnOk X.prog X.w X.K X.mg X.base CX k f fd ps sp) (hr:Room k X.A) (hg:Gl X x) (hm:X.mg x=some (.ref f)) (hk:Q9 X.K (.ref f)=true) (hb:Binds X.K fd ps ds) (hd:Vals dvs ds) (hx:zcd CX X E)
  (ha:PA X (e :: es) t) (hdb:(x == ("__debug__" : Str))=false:=by decide) (he:W7 (e :: es) X.env=(false,eval e X.env) :: W7 es X.env:=by rfl) (hpl:(WU pos (W7 es X.env)).any (·.1)=false:=by rfl) :
  PE X (.Call (.Name x p) (e :: es) [] pos) (zdT sp dvs E t):=by
 intro pins s σ H Q I h
 refine QE (z48 I hg hm ?_ hdb)
 refine PySem.W.callWith_K (h₀:=X.base) I.ok.mod.kin hk (thn (ha pos pins s σ H _ I h) fun us s1 ⟨vs,H1,I1,r,q⟩=>⟨I1.kIn,?_⟩) he hpl
 exact zfn F hr hb hd hx I1 r q
structure Mk (K:W3) (C f:Addr):Prop where
 makes:PySem.W.makesIn K C=true
 init:Jt K (.ref C) "__init__" = some (some (.ref f))
 fn:PySem.W.isFn K (.ref f)=true
 kp:Q9 K (.ref C)=true
end
section
variable {X:Cx} {CX:CXT} {k:Nat} {f C:Addr} {fd:WC} {ps ks:List Str} {sp:Sp} {E:XK} {x m:Str} {p pos apos kpos:Pos} {e o:Expr} {es:List Expr} {kws:List Keyword} {te ta:TE} {t tk:TA} {nm:Option Str}
structure KBinds (K:W3) (fd:WC) (ps ks:List Str) (g:List Value→List Value→List Value) (gV:List V→List V→List V):Prop where
 to:∀ (s:W5) (us ws:List Value),K.In s.heap→(g us ws).length=ps.length→BindsTo s fd ⟨us,ks.zip ws⟩ (ps.zip (g us ws))
 rel:∀ {vs:List V} {us:List Value} {zs:List V} {ws:List Value},Vals vs us→Vals zs ws→Vals (gV vs zs) (g us ws)
variable {g:List Value→List Value→List Value} {gV:List V→List V→List V}
end
structure FnScope (N P:List Str) (sc:Scope):Prop where
 kind:sc.kind = .function
 co:sc.isCoroutine=false
 gen:sc.isGenerator=false
 nd:N.Nodup
 pre:N.take P.length=P
 par:∀ x ∈ P,sc.names.lookup x=some .local∨sc.names.lookup x=some .cell
 nofree:∀ y ∈ sc.names,y.2≠.free
theorem z8b {kindOf:Str→Option NameKind} {x:Str}:∀ {binds:List (Str×Value)} {m:Str→Option Value},(∀ v,(x,v) ∉ binds)→bindL kindOf binds m x=m x
 | [],_,_=>rfl
 | (n,v) :: r,m,h=>by
  unfold bindL
  rw [z8b fun w hw=>h w (Wg _ hw)]
  split
  ·have:x≠n:=by rintro rfl; exact h v Wi
   simp [this]
  ·rfl
theorem z8d {kindOf:Str→Option NameKind} {x:Str}:∀ {binds:List (Str×Value)} {m:Str→Option Value},(∀ v,(x,v) ∉ binds)→bindC kindOf binds m x=m x
 | [],_,_=>rfl
 | (n,v) :: r,m,h=>by
  unfold bindC
  rw [z8d fun w hw=>h w (Wg _ hw)]
  split
  ·rfl
  ·have:x≠n:=by rintro rfl; exact h v Wi
   simp [this]
theorem z8c {kindOf:Str→Option NameKind} {x:Str} {v:Value}:∀ {P:List Str} {vs:List Value} {i:Nat} {m:Str→Option Value},P.Nodup→P[i]? = some x→vs[i]? = some v→kindOf x=some .local →
  bindL kindOf (P.zip vs) m x=some v
 | [],_,_,_,_,h,_,_=>by simp at h
 | _ :: _,[],_,_,_,_,h,_=>by simp at h
 | p :: P,w :: vs,0,m,nd,h1,h2,hk=>by
  simp at h1 h2; subst h1; subst h2
  show bindL kindOf ((p,w) :: P.zip vs) m p=_
  unfold bindL
  rw [z8b fun v hv=>(QG.mp nd).1 (JG hv).1,if_pos hk]
  simp
 | p :: P,w :: vs,i + 1,m,nd,h1,h2,hk=>by
  show bindL kindOf ((p,w) :: P.zip vs) m x=_
  unfold bindL
  exact z8c (i:=i) (QG.mp nd).2 (by simpa using h1) (by simpa using h2) hk
theorem z8e {kindOf:Str→Option NameKind} {x:Str} {v:Value}:∀ {P:List Str} {vs:List Value} {i:Nat} {m:Str→Option Value},P.Nodup→P[i]? = some x→vs[i]? = some v→kindOf x≠some .local →
  bindC kindOf (P.zip vs) m x=some v
 | [],_,_,_,_,h,_,_=>by simp at h
 | _ :: _,[],_,_,_,_,h,_=>by simp at h
 | p :: P,w :: vs,0,m,nd,h1,h2,hk=>by
  simp at h1 h2; subst h1; subst h2
  show bindC kindOf ((p,w) :: P.zip vs) m p=_
  unfold bindC
  rw [z8d fun v hv=>(QG.mp nd).1 (JG hv).1,if_neg hk]
  simp
 | p :: P,w :: vs,i + 1,m,nd,h1,h2,hk=>by
  show bindC kindOf ((p,w) :: P.zip vs) m x=_
  unfold bindC
  exact z8e (i:=i) (QG.mp nd).2 (by simpa using h1) (by simpa using h2) hk
def start (N:List Str) (vs:List V):St:=vs.map some ++ Wd (N.length - vs.length) none
def cxOf (CX:CXT) (P:Wm) (w:Ws) (K:W3) (mg:Str→Option Value) (base:Heap) (N:List Str) (qual:Str) (scope:Scope) (f:Addr) (cd:Value) (A:Wq) (outer:List Env) (s:W5) (H:Hp) (E:XK):Cx where
 prog:=P
 w:=w
 K:=K
 mg:=mg
 base:=base
 A:=A.deeper (Qo qual scope s.heap.objs.size f cd)
 N:=N
 s₀:=s
 H₀:=H
 env:=Qo qual scope s.heap.objs.size f cd
 outer:=outer
 stack:=Qo qual scope s.heap.objs.size f cd :: outer
 ex:=[]
 calm:=true
 fn:=fun _=>true
 pn:=[]
 xe:=fun e s'=>We (model P w) (A.deeper (Qo qual scope s.heap.objs.size f cd)) (leaving (Qo qual scope s.heap.objs.size f cd) e) (fun _ s''=>CX outer H s E e s'') (fun e' s''=>CX outer H s E e' s'') s'
theorem z9M {sc:Scope} {n:Nat} {x:Str} (h:sc.names.lookup x=some .cell):∃ c,(Qm n sc.names []).lookup x=some c:=by
 have q:=QZ sc.names n [] (.inl h)
 exact QO.mp q
theorem z7X {CX:CXT} {P:Wm} {w:Ws} {K:W3} {mg:Str→Option Value} {base:Heap} {N ps:List Str} {qual:Str} {scope:Scope} {f:Addr} {cd:Value} {A:Wq} {outer:List Env} {s s1:W5} {H:Hp} {E:XK} {us:List Value} {vs:List V}
  (S:FnScope N ps scope) (hd:A.handled=none) (e0:Env0 P w K mg base A outer s H) (hl:vs.length=ps.length) (r:Vals vs us)
  (x:InCallC s s.heap.objs.size (bindL (Qo qual scope s.heap.objs.size f cd).kindOf (ps.zip us) fun _=>none) (Qm (s.heap.objs.size + 1) scope.names []) (bindC (Qo qual scope s.heap.objs.size f cd).kindOf (ps.zip us) fun _=>none) s1) :
  Inv (cxOf CX P w K mg base N qual scope f cd A outer s H E) [] (start N vs) H s1:=by
 have hpl:ps.length≤N.length:=by have:=congrArg Jd S.pre; rw [QP] at this; omega
 obtain ⟨h1,tk,rfl,hk⟩:=x.done
 have noA:∀ b:Addr,b ∉ (cxOf CX P w K mg base N qual scope f cd A outer s H E).ex:=fun b z=>absurd (show b ∈ ([]:List Addr) from z) (by simp)
 refine ⟨⟨e0.mod,S.kind,rfl,rfl,Wh _,fun y z c h1 h2=>?_,fun y hy=>?_,fun y c _ h=>?_,fun _=>hd,Around.frames_deeper e0.frames,.inr ⟨rfl,rfl⟩,fun b z=>absurd z (noA b),e0.bs,e0.bsz,fun b _ _=>noA b,fun b z=>absurd z (noA b),e0.funs,e0.frf⟩,
  rfl,e0.bare,Un.kept hk,⟨_,x.toInCall.ns,fun i y v h1 h2 h3=>?_⟩,fun y c h=>⟨_,x.cell y c h⟩,e0.hok.fresh (Wh _),fun y c h=>?_,fun p hp=>absurd (show p ∈ ([]:List (Addr×Obj)) from hp) (by simp),e0.hok.kept hk,?_⟩
 ·exact name_of_addr x.apart (Wv h1) (Wv h2)
 ·have hy:scope.names.lookup y=some .cell∨scope.names.lookup y=some .free:=hy
  rcases hy with hy | hy
  ·exact z9M hy
  ·exact absurd rfl (S.nofree _ (Wv hy))
 ·exact Nat.le_of_lt (x.above y c (Wv h))
 ·have hi:i < vs.length:=by
   unfold start at h2
   by_cases hi:i < vs.length
   ·exact hi
   ·rw [List.getElem?_append_right (by simpa using hi)] at h2
    rw [List.getElem?_replicate] at h2
    split at h2 <;> cases h2
  have ha:vs[i]? = some v:=by
   unfold start at h2
   rw [QL (by simpa using hi),WR] at h2
   cases e:vs[i]? with
   | none=>rw [e] at h2; cases h2
   | some a=>rw [e] at h2; cases h2; rfl
  obtain ⟨u,hu,rv⟩:=r.get ha
  have hp:ps[i]? = some y:=by
   rw [← S.pre,List.getElem?_take_of_lt (by omega)]; exact h1
  have ndP:ps.Nodup:=by rw [← S.pre]; exact S.nd.sublist (List.take_sublist _ _)
  refine ⟨u,rv,?_⟩
  rcases S.par y (WB hp) with k | k
  ·exact .inl ⟨k,z8c ndP hp hu k⟩
  ·obtain ⟨c,e⟩:=z9M (n:=s.heap.objs.size + 1) k
   refine .inr ⟨.inl k,c,e,?_⟩
   have q:=x.cell y c e
   rw [z8e ndP hp hu (by show scope.names.lookup y≠_; rw [k]; decide)] at q
   exact q
 ·exact e0.hok.fresh (Nat.le_of_lt (x.above y c (Wv h)))
 ·unfold start
  show _=N.length
  rw [Q2,Qd,List.length_replicate]
  omega
theorem zgs {CX:CXT} {P:Wm} {w:Ws} {K:W3} {mg:Str→Option Value} {base:Heap} {k:Nat} {f:Addr} {name qual:Str} {params:Arguments} {body:List Stmt} {scope:Scope} {dV kV doc pm cdv ct oc:Value} {an od:Option Addr}
  {osl:Array (Option Value)} {N ps:List Str} {sp:Sp} (lk:K.lookup f=some ⟨oc,od,.func (Qp name qual params body scope dV kV doc pm an cdv ct),osl⟩) (hcd:PySem.W.codeIn K cdv qual=true) (S:FnScope N ps scope)
  (len:∀ vs H Q E,sp vs H Q E→vs.length=ps.length)
  (hbody:∀ (A:Wq) (outer:List Env) (s:W5) (H:Hp) (vs:List V) (Q:VK) (E:XK),Room k (A.deeper (Qo qual scope s.heap.objs.size f cdv))→sp vs H Q E →
   ∃ t,PSs (cxOf CX P w K mg base N qual scope f cdv A outer s H E) body t∧t { nx:=fun _ H'=>Q .non H',rt:=Q } (start N vs) H) :
  FnOk P w K mg base CX (k + 1) f (Qp name qual params body scope dV kV doc pm an cdv ct) ps sp:=by
 refine ⟨len,fun A outer s H args us vs Q E hr e0 hb r hsp=>?_⟩
 have hl:=len _ _ _ _ hsp
 have KX:K.In s.heap:=e0.mod.kin.keeps fun b o e=>(e0.bs b o e).1
 have lim:s.heap.NoLimit:=e0.mod.nolimit.keeps fun b o e=>(e0.bs b o e).1
 have hkind:∀ y ∈ ps.zip us,scope.names.lookup y.1=some .local∨(scope.names.lookup y.1=some .cell∧((Qm (s.heap.objs.size + 1) scope.names []).lookup y.1).isSome=true):=fun ⟨n,v⟩ hy=>by
  rcases S.par n (JG hy).1 with q | q
  ·exact .inl q
  ·exact .inr ⟨q,QZ _ _ _ (.inl q)⟩
 refine codeAny_call_function hr.depth (KX _ _ lk) rfl S.co S.gen rfl (PySem.W.codeRec_of KX hcd) (hb _ _ _ _ ?_)
 refine wpAny_newFunctionEnv_cells S.kind hkind fun env he s1 x=>?_
 subst he
 refine ⟨lim.keeps x.toInCall.keep,codeAny_func ?_⟩
 obtain ⟨t,ht,hq⟩:=hbody A outer s H vs Q E (hr.deeper _) hsp
 have I:Inv (cxOf CX P w K mg base N qual scope f cdv A outer s H E) [] (start N vs) H s1:=z7X S hr.hd e0 hl r x
 refine WJ (ht [] s1 (start N vs) H _ I hq) (fun fl s' hs=>?_) fun e s' hs=>hs
 have fin:∀ {σ':St} {H':Hp} {v:V} {u:Value},Inv (cxOf CX P w K mg base N qual scope f cdv A outer s H E) [] σ' H' s'→RelV v u→Q v H'→CE outer P w H s Q u s' :=
  fun {σ' H' v u} J rv q=>⟨v,H',J.os,J.bare,J.base,J.hok,rv,q⟩
 cases fl with
 | ret u =>
  obtain ⟨v,σ',H',J,rv,q⟩:=hs
  exact fin J rv q
 | next =>
  obtain ⟨σ',H',J,q⟩:=hs
  exact fin (v:=V.non) (u:=Value.none) J rfl q
 | brk =>
  obtain ⟨_,_,_,q⟩:=hs
  exact False.elim q
 | cont =>
  obtain ⟨_,_,_,q⟩:=hs
  exact False.elim q
section
variable {X:Cx} {x:Str} {p pos:Pos} {e:Expr} {es:List Expr} {t:TA} {id T:String} {r:List V→Hp→VK→Prop}
def tCB (r:List V→Hp→VK→Prop) (t:TA):TE:=fun σ H Q=>t σ H fun vs H1=>r vs H1 Q
theorem z3D (hc:CallR X (.builtin id) r) (hg:Gl X x) (hm:X.mg x=none) (hv:Q6 x=some (.builtin id)) (ha:PA X (e :: es) t) (hn:x≠"__name__":=by decide) (hdb:(x == ("__debug__" : Str))=false:=by decide)
  (he:W7 (e :: es) X.env=(false,eval e X.env) :: W7 es X.env:=by rfl) (hpl:(WU pos (W7 es X.env)).any (·.1)=false:=by rfl):PE X (.Call (.Name x p) (e :: es) [] pos) (tCB r t):=by
 intro pins s σ H Q I h
 refine QE (z7U I hg hm hv ?_ hn hdb)
 exact PyProof.Rows.callWith_builtin1 (thn (ha pos pins s σ H _ I h) fun us s1 ⟨vs,H1,I1,r1,q1⟩=>hc pins s1 σ H1 vs us Q I1 r1 q1) he hpl
theorem zbc (hc:CallR X (.type T) r) (hg:Gl X x) (hm:X.mg x=none) (hv:Q6 x=some (.type T)) (ha:PA X (e :: es) t) (hn:x≠"__name__":=by decide) (hdb:(x == ("__debug__" : Str))=false:=by decide)
  (he:W7 (e :: es) X.env=(false,eval e X.env) :: W7 es X.env:=by rfl) (hpl:(WU pos (W7 es X.env)).any (·.1)=false:=by rfl):PE X (.Call (.Name x p) (e :: es) [] pos) (tCB r t):=by
 intro pins s σ H Q I h
 refine QE (z7U I hg hm hv ?_ hn hdb)
 exact PyProof.Rows.callWith_type1 (thn (ha pos pins s σ H _ I h) fun us s1 ⟨vs,H1,I1,r1,q1⟩=>hc pins s1 σ H1 vs us Q I1 r1 q1) he hpl
end
end L2
namespace HT
open PySem PyProof.Rows
section
open PySem.SeqAt
open PySem.AutoSeq1 (wpAny_loadPart')
open PySem.MeetsSeq PySem.MeetsSeq2 PySem.MeetsSeq3
end
section
variable {prog:Wm} {w:Ws} {A:Wq} {E:Value→W5→Prop} {s:W5}
theorem cat_tup (ht:IsTup s.heap t vs.toArray) (hb:IsTup s.heap b ws.toArray) (hv:vs≠[])
  (h1:ws=[]→Q (.ref t) s) (h2:ws≠[]→Q (.ref s.heap.objs.size) { s with heap:=s.heap.push { cls:=.type "tuple",data:=.seq (vs ++ ws).toArray } })
  (hsz:vs.length + ws.length≤W6):We (model prog w) A (Qc .Add (.ref t) (.ref b)) Q E s:=by
 obtain ⟨⟨cls,dd,data,sl⟩,ho,hc,n,hd⟩:=id ht
 obtain ⟨⟨cls2,dd2,data2,sl2⟩,ho2,hc2,n2,hd2⟩:=id hb
 simp only at hc hd hc2 hd2
 subst hc hd hc2 hd2
 have e:vs.toArray ++ ws.toArray=(vs ++ ws).toArray:=by simp
 by_cases hw:ws=[]
 ·exact concat_meets ⟨_,ho,rfl⟩ ⟨_,ho2,rfl⟩ noFill_tuple_add seq_tuple_add PySem.F.slot_tuple_add PySem.F.entry_tuple_add (PySem.F.args_tuple_add_2 _ _)
   (tuple_addW1 t b vs.toArray ws.toArray n n2 dd dd2 sl sl2 (by simpa using hv) (by simp [hw])) ⟨ho,ho2,h1 hw⟩
 ·refine concat_meets ⟨_,ho,rfl⟩ ⟨_,ho2,rfl⟩ noFill_tuple_add seq_tuple_add PySem.F.slot_tuple_add PySem.F.entry_tuple_add (PySem.F.args_tuple_add_2 _ _)
   (tuple_addW2 t b vs.toArray ws.toArray n n2 dd dd2 sl sl2 (by simpa using hv) (by simpa using hw) (by rw [Wl,Wl]; exact hsz)) ⟨ho,ho2,?_⟩
  rw [e]
  exact h2 hw
def sIx (n d:Nat):Option Int→Nat
 | none=>d
 | some v=>if v < 0 then (v + (n:Int)).toNat else min v.toNat n
theorem sIx_le (n d:Nat) (hd:d≤n) (o:Option Int):sIx n d o≤n:=by
 cases o with
 | none=>exact hd
 | some v =>
  show (if v < 0 then (v + (n:Int)).toNat else min v.toNat n)≤n
  by_cases hv:v < 0
  ·rw [if_pos hv]; omega
  ·rw [if_neg hv]; exact Nat.min_le_right _ _
theorem zbZ (v:Int) (n d:Nat):(if v < 0 then max (v + (n:Int)) 0 else min v (n:Int))=((sIx n d (some v):Nat):Int):=by
 show (if v < 0 then max (v + (n:Int)) 0 else min v (n:Int))=(((if v < 0 then (v + (n:Int)).toNat else min v.toNat n):Nat):Int)
 by_cases hv:v < 0
 ·simp only [if_pos hv]; omega
 ·simp only [if_neg hv]; omega
theorem zan (lo hi:Option Int) (n:Nat):Qe lo hi 1 (n:Int)=(((sIx n 0 lo:Nat):Int),((sIx n n hi:Nat):Int)):=by
 have h1:¬ ((1:Int) < 0):=by omega
 unfold Qe
 simp only [h1,if_false]
 refine Prod.ext ?_ ?_
 ·cases lo with
  | none=>rfl
  | some v=>exact zbZ v n 0
 ·cases hi with
  | none=>rfl
  | some v=>exact zbZ v n n
theorem za5 (i j:Nat):WO (i:Int) (j:Int) 1=j - i:=by
 unfold WO
 have h1:(1:Int) > 0:=by omega
 simp only [h1,if_true,Int.ediv_one]
 split <;> omega
theorem z6y (p:IsPart v o) (h:Q o s):We (model prog w) A (Builtin.Slice.slicePartIndex v) Q E s:=by
 cases p with
 | none=>exact slicePart_none h
 | int i t=>exact slicePart_int h
theorem sliceApplied_gen {sl:Addr} {vl vu:Value} {lo hi:Option Int} {n:Nat} {Q:Int×Int×Nat→W5→Prop} (hs:s.heap.IsSliceOf sl vl vu .none) (pl:IsPart vl lo) (pu:IsPart vu hi)
  (h:Q (((sIx n 0 lo:Nat):Int),1,sIx n n hi - sIx n 0 lo) s):We (model prog w) A (QH (.ref sl) (pure (n:Int))) Q E s:=by
 obtain ⟨os,hos,hcs,hds⟩:=id hs
 unfold QH Builtin.Slice.sliceFields
 refine W4 (W4 (JC hos hds (x:=vl) rfl (W4 (JC hos hds (x:=vu) rfl (W4 (JC hos hds (x:=.none) rfl (Wc ?_)))))))
 refine W4 (slicePart_none ?_)
 show We _ _ (if ((1:Int) == 0)=true then _ else _) _ _ s
 rw [if_neg (by decide)]
 refine W4 (z6y pl (W4 (z6y pu (W4 (Wc ?_)))))
 show We _ _ (match Qe lo hi 1 (n:Int) with | (lo,hi)=>pure (lo,(1:Int),WO lo hi 1)) _ _ s
 rw [zan lo hi n]
 show We _ _ (pure (((sIx n 0 lo:Nat):Int),(1:Int),WO ((sIx n 0 lo:Nat):Int) ((sIx n n hi:Nat):Int) 1)) _ _ s
 rw [za5]
 exact Wc h
theorem zcE (xs:Array Value) (i k:Nat):((Wb k).filterMap fun (m:Nat)=>xs[((i:Int) + (m:Int) * 1).toNat]?).toArray=((xs.toList.drop i).take k).toArray:=by
 have e:(fun (m:Nat)=>xs[((i:Int) + (m:Int) * 1).toNat]?)=fun m=>xs[i + m]?:=by
  funext m
  have:((i:Int) + (m:Int) * 1).toNat=i + m:=by omega
  rw [this]
 rw [e]
 have:=pick_run xs i k
 rw [List.filterMap_map] at this
 have e2:((fun x=>xs[x]?) ∘ fun x=>i + x)=fun m=>xs[i + m]?:=rfl
 rw [e2] at this
 rw [this]
theorem getItem_tuple_cut {t sl:Addr} {items:Array Value} {vl vu:Value} {lo hi:Option Int} {Q:Value→W5→Prop} (ht:IsTup s.heap t items) (hs:s.heap.IsSliceOf sl vl vu .none) (pl:IsPart vl lo) (pu:IsPart vu hi)
  (hw:¬ (sIx items.size 0 lo=0∧sIx items.size items.size hi=items.size))
  (h:Q (.ref s.heap.objs.size) { s with heap:=s.heap.push { cls:=.type "tuple",data:=.seq ((items.toList.drop (sIx items.size 0 lo)).take (sIx items.size items.size hi - sIx items.size 0 lo)).toArray } })
  (hsz:items.size≤W6):We (model prog w) A (Je (.ref t) (.ref sl)) Q E s:=by
 have htake:sizeOk (.seq ((items.toList.drop (sIx items.size 0 lo)).take (sIx items.size items.size hi - sIx items.size 0 lo)).toArray):=by
  show ((items.toList.drop (sIx items.size 0 lo)).take (sIx items.size items.size hi - sIx items.size 0 lo)).toArray.size≤W6
  rw [Wl,QP,List.length_drop,Array.length_toList]
  omega
 have hj:sIx items.size items.size hi≤items.size:=sIx_le _ _ (Wh _) hi
 obtain ⟨os,hos,hcs,hds⟩:=id hs
 have hTs:s.TypeIs (.ref sl) "slice":=⟨os,hos,hcs⟩
 unfold Je
 try with_reducible refine Q7 ?_
 first | refine W4 (Wc ?_) | skip
 refine W4 (wpAny_sequenceKey ht.typeIs (by decide) ?_)
 refine W4 (wpAny_callSpecial?_slot (name:=Str.ofString "__getitem__") ht.typeIs WS
  (wpAny_call_entry WS ht.typeIs entry_tuple_getitem ?_ (args_tuple_getitem _ _)))
 show We _ _ (Builtin.Tuple.tupleItemsOf (.ref t) >>= _) _ _ s
 refine W4 (tupleItemsOf_ ht ?_)
 refine W4 (QQ hTs ?_)
 rw [if_pos (by decide)]
 refine W4 (sliceApplied_gen hs pl pu ?_)
 have hno:¬ ((((sIx items.size 0 lo:Nat):Int) == 0 && (1:Int) == 1 && (sIx items.size items.size hi - sIx items.size 0 lo) == items.size)=true):=by
  intro q
  rw [Wk,Wk] at q
  have q1:((sIx items.size 0 lo:Nat):Int)=0:=Jp q.1.1
  have q2:sIx items.size items.size hi - sIx items.size 0 lo=items.size:=Jp q.2
  exact hw ⟨by omega,by omega⟩
 show We _ _ (if (((sIx items.size 0 lo:Nat):Int) == 0 && (1:Int) == 1 && (sIx items.size items.size hi - sIx items.size 0 lo) == items.size)=true then _ else _) _ _ s
 rw [if_neg hno,zcE]
 first
  | exact W4 (m:=WQ _) (Qa (Wc ⟨_,rfl,Wc h⟩) htake)
  | exact W4 (m:=WQ _) (Qa (W4 (Wc (Wc ⟨_,rfl,Wc h⟩))) htake)
  | exact W4 (W4 (m:=WQ _) (Qa (Wc (Wc ⟨_,rfl,Wc h⟩)) htake))
  | exact W4 (W4 (m:=WQ _) (Qa (Wc ⟨_,rfl,Wc h⟩) htake))
end
end HT
namespace L2
open PySem PySem.Spec PyProof.Rows
abbrev TO:=St→Hp→(Option Int→Hp→Prop)→Prop
def PO (X:Cx) (e:Option Expr) (t:TO):Prop :=
 ∀ (pins:List (Addr×Obj)) (s:W5) (σ:St) (H:Hp) (Q:Option Int→Hp→Prop),Inv X pins σ H s→t σ H Q →
  We (model X.prog X.w) X.A (evalPart e X.env) (fun u s'=>∃ o H',Inv X pins σ H' s'∧IsPart u o∧Q o H') X.xe s
def zdQ:TO:=fun _ H Q=>Q none H
def tPart (t:TE):TO:=fun σ H Q=>t σ H fun x H1=>∃ i,x = .int i∧Q (some i) H1
section
variable {X:Cx} {e:Expr} {te:TE} {lo hi:Option Expr} {tl th:TO} {pos p2:Pos}
theorem zek:PO X none zdQ:=by
 intro pins s σ H Q I h
 rw [evalPart_none]
 exact Wc ⟨none,H,I,.none,h⟩
theorem zej (h:PE X e te):PO X (some e) (tPart te):=by
 intro pins s σ H Q I hw
 rw [evalPart_some]
 refine thn (h pins s σ H _ I hw) fun u s1 ⟨x,H1,I1,r1,q1⟩=>?_
 obtain ⟨i,rfl,q⟩:=q1
 obtain ⟨t,rfl⟩:=r1
 exact ⟨some i,H1,I1,.int i t,q⟩
def SlR (X:Cx) (r:V→Option Int→Option Int→Hp→VK→Prop):Prop :=
 ∀ (pins:List (Addr×Obj)) (s:W5) (σ:St) (H:Hp) (x:V) (v vl vu:Value) (lo hi:Option Int) (sl:Addr) (Q:VK),Inv X pins σ H s→RelV x v→s.heap.IsSliceOf sl vl vu .none→IsPart vl lo→IsPart vu hi→r x lo hi H Q →
  ∃ T id,typeLookup (.type T) "__getitem__" = pure (some (.builtin id))∧s.TypeIs v T∧We (model X.prog X.w) X.A (Je v (.ref sl)) (EP X pins σ Q) X.xe s
theorem SlR.or (h:SlR X r) (h':SlR X r'):SlR X (fun x lo hi H Q=>r x lo hi H Q∨r' x lo hi H Q):=by
 intro pins s σ H x v vl vu lo hi sl Q I rx hs pl pu q
 rcases q with q | q
 ·exact h pins s σ H x v vl vu lo hi sl Q I rx hs pl pu q
 ·exact h' pins s σ H x v vl vu lo hi sl Q I rx hs pl pu q
def tSl (r:V→Option Int→Option Int→Hp→VK→Prop) (te:TE) (tl th:TO):TE:=fun σ H Q=>te σ H fun x H1=>tl σ H1 fun l H2=>th σ H2 fun u H3=>r x l u H3 Q
theorem z9i (hr:SlR X r) (he:PE X e te) (hl:PO X lo tl) (hu:PO X hi th):PE X (.Subscript e (.Slice lo hi none p2) pos) (tSl r te tl th):=by
 intro pins s σ H Q I h
 refine Subscript_ (thn (he pins s σ H _ I h) fun v s1 ⟨x,H1,I1,r1,q1⟩=>?_)
 refine wpAny_Slice (thn (hl pins s1 σ H1 _ I1 q1) fun vl s2 ⟨l,H2,I2,pl,q2⟩=>thn (hu pins s2 σ H2 _ I2 q2) fun vu s3 ⟨u,H3,I3,pu,q3⟩=>?_)
 rw [evalPart_none]
 refine Wc ?_
 have I4:Inv X pins σ H3 { s3 with heap:=s3.heap.push { cls:=.type "slice",data:=.fields #[vl,vu,.none] } }:=I3.kept (t':=s3.toks) fun b ob q=>Wa _ q
 obtain ⟨T,id,hT,ht,hg⟩:=hr pins { s3 with heap:=s3.heap.push { cls:=.type "slice",data:=.fields #[vl,vu,.none] } } σ H3 x v vl vu l u s3.heap.objs.size Q I4 r1 (Heap.IsSliceOf.new ..) pl pu q3
 show We (model X.prog X.w) X.A (subscriptTail e (.Slice lo hi none p2) v (.ref s3.heap.objs.size)) (EP X pins σ Q) X.xe { s3 with heap:=s3.heap.push { cls:=.type "slice",data:=.fields #[vl,vu,.none] } }
 exact tail_any (ops:=[.ref s3.heap.objs.size,v]) ht hT hg (by with_unfolding_all rfl)
def cutV (xs:List V) (lo hi:Option Int):List V:=(xs.drop (HT.sIx xs.length 0 lo)).take (HT.sIx xs.length xs.length hi - HT.sIx xs.length 0 lo)
theorem z64 (xs:List V) (lo hi:Option Int):(cutV xs lo hi).length≤xs.length:=by
 unfold cutV
 rw [QP,List.length_drop]
 omega
def rSlT (K:W3):V→Option Int→Option Int→Hp→VK→Prop:=fun x lo hi H Q=>∃ a xs,x = .ref a∧SqT K H a xs ∧
 ¬ (HT.sIx xs.length 0 lo=0∧HT.sIx xs.length xs.length hi=xs.length)∧∀ p,H p=none→Q (.ref p) (upd H p (.tup (cutV xs lo hi)))
theorem sl_tup:SlR X (rSlT X.K):=by
 intro pins s σ H x v vl vu lo hi sl Q I rx hs pl pu h
 obtain ⟨a,xs,rfl,hx,hw,q⟩:=h
 cases rx
 obtain ⟨its,r,ht,hz⟩:=I.tuple hx
 have hlen:its.toArray.size=xs.length:=by rw [Wl]; exact r.length.symm
 refine ⟨"tuple",_,PyProof.Rows.slot_tuple_getitem.lookup,ht.typeIs,?_⟩
 refine HT.getItem_tuple_cut ht hs pl pu (by rw [hlen]; exact hw) ?_ (by rw [hlen]; exact hz)
 rw [hlen]
 refine ⟨.ref s.heap.objs.size,_,I.laid (t':=s.toks) (o:=.tup (cutV xs lo hi)) (fun b ob q=>Wa _ q) (Wh _) ?_,rfl,q _ (I.hok.fresh (Wh _))⟩
 exact ⟨WG (z64 xs lo hi) hz,_,(r.drop (HT.sIx xs.length 0 lo)).take (HT.sIx xs.length xs.length hi - HT.sIx xs.length 0 lo),IsTupN.new _ _⟩
def zfA (K:W3):R2:=fun x y H Q=>∃ a b xs ys,x = .ref a∧y = .ref b∧SqT K H a xs∧SqT K H b ys∧xs≠[]∧xs.length + ys.length≤W6 ∧
 (ys=[]→Q (.ref a) H)∧(ys≠[]→∀ p,H p=none→Q (.ref p) (upd H p (.tup (xs ++ ys))))
theorem Vals.nil_iff (r:Vals xs us):us=[] ↔ xs=[]:=by
 cases r with
 | nil=>simp
 | cons _ _=>simp
theorem op_catT:OpR X (Qc .Add) (zfA X.K):=by
 intro pins s σ H x y v u Q I rx ry h
 obtain ⟨a,b,xs,ys,rfl,rfl,ha,hb,hx,hz,q1,q2⟩:=h
 cases rx
 cases ry
 obtain ⟨its,r1,p1,_⟩:=I.tuple ha
 obtain ⟨its2,r2,p2,_⟩:=I.tuple hb
 refine HT.cat_tup p1 p2 (fun z=>hx (r1.nil_iff.mp z)) (fun z=>⟨.ref a,H,I,rfl,q1 (r2.nil_iff.mp z)⟩) (fun z=>?_) (by rw [← r1.length,← r2.length]; exact hz)
 refine ⟨.ref s.heap.objs.size,_,I.laid (t':=s.toks) (o:=.tup (xs ++ ys)) (fun b ob q=>Wa _ q) (Wh _) ?_,rfl,q2 (fun w=>z (r2.nil_iff.mpr w)) _ (I.hok.fresh (Wh _))⟩
 exact ⟨by rw [Q2]; exact hz,_,r1.append r2,IsTupN.new _ _⟩
end
def ixN (n:Nat) (i:Int):Option Nat:=if 0≤i then (if i < n then some i.toNat else none) else if -(n:Int)≤i then some (i + n).toNat else none
def atI {α:Type} (xs:List α) (i:Int):Option α:=(ixN xs.length i).bind fun j=>xs[j]?
theorem zbB (h:ixN n i=some j):seqIndex? i n=some j∧j < n∧-(n:Int)≤i∧i < n:=by
 unfold ixN at h
 by_cases h0:0≤i
 ·rw [if_pos h0] at h
  by_cases h1:i < n
  ·rw [if_pos h1] at h
   have e:i.toNat=j:=Wx h
   exact ⟨by rw [seqIndex_of h0 h1,e],by omega,by omega,h1⟩
  ·rw [if_neg h1] at h; cases h
 ·rw [if_neg h0] at h
  by_cases h1 : -(n:Int)≤i
  ·rw [if_pos h1] at h
   have e:(i + n).toNat=j:=Wx h
   exact ⟨by rw [seqIndex_neg (by omega) h1,e],by omega,h1,by omega⟩
  ·rw [if_neg h1] at h; cases h
theorem z8V (h:atI xs i=some v):∃ j,seqIndex? i xs.length=some j∧xs[j]? = some v∧j < xs.length∧-(xs.length:Int)≤i∧i < xs.length:=by
 unfold atI at h
 cases e:ixN xs.length i with
 | none=>rw [e] at h; cases h
 | some j =>
  rw [e] at h
  obtain ⟨h1,h2,h3,h4⟩:=zbB e
  exact ⟨j,h1,h,h2,h3,h4⟩
def z8X (b:Expr):Prop:=∀ o i,subscripted b false o i=operate [o,i] (Je o i)
def IxR (X:Cx) (r:R2):Prop :=
 ∀ (value slice:Expr) (pins:List (Addr×Obj)) (s:W5) (σ:St) (H:Hp) (x y:V) (v u:Value) (Q:VK),Inv X pins σ H s→RelV x v→RelV y u→r x y H Q →
  subscripted slice false v u=operate [v,u] (Je v u)→We (model X.prog X.w) X.A (subscriptTail value slice v u) (EP X pins σ Q) X.xe s
def MtR (X:Cx) (id:String) (r:V→List V→Hp→VK→Prop):Prop :=
 ∀ (pins:List (Addr×Obj)) (s:W5) (σ:St) (H:Hp) (x:V) (xs:List V) (v:Value) (us:List Value) (Q:VK),Inv X pins σ H s→RelV x v→Vals xs us→r x xs H Q →
  We (model X.prog X.w) X.A (call (.builtin id) (v :: us)) (EP X pins σ Q) X.xe s
section
variable {X:Cx} {a b:Expr} {ta tb:TE} {pos:Pos}
theorem IxR.or (h:IxR X r) (h':IxR X r'):IxR X (fun x y H Q=>r x y H Q∨r' x y H Q):=by
 intro value slice pins s σ H x y v u Q I rx ry q hs
 rcases q with q | q
 ·exact h value slice pins s σ H x y v u Q I rx ry q hs
 ·exact h' value slice pins s σ H x y v u Q I rx ry q hs
theorem MtR.or {id:String} {r r':V→List V→Hp→VK→Prop} (h:MtR X id r) (h':MtR X id r'):MtR X id (fun x xs H Q=>r x xs H Q∨r' x xs H Q):=by
 intro pins s σ H x xs v us Q I rx rs q
 rcases q with q | q
 ·exact h pins s σ H x xs v us Q I rx rs q
 ·exact h' pins s σ H x xs v us Q I rx rs q
theorem zfW (hr:IxR X r) (ha:PE X a ta) (hb:PE X b tb) (hs:z8X b):PE X (.Subscript a b pos) (tOp r ta tb):=by
 intro pins s σ H Q I h
 exact Subscript_ (binT ha hb I h fun v u s2 x y H2 I2 rx ry q=>hr a b pins s2 σ H2 x y v u Q I2 rx ry q (hs _ _))
def rIxL (K:W3):R2:=fun x y H Q=>∃ p xs i v,x = .ref p∧y = .int i∧SqL K H p xs∧atI xs i=some v∧Q v H
def rIxT (K:W3):R2:=fun x y H Q=>∃ p xs i v,x = .ref p∧y = .int i∧SqT K H p xs∧atI xs i=some v∧Q v H
def rIxS:R2:=fun x y H Q=>∃ z i c,x = .str z∧y = .int i∧z.length≤W6∧atI z.cps.toList i=some c∧Q (.str ⟨#[c]⟩) H
theorem ix_list:IxR X (rIxL X.K):=by
 intro value slice pins s σ H x y v u Q I rx ry h hs
 obtain ⟨p,xs,i,z,rfl,rfl,hq,he,q⟩:=h
 cases rx
 obtain ⟨t,rfl⟩:=ry
 obtain ⟨its,r,pl,hz⟩:=I.list hq
 obtain ⟨j,h1,h2,h3,h4,h5⟩:=z8V he
 obtain ⟨w,ew,rw'⟩:=r.get h2
 have hl:=r.length
 have hn:=z6G
 have fin:EP X pins σ Q w s:=⟨z,H,I,rw',q⟩
 by_cases h0:0≤i
 ·have hj:i.toNat=j:=by
   rw [seqIndex_of h0 h5] at h1
   exact Wx h1
  exact item_listR pl.isList h0 (by omega) (by rw [hj]; simpa using ew) fin hs
 ·have hj:(i + (its.toArray.size:Int)).toNat=j:=by
   rw [seqIndex_neg (by omega) h4] at h1
   rw [Wl,← hl]
   exact Wx h1
  exact subscriptTail_builtinR (x:=w) pl.isList.typeIs slot_list_getitem.lookup
   (wpAny_getItem_list_neg (Q:=fun r s'=>r=w∧EP X pins σ Q r s') pl.isList (by omega) (by rw [Wl] <;> omega) (by omega) (by rw [hj]; simpa using ew) ⟨rfl,fin⟩) hs
theorem ix_tup:IxR X (rIxT X.K):=by
 intro value slice pins s σ H x y v u Q I rx ry h hs
 obtain ⟨p,xs,i,z,rfl,rfl,hq,he,q⟩:=h
 cases rx
 obtain ⟨t,rfl⟩:=ry
 obtain ⟨its,r,pl,hz⟩:=I.tuple hq
 obtain ⟨j,h1,h2,h3,h4,h5⟩:=z8V he
 obtain ⟨w,ew,rw'⟩:=r.get h2
 have hl:=r.length
 have hn:=z6G
 have fin:EP X pins σ Q w s:=⟨z,H,I,rw',q⟩
 exact subscriptTail_builtinR (x:=w) pl.typeIs slot_tuple_getitem.lookup
  (getItem_tuple (j:=j) (Q:=fun r s'=>r=w∧EP X pins σ Q r s') pl (by omega) (by omega) (by rw [Wl,← hl]; exact h1) (by simpa using ew) ⟨rfl,fin⟩) hs
theorem zgi:IxR X rIxS:=by
 intro value slice pins s σ H x y v u Q I rx ry h hs
 obtain ⟨z,i,c,rfl,rfl,hz,he,q⟩:=h
 obtain ⟨t,rfl⟩:=rx
 obtain ⟨t',rfl⟩:=ry
 obtain ⟨j,h1,h2,h3,h4,h5⟩:=z8V he
 have hl:z.cps.toList.length=z.length:=by simp [Str.length]
 rw [hl] at h1 h4 h5
 have hn:=z6G
 exact tail_any (Ju s z t) slot_str_getitem.lookup (getItem_str (c:=c) (by
  have e1:decide (i < -(2 ^ 63:Int))=false:=decide_eq_false (by omega)
  have e2:decide (i ≥ 2 ^ 63)=false:=decide_eq_false (by omega)
  rw [e1,e2,Bool.or_false]) (by rw [h1]; simpa using h2) ⟨.str ⟨#[c]⟩,H,I.tok _,⟨_,rfl⟩,q⟩) hs
def rIx (K:W3):R2:=fun x y H Q=>rIxL K x y H Q∨rIxT K x y H Q∨rIxS x y H Q
theorem z0b:IxR X (rIx X.K):=ix_list.or (ix_tup.or zgi)
theorem zaa (its:List Value) (n j:Nat) (u:Value):Obj.mapSeq (·.setIfInBounds j u) { cls:=.type "list",data:=.seq its.toArray n } = { cls:=.type "list",data:=.seq (its.set j u).toArray n }:=by
 simp [Obj.mapSeq]
theorem Inv.lst (I:Inv X pins σ H s) (h:H p=some (.lst xs)) :
  ∃ (its:List Value) (n:Nat),Vals xs its∧s.heap.get? p=some { cls:=.type "list",data:=.seq its.toArray n }∧xs.length≤W6:=by
 obtain ⟨z,its,n,r,e⟩:=I.hok p _ h
 exact ⟨its,n,r,e,z⟩
theorem Inv.lstUpd {pins:List (Addr×Obj)} {σ:St} {H:Hp} {s:W5} {p:Addr} {xs ys:List V} {its its':List Value} {n n':Nat} {f:Obj→Obj} (I:Inv X pins σ H s) (h:H p=some (.lst xs))
  (ho:s.heap.get? p=some { cls:=.type "list",data:=.seq its.toArray n }) (hf:f { cls:=.type "list",data:=.seq its.toArray n } = { cls:=.type "list",data:=.seq its'.toArray n' }) (r:Vals ys its') (hz:ys.length≤W6) (t:Nat) :
  Inv X pins σ (upd H p (.lst ys)) { s with heap:=s.heap.update p f,toks:=t }:=by
 have e:(s.heap.update p f).get? p=some { cls:=.type "list",data:=.seq its'.toArray n' }:=by
  rw [Heap.get?_update_self f ho (by rw [hf] <;> rfl),hf]
 refine I.write (x:=p) (e:=p) (by rw [h]; trivial) (.inl rfl) (fun b u hb q=>(Heap.get?_update_other _ _ (Ne.symm hb)).trans q) ⟨_,e⟩ ?_
 exact ⟨hz,its',n',r,e⟩
def rSetL:V→V→V→Hp→(Hp→Prop)→Prop:=fun o i v H Q=>∃ p xs k j,o = .ref p∧i = .int k∧H p=some (.lst xs)∧ixN xs.length k=some j∧Q (upd H p (.lst (xs.set j v)))
theorem zcl:PSet X rSetL:=by
 intro pins s σ H o i v ov iv u Q I ro ri rv h
 obtain ⟨p,xs,k,j,rfl,rfl,hp,hj,q⟩:=h
 cases ro
 obtain ⟨t,rfl⟩:=ri
 obtain ⟨its,n,r,ho,hz⟩:=I.lst hp
 obtain ⟨h1,h2,h3,h4⟩:=zbB hj
 have hl:=r.length
 have hn:=z6G
 have I':Inv X pins σ (upd H p (.lst (xs.set j v))) { s with heap:=s.heap.update p (Obj.mapSeq (·.setIfInBounds j u)) } :=
  I.lstUpd hp ho (zaa its n j u) (r.set rv j) (by rw [Qv]; exact hz) s.toks
 by_cases h0:0≤k
 ·have hk:k.toNat=j:=by
   rw [seqIndex_of h0 h4] at h1
   exact Wx h1
  exact PySem.W.ki_setAt ho h0 (by omega) (by rw [Wl,← hl]; exact h4) (by rw [hk]; exact ⟨_,I',q⟩)
 ·have hk:(k + (its.toArray.size:Int)).toNat=j:=by
   rw [seqIndex_neg (by omega) h3] at h1
   rw [Wl,← hl]
   exact Wx h1
  exact PySem.W.ki_setBack ho (by omega) (by rw [Wl,← hl]; exact h3) (by omega) (by rw [hk]; exact ⟨_,I',q⟩)
theorem z7r (lo hi:Option Int) (n:Nat):(Jf lo hi none n).1=((HT.sIx n 0 lo:Nat):Int)∧(Jf lo hi none n).2.1=((HT.sIx n n hi:Nat):Int)∧(Jf lo hi none n).2.2=1:=by
 refine ⟨?_,?_,rfl⟩
 ·cases lo with
  | none=>simp [Jf,HT.sIx]
  | some i =>
   simp only [Jf,HT.sIx,Option.getD_none,show (1:Int) > 0 by decide,if_true]
   by_cases h:i < 0
   ·simp only [h,if_true] <;> omega
   ·simp only [h,if_false] <;> omega
 ·cases hi with
  | none=>simp [Jf,HT.sIx]
  | some i =>
   simp only [Jf,HT.sIx,Option.getD_none,show (1:Int) > 0 by decide,if_true]
   by_cases h:i < 0
   ·simp only [h,if_true] <;> omega
   ·simp only [h,if_false] <;> omega
theorem z6R (its:List Value) (lo hi:Option Int):slicePick its.toArray lo hi none=((its.drop (HT.sIx its.length 0 lo)).take (HT.sIx its.length its.length hi - HT.sIx its.length 0 lo)).toArray:=by
 obtain ⟨h1,h2,h3⟩:=z7r lo hi its.toArray.size
 unfold slicePick
 rw [h1,h2,h3]
 simp only [sliceRange_one,pick_run,Wl] <;> rfl
def rSlL (K:W3):V→Option Int→Option Int→Hp→VK→Prop:=fun x lo hi H Q=>∃ a xs,x = .ref a∧SqL K H a xs∧∀ p,H p=none→Q (.ref p) (upd H p (.lst (cutV xs lo hi)))
theorem zdX:SlR X (rSlL X.K):=by
 intro pins s σ H x v vl vu lo hi sl Q I rx hs pl pu h
 obtain ⟨a,xs,rfl,hx,q⟩:=h
 cases rx
 obtain ⟨its,r,ht,hz⟩:=I.list hx
 have hlen:=r.length
 refine ⟨"list",_,slot_list_getitem.lookup,ht.isList.typeIs,?_⟩
 refine wpAny_getItem_list_slice ht.isList hs pl pu .none (by simp) ?_ (by rw [Wl] <;> omega)
 rw [z6R,← hlen]
 refine ⟨.ref s.heap.objs.size,_,I.laid (t':=s.toks) (o:=.lst (cutV xs lo hi)) (fun b ob q=>Wa _ q) (Wh _) ?_,rfl,q _ (I.hok.fresh (Wh _))⟩
 exact ⟨WG (z64 xs lo hi) hz,_,0,(r.drop (HT.sIx xs.length 0 lo)).take (HT.sIx xs.length xs.length hi - HT.sIx xs.length 0 lo),Wu _ rfl⟩
def z7d:V→Bool
 | .non=>true
 | .bl _=>true
 | .int _=>true
 | .str _=>true
 | _=>false
def eqV:V→V→Bool
 | .non,.non=>true
 | .bl a,.bl b=>a == b
 | .bl a,.int b=>(if a then 1 else 0) == b
 | .int a,.bl b=>a == (if b then 1 else 0)
 | .int a,.int b=>a == b
 | .str a,.str b=>a == b
 | _,_=>false
theorem zgz (ry:RelV y u) (rx:RelV x v) (fy:z7d y=true) (fx:z7d x=true):SeqAt.EqAt A s u v (eqV y x):=by
 cases y with
 | non =>
  cases ry
  cases x with
  | non=>cases rx; exact SeqAt.EqAt.same _
  | bl b=>cases rx; exact SeqAt.EqAt.none_bool b
  | int b=>obtain ⟨t,rfl⟩:=rx; exact SeqAt.EqAt.none_int b t
  | str b=>obtain ⟨t,rfl⟩:=rx; exact SeqAt.EqAt.none_str b t
  | _=>exact absurd (show false=true from fx) Q1
 | bl a =>
  cases ry
  cases x with
  | non=>cases rx; exact SeqAt.EqAt.bool_none a
  | bl b=>cases rx; exact SeqAt.EqAt.bool_bool a b
  | int b=>obtain ⟨t,rfl⟩:=rx; exact SeqAt.EqAt.bool_int a b t
  | str b=>obtain ⟨t,rfl⟩:=rx; exact SeqAt.EqAt.bool_str a b t
  | _=>exact absurd (show false=true from fx) Q1
 | int a =>
  obtain ⟨t',rfl⟩:=ry
  cases x with
  | non=>cases rx; exact SeqAt.EqAt.int_none a t'
  | bl b=>cases rx; exact SeqAt.EqAt.int_bool a t' b
  | int b=>obtain ⟨t,rfl⟩:=rx; exact SeqAt.EqAt.int_int a t' b t
  | str b=>obtain ⟨t,rfl⟩:=rx; exact SeqAt.EqAt.int_str a t' b t
  | _=>exact absurd (show false=true from fx) Q1
 | str a =>
  obtain ⟨t',rfl⟩:=ry
  cases x with
  | non=>cases rx; exact SeqAt.EqAt.str_none a t'
  | bl b=>cases rx; exact SeqAt.EqAt.str_bool a t' b
  | int b=>obtain ⟨t,rfl⟩:=rx; exact SeqAt.EqAt.str_int a t' b t
  | str b=>obtain ⟨t,rfl⟩:=rx; exact SeqAt.EqAt.str_str a t' b t
  | _=>exact absurd (show false=true from fx) Q1
 | _=>exact absurd (show false=true from fy) Q1
def eqU (x:V) (u:Value):Bool:=match u with
 | .none=>eqV .non x
 | .bool b=>eqV (.bl b) x
 | .int i _=>eqV (.int i) x
 | .str z _=>eqV (.str z) x
 | _=>false
theorem zdH (r:RelV y u) (f:z7d y=true):eqU x u=eqV y x:=by
 cases y with
 | non=>cases r; rfl
 | bl b=>cases r; rfl
 | int i=>obtain ⟨t,rfl⟩:=r; rfl
 | str z=>obtain ⟨t,rfl⟩:=r; rfl
 | _=>exact absurd (show false=true from f) Q1
theorem z6b:∀ {xs:List V} {us:List Value},Vals xs us→xs.all z7d=true→us.any (eqU x)=xs.any fun y=>eqV y x
 | _,_,.nil,_=>rfl
 | y :: xs,u :: us,.cons r t,f=>by
  rw [Jc,Wk] at f
  rw [QI,QI,zdH r f.1,z6b t f.2]
theorem z4z (rx:RelV x v) (fx:z7d x=true):∀ {xs:List V} {us:List Value},Vals xs us→xs.all z7d=true→∀ u ∈ us,SeqAt.EqAt A s u v (eqU x u)
 | _,_,.nil,_=>fun u hu=>by cases hu
 | y :: xs,u :: us,.cons r t,f=>fun u' hu=>by
  rw [Jc,Wk] at f
  rcases Wj.mp hu with rfl | hu
  ·rw [zdH r f.1]; exact zgz r rx f.1 fx
  ·exact z4z rx fx t f.2 u' hu
def inV (x:V) (xs:List V):Bool:=xs.any fun y=>eqV y x
def rIn (K:W3) (neg:Bool):R2:=fun x y H Q=>∃ p xs,y = .ref p∧(SqL K H p xs∨SqT K H p xs)∧z7d x=true∧xs.all z7d=true∧Q (.bl (if neg then !inV x xs else inV x xs)) H
theorem op_in_seq:OpR X (Wz .In) (rIn X.K false):=by
 intro pins s σ H x y v u Q I rx ry h
 obtain ⟨p,xs,rfl,hq,fx,fs,q⟩:=h
 cases ry
 rcases hq with hq | hq
 ·obtain ⟨its,r,pl,hz⟩:=I.list hq
  refine SeqAt.in_listAt (eqU x) pl.isList (fun w hw=>z4z rx fx r fs w (by simpa using hw)) ⟨.bl _,H,I,rfl,?_⟩
  rw [show its.toArray.any (eqU x)=its.any (eqU x) by simp,z6b r fs]
  exact q
 ·obtain ⟨its,r,pl,hz⟩:=I.tuple hq
  refine SeqAt.in_tupleAt (eqU x) pl (fun w hw=>z4z rx fx r fs w (by simpa using hw)) ⟨.bl _,H,I,rfl,?_⟩
  rw [show its.toArray.any (eqU x)=its.any (eqU x) by simp,z6b r fs]
  exact q
theorem op_notIn_seq:OpR X (Wz .NotIn) (rIn X.K true):=by
 intro pins s σ H x y v u Q I rx ry h
 obtain ⟨p,xs,rfl,hq,fx,fs,q⟩:=h
 cases ry
 rcases hq with hq | hq
 ·obtain ⟨its,r,pl,hz⟩:=I.list hq
  refine SeqAt.notIn_listAt (eqU x) pl.isList (fun w hw=>z4z rx fx r fs w (by simpa using hw)) ⟨.bl _,H,I,rfl,?_⟩
  rw [show its.toArray.any (eqU x)=its.any (eqU x) by simp,z6b r fs]
  exact q
 ·obtain ⟨its,r,pl,hz⟩:=I.tuple hq
  refine SeqAt.notIn_tupleAt (eqU x) pl (fun w hw=>z4z rx fx r fs w (by simpa using hw)) ⟨.bl _,H,I,rfl,?_⟩
  rw [show its.toArray.any (eqU x)=its.any (eqU x) by simp,z6b r fs]
  exact q
theorem call_len_seq:CallR X (.builtin "len") (fun xs H Q=>∃ p ys,xs=[.ref p]∧(SqL X.K H p ys∨SqT X.K H p ys)∧Q (.int ys.length) H):=by
 intro pins s σ H xs us Q I r h
 obtain ⟨p,ys,rfl,hq,q⟩:=h
 obtain ⟨u,rfl,rx⟩:=z6c r
 cases rx
 have hn:=z6G
 rcases hq with hq | hq
 ·obtain ⟨its,r',pl,hz⟩:=I.list hq
  have hlen:=r'.length
  exact Calls.call_len_list pl.isList (by simp only [Wl] <;> omega) ⟨.int ys.length,H,I.tok _,⟨s.toks + 1,by rw [Wl,hlen]⟩,q⟩
 ·obtain ⟨its,r',pl,hz⟩:=I.tuple hq
  have hlen:=r'.length
  exact len_tuple pl (by simp only [Wl] <;> omega) ⟨.int ys.length,H,I.tok _,⟨s.toks + 1,by rw [Wl,hlen]⟩,q⟩
theorem z89:CallR X (.builtin "len") (fun xs H Q=>∃ z,xs=[.str z]∧z.length≤W6∧Q (.int z.length) H):=by
 intro pins s σ H xs us Q I r h
 obtain ⟨z,rfl,hz,q⟩:=h
 obtain ⟨u,rfl,t,rfl⟩:=z6c r
 have hn:=z6G
 exact len_str (by omega) ⟨.int z.length,H,I.tok _,⟨_,rfl⟩,q⟩
theorem CallR.or (h:CallR X f r) (h':CallR X f r'):CallR X f (fun xs H Q=>r xs H Q∨r' xs H Q):=by
 intro pins s σ H xs us Q I rs q
 rcases q with q | q
 ·exact h pins s σ H xs us Q I rs q
 ·exact h' pins s σ H xs us Q I rs q
theorem z7i:CallR X (.type "tuple") (fun xs H Q=>∃ p ys,xs=[.ref p]∧((SqL X.K H p ys∧∀ l,H l=none→Q (.ref l) (upd H l (.tup ys)))∨(SqT X.K H p ys∧Q (.ref p) H))):=by
 intro pins s σ H xs us Q I r h
 obtain ⟨p,ys,rfl,h⟩:=h
 obtain ⟨u,rfl,rx⟩:=z6c r
 cases rx
 rcases h with ⟨hq,q⟩ | ⟨hq,q⟩
 ·obtain ⟨its,r',pl,hz⟩:=I.list hq
  have hlen:=r'.length
  refine call_tuple_list pl.isList (fun h' kp=>?_) (by simp only [Wl] <;> omega)
  have I1:Inv X pins σ H { s with heap:=h' }:=I.kept (t':=s.toks) kp
  have I2:Inv X pins σ (upd H h'.objs.size (.tup ys)) { s with heap:=h'.push { cls:=.type "tuple",data:=.seq its.toArray } } :=
   I1.laid (t':=s.toks) (fun b o e=>Wa _ e) (Wh _) (show ObjOk X.prog X.w _ _ _ (.tup ys) from ⟨hz,its,r',IsTupN.new _ _⟩)
  exact ⟨.ref h'.objs.size,_,I2,rfl,q _ (I1.hok.fresh (Wh _))⟩
 ·obtain ⟨its,r',pl,hz⟩:=I.tuple hq
  exact call_tuple_same pl ⟨.ref p,H,I,rfl,q⟩
def tyV (K:W3) (T:String) (x:V) (H:Hp):Prop:=match x with
 | .str _=>T = "str"
 | .int _=>T = "int"
 | .ref p=>(T = "list"∧∃ xs,SqL K H p xs)∨(T = "tuple"∧∃ o,K.lookup p=some o∧o.cls = .type "tuple"∧o.dict=none) ∨
   (T = "dict"∧((∃ kvs,H p=some (.dK kvs))∨∃ kvs,H p=some (.dT kvs)))∨(T = "set"∧∃ S n,H p=some (.set S n))
 | _=>False
theorem zdm (I:Inv X pins σ H s) (r:RelV x v) (ty:tyV X.K T x H) :
  s.TypeIs v T∧∀ a,v = .ref a→∃ ob,s.heap.get? a=some ob∧ob.dict=none:=by
 cases x with
 | str z =>
  obtain ⟨t,rfl⟩:=r
  cases (show T = "str" from ty)
  exact ⟨Ju s z t,fun _ e=>nomatch e⟩
 | int i =>
  obtain ⟨t,rfl⟩:=r
  cases (show T = "int" from ty)
  exact ⟨Jv s i t,fun _ e=>nomatch e⟩
 | ref p =>
  cases r
  rcases ty with ⟨rfl,xs,hq⟩ | ⟨rfl,o,hk,hc,hd⟩ | ⟨rfl,hk⟩ | ⟨rfl,S,n,hk⟩
  ·obtain ⟨its,_,pl,_⟩:=I.list hq
   refine ⟨pl.isList.typeIs,fun a e=>?_⟩
   cases e
   obtain ⟨o,n,e,c,hd,_⟩:=pl
   exact ⟨o,e,hd⟩
  ·refine ⟨⟨o,I.kIn p o hk,hc⟩,fun a e=>?_⟩
   cases e
   exact ⟨o,I.kIn _ o hk,hd⟩
  ·have z:∃ o,s.heap.get? p=some o∧o.ExactDict:=by
    rcases hk with ⟨kvs,hk⟩ | ⟨kvs,hk⟩
    ·obtain ⟨_,_,_,_,o,_,_,e,ex,_⟩:=I.hok p _ hk
     exact ⟨o,e,ex⟩
    ·obtain ⟨_,_,_,_,o,_,_,e,ex,_⟩:=I.hok p _ hk
     exact ⟨o,e,ex⟩
   obtain ⟨o,e,ex⟩:=z
   refine ⟨⟨o,e,ex.1⟩,fun a e2=>?_⟩
   cases e2
   exact ⟨o,e,ex.2.1⟩
  ·obtain ⟨o,_,_,_,e,ex,_⟩:=I.hok p _ hk
   refine ⟨⟨o,e,ex.1⟩,fun a e2=>?_⟩
   cases e2
   exact ⟨o,e,ex.2.1⟩
 | _=>exact False.elim ty
def tBM0 (K:W3) (T:String) (r:V→List V→Hp→VK→Prop) (to:TE):TE:=fun σ H Q=>to σ H fun x H1=>tyV K T x H1∧r x [] H1 Q
def tBM (K:W3) (T:String) (r:V→List V→Hp→VK→Prop) (to:TE) (t:TA):TE:=fun σ H Q=>to σ H fun x H1=>tyV K T x H1∧t σ H1 fun xs H2=>r x xs H2 Q
variable {o e:Expr} {es:List Expr} {to:TE} {t:TA} {name:Str} {apos cpos:Pos} {T id:String} {r:V→List V→Hp→VK→Prop}
theorem zfY (pa:PlainAttrs T) (slot:Slot T name id) (hty:typeOf (.builtin id)=pure (.type "method_descriptor")) (hm:MtR X id r) (ho:PE X o to)
  (hbase:Qz o name X.env (eval o X.env)=eval o X.env:=by rfl) (hline:(apos.endLine == cpos.line)=true:=by rfl):PE X (.Call (.Attribute o name apos) [] [] cpos) (tBM0 X.K T r to):=by
 intro pins s σ H Q I h
 refine wpAny_Call_method0_late hbase hline (thn (ho pins s σ H _ I h) fun v s1 ⟨x,H1,I1,r1,ty,q1⟩=>?_)
 obtain ⟨h1,h2⟩:=zdm I1 r1 ty
 exact ⟨T,id,pa,slot,hty,h1,h2,Calls.callWith_builtin rfl (PySem.evalArgs_none (hm pins s1 σ H1 x [] v [] Q I1 r1 .nil q1))⟩
theorem zcK (pa:PlainAttrs T) (slot:Slot T name id) (hty:typeOf (.builtin id)=pure (.type "method_descriptor")) (hm:MtR X id r) (ho:PE X o to) (ha:PA X (e :: es) t)
  (hbase:Qz o name X.env (eval o X.env)=eval o X.env:=by rfl)
  (hfew:((WU cpos (W7 (e :: es) X.env)).all (fun x=>!x.1) && (backToKw cpos (Jg [] X.env)).all (fun x=>x.1.isSome)
   && decide ((e :: es).length + ([]:List Keyword).length + (if ([]:List Keyword).isEmpty then 0 else 1) < 30))=true:=by rfl)
  (hline:(apos.endLine == cpos.line)=true:=by rfl) (hs:W7 (e :: es) X.env=(false,eval e X.env) :: W7 es X.env:=by rfl) (hplain:(WU cpos (W7 es X.env)).any (·.1)=false:=by rfl) :
  PE X (.Call (.Attribute o name apos) (e :: es) [] cpos) (tBM X.K T r to t):=by
 intro pins s σ H Q I h
 refine wpAny_Call_method_late hbase hfew hline rfl (thn (ho pins s σ H _ I h) fun v s1 ⟨x,H1,I1,r1,ty,q1⟩=>?_)
 obtain ⟨h1,h2⟩:=zdm I1 r1 ty
 refine ⟨T,id,pa,slot,hty,h1,h2,?_⟩
 have hA:=ha cpos pins s1 σ H1 _ I1 q1
 rw [hs] at hA ⊢
 refine Calls.callWith_builtin (by show (false || (WU cpos (W7 es X.env)).any (·.1))=false; rw [hplain] <;> rfl) (Calls.evalArgs_plain ?_)
 exact thn hA fun us s2 ⟨vs,H2,I2,r2,q2⟩=>hm pins s2 σ H2 x vs v us Q I2 r1 r2 q2
end
def MtM (X:Cx) (id:String) (r:V→List V→Hp→VK→Prop):Prop :=
 ∀ (pins:List (Addr×Obj)) (s:W5) (σ:St) (H:Hp) (x:V) (xs:List V) (v:Value) (us:List Value) (Q:VK),Inv X pins σ H s→RelV x v→Vals xs us→r x xs H Q →
  We (model X.prog X.w) X.A (call (.builtin id) (v :: us)) (EP X pins σ Q) X.xe s
theorem Vals.one:∀ {x:V} {us:List Value},Vals [x] us→∃ u,us=[u]∧RelV x u
 | _,_,.cons r .nil=>⟨_,rfl,r⟩
theorem Vals.two:∀ {x y:V} {us:List Value},Vals [x,y] us→∃ u v,us=[u,v]∧RelV x u∧RelV y v
 | _,_,_,.cons r (.cons q .nil)=>⟨_,_,rfl,r,q⟩
theorem Vals.zero:∀ {us:List Value},Vals [] us→us=[]
 | _,.nil=>rfl
theorem Vals.dropLast (h:Vals xs us):Vals xs.dropLast us.dropLast:=by
 induction h with
 | nil=>exact .nil
 | cons r t ih =>
  cases t with
  | nil=>exact .nil
  | cons q t'=>exact .cons r ih
theorem Vals.reverse (h:Vals xs us):Vals xs.reverse us.reverse:=by
 induction h with
 | nil=>exact .nil
 | cons r t ih=>rw [List.reverse_cons,List.reverse_cons]; exact Vals.append ih (.cons r .nil)
theorem Vals.rep (h:Vals xs us):∀ k:Nat,Vals (Wd k xs).flatten (Wd k us).flatten
 | 0=>.nil
 | k + 1=>by
  rw [WX,WX,QK,QK]
  exact Vals.append h (Vals.rep h k)
theorem z7Z (its:List Value):∀ (k:Nat) (acc:List Value),
  List.foldl (fun x1 x2=>x1 ++ x2) acc.toArray (Wd k its.toArray)=(acc ++ (Wd k its).flatten).toArray
 | 0,acc=>by simp
 | k + 1,acc=>by
  have e:acc.toArray ++ its.toArray=(acc ++ its).toArray:=by simp
  have e2:(acc ++ its) ++ (Wd k its).flatten=acc ++ (Wd (k + 1) its).flatten:=by
   rw [WX,QK,List.append_assoc]
  rw [← e2,← z7Z its k (acc ++ its),← e,WX,Qn]
section
variable {X:Cx} {pins:List (Addr×Obj)} {σ:St} {H:Hp} {s:W5} {l b:Addr} {xs ys zs:List V}
theorem Inv.lset {its its':List Value} {n:Nat} {f:Array Value→Array Value} {t':Nat} (I:Inv X pins σ H s) (hH:H l=some (.lst xs))
  (e:s.heap.get? l=some { cls:=.type "list",data:=.seq its.toArray n }) (hf:f its.toArray=its'.toArray) (hv:Vals ys its') (hz:ys.length≤W6) :
  Inv X pins σ (upd H l (.lst ys)) { s with heap:=s.heap.update l (Obj.mapSeq f),toks:=t' }:=by
 have q:=PySem.IsL.update e f
 rw [hf] at q
 refine I.write (x:=l) (e:=l) (by rw [hH]; exact trivial) (.inl rfl) (fun b' u hb hu=>(Heap.get?_update_other s.heap (Obj.mapSeq f) (Ne.symm hb)).trans hu) ⟨_,q⟩ ?_
 exact ⟨hz,its',_,hv,q⟩
theorem Inv.lnew (I:Inv X pins σ H s) (hv:Vals ys its) (hz:ys.length≤W6) :
  Inv X pins σ (upd H s.heap.objs.size (.lst ys)) { s with heap:=s.heap.push { cls:=.type "list",data:=.seq its.toArray },toks:=t' } :=
 I.laid (fun _ _ q=>Wa _ q) (Wh _) ⟨hz,its,0,hv,Wu _ rfl⟩
theorem Inv.fresh (I:Inv X pins σ H s):H s.heap.objs.size=none:=I.hok.fresh (Wh _)
theorem Inv.lstM (I:Inv X pins σ H s) (hH:H l=some (.lst xs)):xs.length≤W6∧∃ (its:List Value) (n:Nat),Vals xs its∧xs.length=its.length∧s.heap.get? l=some { cls:=.type "list",data:=.seq its.toArray n }:=by
 obtain ⟨z,its,n,r,e⟩:=I.hok l _ hH
 exact ⟨z,its,n,r,r.length,e⟩
end
section
variable {X:Cx}
def zaY:V→List V→Hp→VK→Prop:=fun x vs H Q=>∃ l xs y,x = .ref l∧vs=[y]∧H l=some (.lst xs)∧xs.length < W6∧Q .non (upd H l (.lst (xs ++ [y])))
theorem z7Q:MtM X "list.append" zaY:=by
 intro pins s σ H x vs v us Q I rx rv h
 obtain ⟨l,xs,y,rfl,rfl,hH,hz,q⟩:=h
 cases rx
 obtain ⟨u,rfl,ru⟩:=rv.one
 obtain ⟨z,its,n,r,hl,e⟩:=I.lstM hH
 refine QW F.slot_list_append ⟨_,e,rfl⟩ F.entry_list_append (F.args_list_append_2 _ _) (PySem.list_append l its.toArray n u (by rw [Wl]; omega)) ⟨e,?_⟩
 refine ⟨.non,_,I.lset (its':=its ++ [u]) hH e (by simp) (r.append (.cons ru .nil)) ?_,rfl,q⟩
 rw [Q2,List.length_singleton]
 omega
theorem z8K (xs:List α) (k:Nat):(Wd k xs).flatten.length=k * xs.length:=by
 induction k with
 | zero=>simp
 | succ k ih=>rw [WX,QK,Q2,ih,J1,QR]
end
section
variable {prog:Wm} {w:Ws} {A:Wq} {E:Value→W5→Prop} {s:W5}
set_option maxRecDepth 100000 in
end
section
variable {X:Cx}
end
section
variable {κ:Type} [DecidableEq κ]
def valV (kvs:List (κ×V)) (k:κ):Option V:=(kvs.find? fun kv=>decide (kv.1=k)).map (·.2)
def putK (kvs:List (κ×V)) (k:κ) (v:V):List (κ×V) :=
 if (kvs.any fun kv=>decide (kv.1=k))=true then kvs.map (fun kv=>if kv.1=k then (kv.1,v) else kv) else kvs ++ [(k,v)]
def zgA (kvs:List (κ×V)) (k:κ):List (κ×V):=kvs.filter fun kv=>decide (kv.1≠k)
theorem z5j {p:κ×V} {r:List (κ×V)} {k:κ} (e:p.1=k):valV (p :: r) k=some p.2:=by simp [valV,Qw,e]
theorem z5k {p:κ×V} {r:List (κ×V)} {k:κ} (e:¬ p.1=k):valV (p :: r) k=valV r k:=by simp [valV,Qw,e]
theorem z90 (k:κ):∀ kvs:List (κ×V),(kvs.any fun kv=>decide (kv.1=k))=(valV kvs k).isSome
 | []=>rfl
 | p :: r=>by
  rw [QI]
  by_cases e:p.1=k
  ·simp only [z5j e,decide_eq_true e,Bool.true_or,Option.isSome_some]
  ·rw [z5k e,decide_eq_false e,Bool.false_or]; exact z90 k r
theorem z5U (kvs:List (κ×V)) (k:κ) (v:V):(putK kvs k v).length≤kvs.length + 1:=by
 unfold putK
 split
 ·rw [Qd]; omega
 ·rw [Q2,WN,List.length_nil]; omega
theorem RelO.isSome_eq (r:RelO o u):o.isSome=u.isSome:=by
 cases o with
 | none=>cases u with
  | none=>rfl
  | some _=>exact (show False from r).elim
 | some _=>cases u with
  | none=>exact (show False from r).elim
  | some _=>rfl
theorem RelO.getD (r:RelO o u) (rd:RelV d d'):RelV (o.getD d) (u.getD d'):=by
 cases o with
 | none=>cases u with
  | none=>exact rd
  | some _=>exact (show False from r).elim
 | some _=>cases u with
  | none=>exact (show False from r).elim
  | some _=>exact r
theorem KV.val {kvs:List (κ×V)} {vs:List (κ×Value)} (r:KV kvs vs) (k:κ):RelO (valV kvs k) (valueAt vs k):=by
 unfold KV at r
 induction r with
 | nil=>exact True.intro
 | @cons p q ps qs h t ih =>
  obtain ⟨h1,h2⟩:=h
  by_cases e:p.1=k
  ·have e':q.1=k:=h1.symm.trans e
   have b:valueAt (q :: qs) k=some q.2:=by simp [valueAt,Qw,e']
   rw [z5j e,b]; exact h2
  ·have e':¬ q.1=k:=fun z=>e (h1.trans z)
   have b:valueAt (q :: qs) k=valueAt qs k:=by simp [valueAt,Qw,e']
   rw [z5k e,b]; exact ih
theorem KV.any (r:KV kvs vs) (k:κ):(kvs.any fun kv=>decide (kv.1=k))=vs.any fun kv=>decide (kv.1=k):=by
 unfold KV at r
 induction r with
 | nil=>rfl
 | cons h t ih=>rw [QI,QI,ih,h.1]
theorem KV.repl (r:KV kvs vs) (k:κ) (ry:RelV y u) :
  KV (kvs.map fun kv=>if kv.1=k then (kv.1,y) else kv) (vs.map fun kv=>if kv.1=k then (kv.1,u) else kv):=by
 unfold KV at r ⊢
 induction r with
 | nil=>exact .nil
 | @cons p q ps qs h t ih =>
  rw [Ww,Ww]
  refine .cons ?_ ih
  obtain ⟨h1,h2⟩:=h
  by_cases e:p.1=k
  ·rw [if_pos e,if_pos (h1.symm.trans e)]; exact ⟨h1,ry⟩
  ·rw [if_neg e,if_neg (fun z=>e (h1.trans z))]; exact ⟨h1,h2⟩
theorem KV.put (r:KV kvs vs) (k:κ) (ry:RelV y u):KV (putK kvs k y) (stored vs k u):=by
 unfold putK stored
 rw [r.any k]
 by_cases e:(vs.any fun kv=>decide (kv.1=k))=true
 ·rw [if_pos e,if_pos e]; exact r.repl k ry
 ·rw [if_neg e,if_neg e]; exact Paired.snoc r ⟨rfl,ry⟩
theorem KV.drop (r:KV kvs vs) (k:κ):KV (zgA kvs k) (without vs k):=by
 unfold KV at r ⊢
 unfold zgA without
 induction r with
 | nil=>exact .nil
 | @cons p q ps qs h t ih =>
  obtain ⟨h1,h2⟩:=h
  rw [JE,JE]
  by_cases e:p.1=k
  ·have a:¬ decide (p.1≠k)=true:=by simp [e]
   have b:¬ decide (q.1≠k)=true:=by simp [h1.symm.trans e]
   rw [if_neg a,if_neg b]; exact ih
  ·have e':¬ q.1=k:=fun z=>e (h1.trans z)
   have a:decide (p.1≠k)=true:=by simp [e]
   have b:decide (q.1≠k)=true:=by simp [e']
   rw [if_pos a,if_pos b]; exact .cons ⟨h1,h2⟩ ih
theorem KV.keys {kvs:List (κ×V)} {vs:List (κ×Value)} (r:KV kvs vs):kvs.map (·.1)=vs.map (·.1):=by
 unfold KV at r
 induction r with
 | nil=>rfl
 | cons h t ih=>rw [Ww,Ww,ih,h.1]
theorem KV.length (r:KV kvs vs):kvs.length=vs.length:=Paired.length r
end
theorem zbz (r:RelV (kV k) u):(z2b P w).is k u=true:=by
 cases k with
 | inl i=>obtain ⟨t,e⟩:=(show ∃ t,u=Value.int i t from r); subst e; exact z8I P w i t
 | inr x=>obtain ⟨t,e⟩:=(show ∃ t,u=Value.str x t from r); subst e; exact z8H P w x t
theorem z7V:∀ {ks:List Key} {us:List Value},Vals (ks.map kV) us→ItemsAre (z2b P w) ks us
 | [],_,r=>by rw [List.map_nil] at r; cases r; exact .nil
 | k :: ks,_,r=>by
  rw [Ww] at r
  cases r with
  | cons h t=>exact .cons (zbz h) (z7V t)
abbrev KT (H:Hp):List (List Key×V)→List (List Key×Addr×Value)→Prop:=Paired fun p q=>p.1=q.1∧H q.2.1=some (.tup (p.1.map kV))∧RelV p.2 q.2.2
theorem KT.val {H:Hp} {kvs:List (List Key×V)} {xs:List (List Key×Addr×Value)} (r:KT H kvs xs) (k:List Key):RelO (valV kvs k) ((atKey xs k).map (·.2)):=by
 induction r with
 | nil=>exact True.intro
 | @cons p q ps qs h t ih =>
  obtain ⟨h1,_,h2⟩:=h
  by_cases e:p.1=k
  ·have e':q.1=k:=h1.symm.trans e
   have b:atKey (q :: qs) k=some q.2:=by simp [atKey,Qw,e']
   rw [z5j e,b]; exact h2
  ·have e':¬ q.1=k:=fun z=>e (h1.trans z)
   have b:atKey (q :: qs) k=atKey qs k:=by simp [atKey,Qw,e']
   rw [z5k e,b]; exact ih
theorem KT.repl (r:KT H kvs xs) (k:List Key) (ry:RelV y u) :
  KT H (kvs.map fun kv=>if kv.1=k then (kv.1,y) else kv) (xs.map (putAt k u)):=by
 induction r with
 | nil=>exact .nil
 | @cons p q ps qs h t ih =>
  rw [Ww,Ww]
  refine .cons ?_ ih
  obtain ⟨h1,h2,h3⟩:=h
  unfold putAt
  by_cases e:p.1=k
  ·rw [if_pos e,if_pos (h1.symm.trans e)]; exact ⟨h1,h2,ry⟩
  ·rw [if_neg e,if_neg (fun z=>e (h1.trans z))]; exact ⟨h1,h2,h3⟩
theorem KT.put (r:KT H kvs xs) (k:List Key) (hb:H b=some (.tup (k.map kV))) (ry:RelV y u) :
  KT H (putK kvs k y) (storedH xs k b u):=by
 have e:(kvs.any fun kv=>decide (kv.1=k))=(atKey xs k).isSome:=by
  rw [z90,(r.val k).isSome_eq,Option.isSome_map]
 unfold putK storedH
 rw [e]
 by_cases q:(atKey xs k).isSome=true
 ·rw [if_pos q,if_pos q]; exact r.repl k ry
 ·rw [if_neg q,if_neg q]; exact Paired.snoc r ⟨rfl,hb,ry⟩
theorem KT.keeps (r:KT H kvs xs) (ht:∀ b ys,H b=some (.tup ys)→H' b=some (.tup ys)):KT H' kvs xs :=
 Paired.mapP r fun _ _ z=>⟨z.1,ht _ _ z.2.1,z.2.2⟩
section
variable {P:Wm} {w:Ws} {H:Hp} {h:Heap} {a:Addr}
theorem zfq (ok:HOk P w H h) (e:Rd H a u):ObjOk P w H h a u:=e.ok ok
theorem zbS (ok:HOk P w H h) (e:Rd H a (.dK kvs)):kvs.length≤W6∧(a == J9)=false∧∃ vs,KV kvs vs∧h.DictOf (z2b P w) a vs :=
 show ObjOk P w H h a (.dK kvs) from zfq ok e
theorem zeU (ok:HOk P w H h) (e:H a=some (.dK kvs)):kvs.length≤W6∧(a == J9)=false∧∃ vs,KV kvs vs∧h.DictOf (z2b P w) a vs:=zbS ok (.inl e)
theorem z9s (ok:HOk P w H h) (e:H a=some (.tup (ks.map kV))):(tupleKind (z2b P w)).is h ks a:=by
 obtain ⟨_,its,r,p⟩:=(show ObjOk P w H h a (.tup (ks.map kV)) from ok a _ e)
 obtain ⟨o,h1,h2,n,h3⟩:=p.tup
 exact ⟨o,its.toArray,n,h1,h2,h3,by simpa using z7V r⟩
theorem zeT (ok:HOk P w H h) (e:Rd H a (.dT kvs)):kvs.length≤W6∧(a == J9)=false ∧
  ∃ xs,KT H kvs xs∧h.DictOfH (tupleKind (z2b P w)) a xs:=by
 obtain ⟨z,y,xs,r,o,es,ep,h1,h2,h3,h4,h5⟩:=(show ObjOk P w H h a (.dT kvs) from zfq ok e)
 refine ⟨z,y,xs,r,o,es,ep,h1,h2,h3,h4,fun x hx=>?_,h5⟩
 have all:∀ {l:List (List Key×V)} {m:List (List Key×Addr×Value)},KT H l m→∀ x ∈ m,(tupleKind (z2b P w)).is h x.1 x.2.1:=by
  intro l m q
  induction q with
  | nil=>intro x hx; exact nomatch hx
  | @cons p q ps qs hq t ih =>
   intro x hx
   rcases Wj.mp hx with e | hx
   ·subst e
    exact z9s ok (by rw [← hq.1]; exact hq.2.1)
   ·exact ih x hx
 exact all r x hx
end
def DGet (H:Hp) (a:Addr) (y:V) (r:Option V):Prop :=
 (∃ kvs k,Rd H a (.dK kvs)∧y=kV k∧r=valV kvs k)∨∃ kvs k b,Rd H a (.dT kvs)∧y = .ref b∧H b=some (.tup (k.map kV))∧r=valV kvs k
def DPut (H:Hp) (a:Addr) (y v:V) (H':Hp):Prop :=
 (∃ kvs k,H a=some (.dK kvs)∧y=kV k∧kvs.length < W6∧H'=upd H a (.dK (putK kvs k v))) ∨
 ∃ kvs k b,H a=some (.dT kvs)∧y = .ref b∧H b=some (.tup (k.map kV))∧kvs.length < W6∧H'=upd H a (.dT (putK kvs k v))
theorem DGet.k {H:Hp} {a:Addr} {kvs:List (Key×V)} {k:Key} (e:H a=some (.dK kvs)):DGet H a (kV k) (valV kvs k):=.inl ⟨kvs,k,.inl e,rfl,rfl⟩
theorem DGet.t {H:Hp} {a b:Addr} {kvs:List (List Key×V)} {k:List Key} (e:H a=some (.dT kvs)) (eb:H b=some (.tup (k.map kV))):DGet H a (.ref b) (valV kvs k):=.inr ⟨kvs,k,b,.inl e,rfl,eb,rfl⟩
theorem DPut.k {H:Hp} {a:Addr} {kvs:List (Key×V)} {k:Key} {v:V} (e:H a=some (.dK kvs)) (hl:kvs.length < W6):DPut H a (kV k) v (upd H a (.dK (putK kvs k v))):=.inl ⟨kvs,k,e,rfl,hl,rfl⟩
theorem DPut.t {H:Hp} {a b:Addr} {kvs:List (List Key×V)} {k:List Key} {v:V} (e:H a=some (.dT kvs)) (eb:H b=some (.tup (k.map kV))) (hl:kvs.length < W6) :
  DPut H a (.ref b) v (upd H a (.dT (putK kvs k v))):=.inr ⟨kvs,k,b,e,rfl,eb,hl,rfl⟩
section
variable {X:Cx} {pins:List (Addr×Obj)} {σ:St} {H:Hp} {s:W5} {a:Addr} {y v:V} {u r:Value} {o:Option V} {A:Wq} {E:Value→W5→Prop}
theorem Inv.big (I:Inv X pins σ H s):J9 < s.heap.objs.size:=by
 have h:Wp < s.heap.objs.size:=(I.mod.glob.keeps I.bk).lt
 exact Nat.lt_trans (by decide) h
theorem zbV (hu:A.units + 1 < Q4) (I:Inv X pins σ H s) (g:DGet H a y (some v)) (ry:RelV y u) (h:∀ w' s',Inv X pins σ H s'→RelV v w'→Q w' s') :
  We (model X.prog X.w) A (Je (.ref a) u) Q E s:=by
 rcases g with ⟨kvs,k,e,ey,l⟩ | ⟨kvs,k,b,e,ey,eb,l⟩
 ·subst ey
  obtain ⟨z,hd,vs,rel,dd⟩:=zbS I.hok e
  obtain ⟨w',hw,rw'⟩:=RelO.some_of (v:=v) (o:=valueAt vs k) (by rw [l]; exact rel.val k)
  exact wpAny_getItem_of (zbz ry) dd.mapOf hw (h w' _ (I.tok _) rw')
 ·subst ey
  cases (show u=Value.ref b from ry)
  obtain ⟨z,hd,xs,rel,dd⟩:=zeT I.hok e
  obtain ⟨w',hw,rw'⟩:=RelO.some_of (v:=v) (o:=(atKey xs k).map (·.2)) (by rw [l]; exact rel.val k)
  obtain ⟨p,hp,hp2⟩:=Option.map_eq_some_iff.mp hw
  refine wpAny_getItem_heap (tupleKind_room_in1 hu) (z9s I.hok eb) dd hp ?_
  rw [hp2]
  exact h w' _ (I.tok _) rw'
theorem d_in (hu:A.units + 1 < Q4) (I:Inv X pins σ H s) (g:DGet H a y o) (ry:RelV y u) (h:∀ s',Inv X pins σ H s'→Q (.bool o.isSome) s') :
  We (model X.prog X.w) A (Wz .In u (.ref a)) Q E s:=by
 rcases g with ⟨kvs,k,e,ey,l⟩ | ⟨kvs,k,b,e,ey,eb,l⟩
 ·subst ey
  obtain ⟨z,hd,vs,rel,dd⟩:=zbS I.hok e
  refine wpAny_in_of (zbz ry) hd dd.mapOf ?_
  rw [← (rel.val k).isSome_eq,← l]
  exact h _ (I.tok _)
 ·subst ey
  cases (show u=Value.ref b from ry)
  obtain ⟨z,hd,xs,rel,dd⟩:=zeT I.hok e
  refine wpAny_in_heap (tupleKind_room_in1 hu) (z9s I.hok eb) hd dd ?_
  have q:=(rel.val k).isSome_eq
  rw [Option.isSome_map] at q
  rw [← q,← l]
  exact h _ (I.tok _)
theorem zeW (hu:A.units + 1 < Q4) (I:Inv X pins σ H s) (g:DGet H a y o) (ry:RelV y u) (h:∀ s',Inv X pins σ H s'→Q (.bool (!o.isSome)) s') :
  We (model X.prog X.w) A (Wz .NotIn u (.ref a)) Q E s:=by
 rcases g with ⟨kvs,k,e,ey,l⟩ | ⟨kvs,k,b,e,ey,eb,l⟩
 ·subst ey
  obtain ⟨z,hd,vs,rel,dd⟩:=zbS I.hok e
  refine wpAny_notIn_of (zbz ry) hd dd.mapOf ?_
  rw [← (rel.val k).isSome_eq,← l]
  exact h _ (I.tok _)
 ·subst ey
  cases (show u=Value.ref b from ry)
  obtain ⟨z,hd,xs,rel,dd⟩:=zeT I.hok e
  refine wpAny_notIn_heap (tupleKind_room_in1 hu) (z9s I.hok eb) hd dd ?_
  have q:=(rel.val k).isSome_eq
  rw [Option.isSome_map] at q
  rw [← q,← l]
  exact h _ (I.tok _)
theorem zeV (I:Inv X pins σ H s) (mu:Mut (H a)) (hs:Heap.SameBut a s.heap h') (he:∃ q,h'.get? a=some q) (new:ObjOk X.prog X.w (upd H a ob) h' a ob) :
  Inv X pins σ (upd H a ob) { s with heap:=h',toks:=t' } :=
 I.write (x:=a) (e:=a) mu (.inl rfl) (fun b q hb z=>(hs.2 b hb).trans z) he new
theorem zgB (z:kvs.length≤W6) (hd:(a == J9)=false) (rel:KV kvs vs) (dd:h'.DictOf (z2b P w) a vs) :
  ObjOk P w H' h' a (.dK kvs):=⟨z,hd,vs,rel,dd⟩
end
section
variable {X:Cx} {pins:List (Addr×Obj)} {σ:St} {H:Hp} {s:W5} {a:Addr} {kvs:List (Key×V)} {k:Key} {u:Value} {A:Wq} {E:Value→W5→Prop}
theorem d_len (I:Inv X pins σ H s) (e:Rd H a (.dK kvs)) (h:∀ t s',Inv X pins σ H s'→Q (.int kvs.length t) s'):We (model X.prog X.w) A (call (.builtin "len") [.ref a]) Q E s:=by
 obtain ⟨z,hd,vs,rel,dd⟩:=zbS I.hok e
 refine call_len_dict hd dd (by rw [← rel.length]; rw [sizeLine_eq] at z; omega) ?_
 rw [← rel.length]
 exact h _ _ (I.tok _)
end
section
variable {X:Cx} {o i e value:Expr} {pos pos' tpos:Pos} {td ty tv:TE}
end
theorem z9J (h:Heap) (hb:J9 < h.objs.size):ObjOk P w H (h.push { cls:=.type "dict",data:=.dict #[] }) h.objs.size (.dK []) :=
 ⟨QM _,beq_eq_false_iff_ne.mpr (Ne.symm (WT hb)),[],.nil,Heap.DictOf.new h⟩
def zf9:TE:=fun _ H Q=>∀ p,H p=none→Q (.ref p) (upd H p (.dK []))
section
variable {X:Cx} {pos:Pos}
theorem zcI:PE X (.Dict [] [] pos) zf9:=fun pins s σ H Q I h =>
 wpAny_Dict_empty ⟨.ref s.heap.objs.size,_,I.laid (a:=s.heap.objs.size) (o:=.dK []) (t':=s.toks) (fun _ _ q=>Wa _ q) (Wh _) (z9J s.heap I.big),rfl,h _ (I.hok.fresh (Wh _))⟩
end
structure M1 (X:Cx) (o:Expr) (m:Str) (apos:Pos) (e:Expr) (cpos:Pos):Prop where
 base:Qz o m X.env (eval o X.env)=eval o X.env
 few:((WU cpos (W7 [e] X.env)).all (fun x=>!x.1) && (backToKw cpos (Jg [] X.env)).all (fun x=>x.1.isSome)
  && decide (([e]:List Expr).length + ([]:List Keyword).length + (if ([]:List Keyword).isEmpty then 0 else 1) < 30))=true
 line:(apos.endLine == cpos.line)=true
 trees:WU cpos (W7 [e] X.env)=[(false,eval e X.env)]
structure M2 (X:Cx) (o:Expr) (m:Str) (apos:Pos) (e f:Expr) (cpos:Pos):Prop where
 base:Qz o m X.env (eval o X.env)=eval o X.env
 few:((WU cpos (W7 [e,f] X.env)).all (fun x=>!x.1) && (backToKw cpos (Jg [] X.env)).all (fun x=>x.1.isSome)
  && decide (([e,f]:List Expr).length + ([]:List Keyword).length + (if ([]:List Keyword).isEmpty then 0 else 1) < 30))=true
 line:(apos.endLine == cpos.line)=true
 trees:WU cpos (W7 [e,f] X.env)=[(false,eval e X.env),(false,eval f X.env)]
section
variable {X:Cx} {pins:List (Addr×Obj)} {σ:St} {H:Hp} {s:W5} {a:Addr} {y d:V} {u r:Value} {o:Option V} {A:Wq} {E:Value→W5→Prop}
end
section
variable {X:Cx} {o e f:Expr} {apos cpos:Pos} {td ty tx:TE}
end
section
variable {X:Cx} {pins:List (Addr×Obj)} {σ:St} {H:Hp} {s:W5} {a:Addr} {kvs:List (Key×V)} {A:Wq} {E:Value→W5→Prop}
end
section
variable {X:Cx} {pins:List (Addr×Obj)} {σ:St} {H:Hp} {s:W5} {a:Addr} {y:V} {u:Value} {A:Wq} {E:Value→W5→Prop}
end
end L2
namespace Att
open PySem PySem.W PySem.Calls PyProof.Rows
theorem z5Y:∀ (ns:List Int) (vs:List Value),WellAll P h vs (ns.map WData.int)→IntsAre vs ns:=by
 intro ns
 induction ns with
 | nil =>
  intro vs w
  rw [List.map_nil] at w
  cases w
  exact .nil
 | cons n ns ih =>
  intro vs w
  rw [Ww] at w
  cases w with
  | cons a b =>
   cases a
   exact .cons _ _ (ih _ b)
theorem zaL {l:OpenLaw} {n:Nat} (hn:l.most=some n) {P:Params} {h:Heap} {args:List WData} {vals:List Value}
  (hpre:l.row.toRowW.claim.pre args=true) (hwl:WellAll P h vals args) :
  ∃ a vs ns,vals=[Value.ref a]∧args=[WData.list (ns.map WData.int)]∧h.get? a=some { cls:=.type "list",data:=.seq vs.toArray }∧IntsAre vs ns∧ns.length≤n:=by
 have hsh:WShape.hasAll [] args [.list .int]=true:=(pre_splitW hpre).1
 have hc:l.pre.holds [] { args:=args } = true:=(pre_splitW hpre).2
 obtain ⟨d,r,rfl,h1,h2⟩:=hasAllW_cons hsh
 obtain rfl:=hasAllW_nil h2
 obtain ⟨xs,rfl,h3⟩:=hasW_list h1
 obtain ⟨ns,rfl⟩:=items_int h3
 have hlen:ns.length≤n:=by
  unfold OpenLaw.pre at hc
  have h4:(WTm.not (.lt (.lit (.int (n:Int))) (.len (.arg 0)))).holds [] { args:=[.list (ns.map .int)] } = true:=by
   have h4:=(holds_andW hc).1
   rw [hn] at h4
   exact h4
  have h5:=condW_of h4 (w_not (w_lt w_lit (w_len_list (w_arg rfl))))
  rw [Qd] at h5
  refine Nat.le_of_not_lt fun q=>?_
  have q':(n:Int) < ((ns.length:Nat):Int):=by omega
  first
   | (rw [decide_eq_true q'] at h5; exact absurd h5 (by decide))
   | (simp at h5; omega)
 cases hwl with
 | cons w1 w2 =>
  cases w2
  cases w1 with
  | list ho hall=>exact ⟨_,_,ns,rfl,rfl,ho,z5Y ns _ hall,hlen⟩
theorem zb7 (l:OpenLaw) (args:List WData):l.row.toRowW.claim.post args (.bool true) args=true :=
 postW_of (r:=l.row.toRowW) (X:=(true == true))
  (show WShape.has [] (.bool true) .bool=true by first | rfl | decide | simp [WShape.has,WShape.arms,WShape.armsAll])
  (show (WTm.eq .res (.lit (.bool true))).value [] { args:=args,res:=some (.bool true),after:=args } = some (.bool (true == true)) from w_eq_bool (w_res rfl) w_lit) rfl
theorem attach_call {l:OpenLaw} {n:Nat} {q:Wm} {loose:List Str} {XP:(Str→Option Value)→Heap→Prop} {YP:Ws→Heap→Prop} {d:DefRec}
  (hn:l.most=some n) (hdf:d.params.defaults=[])
  (call:∀ (w:Ws) (s₀ s₁:W5) (mg mb:Str→Option Value) (fa:Addr) (o:Obj) (pm cd doc:Value) (a:Addr) (vs:List Value) (ns:List Int),
   Ground q loose [] XP w s₀ mg mb s₁.heap→YP w s₁.heap →
   s₁.heap.get? fa=some o→o.data = .func (docDef d.name d.params d.body d.scope pm cd doc)→s₁.heap.CodeRec cd d.name→mg d.name=some (.ref fa) →
   s₁.heap.get? a=some { cls:=.type "list",data:=.seq vs.toArray }→IntsAre vs ns→ns.length≤n→s₁.gens = #[] →
   QC (model l.prog w) callerA (.call (.ref fa) ⟨[.ref a],[]⟩) (fun r s'=>r = .ok (.ret (.bool true))∧OldK s₁.heap s'.heap∧s'.os=s₁.os∧AllBare s'.gens) s₁) :
  WalkO q loose XP YP l.row.toRowW d [] (fun f vs=>PySem.call f vs):=by
 intro w s₀ s₁ mg mb G Y fa o pm cd doc dV kV ho hd hcd hD hmg hg args vals as hpre hlay hrd hwl hlo
 obtain rfl:dV = .none:=Dflts.none hD hdf
 obtain rfl:kV = .none:=Dflts.noKw hD
 obtain ⟨a,vs,ns,rfl,rfl,hobj,hints,hlen⟩:=zaL hn hpre hwl
 refine enter_call (Jo (call w s₀ s₁ mg mb fa o pm cd doc a vs ns G Y ho (fd_plain hd) hcd hmg hobj hints hlen hg) fun r s' hq=>?_)
 obtain ⟨rfl,h2,h3,h4⟩:=hq
 exact ⟨.inl ⟨.bool true,.bool true,[],rfl,fun _=>rfl,.bool true,zb7 l _,fun _=>⟨List.Pairwise.nil,fun _ hm=>(nomatch hm)⟩⟩,h2,h3,h4⟩
section
variable {prog:Wm} {w:Ws} {A:Wq} {E:Value→W5→Prop} {s:W5} {K:Frag}
end
end Att
namespace L2
open PySem PySem.Spec PyProof.Rows
theorem vals_ints:∀ {vs:List Value} {ns:List Int},IntsAre vs ns→Vals (ns.map V.int) vs
 | _,_,.nil=>.nil
 | _,_,.cons n t h=>.cons ⟨t,rfl⟩ (vals_ints h)
def Only (H:Hp):Prop:=∀ b,H b=none∨∃ o xs,H b=some (.frz o (.lst xs))
theorem zd0 {P:Wm} {w:Ws} {K:W3} {mg mb:Str→Option Value} {CX:CXT} {k:Nat} {fa a:Addr} {fd:WC} {x:Str} {sp:Sp} {s₁:W5} {vs:List Value} {ns:List Int}
  (KX:K.In s₁.heap) (hns:s₁.heap.Ns Wp mg) (hb:s₁.heap.Ns builtinsNs mb) (hbb:∀ x:Str,x≠"__name__"→mb x=Q6 x) (hlim:s₁.heap.NoLimit) (hg:s₁.gens = #[])
  (ha:s₁.heap.get? a=some { cls:=.type "list",data:=.seq vs.toArray }) (hi:IntsAre vs ns) (hl:ns.length≤W6) (hr:Room k callerA)
  (F:∀ base:Heap,K.In base→base.Ns Wp mg→FnOk P w K mg base CX k fa fd [x] sp) (hbind:∀ (s:W5) (u:Value),BindsTo s fd ⟨[u],[]⟩ [(x,u)])
  (hsp:∀ H:Hp,Only H→SqL K H a (ns.map V.int)→sp [.ref a] H (fun v _=>v = .bl true) fun _ _ _=>False)
  (hCX:∀ H e s',CX [] H s₁ (fun _ _ _=>False) e s'→False) :
  QC (model P w) callerA (.call (.ref fa) ⟨[.ref a],[]⟩) (fun r s'=>r = .ok (.ret (.bool true))∧OldK s₁.heap s'.heap∧s'.os=s₁.os∧AllBare s'.gens) s₁:=by
 have rv:=vals_ints hi
 have lenV:=hi.length
 -- from an abstract heap in which nothing but the script may be tracked
 have core:∀ H:Hp,Only H→SqL K H a (ns.map V.int)→HOk P w H s₁.heap→(∀ b,H b≠none→b=a)→(H a≠none→K.lookup a=none) →
   QC (model P w) callerA (.call (.ref fa) ⟨[.ref a],[]⟩) (fun r s'=>r = .ok (.ret (.bool true))∧OldK s₁.heap s'.heap∧s'.os=s₁.os∧AllBare s'.gens) s₁:=by
  intro H hO hS hok hA hK
  have base_of:∀ {b:Addr} {o:Obj},s₁.heap.get? b=some o→H b=none→(hidT s₁.heap H).get? b=some o:=fun e n=>zd3 e n
  have noA:∀ {b:Addr} {o:Obj} {es:Array DictEntry} {ep:Nat},s₁.heap.get? b=some o→o.data = .dict es ep→H b=none:=fun {b o es ep} e d=>by
   cases q:H b with
   | none=>rfl
   | some u =>
    have e':b=a:=hA b (by rw [q]; simp)
    subst e'
    rw [ha] at e; cases e
    have d':Data.seq vs.toArray _=Data.dict es ep:=d
    cases d'
  have nsK:∀ {b:Addr} {m:Str→Option Value},s₁.heap.Ns b m→(hidT s₁.heap H).Ns b m:=fun {b m} ⟨o,es,ep,e,d,r⟩=>⟨o,es,ep,base_of e (noA e d),d,r⟩
  have hKb:K.In (hidT s₁.heap H):=fun b o e=>base_of (KX b o e) (by
   cases q:H b with
   | none=>rfl
   | some u =>
    have e':b=a:=hA b (by rw [q]; simp)
    subst e'
    rw [hK (by rw [q]; simp)] at e; cases e)
  have hM:Mod K mg (hidT s₁.heap H):=⟨hKb,nsK hns,⟨mb,nsK hb,hbb⟩,let ⟨mc,h1,h2⟩:=hlim; ⟨mc,nsK h1,h2⟩⟩
  have e0:Env0 P w K mg (hidT s₁.heap H) callerA [] s₁ H:=⟨rfl,hM,fun b o e=>zet e,Nat.le_of_eq (zbF _ _),trivial,fun b hb=>absurd (show b ∈ ([]:List Addr) from hb) (by simp),hok,.of_eq hg⟩
  refine Jo ((F _ hKb (nsK hns)).run callerA [] s₁ H ⟨[.ref a],[]⟩ [.ref a] [.ref a] _ _ hr e0 (hbind s₁ (.ref a)) (.cons rfl .nil) (hsp H hO hS)) fun r s' h=>?_
  cases r with
  | error e=>exact (hCX H e s' h).elim
  | ok fl =>
   cases fl with
   | next=>exact False.elim h
   | brk=>exact False.elim h
   | cont=>exact False.elim h
   | ret u =>
    obtain ⟨v,H',os,bare,un,hok',r',q⟩:=h
    have q':v = .bl true:=q
    subst q'
    obtain rfl:u=Value.bool true:=r'
    refine ⟨rfl,OldK.of_keep fun b o e=>?_,os,bare⟩
    cases q:H b with
    | none=>exact un.keep b o e q (by intro z; exact absurd (show b ∈ ([]:List Addr) from z) (by simp)) (by simp)
    | some u =>
     rcases hO b with z | ⟨ob,xs,z⟩
     ·rw [q] at z; cases z
     ·have z2:=un.frzs b ob _ z
      obtain ⟨e1,_⟩:=hok b _ z
      obtain ⟨e2,_⟩:=hok' b _ z2
      rw [e] at e1; cases e1
      exact e2
 cases hk:K.lookup a with
 | some o =>
  -- the script is one of the module's own objects
  have e:=KX a o hk
  rw [ha] at e
  cases e
  refine core (fun _=>none) (fun _=>.inl rfl) (.inr ⟨_,vs.toArray,_,hk,rfl,rfl,rfl,by rw [Wl,lenV]; exact hl,by simpa using rv⟩) (fun b u z=>by have z':(none:Option HO)=some u:=z; cases z') (fun b z=>absurd rfl z) fun z=>absurd rfl z
 | none =>
  refine core (fun b=>if b=a then some (.frz { cls:=.type "list",data:=.seq vs.toArray } (.lst (ns.map V.int))) else none) (fun b=>?_) (.inl (.inr ⟨{ cls:=.type "list",data:=.seq vs.toArray },if_pos rfl⟩)) (fun b u z=>?_) (fun b z=>?_) fun _=>hk
  ·by_cases hb:b=a
   ·exact .inr ⟨_,_,if_pos hb⟩
   ·exact .inl (if_neg hb)
  ·by_cases hb:b=a
   ·have z':=(if_pos hb).symm.trans z
    cases z'
    subst hb
    exact ⟨ha,by rw [Qd]; exact hl,vs,_,rv,ha⟩
   ·have z':=(if_neg hb).symm.trans z
    cases z'
  ·by_cases hb:b=a
   ·exact hb
   ·exact absurd (if_neg hb) z
abbrev KOf {K:W3} {h:Heap} (_:K.In h):W3:=K
theorem walk_of {l:PySem.W.OpenLaw} {n k:Nat} {q:Wm} {loose:List Str} {XP:(Str→Option Value)→Heap→Prop} {YP:Ws→Heap→Prop} {d:DefRec} {K:Params→W3} {CX:Ws→CXT} {sp:Ws→Sp} {x:Str}
  (hn:l.most=some n) (hn2:n≤W6) (hdf:d.params.defaults=[]) (hr:Room k callerA)
  (hY:∀ (w:Ws) (h:Heap),YP w h→(K w.params).In h)
  (F:∀ (w:Ws) (mg:Str→Option Value) (fa:Addr) (h:Heap),(K w.params).In h→h.Ns Wp mg→mg d.name=some (.ref fa) →
   ∃ fd:WC,(∀ (s:W5) (u:Value),BindsTo s fd ⟨[u],[]⟩ [(x,u)]) ∧
    ∀ base:Heap,(K w.params).In base→base.Ns Wp mg→FnOk l.prog w (K w.params) mg base (CX w) k fa fd [x] (sp w))
  (hsp:∀ (w:Ws) (H:Hp) (a:Addr) (ns:List Int),ns.length≤n→Only H→SqL (K w.params) H a (ns.map V.int)→sp w [.ref a] H (fun v _=>v = .bl true) fun _ _ _=>False)
  (hCX:∀ (w:Ws) (H:Hp) (s:W5) (e:Value) (s':W5),CX w [] H s (fun _ _ _=>False) e s'→False) :
  PySem.W.WalkO q loose XP YP l.row.toRowW d [] (fun f vs=>PySem.call f vs):=by
 refine Att.attach_call hn hdf fun w s₀ s₁ mg mb fa o pm cd doc a vs ns G Y ho hd hcd hmg hobj hints hlen hg=>?_
 have KX:=hY w _ Y
 obtain ⟨fd,hb,hF⟩:=F w mg fa _ KX G.T.g hmg
 exact zd0 KX G.T.g G.T.b G.T.builtins G.T.nolimit hg hobj hints (WG hlen hn2) hr hF hb (fun H hO hS=>hsp w H a ns hlen hO hS) fun H e s'=>hCX w H s₁ e s'
def z32 (s:Stmt):Arguments:=match s with
 | .FunctionDef _ a _ _ _ _ _ _ _ _=>a
 | _=>{ posonlyargs:=[],args:=[],vararg:=none,kwonlyargs:=[],kw_defaults:=[],kwarg:=none,defaults:=[] }
def z1s (s:Stmt):List Stmt:=match s with
 | .FunctionDef _ _ b _ _ _ _ _ _ _=>b
 | _=>[]
def z06 (s:Stmt):Scope:=match s with
 | .FunctionDef _ _ _ _ _ _ sc _ _ _=>sc
 | _=>{ kind:=.function,names:=[],isGenerator:=false,isCoroutine:=false }
abbrev CX0:CXT:=fun _ _ _ _ _ _=>False
abbrev E0:XK:=fun _ _ _=>False
theorem pass0:zcd CX0 X E0:=fun _ _ _ _ _ _ _ h=>h.elim
structure Fun (K:W3) (x qual:Str) (st:Stmt) (f:Addr) (fd:WC):Prop where
 ex:∃ (oc:Value) (od:Option Addr) (kV doc pm:Value) (an:Option Addr) (cdv ct:Value) (osl:Array (Option Value)),
  fd=Qp x qual (z32 st) (z1s st) (z06 st) .none kV doc pm an cdv ct∧K.lookup f=some ⟨oc,od,.func fd,osl⟩∧PySem.W.codeIn K cdv qual=true
 kp:Q9 K (.ref f)=true
section
variable {P:Wm} {w:Ws} {K:W3} {mg:Str→Option Value} {base:Heap}
theorem Fun.ok {x qual:Str} {st:Stmt} {f:Addr} {fd:WC} {N ps:List Str} {k:Nat} {sp:Sp} (F:Fun K x qual st f fd) (S:FnScope N ps (z06 st)) (len:∀ vs H Q E,sp vs H Q E→vs.length=ps.length)
  (hbody:∀ (cdv:Value) (A:Wq) (outer:List Env) (s:W5) (H:Hp) (vs:List V) (Q:VK) (E:XK),Room k (A.deeper (Qo qual (z06 st) s.heap.objs.size f cdv))→sp vs H Q E →
   ∃ t,PSs (cxOf CX0 P w K mg base N qual (z06 st) f cdv A outer s H E).nox (z1s st) t∧t { nx:=fun _ H'=>Q .non H',rt:=Q } (start N vs) H):FnOk P w K mg base CX0 (k + 1) f fd ps sp:=by
 obtain ⟨oc,od,kV,doc,pm,an,cdv,ct,osl,rfl,lk,hcd⟩:=F.ex
 refine zgs lk hcd S len fun A outer s H vs Q E hr hsp=>?_
 obtain ⟨t,h,q⟩:=hbody cdv A outer s H vs Q E hr hsp
 exact ⟨t,h.nox,q⟩
theorem Fun.binds {x qual:Str} {st:Stmt} {f:Addr} {fd:WC} {ps:List Str} (F:Fun K x qual st f fd)
  (h:∀ (kV doc pm:Value) (an:Option Addr) (cdv ct:Value) (us:List Value),us.length=ps.length→bindArgs (Qp x qual (z32 st) (z1s st) (z06 st) .none kV doc pm an cdv ct) ⟨us,[]⟩=pure (ps.zip us)):Binds K fd ps []:=by
 obtain ⟨oc,od,kV,doc,pm,an,cdv,ct,osl,rfl,lk,hcd⟩:=F.ex
 exact .all (h kV doc pm an cdv ct)
theorem zbH {x qual:Str} {st:Stmt} {f:Addr} {oc:Value} {od an:Option Addr} {osl:Array (Option Value)} {kV doc pm cdv ct:Value} (l:K.lookup f=some ⟨oc,od,.func (Qp x qual (z32 st) (z1s st) (z06 st) .none kV doc pm an cdv ct),osl⟩)
  (c:PySem.W.codeIn K cdv qual=true) (k:Q9 K (.ref f)=true):Fun K x qual st f (Qp x qual (z32 st) (z1s st) (z06 st) .none kV doc pm an cdv ct):=⟨⟨oc,od,kV,doc,pm,an,cdv,ct,osl,rfl,l,c⟩,k⟩
end
theorem zaF (h:n≤1000):n < W6:=Nat.lt_of_le_of_lt h (by decide)
section
variable {X:Cx}
theorem pv (i:Nat) (hN:X.N[i]? = some x:=by rfl) (hv:Vis X.env.scope x:=by first | exact Or.inl rfl | exact Or.inr (Or.inl rfl) | exact Or.inr (Or.inr rfl)) (hd:(x == ("__debug__" : Str))=false:=by decide)
  (hcd:(x == ("__classdict__" : Str))=false:=by decide):PE X (.Name x pos) (tVar i):=zfN hN hv hd hcd
theorem zc4:CallR X (.builtin "len") (fun xs H Q=>∃ a kvs,xs=[V.ref a]∧H a=some (.dK kvs)∧Q (.int kvs.length) H):=by
 intro pins s σ H xs us Q I r h
 obtain ⟨a,kvs,rfl,ha,q⟩:=h
 obtain ⟨u,rfl,ru⟩:=z6c r
 cases ru
 exact d_len I (.inl ha) fun t s' I'=>⟨.int kvs.length,H,I',⟨t,rfl⟩,q⟩
end
def Same (H H':Hp):Prop:=∀ b o,H b=some o→H' b=some o
theorem Same.refl (H:Hp):Same H H:=fun _ _ h=>h
theorem Same.trans (a:Same H H1) (b:Same H1 H2):Same H H2:=fun c o h=>b c o (a c o h)
theorem Same.free (e:Same H H') (h:H' l=Option.none):H l=Option.none:=by
 cases q:H l with
 | none=>rfl
 | some o =>
  rw [e l o q] at h
  cases h
theorem Same.seq {K:W3} {H H':Hp} {a:Addr} {xs:List V} (e:Same H H') (h:SqL K H a xs):SqL K H' a xs:=by
 rcases h with (h | ⟨o,h⟩) | h
 ·exact .inl (.inl (e _ _ h))
 ·exact .inl (.inr ⟨o,e _ _ h⟩)
 ·exact .inr h
section
variable {κ:Type} [DecidableEq κ]
end
def z29 (cells:List (Str×Addr)):List (Str×NameKind)→List (Str×Addr)→List (Str×Addr)
 | [],acc=>acc
 | (n,k) :: r,acc=>z29 cells r (if k == .free then (match cells.lookup n with | some a=>(n,a) :: acc | none=>acc) else acc)
theorem z4f (f:Str×NameKind→List (Str×Addr)→Sem (ForInStep (List (Str×Addr))))
  (hf:∀ name kind cs,f (name,kind) cs=if kind == .free then (do let a ← cellOf env name; pure (.yield ((name,a) :: cs))) else pure (.yield cs)) :
  ∀ (names:List (Str×NameKind)) (acc:List (Str×Addr)),(∀ x ∈ names,x.2=NameKind.free→∃ c,env.cells.lookup x.1=some c)→(forIn names acc f:Sem (List (Str×Addr)))=pure (z29 env.cells names acc)
 | [],acc,_=>by rw [List.forIn_nil]; rfl
 | (n,k) :: r,acc,h=>by
  rw [List.forIn_cons,hf]
  unfold z29
  by_cases hk:(k == NameKind.free)=true
  ·obtain ⟨c,hc⟩:=h (n,k) Wi (by simpa using hk)
   have hc':env.cells.lookup n=some c:=hc
   have e:cellOf env n=pure c:=by unfold cellOf; rw [hc']
   rw [if_pos hk,if_pos hk,e,hc']
   exact z4f f hf r _ fun x hx=>h x (Wg _ hx)
  ·rw [if_neg hk,if_neg hk]
   exact z4f f hf r _ fun x hx=>h x (Wg _ hx)
theorem z6L (h:∀ x ∈ scope.names,x.2=NameKind.free→∃ c,env.cells.lookup x.1=some c):closureFor scope env=pure (z29 env.cells scope.names []):=by
 unfold closureFor
 dsimp only
 rw [z4f (env:=env) _ (fun name kind cs=>by cases hkc:kind == NameKind.free <;> simp [hkc]) scope.names [] h]
 rfl
theorem z6K:∀ (names:List (Str×NameKind)) (acc:List (Str×Addr)),(n,c) ∈ z29 cells names acc→(n,c) ∈ acc∨((n,NameKind.free) ∈ names∧cells.lookup n=some c)
 | [],acc,h=>.inl h
 | (y,k) :: r,acc,h=>by
  unfold z29 at h
  rcases z6K r _ h with q | ⟨q,e⟩
  ·by_cases hk:(k == NameKind.free)=true
   ·rw [if_pos hk] at q
    have hk':k=NameKind.free:=by simpa using hk
    cases e:cells.lookup y with
    | none=>rw [e] at q; exact .inl q
    | some a =>
     rw [e] at q
     rcases Wj.mp q with z | z
     ·cases z
      exact .inr ⟨by rw [hk']; exact Wi,e⟩
     ·exact .inl z
   ·rw [if_neg hk] at q; exact .inl q
  ·exact .inr ⟨Wg _ q,e⟩
theorem z67:∀ (names:List (Str×NameKind)) (acc:List (Str×Addr)),(acc.lookup n).isSome=true∨((n,NameKind.free) ∈ names∧(cells.lookup n).isSome=true)→((z29 cells names acc).lookup n).isSome=true
 | [],acc,h=>h.elim id fun z=>absurd z.1 (by simp)
 | (y,k) :: r,acc,h=>by
  unfold z29
  apply z67 r
  by_cases hk:(k == NameKind.free)=true
  ·rw [if_pos hk]
   cases e:cells.lookup y with
   | none =>
    rcases h with h | ⟨h1,h2⟩
    ·exact .inl h
    ·rcases Wj.mp h1 with z | z
     ·cases z
      rw [e] at h2; cases h2
     ·exact .inr ⟨z,h2⟩
   | some a =>
    by_cases hn:(n == y)=true
    ·refine .inl ?_
     show (List.lookup n ((y,a) :: acc)).isSome=true
     rw [Q5,hn]
     rfl
    ·rcases h with h | ⟨h1,h2⟩
     ·refine .inl ?_
      show (List.lookup n ((y,a) :: acc)).isSome=true
      have hn':(n == y)=false:=by simpa using hn
      rw [Q5,hn']
      exact h
     ·rcases Wj.mp h1 with z | z
      ·cases z
       exact absurd (by simp) hn
      ·exact .inr ⟨z,h2⟩
  ·rw [if_neg hk]
   rcases h with h | ⟨h1,h2⟩
   ·exact .inl h
   ·rcases Wj.mp h1 with z | z
    ·cases z
     exact absurd rfl hk
    ·exact .inr ⟨z,h2⟩
theorem zc0:∀ (names:List (Str×NameKind)) (h:Heap) (acc:List (Str×Addr)),(n,c) ∈ Qm h.objs.size names acc →
  (n,c) ∈ acc∨((n,NameKind.cell) ∈ names∧h.objs.size≤c∧(Jq h names).IsCell c none)
 | [],_,_,h=>.inl h
 | (y,k) :: r,h,acc,hm=>by
  unfold Qm at hm
  unfold Jq
  by_cases hk:(k == NameKind.cell)=true
  ·rw [if_pos hk] at hm
   rw [if_pos hk]
   have hk':k=NameKind.cell:=by simpa using hk
   have sz:(h.push { cls:=.type "cell",data:=.cell none }).objs.size=h.objs.size + 1:=Heap.size_push ..
   rw [← sz] at hm
   rcases zc0 r _ _ hm with q | ⟨q1,q2,q3⟩
   ·rcases Wj.mp q with z | z
    ·cases z
     refine .inr ⟨by rw [hk']; exact Wi,Wh _,?_⟩
     exact Heap.IsCell.keeps ⟨_,Wu _ rfl,rfl⟩ (pushCells_keeps r _)
    ·exact .inl z
   ·exact .inr ⟨Wg _ q1,by rw [sz] at q2; omega,q3⟩
  ·rw [if_neg hk] at hm
   rw [if_neg hk]
   rcases zc0 r _ _ hm with q | ⟨q1,q2,q3⟩
   ·exact .inl q
   ·exact .inr ⟨Wg _ q1,q2,q3⟩
theorem zc1:∀ (names:List (Str×NameKind)) (k:Nat) (acc:List (Str×Addr)),(∀ n n' c,(n,c) ∈ acc→(n',c) ∈ acc→n=n')→(∀ n c,(n,c) ∈ acc→c < k) →
  ∀ n n' c,(n,c) ∈ Qm k names acc→(n',c) ∈ Qm k names acc→n=n'
 | [],_,_,h,_=>h
 | (y,kd) :: r,k,acc,h,hb=>by
  unfold Qm
  by_cases hk:(kd == NameKind.cell)=true
  ·rw [if_pos hk]
   refine zc1 r (k + 1) _ (fun n n' c h1 h2=>?_) fun n c hm=>?_
   ·rcases Wj.mp h1 with e | h1 <;> rcases Wj.mp h2 with e' | h2
    ·cases e; cases e'; rfl
    ·cases e; exact absurd (hb _ _ h2) (Qj _)
    ·cases e'; exact absurd (hb _ _ h1) (Qj _)
    ·exact h n n' c h1 h2
   ·rcases Wj.mp hm with e | hm
    ·cases e; exact Nat.lt_succ_self _
    ·exact Nat.lt_succ_of_lt (hb _ _ hm)
  ·rw [if_neg hk]
   exact zc1 r k acc h hb
theorem z13 {env:Env} {x:Str}:∀ {names:List (Str×NameKind)} {k:NameKind},
  (names.map fun (y:Str×NameKind)=>if (y.2 == NameKind.free && env.scope.kind == .function && env.kindOf y.1 == some .cell) then (y.1,NameKind.cell) else (y.1,y.2)).lookup x=some k →
  names.lookup x=some k∨(k=NameKind.cell∧names.lookup x=some .free)
 | [],_,h=>by simp at h
 | (n,kd) :: r,k,h=>by
  rw [Ww] at h
  have ih:=@z13 env x r k
  cases hx:x == n with
  | true =>
   by_cases hc:(kd == NameKind.free && env.scope.kind == .function && env.kindOf n == some .cell)=true
   ·rw [if_pos hc,Q5,hx] at h
    cases h
    simp only [Wk] at hc
    have:kd=NameKind.free:=by simpa using hc.1.1
    exact .inr ⟨rfl,by rw [Q5,hx,this]⟩
   ·rw [if_neg hc,Q5,hx] at h
    cases h
    exact .inl (by rw [Q5,hx])
  | false =>
   have h':(r.map fun (y:Str×NameKind)=>if (y.2 == NameKind.free && env.scope.kind == .function && env.kindOf y.1 == some .cell) then (y.1,NameKind.cell) else (y.1,y.2)).lookup x=some k:=by
    by_cases hc:(kd == NameKind.free && env.scope.kind == .function && env.kindOf n == some .cell)=true
    ·rw [if_pos hc,Q5,hx] at h; exact h
    ·rw [if_neg hc,Q5,hx] at h; exact h
   rw [Q5,hx]
   exact ih h'
def z1Q (X:Cx) (scope:Scope) (s₀:W5) (H₀:Hp) (ex:List Addr):Cx :=
 { X with
  env:={ scope:=relabel scope X.env,locals:=s₀.heap.objs.size,globals:=X.env.globals,cells:=Qm (s₀.heap.objs.size + 1) scope.names (z29 X.env.cells scope.names []),qual:=X.env.qual,func:=none,code:=X.env.code,frame:=X.env.frame,builtins:=X.env.builtins }
  s₀:=s₀
  H₀:=H₀
  outer:=X.stack
  ex:=ex
  fn:=fun x=>scope.names.lookup x == some .cell
  pn:=[]
  xe:=fun _ _=>False }
structure CScope (X:Cx) (scope:Scope) (cs:List Nat):Prop where
 kind:scope.kind = .function
 names:∀ x ∈ scope.names,x.2 = .local→scope.names.lookup x.1=some .local
 free:∀ x ∈ scope.names,x.2 = .free→X.env.kindOf x.1=some .cell∨X.env.kindOf x.1=some .free
 nd:(scope.names.map (·.1)).Nodup
 own:∀ (i:Nat) x,X.N[i]? = some x→scope.names.lookup x=some .local∨scope.names.lookup x=some .cell→i ∈ cs
def clr (cs:List Nat) (σ:St):St:=cs.foldl (fun σ i=>σ.set i none) σ
theorem z7h (cs:List Nat):∀ σ:St,(clr cs σ).length=σ.length:=by
 induction cs with
 | nil=>intro σ; rfl
 | cons i r ih =>
  intro σ
  show (clr r (σ.set i none)).length=_
  rw [ih]; simp
theorem z3w:∀ (cs:List Nat) (σ:St) (i:Nat) (v:V),(clr cs σ)[i]? = some (some v)→σ[i]? = some (some v)∧i ∉ cs:=by
 intro cs
 induction cs with
 | nil=>intro σ i v h; exact ⟨h,by simp⟩
 | cons j r ih =>
  intro σ i v h
  have h':(clr r (σ.set j none))[i]? = some (some v):=h
  obtain ⟨h1,h2⟩:=ih _ i v h'
  by_cases e:j=i
  ·subst e
   rw [WF] at h1
   simp at h1
  ·rw [W8 e] at h1
   exact ⟨h1,by simp only [Wj,not_or]; exact ⟨Ne.symm e,h2⟩⟩
theorem z5S:∀ {l:List (Str×α)},(l.map (·.1)).Nodup→(x,k) ∈ l→(x,k') ∈ l→k=k'
 | (y,j) :: r,nd,h1,h2=>by
  rw [Ww,List.nodup_cons] at nd
  rcases Wj.mp h1 with e | g1 <;> rcases Wj.mp h2 with e' | g2
  ·cases e; cases e'; rfl
  ·cases e; exact absurd (WM (f:=(·.1)) g2) nd.1
  ·cases e'; exact absurd (WM (f:=(·.1)) g1) nd.1
  ·exact z5S nd.2 g1 g2
section
variable {X:Cx} {pins:List (Addr×Obj)} {σ:St} {H:Hp} {s:W5} {scope:Scope} {cs:List Nat} {fp:List Addr}
theorem zai (I:Inv X pins σ H s) (S:CScope X scope cs) (hf:∀ b ∈ fp,FpOk X pins H b) (hlt:∀ b ∈ fp,b < s.heap.objs.size) :
  Inv (z1Q X scope s H fp) [] (clr cs σ) H { s with heap:=Jq (s.heap.push { cls:=.type "dict",data:=.dict #[] }) scope.names }:=by
 have sz:(s.heap.push { cls:=.type "dict",data:=.dict #[] }).objs.size=s.heap.objs.size + 1:=Heap.size_push ..
 have kp:∀ b o,s.heap.get? b=some o→(Jq (s.heap.push { cls:=.type "dict",data:=.dict #[] }) scope.names).get? b=some o:=fun b o e=>pushCells_keeps _ _ b o (Wa _ e)
 have clo:∀ n c,(n,c) ∈ z29 X.env.cells scope.names []→(n,NameKind.free) ∈ scope.names∧X.env.cells.lookup n=some c:=fun n c h=>(z6K _ _ h).elim (fun z=>absurd z (by simp)) id
 have cltm:∀ n c,(n,c) ∈ z29 X.env.cells scope.names []→c < s.heap.objs.size:=fun n c h=>by
  obtain ⟨v,q⟩:=I.cell n c (clo n c h).2
  exact q.lt
 have cel:∀ n c,(n,c) ∈ Qm (s.heap.objs.size + 1) scope.names (z29 X.env.cells scope.names []) →
   ((n,NameKind.free) ∈ scope.names∧X.env.cells.lookup n=some c)∨((n,NameKind.cell) ∈ scope.names∧s.heap.objs.size + 1≤c∧(Jq (s.heap.push { cls:=.type "dict",data:=.dict #[] }) scope.names).IsCell c none):=fun n c h=>by
  rw [← sz] at h
  rcases zc0 _ _ _ h with q | q
  ·exact .inl (clo n c q)
  ·rw [sz] at q; exact .inr q
 have cinj:=zc1 scope.names (s.heap.objs.size + 1) (z29 X.env.cells scope.names []) (fun n n' c h1 h2=>I.ok.inj n n' c (clo n c h1).2 (clo n' c h2).2) (fun n c h=>Nat.lt_succ_of_lt (cltm n c h))
 have hasC:∀ x ∈ scope.names,x.2 = .free→∃ c,X.env.cells.lookup x.1=some c:=fun x hx hk=>I.ok.has x.1 (S.free x hx hk)
 have fpn:∀ b ∈ fp,b ∉ frs X.stack:=fun b hb z=>by
  obtain ⟨_,f1,f2,_⟩:=hf b hb
  rcases Wj.mp (I.stkSub b z) with e | e
  ·exact f1 e
  ·exact f2 e
 have kindC:∀ x,(z1Q X scope s H fp).env.kindOf x=some .cell∨(z1Q X scope s H fp).env.kindOf x=some .free→scope.names.lookup x=some .cell∨scope.names.lookup x=some .free:=fun x h=>by
  rcases h with h | h
  ·have h':(relabel scope X.env).names.lookup x=some .cell:=h
   rcases z13 (env:=X.env) (names:=scope.names) h' with q | ⟨_,q⟩
   ·exact .inl q
   ·exact .inr q
  ·have h':(relabel scope X.env).names.lookup x=some .free:=h
   rcases z13 (env:=X.env) (names:=scope.names) h' with q | ⟨q,_⟩
   ·exact .inr q
   ·cases q
 have hasIt:∀ x,scope.names.lookup x=some .cell∨scope.names.lookup x=some .free→∃ c,(Qm (s.heap.objs.size + 1) scope.names (z29 X.env.cells scope.names [])).lookup x=some c:=fun x h=>by
  refine QO.mp (QZ scope.names _ _ ?_)
  rcases h with h | h
  ·exact .inl h
  ·refine .inr (z67 _ _ (.inr ⟨Wv h,?_⟩))
   obtain ⟨c,hc⟩:=hasC _ (Wv h) rfl
   exact Option.isSome_iff_exists.mpr ⟨c,hc⟩
 have ns0:(Jq (s.heap.push { cls:=.type "dict",data:=.dict #[] }) scope.names).Ns s.heap.objs.size fun _=>none:=(Heap.Ns.new s.heap (.type "dict")).keeps (pushCells_keeps _ _)
 refine ⟨⟨I.ok.mod,S.kind,I.ok.glob,I.ok.blt,Wh _,fun y z c h1 h2=>cinj y z c (Wv h1) (Wv h2),fun x hx=>hasIt x (kindC x hx),fun x c hfn h=>?_,I.ok.hd,I.ok.frames,.inl rfl,
  fun b hb=>⟨WT (hlt b hb),fun x c h e=>?_⟩,I.bs,WG I.ok.bsz I.sz,fun b o e hb=>?_,fpn,I.stack,I.stkFree⟩,
  rfl,I.bare,Un.kept kp,⟨fun _=>none,ns0,fun i x v h1 h2 h3=>?_⟩,fun x c h=>?_,I.hok.fresh (Wh _),fun x c h=>?_,fun p hp=>absurd (show p ∈ ([]:List (Addr×Obj)) from hp) (by simp),I.hok.kept kp,(z7h cs σ).trans I.len⟩
 ·rcases cel x c (Wv h) with q | q
  ·have hfn':scope.names.lookup x=some .cell:=by
    have:(scope.names.lookup x == some .cell)=true:=hfn
    exact Jp this
   have:=z5S S.nd q.1 (Wv hfn')
   cases this
  ·exact Nat.le_of_succ_le q.2.1
 ·subst e
  rcases cel x c (Wv h) with q | q
  ·exact (hf c hb).2.2.2.2.1 x c q.2 rfl
  ·exact absurd (Wt (hlt c hb) (Nat.le_of_succ_le q.2.1)) (Qj _)
 ·obtain ⟨_,_,_,f3,_⟩:=hf b hb
  rcases f3 with z | z
  ·exact I.ok.noex b o e z
  ·exact absurd (Wt (Wn (I.ok.bs b o e).1) z) (Qj _)
 ·obtain ⟨h2',hni⟩:=z3w cs σ i v h2
  have hni':¬ (scope.names.lookup x=some .local∨scope.names.lookup x=some .cell):=fun z=>hni (S.own i x h1 z)
  have hfree:scope.names.lookup x=some .free:=by
   rcases h3 with h3 | h3 | h3
   ·rcases z13 (env:=X.env) (names:=scope.names) h3 with q | ⟨q,_⟩
    ·exact absurd (.inl q) hni'
    ·cases q
   ·rcases z13 (env:=X.env) (names:=scope.names) h3 with q | ⟨_,q⟩
    ·exact absurd (.inr q) hni'
    ·exact q
   ·rcases z13 (env:=X.env) (names:=scope.names) h3 with q | ⟨q,_⟩
    ·exact q
    ·cases q
  have hk:=S.free _ (Wv hfree) rfl
  obtain ⟨m,hn,hl⟩:=I.loc
  have hvis:Vis X.env.scope x:=by
   rcases hk with hk | hk
   ·exact .inr (.inl hk)
   ·exact .inr (.inr hk)
  obtain ⟨u,r,l⟩:=hl i x v h1 h2' hvis
  refine ⟨u,r,?_⟩
  rcases l with ⟨k,_⟩ | ⟨_,c,hc,hcell⟩
  ·have k':X.env.kindOf x=some .local:=k
   rcases hk with hk | hk
   ·rw [show X.env.kindOf x=some .cell from hk] at k'; cases k'
   ·rw [show X.env.kindOf x=some .free from hk] at k'; cases k'
  ·obtain ⟨c',hc'⟩:=hasIt x (.inr hfree)
   have e:c'=c:=by
    rcases cel x c' (Wv hc') with q | q
    ·have q2:=q.2
     rw [hc] at q2; exact (Wx q2).symm
    ·have:=z5S S.nd q.1 (Wv hfree)
     cases this
   subst e
   refine .inr ⟨?_,c',hc',hcell.keeps kp⟩
   rcases h3 with h3 | h3 | h3
   ·rcases z13 (env:=X.env) (names:=scope.names) h3 with q | ⟨q,_⟩
    ·rw [hfree] at q; cases q
    ·cases q
   ·exact .inl h3
   ·exact .inr h3
 ·rcases cel x c (Wv h) with q | q
  ·obtain ⟨v,z⟩:=I.cell x c q.2
   exact ⟨v,z.keeps kp⟩
  ·exact ⟨none,q.2.2⟩
 ·rcases cel x c (Wv h) with q | q
  ·exact I.freeC x c q.2
  ·exact I.hok.fresh (Nat.le_of_succ_le q.2.1)
end
abbrev NoX:Value→W5→Prop:=fun _ _=>False
def zdJ (ifs:List Expr) (env:Env):Sem Bool:=forIn ifs true fun c r=>if r=true then do let ok ← isTrue c env (eval c env); pure (ForInStep.yield ok) else pure (ForInStep.yield r)
theorem z87 (I:Nat→W5→Prop)
  (turn:∀ n s,I n s→We (model prog w) A (pyNext it) (fun r s₁=>match r with
   | none=>R (.ok .next) s₁
   | some v=>We (model prog w) A (letOwnedTupleGo target it v) (fun _ s₁'=>We (model prog w) A (assign target env v) (fun _ s₂ =>
     We (model prog w) A (zdJ ifs env) (fun ok s₃ =>
      if ok=true then We (model prog w) A (eval elt env) (fun x s₄ =>
       We (model prog w) A (call (.builtin "list.append") [acc,x]) (fun _ s₅=>∃ m,m < n∧I m s₅) NoX s₄) NoX s₃
      else ∃ m,m < n∧I m s₃) NoX s₂) NoX s₁') NoX s₁) NoX s)
  (n:Nat) (h:I n s) :
  QC (model prog w) A (.compLoop (.ListComp elt [⟨target,iter,ifs,0⟩] scope pos) 0 it acc env) R s:=by
 refine codeAny_loop rfl I (fun n s hI=>?_) n h
 show We _ A ((compTurn (.ListComp elt [⟨target,iter,ifs,0⟩] scope pos) 0 it acc env).onRaise (fun x=>do noteFrame x env; theTreesLotGoes x)) _ _ s
 refine wpAny_noted ?_
 rw [compTurn_list]
 refine W4 (wpAny_standAt (W4 (WJ (turn n s hI) (fun r s₁ h₁=>?_) fun _ _ h'=>h'.elim)))
 cases r with
 | none=>exact Wc h₁
 | some v =>
  refine W4 (WJ h₁ (fun _ s₁' h₁'=>?_) fun _ _ h'=>h'.elim)
  refine W4 (WJ h₁' (fun _ s₂ h₂=>W4 (WJ h₂ (fun ok s₃ h₃=>?_) fun _ _ h'=>h'.elim)) fun _ _ h'=>h'.elim)
  cases ok with
  | false=>exact Wc ⟨rfl,h₃⟩
  | true =>
   exact W4 (W4 (WJ h₃ (fun x s₄ h₄=>W4 (WJ h₄ (fun _ s₅ h₅=>Wc (Wc ⟨rfl,h₅⟩)) fun _ _ h'=>h'.elim)) fun _ _ h'=>h'.elim))
theorem za9
  (h:Q { scope,locals:=s.heap.objs.size,globals,cells:=Qm (s.heap.objs.size + 1) scope.names cl,qual,func:=none,code:=env.code,frame:=env.frame,builtins:=env.builtins }
   { s with heap:=Jq (s.heap.push { cls:=.type "dict",data:=.dict #[] }) scope.names }):We M A (newFunctionEnv scope globals cl [] qual none .none (some env)) Q E s:=by
 simp only [newFunctionEnv,Option.isSome_some,if_true]
 refine W4 (wpAny_alloc ?_)
 refine W4 (wpAny_layCells _ (fun name kind cells=>by cases hkc:kind == NameKind.cell <;> simp [hkc]) _ _ _ _ ?_)
 rw [show ({ s with heap:=s.heap.push { cls:=.type "dict",data:=.dict #[] } }:W5).heap.objs.size=s.heap.objs.size + 1 from Heap.size_push ..]
 exact W4 (Wc (Wc h))
def PTs (X:Cx) (ifs:List Expr) (t:TT):Prop :=
 ∀ (pins:List (Addr×Obj)) (s:W5) (σ:St) (H:Hp) (Q:Bool→Hp→Prop),Inv X pins σ H s→t σ H Q→We (model X.prog X.w) X.A (zdJ ifs X.env) (TP X pins σ Q) X.xe s
def tYes:TT:=fun _ H Q=>Q true H
theorem zef:PTs X [] tYes:=fun pins s σ H Q I h=>wpAny_tests_nil ⟨H,I,h⟩
theorem zee (h:PT X c t):PTs X [c] t:=fun pins s σ H Q I q=>wpAny_tests_one (h pins s σ H Q I q)
def Le (σ σ':St):Prop:=σ'.length=σ.length∧∀ (i:Nat) (v:V),σ[i]? = some (some v)→σ'[i]? = some (some v)
def zdK (cs:List Nat) (g:TG) (tt:TT) (te:TE) (σ:St) (Q:VK) (J:It) (H1:Hp):Prop :=
 ∀ l,H1 l=none→∃ W:Nat→Nat→Hp→Prop,(∃ m,W 0 m (upd H1 l (.lst [])))∧∀ i m H2,W i m H2 →
  (J.stop i H2∧Q (.ref l) H2) ∨
  (J.go i H2∧∀ x H3,J.yld i H2 x H3→g x (clr cs σ) H3 fun σ4 H4=>Le (clr cs σ) σ4∧tt σ4 H4 fun b H5 =>
   if b=true then te σ4 H5 fun v H6=>∃ ys m',H6 l=some (.lst ys)∧ys.length < W6∧m' < m∧W (i + 1) m' (upd H6 l (.lst (ys ++ [v]))) else ∃ m',m' < m∧W (i + 1) m' H5)
def zdS (cs:List Nat) (wi:TI) (g:TG) (tt:TT) (te:TE):TE:=fun σ H Q=>wi σ H fun J H1=>zdK cs g tt te σ Q J H1
section
variable {X:Cx} {pins:List (Addr×Obj)} {σ:St} {H:Hp} {s:W5} {scope:Scope} {cs:List Nat} {elt tg iter:Expr} {ifs:List Expr} {pos:Pos} {g:TG} {tt:TT} {te:TE}
theorem z6J {it:Addr} {fp:List Addr} {tn:Nat→Heap→Prop} {J:It} {Q:VK} {E:Value→W5→Prop} {RR:Value→Addr→Result→W5→Prop} (hc:X.calm=true) (I:Inv X pins σ H s) (S:CScope X scope cs)
  (T:Turn X.prog X.w X.K tg J fp it tn) (st:tn 0 s.heap) (hf:∀ b ∈ fp,FpOk X pins H b)
  (hg:∀ s₀ H₀ ex,PG (z1Q X scope s₀ H₀ ex) tg g) (ht:∀ s₀ H₀ ex,PTs (z1Q X scope s₀ H₀ ex) ifs tt) (he:∀ s₀ H₀ ex,PE (z1Q X scope s₀ H₀ ex) elt te) (q:zdK cs g tt te σ Q J H)
  (hRR:∀ l C s' H',Inv X pins σ H' s'→FpOk X pins H' C→(∃ m,s'.heap.Ns C m)→Q (.ref l) H'→RR (.ref l) C (.ok .next) s') :
  We (model X.prog X.w) X.A (newList []) (fun acc s₃=>We (model X.prog X.w) X.A (newFunctionEnv scope X.env.globals (z29 X.env.cells scope.names []) [] X.env.qual none .none (some X.env)) (fun cenv s₄ =>
   QC (model X.prog X.w) X.A (.compStart (.ListComp elt [⟨tg,iter,ifs,0⟩] scope pos) 0 (.ref it) acc { cenv with scope:=relabel scope X.env }) (RR acc cenv.locals) s₄) E s₃) E s:=by
 refine Qa ?_
 have hfr:H s.heap.objs.size=none:=I.hok.fresh (Wh _)
 obtain ⟨W,⟨m0,w0⟩,turn⟩:=q s.heap.objs.size hfr
 generalize hl:s.heap.objs.size=l at *
 have I3:Inv X pins σ (upd H l (.lst [])) { s with heap:=s.heap.push { cls:=.type "list",dict:=none,data:=.seq ([]:List Value).toArray } } :=
  I.laid (t':=s.toks) (fun b u e=>Wa _ e) (Nat.le_of_eq hl) ⟨QM _,[],0,.nil,by rw [← hl]; exact Wu _ rfl⟩
 have kp3:∀ b o,s.heap.get? b=some o→(s.heap.push { cls:=.type "list",dict:=none,data:=.seq ([]:List Value).toArray }).get? b=some o:=fun b o e=>Wa _ e
 have hfl:∀ b ∈ fp,b≠l:=fun b hb e=>by
  obtain ⟨o,ho,_⟩:=T.obj 0 _ st b hb
  exact absurd (Wn ho) (by rw [e,hl]; exact Qj _)
 have hf3:∀ b ∈ fp,FpOk X pins (upd H l (.lst [])) b:=fun b hb=>⟨by rw [z0x (hfl b hb)]; exact (hf b hb).1,(hf b hb).2⟩
 have st3:tn 0 (s.heap.push { cls:=.type "list",dict:=none,data:=.seq ([]:List Value).toArray }):=T.keep 0 _ _ st fun b _ o e=>kp3 b o e
 generalize hs3:({ s with heap:=s.heap.push { cls:=.type "list",dict:=none,data:=.seq ([]:List Value).toArray } }:W5)=s3 at I3
 have st3':tn 0 s3.heap:=by rw [← hs3]; exact st3
 have hlt3:∀ b ∈ fp,b < s3.heap.objs.size:=fun b hb=>by
  obtain ⟨o,ho,_⟩:=T.obj 0 _ st3' b hb
  exact Wn ho
 refine za9 ?_
 have I4:=zai I3 S hf3 hlt3
 generalize hX:z1Q X scope s3 (upd H l (.lst [])) fp=X' at I4
 generalize hs4:({ s3 with heap:=Jq (s3.heap.push { cls:=.type "dict",data:=.dict #[] }) scope.names }:W5)=s4 at I4 ⊢
 have hg':=hg s3 (upd H l (.lst [])) fp
 have ht':=ht s3 (upd H l (.lst [])) fp
 have he':=he s3 (upd H l (.lst [])) fp
 rw [hX] at hg' ht' he'
 have st4:tn 0 s4.heap:=T.keep 0 _ _ st3' fun b _ o e=>by rw [← hs4]; exact pushCells_keeps _ _ b o (Wa _ e)
 have hP:X'.prog=X.prog:=by rw [← hX]; rfl
 have hw:X'.w=X.w:=by rw [← hX]; rfl
 have hA:X'.A=X.A:=by rw [← hX]; rfl
 have hK:X'.K=X.K:=by rw [← hX]; rfl
 have hc':X'.calm=true:=by rw [← hX]; exact hc
 have hxe:X'.xe=NoX:=by rw [← hX]; rfl
 have hloc:X'.env.locals=s3.heap.objs.size:=by rw [← hX]; rfl
 have henv:({ scope:=relabel scope X.env,locals:=s3.heap.objs.size,globals:=X.env.globals,cells:=Qm (s3.heap.objs.size + 1) scope.names (z29 X.env.cells scope.names []),qual:=X.env.qual,func:=none,code:=X.env.code,frame:=X.env.frame,builtins:=X.env.builtins }:Env)=X'.env:=by rw [← hX]; rfl
 have fpx:∀ {H':Hp},(∀ b ∈ fp,H' b=none)→∀ b ∈ fp,FpOk X' [] H' b:=fun {H'} hn b hb=>by
  have ex:X'.ex=fp:=by rw [← hX]; rfl
  have pn:X'.pn=[]:=by rw [← hX]; rfl
  refine ⟨hn b hb,(I4.ok.exf b (by rw [ex]; exact hb)).1,I4.ok.exfs b (by rw [ex]; exact hb),.inl (by rw [ex]; exact hb),(I4.ok.exf b (by rw [ex]; exact hb)).2,fun p hp=>?_⟩
  rw [pn] at hp
  simp at hp
 show QC (model X.prog X.w) X.A (.compStart (.ListComp elt [⟨tg,iter,ifs,0⟩] scope pos) 0 (.ref it) (.ref l) ({ scope:=relabel scope X.env,locals:=s3.heap.objs.size,globals:=X.env.globals,cells:=Qm (s3.heap.objs.size + 1) scope.names (z29 X.env.cells scope.names []),qual:=X.env.qual,func:=none,code:=X.env.code,frame:=X.env.frame,builtins:=X.env.builtins }:Env)) (RR (.ref l) s3.heap.objs.size) s4
 rw [henv]
 have loop:QC (model X.prog X.w) X.A (.compLoop (.ListComp elt [⟨tg,iter,ifs,0⟩] scope pos) 0 (.ref it) (.ref l) X'.env) (RR (.ref l) s3.heap.objs.size) s4:=by
  refine z87 (fun n s'=>∃ i H',Inv X' [] (clr cs σ) H' s'∧tn i s'.heap∧(∀ b ∈ fp,H' b=none)∧W i n H') ?_ m0 ⟨0,_,I4,st4,fun b hb=>(hf3 b hb).1,w0⟩
  rintro n s5 ⟨i,H5,I5,st5,fr5,w5⟩
  rcases turn i n H5 w5 with ⟨stop,qn⟩ | ⟨go,step⟩
  ·have:=T.done X' hP hw hK hc' i [] s5 (clr cs σ) H5 NoX I5 (fpx fr5) st5 stop
   rw [hA] at this
   refine thn this fun r s6 ⟨hr,I6⟩=>?_
   subst hr
   have b6:=I6.base
   have e1:X'.fs=frs X.stack:=by rw [← hX]; rfl
   have e2:X'.ex=fp:=by rw [← hX]; rfl
   have e3:X'.H₀=upd H l (.lst []):=by rw [← hX]; rfl
   have e4:X'.s₀=s3:=by rw [← hX]; rfl
   rw [e1,e2,e3,e4] at b6
   have o6:s6.os=s3.os:=by rw [← e4]; exact I6.os
   have hok6:HOk X.prog X.w H5 s6.heap:=by rw [← hP,← hw]; exact I6.hok
   have J6:Inv X pins σ H5 s6:=I3.call' o6 b6 hok6 I6.bare fun b hb=>by
    obtain ⟨_,f1,_,f3,f4,f5⟩:=hf3 b hb
    exact ⟨f3,f1,f4,f5⟩
   obtain ⟨m6,n6,_⟩:=I6.loc
   rw [hloc] at n6
   refine hRR l s3.heap.objs.size s6 H5 J6 (I3.fpOk (Wh _) ?_) ⟨m6,n6⟩ qn
   rw [← hloc]
   exact I6.free
  ·have:=T.item X' hP hw hK hc' i [] s5 (clr cs σ) H5 NoX I5 (fpx fr5) st5 go
   rw [hA] at this
   refine thn this fun r s6 ⟨u,hr,h6⟩=>?_
   subst hr
   refine thn h6 fun _ s7 ⟨x,H7,I7,r7,y7,st7,fr7⟩=>?_
   have I7':=I7.pinned (fpx fr7) (T.obj _ _ st7)
   have a8:=hg' _ s7 (clr cs σ) H7 x u _ I7' r7 (step x H7 y7)
   rw [hP,hw,hA,hxe] at a8
   refine thn a8 fun _ s8 ⟨σ8,H8,I8,le8,q8⟩=>?_
   have a9:=ht' _ s8 σ8 H8 _ I8 q8
   rw [hP,hw,hA,hxe] at a9
   refine thn a9 fun ok s9 ⟨H9,I9,q9⟩=>?_
   have back:∀ {H':Hp} {s':W5},Inv X' ([] ++ z7F fp s7.heap) σ8 H' s'→Inv X' [] (clr cs σ) H' s'∧tn (i + 1) s'.heap∧∀ b ∈ fp,H' b=none:=fun {H' s'} J=>by
    refine ⟨J.unpinned.weak (le8.1.symm) le8.2,T.keep _ _ _ st7 fun b hb o e=>(J.pin (b,o) (WK _ (WK _ (z3F hb e)))).1,fun b hb=>?_⟩
    obtain ⟨o,e,d⟩:=T.obj _ _ st7 b hb
    exact (J.pin (b,o) (WK _ (WK _ (z3F hb e)))).2.1
   cases ok with
   | false =>
    rw [if_neg Q1] at q9 ⊢
    obtain ⟨m',hm,w9⟩:=q9
    obtain ⟨b1,b2,b3⟩:=back I9
    exact ⟨m',hm,i + 1,H9,b1,b2,b3,w9⟩
   | true =>
    rw [if_pos rfl] at q9 ⊢
    have a10:=he' _ s9 σ8 H9 _ I9 q9
    rw [hP,hw,hA,hxe] at a10
    refine thn a10 fun x10 s10 ⟨v,H10,I10,r10,ys,m',hy,hz,hm,w10⟩=>?_
    have a11:=z7Q (X:=X') _ s10 σ8 H10 (.ref l) [v] (.ref l) [x10] (fun _ H'=>W (i + 1) m' H') I10 rfl (.cons r10 .nil) ⟨l,ys,v,rfl,rfl,hy,hz,w10⟩
    rw [hP,hw,hA,hxe] at a11
    refine thn a11 fun _ s11 ⟨_,H11,I11,_,w11⟩=>?_
    obtain ⟨b1,b2,b3⟩:=back I11
    exact ⟨m',hm,i + 1,H11,b1,b2,b3,w11⟩
 exact codeAny_compStart_list loop (T.self X.A 0 s4 _ _ st4 loop)
theorem zem (hc:X.calm=true) (S:CScope X scope cs) (hi:PI X tg iter wi) (hg:∀ s₀ H₀ ex,PG (z1Q X scope s₀ H₀ ex) tg g) (ht:∀ s₀ H₀ ex,PTs (z1Q X scope s₀ H₀ ex) ifs tt) (he:∀ s₀ H₀ ex,PE (z1Q X scope s₀ H₀ ex) elt te)
  (hs:∀ x,QJ iter X.env x=pure x:=by intro _; rfl):PE X (.ListComp elt [⟨tg,iter,ifs,0⟩] scope pos) (zdS cs wi g tt te):=by
 intro pins s σ H Q I h
 have hasC:∀ x ∈ scope.names,x.2 = .free→∃ c,X.env.cells.lookup x.1=some c:=fun x hx hk=>I.ok.has x.1 (S.free x hx hk)
 rw [eval_ListComp]
 refine wpAny_comprehension_free (use:=none) rfl hs (z6L hasC) S.kind S.names (thn (hi pins s σ H _ I h) fun xv s1 h1=>thn h1 fun itv s2 h2=>?_)
 obtain ⟨it,fp,tn,J,H2,e,I2,T,st2,f2,q2⟩:=h2
 subst e
 refine z6J (RR:=fun acc C=>compPost (model X.prog X.w) X.A X.xe none (EP X pins σ Q) acc C) hc I2 S T st2 f2 hg ht he q2 ?_
 intro l C s' H' I' fC ⟨m,n⟩ q
 exact ⟨m,n,fun h' hs'=>⟨.ref l,H',I'.turned (t':=s'.toks) (fun b o hb e=>(hs'.2 b hb).trans e) fC.1 fC.2.1 fC.2.2.2.1 fC.2.2.2.2.1 fC.2.2.2.2.2,rfl,q⟩⟩
theorem za3 (hc:X.calm=true) (S:CScope X scope cs) (hN:X.N.Nodup) (hi':X.N[i]? = some y) (hy:X.env.scope.names.lookup y=some .local)
  (hi:PI X tg iter wi) (hg:∀ s₀ H₀ ex,PG (z1Q X scope s₀ H₀ ex) tg g) (ht:∀ s₀ H₀ ex,PTs (z1Q X scope s₀ H₀ ex) ifs tt) (he:∀ s₀ H₀ ex,PE (z1Q X scope s₀ H₀ ex) elt te)
  (hsw:J5 (.ListComp elt [⟨tg,iter,ifs,0⟩] scope pos) (some (.Name y py)) spos.line X.env=pure true:=by rfl)
  (hs:∀ x,QJ iter X.env x=pure x:=by intro _; rfl):PS X (.Assign [.Name y py] (.ListComp elt [⟨tg,iter,ifs,0⟩] scope pos) spos) (tAsg (zdS cs wi g tt te) (zd4 i)):=by
 intro pins s σ H D I h
 have hasC:∀ x ∈ scope.names,x.2 = .free→∃ c,X.env.cells.lookup x.1=some c:=fun x hx hk=>I.ok.has x.1 (S.free x hx hk)
 rw [exec_Assign_Name_used _ _ _ _ hsw]
 refine W4 (wpAny_standAt (W4 ?_))
 show We _ X.A (do let _ ← comprehension (.ListComp elt [⟨tg,iter,ifs,0⟩] scope pos) scope X.env _ (newList []) false (eval iter X.env) (some (assign (.Name y py) X.env))) _ _ s
 refine W4 (WJ (wpAny_comprehension_free (use:=some (assign (.Name y py) X.env)) (Q:=fun _ s'=>SP X pins D .next s') rfl hs (z6L hasC) S.kind S.names
  (thn (hi pins s σ H _ I h) fun xv s1 h1=>thn h1 fun itv s2 h2=>?_)) (fun _ s' hq=>Wc (Wc hq)) fun _ _ e=>e)
 obtain ⟨it,fp,tn,J,H2,e,I2,T,st2,f2,q2⟩:=h2
 subst e
 refine z6J (RR:=fun acc C=>compPost (model X.prog X.w) X.A X.xe (some (assign (.Name y py) X.env)) (fun _ s'=>SP X pins D .next s') acc C) hc I2 S T st2 f2 hg ht he q2 ?_
 intro l C s' H' I' fC ⟨m,n⟩ q
 show We _ X.A (assign (.Name y py) X.env (.ref l)) _ _ _
 refine wpAny_assign_Name (z4l I' hN hi' (.inl hy) (v:=.ref l) rfl (fun s'' I'' ⟨a,hsb,ha⟩=>?_) (.inr hy))
 have hne:C≠a:=by
  rcases ha with rfl | ha
  ·exact fC.2.1
  ·exact fun e=>fC.2.2.2.2.1 y a ha e.symm
 refine ⟨m,n.sameBut hsb hne,fun h' hs'=>⟨_,H',I''.turned (t':=s''.toks) (fun b o hb e=>(hs'.2 b hb).trans e) fC.1 fC.2.1 fC.2.2.2.1 fC.2.2.2.2.1 fC.2.2.2.2.2,q⟩⟩
end
end L2
set_option maxHeartbeats 4000000
namespace DV
open PySem PySem.Spec PyProof.Rows L2
abbrev Tx:=List Nat
def toS (x:Tx):Str:=⟨x.toArray⟩
theorem z8h (x:Tx):(toS x).cps.toList=x:=by simp [toS]
theorem z2j (x:Tx):(toS x).length=x.length:=by simp [toS,Str.length]
theorem z8g (h:toS x=toS y):x=y:=by
 have:=congrArg (fun z:Str=>z.cps.toList) h
 simpa [toS] using this
theorem zf8 (z:Str):z=toS z.cps.toList:=by simp [toS]
abbrev DKey:=Sum Int Tx
def kOf:DKey→Key
 | .inl i=>.inl i
 | .inr x=>.inr (toS x)
inductive D where
 | non | bl (b:Bool) | int (i:Int) | str (x:Tx) | tup (xs:List D) | lst (xs:List D) | dct (kvs:List (DKey×D)) | exc (n:Nat)
def excAt (C a:Addr):Heap→Prop:=fun h=>∃ o,h.get? a=some o∧o.cls = .ref C∧∃ vs,o.data = .fields vs
inductive S where
 | pure (d:D)
 | own (d:D)
def S.d:S→D
 | .pure d=>d
 | .own d=>d
abbrev Dl:=List (Option S)
abbrev St:=L2.St
inductive Rep (H:Hp) (O:Addr→Prop):V→D→Prop
 | non:Rep H O .non .non
 | bl (b:Bool):Rep H O (.bl b) (.bl b)
 | int (i:Int):Rep H O (.int i) (.int i)
 | str (x:Tx):Rep H O (.str (toS x)) (.str x)
 | tup {a:Addr} {vs:List V} {ds:List D}:¬ O a→H a=some (.tup vs)→vs.length=ds.length→(∀ (i:Nat) v d,vs[i]? = some v→ds[i]? = some d→Rep H O v d)→Rep H O (.ref a) (.tup ds)
 | lst {a:Addr} {vs:List V} {ds:List D}:¬ O a→Rd H a (.lst vs)→vs.length=ds.length→(∀ (i:Nat) v d,vs[i]? = some v→ds[i]? = some d→Rep H O v d)→Rep H O (.ref a) (.lst ds)
 | dct {a:Addr} {ws:List (Key×V)} {ds:List (DKey×D)}:¬ O a→H a=some (.dK ws)→ws.map (·.1)=ds.map (fun p=>kOf p.1)→(∀ (i:Nat) p q,ws[i]? = some p→ds[i]? = some q→Rep H O p.2 q.2)→Rep H O (.ref a) (.dct ds)
 | exc {a:Addr} {n:Nat}:¬ O a→H a=some (.ext (excAt n a))→Rep H O (.ref a) (.exc n)
abbrev Reps (H:Hp) (O:Addr→Prop) (vs:List V) (ds:List D):Prop:=vs.length=ds.length∧∀ (i:Nat) v d,vs[i]? = some v→ds[i]? = some d→Rep H O v d
def OwnAt (H:Hp) (O:Addr→Prop) (a:Addr):D→Prop
 | .lst ds=>∃ vs,H a=some (.lst vs)∧Reps H O vs ds
 | .dct ds=>∃ ws:List (Key×V),H a=some (.dK ws)∧ws.map (·.1)=ds.map (fun p=>kOf p.1)∧∀ (i:Nat) p q,ws[i]? = some p→ds[i]? = some q→Rep H O p.2 q.2
 | _=>False
section
variable {H H':Hp} {O O':Addr→Prop} {v:V} {d:D} {vs:List V} {ds:List D} {a:Addr}
theorem Rd.keep (h:Rd H a u) (k:∀ o,H a=some o→H' a=some o):Rd H' a u:=by
 rcases h with h | ⟨o,h⟩
 ·exact .inl (k _ h)
 ·exact .inr ⟨o,k _ h⟩
theorem Rd.some (h:Rd H a u):∃ o,H a=some o:=by
 rcases h with h | ⟨o,h⟩
 ·exact ⟨_,h⟩
 ·exact ⟨_,h⟩
theorem Rep.keep (h:Rep H O v d) (k:∀ a o,H a=some o→¬ O a→H' a=some o):Rep H' O v d:=by
 induction h with
 | non=>exact .non
 | bl b=>exact .bl b
 | int i=>exact .int i
 | str x=>exact .str x
 | tup h1 h2 h3 _ ih=>exact .tup h1 (k _ _ h2 h1) h3 ih
 | lst h1 h2 h3 _ ih=>exact .lst h1 (Rd.keep h2 fun o e=>k _ o e h1) h3 ih
 | dct h1 h2 h3 _ ih=>exact .dct h1 (k _ _ h2 h1) h3 ih
 | exc h1 h2=>exact .exc h1 (k _ _ h2 h1)
theorem Rep.anti (h:Rep H O v d) (k:∀ a,O' a→O a∨H a=none):Rep H O' v d:=by
 have no:∀ {a:Addr} {u:HO},¬ O a→Rd H a u→¬ O' a:=fun {a u} h1 h2 z=>by
  rcases k a z with q | q
  ·exact h1 q
  ·obtain ⟨o,e⟩:=Rd.some h2
   rw [q] at e; cases e
 induction h with
 | non=>exact .non
 | bl b=>exact .bl b
 | int i=>exact .int i
 | str x=>exact .str x
 | tup h1 h2 h3 _ ih=>exact .tup (no h1 (.inl h2)) h2 h3 ih
 | lst h1 h2 h3 _ ih=>exact .lst (no h1 h2) h2 h3 ih
 | dct h1 h2 h3 _ ih=>exact .dct (no h1 (.inl h2)) h2 h3 ih
 | exc h1 h2=>exact .exc (no h1 (.inl h2)) h2
theorem Reps.keep (h:Reps H O vs ds) (k:∀ a o,H a=some o→¬ O a→H' a=some o):Reps H' O vs ds:=⟨h.1,fun i v d e1 e2=>(h.2 i v d e1 e2).keep k⟩
theorem Reps.anti (h:Reps H O vs ds) (k:∀ a,O' a→O a∨H a=none):Reps H O' vs ds:=⟨h.1,fun i v d e1 e2=>(h.2 i v d e1 e2).anti k⟩
theorem Reps.nil:Reps H O [] []:=⟨rfl,fun i v d e _=>by simp at e⟩
theorem Reps.cons (h:Rep H O v d) (r:Reps H O vs ds):Reps H O (v :: vs) (d :: ds):=by
 refine ⟨by simp [r.1],fun i v' d' e1 e2=>?_⟩
 cases i with
 | zero=>simp at e1 e2; subst e1; subst e2; exact h
 | succ i=>exact r.2 i v' d' (by simpa using e1) (by simpa using e2)
theorem Reps.head (r:Reps H O (v :: vs) (d :: ds)):Rep H O v d:=r.2 0 v d rfl rfl
theorem Reps.tail (r:Reps H O (v :: vs) (d :: ds)):Reps H O vs ds:=⟨by simpa using r.1,fun i v' d' e1 e2=>r.2 (i + 1) v' d' (by simpa using e1) (by simpa using e2)⟩
theorem Reps.append (h:Reps H O vs ds) (h':Reps H O vs' ds'):Reps H O (vs ++ vs') (ds ++ ds'):=by
 induction vs generalizing ds with
 | nil =>
  cases ds with
  | nil=>exact h'
  | cons d r=>have:=h.1; simp at this
 | cons v r ih =>
  cases ds with
  | nil=>have:=h.1; simp at this
  | cons d q=>exact .cons h.head (ih h.tail)
theorem Reps.get {i:Nat} (h:Reps H O vs ds) (e:ds[i]? = some d):∃ v,vs[i]? = some v∧Rep H O v d:=by
 have hi:i < ds.length:=(Wf.mp e).1
 have hv:i < vs.length:=by rw [h.1]; exact hi
 exact ⟨vs[i],by simp [hv],h.2 i _ d (by simp [hv]) e⟩
theorem Reps.take (n:Nat) (h:Reps H O vs ds):Reps H O (vs.take n) (ds.take n):=by
 refine ⟨by simp [h.1],fun i v d e1 e2=>?_⟩
 by_cases hi:i < n
 ·rw [List.getElem?_take_of_lt hi] at e1 e2
  exact h.2 i v d e1 e2
 ·rw [List.getElem?_take_eq_none (by omega)] at e1; cases e1
theorem Reps.drop (n:Nat) (h:Reps H O vs ds):Reps H O (vs.drop n) (ds.drop n):=by
 refine ⟨by simp [h.1],fun i v d e1 e2=>?_⟩
 rw [List.getElem?_drop] at e1 e2
 exact h.2 (n + i) v d e1 e2
theorem Reps.set (h:Reps H O vs ds) (r:Rep H O v d) (j:Nat):Reps H O (vs.set j v) (ds.set j d):=by
 refine ⟨by simp [h.1],fun i v' d' e1 e2=>?_⟩
 by_cases hi:j=i
 ·subst hi
  rw [WF] at e1 e2
  simp at e1 e2
  obtain ⟨_,rfl⟩:=e1
  obtain ⟨_,rfl⟩:=e2
  exact r
 ·rw [W8 hi] at e1 e2
  exact h.2 i v' d' e1 e2
theorem Reps.reverse (h:Reps H O vs ds):Reps H O vs.reverse ds.reverse:=by
 refine ⟨by simp [h.1],fun i v d e1 e2=>?_⟩
 have hl:=h.1
 have h1:i < vs.length:=by have:=(Wf.mp e1).1; simpa using this
 rw [List.getElem?_reverse (by omega)] at e1
 rw [List.getElem?_reverse (by omega)] at e2
 exact h.2 (vs.length - 1 - i) v d e1 (by rw [hl]; exact e2)
theorem OwnAt.keep (h:OwnAt H O a d) (hk:∀ b o,H b=some o→¬ O b→H' b=some o) (ha:∀ o,H a=some o→H' a=some o):OwnAt H' O a d:=by
 cases d <;> first
  | exact h.elim
  | (obtain ⟨vs,e,r⟩:=h; exact ⟨vs,ha _ e,Reps.keep r hk⟩)
  | (obtain ⟨ws,e,r,q⟩:=h; exact ⟨ws,ha _ e,r,fun i p p' e1 e2=>(q i p p' e1 e2).keep hk⟩)
theorem OwnAt.anti (h:OwnAt H O a d) (k:∀ a,O' a→O a∨H a=none):OwnAt H O' a d:=by
 cases d <;> first
  | exact h.elim
  | (obtain ⟨vs,e,r⟩:=h; exact ⟨vs,e,Reps.anti r k⟩)
  | (obtain ⟨ws,e,r,q⟩:=h; exact ⟨ws,e,r,fun i p p' e1 e2=>(q i p p' e1 e2).anti k⟩)
theorem OwnAt.some (h:OwnAt H O a d):∃ o,H a=some o:=by
 cases d <;> first
  | exact h.elim
  | (obtain ⟨vs,e,r⟩:=h; exact ⟨_,e⟩)
theorem OwnAt.rep (h:OwnAt H O a d) (ho:¬ O a):Rep H O (.ref a) d:=by
 cases d with
 | lst ds=>obtain ⟨vs,e,r⟩:=h; exact .lst ho (.inl e) r.1 r.2
 | dct ds=>obtain ⟨ws,e,r,q⟩:=h; exact .dct ho e r q
 | _=>exact h.elim
end
structure Xc where
 cls:Tx
 flds:List D
structure Fc where
 H₀:Hp
 B:Addr→Prop
 pin:List (Nat×Addr)
 xc:Xc→Dl→Prop:=fun _ _=>False
def Fc.plus (c:Fc) (p:Addr):Fc:={ c with B:=fun a=>c.B a∨a=p }
def Fc.I (c:Fc) (a:Addr):Prop:=∃ i,(i,a) ∈ c.pin
def Own (σ:St) (δ:Dl) (a:Addr):Prop:=∃ (i:Nat) (d:D),δ[i]? = some (some (.own d))∧σ[i]? = some (some (.ref a))
def Av (c:Fc) (σ:St) (δ:Dl) (a:Addr):Prop:=c.B a∨Own σ δ a
structure Ok (c:Fc) (σ:St) (δ:Dl) (H:Hp):Prop where
 keep:∀ a o,c.H₀ a=some o→¬ c.I a→H a=some o
 bd:∀ a,c.B a→∃ o,H a=some o
 ith:∀ a,c.I a→∃ o,H a=some o
 len:δ.length=σ.length
 slot:∀ (i:Nat) d,δ[i]? = some (some (.pure d))→∃ v,σ[i]? = some (some v)∧Rep H (Av c σ δ) v d
 own:∀ (i:Nat) d,δ[i]? = some (some (.own d))→∃ a,σ[i]? = some (some (.ref a))∧OwnAt H (Av c σ δ) a d∧(c.I a∨c.H₀ a=none)∧¬ c.B a
 inj:∀ (i j:Nat) a d d',δ[i]? = some (some (.own d))→δ[j]? = some (some (.own d'))→σ[i]? = some (some (.ref a))→σ[j]? = some (some (.ref a))→i=j
 pinned:∀ p ∈ c.pin,σ[p.1]? = some (some (.ref p.2))
structure Aft (c:Fc) (σ:St) (δ:Dl) (H:Hp) (σ':St) (δ':Dl) (H':Hp):Prop where
 ok:Ok c σ' δ' H'
 keep:∀ a o,H a=some o→¬ Own σ δ a→H' a=some o
 own:∀ a,Own σ' δ' a→Own σ δ a∨H a=none
 there:∀ a o,H a=some o→∃ o',H' a=some o'
section
variable {c:Fc} {σ σ' σ'':St} {δ δ' δ'':Dl} {H H' H'':Hp} {v:V} {d:D} {a p:Addr}
theorem Ok.bthere (k:Ok c σ δ H) (h:c.B a):∃ o,H a=some o:=k.bd a h
theorem Ok.othere (k:Ok c σ δ H) (h:Own σ δ a):∃ o,H a=some o:=by
 obtain ⟨i,d,e1,e2⟩:=h
 obtain ⟨b,e3,q,_⟩:=k.own i d e1
 rw [e2] at e3; cases e3
 exact q.some
theorem Ok.avthere (k:Ok c σ δ H) (h:Av c σ δ a):∃ o,H a=some o:=h.elim k.bthere k.othere
theorem Ok.nav (k:Ok c σ δ H) (h:H a=none):¬ Av c σ δ a:=fun z=>by
 obtain ⟨o,e⟩:=k.avthere z
 rw [h] at e; cases e
theorem Aft.refl (k:Ok c σ δ H):Aft c σ δ H σ δ H:=⟨k,fun _ _ e _=>e,fun _ h=>.inl h,fun _ o e=>⟨o,e⟩⟩
theorem Aft.trans (x:Aft c σ δ H σ' δ' H') (y:Aft c σ' δ' H' σ'' δ'' H''):Aft c σ δ H σ'' δ'' H'':=by
 refine ⟨y.ok,fun a o e n=>?_,fun a h=>?_,fun a o e=>?_⟩
 ·refine y.keep a o (x.keep a o e n) fun z=>?_
  rcases x.own a z with q | q
  ·exact n q
  ·rw [q] at e; cases e
 ·rcases y.own a h with q | q
  ·exact x.own a q
  ·right
   cases e:H a with
   | none=>rfl
   | some o =>
    obtain ⟨o',e'⟩:=x.there a o e
    rw [q] at e'; cases e'
 ·obtain ⟨o',e'⟩:=x.there a o e
  exact y.there a o' e'
theorem Aft.av (x:Aft c σ δ H σ' δ' H'):∀ a,Av c σ' δ' a→Av c σ δ a∨H a=none:=fun a h=>by
 rcases h with h | h
 ·exact .inl (.inl h)
 ·rcases x.own a h with q | q
  ·exact .inl (.inr q)
  ·exact .inr q
theorem Rep.aft (h:Rep H (Av c σ δ) v d) (x:Aft c σ δ H σ' δ' H'):Rep H' (Av c σ' δ') v d:=by
 have h1:Rep H (fun a=>Av c σ δ a∨Av c σ' δ' a) v d:=Rep.anti h fun a z=>z.elim .inl (x.av a)
 exact (h1.keep fun a o e n=>x.keep a o e fun z=>n (.inl (.inr z))).anti fun a z=>.inl (.inr z)
theorem Reps.aft (h:Reps H (Av c σ δ) vs ds) (x:Aft c σ δ H σ' δ' H'):Reps H' (Av c σ' δ') vs ds:=⟨h.1,fun i v d e1 e2=>Rep.aft (h.2 i v d e1 e2) x⟩
def RepS (c:Fc) (σ:St) (δ:Dl) (Hs H:Hp) (v:V):S→Prop
 | .pure d=>Rep H (Av c σ δ) v d
 | .own d=>∃ a,v = .ref a∧OwnAt H (Av (c.plus a) σ δ) a d∧¬ c.B a∧c.H₀ a=none∧Ok (c.plus a) σ δ H∧Hs a=none
theorem z4t (k:Ok (c.plus a) σ δ H):¬ Own σ δ a:=fun ⟨i,d,e1,e2⟩=>by
 obtain ⟨b,e3,_,_,n⟩:=k.own i d e1
 rw [e2] at e3; cases e3
 exact n (.inr rfl)
theorem RepS.rep (h:RepS c σ δ Hs H v r):Rep H (Av c σ δ) v r.d:=by
 cases r with
 | pure d=>exact h
 | own d =>
  obtain ⟨a,rfl,o,n,f,k,_⟩:=h
  refine (o.anti fun b z=>.inl ?_).rep fun z=>z.elim n (z4t k)
  exact z.elim (fun z=>.inl (.inl z)) .inr
theorem RepS.back (h:RepS c σ δ Hs H v r) (x:Aft c σ₀ δ₀ H' σ' δ' Hs):RepS c σ δ H' H v r:=by
 cases r with
 | pure d=>exact h
 | own d =>
  obtain ⟨a,e,o,n,f,k,hs⟩:=h
  refine ⟨a,e,o,n,f,k,?_⟩
  cases q:H' a with
  | none=>rfl
  | some o =>
   obtain ⟨o',e'⟩:=x.there a o q
   rw [hs] at e'; cases e'
theorem RepS.home (h:RepS c σ δ Hs H v r):RepS c σ δ c.H₀ H v r:=by
 cases r with
 | pure d=>exact h
 | own d =>
  obtain ⟨a,e,o,n,f,k,hs⟩:=h
  exact ⟨a,e,o,n,f,k,f⟩
theorem Ok.alloc (k:Ok c σ δ H) (hp:H p=none) (o:HO):Ok c σ δ (upd H p o):=by
 have up:∀ a w,H a=some w→upd H p o a=some w:=fun a w e=>by
  rw [z0x (z0R e hp)]; exact e
 refine ⟨fun a w e n=>up a w (k.keep a w e n),fun a z=>(k.bd a z).elim fun w e=>⟨w,up a w e⟩,fun a z=>(k.ith a z).elim fun w e=>⟨w,up a w e⟩,k.len,fun i d e=>?_,fun i d e=>?_,k.inj,k.pinned⟩
 ·obtain ⟨v,e1,r⟩:=k.slot i d e
  exact ⟨v,e1,r.keep fun a w q _=>up a w q⟩
 ·obtain ⟨a,e1,r,q⟩:=k.own i d e
  exact ⟨a,e1,r.keep (fun b w q _=>up b w q) fun w q=>up a w q,q⟩
theorem Aft.alloc (k:Ok c σ δ H) (hp:H p=none) (o:HO):Aft c σ δ H σ δ (upd H p o):=by
 have up:∀ a w,H a=some w→upd H p o a=some w:=fun a w e=>by
  rw [z0x (z0R e hp)]; exact e
 exact ⟨k.alloc hp o,fun a w e _=>up a w e,fun a h=>.inl h,fun a w e=>⟨w,up a w e⟩⟩
theorem Ok.fresh₀ (k:Ok c σ δ H) (hp:H p=none):c.H₀ p=none:=by
 cases e:c.H₀ p with
 | none=>rfl
 | some o =>
  by_cases q:c.I p
  ·obtain ⟨w,e'⟩:=k.ith p q
   rw [hp] at e'; cases e'
  ·have:=k.keep p o e q
   rw [hp] at this; cases this
theorem Ok.plus (k:Ok c σ δ H) (hp:H p=none) (o:HO):Ok (c.plus p) σ δ (upd H p o):=by
 have k':=k.alloc hp o
 have sub:∀ b,Av (c.plus p) σ δ b→Av c σ δ b∨b=p:=fun b z=>by
  rcases z with (z | z) | z
  ·exact .inl (.inl z)
  ·exact .inr z
  ·exact .inl (.inr z)
 have sub2:∀ b,Av (c.plus p) σ δ b→Av c σ δ b∨H b=none:=fun b z=>(sub b z).elim .inl fun e=>.inr (by rw [e]; exact hp)
 have up:∀ a w,H a=some w→upd H p o a=some w:=fun a w e=>by
  rw [z0x (z0R e hp)]; exact e
 refine ⟨k'.keep,fun a z=>?_,k'.ith,k.len,fun i d e=>?_,fun i d e=>?_,k.inj,k.pinned⟩
 ·rcases z with z | z
  ·exact k'.bd a z
  ·exact ⟨o,by rw [z]; exact z0D⟩
 ·obtain ⟨v,e1,r⟩:=k.slot i d e
  exact ⟨v,e1,(r.anti sub2).keep fun a w q _=>up a w q⟩
 ·obtain ⟨a,e1,r,q,nb⟩:=k.own i d e
  refine ⟨a,e1,(r.anti sub2).keep (fun b w q _=>up b w q) (fun w q=>up a w q),q,fun z=>?_⟩
  rcases z with z | z
  ·exact nb z
  ·obtain ⟨w,ew⟩:=r.some
   rw [z,hp] at ew; cases ew
theorem RepS.newL (k:Ok c σ δ H) (r:Reps H (Av c σ δ) vs ds) (hp:H p=none):RepS c σ δ H (upd H p (.lst vs)) (.ref p) (.own (.lst ds)):=by
 have up:∀ a w,H a=some w→upd H p (.lst vs) a=some w:=fun a w e=>by
  rw [z0x (z0R e hp)]; exact e
 refine ⟨p,rfl,⟨vs,z0D,?_⟩,fun z=>k.nav hp (.inl z),k.fresh₀ hp,k.plus hp _,hp⟩
 have r1:Reps H (Av (c.plus p) σ δ) vs ds:=Reps.anti r fun b z=>by
  rcases z with (z | z) | z
  ·exact .inl (.inl z)
  ·exact .inr (by rw [z]; exact hp)
  ·exact .inl (.inr z)
 exact Reps.keep r1 fun b w e _=>up b w e
theorem RepS.newT (k:Ok c σ δ H) (r:Reps H (Av c σ δ) vs ds) (hp:H p=none):RepS c σ δ H (upd H p (.tup vs)) (.ref p) (.pure (.tup ds)):=by
 have up:∀ a w,H a=some w→upd H p (.tup vs) a=some w:=fun a w e=>by
  rw [z0x (z0R e hp)]; exact e
 have r1:=Reps.keep r (H':=upd H p (.tup vs)) fun b w e _=>up b w e
 exact .tup (k.nav hp) z0D r1.1 r1.2
end
inductive Rs (α:Type) where
 | ok (a:α) (δ:Dl)
 | exc (x:Xc) (δ:Dl)
 | stuck
def Rs.bind {α β:Type} (r:Rs α) (f:α→Dl→Rs β):Rs β:=match r with
 | .ok a δ=>f a δ
 | .exc x δ=>.exc x δ
 | .stuck=>.stuck
abbrev DE:=Dl→Rs S
def XC (c:Fc) (x:Xc) (δ:Dl):Prop:=c.xc x δ
def post {α:Type} (c:Fc) (r:Rs α) (k:α→Dl→Prop):Prop:=match r with
 | .ok a δ=>k a δ
 | .exc x δ=>XC c x δ
 | .stuck=>False
theorem z08:post c (r.bind f) k ↔ post c r fun a δ=>post c (f a δ) k:=by
 cases r <;> exact Iff.rfl
theorem z02 (h:post c r k) (m:∀ a δ,k a δ→k' a δ):post c r k':=by
 cases r with
 | ok a δ=>exact m a δ h
 | exc x δ=>exact h
 | stuck=>exact h
def tD (c:Fc) (f:DE):TE:=fun σ H Q=>∃ δ,Ok c σ δ H∧post c (f δ) fun r δ'=>∀ v H',Aft c σ δ H σ δ' H'→RepS c σ δ' H H' v r→Q v H'
abbrev SE (X:Cx) (c:Fc) (e:Expr) (f:DE):Prop:=PE X e (tD c f)
def RepB (c:Fc) (σ:St) (δ:Dl) (H:Hp) (v:V) (d:D):Prop:=Rep H (Av c σ δ) v d∨∃ a,v = .ref a∧OwnAt H (Av c σ δ) a d
abbrev BE:=Dl→Rs D
def tB (c:Fc) (f:BE):TE:=fun σ H Q=>∃ δ,Ok c σ δ H∧post c (f δ) fun d δ'=>∀ v H',Aft c σ δ H σ δ' H'→RepB c σ δ' H' v d→Q v H'
abbrev SB (X:Cx) (c:Fc) (e:Expr) (f:BE):Prop:=PE X e (tB c f)
theorem PE.weak (h:PE X e t) (w:∀ σ H Q,t' σ H Q→t σ H Q):PE X e t':=fun pins s σ H Q I q=>h pins s σ H Q I (w σ H Q q)
def bOf (f:DE):BE:=fun δ=>(f δ).bind fun r δ'=>.ok r.d δ'
theorem RepS.b (h:RepS c σ δ Hs H v r):RepB c σ δ H v r.d:=.inl h.rep
theorem z05 {X:Cx} {c:Fc} {e:Expr} {f:DE} (h:SE X c e f):SB X c e (bOf f):=PE.weak h fun σ H Q ⟨δ,k,p⟩=>⟨δ,k,by
 unfold bOf at p
 rw [z08] at p
 exact z02 p fun r δ' q v H' a s=>q v H' a s.b⟩
def bVar (i:Nat):BE:=fun δ=>match δ[i]? with
 | some (some r)=>.ok r.d δ
 | _=>.stuck
def eVar (i:Nat):DE:=fun δ=>match δ[i]? with
 | some (some (.pure d))=>.ok (.pure d) δ
 | some (some (.own d))=>.ok (.pure d) (δ.set i (some (.pure d)))
 | _=>.stuck
def eD (d:D):DE:=fun δ=>.ok (.pure d) δ
section
variable {X:Cx} {c:Fc}
theorem z0i {i:Nat} {e:Expr} (h:PE X e (tVar i)):SB X c e (bVar i):=PE.weak h fun σ H Q ⟨δ,k,p⟩=>by
 unfold bVar at p
 cases e:δ[i]? with
 | none=>rw [e] at p; exact p.elim
 | some o =>
  cases o with
  | none=>rw [e] at p; exact p.elim
  | some r =>
   rw [e] at p
   cases r with
   | pure d =>
    obtain ⟨v,e1,r⟩:=k.slot i d e
    exact ⟨v,e1,p v H (.refl k) (.inl r)⟩
   | own d =>
    obtain ⟨a,e1,r,_⟩:=k.own i d e
    exact ⟨.ref a,e1,p _ H (.refl k) (.inr ⟨a,rfl,r⟩)⟩
theorem Own.sub (h:Own σ (δ.set i (some (.pure d))) a):Own σ δ a:=by
 obtain ⟨j,d',e1,e2⟩:=h
 by_cases hj:i=j
 ·subst hj
  rw [WF] at e1
  simp at e1
 ·rw [W8 hj] at e1
  exact ⟨j,d',e1,e2⟩
theorem Ok.give (k:Ok c σ δ H) (e:δ[i]? = some (some (.own d))) :
  ∃ a,σ[i]? = some (some (.ref a))∧Aft c σ δ H σ (δ.set i (some (.pure d))) H∧Rep H (Av c σ (δ.set i (some (.pure d)))) (.ref a) d:=by
 obtain ⟨a,e1,r,q,nb⟩:=k.own i d e
 have hi:i < δ.length:=(Wf.mp e).1
 have sub:∀ b,Av c σ (δ.set i (some (.pure d))) b→Av c σ δ b:=fun b z=>z.elim .inl fun z=>.inr z.sub
 have na:¬ Av c σ (δ.set i (some (.pure d))) a:=by
  rintro (z | ⟨j,d',f1,f2⟩)
  ·exact nb z
  ·by_cases hj:i=j
   ·subst hj
    rw [WF] at f1
    simp at f1
   ·rw [W8 hj] at f1
    exact hj (k.inj i j a d d' e f1 e1 f2)
 have rep:Rep H (Av c σ (δ.set i (some (.pure d)))) (.ref a) d:=(r.anti fun b z=>.inl (sub b z)).rep na
 refine ⟨a,e1,⟨⟨k.keep,k.bd,k.ith,by rw [Qv]; exact k.len,fun j d' f=>?_,fun j d' f=>?_,fun j l b d1 d2 f1 f2=>?_,k.pinned⟩,fun _ _ w _=>w,fun b z=>.inl z.sub,fun _ o w=>⟨o,w⟩⟩,rep⟩
 ·by_cases hj:i=j
  ·subst hj
   rw [Wr hi] at f
   cases f
   exact ⟨.ref a,e1,rep⟩
  ·rw [W8 hj] at f
   obtain ⟨v,g1,g2⟩:=k.slot j d' f
   exact ⟨v,g1,g2.anti fun b z=>.inl (sub b z)⟩
 ·by_cases hj:i=j
  ·subst hj
   rw [Wr hi] at f
   cases f
  ·rw [W8 hj] at f
   obtain ⟨b,g1,g2,g3⟩:=k.own j d' f
   exact ⟨b,g1,g2.anti fun b z=>.inl (sub b z),g3⟩
 ·have h1:δ[j]? = some (some (.own d1)):=by
   by_cases hj:i=j
   ·subst hj; rw [Wr hi] at f1; cases f1
   ·rw [W8 hj] at f1; exact f1
  have h2:δ[l]? = some (some (.own d2)):=by
   by_cases hj:i=l
   ·subst hj; rw [Wr hi] at f2; cases f2
   ·rw [W8 hj] at f2; exact f2
  exact k.inj j l b d1 d2 h1 h2
theorem z04 {i:Nat} {e:Expr} (h:PE X e (tVar i)):SE X c e (eVar i):=PE.weak h fun σ H Q ⟨δ,k,p⟩=>by
 unfold eVar at p
 cases e:δ[i]? with
 | none=>rw [e] at p; exact p.elim
 | some o =>
  cases o with
  | none=>rw [e] at p; exact p.elim
  | some r =>
   rw [e] at p
   cases r with
   | pure d =>
    obtain ⟨v,e1,r⟩:=k.slot i d e
    exact ⟨v,e1,p v H (.refl k) r⟩
   | own d =>
    obtain ⟨a,e1,x,r⟩:=k.give e
    exact ⟨.ref a,e1,p _ H x r⟩
theorem z01 {i j pos}:SE X c (.Constant (.int i) j pos) (eD (.int i)):=PE.weak zdx fun σ H Q ⟨δ,k,p⟩=>p _ H (.refl k) (.int i)
theorem z4N {b j pos}:SE X c (.Constant (.bool b) j pos) (eD (.bl b)):=PE.weak zeo fun σ H Q ⟨δ,k,p⟩=>p _ H (.refl k) (.bl b)
theorem z97 {j pos}:SE X c (.Constant .none j pos) (eD .non):=PE.weak zfU fun σ H Q ⟨δ,k,p⟩=>p _ H (.refl k) .non
theorem z39 {x j pos} (y:Tx) (h:x=toS y:=by decide +kernel):SE X c (.Constant (.str x) j pos) (eD (.str y)):=by
 subst h
 exact PE.weak zdw fun σ H Q ⟨δ,k,p⟩=>p _ H (.refl k) (.str y)
end
open PySem PySem.Spec PyProof.Rows L2 PySem.SeqAt
mutual
def eqD:D→D→Bool
 | .non,.non=>true
 | .bl a,.bl b=>a == b
 | .int a,.int b=>a == b
 | .bl a,.int b=>(if a then 1 else 0) == b
 | .int a,.bl b=>a == (if b then 1 else 0)
 | .str a,.str b=>a == b
 | .tup xs,.tup ys=>eqDs xs ys
 | .lst xs,.lst ys=>eqDs xs ys
 | _,_=>false
def eqDs:List D→List D→Bool
 | [],[]=>true
 | x :: xs,y :: ys=>eqD x y && eqDs xs ys
 | _,_=>false
end
mutual
def flat:Nat→D→Bool
 | _,.non=>true
 | _,.bl _=>true
 | _,.int _=>true
 | _,.str _=>true
 | 0,.tup _=>false
 | n + 1,.tup xs=>z6p n xs
 | 0,.lst _=>false
 | n + 1,.lst xs=>z6p n xs
 | _,.dct _=>false
 | _,.exc _=>false
def z6p:Nat→List D→Bool
 | _,[]=>true
 | n,x :: xs=>flat n x && z6p n xs
end
example:eqD (.tup [.int 1,.str [2]]) (.tup [.int 1,.str [2]])=true:=by decide +kernel
theorem z2r:∀ {xs:List D} {x:D},z6p n xs=true→x ∈ xs→flat n x=true
 | [],_,_,h=>by simp at h
 | y :: ys,x,h,hm=>by
  simp only [z6p,Wk] at h
  rcases Wj.mp hm with e | hm
  ·rw [e]; exact h.1
  ·exact z2r h.2 hm
theorem z5t:∀ {xs ys:List D} {f:Nat→Bool},xs.length=ys.length→(∀ (j:Nat) x y,xs[j]? = some x→ys[j]? = some y→f j=eqD x y)→(Wb xs.length).all f=eqDs xs ys
 | [],[],f,_,_=>rfl
 | [],y :: ys,f,h,_=>by simp at h
 | x :: xs,[],f,h,_=>by simp at h
 | x :: xs,y :: ys,f,h,hf=>by
  simp only [eqDs]
  rw [WN,List.range_succ_eq_map,Jc,hf 0 x y rfl rfl,List.all_map]
  rw [← z5t (f:=fun j=>f (j + 1)) (by simpa using h) (fun j a b e1 e2=>hf (j + 1) a b (by simpa using e1) (by simpa using e2))]
  rfl
theorem z5s:∀ {xs ys:List D},xs.length≠ys.length→eqDs xs ys=false
 | [],[],h=>absurd rfl h
 | [],y :: ys,_=>rfl
 | x :: xs,[],_=>rfl
 | x :: xs,y :: ys,h=>by
  simp only [eqDs]
  rw [z5s (xs:=xs) (ys:=ys) (by intro e; exact h (by simp [e]))]
  simp
mutual
theorem z5u:∀ {n:Nat} {d:D},flat n d=true→eqD d d=true
 | _,.non,_=>rfl
 | _,.bl b,_=>by simp [eqD]
 | _,.int i,_=>by simp [eqD]
 | _,.str x,_=>by simp [eqD]
 | 0,.tup xs,h=>by simp [flat] at h
 | n + 1,.tup xs,h=>by simp only [eqD]; exact z62 (n:=n) (by simpa [flat] using h)
 | 0,.lst xs,h=>by simp [flat] at h
 | n + 1,.lst xs,h=>by simp only [eqD]; exact z62 (n:=n) (by simpa [flat] using h)
 | _,.dct xs,h=>by simp [flat] at h
 | _,.exc n,h=>by simp [flat] at h
theorem z62:∀ {n:Nat} {ds:List D},z6p n ds=true→eqDs ds ds=true
 | _,[],_=>rfl
 | n,x :: xs,h=>by
  simp only [z6p,Wk] at h
  simp only [eqDs]
  rw [z5u h.1,z62 h.2]
  rfl
end
abbrev NoO:Addr→Prop:=fun _=>False
theorem Rep.un (h:Rep H O v d):Rep H NoO v d:=Rep.anti h fun _ z=>z.elim
theorem RepB.un (h:RepB c σ δ H v d):Rep H NoO v d:=by
 rcases h with h | ⟨a,rfl,o⟩
 ·exact Rep.un h
 ·exact (o.anti (O':=NoO) fun _ z=>z.elim).rep fun z=>z
section
variable {X:Cx} {pins:List (Addr×Obj)} {σ:St} {H:Hp} {s:W5}
theorem Inv.rdL (I:Inv X pins σ H s) (h:Rd H a (.lst vs)):∃ its:List Value,Vals vs its∧s.heap.IsList a its.toArray:=by
 obtain ⟨its,r,p,_⟩:=I.list (.inl h)
 exact ⟨its,r,p.isList⟩
theorem Inv.rdT (I:Inv X pins σ H s) (h:H a=some (.tup vs)):∃ its:List Value,Vals vs its∧s.heap.IsTuple a its.toArray:=by
 obtain ⟨its,r,p,_⟩:=I.tuple (.of h)
 exact ⟨its,r,p⟩
theorem z8i (x y:Tx):((toS x:Str) == toS y)=(x == y):=by
 rw [Bool.eq_iff_iff]
 simp only [beq_iff_eq]
 exact ⟨z8g,fun e=>by rw [e]⟩
theorem zbE (A:Wq):A.in1.units=A.units + 1:=rfl
theorem Rd.inj (h:Rd H a u) (k:Rd H a w) (hu:∀ o z,u≠.frz o z) (hw:∀ o z,w≠.frz o z):u=w:=by
 rcases h with h | ⟨o,h⟩ <;> rcases k with k | ⟨o',k⟩
 ·rw [h] at k; exact Wx k
 ·rw [h] at k; exact absurd (Wx k) (hu _ _)
 ·rw [h] at k; exact absurd (Wx k).symm (hw _ _)
 ·rw [h] at k
  have:=Wx k
  injection this
theorem Reps.inj {vs:List V}:∀ {ds es:List D},vs.length=ds.length→vs.length=es.length→(∀ (i:Nat) v d e,vs[i]? = some v→ds[i]? = some d→es[i]? = some e→d=e)→ds=es:=by
 intro ds es h1 h2 h
 apply List.ext_getElem?
 intro i
 by_cases hi:i < vs.length
 ·have a1:i < ds.length:=by omega
  have a2:i < es.length:=by omega
  rw [WA a1,WA a2]
  rw [h i vs[i] ds[i] es[i] (by simp [hi]) (by simp [a1]) (by simp [a2])]
 ·rw [WZ (by omega),WZ (by omega)]
theorem Rep.inj {O:Addr→Prop} {v:V} {d:D} (h:Rep H O v d):∀ {n:Nat} {e:D},flat n d=true→flat n e=true→Rep H O v e→d=e:=by
 induction h with
 | non=>intro n e _ _ k; cases k; rfl
 | bl b=>intro n e _ _ k; cases k; rfl
 | int i=>intro n e _ _ k; cases k; rfl
 | str x =>
  intro n e _ _ k
  generalize hz:V.str (toS x)=z at k
  cases k with
  | str y=>injection hz with hz; rw [z8g hz]
  | _=>cases hz
 | @tup a vs ds h1 h2 h3 h4 ih =>
  intro n e fd fe k
  cases n with
  | zero=>simp [flat] at fd
  | succ n =>
   simp only [flat] at fd
   cases k with
   | @tup _ ws es k1 k2 k3 k4 =>
    simp only [flat] at fe
    have e1:=Rd.inj (.inl h2) (.inl k2) (fun _ _ z=>by cases z) (fun _ _ z=>by cases z)
    injection e1 with e1
    subst e1
    rw [Reps.inj h3 k3 fun i v d e q1 q2 q3=>ih i v d q1 q2 (z2r fd (WB q2)) (z2r fe (WB q3)) (k4 i v e q1 q3)]
   | lst k1 k2=>exact absurd (Rd.inj (.inl h2) k2 (fun _ _ z=>by cases z) (fun _ _ z=>by cases z)) (fun z=>by cases z)
   | dct k1 k2=>exact absurd (Rd.inj (.inl h2) (.inl k2) (fun _ _ z=>by cases z) (fun _ _ z=>by cases z)) (fun z=>by cases z)
   | exc k1 k2=>simp [flat] at fe
 | @lst a vs ds h1 h2 h3 h4 ih =>
  intro n e fd fe k
  cases n with
  | zero=>simp [flat] at fd
  | succ n =>
   simp only [flat] at fd
   cases k with
   | @lst _ ws es k1 k2 k3 k4 =>
    simp only [flat] at fe
    have e1:=Rd.inj h2 k2 (fun _ _ z=>by cases z) (fun _ _ z=>by cases z)
    injection e1 with e1
    subst e1
    rw [Reps.inj h3 k3 fun i v d e q1 q2 q3=>ih i v d q1 q2 (z2r fd (WB q2)) (z2r fe (WB q3)) (k4 i v e q1 q3)]
   | tup k1 k2=>exact absurd (Rd.inj h2 (.inl k2) (fun _ _ z=>by cases z) (fun _ _ z=>by cases z)) (fun z=>by cases z)
   | dct k1 k2=>exact absurd (Rd.inj h2 (.inl k2) (fun _ _ z=>by cases z) (fun _ _ z=>by cases z)) (fun z=>by cases z)
   | exc k1 k2=>simp [flat] at fe
 | dct h1 h2 h3 h4 ih =>
  intro n e fd _ _
  cases n <;> simp [flat] at fd
 | exc h1 h2 =>
  intro n e fd _ _
  cases n <;> simp [flat] at fd
def EqIt (H:Hp) (s:W5) (n:Nat):Prop:=∀ (A:Wq) (x y:V) (u w:Value) (d e:D),A.units + n + 1 < Q4→flat n d=true→flat n e=true→Rep H NoO x d→Rep H NoO y e→RelV x u→RelV y w→EqAt A s u w (eqD d e)
def z8Z (H:Hp) (s:W5) (A:Wq) (n:Nat):Prop:=match n with
 | 0=>True
 | m + 1=>A.units + m + 2 < Q4∧EqIt H s m
def itE (ds es:List D) (j:Nat):Bool:=match ds[j]?,es[j]? with
 | some p,some q=>eqD p q
 | _,_=>false
theorem z9v (j:Nat) (p q:D) (e1:ds[j]? = some p) (e2:es[j]? = some q):itE ds es j=eqD p q:=by unfold itE; rw [e1,e2]
theorem z5q {n:Nat} {A:Wq} {vs ws:List V} {ds es:List D} {its jts:List Value} (hu:A.units + n + 2 < Q4) (ih:EqIt H s n) (r1:Vals vs its) (r2:Vals ws jts) (l1:vs.length=ds.length) (l2:ws.length=es.length)
  (g1:∀ (i:Nat) v d,vs[i]? = some v→ds[i]? = some d→Rep H NoO v d) (g2:∀ (i:Nat) v d,ws[i]? = some v→es[i]? = some d→Rep H NoO v d) (f1:z6p n ds=true) (f2:z6p n es=true) :
  ∀ j (h1:j < its.toArray.size) (h2:j < jts.toArray.size),EqAt A.in1 s its.toArray[j] jts.toArray[j] (itE ds es j):=by
 intro j h1 h2
 have e1:=r1.length
 have e2:=r2.length
 simp at h1 h2
 have hd:j < ds.length:=by omega
 have he:j < es.length:=by omega
 have hv:j < vs.length:=by omega
 have hw:j < ws.length:=by omega
 obtain ⟨u',hu',ru'⟩:=r1.get (i:=j) (x:=vs[j]) (by simp [hv])
 obtain ⟨w',hw',rw''⟩:=r2.get (i:=j) (x:=ws[j]) (by simp [hw])
 have eu:its.toArray[j]=u':=by simpa [h1] using hu'
 have ew:jts.toArray[j]=w':=by simpa [h2] using hw'
 rw [eu,ew,z9v j ds[j] es[j] (by simp [hd]) (by simp [he])]
 exact ih A.in1 vs[j] ws[j] u' w' ds[j] es[j] (by rw [zbE]; omega) (z2r f1 (QD hd)) (z2r f2 (QD he)) (g1 j _ _ (by simp [hv]) (by simp [hd])) (g2 j _ _ (by simp [hw]) (by simp [he])) ru' rw''
theorem zcc (h1:n=ds.length) (h2:m=es.length):((Wb (min n m)).all (itE ds es) && n == m)=eqDs ds es:=by
 subst h1 h2
 by_cases hl:ds.length=es.length
 ·rw [← hl,Nat.min_self,z5t hl z9v]
  simp
 ·rw [z5s hl]
  simp [hl]
theorem rcT (I:Inv X pins σ H s) (n:Nat) (A:Wq) (hu0:A.units < Q4) (t1:s.heap.IsTuple a its.toArray) (t2:s.heap.IsTuple b jts.toArray) (r1:Vals vs its) (r2:Vals ws jts) (l1:vs.length=ds.length) (l2:ws.length=es.length)
  (g1:∀ (i:Nat) v d,vs[i]? = some v→ds[i]? = some d→Rep H NoO v d) (g2:∀ (i:Nat) v d,ws[i]? = some v→es[i]? = some d→Rep H NoO v d) (f1:flat n (.tup ds)=true) (f2:flat n (.tup es)=true) (ih:z8Z H s A n) :
  RcAt A s (.ref a) (.ref b) (eqDs ds es):=by
 cases n with
 | zero=>simp [flat] at f1
 | succ n =>
  simp only [flat] at f1 f2
  obtain ⟨hu,ih⟩:=ih
  have q:=RcAt.tuples (A:=A) (s:=s) t1 t2 hu0 (z5q hu ih r1 r2 l1 l2 g1 g2 f1 f2)
  rw [zcc (by have:=r1.length; simp; omega) (by have:=r2.length; simp; omega)] at q
  exact q
theorem rnT (I:Inv X pins σ H s) (n:Nat) (A:Wq) (hu0:A.units < Q4) (t1:s.heap.IsTuple a its.toArray) (t2:s.heap.IsTuple b jts.toArray) (r1:Vals vs its) (r2:Vals ws jts) (l1:vs.length=ds.length) (l2:ws.length=es.length)
  (g1:∀ (i:Nat) v d,vs[i]? = some v→ds[i]? = some d→Rep H NoO v d) (g2:∀ (i:Nat) v d,ws[i]? = some v→es[i]? = some d→Rep H NoO v d) (f1:flat n (.tup ds)=true) (f2:flat n (.tup es)=true) (ih:z8Z H s A n) :
  RcNeAt A s (.ref a) (.ref b) (!eqDs ds es):=by
 cases n with
 | zero=>simp [flat] at f1
 | succ n =>
  simp only [flat] at f1 f2
  obtain ⟨hu,ih⟩:=ih
  have q:=RcNeAt.tuples (A:=A) (s:=s) t1 t2 hu0 (z5q hu ih r1 r2 l1 l2 g1 g2 f1 f2)
  rw [zcc (by have:=r1.length; simp; omega) (by have:=r2.length; simp; omega)] at q
  exact q
theorem rcL (I:Inv X pins σ H s) (n:Nat) (A:Wq) (hu0:A.units < Q4) (t1:s.heap.IsList a its.toArray) (t2:s.heap.IsList b jts.toArray) (r1:Vals vs its) (r2:Vals ws jts) (l1:vs.length=ds.length) (l2:ws.length=es.length)
  (g1:∀ (i:Nat) v d,vs[i]? = some v→ds[i]? = some d→Rep H NoO v d) (g2:∀ (i:Nat) v d,ws[i]? = some v→es[i]? = some d→Rep H NoO v d) (f1:flat n (.lst ds)=true) (f2:flat n (.lst es)=true) (ih:z8Z H s A n) :
  RcAt A s (.ref a) (.ref b) (eqDs ds es):=by
 cases n with
 | zero=>simp [flat] at f1
 | succ n =>
  simp only [flat] at f1 f2
  obtain ⟨hu,ih⟩:=ih
  have z1:its.toArray.size=ds.length:=by have:=r1.length; simp; omega
  have z2:jts.toArray.size=es.length:=by have:=r2.length; simp; omega
  by_cases hl:ds.length=es.length
  ·have q:=RcAt.lists (A:=A) (s:=s) t1 t2 (by rw [z1,z2]; exact hl) hu0 (z5q hu ih r1 r2 l1 l2 g1 g2 f1 f2)
   rw [z1,z5t hl z9v] at q
   exact q
  ·rw [z5s hl]
   exact RcAt.lists_lengths (A:=A) (s:=s) t1 t2 (by rw [z1,z2]; simpa using hl) hu0
theorem rnL (I:Inv X pins σ H s) (n:Nat) (A:Wq) (hu0:A.units < Q4) (t1:s.heap.IsList a its.toArray) (t2:s.heap.IsList b jts.toArray) (r1:Vals vs its) (r2:Vals ws jts) (l1:vs.length=ds.length) (l2:ws.length=es.length)
  (g1:∀ (i:Nat) v d,vs[i]? = some v→ds[i]? = some d→Rep H NoO v d) (g2:∀ (i:Nat) v d,ws[i]? = some v→es[i]? = some d→Rep H NoO v d) (f1:flat n (.lst ds)=true) (f2:flat n (.lst es)=true) (ih:z8Z H s A n) :
  RcNeAt A s (.ref a) (.ref b) (!eqDs ds es):=by
 cases n with
 | zero=>simp [flat] at f1
 | succ n =>
  simp only [flat] at f1 f2
  obtain ⟨hu,ih⟩:=ih
  have z1:its.toArray.size=ds.length:=by have:=r1.length; simp; omega
  have z2:jts.toArray.size=es.length:=by have:=r2.length; simp; omega
  by_cases hl:ds.length=es.length
  ·have q:=RcNeAt.lists (A:=A) (s:=s) t1 t2 (by rw [z1,z2]; exact hl) hu0 (z5q hu ih r1 r2 l1 l2 g1 g2 f1 f2)
   rw [z1,z5t hl z9v] at q
   exact q
  ·rw [z5s hl]
   exact RcNeAt.lists_lengths (A:=A) (s:=s) t1 t2 (by rw [z1,z2]; simpa using hl) hu0
theorem rcD (I:Inv X pins σ H s) (n:Nat) (A:Wq) (x y:V) (u w:Value) (d e:D) (hu0:A.units < Q4) (fd:flat n d=true) (fe:flat n e=true) (ih:z8Z H s A n) (rx:Rep H NoO x d) (ry:Rep H NoO y e) (ru:RelV x u) (rw':RelV y w):RcAt A s u w (eqD d e):=by
 cases rx with
 | non =>
  cases ru
  cases ry with
  | non =>
   cases rw'
   simp only [eqD]; exact RcAt.none_none
  | bl q =>
   cases rw'
   simp only [eqD]; exact RcAt.none_bool _
  | int q =>
   obtain ⟨t2,rfl⟩:=rw'
   simp only [eqD]; exact RcAt.none_int _ _
  | str q =>
   obtain ⟨t2,rfl⟩:=rw'
   simp only [eqD]; exact RcAt.none_str _ _
  | tup k1 k2 k3 k4 =>
   cases rw'; obtain ⟨its2,r2,t2⟩:=Inv.rdT I k2
   simp only [eqD]; exact RcAt.none_tuple t2 hu0
  | lst k1 k2 k3 k4 =>
   cases rw'; obtain ⟨its2,r2,t2⟩:=Inv.rdL I k2
   simp only [eqD]; exact RcAt.none_list t2 hu0
  | dct k1 k2 k3 k4=>(cases n <;> simp [flat] at fe)
  | exc k1 k2=>(cases n <;> simp [flat] at fe)
 | bl p =>
  cases ru
  cases ry with
  | non =>
   cases rw'
   simp only [eqD]; exact RcAt.bool_none _
  | bl q =>
   cases rw'
   simp only [eqD]; exact RcAt.bool_bool _ _
  | int q =>
   obtain ⟨t2,rfl⟩:=rw'
   simp only [eqD]; exact RcAt.bool_int _ _ _
  | str q =>
   obtain ⟨t2,rfl⟩:=rw'
   simp only [eqD]; exact RcAt.bool_str _ _ _
  | tup k1 k2 k3 k4 =>
   cases rw'; obtain ⟨its2,r2,t2⟩:=Inv.rdT I k2
   simp only [eqD]; exact RcAt.bool_tuple _ t2 hu0
  | lst k1 k2 k3 k4 =>
   cases rw'; obtain ⟨its2,r2,t2⟩:=Inv.rdL I k2
   simp only [eqD]; exact RcAt.bool_list _ t2 hu0
  | dct k1 k2 k3 k4=>(cases n <;> simp [flat] at fe)
  | exc k1 k2=>(cases n <;> simp [flat] at fe)
 | int p =>
  obtain ⟨t1,rfl⟩:=ru
  cases ry with
  | non =>
   cases rw'
   simp only [eqD]; exact RcAt.int_none _ _
  | bl q =>
   cases rw'
   simp only [eqD]; exact RcAt.int_bool _ _ _
  | int q =>
   obtain ⟨t2,rfl⟩:=rw'
   simp only [eqD]; exact RcAt.int_int _ _ _ _
  | str q =>
   obtain ⟨t2,rfl⟩:=rw'
   simp only [eqD]; exact RcAt.int_str _ _ _ _
  | tup k1 k2 k3 k4 =>
   cases rw'; obtain ⟨its2,r2,t2⟩:=Inv.rdT I k2
   simp only [eqD]; exact RcAt.int_tuple _ _ t2 hu0
  | lst k1 k2 k3 k4 =>
   cases rw'; obtain ⟨its2,r2,t2⟩:=Inv.rdL I k2
   simp only [eqD]; exact RcAt.int_list _ _ t2 hu0
  | dct k1 k2 k3 k4=>(cases n <;> simp [flat] at fe)
  | exc k1 k2=>(cases n <;> simp [flat] at fe)
 | str p =>
  obtain ⟨t1,rfl⟩:=ru
  cases ry with
  | non =>
   cases rw'
   simp only [eqD]; exact RcAt.str_none _ _
  | bl q =>
   cases rw'
   simp only [eqD]; exact RcAt.str_bool _ _ _
  | int q =>
   obtain ⟨t2,rfl⟩:=rw'
   simp only [eqD]; exact RcAt.str_int _ _ _ _
  | str q =>
   obtain ⟨t2,rfl⟩:=rw'
   simp only [eqD]; rw [← z8i]; exact RcAt.str_str _ _ _ _
  | tup k1 k2 k3 k4 =>
   cases rw'; obtain ⟨its2,r2,t2⟩:=Inv.rdT I k2
   simp only [eqD]; exact RcAt.str_tuple _ _ t2 hu0
  | lst k1 k2 k3 k4 =>
   cases rw'; obtain ⟨its2,r2,t2⟩:=Inv.rdL I k2
   simp only [eqD]; exact RcAt.str_list _ _ t2 hu0
  | dct k1 k2 k3 k4=>(cases n <;> simp [flat] at fe)
  | exc k1 k2=>(cases n <;> simp [flat] at fe)
 | tup h1 h2 h3 h4 =>
  cases ru; obtain ⟨its1,r1,t1⟩:=Inv.rdT I h2
  cases ry with
  | non =>
   cases rw'
   simp only [eqD]; exact RcAt.tuple_none t1 hu0
  | bl q =>
   cases rw'
   simp only [eqD]; exact RcAt.tuple_bool _ t1 hu0
  | int q =>
   obtain ⟨t2,rfl⟩:=rw'
   simp only [eqD]; exact RcAt.tuple_int _ _ t1 hu0
  | str q =>
   obtain ⟨t2,rfl⟩:=rw'
   simp only [eqD]; exact RcAt.tuple_str _ _ t1 hu0
  | tup k1 k2 k3 k4 =>
   cases rw'; obtain ⟨its2,r2,t2⟩:=Inv.rdT I k2
   simp only [eqD]; exact rcT I n A hu0 t1 t2 r1 r2 h3 k3 h4 k4 fd fe ih
  | lst k1 k2 k3 k4 =>
   cases rw'; obtain ⟨its2,r2,t2⟩:=Inv.rdL I k2
   simp only [eqD]; exact RcAt.tuple_list t1 t2 hu0
  | dct k1 k2 k3 k4=>(cases n <;> simp [flat] at fe)
  | exc k1 k2=>(cases n <;> simp [flat] at fe)
 | lst h1 h2 h3 h4 =>
  cases ru; obtain ⟨its1,r1,t1⟩:=Inv.rdL I h2
  cases ry with
  | non =>
   cases rw'
   simp only [eqD]; exact RcAt.list_none t1 hu0
  | bl q =>
   cases rw'
   simp only [eqD]; exact RcAt.list_bool _ t1 hu0
  | int q =>
   obtain ⟨t2,rfl⟩:=rw'
   simp only [eqD]; exact RcAt.list_int _ _ t1 hu0
  | str q =>
   obtain ⟨t2,rfl⟩:=rw'
   simp only [eqD]; exact RcAt.list_str _ _ t1 hu0
  | tup k1 k2 k3 k4 =>
   cases rw'; obtain ⟨its2,r2,t2⟩:=Inv.rdT I k2
   simp only [eqD]; exact RcAt.list_tuple t1 t2 hu0
  | lst k1 k2 k3 k4 =>
   cases rw'; obtain ⟨its2,r2,t2⟩:=Inv.rdL I k2
   simp only [eqD]; exact rcL I n A hu0 t1 t2 r1 r2 h3 k3 h4 k4 fd fe ih
  | dct k1 k2 k3 k4=>(cases n <;> simp [flat] at fe)
  | exc k1 k2=>(cases n <;> simp [flat] at fe)
 | dct h1 h2 h3 h4=>(cases n <;> simp [flat] at fd)
 | exc h1 h2=>(cases n <;> simp [flat] at fd)
theorem rnD (I:Inv X pins σ H s) (n:Nat) (A:Wq) (x y:V) (u w:Value) (d e:D) (hu0:A.units < Q4) (fd:flat n d=true) (fe:flat n e=true) (ih:z8Z H s A n) (rx:Rep H NoO x d) (ry:Rep H NoO y e) (ru:RelV x u) (rw':RelV y w):RcNeAt A s u w (!eqD d e):=by
 cases rx with
 | non =>
  cases ru
  cases ry with
  | non =>
   cases rw'
   simp only [eqD]; exact RcNeAt.none_none
  | bl q =>
   cases rw'
   simp only [eqD]; exact RcNeAt.none_bool _
  | int q =>
   obtain ⟨t2,rfl⟩:=rw'
   simp only [eqD]; exact RcNeAt.none_int _ _
  | str q =>
   obtain ⟨t2,rfl⟩:=rw'
   simp only [eqD]; exact RcNeAt.none_str _ _
  | tup k1 k2 k3 k4 =>
   cases rw'; obtain ⟨its2,r2,t2⟩:=Inv.rdT I k2
   simp only [eqD]; exact RcNeAt.none_tuple t2 hu0
  | lst k1 k2 k3 k4 =>
   cases rw'; obtain ⟨its2,r2,t2⟩:=Inv.rdL I k2
   simp only [eqD]; exact RcNeAt.none_list t2 hu0
  | dct k1 k2 k3 k4=>(cases n <;> simp [flat] at fe)
  | exc k1 k2=>(cases n <;> simp [flat] at fe)
 | bl p =>
  cases ru
  cases ry with
  | non =>
   cases rw'
   simp only [eqD]; exact RcNeAt.bool_none _
  | bl q =>
   cases rw'
   simp only [eqD]; exact RcNeAt.bool_bool _ _
  | int q =>
   obtain ⟨t2,rfl⟩:=rw'
   simp only [eqD]; exact RcNeAt.bool_int _ _ _
  | str q =>
   obtain ⟨t2,rfl⟩:=rw'
   simp only [eqD]; exact RcNeAt.bool_str _ _ _
  | tup k1 k2 k3 k4 =>
   cases rw'; obtain ⟨its2,r2,t2⟩:=Inv.rdT I k2
   simp only [eqD]; exact RcNeAt.bool_tuple _ t2 hu0
  | lst k1 k2 k3 k4 =>
   cases rw'; obtain ⟨its2,r2,t2⟩:=Inv.rdL I k2
   simp only [eqD]; exact RcNeAt.bool_list _ t2 hu0
  | dct k1 k2 k3 k4=>(cases n <;> simp [flat] at fe)
  | exc k1 k2=>(cases n <;> simp [flat] at fe)
 | int p =>
  obtain ⟨t1,rfl⟩:=ru
  cases ry with
  | non =>
   cases rw'
   simp only [eqD]; exact RcNeAt.int_none _ _
  | bl q =>
   cases rw'
   simp only [eqD]; exact RcNeAt.int_bool _ _ _
  | int q =>
   obtain ⟨t2,rfl⟩:=rw'
   simp only [eqD]; exact RcNeAt.int_int _ _ _ _
  | str q =>
   obtain ⟨t2,rfl⟩:=rw'
   simp only [eqD]; exact RcNeAt.int_str _ _ _ _
  | tup k1 k2 k3 k4 =>
   cases rw'; obtain ⟨its2,r2,t2⟩:=Inv.rdT I k2
   simp only [eqD]; exact RcNeAt.int_tuple _ _ t2 hu0
  | lst k1 k2 k3 k4 =>
   cases rw'; obtain ⟨its2,r2,t2⟩:=Inv.rdL I k2
   simp only [eqD]; exact RcNeAt.int_list _ _ t2 hu0
  | dct k1 k2 k3 k4=>(cases n <;> simp [flat] at fe)
  | exc k1 k2=>(cases n <;> simp [flat] at fe)
 | str p =>
  obtain ⟨t1,rfl⟩:=ru
  cases ry with
  | non =>
   cases rw'
   simp only [eqD]; exact RcNeAt.str_none _ _
  | bl q =>
   cases rw'
   simp only [eqD]; exact RcNeAt.str_bool _ _ _
  | int q =>
   obtain ⟨t2,rfl⟩:=rw'
   simp only [eqD]; exact RcNeAt.str_int _ _ _ _
  | str q =>
   obtain ⟨t2,rfl⟩:=rw'
   simp only [eqD]; rw [← z8i]; exact RcNeAt.str_str _ _ _ _
  | tup k1 k2 k3 k4 =>
   cases rw'; obtain ⟨its2,r2,t2⟩:=Inv.rdT I k2
   simp only [eqD]; exact RcNeAt.str_tuple _ _ t2 hu0
  | lst k1 k2 k3 k4 =>
   cases rw'; obtain ⟨its2,r2,t2⟩:=Inv.rdL I k2
   simp only [eqD]; exact RcNeAt.str_list _ _ t2 hu0
  | dct k1 k2 k3 k4=>(cases n <;> simp [flat] at fe)
  | exc k1 k2=>(cases n <;> simp [flat] at fe)
 | tup h1 h2 h3 h4 =>
  cases ru; obtain ⟨its1,r1,t1⟩:=Inv.rdT I h2
  cases ry with
  | non =>
   cases rw'
   simp only [eqD]; exact RcNeAt.tuple_none t1 hu0
  | bl q =>
   cases rw'
   simp only [eqD]; exact RcNeAt.tuple_bool _ t1 hu0
  | int q =>
   obtain ⟨t2,rfl⟩:=rw'
   simp only [eqD]; exact RcNeAt.tuple_int _ _ t1 hu0
  | str q =>
   obtain ⟨t2,rfl⟩:=rw'
   simp only [eqD]; exact RcNeAt.tuple_str _ _ t1 hu0
  | tup k1 k2 k3 k4 =>
   cases rw'; obtain ⟨its2,r2,t2⟩:=Inv.rdT I k2
   simp only [eqD]; exact rnT I n A hu0 t1 t2 r1 r2 h3 k3 h4 k4 fd fe ih
  | lst k1 k2 k3 k4 =>
   cases rw'; obtain ⟨its2,r2,t2⟩:=Inv.rdL I k2
   simp only [eqD]; exact RcNeAt.tuple_list t1 t2 hu0
  | dct k1 k2 k3 k4=>(cases n <;> simp [flat] at fe)
  | exc k1 k2=>(cases n <;> simp [flat] at fe)
 | lst h1 h2 h3 h4 =>
  cases ru; obtain ⟨its1,r1,t1⟩:=Inv.rdL I h2
  cases ry with
  | non =>
   cases rw'
   simp only [eqD]; exact RcNeAt.list_none t1 hu0
  | bl q =>
   cases rw'
   simp only [eqD]; exact RcNeAt.list_bool _ t1 hu0
  | int q =>
   obtain ⟨t2,rfl⟩:=rw'
   simp only [eqD]; exact RcNeAt.list_int _ _ t1 hu0
  | str q =>
   obtain ⟨t2,rfl⟩:=rw'
   simp only [eqD]; exact RcNeAt.list_str _ _ t1 hu0
  | tup k1 k2 k3 k4 =>
   cases rw'; obtain ⟨its2,r2,t2⟩:=Inv.rdT I k2
   simp only [eqD]; exact RcNeAt.list_tuple t1 t2 hu0
  | lst k1 k2 k3 k4 =>
   cases rw'; obtain ⟨its2,r2,t2⟩:=Inv.rdL I k2
   simp only [eqD]; exact rnL I n A hu0 t1 t2 r1 r2 h3 k3 h4 k4 fd fe ih
  | dct k1 k2 k3 k4=>(cases n <;> simp [flat] at fe)
  | exc k1 k2=>(cases n <;> simp [flat] at fe)
 | dct h1 h2 h3 h4=>(cases n <;> simp [flat] at fd)
 | exc h1 h2=>(cases n <;> simp [flat] at fd)
theorem zbQ (h:RcAt A s u w k) (hs:u=w→k=true) (hf:∀ b t,u≠Value.float b t):EqAt A s u w k:=fun prog w' E Q hq=>by
 unfold eqBool
 refine Q7 ?_
 refine wpAny_ite_split (fun hab=>?_) (fun _=>?_)
 ·have e:=Jp hab
  rw [hs e] at hq
  exact W4 (Jw (Wc hq))
 ·cases u with
  | float b t=>exact absurd rfl (hf b t)
  | _=>exact W4 (h prog w' E _ (Ql hq))
theorem zbo (r:Rep H NoO x d) (ru:RelV x u) (b:UInt64) (t:Tok):u≠Value.float b t:=by
 intro e
 subst e
 cases r <;> first | (cases ru; done) | (obtain ⟨t',e⟩:=ru; cases e)
theorem eqAtD (I:Inv X pins σ H s) (n:Nat):EqIt H s n:=by
 induction n with
 | zero =>
  intro A x y u w d e hu fd fe rx ry ru rw'
  refine zbQ (rcD I 0 A x y u w d e (by omega) fd fe trivial rx ry ru rw') (fun h=>?_) (zbo rx ru)
  subst h
  have:=ru.inj rw'
  subst this
  rw [Rep.inj rx fd fe ry]
  exact z5u fe
 | succ n ih =>
  intro A x y u w d e hu fd fe rx ry ru rw'
  refine zbQ (rcD I (n + 1) A x y u w d e (by omega) fd fe ⟨by omega,ih⟩ rx ry ru rw') (fun h=>?_) (zbo rx ru)
  subst h
  have:=ru.inj rw'
  subst this
  rw [Rep.inj rx fd fe ry]
  exact z5u fe
theorem zgy (I:Inv X pins σ H s):∀ n:Nat,A.units + n + 1 < Q4→z8Z H s A n
 | 0,_=>trivial
 | n + 1,h=>⟨by omega,eqAtD I n⟩
def rEqD:R2:=fun x y H Q=>∃ d e,Rep H NoO x d∧Rep H NoO y e∧flat 50 d=true∧flat 50 e=true∧Q (.bl (eqD d e)) H
def rNeD:R2:=fun x y H Q=>∃ d e,Rep H NoO x d∧Rep H NoO y e∧flat 50 d=true∧flat 50 e=true∧Q (.bl (!eqD d e)) H
theorem z2p (hu:X.A.units + 64 < Q4):OpR X (Wz .Eq) rEqD:=by
 intro pins s σ H x y v u Q I rx ry h
 obtain ⟨d,e,r1,r2,f1,f2,q⟩:=h
 exact rcD I 50 X.A x y v u d e (by omega) f1 f2 (zgy I 50 (by omega)) r1 r2 rx ry X.prog X.w X.xe _ ⟨.bl _,H,I,rfl,q⟩
theorem z54 (hu:X.A.units + 64 < Q4):OpR X (Wz .NotEq) rNeD:=by
 intro pins s σ H x y v u Q I rx ry h
 obtain ⟨d,e,r1,r2,f1,f2,q⟩:=h
 exact rnD I 50 X.A x y v u d e (by omega) f1 f2 (zgy I 50 (by omega)) r1 r2 rx ry X.prog X.w X.xe _ ⟨.bl _,H,I,rfl,q⟩
end
def cutL {α:Type} (xs:List α) (lo hi:Option Int):List α:=(xs.drop (HT.sIx xs.length 0 lo)).take (HT.sIx xs.length xs.length hi - HT.sIx xs.length 0 lo)
theorem zdI (xs:List V) (lo hi:Option Int):cutL xs lo hi=cutV xs lo hi:=rfl
theorem z9K (xs:List α) (lo hi:Option Int):(cutL xs lo hi).length≤xs.length:=by
 unfold cutL
 rw [QP,List.length_drop]
 omega
theorem Reps.cut (lo hi:Option Int) (h:Reps H O vs ds):Reps H O (cutL vs lo hi) (cutL ds lo hi):=by
 unfold cutL
 rw [h.1]
 exact Reps.take _ (Reps.drop _ h)
theorem zbW {α:Type} {xs:List α} {lo hi:Option Int} (h:HT.sIx xs.length 0 lo=0∧HT.sIx xs.length xs.length hi=xs.length):cutL xs lo hi=xs:=by
 unfold cutL
 rw [h.1,h.2]
 simp
section
variable {prog:Wm} {w:Ws} {A:Wq} {E:Value→W5→Prop} {s:W5}
theorem z4d {t sl:Addr} {items:Array Value} {vl vu:Value} {lo hi:Option Int} {Q:Value→W5→Prop} (ht:IsTup s.heap t items) (hs:s.heap.IsSliceOf sl vl vu .none) (pl:IsPart vl lo) (pu:IsPart vu hi)
  (hw:HT.sIx items.size 0 lo=0∧HT.sIx items.size items.size hi=items.size) (h:Q (.ref t) s):We (model prog w) A (Je (.ref t) (.ref sl)) Q E s:=by
 obtain ⟨os,hos,hcs,hds⟩:=id hs
 have hTs:s.TypeIs (.ref sl) "slice":=⟨os,hos,hcs⟩
 unfold Je
 try with_reducible refine Q7 ?_
 first | refine W4 (Wc ?_) | skip
 refine W4 (wpAny_sequenceKey ht.typeIs (by decide) ?_)
 refine W4 (wpAny_callSpecial?_slot (name:=Str.ofString "__getitem__") ht.typeIs WS
  (wpAny_call_entry WS ht.typeIs entry_tuple_getitem ?_ (args_tuple_getitem _ _)))
 show We _ _ (Builtin.Tuple.tupleItemsOf (.ref t) >>= _) _ _ s
 refine W4 (tupleItemsOf_ ht ?_)
 refine W4 (QQ hTs ?_)
 rw [if_pos (by decide)]
 refine W4 (HT.sliceApplied_gen hs pl pu ?_)
 show We _ _ (if (((HT.sIx items.size 0 lo:Nat):Int) == 0 && (1:Int) == 1 && (HT.sIx items.size items.size hi - HT.sIx items.size 0 lo) == items.size)=true then _ else _) _ _ s
 rw [hw.1,hw.2]
 rw [if_pos (by simp)]
 refine W4 (m:=Builtin.Tuple.tupleIsExact (.ref t)) ?_
 unfold Builtin.Tuple.tupleIsExact
 refine W4 (QQ ht.typeIs (Wc ?_))
 rw [if_pos (by decide)]
 exact W4 (Jw (W4 (Wc (Wc ⟨_,rfl,Wc h⟩))))
end
section
variable {X:Cx}
def zfw (K:W3):V→Option Int→Option Int→Hp→VK→Prop:=fun x lo hi H Q=>∃ a xs,x = .ref a∧SqT K H a xs ∧
 ((HT.sIx xs.length 0 lo=0∧HT.sIx xs.length xs.length hi=xs.length)→Q (.ref a) H)∧(¬ (HT.sIx xs.length 0 lo=0∧HT.sIx xs.length xs.length hi=xs.length)→∀ p,H p=none→Q (.ref p) (upd H p (.tup (cutV xs lo hi))))
theorem sl_tup2:SlR X (zfw X.K):=by
 intro pins s σ H x v vl vu lo hi sl Q I rx hs pl pu h
 obtain ⟨a,xs,rfl,hx,q1,q2⟩:=h
 by_cases hw:HT.sIx xs.length 0 lo=0∧HT.sIx xs.length xs.length hi=xs.length
 ·cases rx
  obtain ⟨its,r,ht,hz⟩:=I.tuple hx
  have hlen:its.toArray.size=xs.length:=by rw [Wl]; exact r.length.symm
  refine ⟨"tuple",_,PyProof.Rows.slot_tuple_getitem.lookup,ht.typeIs,?_⟩
  exact z4d ht hs pl pu (by rw [hlen]; exact hw) ⟨.ref a,H,I,rfl,q1 hw⟩
 ·exact sl_tup pins s σ H (.ref a) v vl vu lo hi sl Q I rx hs pl pu ⟨a,xs,rfl,hx,hw,q2 hw⟩
theorem zaU (a b:Nat):sliceRange (a:Int) (b:Int) 1=(Wb (b - a)).map (fun k=>a + k):=by
 have h0:((1:Int) > 0)=True:=by simp
 unfold sliceRange
 simp only [h0,if_true]
 by_cases hlt:(a:Int) < (b:Int)
 ·rw [if_pos hlt]
  have e3:(((b:Int) - (a:Int) + 1 - 1) / 1).toNat=b - a:=by
   rw [Int.ediv_one]; omega
  rw [e3]
  refine WY fun k _=>?_
  omega
 ·rw [if_neg hlt]
  have:b - a=0:=by omega
  rw [this]
  rfl
theorem z6u (lo hi:Option Int) (n:Nat):WH lo hi 1 n=(Wb (HT.sIx n n hi - HT.sIx n 0 lo)).map (fun k=>HT.sIx n 0 lo + k):=by
 have c:∀ (i:Int) (d:Nat),max 0 (min (if i < 0 then i + (n:Int) else i) (n:Int))=((HT.sIx n d (some i):Nat):Int):=by
  intro i d
  show max 0 (min (if i < 0 then i + (n:Int) else i) (n:Int))=(((if i < 0 then (i + (n:Int)).toNat else min i.toNat n):Nat):Int)
  by_cases hi:i < 0
  ·simp only [if_pos hi]; omega
  ·simp only [if_neg hi]; omega
 have h0:((1:Int) > 0)=True:=by simp
 rw [← zaU]
 unfold WH
 simp only [h0,if_true]
 cases lo with
 | none =>
  cases hi with
  | none=>rfl
  | some j=>show sliceRange 0 (max 0 (min (if j < 0 then j + (n:Int) else j) (n:Int))) 1=_; rw [c j n]; rfl
 | some i =>
  cases hi with
  | none=>show sliceRange (max 0 (min (if i < 0 then i + (n:Int) else i) (n:Int))) (n:Int) 1=_; rw [c i 0]; rfl
  | some j=>show sliceRange (max 0 (min (if i < 0 then i + (n:Int) else i) (n:Int))) (max 0 (min (if j < 0 then j + (n:Int) else j) (n:Int))) 1=_; rw [c i 0,c j n]
theorem zdU (x:Tx) (lo hi:Option Int):(⟨((WH lo hi 1 (toS x).length).filterMap ((toS x).cps[·]?)).toArray⟩:Str)=toS (cutL x lo hi):=by
 unfold toS
 congr 1
 rw [z6u]
 have:=pick_run (x.toArray) (HT.sIx x.length 0 lo) (HT.sIx x.length x.length hi - HT.sIx x.length 0 lo)
 have hl:({ cps:=x.toArray }:Str).length=x.length:=by simp [Str.length]
 rw [hl]
 rw [this]
 rfl
def rSlS:V→Option Int→Option Int→Hp→VK→Prop:=fun x lo hi H Q=>∃ z:Tx,x = .str (toS z)∧z.length≤W6∧Q (.str (toS (cutL z lo hi))) H
theorem zbe (p:IsPart v o):∃ q:Option (Int×Tok),v=partValue q∧q.map (·.1)=o:=by
 cases p with
 | none=>exact ⟨none,rfl,rfl⟩
 | int i t=>exact ⟨some (i,t),rfl,rfl⟩
theorem sl_str:SlR X rSlS:=by
 intro pins s σ H x v vl vu lo hi sl Q I rx hs pl pu h
 obtain ⟨z,rfl,hz,q⟩:=h
 obtain ⟨t,rfl⟩:=rx
 obtain ⟨l,rfl,el⟩:=zbe pl
 obtain ⟨u,rfl,eu⟩:=zbe pu
 obtain ⟨o,ho,hc,hd⟩:=hs
 refine ⟨"str",_,F.slot_str_getitem.lookup,Ju s _ t,?_⟩
 refine wpAny_getItem_str_slice (l:=l) (u:=u) (st:=none) ⟨o,ho,hc,hd⟩ rfl ?_
 unfold sliceMade
 have e:(slicePicked (toS z) l u none)=WH lo hi 1 (toS z).length:=by
  unfold slicePicked
  rw [el,eu]
  rfl
 rw [e]
 by_cases hw:(((none:Option (Int×Tok)).map (·.1)).getD 1 == 1 && (WH lo hi 1 (toS z).length).length == (toS z).length)=true
 ·rw [if_pos hw]
  refine ⟨.str (toS (cutL z lo hi)),H,I,⟨t,?_⟩,q⟩
  congr 1
  rw [Wk] at hw
  have hw2:=Jp hw.2
  rw [z6u,Qd,Jz,z2j] at hw2
  have h1:=HT.sIx_le z.length 0 (QM _) lo
  have h2:=HT.sIx_le z.length z.length (Wh _) hi
  unfold cutL
  congr 1
  by_cases h0:z.length=0
  ·have:z=[]:=List.eq_nil_of_length_eq_zero h0
   subst this
   simp
  ·have a1:HT.sIx z.length 0 lo=0:=by omega
   rw [a1] at hw2 ⊢
   rw [hw2]
   simp
 ·rw [if_neg hw]
  show Made.post (.str _) _ _
  rw [zdU]
  exact ⟨by rw [z2j]; exact WG (z9K z lo hi) hz,.str (toS (cutL z lo hi)),H,I.tok _,⟨_,rfl⟩,q⟩
def RvR (X:Cx) (r:V→Hp→VK→Prop):Prop :=
 ∀ (pins:List (Addr×Obj)) (s:W5) (σ:St) (H:Hp) (x:V) (v:Value) (t:Tok) (sl:Addr) (Q:VK),Inv X pins σ H s→RelV x v→s.heap.IsSliceOf sl .none .none (.int (-1) t)→r x H Q →
  ∃ T id,typeLookup (.type T) "__getitem__" = pure (some (.builtin id))∧s.TypeIs v T∧We (model X.prog X.w) X.A (Je v (.ref sl)) (EP X pins σ Q) X.xe s
theorem RvR.or (h:RvR X r) (h':RvR X r'):RvR X (fun x H Q=>r x H Q∨r' x H Q):=by
 intro pins s σ H x v t sl Q I rx hs q
 rcases q with q | q
 ·exact h pins s σ H x v t sl Q I rx hs q
 ·exact h' pins s σ H x v t sl Q I rx hs q
theorem zfQ {r:V→Hp→VK→Prop} {e st:Expr} {te:TE} {p2 pos:Pos} (hr:RvR X r) (he:PE X e te) (hst:PE X st (tC (.int (-1)))):PE X (.Subscript e (.Slice none none (some st) p2) pos) (tUn r te):=by
 intro pins s σ H Q I h
 refine Subscript_ (thn (he pins s σ H _ I h) fun v s1 ⟨x,H1,I1,r1,q1⟩=>?_)
 refine wpAny_Slice ?_
 rw [evalPart_none,evalPart_some]
 refine Wc (Wc ?_)
 refine thn (hst pins s1 σ H1 (fun y H2=>y = .int (-1)∧H2=H1) I1 ⟨rfl,rfl⟩) fun u s2 ⟨y,H2,I2,r2,ey,eh⟩=>?_
 subst ey eh
 obtain ⟨t,rfl⟩:=r2
 have I4:Inv X pins σ H2 { s2 with heap:=s2.heap.push { cls:=.type "slice",data:=.fields #[.none,.none,.int (-1) t] } }:=I2.kept (t':=s2.toks) fun b ob q=>Wa _ q
 obtain ⟨T,id,hT,ht,hg⟩:=hr pins { s2 with heap:=s2.heap.push { cls:=.type "slice",data:=.fields #[.none,.none,.int (-1) t] } } σ H2 x v t s2.heap.objs.size Q I4 r1 (Heap.IsSliceOf.new ..) q1
 show We (model X.prog X.w) X.A (subscriptTail e (.Slice none none (some st) p2) v (.ref s2.heap.objs.size)) (EP X pins σ Q) X.xe { s2 with heap:=s2.heap.push { cls:=.type "slice",data:=.fields #[.none,.none,.int (-1) t] } }
 exact tail_any (ops:=[v,.ref s2.heap.objs.size]) ht hT hg (by with_unfolding_all rfl)
theorem zbq {pos pos':Pos} {j}:PE X (.UnaryOp .USub (.Constant (.int 1) j pos') pos) (tC (.int (-1))) :=
 PE.weak (zfO zdl zdx) fun σ H Q h=>⟨1,rfl,h⟩
theorem zeG (n:Nat):WH none none (-1) n=(Wb n).map fun k=>n - 1 - k:=by
 unfold WH
 have h0:¬ ((-1:Int) > 0):=by decide
 simp only [h0,if_false]
 exact PySem.W.krv_sliceRange n
theorem rv_str:RvR X (fun x H Q=>∃ z:Tx,x = .str (toS z)∧z.length≤W6∧Q (.str (toS z.reverse)) H):=by
 intro pins s σ H x v t sl Q I rx hs h
 obtain ⟨z,rfl,hz,q⟩:=h
 obtain ⟨t',rfl⟩:=rx
 obtain ⟨o,ho,hc,hd⟩:=hs
 refine ⟨"str",_,F.slot_str_getitem.lookup,Ju s _ t',?_⟩
 refine wpAny_getItem_str_slice (l:=none) (u:=none) (st:=some (-1,t)) ⟨o,ho,hc,hd⟩ (by show ((-1:Int) == 0)=false; decide) ?_
 unfold sliceMade
 rw [if_neg (by intro h; rw [Wk] at h; exact absurd (show ((-1:Int) == 1)=true from h.1) (by decide))]
 have e:(⟨((slicePicked (toS z) none none (some (-1,t))).filterMap ((toS z).cps[·]?)).toArray⟩:Str)=toS z.reverse:=by
  unfold slicePicked
  show (⟨((WH none none (-1) (toS z).length).filterMap ((toS z).cps[·]?)).toArray⟩:Str)=_
  rw [zeG,PySem.W.krv_range,List.filterMap_reverse]
  have:(toS z).length=(toS z).cps.size:=rfl
  rw [this,PySem.W.krv_all]
  simp [toS]
 show Made.post (.str _) _ _
 rw [e]
 exact ⟨by rw [z2j,Ji]; exact hz,.str (toS z.reverse),H,I.tok _,⟨_,rfl⟩,q⟩
theorem ze3:RvR X (fun x H Q=>∃ a xs,x = .ref a∧SqL X.K H a xs∧∀ p,H p=none→Q (.ref p) (upd H p (.lst xs.reverse))):=by
 intro pins s σ H x v t sl Q I rx hs h
 obtain ⟨a,xs,rfl,hx,q⟩:=h
 cases rx
 obtain ⟨its,r,ht,hz⟩:=I.list hx
 have hlen:=r.length
 refine ⟨"list",_,slot_list_getitem.lookup,ht.isList.typeIs,?_⟩
 refine wpAny_getItem_list_slice ht.isList hs .none .none (.int (-1) t) (by decide) ?_ (by rw [Wl] <;> omega)
 rw [PySem.W.krv_pick]
 exact ⟨.ref s.heap.objs.size,_,I.lnew (t':=s.toks) r.reverse (by rw [Ji]; exact hz),rfl,q _ I.fresh⟩
theorem op_catT0:OpR X (Qc .Add) (fun x y H Q=>∃ a b ys,x = .ref a∧y = .ref b∧SqT X.K H a []∧SqT X.K H b ys∧Q (.ref b) H):=by
 intro pins s σ H x y v u Q I rx ry h
 obtain ⟨a,b,ys,rfl,rfl,ha,hb,q⟩:=h
 cases rx
 cases ry
 obtain ⟨its,r1,p1,_⟩:=I.tuple ha
 obtain ⟨its2,r2,p2,_⟩:=I.tuple hb
 cases r1
 obtain ⟨⟨cls,dd,data,sl⟩,ho,hc,n,hd⟩:=id p1
 obtain ⟨⟨cls2,dd2,data2,sl2⟩,ho2,hc2,n2,hd2⟩:=id p2
 simp only at hc hd hc2 hd2
 subst hc hd hc2 hd2
 exact concat_meets ⟨_,ho,rfl⟩ ⟨_,ho2,rfl⟩ noFill_tuple_add seq_tuple_add PySem.F.slot_tuple_add PySem.F.entry_tuple_add (PySem.F.args_tuple_add_2 _ _)
   (tuple_addW0 a b #[] its2.toArray n n2 dd dd2 sl sl2 rfl) ⟨ho,ho2,.ref b,H,I,rfl,q⟩
def zfB (K:W3):R2:=fun x y H Q=>∃ l b xs zs,x = .ref l∧y = .ref b∧SqL K H l xs∧SqL K H b zs∧xs.length + zs.length≤W6∧∀ p,H p=none→Q (.ref p) (upd H p (.lst (xs ++ zs)))
theorem zes:OpR X (Qc .Add) (zfB X.K):=by
 intro pins s σ H x y v u Q I rx ry h
 obtain ⟨l,b,xs,zs,rfl,rfl,hH,hB,hz,q⟩:=h
 cases rx
 cases ry
 obtain ⟨its,r,⟨⟨cls,dd,data,sl⟩,n,e,hc,hdd,hd⟩,z⟩:=I.list hH
 obtain ⟨its2,r2,⟨⟨cls2,dd2,data2,sl2⟩,n2,e2,hc2,hdd2,hd2⟩,z2⟩:=I.list hB
 simp only at hc hd hdd hc2 hd2 hdd2
 subst hc hd hdd hc2 hd2 hdd2
 have hl:=r.length
 have hl2:=r2.length
 refine concat_meets ⟨_,e,rfl⟩ ⟨_,e2,rfl⟩ noFill_list_add seq_list_add PySem.F.slot_list_add PySem.F.entry_list_add (PySem.F.args_list_add_2 _ _)
   (list_addW l b its.toArray its2.toArray n n2 none none sl sl2 (by rw [Wl,Wl]; omega)) ⟨e,e2,?_⟩
 have ea:its.toArray ++ its2.toArray=(its ++ its2).toArray:=by simp
 rw [ea]
 exact ⟨.ref _,_,I.lnew (t':=s.toks) (r.append r2) (by rw [Q2]; omega),rfl,q _ I.fresh⟩
theorem z4L:∀ {ys:List Str} {us:List Value},Vals (ys.map V.str) us→StrsAre us ys
 | [],us,r=>by cases r; exact .nil
 | y :: ys,us,r=>by
  cases r with
  | cons r1 r2 =>
   obtain ⟨t,rfl⟩:=r1
   exact .cons y t (z4L r2)
def zcy (K:W3):V→List V→Hp→VK→Prop:=fun x vs H Q=>∃ (z:Str) (a:Addr) (ys:List Str),x = .str z∧vs=[.ref a]∧(SqL K H a (ys.map V.str)∨SqT K H a (ys.map V.str)) ∧
 (ys.map (·.length)).sum + ys.length * z.length≤16777216∧Q (.str (Txt.join z ys)) H
theorem zey:MtR X "str.join" (zcy X.K):=by
 intro pins s σ H x vs v us Q I rx rv h
 obtain ⟨z,a,ys,rfl,rfl,hq,hz,q⟩:=h
 obtain ⟨t,rfl⟩:=rx
 obtain ⟨u,rfl,ru⟩:=rv.one
 cases ru
 rcases hq with hq | hq
 ·obtain ⟨its,r,p,_⟩:=I.list hq
  exact join_list p.isList (by simpa using z4L r) hz fun t' k=>⟨.str _,H,I.tok _,⟨t',rfl⟩,q⟩
 ·obtain ⟨its,r,p,_⟩:=I.tuple hq
  exact join_tuple p (by simpa using z4L r) hz fun t' k=>⟨.str _,H,I.tok _,⟨t',rfl⟩,q⟩
theorem z8a:∀ {bs:List Bool} {us:List Value},Vals (bs.map V.bl) us→∀ (i:Nat) v,us[i]? = some v→∃ b,bs[i]? = some b∧v = .bool b
 | [],us,r,i,v,e=>by cases r; simp at e
 | b :: bs,us,r,i,v,e=>by
  cases r with
  | cons r1 r2 =>
   cases i with
   | zero =>
    simp at e
    subst e
    exact ⟨b,rfl,r1⟩
   | succ i=>exact z8a r2 i v (by simpa using e)
theorem z6B:∀ bs:List Bool,((Wb bs.length).all fun i=>(bs[i]?).getD true)=bs.all id
 | []=>rfl
 | b :: bs=>by
  rw [WN,List.range_succ_eq_map,Jc,List.all_map]
  have:=z6B bs
  simp only [QT,Option.getD_some,Jc,id]
  rw [← this]
  rfl
theorem zdf (hc:X.calm=true):CallR X (.builtin "all") (fun xs H Q=>∃ (a:Addr) (bs:List Bool),xs=[.ref a]∧SqL X.K H a (bs.map V.bl)∧Q (.bl (bs.all (fun b=>b))) H):=by
 intro pins s σ H xs us Q I r h
 obtain ⟨a,bs,rfl,hq,q⟩:=h
 obtain ⟨u,rfl,ru⟩:=z6c r
 cases ru
 obtain ⟨its,r',p,_⟩:=I.list hq
 have hl:=p.isList
 have hlt:a < s.heap.objs.size:=by obtain ⟨_,e,_⟩:=hl; exact Wn e
 have hlen:=r'.length
 rw [Qd] at hlen
 refine call_all_walk (wpAny_pyIter_list hl ?_)
 refine ⟨s.heap.objs.size,[s.heap.objs.size,a],[s.heap.objs.size],its.toArray.size,_,_,fun i=>(bs[i]?).getD true,rfl,Walks.list (A:=X.A.in1) (I.ok.hd hc) _ a (WT hlt) its.toArray,
  ⟨⟨_,Wu _ rfl,rfl,rfl⟩,hl.push _⟩,fun i v s' Q' E' hP hQ=>?_,fun h' tk hk=>?_⟩
 ·obtain ⟨b,e,rfl⟩:=z8a r' i v (by simpa using hP)
  simp only [e,Option.getD_some] at hQ
  exact Ql hQ
 ·have e:((Wb its.toArray.size).all fun i=>(bs[i]?).getD true)=bs.all id:=by
   rw [Wl,← hlen]; exact z6B bs
  rw [e]
  exact ⟨.bl _,H,I.kept fun b o e=>hk b o (fun hm=>by rw [List.mem_singleton.mp hm] at e; exact Qj _ (Wn e)) (Wa _ e),rfl,q⟩
end
def p2 (p:D→D→Option S) (x y:D) (δ:Dl):Rs S:=match p x y with
 | some s=>.ok s δ
 | none=>.stuck
def eOp (p:D→D→Option S) (fa:DE) (fb:BE):DE:=fun δ=>(fa δ).bind fun x δ1=>(fb δ1).bind fun y δ2=>p2 p x.d y δ2
def eOpN (p:D→D→Option S) (i:Nat) (fb:BE):DE:=fun δ=>(fb δ).bind fun y δ1=>(bVar i δ1).bind fun x δ2=>p2 p x y δ2
def Op2 (r:R2) (p:D→D→Option S):Prop:=∀ (c:Fc) (σ:St) (δ:Dl) (H:Hp) (x y:V) (d e:D) (s:S) (Q:VK),Ok c σ δ H→RepB c σ δ H x d→RepB c σ δ H y e→p d e=some s →
 (∀ v H',Aft c σ δ H σ δ H'→RepS c σ δ H H' v s→Q v H')→r x y H Q
theorem RepB.aft (h:Rep H (Av c σ δ) v d) (x:Aft c σ δ H σ δ' H'):RepB c σ δ' H' v d:=.inl (Rep.aft h x)
section
variable {X:Cx} {c:Fc} {a b:Expr} {fa:DE} {fb:BE} {r:R2} {p:D→D→Option S} {pos:Pos}
theorem zbf (hp:Op2 r p) (k:Ok c σ δ H) (rx:RepB c σ δ H x d) (ry:RepB c σ δ H y e)
  (h:post c (p2 p d e δ) fun s δ'=>∀ v H',Aft c σ δ H σ δ' H'→RepS c σ δ' H H' v s→Q v H'):r x y H Q:=by
 unfold p2 at h
 cases e1:p d e with
 | none=>rw [e1] at h; exact h.elim
 | some s=>rw [e1] at h; exact hp c σ δ H x y d e s Q k rx ry e1 h
theorem z71 (hp:Op2 r p) (h:tD c (eOp p fa fb) σ H Q):tOp r (tD c fa) (tB c fb) σ H Q:=by
 obtain ⟨δ,k,q⟩:=h
 refine ⟨δ,k,?_⟩
 unfold eOp at q
 rw [z08] at q
 refine z02 q fun x δ1 q1 v H1 a1 r1=>⟨δ1,a1.ok,?_⟩
 rw [z08] at q1
 refine z02 q1 fun y δ2 q2 u H2 a2 r2=>?_
 exact zbf hp a2.ok (.inl (Rep.aft r1.rep a2)) r2 (z02 q2 fun s δ3 q3 v' H3 a3 r3=>q3 v' H3 (a1.trans (a2.trans a3)) (RepS.back r3 (a1.trans a2)))
theorem zcO (hp:Op2 r p) (h:tD c (eOpN p i fb) σ H Q) (hv:∀ δ,Ok c σ δ H→post c (fb δ) (fun _ _=>True)→∃ v,σ[i]? = some (some v)):tOp r (tVar i) (tB c fb) σ H Q:=by
 obtain ⟨δ,k,q⟩:=h
 unfold eOpN at q
 rw [z08] at q
 obtain ⟨v,ev⟩:=hv δ k (z02 q fun _ _ _=>trivial)
 refine ⟨v,ev,δ,k,z02 q fun y δ1 q1 u H1 a1 r1=>?_⟩
 rw [z08] at q1
 unfold bVar at q1
 cases e:δ1[i]? with
 | none=>rw [e] at q1; exact q1.elim
 | some o =>
  cases o with
  | none=>rw [e] at q1; exact q1.elim
  | some w =>
   rw [e] at q1
   have q1':post c (p2 p w.d y δ1) fun s δ'=>∀ v H',Aft c σ δ H σ δ' H'→RepS c σ δ' H H' v s→Q v H':=q1
   have rb:RepB c σ δ1 H1 v w.d:=by
    cases w with
    | pure d =>
     obtain ⟨v',e1,r⟩:=a1.ok.slot i d e
     rw [ev] at e1; cases e1
     exact .inl r
    | own d =>
     obtain ⟨a,e1,r,_⟩:=a1.ok.own i d e
     rw [ev] at e1; cases e1
     exact .inr ⟨a,rfl,r⟩
   exact zbf hp a1.ok rb r1 (z02 q1' fun s δ3 q3 v' H3 a3 r3=>q3 v' H3 (a1.trans a3) (RepS.back r3 a1))
theorem z2P {i:Nat} {σ:St} {δ:Dl} {H:Hp} (k:Ok c σ δ H) {w:S} (e:δ[i]? = some (some w)):∃ v,σ[i]? = some (some v):=by
 cases w with
 | pure d=>obtain ⟨v,e1,_⟩:=k.slot i d e; exact ⟨v,e1⟩
 | own d=>obtain ⟨a,e1,_⟩:=k.own i d e; exact ⟨_,e1⟩
end
def eOpF (p:D→D→Option S) (i:Nat) (fb:BE):DE:=fun δ=>match δ[i]? with
 | some (some _)=>eOpN p i fb δ
 | _=>.stuck
section
variable {X:Cx} {c:Fc} {a b:Expr} {fa:DE} {fb:BE} {r:R2} {p:D→D→Option S} {pos:Pos}
theorem z5p (hp:Op2 r p) {i:Nat} {σ:St} {H:Hp} {Q:VK} (h:tD c (eOpF p i fb) σ H Q):tOp r (tVar i) (tB c fb) σ H Q:=by
 obtain ⟨δ,k,q⟩:=h
 unfold eOpF at q
 cases e:δ[i]? with
 | none=>rw [e] at q; exact q.elim
 | some o =>
  cases o with
  | none=>rw [e] at q; exact q.elim
  | some w =>
   rw [e] at q
   obtain ⟨v,ev⟩:=z2P k e
   exact zcO hp (i:=i) ⟨δ,k,q⟩ fun _ _ _=>⟨v,ev⟩
theorem z0S {op:Operator} (ho:OpR X (Qc op) r) (hp:Op2 r p) (ha:SE X c a fa) (hb:SB X c b fb):SE X c (.BinOp a op b pos) (eOp p fa fb):=PE.weak (zfR ho ha hb) fun _ _ _ h=>z71 hp h
theorem z0M {op:Operator} {i:Nat} (ho:OpR X (Qc op) r) (hp:Op2 r p) (ha:PE X a (tVar i)) (hb:SB X c b fb):SE X c (.BinOp a op b pos) (eOpF p i fb):=PE.weak (zfR ho ha hb) fun _ _ _ h=>z5p hp h
theorem z6A {op:CmpOp} (ho:OpR X (Wz op) r) (hp:Op2 r p) (ha:SE X c a fa) (hb:SB X c b fb) (hm:Qk op b=false):SE X c (.Compare a [op] [b] pos) (eOp p fa fb):=PE.weak (zbb ho ha hb hm) fun _ _ _ h=>z71 hp h
theorem z6T {op:CmpOp} {i:Nat} (ho:OpR X (Wz op) r) (hp:Op2 r p) (ha:PE X a (tVar i)) (hb:SB X c b fb) (hm:Qk op b=false):SE X c (.Compare a [op] [b] pos) (eOpF p i fb):=PE.weak (zbb ho ha hb hm) fun _ _ _ h=>z5p hp h
theorem z4q (hr:IxR X r) (hp:Op2 r p) (ha:SE X c a fa) (hb:SB X c b fb) (hs:z8X b):SE X c (.Subscript a b pos) (eOp p fa fb):=PE.weak (zfW hr ha hb hs) fun _ _ _ h=>z71 hp h
theorem z0h {i:Nat} (hr:IxR X r) (hp:Op2 r p) (ha:PE X a (tVar i)) (hb:SB X c b fb) (hs:z8X b):SE X c (.Subscript a b pos) (eOpF p i fb):=PE.weak (zfW hr ha hb hs) fun _ _ _ h=>z5p hp h
end
abbrev DT:=Dl→Rs Bool
def tT (c:Fc) (f:DT):TT:=fun σ H Q=>∃ δ,Ok c σ δ H∧post c (f δ) fun b δ'=>∀ H',Aft c σ δ H σ δ' H'→Q b H'
abbrev ST (X:Cx) (c:Fc) (e:Expr) (f:DT):Prop:=PT X e (tT c f)
theorem PT.weak (h:PT X e t) (w:∀ σ H Q,t' σ H Q→t σ H Q):PT X e t':=fun pins s σ H Q I q=>h pins s σ H Q I (w σ H Q q)
def dTr (f:DE):DT:=fun δ=>(f δ).bind fun r δ'=>match r with
 | .pure (.bl b)=>.ok b δ'
 | _=>.stuck
section
variable {X:Cx} {c:Fc} {a b:Expr} {fa f:DE} {fb:BE} {r:R2} {p:D→D→Option S} {pos:Pos}
theorem z8f (h:tT c (dTr f) σ H Q):tD c f σ H fun x H'=>∃ k,x = .bl k∧Q k H':=by
 obtain ⟨δ,k,q⟩:=h
 refine ⟨δ,k,?_⟩
 unfold dTr at q
 rw [z08] at q
 refine z02 q fun r δ1 q1 v H1 a1 r1=>?_
 cases r with
 | own d=>exact q1.elim
 | pure d =>
  cases d <;> first | exact q1.elim | skip
  rename_i b
  cases r1
  exact ⟨b,rfl,q1 H1 a1⟩
theorem z25 {op:CmpOp} (ho:OpR X (Wz op) r) (hp:Op2 r p) (ha:SE X c a fa) (hb:SB X c b fb) (hm:Qk op b=false):ST X c (.Compare a [op] [b] pos) (dTr (eOp p fa fb)) :=
 PT.weak (zb0 ho ha hb hm) fun σ H Q h=>z71 hp (z8f h)
theorem z2D {op:CmpOp} {i:Nat} (ho:OpR X (Wz op) r) (hp:Op2 r p) (ha:PE X a (tVar i)) (hb:SB X c b fb) (hm:Qk op b=false):ST X c (.Compare a [op] [b] pos) (dTr (eOpF p i fb)) :=
 PT.weak (zb0 ho ha hb hm) fun σ H Q h=>z5p hp (z8f h)
theorem z4m {e:Expr} (h:SE X c e f) (he:∀ whole,isTrue e X.env whole=(do let v ← whole; standAt e.pos; holding [v] (truthy v)):=by intro _; rfl):ST X c e (dTr f) :=
 PT.weak (zfH h he) fun σ H Q h=>z8f h
def dAnd (t u:DT):DT:=fun δ=>(t δ).bind fun b δ1=>if b then u δ1 else .ok false δ1
def dOr (t u:DT):DT:=fun δ=>(t δ).bind fun b δ1=>if b then .ok true δ1 else u δ1
def dNot (t:DT):DT:=fun δ=>(t δ).bind fun b δ1=>.ok (!b) δ1
abbrev SW (X:Cx) (c:Fc) (e:Expr) (f:DT):Prop:=PW X e (tT c f)
theorem PW.weak (h:PW X e t) (w:∀ σ H Q,t' σ H Q→t σ H Q):PW X e t':=fun wh pins s σ H Q I q=>h wh pins s σ H Q I (w σ H Q q)
variable {t u:DT} {rest:List Expr}
theorem z8k (ha:ST X c a t):SW X c (.BoolOp .And [a] pos) t:=zed ha
theorem z5w (ha:ST X c a t):SW X c (.BoolOp .Or [a] pos) t:=zfF ha
theorem zax (ha:ST X c a t) (hb:SW X c (.BoolOp .And (b :: rest) pos) u):SW X c (.BoolOp .And (a :: b :: rest) pos) (dAnd t u):=PW.weak (zfG ha hb) fun σ H Q ⟨δ,k,q⟩=>by
 unfold dAnd at q
 rw [z08] at q
 refine ⟨δ,k,z02 q fun x δ1 q1 H1 a1=>?_⟩
 cases x with
 | true=>exact ⟨δ1,a1.ok,z02 q1 fun y δ2 q2 H2 a2=>q2 H2 (a1.trans a2)⟩
 | false=>exact q1 H1 a1
theorem z8j (ha:ST X c a t) (hb:SW X c (.BoolOp .Or (b :: rest) pos) u):SW X c (.BoolOp .Or (a :: b :: rest) pos) (dOr t u):=PW.weak (pw_or ha hb) fun σ H Q ⟨δ,k,q⟩=>by
 unfold dOr at q
 rw [z08] at q
 refine ⟨δ,k,z02 q fun x δ1 q1 H1 a1=>?_⟩
 cases x with
 | false=>exact ⟨δ1,a1.ok,z02 q1 fun y δ2 q2 H2 a2=>q2 H2 (a1.trans a2)⟩
 | true=>exact q1 H1 a1
theorem z6e (h:SW X c a t):ST X c a t:=PW.pt h
theorem z4n (ha:ST X c a t):ST X c (.UnaryOp .Not a pos) (dNot t):=PT.weak (zfI ha) fun σ H Q ⟨δ,k,q⟩=>by
 unfold dNot at q
 rw [z08] at q
 exact ⟨δ,k,q⟩
def eAnd (f g:DE):DE:=fun δ=>(f δ).bind fun r δ1=>match r with
 | .pure (.bl true)=>g δ1
 | .pure (.bl false)=>.ok (.pure (.bl false)) δ1
 | _=>.stuck
def eNot (f:DE):DE:=fun δ=>(f δ).bind fun r δ1=>match r with
 | .pure (.bl b)=>.ok (.pure (.bl (!b))) δ1
 | _=>.stuck
def eIf (t:DT) (f g:DE):DE:=fun δ=>(t δ).bind fun b δ1=>if b then f δ1 else g δ1
variable {g:DE}
theorem zaK {op} (h:SE X c a f):SE X c (.BoolOp op [a] pos) f:=zfS h
theorem z99 (ha:SE X c a f) (hb:SE X c (.BoolOp .And (b :: rest) pos) g):SE X c (.BoolOp .And (a :: b :: rest) pos) (eAnd f g):=PE.weak (zfZ ha hb) fun σ H Q ⟨δ,k,q⟩=>by
 unfold eAnd at q
 rw [z08] at q
 refine ⟨δ,k,z02 q fun r δ1 q1 v H1 a1 r1=>?_⟩
 cases r with
 | own d=>exact q1.elim
 | pure d =>
  cases d <;> first | exact q1.elim | skip
  rename_i b
  cases r1
  refine ⟨b,rfl,?_⟩
  cases b with
  | true=>exact ⟨δ1,a1.ok,z02 q1 fun y δ2 q2 v H2 a2 r2=>q2 v H2 (a1.trans a2) (RepS.back r2 a1)⟩
  | false=>exact q1 _ H1 a1 (.bl false)
theorem zff (ha:SE X c a f):SE X c (.UnaryOp .Not a pos) (eNot f):=PE.weak (zfT ha) fun σ H Q ⟨δ,k,q⟩=>by
 unfold eNot at q
 rw [z08] at q
 refine ⟨δ,k,z02 q fun r δ1 q1 v H1 a1 r1=>?_⟩
 cases r with
 | own d=>exact q1.elim
 | pure d =>
  cases d <;> first | exact q1.elim | skip
  rename_i b
  cases r1
  exact ⟨b,rfl,q1 _ H1 a1 (.bl _)⟩
theorem se_if {e:Expr} (ht:ST X c e t) (ha:SE X c a f) (hb:SE X c b g):SE X c (.IfExp e a b pos) (eIf t f g):=PE.weak (zcH ht ha hb) fun σ H Q ⟨δ,k,q⟩=>by
 unfold eIf at q
 rw [z08] at q
 refine ⟨δ,k,z02 q fun x δ1 q1 H1 a1=>?_⟩
 cases x with
 | true=>exact ⟨δ1,a1.ok,z02 q1 fun y δ2 q2 v H2 a2 r2=>q2 v H2 (a1.trans a2) (RepS.back r2 a1)⟩
 | false=>exact ⟨δ1,a1.ok,z02 q1 fun y δ2 q2 v H2 a2 r2=>q2 v H2 (a1.trans a2) (RepS.back r2 a1)⟩
end
section
variable {c:Fc} {σ:St} {δ:Dl} {H:Hp} {x:V}
theorem RepB.int (h:RepB c σ δ H x (.int i)):x = .int i:=by
 rcases h with h | ⟨_,_,h⟩
 ·cases h; rfl
 ·exact h.elim
theorem RepB.bl (h:RepB c σ δ H x (.bl b)):x = .bl b:=by
 rcases h with h | ⟨_,_,h⟩
 ·cases h; rfl
 ·exact h.elim
theorem RepB.non (h:RepB c σ δ H x .non):x = .non:=by
 rcases h with h | ⟨_,_,h⟩
 ·cases h; rfl
 ·exact h.elim
theorem RepB.str (h:RepB c σ δ H x (.str z)):x = .str (toS z):=by
 rcases h with h | ⟨_,_,h⟩
 ·cases h; rfl
 ·exact h.elim
theorem RepB.tup (h:RepB c σ δ H x (.tup ds)):∃ a vs,x = .ref a∧H a=some (.tup vs)∧Reps H (Av c σ δ) vs ds:=by
 rcases h with h | ⟨_,_,h⟩
 ·cases h with
  | tup h1 h2 h3 h4=>exact ⟨_,_,rfl,h2,h3,h4⟩
 ·exact h.elim
theorem RepB.lst (h:RepB c σ δ H x (.lst ds)):∃ a vs,x = .ref a∧Rd H a (.lst vs)∧Reps H (Av c σ δ) vs ds:=by
 rcases h with h | ⟨a,e,h⟩
 ·cases h with
  | lst h1 h2 h3 h4=>exact ⟨_,_,rfl,h2,h3,h4⟩
 ·obtain ⟨vs,h1,h2⟩:=h
  exact ⟨a,vs,e,.inl h1,h2⟩
theorem RepB.dct (h:RepB c σ δ H x (.dct ds)):∃ a ws,x = .ref a∧H a=some (.dK ws)∧ws.map (·.1)=ds.map (fun p=>kOf p.1)∧∀ (i:Nat) p q,ws[i]? = some p→ds[i]? = some q→Rep H (Av c σ δ) p.2 q.2:=by
 rcases h with h | ⟨a,e,h⟩
 ·cases h with
  | dct h1 h2 h3 h4=>exact ⟨_,_,rfl,h2,h3,h4⟩
 ·obtain ⟨ws,h1,h2,h3⟩:=h
  exact ⟨a,ws,e,h1,h2,h3⟩
end
theorem z6t (h:z.length≤W6):(toS z).length≤W6:=by rw [z2j]; exact h
theorem zdO (x y:Tx):toS x ++ toS y=toS (x ++ y):=by
 show Str.append (toS x) (toS y)=_
 simp [toS,Str.append]
def pAdd:D→D→Option S
 | .int i,.int j=>some (.pure (.int (i + j)))
 | .str x,.str y=>if x.length + y.length≤W6 then some (.pure (.str (x ++ y))) else none
 | .tup xs,.tup ys=>if xs.length + ys.length≤W6 then some (.pure (.tup (xs ++ ys))) else none
 | .lst xs,.lst ys=>if xs.length + ys.length≤W6 then some (.own (.lst (xs ++ ys))) else none
 | _,_=>none
def zfC (K:W3):R2:=fun x y H Q=>rI0 (fun i j=>V.int (i + j)) x y H Q∨(∃ i j,x = .str i∧y = .str j∧i.length + j.length≤W6∧Q (.str (i ++ j)) H) ∨
 (∃ a b ys,x = .ref a∧y = .ref b∧SqT K H a []∧SqT K H b ys∧Q (.ref b) H)∨zfA K x y H Q∨zfB K x y H Q
theorem z0v:OpR X (Qc .Add) (zfC X.K):=op_add.or (op_add_str.or (op_catT0.or (op_catT.or zes)))
theorem z0P {K:W3}:Op2 (zfC K) pAdd:=by
 intro c σ δ H x y d e s Q k rx ry hp q
 cases d <;> cases e <;> first
  | (simp [pAdd] at hp; done)
  | skip
 ·rename_i i j
  simp only [pAdd,W9] at hp
  subst hp
  exact .inl ⟨i,j,rx.int,ry.int,q _ H (.refl k) (.int _)⟩
 ·rename_i u w
  simp only [pAdd] at hp
  split at hp
  ·rename_i hz
   simp only [W9] at hp
   subst hp
   refine .inr (.inl ⟨toS u,toS w,rx.str,ry.str,by rw [z2j,z2j]; exact hz,?_⟩)
   rw [zdO]
   exact q _ H (.refl k) (.str _)
  ·cases hp
 ·rename_i us ws
  simp only [pAdd] at hp
  split at hp
  ·rename_i hz
   simp only [W9] at hp
   subst hp
   obtain ⟨a,vs,ea,ha,ra⟩:=rx.tup
   obtain ⟨b,zs,eb,hb,rb⟩:=ry.tup
   cases vs with
   | nil =>
    have:us=[]:=by have:=ra.1; simpa using this.symm
    subst this
    refine .inr (.inr (.inl ⟨a,b,zs,ea,eb,.of ha,.of hb,?_⟩))
    rw [eb] at ry
    rcases ry with ry | ⟨_,_,ry⟩
    ·exact q _ H (.refl k) ry
    ·exact ry.elim
   | cons v0 vr =>
    refine .inr (.inr (.inr (.inl ⟨a,b,_,zs,ea,eb,.of ha,.of hb,by simp,by rw [ra.1,rb.1]; exact hz,fun e0=>?_,fun _ p hp=>?_⟩)))
    ·subst e0
     have:ws=[]:=by have:=rb.1; simpa using this.symm
     subst this
     rw [ea] at rx
     rcases rx with rx | ⟨_,_,rx⟩
     ·rw [WP] at q
      exact q _ H (.refl k) rx
     ·exact rx.elim
    ·exact q _ _ (.alloc k hp _) (RepS.newT k (ra.append rb) hp)
  ·cases hp
 ·rename_i us ws
  simp only [pAdd] at hp
  split at hp
  ·rename_i hz
   simp only [W9] at hp
   subst hp
   obtain ⟨a,vs,ea,ha,ra⟩:=rx.lst
   obtain ⟨b,zs,eb,hb,rb⟩:=ry.lst
   exact .inr (.inr (.inr (.inr ⟨a,b,vs,zs,ea,eb,.inl ha,.inl hb,by rw [ra.1,rb.1]; exact hz,fun p hp=>q _ _ (.alloc k hp _) (RepS.newL k (ra.append rb) hp)⟩)))
  ·cases hp
def pII (C:Int→Int→Bool) (g:Int→Int→D):D→D→Option S
 | .int i,.int j=>if C i j then some (.pure (g i j)) else none
 | _,_=>none
theorem zbn (hC:∀ i j,C' i j=true→C i j) (hg:∀ i j H O,Rep H O (g i j) (g' i j)):Op2 (rI C g) (pII C' g'):=by
 intro c σ δ H x y d e s Q k rx ry hp q
 cases d <;> cases e <;> first
  | (simp [pII] at hp; done)
  | skip
 rename_i i j
 simp only [pII] at hp
 split at hp
 ·rename_i hc
  simp only [W9] at hp
  subst hp
  exact ⟨i,j,rx.int,ry.int,hC i j hc,q _ H (.refl k) (hg i j H _)⟩
 ·cases hp
theorem zg4 (hg:∀ i j H O,Rep H O (g i j) (g' i j)):Op2 (rI0 g) (pII (fun _ _=>true) g'):=by
 intro c σ δ H x y d e s Q k rx ry hp q
 cases d <;> cases e <;> first
  | (simp [pII] at hp; done)
  | skip
 rename_i i j
 simp only [pII,if_true,W9] at hp
 subst hp
 exact ⟨i,j,rx.int,ry.int,q _ H (.refl k) (hg i j H _)⟩
def pSub:=pII (fun _ _=>true) fun i j=>.int (i - j)
theorem z3O:Op2 (rI0 fun i j=>V.int (i - j)) pSub:=zg4 fun _ _ _ _=>.int _
def cMul (i j:Int):Bool:=(decide (-(2 ^ 64) < i) && decide (i < 2 ^ 64)) || (decide (-(2 ^ 64) < j) && decide (j < 2 ^ 64))
def pMul:=pII cMul fun i j=>.int (i * j)
theorem zg2:Op2 (rI CMul fun i j=>V.int (i * j)) pMul:=zbn (fun i j h=>by
 unfold cMul at h
 simp only [Bool.or_eq_true,Wk,decide_eq_true_eq] at h
 exact h) fun _ _ _ _=>.int _
def cDiv (_ j:Int):Bool:=decide (0 < j) && decide (j < 1073741824)
def pDiv:=pII cDiv fun i j=>.int (i / j)
theorem z5R:Op2 (rI CDiv fun i j=>V.int (i / j)) pDiv:=zbn (fun i j h=>by
 unfold cDiv at h
 simp only [Wk,decide_eq_true_eq] at h
 exact h) fun _ _ _ _=>.int _
def pMod:=pII (fun _ j=>decide (0 < j)) fun i j=>.int (i % j)
theorem z5Q:Op2 (rI (fun _ j=>0 < j) fun i j=>V.int (i % j)) pMod:=zbn (fun i j h=>by simpa using h) fun _ _ _ _=>.int _
def cPow (i j:Int):Bool:=decide (0≤j) && decide (j≤1000000) && decide (i.natAbs < 2 ^ 64)
def pPow:=pII cPow fun i j=>.int (i ^ j.toNat)
theorem z55:Op2 (rI CPow fun i j=>V.int (i ^ j.toNat)) pPow:=zbn (fun i j h=>by
 unfold cPow at h
 simp only [Wk,decide_eq_true_eq] at h
 exact ⟨h.1.1,h.1.2,h.2⟩) fun _ _ _ _=>.int _
def pEq (d e:D):Option S:=if flat 50 d && flat 50 e then some (.pure (.bl (eqD d e))) else none
def pNe (d e:D):Option S:=if flat 50 d && flat 50 e then some (.pure (.bl (!eqD d e))) else none
theorem z46:Op2 rEqD pEq:=by
 intro c σ δ H x y d e s Q k rx ry hp q
 unfold pEq at hp
 split at hp
 ·rename_i hf
  rw [Wk] at hf
  simp only [W9] at hp
  subst hp
  exact ⟨d,e,rx.un,ry.un,hf.1,hf.2,q _ H (.refl k) (.bl _)⟩
 ·cases hp
theorem z7O:Op2 rNeD pNe:=by
 intro c σ δ H x y d e s Q k rx ry hp q
 unfold pNe at hp
 split at hp
 ·rename_i hf
  rw [Wk] at hf
  simp only [W9] at hp
  subst hp
  exact ⟨d,e,rx.un,ry.un,hf.1,hf.2,q _ H (.refl k) (.bl _)⟩
 ·cases hp
def pCmp (f:Int→Int→Bool) (g:Tx→Tx→Bool):D→D→Option S
 | .int i,.int j=>some (.pure (.bl (f i j)))
 | .str x,.str y=>some (.pure (.bl (g x y)))
 | _,_=>none
def rCmp (f:Int→Int→Bool) (g:List Nat→List Nat→Bool):R2:=fun x y H Q=>rI0 (fun i j=>V.bl (f i j)) x y H Q∨∃ i j,x = .str i∧y = .str j∧Q (.bl (g i.cps.toList j.cps.toList)) H
theorem z4y:Op2 (rCmp f g) (pCmp f g):=by
 intro c σ δ H x y d e s Q k rx ry hp q
 cases d <;> cases e <;> first
  | (simp [pCmp] at hp; done)
  | skip
 ·rename_i i j
  simp only [pCmp,W9] at hp
  subst hp
  exact .inl ⟨i,j,rx.int,ry.int,q _ H (.refl k) (.bl _)⟩
 ·rename_i i j
  simp only [pCmp,W9] at hp
  subst hp
  refine .inr ⟨toS i,toS j,rx.str,ry.str,?_⟩
  rw [z8h,z8h]
  exact q _ H (.refl k) (.bl _)
theorem z8B {X:Cx} {op:CmpOp} {g:List Nat→List Nat→Bool} (rule:∀ (i j:Str) (t u:Tok) (Q:Value→W5→Prop) (s:W5),Q (.bool (g i.cps.toList j.cps.toList)) s→We (model X.prog X.w) X.A (Wz op (.str i t) (.str j u)) Q X.xe s) :
  OpR X (Wz op) (fun x y H Q=>∃ i j,x = .str i∧y = .str j∧Q (.bl (g i.cps.toList j.cps.toList)) H):=by
 intro pins s σ H x y v u Q I rx ry h
 obtain ⟨i,j,rfl,rfl,q⟩:=h
 obtain ⟨t,rfl⟩:=rx
 obtain ⟨t',rfl⟩:=ry
 exact rule i j t t' _ s ⟨.bl _,H,I,rfl,q⟩
def pLt:=pCmp (fun i j=>decide (i < j)) fun x y=>decide (x < y)
theorem z9m:OpR X (Wz .Lt) (rCmp (fun i j=>decide (i < j)) fun x y=>decide (x < y)):=op_lt.or zbj
theorem zcQ:Op2 (rCmp (fun i j=>decide (i < j)) fun x y=>decide (x < y)) pLt:=z4y
def pIx:D→D→Option S
 | .lst ds,.int i=>(atI ds i).map .pure
 | .tup ds,.int i=>(atI ds i).map .pure
 | .str x,.int i=>if x.length≤W6 then (atI x i).map fun n=>.pure (.str [n]) else none
 | _,_=>none
theorem z9a (r:Reps H O vs ds) (h:atI ds i=some d):∃ v,atI vs i=some v∧Rep H O v d:=by
 unfold atI at h ⊢
 rw [r.1]
 cases e:ixN ds.length i with
 | none=>rw [e] at h; cases h
 | some j =>
  rw [e] at h
  exact r.get h
theorem z0q {K:W3}:Op2 (rIx K) pIx:=by
 intro c σ δ H x y d e s Q k rx ry hp q
 cases d <;> cases e <;> first
  | (simp [pIx] at hp; done)
  | skip
 ·rename_i z i
  simp only [pIx] at hp
  split at hp
  ·rename_i hz
   cases e1:atI z i with
   | none=>rw [e1] at hp; cases hp
   | some n =>
    rw [e1] at hp
    simp only [WL,W9] at hp
    subst hp
    refine .inr (.inr ⟨toS z,i,n,rx.str,ry.int,z6t hz,by rw [z8h]; exact e1,?_⟩)
    exact q (.str (toS [n])) H (.refl k) (.str [n])
  ·cases hp
 ·rename_i ds i
  simp only [pIx] at hp
  cases e1:atI ds i with
  | none=>rw [e1] at hp; cases hp
  | some n =>
   rw [e1] at hp
   simp only [WL,W9] at hp
   subst hp
   obtain ⟨a,vs,ea,ha,ra⟩:=rx.tup
   obtain ⟨v,e2,r2⟩:=z9a ra e1
   exact .inr (.inl ⟨a,vs,i,v,ea,ry.int,.of ha,e2,q v H (.refl k) r2⟩)
 ·rename_i ds i
  simp only [pIx] at hp
  cases e1:atI ds i with
  | none=>rw [e1] at hp; cases hp
  | some n =>
   rw [e1] at hp
   simp only [WL,W9] at hp
   subst hp
   obtain ⟨a,vs,ea,ha,ra⟩:=rx.lst
   obtain ⟨v,e2,r2⟩:=z9a ra e1
   exact .inl ⟨a,vs,i,v,ea,ry.int,.inl ha,e2,q v H (.refl k) r2⟩
def pLe:=pCmp (fun i j=>decide (i≤j)) fun x y=>!decide (y < x)
def pGt:=pCmp (fun i j=>decide (j < i)) fun x y=>decide (y < x)
def pGe:=pCmp (fun i j=>decide (j≤i)) fun x y=>!decide (x < y)
theorem zbk:OpR X (Wz .LtE) (rCmp (fun i j=>decide (i≤j)) fun x y=>!decide (y < x)):=op_le.or (z8B (g:=fun x y=>!decide (y < x)) fun _ _ _ _ _ _ h=>PySem.P.le_str h)
theorem z9n:OpR X (Wz .Gt) (rCmp (fun i j=>decide (j < i)) fun x y=>decide (y < x)):=op_gt.or (z8B (g:=fun x y=>decide (y < x)) fun _ _ _ _ _ _ h=>PySem.P.gt_str h)
theorem zg0:OpR X (Wz .GtE) (rCmp (fun i j=>decide (j≤i)) fun x y=>!decide (x < y)):=op_ge.or (z8B (g:=fun x y=>!decide (x < y)) fun _ _ _ _ _ _ h=>PySem.P.ge_str h)
abbrev DA:=Dl→Rs (List D)
def tAD (c:Fc) (f:DA):TA:=fun σ H Q=>∃ δ,Ok c σ δ H∧post c (f δ) fun ds δ'=>∀ vs H',Aft c σ δ H σ δ' H'→Reps H' (Av c σ δ') vs ds→Q vs H'
structure SA (X:Cx) (c:Fc) (es:List Expr) (f:DA):Prop where
 pa:PA X es (tAD c f)
 len:∀ δ ds δ',f δ = .ok ds δ'→ds.length=es.length
theorem PA.weak (h:PA X es t) (w:∀ σ H Q,t' σ H Q→t σ H Q):PA X es t':=fun pos pins s σ H Q I q=>h pos pins s σ H Q I (w σ H Q q)
def aNil:DA:=fun δ=>.ok [] δ
def z0c (f:DE) (g:DA):DA:=fun δ=>(f δ).bind fun x δ1=>(g δ1).bind fun xs δ2=>.ok (x.d :: xs) δ2
section
variable {X:Cx} {c:Fc} {e:Expr} {es:List Expr} {f:DE} {g:DA} {pos:Pos}
theorem z0J:SA X c [] aNil:=⟨PA.weak z2d fun σ H Q ⟨δ,k,q⟩=>q [] H (.refl k) .nil,fun δ ds δ' h=>by cases h; rfl⟩
theorem zaN (ha:SE X c e f) (hr:SA X c es g) (hs:W7 (e :: es) X.env=(false,eval e X.env) :: W7 es X.env:=by rfl):SA X c (e :: es) (z0c f g):=by
 refine ⟨PA.weak (z0U ha hr.pa hs) fun σ H Q ⟨δ,k,q⟩=>?_,fun δ ds δ' h=>?_⟩
 ·unfold z0c at q
  rw [z08] at q
  refine ⟨δ,k,z02 q fun x δ1 q1 v H1 a1 r1=>⟨δ1,a1.ok,?_⟩⟩
  rw [z08] at q1
  exact z02 q1 fun xs δ2 q2 vs H2 a2 r2=>q2 (v :: vs) H2 (a1.trans a2) (.cons (Rep.aft r1.rep a2) r2)
 ·unfold z0c at h
  cases h1:f δ with
  | ok x δ1 =>
   rw [h1] at h
   cases h2:g δ1 with
   | ok xs δ2 =>
    simp only [Rs.bind,h2] at h
    cases h
    simp [hr.len _ _ _ h2]
   | exc x δx=>simp only [Rs.bind,h2] at h; cases h
   | stuck=>simp only [Rs.bind,h2] at h; cases h
  | exc x δx=>rw [h1] at h; cases h
  | stuck=>rw [h1] at h; cases h
def eTup (f:DA):DE:=fun δ=>(f δ).bind fun ds δ'=>.ok (.pure (.tup ds)) δ'
def eLst (f:DA):DE:=fun δ=>(f δ).bind fun ds δ'=>.ok (.own (.lst ds)) δ'
theorem z6w (h:n≤1000):n≤W6:=Nat.le_of_lt (zaF h)
theorem z7E (h:post c r k):post c r fun a δ=>r = .ok a δ∧k a δ:=by
 cases r with
 | ok a δ=>exact ⟨rfl,h⟩
 | exc x δx=>exact h
 | stuck=>exact h
theorem z1U {x1} (h:SA X c es g) (hz:es.length≤1000:=by decide):SE X c (.Tuple es x1 pos) (eTup g):=PE.weak (zfP h.pa) fun σ H Q ⟨δ,k,q⟩=>by
 unfold eTup at q
 rw [z08] at q
 refine ⟨δ,k,z02 (z7E q) fun ds δ1 ⟨e1,q1⟩ vs H1 a1 r1=>?_⟩
 have hl:=h.len _ _ _ e1
 exact ⟨by rw [r1.1,hl]; exact z6w hz,fun p hp=>q1 _ _ (a1.trans (.alloc a1.ok hp _)) (RepS.back (RepS.newT a1.ok r1 hp) a1)⟩
theorem z1z (h:SA X c es g) (hz:es.length≤1000:=by decide):SE X c (.List es pos) (eLst g):=PE.weak (zfV h.pa) fun σ H Q ⟨δ,k,q⟩=>by
 unfold eLst at q
 rw [z08] at q
 refine ⟨δ,k,z02 (z7E q) fun ds δ1 ⟨e1,q1⟩ vs H1 a1 r1=>?_⟩
 have hl:=h.len _ _ _ e1
 exact ⟨by rw [r1.1,hl]; exact z6w hz,fun p hp=>q1 _ _ (a1.trans (.alloc a1.ok hp _)) (RepS.back (RepS.newL a1.ok r1 hp) a1)⟩
end
def p1 (p:D→Option S) (x:D) (δ:Dl):Rs S:=match p x with
 | some s=>.ok s δ
 | none=>.stuck
def eC1 (p:D→Option S) (fb:BE):DE:=fun δ=>(fb δ).bind fun x δ1=>p1 p x δ1
def Op1 (r:V→Hp→VK→Prop) (p:D→Option S):Prop:=∀ (c:Fc) (σ:St) (δ:Dl) (H:Hp) (x:V) (d:D) (s:S) (Q:VK),Ok c σ δ H→RepB c σ δ H x d→p d=some s →
 (∀ v H',Aft c σ δ H σ δ H'→RepS c σ δ H H' v s→Q v H')→r x H Q
section
variable {X:Cx} {c:Fc} {e:Expr} {fb:BE} {r:V→Hp→VK→Prop} {p:D→Option S} {x:Str} {id T:String} {pp pos:Pos}
theorem z8A (hp:Op1 r p) (k:Ok c σ δ H) (rx:RepB c σ δ H v d)
  (h:post c (p1 p d δ) fun s δ'=>∀ v H',Aft c σ δ H σ δ' H'→RepS c σ δ' H H' v s→Q v H'):r v H Q:=by
 unfold p1 at h
 cases e1:p d with
 | none=>rw [e1] at h; exact h.elim
 | some s=>rw [e1] at h; exact hp c σ δ H v d s Q k rx e1 h
theorem z3Q (hp:Op1 r p) (h:tD c (eC1 p fb) σ H Q):tUn r (tB c fb) σ H Q:=by
 obtain ⟨δ,k,q⟩:=h
 unfold eC1 at q
 rw [z08] at q
 exact ⟨δ,k,z02 q fun y δ1 q1 v H1 a1 r1=>z8A hp a1.ok r1 (z02 q1 fun s δ2 q2 w H2 a2 r2=>q2 w H2 (a1.trans a2) (RepS.back r2 a1))⟩
theorem z98 (hc:CallR X (.builtin id) rl) (hl:∀ v H Q,r v H Q→rl [v] H Q) (hp:Op1 r p) (hg:Gl X x) (hm:X.mg x=none) (hv:Q6 x=some (.builtin id)) (he:SB X c e fb)
  (hn:x≠"__name__":=by decide) (hdb:(x == ("__debug__" : Str))=false:=by decide) (hs:W7 [e] X.env=(false,eval e X.env) :: W7 [] X.env:=by rfl) (hpl:(WU pos (W7 [] X.env)).any (·.1)=false:=by rfl) :
  SE X c (.Call (.Name x pp) [e] [] pos) (eC1 p fb):=PE.weak (z3D hc hg hm hv (z0U he z2d hs) hn hdb hs hpl) fun σ H Q h=>by
 obtain ⟨δ,k,q⟩:=z3Q hp h
 exact ⟨δ,k,z02 q fun y δ1 q1 v H1 a1 r1=>hl _ _ _ (q1 v H1 a1 r1)⟩
theorem z5B (hc:CallR X (.type T) rl) (hl:∀ v H Q,r v H Q→rl [v] H Q) (hp:Op1 r p) (hg:Gl X x) (hm:X.mg x=none) (hv:Q6 x=some (.type T)) (he:SB X c e fb)
  (hn:x≠"__name__":=by decide) (hdb:(x == ("__debug__" : Str))=false:=by decide) (hs:W7 [e] X.env=(false,eval e X.env) :: W7 [] X.env:=by rfl) (hpl:(WU pos (W7 [] X.env)).any (·.1)=false:=by rfl) :
  SE X c (.Call (.Name x pp) [e] [] pos) (eC1 p fb):=PE.weak (zbc hc hg hm hv (z0U he z2d hs) hn hdb hs hpl) fun σ H Q h=>by
 obtain ⟨δ,k,q⟩:=z3Q hp h
 exact ⟨δ,k,z02 q fun y δ1 q1 v H1 a1 r1=>hl _ _ _ (q1 v H1 a1 r1)⟩
def pLen:D→Option S
 | .lst ds=>some (.pure (.int ds.length))
 | .tup ds=>some (.pure (.int ds.length))
 | .str z=>if z.length≤W6 then some (.pure (.int z.length)) else none
 | .dct ds=>some (.pure (.int ds.length))
 | _=>none
def rLen (K:W3):V→Hp→VK→Prop:=fun v H Q=>((∃ p ys,v = .ref p∧(SqL K H p ys∨SqT K H p ys)∧Q (.int ys.length) H)∨∃ z,v = .str z∧z.length≤W6∧Q (.int z.length) H)∨∃ a kvs,v=V.ref a∧H a=some (.dK kvs)∧Q (.int kvs.length) H
theorem zg6 {K:W3}:Op1 (rLen K) pLen:=by
 intro c σ δ H x d s Q k rx hp q
 cases d with
 | lst ds =>
  simp only [pLen,W9] at hp
  subst hp
  obtain ⟨a,vs,ea,ha,ra⟩:=rx.lst
  exact .inl (.inl ⟨a,vs,ea,.inl (.inl ha),by rw [ra.1]; exact q _ H (.refl k) (.int _)⟩)
 | tup ds =>
  simp only [pLen,W9] at hp
  subst hp
  obtain ⟨a,vs,ea,ha,ra⟩:=rx.tup
  exact .inl (.inl ⟨a,vs,ea,.inr (.of ha),by rw [ra.1]; exact q _ H (.refl k) (.int _)⟩)
 | str z =>
  simp only [pLen] at hp
  split at hp
  ·rename_i hz
   simp only [W9] at hp
   subst hp
   exact .inl (.inr ⟨toS z,rx.str,z6t hz,by rw [z2j]; exact q _ H (.refl k) (.int _)⟩)
  ·cases hp
 | dct ds =>
  simp only [pLen,W9] at hp
  subst hp
  obtain ⟨a,ws,ea,ha,h1,h2⟩:=rx.dct
  have hl:ws.length=ds.length:=by have:=congrArg Jd h1; simpa using this
  exact .inr ⟨a,ws,ea,ha,by rw [hl]; exact q _ H (.refl k) (.int _)⟩
 | _=>simp [pLen] at hp
theorem z3L (hg:Gl X "len") (hm:X.mg "len" = none) (he:SB X c e fb) (hs:W7 [e] X.env=(false,eval e X.env) :: W7 [] X.env:=by rfl):SE X c (.Call (.Name "len" pp) [e] [] pos) (eC1 pLen fb) :=
 z98 ((call_len_seq.or z89).or zc4) (fun v H Q h=>by
  rcases h with (⟨p,ys,e,h⟩ | ⟨z,e,h⟩) | ⟨a,kvs,e,h⟩
  ·exact .inl (.inl ⟨p,ys,by rw [e],h⟩)
  ·exact .inl (.inr ⟨z,by rw [e],h⟩)
  ·exact .inr ⟨a,kvs,by rw [e],h⟩) (zg6 (K:=X.K)) hg hm PySem.boot_len he (by decide) (by decide) hs
def z1k:D→Option S
 | .lst ds=>some (.pure (.tup ds))
 | .tup ds=>some (.pure (.tup ds))
 | _=>none
def zfv (K:W3):V→Hp→VK→Prop:=fun v H Q=>∃ p ys,v = .ref p∧((SqL K H p ys∧∀ l,H l=none→Q (.ref l) (upd H l (.tup ys)))∨(SqT K H p ys∧Q (.ref p) H))
theorem zcS {K:W3}:Op1 (zfv K) z1k:=by
 intro c σ δ H x d s Q k rx hp q
 cases d with
 | lst ds =>
  simp only [z1k,W9] at hp
  subst hp
  obtain ⟨a,vs,ea,ha,ra⟩:=rx.lst
  exact ⟨a,vs,ea,.inl ⟨.inl ha,fun l hl=>q _ _ (.alloc k hl _) (RepS.newT k ra hl)⟩⟩
 | tup ds =>
  simp only [z1k,W9] at hp
  subst hp
  obtain ⟨a,vs,ea,ha,ra⟩:=rx.tup
  refine ⟨a,vs,ea,.inr ⟨.of ha,?_⟩⟩
  rw [ea] at rx
  rcases rx with rx | ⟨_,_,rx⟩
  ·exact q _ H (.refl k) rx
  ·exact rx.elim
 | _=>simp [z1k] at hp
theorem z2V (hg:Gl X "tuple") (hm:X.mg "tuple" = none) (he:SB X c e fb) (hs:W7 [e] X.env=(false,eval e X.env) :: W7 [] X.env:=by rfl):SE X c (.Call (.Name "tuple" pp) [e] [] pos) (eC1 z1k fb) :=
 z5B z7i (fun v H Q ⟨p,ys,e,h⟩=>⟨p,ys,by rw [e],h⟩) (zcS (K:=X.K)) hg hm PyProof.Rows.boot_tuple he (by decide) (by decide) hs
def pInt:D→Option S
 | .int i=>some (.pure (.int i))
 | .bl b=>some (.pure (.int (if b then 1 else 0)))
 | _=>none
theorem z5z (hg:Gl X "int") (hm:X.mg "int" = none) (he:SB X c e fb) (hs:W7 [e] X.env=(false,eval e X.env) :: W7 [] X.env:=by rfl):SE X c (.Call (.Name "int" pp) [e] [] pos) (eC1 pInt fb) :=
 z5B (r:=fun v H Q=>(∃ i,v = .int i∧Q (.int i) H)∨∃ k,v = .bl k∧Q (.int (if k then 1 else 0)) H) zc5 (fun v H Q h=>by
  rcases h with ⟨i,e,q⟩ | ⟨k,e,q⟩
  ·exact .inl ⟨i,by rw [e],q⟩
  ·exact .inr ⟨k,by rw [e],q⟩) (fun c σ δ H x d s Q k rx hp q=>by
  cases d with
  | int i =>
   simp only [pInt,W9] at hp
   subst hp
   exact .inl ⟨i,rx.int,q _ H (.refl k) (.int _)⟩
  | bl b =>
   simp only [pInt,W9] at hp
   subst hp
   exact .inr ⟨b,rx.bl,q _ H (.refl k) (.int _)⟩
  | _=>simp [pInt] at hp) hg hm PyProof.Rows.boot_int he (by decide) (by decide) hs
def z4I:List D→Option (List Bool)
 | []=>some []
 | .bl b :: r=>(z4I r).map (b :: ·)
 | _ :: _=>none
def z2N:List D→Option (List Tx)
 | []=>some []
 | .str x :: r=>(z2N r).map (x :: ·)
 | _ :: _=>none
theorem z3C:∀ {ds:List D} {vs:List V} {bs:List Bool},z4I ds=some bs→Reps H O vs ds→vs=bs.map V.bl
 | [],vs,bs,h,r=>by
  simp only [z4I,W9] at h
  subst h
  have:=r.1
  simpa using this
 | d :: ds,[],bs,h,r=>by have:=r.1; simp at this
 | d :: ds,v :: vs,bs,h,r=>by
  cases d with
  | bl b =>
   simp only [z4I] at h
   cases e:z4I ds with
   | none=>rw [e] at h; cases h
   | some bs' =>
    rw [e] at h
    simp only [WL,W9] at h
    subst h
    have:=r.head
    cases this
    rw [z3C e r.tail]
    rfl
  | _=>simp [z4I] at h
theorem z2R:∀ {ds:List D} {vs:List V} {bs:List Tx},z2N ds=some bs→Reps H O vs ds→vs=bs.map fun z=>V.str (toS z)
 | [],vs,bs,h,r=>by
  simp only [z2N,W9] at h
  subst h
  have:=r.1
  simpa using this
 | d :: ds,[],bs,h,r=>by have:=r.1; simp at this
 | d :: ds,v :: vs,bs,h,r=>by
  cases d with
  | str b =>
   simp only [z2N] at h
   cases e:z2N ds with
   | none=>rw [e] at h; cases h
   | some bs' =>
    rw [e] at h
    simp only [WL,W9] at h
    subst h
    have:=r.head
    cases this
    rw [z2R e r.tail]
    rfl
  | _=>simp [z2N] at h
def pAll:D→Option S
 | .lst ds=>(z4I ds).map fun bs=>.pure (.bl (bs.all (fun b=>b)))
 | _=>none
theorem zdg:Q6 "all" = some (.builtin "all"):=by decide +kernel
theorem zfj (hc:X.calm=true) (hg:Gl X "all") (hm:X.mg "all" = none) (he:SB X c e fb) (hs:W7 [e] X.env=(false,eval e X.env) :: W7 [] X.env:=by rfl):SE X c (.Call (.Name "all" pp) [e] [] pos) (eC1 pAll fb) :=
 z98 (r:=fun v H Q=>∃ (a:Addr) (bs:List Bool),v = .ref a∧SqL X.K H a (bs.map V.bl)∧Q (.bl (bs.all (fun b=>b))) H) (zdf hc) (fun v H Q ⟨a,bs,e,h⟩=>⟨a,bs,by rw [e],h⟩) (fun c σ δ H x d s Q k rx hp q=>by
  cases d with
  | lst ds =>
   simp only [pAll] at hp
   cases e:z4I ds with
   | none=>rw [e] at hp; cases hp
   | some bs =>
    rw [e] at hp
    simp only [WL,W9] at hp
    subst hp
    obtain ⟨a,vs,ea,ha,ra⟩:=rx.lst
    have:=z3C e ra
    subst this
    exact ⟨a,bs,ea,.inl ha,q _ H (.refl k) (.bl _)⟩
  | _=>simp [pAll] at hp) hg hm zdg he (by decide) (by decide) hs
def pMax:D→D→Option S
 | .int i,.int j=>some (.pure (.int (if j > i then j else i)))
 | _,_=>none
def eMax (f g:DE):DE:=fun δ=>(f δ).bind fun x δ1=>(g δ1).bind fun y δ2=>p2 pMax x.d y.d δ2
theorem zfh {a b:Expr} {f g:DE} (hc:X.calm=true) (hg:Gl X "max") (hm:X.mg "max" = none) (ha:SE X c a f) (hb:SE X c b g) (hs:W7 [a,b] X.env=(false,eval a X.env) :: W7 [b] X.env:=by rfl)
  (hs2:W7 [b] X.env=(false,eval b X.env) :: W7 [] X.env:=by rfl) (hpl:(WU pos (W7 [b] X.env)).any (·.1)=false:=by rfl):SE X c (.Call (.Name "max" pp) [a,b] [] pos) (eMax f g) :=
 PE.weak (z3D (zc3 hc) hg hm PyProof.Rows.boot_max (z0U ha (z0U hb z2d hs2) hs) (by decide) (by decide) hs hpl) fun σ H Q ⟨δ,k,q⟩=>by
  unfold eMax at q
  rw [z08] at q
  refine ⟨δ,k,z02 q fun x δ1 q1 v H1 a1 r1=>⟨δ1,a1.ok,?_⟩⟩
  rw [z08] at q1
  refine z02 q1 fun y δ2 q2 u H2 a2 r2=>?_
  unfold p2 at q2
  have hx:RepB c σ δ2 H2 v x.d:=.inl (Rep.aft r1.rep a2)
  have hy:=r2.b
  generalize x.d=dx at q2 hx
  generalize y.d=dy at q2 hy
  cases dx <;> cases dy <;> first
   | exact q2.elim
   | skip
  rename_i i j
  exact ⟨i,j,by rw [hx.int,hy.int],q2 _ H2 (a1.trans a2) (.int _)⟩
def isTy (T:String):D→Option Bool
 | .non=>some (T == "NoneType")
 | .bl _=>some (T == "bool" || T == "int")
 | .int _=>some (T == "int")
 | .str _=>some (T == "str")
 | .tup _=>some (T == "tuple")
 | .lst _=>some (T == "list")
 | .dct _=>some (T == "dict")
 | .exc _=>none
structure TyK (K:W3) (T:String):Prop where
 non:Qq K (.type "NoneType") (.type T)=some (T == "NoneType")
 bl:Qq K (.type "bool") (.type T)=some (T == "bool" || T == "int")
 int:Qq K (.type "int") (.type T)=some (T == "int")
 str:Qq K (.type "str") (.type T)=some (T == "str")
 tup:Qq K (.type "tuple") (.type T)=some (T == "tuple")
 lst:Qq K (.type "list") (.type T)=some (T == "list")
 dct:Qq K (.type "dict") (.type T)=some (T == "dict")
def eIsi (T:String) (fb:BE):DE:=fun δ=>(fb δ).bind fun d δ'=>match isTy T d with
 | some b=>.ok (.pure (.bl b)) δ'
 | none=>.stuck
theorem zd2 (ty:TyK X.K T) (I:Inv X pins σ H s) (ru:RelV v u) (r:Rep H NoO v d) (e:isTy T d=some b) (q:Q (.bl b) H) :
  We (model X.prog X.w) X.A (call (.builtin "isinstance") [u,.type T]) (EP X pins σ Q) X.xe s:=by
 have fin:∀ tk,EP X pins σ Q (.bool b) { s with toks:=tk }:=fun tk=>⟨.bl b,H,I.tok tk,rfl,q⟩
 cases r with
 | non=>exact z27 I ru .non (ty.non.trans e) fin
 | bl x=>exact z27 I ru (.bl x) (ty.bl.trans e) fin
 | int x=>exact z27 I ru (.int x) (ty.int.trans e) fin
 | str x=>exact z27 I ru (.str _) (ty.str.trans e) fin
 | tup _ h2 _ _=>exact z27 I ru (.tup h2) (ty.tup.trans e) fin
 | lst _ h2 _ _ =>
  rcases h2 with h2 | ⟨o,h2⟩
  ·exact z27 I ru (.lst h2) (ty.lst.trans e) fin
  ·exact z27 I ru (.frz h2) (ty.lst.trans e) fin
 | dct _ h2 _ _=>exact z27 I ru (.dK h2) (ty.dct.trans e) fin
 | exc _ _=>cases e
theorem zde (ty:TyK X.K T):CallR X (.builtin "isinstance") (fun xs H Q=>∃ v d b,xs=[v,.ty T]∧Rep H NoO v d∧isTy T d=some b∧Q (.bl b) H):=by
 intro pins s σ H xs us Q I r h
 obtain ⟨v,d,b,rfl,rp,e,q⟩:=h
 obtain ⟨u,w',rfl,r1,r2⟩:=zcg r
 cases r2
 exact zd2 ty I r1 rp e q
theorem z7s {y:Str} {py:Pos} (ty:TyK X.K T) (hg:Gl X "isinstance") (hm:X.mg "isinstance" = none) (hgy:Gl X y) (hmy:X.mg y=none) (hvy:Q6 y=some (.type T)) (he:SB X c e fb)
  (hny:y≠"__name__":=by decide) (hdy:(y == ("__debug__" : Str))=false:=by decide)
  (hs:W7 [e,.Name y py] X.env=(false,eval e X.env) :: W7 [.Name y py] X.env:=by rfl) (hpl:(WU pos (W7 [.Name y py] X.env)).any (·.1)=false:=by rfl) :
  SE X c (.Call (.Name "isinstance" pp) [e,.Name y py] [] pos) (eIsi T fb) :=
 PE.weak (z3D (zde ty) hg hm PyProof.Rows.boot_isinstance (z0U he (z0U (zbd (v:=.ty T) hgy hmy hvy rfl hny hdy) z2d) hs) (by decide) (by decide) hs hpl) fun σ H Q ⟨δ,k,q⟩=>by
  unfold eIsi at q
  rw [z08] at q
  refine ⟨δ,k,z02 q fun d δ1 q1 v H1 a1 r1=>?_⟩
  cases e1:isTy T d with
  | none=>rw [e1] at q1; exact q1.elim
  | some b =>
   rw [e1] at q1
   exact ⟨v,d,b,rfl,r1.un,e1,q1 _ H1 a1 (.bl _)⟩
end
abbrev DOp:=Dl→Rs (Option Int)
def tOD (c:Fc) (f:DOp):TO:=fun σ H Q=>∃ δ,Ok c σ δ H∧post c (f δ) fun o δ'=>∀ H',Aft c σ δ H σ δ' H'→Q o H'
abbrev SO (X:Cx) (c:Fc) (e:Option Expr) (f:DOp):Prop:=PO X e (tOD c f)
theorem PO.weak (h:PO X e t) (w:∀ σ H Q,t' σ H Q→t σ H Q):PO X e t':=fun pins s σ H Q I q=>h pins s σ H Q I (w σ H Q q)
def z4x:DOp:=fun δ=>.ok none δ
def z18 (f:DE):DOp:=fun δ=>(f δ).bind fun r δ'=>match r with
 | .pure (.int i)=>.ok (some i) δ'
 | _=>.stuck
section
variable {X:Cx} {c:Fc} {e:Expr} {f:DE} {fb:BE} {fl fh:DOp} {lo hi:Option Expr} {pos p2:Pos}
theorem z3S:SO X c none z4x:=PO.weak zek fun σ H Q ⟨δ,k,q⟩=>q H (.refl k)
theorem z1F (h:SE X c e f):SO X c (some e) (z18 f):=PO.weak (zej h) fun σ H Q ⟨δ,k,q⟩=>by
 unfold z18 at q
 rw [z08] at q
 refine ⟨δ,k,z02 q fun r δ1 q1 v H1 a1 r1=>?_⟩
 cases r with
 | own d=>exact q1.elim
 | pure d =>
  cases d <;> first | exact q1.elim | skip
  rename_i i
  cases r1
  exact ⟨i,rfl,q1 H1 a1⟩
def pSl (lo hi:Option Int):D→Option S
 | .str x=>if x.length≤W6 then some (.pure (.str (cutL x lo hi))) else none
 | .tup ds=>some (.pure (.tup (cutL ds lo hi)))
 | .lst ds=>some (.own (.lst (cutL ds lo hi)))
 | _=>none
def rSlD (K:W3):V→Option Int→Option Int→Hp→VK→Prop:=fun x lo hi H Q=>rSlS x lo hi H Q∨zfw K x lo hi H Q∨rSlL K x lo hi H Q
theorem sl_D:SlR X (rSlD X.K):=sl_str.or (sl_tup2.or zdX)
theorem zg5 {K:W3} (lo hi:Option Int):Op1 (fun x H Q=>rSlD K x lo hi H Q) (pSl lo hi):=by
 intro c σ δ H x d s Q k rx hp q
 cases d with
 | str z =>
  simp only [pSl] at hp
  split at hp
  ·rename_i hz
   simp only [W9] at hp
   subst hp
   exact .inl ⟨z,rx.str,hz,q _ H (.refl k) (.str _)⟩
  ·cases hp
 | tup ds =>
  simp only [pSl,W9] at hp
  subst hp
  obtain ⟨a,vs,ea,ha,ra⟩:=rx.tup
  refine .inr (.inl ⟨a,vs,ea,.of ha,fun hw=>?_,fun _ p hp=>?_⟩)
  ·rw [ra.1] at hw
   rw [zbW hw] at q
   rw [ea] at rx
   rcases rx with rx | ⟨_,_,rx⟩
   ·exact q _ H (.refl k) rx
   ·exact rx.elim
  ·rw [← zdI]
   exact q _ _ (.alloc k hp _) (RepS.newT k (ra.cut lo hi) hp)
 | lst ds =>
  simp only [pSl,W9] at hp
  subst hp
  obtain ⟨a,vs,ea,ha,ra⟩:=rx.lst
  refine .inr (.inr ⟨a,vs,ea,.inl ha,fun p hp=>?_⟩)
  rw [← zdI]
  exact q _ _ (.alloc k hp _) (RepS.newL k (ra.cut lo hi) hp)
 | _=>simp [pSl] at hp
def eSl (f:DE) (fl fh:DOp):DE:=fun δ=>(f δ).bind fun x δ1=>(fl δ1).bind fun l δ2=>(fh δ2).bind fun h δ3=>p1 (pSl l h) x.d δ3
theorem zfe (he:SE X c e f) (hl:SO X c lo fl) (hh:SO X c hi fh):SE X c (.Subscript e (.Slice lo hi none p2) pos) (eSl f fl fh):=PE.weak (z9i sl_D he hl hh) fun σ H Q ⟨δ,k,q⟩=>by
 unfold eSl at q
 rw [z08] at q
 refine ⟨δ,k,z02 q fun x δ1 q1 v H1 a1 r1=>⟨δ1,a1.ok,?_⟩⟩
 rw [z08] at q1
 refine z02 q1 fun l δ2 q2 H2 a2=>⟨δ2,a2.ok,?_⟩
 rw [z08] at q2
 refine z02 q2 fun h δ3 q3 H3 a3=>?_
 exact z8A (zg5 l h) a3.ok (.inl (Rep.aft r1.rep (a2.trans a3))) (z02 q3 fun s δ4 q4 w H4 a4 r4=>q4 w H4 (a1.trans (a2.trans (a3.trans a4))) (RepS.back r4 (a1.trans (a2.trans a3))))
def eSlN (i:Nat) (fl fh:DOp):DE:=fun δ=>match δ[i]? with
 | some (some _)=>(fl δ).bind fun l δ2=>(fh δ2).bind fun h δ3=>(bVar i δ3).bind fun x δ4=>p1 (pSl l h) x δ4
 | _=>.stuck
theorem zdW {i:Nat} {σ:St} {δ:Dl} {H:Hp} {v:V} {w:S} (k:Ok c σ δ H) (e:δ[i]? = some (some w)) (ev:σ[i]? = some (some v)):RepB c σ δ H v w.d:=by
 cases w with
 | pure d =>
  obtain ⟨v',e1,r⟩:=k.slot i d e
  rw [ev] at e1; cases e1
  exact .inl r
 | own d =>
  obtain ⟨a,e1,r,_⟩:=k.own i d e
  rw [ev] at e1; cases e1
  exact .inr ⟨a,rfl,r⟩
theorem zc8 (h:post c ((bVar i δ).bind g) kk):∃ w,δ[i]? = some (some w)∧post c (g w.d δ) kk:=by
 unfold bVar at h
 cases e:δ[i]? with
 | none=>rw [e] at h; exact h.elim
 | some o =>
  cases o with
  | none=>rw [e] at h; exact h.elim
  | some w=>rw [e] at h; exact ⟨w,rfl,h⟩
theorem z4o {i:Nat} (he:PE X e (tVar i)) (hl:SO X c lo fl) (hh:SO X c hi fh):SE X c (.Subscript e (.Slice lo hi none p2) pos) (eSlN i fl fh):=PE.weak (z9i sl_D he hl hh) fun σ H Q ⟨δ,k,q⟩=>by
 unfold eSlN at q
 cases e:δ[i]? with
 | none=>rw [e] at q; exact q.elim
 | some o =>
  cases o with
  | none=>rw [e] at q; exact q.elim
  | some w =>
   rw [e] at q
   obtain ⟨v,ev⟩:=z2P k e
   have q':post c ((fl δ).bind fun l δ2=>(fh δ2).bind fun h δ3=>(bVar i δ3).bind fun x δ4=>p1 (pSl l h) x δ4) fun r δ'=>∀ v H',Aft c σ δ H σ δ' H'→RepS c σ δ' H H' v r→Q v H':=q
   rw [z08] at q'
   refine ⟨v,ev,δ,k,z02 q' fun l δ2 q2 H2 a2=>⟨δ2,a2.ok,?_⟩⟩
   rw [z08] at q2
   refine z02 q2 fun h δ3 q3 H3 a3=>?_
   obtain ⟨w3,e3,q4⟩:=zc8 q3
   exact z8A (zg5 l h) a3.ok (zdW a3.ok e3 ev) (z02 q4 fun s δ4 q4 w H4 a4 r4=>q4 w H4 (a2.trans (a3.trans a4)) (RepS.back r4 (a2.trans a3)))
def pRev:D→Option S
 | .str x=>if x.length≤W6 then some (.pure (.str x.reverse)) else none
 | .lst ds=>some (.own (.lst ds.reverse))
 | _=>none
def rRev (K:W3):V→Hp→VK→Prop:=fun x H Q=>(∃ z:Tx,x = .str (toS z)∧z.length≤W6∧Q (.str (toS z.reverse)) H)∨∃ a xs,x = .ref a∧SqL K H a xs∧∀ p,H p=none→Q (.ref p) (upd H p (.lst xs.reverse))
def z5W (z:Tx):List Tx→Tx
 | []=>[]
 | [x]=>x
 | x :: y :: r=>x ++ z ++ z5W z (y :: r)
theorem z9z (z:Tx):∀ (r:List Tx) (acc:Tx),((r.map toS).foldl (fun (acc:Array Nat) p=>acc ++ (toS z).cps ++ p.cps) acc.toArray)=(match r with | []=>acc | x :: r'=>acc ++ z ++ z5W z (x :: r')).toArray
 | [],acc=>rfl
 | x :: r,acc=>by
  rw [Ww,Qn]
  have e:acc.toArray ++ (toS z).cps ++ (toS x).cps=(acc ++ z ++ x).toArray:=by simp [toS]
  rw [e,z9z z r (acc ++ z ++ x)]
  cases r with
  | nil=>simp [z5W]
  | cons y r'=>simp [z5W]
theorem zeC (z:Tx) (ts:List Tx):Txt.join (toS z) (ts.map toS)=toS (z5W z ts):=by
 show Builtin.Str.glued _ _=_
 unfold Builtin.Str.glued
 cases ts with
 | nil=>rfl
 | cons x r =>
  rw [Ww]
  show (⟨(List.foldl _ (toS x).cps (r.map toS))⟩:Str)=_
  have:=z9z z r x
  have e:(toS x).cps=x.toArray:=rfl
  rw [e,this]
  cases r with
  | nil=>rfl
  | cons y r'=>rfl
def z3m (ts:List Tx):Nat:=(ts.map (·.length)).sum
def z3k (z:Tx):D→Option S
 | .lst ds=>match z2N ds with
  | some ts=>if z3m ts + ts.length * z.length≤16777216 then some (.pure (.str (z5W z ts))) else none
  | none=>none
 | .tup ds=>match z2N ds with
  | some ts=>if z3m ts + ts.length * z.length≤16777216 then some (.pure (.str (z5W z ts))) else none
  | none=>none
 | _=>none
theorem zeu {K:W3} (z:Tx):Op1 (fun x H Q=>zcy K (.str (toS z)) [x] H Q) (z3k z):=by
 intro c σ δ H x d s Q k rx hp q
 have key:∀ (a:Addr) (vs:List V) (ds:List D),x = .ref a→(SqL K H a vs∨SqT K H a vs)→Reps H (Av c σ δ) vs ds→(match z2N ds with | some ts=>if z3m ts + ts.length * z.length≤16777216 then some (S.pure (.str (z5W z ts))) else none | none=>none)=some s→zcy K (.str (toS z)) [x] H Q:=by
  intro a vs ds ea ha ra hp
  cases e:z2N ds with
  | none=>rw [e] at hp; cases hp
  | some ts =>
   rw [e] at hp
   simp only at hp
   split at hp
   ·rename_i hz
    simp only [W9] at hp
    subst hp
    have:=z2R e ra
    subst this
    refine ⟨toS z,a,ts.map toS,rfl,by rw [ea],?_,?_,?_⟩
    ·rw [Qg]; exact ha
    ·rw [Qg,Qd,z2j]
     have:((fun x:Str=>x.length) ∘ toS)=fun x:Tx=>x.length:=funext fun x=>z2j x
     rw [this]
     exact hz
    ·rw [zeC]
     exact q _ H (.refl k) (.str _)
   ·cases hp
 cases d with
 | lst ds =>
  obtain ⟨a,vs,ea,ha,ra⟩:=rx.lst
  exact key a vs ds ea (.inl (.inl ha)) ra hp
 | tup ds =>
  obtain ⟨a,vs,ea,ha,ra⟩:=rx.tup
  exact key a vs ds ea (.inr (.of ha)) ra hp
 | _=>simp [z3k] at hp
theorem z8q {x:Str} {j} {p0 apos cpos:Pos} (z:Tx) (he:SB X c e fb) (hx:x=toS z:=by decide +kernel)
  (hbase:Qz (.Constant (.str x) j p0) "join" X.env (eval (.Constant (.str x) j p0) X.env)=eval (.Constant (.str x) j p0) X.env:=by rfl)
  (hfew:((WU cpos (W7 [e] X.env)).all (fun x=>!x.1) && (backToKw cpos (Jg [] X.env)).all (fun x=>x.1.isSome)
   && decide ([e].length + ([]:List Keyword).length + (if ([]:List Keyword).isEmpty then 0 else 1) < 30))=true:=by rfl)
  (hline:(apos.endLine == cpos.line)=true:=by rfl) (hs:W7 [e] X.env=(false,eval e X.env) :: W7 [] X.env:=by rfl) :
  SE X c (.Call (.Attribute (.Constant (.str x) j p0) "join" apos) [e] [] cpos) (eC1 (z3k z) fb):=by
 subst hx
 refine PE.weak (zcK PySem.F.plainAttrs_str PySem.F.slot_str_join PySem.F.type_str_join zey zdw (z0U he z2d hs) hbase hfew hline hs rfl) fun σ H Q h=>?_
 obtain ⟨δ,k,q⟩:=z3Q (r:=fun x H Q=>zcy X.K (.str (toS z)) [x] H Q) (zeu z) h
 refine ⟨?_,δ,k,q⟩
 show ("str" : String) = "str"
 rfl
end
inductive Fl where
 | next | ret (r:S) | brk | cont
abbrev DS:=Dl→Rs Fl
def fin (c:Fc) (D:Ends) (σ:St) (δ:Dl) (H:Hp):Fl→Prop
 | .next=>D.nx σ H
 | .ret r=>∀ v,RepS c σ δ c.H₀ H v r→D.rt v H
 | .brk=>D.bk σ H
 | .cont=>D.ct σ H
def z2z (c:Fc) (D:Ends) (σ:St) (δ:Dl) (H:Hp) (r:Rs Fl):Prop:=post c r fun fl δ'=>∀ σ' H',Aft c σ δ H σ' δ' H'→fin c D σ' δ' H' fl
def tDS (c:Fc) (f:DS):TS:=fun D σ H=>∃ δ,Ok c σ δ H∧z2z c D σ δ H (f δ)
abbrev SS (X:Cx) (c:Fc) (st:Stmt) (f:DS):Prop:=PS X st (tDS c f)
abbrev SSs (X:Cx) (c:Fc) (st:List Stmt) (f:DS):Prop:=PSs X st (tDS c f)
theorem PS.weak {X:Cx} {st:Stmt} {t t':TS} (h:PS X st t) (w:∀ D σ H,t' D σ H→t D σ H):PS X st t':=fun pins s σ H D I q=>h pins s σ H D I (w D σ H q)
theorem PSs.weak {X:Cx} {st:List Stmt} {t t':TS} (h:PSs X st t) (w:∀ D σ H,t' D σ H→t D σ H):PSs X st t':=fun pins s σ H D I q=>h pins s σ H D I (w D σ H q)
def z1n:DS:=fun δ=>.ok .next δ
def dSeq (f g:DS):DS:=fun δ=>(f δ).bind fun fl δ1=>match fl with
 | .next=>g δ1
 | .ret r=>.ok (.ret r) δ1
 | .brk=>.ok .brk δ1
 | .cont=>.ok .cont δ1
def z6q (f:DE):DS:=fun δ=>(f δ).bind fun _ δ1=>.ok .next δ1
def dRet (f:DE):DS:=fun δ=>(f δ).bind fun r δ1=>.ok (.ret r) δ1
def dIf (t:DT) (f g:DS):DS:=fun δ=>(t δ).bind fun b δ1=>if b then f δ1 else g δ1
def eRetN (np:List Nat) (i:Nat):DE:=fun δ=>match δ[i]? with
 | some (some (.own d))=>if np.contains i then .ok (.pure d) (δ.set i (some (.pure d))) else .ok (.own d) (δ.set i none)
 | some (some (.pure d))=>.ok (.pure d) δ
 | _=>.stuck
section
variable {X:Cx} {c:Fc} {st:Stmt} {sts:List Stmt} {e a:Expr} {f g:DS} {fe:DE} {t:DT} {pos pos':Pos}
theorem z1K:SSs X c [] z1n:=PSs.weak zeg fun D σ H ⟨δ,k,q⟩=>q σ H (.refl k)
theorem z03 (h1:SS X c st f) (h2:SSs X c sts g):SSs X c (st :: sts) (dSeq f g):=PSs.weak (zcC h1 h2) fun D σ H ⟨δ,k,q⟩=>by
 unfold dSeq z2z at q
 rw [z08] at q
 refine ⟨δ,k,z02 q fun fl δ1 q1 σ1 H1 a1=>?_⟩
 cases fl with
 | next=>exact ⟨δ1,a1.ok,z02 q1 fun fl2 δ2 q2 σ2 H2 a2=>q2 σ2 H2 (a1.trans a2)⟩
 | ret r=>exact q1 σ1 H1 a1
 | brk=>exact q1 σ1 H1 a1
 | cont=>exact q1 σ1 H1 a1
theorem z0f (h1:SS X c st f):SSs X c [st] f:=PSs.weak (zb1 h1) fun D σ H h=>h
theorem z0y (he:SE X c e fe):SS X c (.Return (some e) pos) (dRet fe):=PS.weak (zds he) fun D σ H ⟨δ,k,q⟩=>by
 unfold dRet z2z at q
 rw [z08] at q
 exact ⟨δ,k,z02 q fun r δ1 q1 v H1 a1 r1=>q1 σ H1 a1 v r1.home⟩
theorem z2O {b1 b2:List Stmt} (ht:ST X c e t) (h1:SSs X c b1 f) (h2:SSs X c b2 g):SS X c (.If e b1 b2 pos) (dIf t f g):=PS.weak (ps_if ht h1 h2) fun D σ H ⟨δ,k,q⟩=>by
 unfold dIf z2z at q
 rw [z08] at q
 refine ⟨δ,k,z02 q fun b δ1 q1 H1 a1=>?_⟩
 cases b with
 | true=>exact ⟨δ1,a1.ok,z02 q1 fun fl δ2 q2 σ2 H2 a2=>q2 σ2 H2 (a1.trans a2)⟩
 | false=>exact ⟨δ1,a1.ok,z02 q1 fun fl δ2 q2 σ2 H2 a2=>q2 σ2 H2 (a1.trans a2)⟩
theorem Own.of_set (h:Own (σ.set i (some v)) (δ.set i (some r)) b):Own σ δ b∨(v = .ref b∧∃ d,r = .own d):=by
 obtain ⟨j,d,e1,e2⟩:=h
 by_cases hj:i=j
 ·subst hj
  right
  rw [WF] at e1 e2
  simp at e1 e2
  obtain ⟨_,h1⟩:=e1
  obtain ⟨_,h2⟩:=e2
  exact ⟨h2,d,h1⟩
 ·rw [W8 hj] at e1 e2
  exact .inl ⟨j,d,e1,e2⟩
theorem Ok.set (x:Aft c σ₀ δ₀ H₁ σ δ H) (hr:RepS c σ δ H₁ H v r) (hp:∀ p ∈ c.pin,p.1≠i):Aft c σ₀ δ₀ H₁ (σ.set i (some v)) (δ.set i (some r)) H:=by
 have k:=x.ok
 -- all slots avoid the new address,too
 have all:∃ c':Fc,c'.H₀=c.H₀∧c'.pin=c.pin∧Ok c' σ δ H∧(∀ b,Av c (σ.set i (some v)) (δ.set i (some r)) b→Av c' σ δ b):=by
  cases r with
  | pure d =>
   refine ⟨c,rfl,rfl,k,fun b z=>?_⟩
   rcases z with z | z
   ·exact .inl z
   ·rcases z.of_set with z | ⟨_,d',e⟩
    ·exact .inr z
    ·cases e
  | own d =>
   obtain ⟨a,ea,o,n,f,k2,_⟩:=hr
   refine ⟨c.plus a,rfl,rfl,k2,fun b z=>?_⟩
   rcases z with z | z
   ·exact .inl (.inl z)
   ·rcases z.of_set with z | ⟨e,_⟩
    ·exact .inr z
    ·rw [ea] at e; cases e
     exact .inl (.inr rfl)
 obtain ⟨c',eH,eP,k2,sub⟩:=all
 have eI:∀ a,c'.I a ↔ c.I a:=fun a=>by unfold Fc.I; rw [eP]
 have hrep:Rep H (Av c (σ.set i (some v)) (δ.set i (some r))) v r.d∨∃ d,r = .own d:=by
  cases r with
  | pure d =>
   left
   refine Rep.anti hr fun b z=>?_
   rcases z with z | z
   ·exact .inl (.inl z)
   ·rcases z.of_set with z | ⟨_,d',e⟩
    ·exact .inl (.inr z)
    ·cases e
  | own d=>exact .inr ⟨d,rfl⟩
 refine ⟨⟨k.keep,k.bd,k.ith,by rw [Qv,Qv]; exact k.len,fun j d e=>?_,fun j d e=>?_,fun j l a d d' e1 e2 e3 e4=>?_,fun p hm=>?_⟩,x.keep,fun b z=>?_,x.there⟩
 ·by_cases hj:i=j
  ·subst hj
   rw [WF] at e
   simp at e
   obtain ⟨hi,rfl⟩:=e
   have hi':i < σ.length:=by rw [← k.len]; exact hi
   rcases hrep with h | ⟨_,h⟩
   ·exact ⟨v,by rw [Wr hi'],h⟩
   ·cases h
  ·rw [W8 hj] at e
   obtain ⟨w,e1,q⟩:=k2.slot j d e
   exact ⟨w,by rw [W8 hj]; exact e1,q.anti fun b z=>.inl (sub b z)⟩
 ·by_cases hj:i=j
  ·subst hj
   rw [WF] at e
   simp at e
   obtain ⟨hi,rfl⟩:=e
   have hi':i < σ.length:=by rw [← k.len]; exact hi
   obtain ⟨a,ea,o,n,f,k3,_⟩:=hr
   refine ⟨a,by rw [Wr hi',ea],o.anti fun b z=>.inl ?_,.inr f,n⟩
   rcases z with z | z
   ·exact .inl (.inl z)
   ·rcases z.of_set with z | ⟨e,_⟩
    ·exact .inr z
    ·rw [ea] at e; cases e
     exact .inl (.inr rfl)
  ·rw [W8 hj] at e
   obtain ⟨a,e1,q,q2,q3⟩:=k.own j d e
   obtain ⟨a',e1',q',_,_⟩:=k2.own j d e
   rw [e1] at e1'; cases e1'
   exact ⟨a,by rw [W8 hj]; exact e1,q'.anti fun b z=>.inl (sub b z),q2,q3⟩
 ·by_cases hj:i=j
  ·subst hj
   by_cases hl:i=l
   ·exact hl
   ·rw [W8 hl] at e2 e4
    rw [WF] at e1 e3
    simp at e1 e3
    obtain ⟨_,rfl⟩:=e1
    obtain ⟨_,rfl⟩:=e3
    obtain ⟨a',ea,o,n,f,k3,_⟩:=hr
    cases ea
    exact absurd ⟨l,d',e2,e4⟩ (z4t k3)
  ·rw [W8 hj] at e1 e3
   by_cases hl:i=l
   ·subst hl
    rw [WF] at e2 e4
    simp at e2 e4
    obtain ⟨_,rfl⟩:=e2
    obtain ⟨_,rfl⟩:=e4
    obtain ⟨a',ea,o,n,f,k3,_⟩:=hr
    cases ea
    exact absurd ⟨j,d,e1,e3⟩ (z4t k3)
   ·rw [W8 hl] at e2 e4
    exact k.inj j l a d d' e1 e2 e3 e4
 ·rw [W8 (Ne.symm (hp p hm))]
  exact k.pinned p hm
 ·rcases z.of_set with z | ⟨e,d,ed⟩
  ·exact x.own b z
  ·subst ed
   obtain ⟨a,ea,_,_,_,_,hs⟩:=hr
   rw [ea] at e; cases e
   exact .inr hs
abbrev DG:=S→Dl→Option Dl
def tGD (c:Fc) (g:DG):TG:=fun v σ H Q=>∃ σ₀ δ₀ H₁ δ r δ',Aft c σ₀ δ₀ H₁ σ δ H∧RepS c σ δ H₁ H v r∧g r δ=some δ'∧∀ σ',Aft c σ₀ δ₀ H₁ σ' δ' H→Q σ' H
abbrev SG (X:Cx) (c:Fc) (tg:Expr) (g:DG):Prop:=PG X tg (tGD c g)
def gNm (np:List Nat) (i:Nat):DG:=fun r δ=>if np.contains i then none else some (δ.set i (some r))
def Np (c:Fc) (np:List Nat):Prop:=∀ p ∈ c.pin,np.contains p.1=true
theorem z7b (hp:Np c np) (h:tGD c (gNm np i) v σ H Q):zd4 i v σ H Q:=by
 obtain ⟨σ₀,δ₀,H₁,δ,r,δ',x,rr,e,q⟩:=h
 unfold gNm at e
 split at e
 ·cases e
 ·rename_i hn
  cases e
  exact q _ (Ok.set x rr fun p hm e=>hn (by rw [← e]; exact hp p hm))
theorem PG.weak {tg:Expr} {t t':TG} (h:PG X tg t) (w:∀ v σ H Q,t' v σ H Q→t v σ H Q):PG X tg t':=fun pins s σ H v u Q I r q=>h pins s σ H v u Q I r (w v σ H Q q)
theorem PGs.weak {tg:List Expr} {t t':TGs} (h:PGs X tg t) (w:∀ v σ H Q,t' v σ H Q→t v σ H Q):PGs X tg t':=fun pins s σ H v u Q I r q=>h pins s σ H v u Q I r (w v σ H Q q)
theorem z0w {np:List Nat} {i:Nat} {x:Str} (hp:Np c np) (hN:X.N.Nodup) (hi:X.N[i]? = some x) (hx:Loc X.env.scope x) (hf:X.fn x=true∨X.env.scope.names.lookup x=some .local):SG X c (.Name x pos) (gNm np i) :=
 PG.weak (zba hN hi hx hf) fun v σ H Q h=>z7b hp h
abbrev DGs:=List D→Dl→Option Dl
def tGDs (c:Fc) (g:DGs):TGs:=fun vs σ H Q=>∃ δ ds δ',Ok c σ δ H∧Reps H (Av c σ δ) vs ds∧g ds δ=some δ'∧∀ σ',Aft c σ δ H σ' δ' H→Q σ' H
abbrev SGs (X:Cx) (c:Fc) (tg:List Expr) (g:DGs):Prop:=PGs X tg (tGDs c g)
def z2c:DGs:=fun ds δ=>match ds with
 | []=>some δ
 | _=>none
def z0u (g:DG) (gs:DGs):DGs:=fun ds δ=>match ds with
 | []=>none
 | d :: r=>(g (.pure d) δ).bind fun δ1=>gs r δ1
theorem z3U:SGs X c [] z2c:=PGs.weak zb9 fun vs σ H Q ⟨δ,ds,δ',k,r,e,q⟩=>by
 cases ds with
 | nil =>
  cases e
  have:vs=[]:=by have:=r.1; simpa using this
  exact ⟨this,q σ (.refl k)⟩
 | cons d r=>cases e
theorem z10 {es:List Expr} {g:DG} {gs:DGs} (h1:SG X c e g) (h2:SGs X c es gs) (hs:(Q3 (e :: es) X.env).map (·.2)=assign e X.env :: (Q3 es X.env).map (·.2):=by rfl):SGs X c (e :: es) (z0u g gs) :=
 PGs.weak (z9h h1 h2 hs) fun vs σ H Q ⟨δ,ds,δ',k,r,e,q⟩=>by
  cases ds with
  | nil=>cases e
  | cons d ds =>
   cases vs with
   | nil=>have:=r.1; simp at this
   | cons v vs =>
    simp only [z0u] at e
    cases e1:g (.pure d) δ with
    | none=>rw [e1] at e; cases e
    | some δ1 =>
     rw [e1] at e
     refine ⟨v,vs,rfl,σ,δ,H,δ,.pure d,δ1,.refl k,r.head,e1,fun σ1 a1=>?_⟩
     exact ⟨δ1,ds,δ',a1.ok,Reps.aft r.tail a1,e,fun σ2 a2=>q σ2 (a1.trans a2)⟩
def gTp (n:Nat) (gs:DGs):DG:=fun r δ=>match r.d with
 | .tup ds=>if ds.length=n then gs ds δ else none
 | _=>none
theorem z5y {es:List Expr} {k:Nat} {gs:DGs} {n:Nat} (hc:X.calm=true) (h:SGs X c es gs) (hn:(Q3 es X.env).length=n:=by rfl) (hst:(Q3 es X.env).findIdx? (·.1)=none:=by rfl) :
  SG X c (.Tuple es k pos) (gTp n gs):=PG.weak (zdv hc h hn hst) fun v σ H Q hw=>by
 obtain ⟨σ₀,δ₀,H₁,δ,r,δ',x,rr,e,q⟩:=hw
 have hb:=rr.b
 unfold gTp at e
 generalize r.d=d at e hb
 cases d <;> first | (cases e; done) | skip
 rename_i ds
 simp only at e
 split at e
 ·rename_i hl
  obtain ⟨a,vs,ea,ha,ra⟩:=hb.tup
  exact ⟨a,vs,ea,.of ha,by rw [ra.1]; exact hl,δ,ds,δ',x.ok,ra,e,fun σ' a1=>q σ' (x.trans a1)⟩
 ·cases e
def dAsg (f:DE) (g:DG):DS:=fun δ=>(f δ).bind fun r δ1=>match g r δ1 with
 | some δ2=>.ok .next δ2
 | none=>.stuck
theorem z7m {g:DG} {D:Ends} {σ:St} {H:Hp} {te:TE} {tg:TG} (he:∀ σ H Q,tD c fe σ H Q→te σ H Q) (hg:∀ v σ H Q,tGD c g v σ H Q→tg v σ H Q) (h:tDS c (dAsg fe g) D σ H):tAsg te tg D σ H:=by
 obtain ⟨δ,k,q⟩:=h
 unfold dAsg z2z at q
 rw [z08] at q
 refine he _ _ _ ⟨δ,k,z02 q fun r δ1 q1 v H1 a1 r1=>hg _ _ _ _ ?_⟩
 cases e:g r δ1 with
 | none=>rw [e] at q1; exact q1.elim
 | some δ2 =>
  rw [e] at q1
  exact ⟨σ,δ,H,δ1,r,δ2,a1,r1,e,fun σ' a2=>q1 σ' H1 a2⟩
theorem z6v {tg:Expr} {g:DG} (he:SE X c e fe) (hg:SG X c tg g) (hs:swapsWithSole [tg] e pos.line X.env=pure false:=by rfl) (hw:swappedStores [tg] e X.env=pure none:=by rfl)
  (h1:(Q3 [tg] X.env).map (·.2)=[assign tg X.env]:=by rfl):SS X c (.Assign [tg] e pos) (dAsg fe g):=PS.weak (zdt he hg hs hw h1) fun D σ H h=>z7m (fun _ _ _ h=>h) (fun _ _ _ _ h=>h) h
theorem z0k {np:List Nat} {i:Nat} {x:Str} (hp:Np c np) (hN:X.N.Nodup) (hi:X.N[i]? = some x) (hx:Loc X.env.scope x) (he:SE X c e fe) (hs:J5 e (some (.Name x pos')) pos.line X.env=pure false) (hf:X.fn x=true∨X.env.scope.names.lookup x=some .local) :
  SS X c (.Assign [.Name x pos'] e pos) (dAsg fe (gNm np i)):=PS.weak (zfJ hN hi hx he hs hf) fun D σ H h=>z7m (fun _ _ _ h=>h) (fun _ _ _ _ h=>z7b hp h) h
theorem zdV (he:SE X c e fe) (hs:∀ (x:Value),J5 e none pos.line X.env=pure false:=by intro _; rfl) (hd:True:=trivial) (h:PS X (.Expr e pos) (zdR (tD c fe))):SS X c (.Expr e pos) (z6q fe):=PS.weak h fun D σ H ⟨δ,k,q⟩=>by
 unfold z6q z2z at q
 rw [z08] at q
 exact ⟨δ,k,z02 q fun r δ1 q1 v H1 a1 r1=>q1 σ H1 a1⟩
theorem Ok.mutL {σ:St} {δ:Dl} {H:Hp} {i:Nat} {ds ds':List D} {a:Addr} {vs':List V} (k:Ok c σ δ H) (e:δ[i]? = some (some (.own (.lst ds)))) (ea:σ[i]? = some (some (.ref a))) (r:Reps H (Av c σ δ) vs' ds') :
  Aft c σ δ H σ (δ.set i (some (.own (.lst ds')))) (upd H a (.lst vs')):=by
 have hi:i < δ.length:=(Wf.mp e).1
 obtain ⟨a',ea',oa,ia,nb⟩:=k.own i _ e
 rw [ea] at ea'; cases ea'
 obtain ⟨vs,ha,_⟩:=oa
 have ownA:Own σ δ a:=⟨i,_,e,ea⟩
 have avA:Av c σ δ a:=.inr ownA
 have own_iff:∀ b,Own σ (δ.set i (some (.own (.lst ds')))) b ↔ Own σ δ b:=fun b=>by
  constructor
  ·rintro ⟨j,d,e1,e2⟩
   by_cases hj:i=j
   ·subst hj
    exact ⟨i,_,e,e2⟩
   ·rw [W8 hj] at e1
    exact ⟨j,d,e1,e2⟩
  ·rintro ⟨j,d,e1,e2⟩
   by_cases hj:i=j
   ·subst hj
    exact ⟨i,_,by rw [Wr hi],e2⟩
   ·exact ⟨j,d,by rw [W8 hj]; exact e1,e2⟩
 have av_iff:∀ b,Av c σ (δ.set i (some (.own (.lst ds')))) b→Av c σ δ b:=fun b z=>z.elim .inl fun z=>.inr ((own_iff b).mp z)
 have ne:∀ b,¬ Av c σ δ b→b≠a:=fun b n z=>n (by rw [z]; exact avA)
 have kp:∀ b o,H b=some o→¬ Av c σ δ b→upd H a (.lst vs') b=some o:=fun b o h n=>by rw [z0x (ne b n)]; exact h
 have hup:∀ b o,H b=some o→∃ o',upd H a (.lst vs') b=some o':=fun b o h=>by
  by_cases hb:b=a
  ·exact ⟨_,by rw [hb]; exact z0D⟩
  ·exact ⟨o,by rw [z0x hb]; exact h⟩
 refine ⟨⟨fun b o h n=>?_,fun b z=>?_,fun b z=>?_,by rw [Qv]; exact k.len,fun j d h=>?_,fun j d h=>?_,fun j l b d d' h1 h2 h3 h4=>?_,k.pinned⟩,fun b o h n=>?_,fun b z=>.inl ((own_iff b).mp z),hup⟩
 ·have hb:b≠a:=fun z=>by
   subst z
   rcases ia with z | z
   ·exact n z
   ·rw [z] at h; cases h
  rw [z0x hb]
  exact k.keep b o h n
 ·obtain ⟨o,h⟩:=k.bd b z
  exact hup b o h
 ·obtain ⟨o,h⟩:=k.ith b z
  exact hup b o h
 ·have hj:i≠j:=fun z=>by subst z; rw [Wr hi] at h; cases h
  rw [W8 hj] at h
  obtain ⟨v,h1,h2⟩:=k.slot j d h
  exact ⟨v,h1,(h2.keep kp).anti fun b z=>.inl (av_iff b z)⟩
 ·by_cases hj:i=j
  ·subst hj
   rw [Wr hi] at h
   cases h
   exact ⟨a,ea,⟨vs',z0D,Reps.anti (Reps.keep r kp) fun b z=>.inl (av_iff b z)⟩,ia,nb⟩
  ·rw [W8 hj] at h
   obtain ⟨b,h1,h2,h3,h4⟩:=k.own j d h
   have hb:b≠a:=fun z=>by subst z; exact hj (k.inj i j b _ d e h ea h1)
   exact ⟨b,h1,(h2.keep kp fun o q=>by rw [z0x hb]; exact q).anti fun b z=>.inl (av_iff b z),h3,h4⟩
 ·have f1:∃ d,δ[j]? = some (some (.own d)):=by
   by_cases hj:i=j
   ·subst hj; exact ⟨_,e⟩
   ·rw [W8 hj] at h1; exact ⟨d,h1⟩
  have f2:∃ d,δ[l]? = some (some (.own d)):=by
   by_cases hj:i=l
   ·subst hj; exact ⟨_,e⟩
   ·rw [W8 hj] at h2; exact ⟨d',h2⟩
  obtain ⟨_,f1⟩:=f1
  obtain ⟨_,f2⟩:=f2
  exact k.inj j l b _ _ f1 f2 h3 h4
 ·have hb:b≠a:=fun z=>n (by rw [z]; exact ownA)
  rw [z0x hb]; exact h
def z1V (δ:Dl) (i:Nat):Bool:=match δ[i]? with
 | some (some (.own (.lst _)))=>true
 | _=>false
def putL (δ:Dl) (i:Nat) (f:List D→Option (List D)):Rs Fl:=match δ[i]? with
 | some (some (.own (.lst ds)))=>match f ds with
  | some ds'=>.ok .next (δ.set i (some (.own (.lst ds'))))
  | none=>.stuck
 | _=>.stuck
theorem z7W (h:z1V δ i=true):∃ ds,δ[i]? = some (some (.own (.lst ds))):=by
 unfold z1V at h
 split at h
 ·rename_i ds e; exact ⟨ds,e⟩
 ·cases h
theorem z7C {δ:Dl} {i:Nat} {g:List D→Option (List D)} {kk:Fl→Dl→Prop} (h:post c (putL δ i g) kk):∃ ds ds',δ[i]? = some (some (.own (.lst ds)))∧g ds=some ds'∧kk .next (δ.set i (some (.own (.lst ds')))):=by
 unfold putL at h
 split at h
 ·rename_i ds e
  split at h
  ·rename_i ds' e2
   exact ⟨ds,ds',e,e2,h⟩
  ·exact h.elim
 ·exact h.elim
def z0A (i:Nat) (f:DE):DS:=fun δ=>if z1V δ i then (f δ).bind fun r δ1=>putL δ1 i fun ds=>if ds.length < W6 then some (ds ++ [r.d]) else none else .stuck
theorem zaD {i:Nat} {o:Expr} {p0 apos cpos:Pos} (ho:PE X o (tVar i)) (he:SE X c e fe)
  (h:PS X (.Expr (.Call (.Attribute o "append" apos) [e] [] cpos) pos) (zdR (tBM X.K "list" zaY (tVar i) (zfa (tD c fe) tNil)))):SS X c (.Expr (.Call (.Attribute o "append" apos) [e] [] cpos) pos) (z0A i fe) :=
 PS.weak h fun D σ H ⟨δ,k,q⟩=>by
  unfold z0A z2z at q
  split at q
  ·rename_i hown
   obtain ⟨ds0,e0⟩:=z7W hown
   rw [z08] at q
   obtain ⟨a,ea,oa,_⟩:=k.own i _ e0
   refine ⟨.ref a,ea,?_,δ,k,z02 q fun r δ1 q1 v H1 a1 r1=>?_⟩
   ·obtain ⟨vs,ha,_⟩:=oa
    exact .inl ⟨rfl,vs,.of ha⟩
   ·obtain ⟨ds,ds',e1,e2,q2⟩:=z7C q1
    split at e2
    ·rename_i hz
     cases e2
     obtain ⟨a',ea',oa1,_⟩:=a1.ok.own i _ e1
     rw [ea] at ea'; cases ea'
     obtain ⟨vs,ha,ra⟩:=id oa1
     refine ⟨a,vs,v,rfl,rfl,ha,by rw [ra.1]; exact hz,?_⟩
     exact q2 σ _ (a1.trans (Ok.mutL a1.ok e1 ea (ra.append (.cons r1.rep .nil))))
    ·cases e2
  ·exact q.elim
def z85 (i:Nat) (fi:DE) (fe:DE):DS:=fun δ=>if z1V δ i then (fe δ).bind fun r δ1=>(fi δ1).bind fun k δ2=>match k with
 | .pure (.int j)=>putL δ2 i fun ds=>(ixN ds.length j).map fun n=>ds.set n r.d
 | _=>.stuck else .stuck
theorem z8n {i:Nat} {o ix:Expr} {fi:DE} {sp:Pos} (ho:PE X o (tVar i)) (hi:SE X c ix fi) (he:SE X c e fe)
  (ha:∀ v,assign (.Subscript o ix sp) X.env v=(do
   let ov ← holding [v] (eval o X.env)
   let iv ← holding [v,ov] (eval ix X.env)
   standAt sp
   holding [v,ov,iv] (setItem ov iv v)
   release [v,ov,iv] []):=by intro _; rfl)
  (hs:swapsWithSole [.Subscript o ix sp] e pos.line X.env=pure false:=by rfl) (hw:swappedStores [.Subscript o ix sp] e X.env=pure none:=by rfl)
  (h1:(Q3 [.Subscript o ix sp] X.env).map (·.2)=[assign (.Subscript o ix sp) X.env]:=by rfl):SS X c (.Assign [.Subscript o ix sp] e pos) (z85 i fi fe) :=
 PS.weak (zdt he (zfM ho hi zcl ha) hs hw h1) fun D σ H ⟨δ,k,q⟩=>by
  unfold z85 z2z at q
  split at q
  ·rename_i hown
   obtain ⟨ds0,e0⟩:=z7W hown
   rw [z08] at q
   obtain ⟨a,ea,_,_⟩:=k.own i _ e0
   refine ⟨δ,k,z02 q fun r δ1 q1 v H1 a1 r1=>⟨.ref a,ea,δ1,a1.ok,?_⟩⟩
   rw [z08] at q1
   refine z02 q1 fun kx δ2 q2 u H2 a2 r2=>?_
   cases kx with
   | own d=>exact q2.elim
   | pure d =>
    cases d <;> first | exact q2.elim | skip
    rename_i j
    cases r2
    obtain ⟨ds,ds',e1,e2,q3⟩:=z7C q2
    cases e3:ixN ds.length j with
    | none=>rw [e3] at e2; cases e2
    | some n =>
     rw [e3] at e2
     cases e2
     obtain ⟨a',ea',oa1,_⟩:=a2.ok.own i _ e1
     rw [ea] at ea'; cases ea'
     obtain ⟨vs,ha,ra⟩:=id oa1
     refine ⟨a,vs,j,n,rfl,rfl,ha,by rw [ra.1]; exact e3,?_⟩
     exact q3 σ _ (a1.trans (a2.trans (Ok.mutL a2.ok e1 ea (ra.set (Rep.aft r1.rep a2) n))))
  ·exact q.elim
end
abbrev DI:=Dl→Rs (List D)
def ItOk (c:Fc) (σ:St) (δ:Dl) (H:Hp) (J:It) (ds:List D):Prop:=∀ H2,(∀ a o,H a=some o→¬ Own σ δ a→H2 a=some o)→J.stop ds.length H2 ∧
 ∀ (i:Nat) d,ds[i]? = some d→J.go i H2∧∀ x H3,J.yld i H2 x H3→(H3=H2∧Rep H (Av c σ δ) x d) ∨
  ∃ p vs es,H2 p=none∧H3=upd H2 p (.tup vs)∧x = .ref p∧d = .tup es∧Reps H (Av c σ δ) vs es
def tI (c:Fc) (f:DI):TI:=fun σ H R=>∃ δ,Ok c σ δ H∧post c (f δ) fun ds δ'=>∀ J H',Aft c σ δ H σ δ' H'→ItOk c σ δ' H' J ds→R J H'
abbrev SI (X:Cx) (c:Fc) (tg iter:Expr) (f:DI):Prop:=PI X tg iter (tI c f)
theorem PI.weak (h:PI X tg iter t) (w:∀ σ H R,t' σ H R→t σ H R):PI X tg iter t':=fun pins s σ H R I q=>h pins s σ H R I (w σ H R q)
section
variable {X:Cx} {c:Fc} {tg e:Expr} {fe:DE} {pos pp:Pos}
theorem zgj (K:W3) (h:H a=some (.tup vs)) (n:¬ Own σ δ a) (r:Reps H (Av c σ δ) vs ds):ItOk c σ δ H (Itt K a) ds:=by
 intro H2 kp
 have h2:=kp a _ h n
 refine ⟨⟨vs,.of h2,by rw [r.1]; exact Wh _⟩,fun i d e=>?_⟩
 obtain ⟨v,ev,rv⟩:=r.get e
 refine ⟨⟨vs,v,.of h2,ev⟩,fun x H3 ⟨e3,y⟩=>.inl ⟨e3,?_⟩⟩
 have:=y vs (.of h2)
 rw [ev] at this
 cases this
 exact rv
def z0z (lo:Int) (n:Nat):List D:=(Wb n).map fun k:Nat=>D.int (lo + k)
theorem z6C {lo:Int} {n i:Nat} {d:D} (h:(z0z lo n)[i]? = some d):i < n∧d = .int (lo + i):=by
 unfold z0z at h
 rw [WR] at h
 by_cases hi:i < n
 ·rw [List.getElem?_range hi] at h
  simp at h
  exact ⟨hi,h.symm⟩
 ·rw [WZ (by simpa using hi)] at h
  cases h
theorem z9u (lo:Int) (n:Nat):ItOk c σ δ H (Itr lo n) (z0z lo n):=by
 intro H2 kp
 refine ⟨by show n≤(z0z lo n).length; simp [z0z],fun i d e=>?_⟩
 obtain ⟨hi,rfl⟩:=z6C e
 exact ⟨hi,fun x H3 ⟨e3,ex⟩=>.inl ⟨e3,by rw [ex]; exact .int _⟩⟩
def z6x (j:Int):Bool:=decide (-(2 ^ 62)≤j) && decide (j < 2 ^ 62)
def z0K (f:DE):DI:=fun δ=>(f δ).bind fun r δ1=>match r with
 | .pure (.int j)=>if z6x j then .ok (z0z 0 j.toNat) δ1 else .stuck
 | _=>.stuck
theorem z1j (hg:Gl X "range") (hm:X.mg "range" = none) (he:SE X c e fe) (hs:W7 [e] X.env=[(false,eval e X.env)]:=by rfl):SI X c tg (.Call (.Name "range" pp) [e] [] pos) (z0K fe) :=
 PI.weak (zb8 hg hm (z0U he z2d hs) hs) fun σ H R ⟨δ,k,q⟩=>by
  unfold z0K at q
  rw [z08] at q
  refine ⟨δ,k,z02 q fun r δ1 q1 v H1 a1 r1=>?_⟩
  cases r with
  | own d=>exact q1.elim
  | pure d =>
   cases d <;> first | exact q1.elim | skip
   rename_i j
   cases r1
   simp only at q1
   split at q1
   ·rename_i hj
    unfold z6x at hj
    simp only [Wk,decide_eq_true_eq] at hj
    exact ⟨j,rfl,hj.1,hj.2,q1 _ H1 a1 (z9u 0 j.toNat)⟩
   ·exact q1.elim
def forL (g:DG) (b:DS):List D→DS
 | [],δ=>.ok .next δ
 | d :: r,δ=>match g (.pure d) δ with
  | none=>.stuck
  | some δ1=>(b δ1).bind fun fl δ2=>match fl with
   | .next=>forL g b r δ2
   | .cont=>forL g b r δ2
   | .brk=>.ok .next δ2
   | .ret v=>.ok (.ret v) δ2
def dFor (it:DI) (g:DG) (b:DS):DS:=fun δ=>(it δ).bind fun ds δ1=>forL g b ds δ1
theorem z91 (io:ItOk c σ δ H J ds) (a:Aft c σ δ H σ2 δ2 H2) (e:ds[i]? = some d) (y:J.yld i H2 x H3):Aft c σ2 δ2 H2 σ2 δ2 H3∧Rep H3 (Av c σ2 δ2) x d:=by
 obtain ⟨_,t⟩:=io H2 a.keep
 rcases (t i d e).2 x H3 y with ⟨e3,r⟩ | ⟨p,vs,es,hp,e3,ex,ed,r⟩
 ·subst e3
  exact ⟨.refl a.ok,Rep.aft r a⟩
 ·subst e3 ex ed
  have:=RepS.newT a.ok (Reps.aft r a) hp
  exact ⟨.alloc a.ok hp _,this⟩
theorem z1L {iter:Expr} {body:List Stmt} {it:DI} {g:DG} {b:DS} (hp:PassesOwn (model X.prog X.w) X.A X.env X.xe) (hc:X.calm=true) (hi:SI X c tg iter it) (hg:SG X c tg g) (hb:SSs X c body b)
  (hs:∀ x,QJ iter X.env x=pure x:=by intro _; rfl):SS X c (.For tg iter body [] pos) (dFor it g b):=PS.weak (zfK hp hc hi hg hb hs) fun D σ H ⟨δ,k,q⟩=>by
 unfold dFor z2z at q
 rw [z08] at q
 refine ⟨δ,k,z02 q fun ds δ1 q1 J H1 a1 io=>?_⟩
 refine ⟨fun i m σ2 H2=>∃ δ2,m=ds.length - i∧i≤ds.length∧Aft c σ δ1 H1 σ2 δ2 H2∧z2z c D σ2 δ2 H2 (forL g b (ds.drop i) δ2),⟨ds.length,δ1,by simp,QM _,.refl a1.ok,?_⟩,?_⟩
 ·rw [List.drop_zero]
  exact z02 q1 fun fl δ2 q2 σ2 H2 a2=>q2 σ2 H2 (a1.trans a2)
 ·rintro i m σ2 H2 ⟨δ2,rfl,hil,a2,p2⟩
  by_cases hlt:i < ds.length
  ·right
   have e:ds[i]? = some ds[i]:=by simp [hlt]
   rw [List.drop_eq_getElem_cons hlt] at p2
   refine ⟨((io H2 a2.keep).2 i _ e).1,fun σ4 H4=>∃ δ4,Aft c σ δ1 H1 σ4 δ4 H4∧z2z c D σ4 δ4 H4 (forL g b (ds.drop (i + 1)) δ4),fun σ4 H4 ⟨δ4,a4,p4⟩=>⟨ds.length - (i + 1),by omega,δ4,rfl,hlt,a4,p4⟩,fun x H3 y=>?_⟩
   obtain ⟨a3,r3⟩:=z91 io a2 e y
   simp only [forL,z2z] at p2
   cases eg:g (.pure ds[i]) δ2 with
   | none=>rw [eg] at p2; exact p2.elim
   | some δ3 =>
    rw [eg] at p2
    refine ⟨σ2,δ2,H3,δ2,.pure ds[i],δ3,.refl a3.ok,r3,eg,fun σ3 a3'=>?_⟩
    have p3:post c ((b δ3).bind fun fl δ2=>match fl with
     | .next=>forL g b (ds.drop (i + 1)) δ2
     | .cont=>forL g b (ds.drop (i + 1)) δ2
     | .brk=>.ok .next δ2
     | .ret v=>.ok (.ret v) δ2) fun fl δ'=>∀ σ' H',Aft c σ2 δ2 H2 σ' δ' H'→fin c D σ' δ' H' fl:=p2
    rw [z08] at p3
    have a23:Aft c σ2 δ2 H2 σ3 δ3 H3:=a3.trans a3'
    refine ⟨δ3,a3'.ok,z02 p3 fun fl δ4 p4 σ4 H4 a4=>?_⟩
    have a24:=a23.trans a4
    cases fl with
    | next=>exact ⟨δ4,a2.trans a24,z02 p4 fun fl δ5 p5 σ5 H5 a5=>p5 σ5 H5 (a24.trans a5)⟩
    | cont=>exact ⟨δ4,a2.trans a24,z02 p4 fun fl δ5 p5 σ5 H5 a5=>p5 σ5 H5 (a24.trans a5)⟩
    | brk=>exact p4 σ4 H4 a24
    | ret r=>exact p4 σ4 H4 a24
  ·left
   have hi2:i=ds.length:=by omega
   subst hi2
   rw [List.drop_length] at p2
   exact ⟨(io H2 a2.keep).1,p2 σ2 H2 (.refl a2.ok)⟩
def z1T (t:DT) (b:DS):Nat→DS
 | 0,_=>.stuck
 | n + 1,δ=>(t δ).bind fun x δ1=>if x then (b δ1).bind fun fl δ2=>match fl with
   | .next=>z1T t b n δ2
   | .cont=>z1T t b n δ2
   | .brk=>.ok .next δ2
   | .ret v=>.ok (.ret v) δ2
  else .ok .next δ1
theorem z95 {e:Expr} {body:List Stmt} {t:DT} {b:DS} (n:Nat) (hw:∀ {tt:TT} {tb:TS},PT X e tt→PSs X body tb→PS X (.While e body [] pos) (zdn tt tb)) (ht:ST X c e t) (hb:SSs X c body b):SS X c (.While e body [] pos) (z1T t b n) :=
 PS.weak (hw ht hb) fun D σ H ⟨δ,k,q⟩=>by
  refine ⟨fun m σ2 H2=>∃ δ2,Ok c σ2 δ2 H2∧z2z c D σ2 δ2 H2 (z1T t b m δ2),⟨n,δ,k,q⟩,?_⟩
  rintro m σ2 H2 ⟨δ2,k2,q2⟩
  cases m with
  | zero=>exact q2.elim
  | succ m =>
   simp only [z1T,z2z] at q2
   rw [z08] at q2
   refine ⟨δ2,k2,z02 q2 fun x δ3 q3 H3 a3=>?_⟩
   cases x with
   | false=>exact q3 σ2 H3 a3
   | true =>
    have p3:post c ((b δ3).bind fun fl δ2=>match fl with
     | .next=>z1T t b m δ2
     | .cont=>z1T t b m δ2
     | .brk=>.ok .next δ2
     | .ret v=>.ok (.ret v) δ2) fun fl δ'=>∀ σ' H',Aft c σ2 δ2 H2 σ' δ' H'→fin c D σ' δ' H' fl:=q3
    rw [z08] at p3
    refine ⟨fun σ4 H4=>∃ δ4,Ok c σ4 δ4 H4∧z2z c D σ4 δ4 H4 (z1T t b m δ4),fun σ4 H4 w=>⟨m,Nat.lt_succ_self _,w⟩,δ3,a3.ok,z02 p3 fun fl δ4 p4 σ4 H4 a4=>?_⟩
    have a24:=a3.trans a4
    cases fl with
    | next=>exact ⟨δ4,a4.ok,z02 p4 fun fl δ5 p5 σ5 H5 a5=>p5 σ5 H5 (a24.trans a5)⟩
    | cont=>exact ⟨δ4,a4.ok,z02 p4 fun fl δ5 p5 σ5 H5 a5=>p5 σ5 H5 (a24.trans a5)⟩
    | brk=>exact p4 σ4 H4 a24
    | ret r=>exact p4 σ4 H4 a24
end
def clrD (cs:List Nat) (δ:Dl):Dl:=cs.foldl (fun δ i=>δ.set i none) δ
def z1S (cs:List Nat) (δ₁ δ:Dl):Dl:=cs.foldl (fun δ i=>match δ₁[i]? with | some o=>δ.set i o | none=>δ) δ
def z0s (δ:Dl) (i:Nat):Bool:=match δ[i]? with
 | some (some (.own _))=>true
 | _=>false
theorem z9L (cs:List Nat):∀ δ:Dl,(clrD cs δ).length=δ.length:=by
 induction cs with
 | nil=>intro δ; rfl
 | cons i r ih =>
  intro δ
  show (clrD r (δ.set i none)).length=_
  rw [ih]; simp
theorem z1E:∀ (cs:List Nat) (δ:Dl) (i:Nat) (v:S),(clrD cs δ)[i]? = some (some v)→δ[i]? = some (some v)∧i ∉ cs:=by
 intro cs
 induction cs with
 | nil=>intro δ i v h; exact ⟨h,by simp⟩
 | cons j r ih =>
  intro δ i v h
  have h':(clrD r (δ.set j none))[i]? = some (some v):=h
  obtain ⟨h1,h2⟩:=ih _ i v h'
  by_cases e:j=i
  ·subst e
   rw [WF] at h1
   simp at h1
  ·rw [W8 e] at h1
   exact ⟨h1,by simp only [Wj,not_or]; exact ⟨Ne.symm e,h2⟩⟩
theorem z33:∀ (cs:List Nat) (σ:St) (i:Nat),i ∉ cs→(clr cs σ)[i]? = σ[i]?:=by
 intro cs
 induction cs with
 | nil=>intro σ i _; rfl
 | cons j r ih =>
  intro σ i h
  simp only [Wj,not_or] at h
  show (clr r (σ.set j none))[i]? = _
  rw [ih _ _ h.2,W8 (Ne.symm h.1)]
theorem zdd:∀ (cs:List Nat) (δ:Dl) (i:Nat),i ∉ cs→(clrD cs δ)[i]? = δ[i]?:=by
 intro cs
 induction cs with
 | nil=>intro σ i _; rfl
 | cons j r ih =>
  intro σ i h
  simp only [Wj,not_or] at h
  show (clrD r (σ.set j none))[i]? = _
  rw [ih _ _ h.2,W8 (Ne.symm h.1)]
theorem zcb (cs:List Nat) (δ₁:Dl):∀ δ:Dl,(z1S cs δ₁ δ).length=δ.length:=by
 induction cs with
 | nil=>intro δ; rfl
 | cons i r ih =>
  intro δ
  unfold z1S
  rw [Qn]
  have:=ih (match δ₁[i]? with | some o=>δ.set i o | none=>δ)
  unfold z1S at this
  rw [this]
  cases δ₁[i]? <;> simp
theorem z4J:∀ (cs:List Nat) (δ₁ δ:Dl) (i:Nat),i ∉ cs→(z1S cs δ₁ δ)[i]? = δ[i]?:=by
 intro cs δ₁
 induction cs with
 | nil=>intro δ i _; rfl
 | cons j r ih =>
  intro δ i h
  simp only [Wj,not_or] at h
  unfold z1S
  rw [Qn]
  have:=ih (match δ₁[j]? with | some o=>δ.set j o | none=>δ) i h.2
  unfold z1S at this
  rw [this]
  cases δ₁[j]? with
  | none=>rfl
  | some o=>simp only; rw [W8 (Ne.symm h.1)]
theorem z7k:∀ (cs:List Nat) (δ₁ δ:Dl) (i:Nat),δ₁.length=δ.length→i ∈ cs→(z1S cs δ₁ δ)[i]? = δ₁[i]?:=by
 intro cs δ₁
 induction cs with
 | nil=>intro δ i _ h; simp at h
 | cons j r ih =>
  intro δ i hl h
  unfold z1S
  rw [Qn]
  have hl2:δ₁.length=(match δ₁[j]? with | some o=>δ.set j o | none=>δ).length:=by cases δ₁[j]? <;> simp [hl]
  by_cases hr:i ∈ r
  ·have:=ih (match δ₁[j]? with | some o=>δ.set j o | none=>δ) i hl2 hr
   unfold z1S at this
   exact this
  ·have e:i=j:=by
    rcases Wj.mp h with e | e
    ·exact e
    ·exact absurd e hr
   subst e
   have:=z4J r δ₁ (match δ₁[i]? with | some o=>δ.set i o | none=>δ) i hr
   unfold z1S at this
   rw [this]
   cases e:δ₁[i]? with
   | none =>
    simp only
    have:=List.getElem?_eq_none_iff.mp e
    exact WZ (by omega)
   | some o =>
    simp only
    have:=(Wf.mp e).1
    rw [Wr (by omega)]
section
variable {c:Fc} {σ:St} {δ δ':Dl} {H H':Hp} {l:Addr} {cs:List Nat}
theorem Ok.less (k:Ok (c.plus l) σ δ H):Ok c σ δ H:=by
 have sub:∀ b,Av c σ δ b→Av (c.plus l) σ δ b:=fun b z=>z.elim (fun z=>.inl (.inl z)) .inr
 refine ⟨k.keep,fun a z=>k.bd a (.inl z),k.ith,k.len,fun i d e=>?_,fun i d e=>?_,k.inj,k.pinned⟩
 ·obtain ⟨v,h1,h2⟩:=k.slot i d e
  exact ⟨v,h1,h2.anti fun b z=>.inl (sub b z)⟩
 ·obtain ⟨a,h1,h2,h3,h4⟩:=k.own i d e
  exact ⟨a,h1,h2.anti fun b z=>.inl (sub b z),h3,fun z=>h4 (.inl z)⟩
theorem Ok.updB (k:Ok c σ δ H) (hb:c.B l) (h0:c.H₀ l=none) (o:HO):Ok c σ δ (upd H l o):=by
 have kp:∀ b w,H b=some w→¬ Av c σ δ b→upd H l o b=some w:=fun b w e n=>by
  rw [z0x (fun z=>n (by rw [z]; exact .inl hb))]; exact e
 have hup:∀ b w,H b=some w→∃ w',upd H l o b=some w':=fun b w h=>by
  by_cases hb:b=l
  ·exact ⟨_,by rw [hb]; exact z0D⟩
  ·exact ⟨w,by rw [z0x hb]; exact h⟩
 refine ⟨fun a w e n=>?_,fun a z=>?_,fun a z=>?_,k.len,fun i d e=>?_,fun i d e=>?_,k.inj,k.pinned⟩
 ·have:a≠l:=fun z=>by rw [z,h0] at e; cases e
  rw [z0x this]; exact k.keep a w e n
 ·obtain ⟨w,e⟩:=k.bd a z; exact hup a w e
 ·obtain ⟨w,e⟩:=k.ith a z; exact hup a w e
 ·obtain ⟨v,h1,h2⟩:=k.slot i d e
  exact ⟨v,h1,h2.keep kp⟩
 ·obtain ⟨a,h1,h2,h3,h4⟩:=k.own i d e
  have:a≠l:=fun z=>h4 (by rw [z]; exact hb)
  exact ⟨a,h1,h2.keep kp fun w q=>by rw [z0x this]; exact q,h3,h4⟩
theorem Own.clr (h:Own (clr cs σ) (clrD cs δ) l):Own σ δ l:=by
 obtain ⟨i,d,e1,e2⟩:=h
 exact ⟨i,d,(z1E cs δ i _ e1).1,(z3w cs σ i _ e2).1⟩
theorem Ok.clr (k:Ok c σ δ H) (hp:∀ p ∈ c.pin,p.1 ∉ cs):Ok c (L2.clr cs σ) (clrD cs δ) H:=by
 have sub:∀ b,Av c (L2.clr cs σ) (clrD cs δ) b→Av c σ δ b:=fun b z=>z.elim .inl fun z=>.inr z.clr
 refine ⟨k.keep,k.bd,k.ith,by rw [z9L,z7h]; exact k.len,fun i d e=>?_,fun i d e=>?_,fun i j a d d' e1 e2 e3 e4=>?_,fun p hm=>?_⟩
 ·obtain ⟨e',hi⟩:=z1E cs δ i _ e
  obtain ⟨v,h1,h2⟩:=k.slot i d e'
  exact ⟨v,by rw [z33 cs σ i hi]; exact h1,h2.anti fun b z=>.inl (sub b z)⟩
 ·obtain ⟨e',hi⟩:=z1E cs δ i _ e
  obtain ⟨a,h1,h2,h3⟩:=k.own i d e'
  exact ⟨a,by rw [z33 cs σ i hi]; exact h1,h2.anti fun b z=>.inl (sub b z),h3⟩
 ·exact k.inj i j a d d' (z1E cs δ i _ e1).1 (z1E cs δ j _ e2).1 (z3w cs σ i _ e3).1 (z3w cs σ j _ e4).1
 ·rw [z33 cs σ _ (hp p hm)]; exact k.pinned p hm
theorem Aft.back (k:Ok c₀ σ δ H) (hpin:c.pin=c₀.pin) (hB:∀ b,c.B b→c₀.B b∨H b=none) (hno:cs.any (z0s δ)=false) (x:Aft c (L2.clr cs σ) (clrD cs δ) H (L2.clr cs σ) δ' H'):Aft c σ δ H σ (z1S cs δ δ') H':=by
 have len:δ.length=δ'.length:=by
  have:=x.ok.len
  rw [z7h] at this
  rw [this]; exact k.len
 have nown:∀ i d,i ∈ cs→δ[i]?≠some (some (.own d)):=fun i d hi e=>by
  have:=List.any_eq_false.mp hno i hi
  unfold z0s at this
  rw [e] at this
  simp at this
 have ownOut:∀ i d,(z1S cs δ δ')[i]? = some (some (.own d))→i ∉ cs∧δ'[i]? = some (some (.own d)):=fun i d e=>by
  by_cases hi:i ∈ cs
  ·rw [z7k cs δ δ' i len hi] at e
   exact absurd e (nown i d hi)
  ·rw [z4J cs δ δ' i hi] at e
   exact ⟨hi,e⟩
 have sub:∀ b,Own σ (z1S cs δ δ') b→Own (L2.clr cs σ) δ' b:=fun b ⟨i,d,e1,e2⟩=>by
  obtain ⟨hi,e⟩:=ownOut i d e1
  exact ⟨i,d,e,by rw [z33 cs σ i hi]; exact e2⟩
 have subA:∀ b,Av c σ (z1S cs δ δ') b→Av c (L2.clr cs σ) δ' b:=fun b z=>z.elim .inl fun z=>.inr (sub b z)
 have ownEq:∀ b,Own σ δ b→Own (L2.clr cs σ) (clrD cs δ) b:=fun b ⟨i,d,e1,e2⟩=>by
  have hi:i ∉ cs:=fun z=>nown i d z e1
  exact ⟨i,d,by rw [zdd cs δ i hi]; exact e1,by rw [z33 cs σ i hi]; exact e2⟩
 refine ⟨⟨x.ok.keep,x.ok.bd,x.ok.ith,by rw [zcb,← len]; exact k.len,fun i d e=>?_,fun i d e=>?_,fun i j a d d' e1 e2 e3 e4=>?_,by rw [hpin]; exact k.pinned⟩,fun a o e n=>?_,fun a z=>?_,x.there⟩
 ·by_cases hi:i ∈ cs
  ·rw [z7k cs δ δ' i len hi] at e
   obtain ⟨v,h1,h2⟩:=k.slot i d e
   have h3:Rep H (Av c (L2.clr cs σ) (clrD cs δ)) v d:=h2.anti fun b z=>by
    rcases z with z | z
    ·exact (hB b z).elim (fun z=>.inl (.inl z)) .inr
    ·exact .inl (.inr z.clr)
   exact ⟨v,h1,(Rep.aft h3 x).anti fun b z=>.inl (subA b z)⟩
  ·rw [z4J cs δ δ' i hi] at e
   obtain ⟨v,h1,h2⟩:=x.ok.slot i d e
   exact ⟨v,(z3w cs σ i v h1).1,h2.anti fun b z=>.inl (subA b z)⟩
 ·obtain ⟨hi,e'⟩:=ownOut i d e
  obtain ⟨a,h1,h2,h3⟩:=x.ok.own i d e'
  exact ⟨a,(z3w cs σ i _ h1).1,h2.anti fun b z=>.inl (subA b z),h3⟩
 ·obtain ⟨hi,f1⟩:=ownOut i d e1
  obtain ⟨hj,f2⟩:=ownOut j d' e2
  exact x.ok.inj i j a d d' f1 f2 (by rw [z33 cs σ i hi]; exact e3) (by rw [z33 cs σ j hj]; exact e4)
 ·exact x.keep a o e fun z=>n z.clr
 ·rcases x.own a (sub a z) with q | q
  ·exact .inl q.clr
  ·exact .inr q
end
def z1Z (cs:List Nat) (g:DG) (t:DT) (el:DE):List D→Dl→List D→Rs (List D)
 | [],δ,acc=>.ok acc δ
 | d :: r,δ,acc=>match g (.pure d) δ with
  | none=>.stuck
  | some δ1=>(t δ1).bind fun b δ2=>if b then (el δ2).bind fun x δ3=>if acc.length < W6 then z1Z cs g t el r (clrD cs δ3) (acc ++ [x.d]) else .stuck
   else z1Z cs g t el r (clrD cs δ2) acc
def z2s (cs:List Nat) (it:DI) (g:DG) (t:DT) (el:DE):DE:=fun δ=>(it δ).bind fun ds δ1=>if cs.any (z0s δ1) then .stuck else
 (z1Z cs g t el ds (clrD cs δ1) []).bind fun acc δ2=>.ok (.own (.lst acc)) (z1S cs δ1 δ2)
def dYes:DT:=fun δ=>.ok true δ
abbrev STs (X:Cx) (c:Fc) (ifs:List Expr) (t:DT):Prop:=PTs X ifs (tT c t)
theorem z3R {X:Cx} {c:Fc}:STs X c [] dYes:=fun pins s σ H Q I ⟨δ,k,q⟩=>zef pins s σ H Q I (q H (.refl k))
theorem z8l {X:Cx} {c:Fc} {e:Expr} {t:DT} (h:ST X c e t):STs X c [e] t:=zee h
section
variable {X:Cx} {c:Fc} {cs:List Nat} {tg iter elt:Expr} {ifs:List Expr} {scope:Scope} {pos:Pos} {it:DI} {g:DG} {t:DT} {el:DE}
theorem Aft.clear (x:Aft c (L2.clr cs σ) δ H σ4 δ4 H4) (le:Le (L2.clr cs σ) σ4) (hp:∀ p ∈ c.pin,p.1 ∉ cs) (hs:∀ (i:Nat) v,σ4[i]? = some (some v)→i ∉ cs→σ[i]? = some (some v)):Aft c (L2.clr cs σ) δ H (L2.clr cs σ) (clrD cs δ4) H4:=by
 have eq:∀ i,i ∉ cs→∀ v,σ4[i]? = some (some v)→(L2.clr cs σ)[i]? = some (some v):=fun i hi v e=>by rw [z33 cs σ i hi]; exact hs i v e hi
 have own:∀ b,Own (L2.clr cs σ) (clrD cs δ4) b→Own σ4 δ4 b:=fun b ⟨i,d,e1,e2⟩=>by
  exact ⟨i,d,(z1E cs δ4 i _ e1).1,le.2 i _ e2⟩
 have sub:∀ b,Av c (L2.clr cs σ) (clrD cs δ4) b→Av c σ4 δ4 b:=fun b z=>z.elim .inl fun z=>.inr (own b z)
 have k:=x.ok
 refine ⟨⟨k.keep,k.bd,k.ith,by rw [z9L,k.len]; exact le.1,fun i d e=>?_,fun i d e=>?_,fun i j a d d' e1 e2 e3 e4=>?_,fun p hm=>?_⟩,x.keep,fun a z=>x.own a (own a z),x.there⟩
 ·obtain ⟨e',hi⟩:=z1E cs δ4 i _ e
  obtain ⟨v,h1,h2⟩:=k.slot i d e'
  exact ⟨v,eq i hi v h1,h2.anti fun b z=>.inl (sub b z)⟩
 ·obtain ⟨e',hi⟩:=z1E cs δ4 i _ e
  obtain ⟨a,h1,h2,h3⟩:=k.own i d e'
  exact ⟨a,eq i hi _ h1,h2.anti fun b z=>.inl (sub b z),h3⟩
 ·exact k.inj i j a d d' (z1E cs δ4 i _ e1).1 (z1E cs δ4 j _ e2).1 (le.2 i _ e3) (le.2 j _ e4)
 ·exact eq p.1 (hp p hm) _ (k.pinned p hm)
def Out (cs:List Nat) (σ σ':St):Prop:=σ'.length=σ.length∧∀ i,i ∉ cs→σ'[i]? = σ[i]?
theorem Out.trans (a:Out cs σ σ') (b:Out cs σ' σ''):Out cs σ σ'':=⟨b.1.trans a.1,fun i h=>(b.2 i h).trans (a.2 i h)⟩
def tGC (cs:List Nat) (c:Fc) (g:DG):TG:=fun v σ H Q=>∃ σ₀ δ₀ H₁ δ r δ',Aft c σ₀ δ₀ H₁ σ δ H∧RepS c σ δ H₁ H v r∧g r δ=some δ'∧∀ σ',Aft c σ₀ δ₀ H₁ σ' δ' H→Out cs σ σ'→Q σ' H
abbrev SGC (X:Cx) (c:Fc) (cs:List Nat) (tg:Expr) (g:DG):Prop:=PG X tg (tGC cs c g)
theorem z1y {np:List Nat} {i:Nat} {x:Str} (hp:Np c np) (hN:X.N.Nodup) (hi:X.N[i]? = some x) (hx:Loc X.env.scope x) (hf:X.fn x=true∨X.env.scope.names.lookup x=some .local) (hc:i ∈ cs):SGC X c cs (.Name x pos) (gNm np i) :=
 PG.weak (zba hN hi hx hf) fun v σ H Q ⟨σ₀,δ₀,H₁,δ,r,δ',x,rr,e,q⟩=>by
  unfold gNm at e
  split at e
  ·cases e
  ·rename_i hn
   cases e
   refine q _ (Ok.set x rr fun p hm e=>hn (by rw [← e]; exact hp p hm)) ⟨by simp,fun j hj=>?_⟩
   rw [W8 (fun z=>hj (by rw [← z]; exact hc))]
def tGCs (cs:List Nat) (c:Fc) (g:DGs):TGs:=fun vs σ H Q=>∃ δ ds δ',Ok c σ δ H∧Reps H (Av c σ δ) vs ds∧g ds δ=some δ'∧∀ σ',Aft c σ δ H σ' δ' H→Out cs σ σ'→Q σ' H
abbrev SGCs (X:Cx) (c:Fc) (cs:List Nat) (tg:List Expr) (g:DGs):Prop:=PGs X tg (tGCs cs c g)
theorem z6S:SGCs X c cs [] z2c:=PGs.weak zb9 fun vs σ H Q ⟨δ,ds,δ',k,r,e,q⟩=>by
 cases ds with
 | nil =>
  cases e
  have:vs=[]:=by have:=r.1; simpa using this
  exact ⟨this,q σ (.refl k) ⟨rfl,fun _ _=>rfl⟩⟩
 | cons d r=>cases e
theorem z2Q {e:Expr} {es:List Expr} {g:DG} {gs:DGs} (h1:SGC X c cs e g) (h2:SGCs X c cs es gs) (hs:(Q3 (e :: es) X.env).map (·.2)=assign e X.env :: (Q3 es X.env).map (·.2):=by rfl):SGCs X c cs (e :: es) (z0u g gs) :=
 PGs.weak (z9h h1 h2 hs) fun vs σ H Q ⟨δ,ds,δ',k,r,e,q⟩=>by
  cases ds with
  | nil=>cases e
  | cons d ds =>
   cases vs with
   | nil=>have:=r.1; simp at this
   | cons v vs =>
    simp only [z0u] at e
    cases e1:g (.pure d) δ with
    | none=>rw [e1] at e; cases e
    | some δ1 =>
     rw [e1] at e
     refine ⟨v,vs,rfl,σ,δ,H,δ,.pure d,δ1,.refl k,r.head,e1,fun σ1 a1 o1=>?_⟩
     exact ⟨δ1,ds,δ',a1.ok,Reps.aft r.tail a1,e,fun σ2 a2 o2=>q σ2 (a1.trans a2) (o1.trans o2)⟩
theorem z8p {es:List Expr} {k:Nat} {gs:DGs} {n:Nat} (hc:X.calm=true) (h:SGCs X c cs es gs) (hn:(Q3 es X.env).length=n:=by rfl) (hst:(Q3 es X.env).findIdx? (·.1)=none:=by rfl) :
  SGC X c cs (.Tuple es k pos) (gTp n gs):=PG.weak (zdv hc h hn hst) fun v σ H Q hw=>by
 obtain ⟨σ₀,δ₀,H₁,δ,r,δ',x,rr,e,q⟩:=hw
 have hb:=rr.b
 unfold gTp at e
 generalize r.d=d at e hb
 cases d <;> first | (cases e; done) | skip
 rename_i ds
 simp only at e
 split at e
 ·rename_i hl
  obtain ⟨a,vs,ea,ha,ra⟩:=hb.tup
  exact ⟨a,vs,ea,.of ha,by rw [ra.1]; exact hl,δ,ds,δ',x.ok,ra,e,fun σ' a1 o1=>q σ' (x.trans a1) o1⟩
 ·cases e
theorem Aft.less (x:Aft (c.plus l) σ δ H σ' δ' H'):Aft c σ δ H σ' δ' H':=⟨x.ok.less,x.keep,x.own,x.there⟩
theorem z86 (hwi:∀ σ H R,tI c it σ H R→wi σ H R) (hg:∀ l v σ H Q,tGC cs (c.plus l) g v σ H Q→gt v σ H Q) (ht:∀ l σ H Q,tT (c.plus l) t σ H Q→tt σ H Q) (he:∀ l σ H Q,tD (c.plus l) el σ H Q→te σ H Q)
  (hp:∀ p ∈ c.pin,p.1 ∉ cs) (h:tD c (z2s cs it g t el) σ H Q):zdS cs wi gt tt te σ H Q:=by
 obtain ⟨δ,k,q⟩:=h
 unfold z2s at q
 rw [z08] at q
 refine hwi _ _ _ ⟨δ,k,z02 q fun ds δ1 q1 J H1 a1 io=>?_⟩
 intro l hl
 split at q1
 ·exact q1.elim
 ·rename_i hno
  have hno':cs.any (z0s δ1)=false:=by simpa using hno
  rw [z08] at q1
  have k1:=a1.ok
  have kp:=k1.plus hl (.lst [])
  have k0:Ok (c.plus l) (L2.clr cs σ) (clrD cs δ1) (upd H1 l (.lst [])):=kp.clr hp
  have up:∀ a w,H1 a=some w→upd H1 l (.lst []) a=some w:=fun a w e=>by
   rw [z0x (z0R e hl)]; exact e
  have h0:c.H₀ l=none:=k1.fresh₀ hl
  -- the walked things,as the block sees them
  have io':ItOk (c.plus l) (L2.clr cs σ) (clrD cs δ1) H1 J ds:=by
   intro H2 kp2
   obtain ⟨s1,s2⟩:=io H2 fun a o e n=>kp2 a o e fun z=>n z.clr
   have cv:∀ {x:V} {d:D},Rep H1 (Av c σ δ1) x d→Rep H1 (Av (c.plus l) (L2.clr cs σ) (clrD cs δ1)) x d:=fun {x d} r =>
    r.anti fun b z=>by
     rcases z with (z | z) | z
     ·exact .inl (.inl z)
     ·exact .inr (by rw [z]; exact hl)
     ·exact .inl (.inr z.clr)
   refine ⟨s1,fun i d e=>⟨(s2 i d e).1,fun x H3 y=>?_⟩⟩
   rcases (s2 i d e).2 x H3 y with ⟨e3,r⟩ | ⟨p,vs,es,hp,e3,ex,ed,r⟩
   ·exact .inl ⟨e3,cv r⟩
   ·exact .inr ⟨p,vs,es,hp,e3,ex,ed,r.1,fun i v d e1 e2=>cv (r.2 i v d e1 e2)⟩
  let Fin:List D→Dl→Prop:=fun acc δ'=>∀ H' vs,Aft (c.plus l) (L2.clr cs σ) (clrD cs δ1) H1 (L2.clr cs σ) δ' H'→H' l=some (.lst vs)→Reps H' (Av (c.plus l) (L2.clr cs σ) δ') vs acc→Q (.ref l) H'
  have q2:post c (z1Z cs g t el ds (clrD cs δ1) []) Fin:=z02 q1 fun acc δ2 q2 H' vs x hv r=>by
   have b1:Aft (c.plus l) σ δ1 H1 σ (z1S cs δ1 δ2) H':=Aft.back k1 rfl (fun b z=>z.elim .inl fun z=>.inr (by rw [z]; exact hl)) hno' x
   have b2:Aft c σ δ1 H1 σ (z1S cs δ1 δ2) H':=b1.less
   have len:δ1.length=δ2.length:=by
    have:=x.ok.len
    rw [z7h] at this
    rw [this]; exact k1.len
   have hlH:H l=none:=by
    cases e:H l with
    | none=>rfl
    | some o =>
     obtain ⟨o',e'⟩:=a1.there l o e
     rw [hl] at e'; cases e'
   refine q2 _ H' (a1.trans b2) ⟨l,rfl,⟨vs,hv,Reps.anti r fun b z=>.inl ?_⟩,fun z=>k1.nav hl (.inl z),h0,b1.ok,hlH⟩
   rcases z with z | ⟨i,d,e1,e2⟩
   ·exact .inl z
   ·have hi:i ∉ cs:=fun hi=>by
     rw [z7k cs δ1 δ2 i len hi] at e1
     have:=List.any_eq_false.mp hno' i hi
     unfold z0s at this
     rw [e1] at this
     simp at this
    rw [z4J cs δ1 δ2 i hi] at e1
    exact .inr ⟨i,d,e1,by rw [z33 cs σ i hi]; exact e2⟩
  refine ⟨fun i m H2=>∃ δ2 acc vs,m=ds.length - i∧i≤ds.length∧Aft (c.plus l) (L2.clr cs σ) (clrD cs δ1) H1 (L2.clr cs σ) δ2 H2∧H2 l=some (.lst vs)∧Reps H2 (Av (c.plus l) (L2.clr cs σ) δ2) vs acc ∧
   post c (z1Z cs g t el (ds.drop i) δ2 acc) Fin,⟨ds.length,clrD cs δ1,[],[],by simp,QM _,⟨k0,fun a w e _=>up a w e,fun a z=>.inl z,fun a w e=>⟨w,up a w e⟩⟩,z0D,.nil,by rw [List.drop_zero]; exact q2⟩,?_⟩
  rintro i m H2 ⟨δ2,acc,vs,rfl,hil,a2,hv,rv,p2⟩
  by_cases hlt:i < ds.length
  ·right
   have e:ds[i]? = some ds[i]:=by simp [hlt]
   rw [List.drop_eq_getElem_cons hlt] at p2
   refine ⟨((io' H2 a2.keep).2 i _ e).1,fun x H3 y=>hg l _ _ _ _ ?_⟩
   obtain ⟨a3,r3⟩:=z91 io' a2 e y
   simp only [z1Z] at p2
   cases eg:g (.pure ds[i]) δ2 with
   | none=>rw [eg] at p2; exact p2.elim
   | some δ3 =>
    rw [eg] at p2
    have p3:post c ((t δ3).bind fun b δ2=>if b then (el δ2).bind fun x δ3=>if acc.length < W6 then z1Z cs g t el (ds.drop (i + 1)) (clrD cs δ3) (acc ++ [x.d]) else .stuck
     else z1Z cs g t el (ds.drop (i + 1)) (clrD cs δ2) acc) Fin:=p2
    refine ⟨L2.clr cs σ,δ2,H3,δ2,.pure ds[i],δ3,.refl a3.ok,r3,eg,fun σ4 a4 o4=>?_⟩
    have le:Le (L2.clr cs σ) σ4:=⟨o4.1,fun j v ej=>by
     rw [o4.2 j (z3w cs σ j v ej).2]; exact ej⟩
    have hs:∀ (j:Nat) v,σ4[j]? = some (some v)→j ∉ cs→σ[j]? = some (some v):=fun j v ej hj=>by
     rw [o4.2 j hj] at ej
     exact (z3w cs σ j v ej).1
    refine ⟨le,ht l _ _ _ ⟨δ3,a4.ok,?_⟩⟩
    rw [z08] at p3
    have pinp:∀ p ∈ (c.plus l).pin,p.1 ∉ cs:=hp
    have a24:=a2.trans (a3.trans a4)
    have ln:∀ {σ':St} {δ':Dl} {H':Hp},Ok (c.plus l) σ' δ' H'→¬ Own σ' δ' l:=fun {σ' δ' H'} k=>z4t k
    have p3':post (c.plus l) (t δ3) fun b δ5=>post c (if b then (el δ5).bind fun x δ3=>if acc.length < W6 then z1Z cs g t el (ds.drop (i + 1)) (clrD cs δ3) (acc ++ [x.d]) else .stuck
     else z1Z cs g t el (ds.drop (i + 1)) (clrD cs δ5) acc) Fin:=p3
    refine z02 p3' fun b δ5 p5 H5 a5=>?_
    have a25:=a24.trans a5
    have hv3:H3 l=some (.lst vs):=a3.keep l _ hv (ln a2.ok)
    have hv5:H5 l=some (.lst vs):=a5.keep l _ hv3 (ln a4.ok)
    have rv3:=Reps.aft (Reps.aft (Reps.aft rv a3) a4) a5
    cases b with
    | false =>
     have c5:=a25.clear le pinp hs
     refine ⟨ds.length - (i + 1),by omega,clrD cs δ5,acc,vs,rfl,hlt,c5,hv5,Reps.anti rv3 fun b z=>.inl ?_,p5⟩
     exact z.elim .inl fun ⟨j,d,e1,e2⟩=>.inr ⟨j,d,(z1E cs δ5 j _ e1).1,le.2 j _ e2⟩
    | true =>
     have p5':post c ((el δ5).bind fun x δ3=>if acc.length < W6 then z1Z cs g t el (ds.drop (i + 1)) (clrD cs δ3) (acc ++ [x.d]) else .stuck) Fin:=p5
     rw [z08] at p5'
     refine he l _ _ _ ⟨δ5,a5.ok,?_⟩
     have p6:post (c.plus l) (el δ5) fun x δ6=>post c (if acc.length < W6 then z1Z cs g t el (ds.drop (i + 1)) (clrD cs δ6) (acc ++ [x.d]) else .stuck) Fin:=p5'
     refine z02 p6 fun x δ6 p7 v H6 a6 r6=>?_
     split at p7
     ·rename_i hz
      have a26:=a25.trans a6
      have hv6:H6 l=some (.lst vs):=a6.keep l _ hv5 (ln a5.ok)
      have rv6:=Reps.aft rv3 a6
      have rr:Reps H6 (Av (c.plus l) σ4 δ6) (vs ++ [v]) (acc ++ [x.d]):=rv6.append (.cons r6.rep .nil)
      have c6:=a26.clear le pinp hs
      have kpl:∀ b o,H6 b=some o→¬ Av (c.plus l) σ4 δ6 b→upd H6 l (.lst (vs ++ [v])) b=some o:=fun b o e n=>by
       rw [z0x (fun z=>n (by rw [z]; exact .inl (.inr rfl)))]; exact e
      have sub6:∀ b,Av (c.plus l) (L2.clr cs σ) (clrD cs δ6) b→Av (c.plus l) σ4 δ6 b:=fun b z=>z.elim .inl fun ⟨j,d,e1,e2⟩=>.inr ⟨j,d,(z1E cs δ6 j _ e1).1,le.2 j _ e2⟩
      refine ⟨vs,ds.length - (i + 1),hv6,by rw [rv6.1]; exact hz,by omega,clrD cs δ6,acc ++ [x.d],vs ++ [v],rfl,hlt,?_,z0D,Reps.anti (Reps.keep rr kpl) fun b z=>.inl (sub6 b z),p7⟩
      -- the list that is built has grown
      refine ⟨c6.ok.updB (.inr rfl) h0 _,fun a o ea n=>?_,fun a z=>c6.own a z,fun a o ea=>?_⟩
      ·have hal:a≠l:=fun z=>by rw [z,hl] at ea; cases ea
       rw [z0x hal]; exact c6.keep a o ea n
      ·by_cases hal:a=l
       ·exact ⟨_,by rw [hal]; exact z0D⟩
       ·obtain ⟨o',e'⟩:=c6.there a o ea
        exact ⟨o',by rw [z0x hal]; exact e'⟩
     ·exact p7.elim
  ·left
   have hi2:i=ds.length:=by omega
   subst hi2
   rw [List.drop_length] at p2
   exact ⟨(io' H2 a2.keep).1,p2 H2 vs a2 hv rv⟩
theorem z3V (hc:X.calm=true) (S:CScope X scope cs) (hi:SI X c tg iter it) (hg:∀ l s₀ H₀ ex,SGC (z1Q X scope s₀ H₀ ex) (c.plus l) cs tg g) (ht:∀ l s₀ H₀ ex,STs (z1Q X scope s₀ H₀ ex) (c.plus l) ifs t)
  (he:∀ l s₀ H₀ ex,SE (z1Q X scope s₀ H₀ ex) (c.plus l) elt el) (hp:∀ p ∈ c.pin,p.1 ∉ cs) (hs:∀ x,QJ iter X.env x=pure x:=by intro _; rfl) :
  SE X c (.ListComp elt [⟨tg,iter,ifs,0⟩] scope pos) (z2s cs it g t el) :=
 PE.weak (zem (g:=fun v σ H Q=>∃ l,tGC cs (c.plus l) g v σ H Q) (tt:=fun σ H Q=>∃ l,tT (c.plus l) t σ H Q) (te:=fun σ H Q=>∃ l,tD (c.plus l) el σ H Q) hc S hi
  (fun s₀ H₀ ex pins s σ H v u Q I r ⟨l,q⟩=>hg l s₀ H₀ ex pins s σ H v u Q I r q) (fun s₀ H₀ ex pins s σ H Q I ⟨l,q⟩=>ht l s₀ H₀ ex pins s σ H Q I q) (fun s₀ H₀ ex pins s σ H Q I ⟨l,q⟩=>he l s₀ H₀ ex pins s σ H Q I q) hs)
  fun σ H Q h=>z86 (fun _ _ _ h=>h) (fun l _ _ _ _ h=>⟨l,h⟩) (fun l _ _ _ h=>⟨l,h⟩) (fun l _ _ _ h=>⟨l,h⟩) hp h
theorem z4M {np:List Nat} {i:Nat} {y:Str} {py spos:Pos} (hnp:Np c np) (hc:X.calm=true) (S:CScope X scope cs) (hN:X.N.Nodup) (hi':X.N[i]? = some y) (hy:X.env.scope.names.lookup y=some .local)
  (hi:SI X c tg iter it) (hg:∀ l s₀ H₀ ex,SGC (z1Q X scope s₀ H₀ ex) (c.plus l) cs tg g) (ht:∀ l s₀ H₀ ex,STs (z1Q X scope s₀ H₀ ex) (c.plus l) ifs t)
  (he:∀ l s₀ H₀ ex,SE (z1Q X scope s₀ H₀ ex) (c.plus l) elt el) (hp:∀ p ∈ c.pin,p.1 ∉ cs)
  (hsw:J5 (.ListComp elt [⟨tg,iter,ifs,0⟩] scope pos) (some (.Name y py)) spos.line X.env=pure true:=by rfl) (hs:∀ x,QJ iter X.env x=pure x:=by intro _; rfl) :
  SS X c (.Assign [.Name y py] (.ListComp elt [⟨tg,iter,ifs,0⟩] scope pos) spos) (dAsg (z2s cs it g t el) (gNm np i)) :=
 PS.weak (za3 (g:=fun v σ H Q=>∃ l,tGC cs (c.plus l) g v σ H Q) (tt:=fun σ H Q=>∃ l,tT (c.plus l) t σ H Q) (te:=fun σ H Q=>∃ l,tD (c.plus l) el σ H Q) hc S hN hi' hy hi
  (fun s₀ H₀ ex pins s σ H v u Q I r ⟨l,q⟩=>hg l s₀ H₀ ex pins s σ H v u Q I r q) (fun s₀ H₀ ex pins s σ H Q I ⟨l,q⟩=>ht l s₀ H₀ ex pins s σ H Q I q) (fun s₀ H₀ ex pins s σ H Q I ⟨l,q⟩=>he l s₀ H₀ ex pins s σ H Q I q) hsw hs)
  fun D σ H h=>z7m (fun σ H Q h=>z86 (fun _ _ _ h=>h) (fun l _ _ _ _ h=>⟨l,h⟩) (fun l _ _ _ h=>⟨l,h⟩) (fun l _ _ _ h=>⟨l,h⟩) hp h) (fun _ _ _ _ h=>z7b hnp h) h
end
abbrev DF:=List S→Option (S×List S)
def z0G:Nat→List S→List V→List (Nat×Addr)
 | n,.own _ :: ss,.ref a :: vs=>(n,a) :: z0G (n + 1) ss vs
 | n,_ :: ss,_ :: vs=>z0G (n + 1) ss vs
 | _,_,_=>[]
theorem z1I:∀ {n:Nat} {ss:List S} {vs:List V} {i:Nat} {a:Addr},(i,a) ∈ z0G n ss vs→∃ j d,i=n + j∧ss[j]? = some (.own d)∧vs[j]? = some (.ref a)
 | n,[],vs,i,a,h=>by simp [z0G] at h
 | n,s :: ss,[],i,a,h=>by cases s <;> simp [z0G] at h
 | n,s :: ss,v :: vs,i,a,h=>by
  have rec':(i,a) ∈ z0G (n + 1) ss vs→∃ j d,i=n + j∧(s :: ss)[j]? = some (.own d)∧(v :: vs)[j]? = some (.ref a):=fun h=>by
   obtain ⟨j,d,e,h1,h2⟩:=z1I h
   exact ⟨j + 1,d,by omega,by simpa using h1,by simpa using h2⟩
  cases s with
  | pure d=>exact rec' h
  | own d =>
   cases v with
   | ref b =>
    rcases Wj.mp h with e | h
    ·cases e
     exact ⟨0,d,rfl,rfl,rfl⟩
    ·exact rec' h
   | _=>exact rec' h
theorem z4w:∀ {n:Nat} {ss:List S} {vs:List V} {j:Nat} {d:D} {a:Addr},ss[j]? = some (.own d)→vs[j]? = some (.ref a)→(n + j,a) ∈ z0G n ss vs
 | n,[],vs,j,d,a,h,_=>by simp at h
 | n,s :: ss,[],j,d,a,_,h=>by simp at h
 | n,s :: ss,v :: vs,0,d,a,h1,h2=>by
  simp at h1 h2
  subst h1 h2
  exact Wi
 | n,s :: ss,v :: vs,j + 1,d,a,h1,h2=>by
  have ih:=z4w (n:=n + 1) (ss:=ss) (vs:=vs) (j:=j) (d:=d) (a:=a) (by simpa using h1) (by simpa using h2)
  have e:n + 1 + j=n + (j + 1):=by omega
  rw [e] at ih
  cases s with
  | pure d=>exact ih
  | own d =>
   cases v with
   | ref b=>exact Wg _ ih
   | _=>exact ih
abbrev z17 (vs:List V):St:=vs.map some
abbrev z1i (ss:List S):Dl:=ss.map some
theorem someS_get {ss:List S} {i:Nat} {r:S}:(z1i ss)[i]? = some (some r) ↔ ss[i]? = some r:=by
 rw [WR]
 cases ss[i]? <;> simp
theorem some'_get {vs:List V} {i:Nat} {v:V}:(z17 vs)[i]? = some (some v) ↔ vs[i]? = some v:=by
 rw [WR]
 cases vs[i]? <;> simp
def spD (n:Nat) (G:DF):Sp:=fun vs H Q _=>∃ ss B,vs.length=n∧Ok ⟨H,B,z0G 0 ss vs,fun _ _=>False⟩ (z17 vs) (z1i ss) H∧∃ r outs,G ss=some (r,outs) ∧
 ∀ v H',Aft ⟨H,B,z0G 0 ss vs,fun _ _=>False⟩ (z17 vs) (z1i ss) H (z17 vs) (z1i outs) H'→RepS ⟨H,B,z0G 0 ss vs,fun _ _=>False⟩ (z17 vs) (z1i outs) H H' v r→Q v H'
def KFn (P:Wm) (w:Ws) (K:W3) (mg:Str→Option Value) (base:Heap) (k:Nat) (x:Str) (n:Nat) (G:DF):Prop :=
 ∃ (f:Addr) (fd:WC) (ps:List Str),mg x=some (.ref f)∧Q9 K (.ref f)=true∧Binds K fd ps []∧FnOk P w K mg base CX0 k f fd ps (spD n G)
def z0g (n:Nat) (ss:List S):Dl:=z1i ss ++ Wd (n - ss.length) none
def z0e:Nat→List S→Dl→Option (List S)
 | _,[],_=>some []
 | n,.pure d :: ss,δ=>(z0e (n + 1) ss δ).map (.pure d :: ·)
 | n,.own _ :: ss,δ=>match δ[n]? with
  | some (some (.own d'))=>(z0e (n + 1) ss δ).map (.own d' :: ·)
  | _=>none
def z0H:Fl→Option S
 | .next=>some (.pure .non)
 | .ret r=>some r
 | _=>none
def runD (f:DS) (n:Nat) (ss:List S):Option (S×List S):=match f (z0g n ss) with
 | .ok fl δ=>(z0H fl).bind fun r=>(z0e 0 ss δ).map fun outs=>(r,outs)
 | _=>none
def ioOk (np:List Nat):Nat→List S→Bool
 | _,[]=>true
 | n,.own _ :: ss=>np.contains n && ioOk np (n + 1) ss
 | n,.pure _ :: ss=>ioOk np (n + 1) ss
theorem z7a:∀ {n:Nat} {ss:List S} {j:Nat} {d:D},ioOk np n ss=true→ss[j]? = some (.own d)→np.contains (n + j)=true
 | n,[],j,d,_,h=>by simp at h
 | n,s :: ss,0,d,h,e=>by
  simp at e
  subst e
  simp only [ioOk,Wk] at h
  exact h.1
 | n,s :: ss,j + 1,d,h,e=>by
  have h':ioOk np (n + 1) ss=true:=by
   cases s with
   | pure d=>exact h
   | own d=>simp only [ioOk,Wk] at h; exact h.2
  have:=z7a (n:=n + 1) (j:=j) h' (by simpa using e)
  rw [show n + (j + 1)=n + 1 + j by omega]
  exact this
theorem z5K:∀ {n:Nat} {ss outs:List S} {δ:Dl},z0e n ss δ=some outs→outs.length=ss.length∧∀ (i:Nat) s,ss[i]? = some s→(∃ d,s = .pure d∧outs[i]? = some (.pure d))∨∃ d d',s = .own d∧δ[n + i]? = some (some (.own d'))∧outs[i]? = some (.own d')
 | n,[],outs,δ,h=>by
  simp only [z0e,W9] at h
  subst h
  exact ⟨rfl,fun i s e=>by simp at e⟩
 | n,.pure d :: ss,outs,δ,h=>by
  simp only [z0e] at h
  cases e:z0e (n + 1) ss δ with
  | none=>rw [e] at h; cases h
  | some os =>
   rw [e] at h
   simp only [WL,W9] at h
   subst h
   obtain ⟨h1,h2⟩:=z5K e
   refine ⟨by simp [h1],fun i s es=>?_⟩
   cases i with
   | zero=>simp at es; subst es; exact .inl ⟨d,rfl,rfl⟩
   | succ i =>
    rcases h2 i s (by simpa using es) with ⟨d,z1,z2⟩ | ⟨d,d',z1,z2,z3⟩
    ·exact .inl ⟨d,z1,by simpa using z2⟩
    ·exact .inr ⟨d,d',z1,by rw [show n + (i + 1)=n + 1 + i by omega]; exact z2,by simpa using z3⟩
 | n,.own d :: ss,outs,δ,h=>by
  simp only [z0e] at h
  split at h
  ·rename_i d' ed
   cases e:z0e (n + 1) ss δ with
   | none=>rw [e] at h; cases h
   | some os =>
    rw [e] at h
    simp only [WL,W9] at h
    subst h
    obtain ⟨h1,h2⟩:=z5K e
    refine ⟨by simp [h1],fun i s es=>?_⟩
    cases i with
    | zero=>simp at es; subst es; exact .inr ⟨d,d',rfl,ed,rfl⟩
    | succ i =>
     rcases h2 i s (by simpa using es) with ⟨d,z1,z2⟩ | ⟨d,d',z1,z2,z3⟩
     ·exact .inl ⟨d,z1,by simpa using z2⟩
     ·exact .inr ⟨d,d',z1,by rw [show n + (i + 1)=n + 1 + i by omega]; exact z2,by simpa using z3⟩
  ·cases h
section
variable {c:Fc} {H H':Hp} {vs:List V} {ss outs:List S} {σ':St} {δ':Dl}
theorem z3j {α:Type} {l:List (Option α)} {k i:Nat} {v:α} (h:(l ++ Wd k none)[i]? = some (some v)):l[i]? = some (some v):=by
 by_cases hi:i < l.length
 ·rw [QL hi] at h; exact h
 ·rw [List.getElem?_append_right (by omega),List.getElem?_replicate] at h
  split at h <;> cases h
theorem z31 {α:Type} {l:List (Option α)} {k i:Nat} {v:α} (h:l[i]? = some (some v)):(l ++ Wd k none)[i]? = some (some v):=by
 have hi:i < l.length:=(Wf.mp h).1
 rw [QL hi]; exact h
theorem Own.ext {σ:St} {δ:Dl} {k:Nat} {a:Addr}:Own (σ ++ Wd k none) (δ ++ Wd k none) a ↔ Own σ δ a :=
 ⟨fun ⟨i,d,e1,e2⟩=>⟨i,d,z3j e1,z3j e2⟩,fun ⟨i,d,e1,e2⟩=>⟨i,d,z31 e1,z31 e2⟩⟩
theorem Ok.ext {σ:St} {δ:Dl} (k:Ok c σ δ H) (n:Nat):Ok c (σ ++ Wd n none) (δ ++ Wd n none) H:=by
 have sub:∀ b,Av c (σ ++ Wd n none) (δ ++ Wd n none) b→Av c σ δ b:=fun b z=>z.elim .inl fun z=>.inr (Own.ext.mp z)
 refine ⟨k.keep,k.bd,k.ith,by simp [k.len],fun i d e=>?_,fun i d e=>?_,fun i j a d d' e1 e2 e3 e4=>k.inj i j a d d' (z3j e1) (z3j e2) (z3j e3) (z3j e4),fun p hm=>z31 (k.pinned p hm)⟩
 ·obtain ⟨v,h1,h2⟩:=k.slot i d (z3j e)
  exact ⟨v,z31 h1,h2.anti fun b z=>.inl (sub b z)⟩
 ·obtain ⟨a,h1,h2,h3⟩:=k.own i d (z3j e)
  exact ⟨a,z31 h1,h2.anti fun b z=>.inl (sub b z),h3⟩
theorem z8L {B:Addr→Prop} {n:Nat} (hc:c = ⟨H,B,z0G 0 ss vs,fun _ _=>False⟩) (k:Ok c (z17 vs) (z1i ss) H) (x:Aft c (z17 vs ++ Wd n none) (z1i ss ++ Wd n none) H σ' δ' H') (ho:z0e 0 ss δ'=some outs) :
  Aft c (z17 vs) (z1i ss) H (z17 vs) (z1i outs) H'∧∀ v r,RepS c σ' δ' H H' v r→RepS c (z17 vs) (z1i outs) H H' v r:=by
 obtain ⟨hlen,hat⟩:=z5K ho
 have hvs:ss.length=vs.length:=by have:=k.len; simpa using this
 have pin:∀ (i:Nat) (a:Addr) (d:D),ss[i]? = some (.own d)→vs[i]? = some (.ref a)→σ'[i]? = some (some (.ref a)):=fun i a d h1 h2=>by
  have:=z4w (n:=0) h1 h2
  rw [Wy] at this
  exact x.ok.pinned (i,a) (by rw [hc]; exact this)
 have ownS:∀ (i:Nat) (d:D),outs[i]? = some (.own d)→(∃ d₀,ss[i]? = some (.own d₀))∧δ'[i]? = some (some (.own d)):=fun i d e=>by
  have hi:i < ss.length:=by rw [← hlen]; exact (Wf.mp e).1
  rcases hat i ss[i] (by simp [hi]) with ⟨d₁,z1,z2⟩ | ⟨d₁,d',z1,z2,z3⟩
  ·rw [e] at z2; cases z2
  ·rw [e] at z3; cases z3
   rw [Wy] at z2
   exact ⟨⟨d₁,by rw [WA hi,z1]⟩,z2⟩
 have sub:∀ b,Own (z17 vs) (z1i outs) b→Own σ' δ' b:=fun b ⟨i,d,e1,e2⟩=>by
  obtain ⟨⟨d₀,h0⟩,h1⟩:=ownS i d (someS_get.mp e1)
  exact ⟨i,d,h1,pin i b d₀ h0 (some'_get.mp e2)⟩
 have subA:∀ b,Av c (z17 vs) (z1i outs) b→Av c σ' δ' b:=fun b z=>z.elim .inl fun z=>.inr (sub b z)
 have okO:∀ {c':Fc},c'.pin=c.pin→Ok c' σ' δ' H'→(∀ b,c.B b→c'.B b)→(∀ (i:Nat) d v,ss[i]? = some (.pure d)→vs[i]? = some v→Rep H' (Av c' σ' δ') v d)→Ok c' (z17 vs) (z1i outs) H':=fun {c'} ep k' hB hsl=>by
  have subA':∀ b,Av c' (z17 vs) (z1i outs) b→Av c' σ' δ' b:=fun b z=>z.elim .inl fun z=>.inr (sub b z)
  refine ⟨k'.keep,k'.bd,k'.ith,by simp [hlen,hvs],fun i d e=>?_,fun i d e=>?_,fun i j a d d' e1 e2 e3 e4=>?_,fun p hm=>?_⟩
  ·have e':=someS_get.mp e
   have hi:i < ss.length:=by rw [← hlen]; exact (Wf.mp e').1
   have hv:i < vs.length:=by omega
   rcases hat i ss[i] (by simp [hi]) with ⟨d₁,z1,z2⟩ | ⟨d₁,d',z1,z2,z3⟩
   ·rw [e'] at z2; cases z2
    exact ⟨vs[i],by simp [hv],(hsl i d vs[i] (by rw [WA hi,z1]) (by simp [hv])).anti fun b z=>.inl (subA' b z)⟩
   ·rw [e'] at z3; cases z3
  ·have e':=someS_get.mp e
   obtain ⟨⟨d₀,h0⟩,h1⟩:=ownS i d e'
   obtain ⟨a₀,h2,_⟩:=k.own i d₀ (someS_get.mpr h0)
   obtain ⟨a,h3,h4,h5⟩:=k'.own i d h1
   rw [pin i a₀ d₀ h0 (some'_get.mp h2)] at h3
   cases h3
   exact ⟨a₀,h2,h4.anti fun b z=>.inl (subA' b z),h5⟩
  ·obtain ⟨⟨d₀,h0⟩,h1⟩:=ownS i d (someS_get.mp e1)
   obtain ⟨⟨d₁,h2⟩,h3⟩:=ownS j d' (someS_get.mp e2)
   exact k'.inj i j a d d' h1 h3 (pin i a d₀ h0 (some'_get.mp e3)) (pin j a d₁ h2 (some'_get.mp e4))
  ·exact k.pinned p (by rw [← ep]; exact hm)
 have slots:∀ (i:Nat) d v,ss[i]? = some (.pure d)→vs[i]? = some v→Rep H' (Av c σ' δ') v d:=fun i d v h1 h2=>by
  obtain ⟨w,e1,r⟩:=(k.ext n).slot i d (z31 (someS_get.mpr h1))
  rw [z31 (some'_get.mpr h2)] at e1
  cases e1
  exact Rep.aft r x
 refine ⟨⟨okO rfl x.ok (fun _ z=>z) slots,fun a o e m=>x.keep a o e fun z=>m (Own.ext.mp z),fun a z=>(x.own a (sub a z)).elim (fun z=>.inl (Own.ext.mp z)) .inr,x.there⟩,fun v r hr=>?_⟩
 cases r with
 | pure d=>exact Rep.anti hr fun b z=>.inl (subA b z)
 | own d =>
  obtain ⟨a,ea,o,nb,h0,kp,hs⟩:=hr
  refine ⟨a,ea,o.anti fun b z=>.inl (z.elim .inl fun z=>.inr (sub b z)),nb,h0,okO rfl kp (fun _ z=>.inl z) fun i d v h1 h2=>?_,hs⟩
  obtain ⟨w,e1,r⟩:=(k.ext n).slot i d (z31 (someS_get.mpr h1))
  rw [z31 (some'_get.mpr h2)] at e1
  cases e1
  have hHa:H a=none:=hs
  have r1:Rep H (Av c (z17 vs ++ Wd n none) (z1i ss ++ Wd n none)) v d:=r
  have r2:Rep H (fun b=>Av c (z17 vs ++ Wd n none) (z1i ss ++ Wd n none) b∨Av (c.plus a) σ' δ' b) v d:=r1.anti fun b z=>by
   rcases z with z | (z | z) | z
   ·exact .inl z
   ·exact .inl (.inl z)
   ·exact .inr (by rw [z]; exact hHa)
   ·rcases x.own b z with q | q
    ·exact .inl (.inr q)
    ·exact .inr q
  exact (r2.keep fun b o e m=>x.keep b o e fun z=>m (.inl (.inr z))).anti fun b z=>.inl (.inr z)
end
section
variable {P:Wm} {w:Ws} {K:W3} {mg:Str→Option Value} {base:Heap}
theorem zgq {x qual:Str} {st:Stmt} {f:Addr} {fd:WC} {N ps:List Str} {k:Nat} {np:List Nat} {fb:DS} {G:DF} (F:Fun K x qual st f fd) (S:FnScope N ps (z06 st))
  (hbody:∀ (c:Fc) (cdv:Value) (A:Wq) (outer:List Env) (s:W5) (H:Hp) (E:XK),Room k (A.deeper (Qo qual (z06 st) s.heap.objs.size f cdv))→Np c np→SSs (cxOf CX0 P w K mg base N qual (z06 st) f cdv A outer s H E).nox c (z1s st) fb)
  (hG:∀ ss y,G ss=some y→ioOk np 0 ss=true∧runD fb N.length ss=some y):FnOk P w K mg base CX0 (k + 1) f fd ps (spD ps.length G):=by
 refine F.ok S (fun vs H Q E h=>?_) fun cdv A outer s H vs Q E hr h=>?_
 ·obtain ⟨ss,B,hl,_⟩:=h
  exact hl
 ·obtain ⟨ss,B,hl,ok,r,outs,hg,q⟩:=h
  obtain ⟨hio,hrun⟩:=hG ss _ hg
  have hvs:ss.length=vs.length:=by have:=ok.len; simpa using this
  have np':Np ⟨H,B,z0G 0 ss vs,fun _ _=>False⟩ np:=fun p hp=>by
   obtain ⟨j,d,e,h1,_⟩:=z1I (i:=p.1) (a:=p.2) hp
   rw [e]
   exact z7a hio h1
  refine ⟨tDS ⟨H,B,z0G 0 ss vs,fun _ _=>False⟩ fb,hbody ⟨H,B,z0G 0 ss vs,fun _ _=>False⟩ cdv A outer s H E hr np',?_⟩
  have hst:start N vs=z17 vs ++ Wd (N.length - ss.length) none:=by rw [hvs]; rfl
  refine ⟨z0g N.length ss,by rw [hst]; exact ok.ext _,?_⟩
  unfold runD at hrun
  unfold z2z
  cases e:fb (z0g N.length ss) with
  | exc x δx=>rw [e] at hrun; cases hrun
  | stuck=>rw [e] at hrun; cases hrun
  | ok fl δ' =>
   rw [e] at hrun
   show ∀ σ' H',Aft _ (start N vs) (z0g N.length ss) H σ' δ' H'→fin _ _ σ' δ' H' fl
   intro σ' H' a
   rw [hst] at a
   simp only at hrun
   cases fl with
   | brk=>cases hrun
   | cont=>cases hrun
   | next =>
    simp only [z0H,WD] at hrun
    cases eo:z0e 0 ss δ' with
    | none=>rw [eo] at hrun; cases hrun
    | some os =>
     rw [eo] at hrun
     cases hrun
     obtain ⟨l1,l2⟩:=z8L rfl ok a eo
     exact q .non H' l1 .non
   | ret r' =>
    simp only [z0H,WD] at hrun
    cases eo:z0e 0 ss δ' with
    | none=>rw [eo] at hrun; cases hrun
    | some os =>
     rw [eo] at hrun
     cases hrun
     obtain ⟨l1,l2⟩:=z8L rfl ok a eo
     exact fun v rv=>q v H' l1 (l2 v _ rv)
theorem z15 {x qual:Str} {st:Stmt} {f:Addr} {fd:WC} {N ps:List Str} {k:Nat} {np:List Nat} {fb:DS} {G:DF} (F:Fun K x qual st f fd) (hm:mg x=some (.ref f)) (hb:Binds K fd ps []) (S:FnScope N ps (z06 st))
  (hbody:∀ (c:Fc) (cdv:Value) (A:Wq) (outer:List Env) (s:W5) (H:Hp) (E:XK),Room k (A.deeper (Qo qual (z06 st) s.heap.objs.size f cdv))→Np c np→SSs (cxOf CX0 P w K mg base N qual (z06 st) f cdv A outer s H E).nox c (z1s st) fb)
  (hG:∀ ss y,G ss=some y→ioOk np 0 ss=true∧runD fb N.length ss=some y):KFn P w K mg base (k + 1) x ps.length G:=⟨f,fd,ps,hm,F.kp,hb,zgq F S hbody hG⟩
end
inductive Ak where
 | val (f:DE)
 | io (i:Nat)
def evX:List Ak→Dl→Rs (List (Option D))
 | [],δ=>.ok [] δ
 | .val f :: r,δ=>(f δ).bind fun x δ1=>(evX r δ1).bind fun xs δ2=>.ok (some x.d :: xs) δ2
 | .io _ :: r,δ=>(evX r δ).bind fun xs δ2=>.ok (none :: xs) δ2
inductive ArgR (c:Fc) (σ:St) (δ:Dl) (H:Hp):List V→List Ak→List (Option D)→Prop
 | nil:ArgR c σ δ H [] [] []
 | val {v:V} {d:D} {f:DE} {vs:List V} {as:List Ak} {ds:List (Option D)}:Rep H (Av c σ δ) v d→ArgR c σ δ H vs as ds→ArgR c σ δ H (v :: vs) (.val f :: as) (some d :: ds)
 | io {v:V} {i:Nat} {vs:List V} {as:List Ak} {ds:List (Option D)}:σ[i]? = some (some v)→ArgR c σ δ H vs as ds→ArgR c σ δ H (v :: vs) (.io i :: as) (none :: ds)
theorem ArgR.aft (h:ArgR c σ δ H vs as ds) (x:Aft c σ δ H σ δ' H'):ArgR c σ δ' H' vs as ds:=by
 induction h with
 | nil=>exact .nil
 | val r _ ih=>exact .val (Rep.aft r x) ih
 | io e _ ih=>exact .io e ih
def tX (c:Fc) (as:List Ak):TA:=fun σ H Q=>∃ δ,Ok c σ δ H∧(∀ i,Ak.io i ∈ as→∃ v,σ[i]? = some (some v))∧post c (evX as δ) fun ds δ'=>∀ vs H',Aft c σ δ H σ δ' H'→ArgR c σ δ' H' vs as ds→Q vs H'
abbrev SX (X:Cx) (c:Fc) (es:List Expr) (as:List Ak):Prop:=PA X es (tX c as)
section
variable {X:Cx} {c:Fc} {e:Expr} {es:List Expr} {fe:DE} {as:List Ak} {pos pp:Pos}
theorem z0n:SX X c [] []:=PA.weak z2d fun σ H Q ⟨δ,k,_,q⟩=>q [] H (.refl k) .nil
theorem zfb (ha:SE X c e fe) (hr:SX X c es as) (hs:W7 (e :: es) X.env=(false,eval e X.env) :: W7 es X.env:=by rfl):SX X c (e :: es) (.val fe :: as):=PA.weak (z0U ha hr hs) fun σ H Q ⟨δ,k,hio,q⟩=>by
 unfold evX at q
 rw [z08] at q
 refine ⟨δ,k,z02 q fun x δ1 q1 v H1 a1 r1=>⟨δ1,a1.ok,fun i hi=>hio i (Wg _ hi),?_⟩⟩
 rw [z08] at q1
 exact z02 q1 fun xs δ2 q2 vs H2 a2 r2=>q2 (v :: vs) H2 (a1.trans a2) (.val (Rep.aft r1.rep a2) r2)
theorem sx_io (ha:PE X e (tVar i)) (hr:SX X c es as) (hs:W7 (e :: es) X.env=(false,eval e X.env) :: W7 es X.env:=by rfl):SX X c (e :: es) (.io i :: as):=PA.weak (z0U ha hr hs) fun σ H Q ⟨δ,k,hio,q⟩=>by
 obtain ⟨v,ev⟩:=hio i Wi
 unfold evX at q
 rw [z08] at q
 exact ⟨v,ev,δ,k,fun i hi=>hio i (Wg _ hi),z02 q fun xs δ2 q2 vs H2 a2 r2=>q2 (v :: vs) H2 a2 (.io ev r2)⟩
end
def mkA:List Ak→List (Option D)→Dl→Option (List S)
 | [],[],_=>some []
 | .val _ :: as,some d :: ds,δ=>(mkA as ds δ).map (.pure d :: ·)
 | .io i :: as,none :: ds,δ=>match δ[i]? with
  | some (some (.own d))=>(mkA as ds δ).map (.own d :: ·)
  | _=>none
 | _,_,_=>none
def ios:List Ak→List Nat
 | []=>[]
 | .val _ :: as=>ios as
 | .io i :: as=>i :: ios as
def putA:List Ak→List S→Dl→Dl
 | .io i :: as,r :: rs,δ=>putA as rs (δ.set i (some r))
 | .val _ :: as,_ :: rs,δ=>putA as rs δ
 | _,_,δ=>δ
def ndup:List Nat→Bool
 | []=>true
 | i :: r=>!r.contains i && ndup r
def z09 (G:DF) (as:List Ak):DE:=fun δ=>if (ios as).all (z0s δ) && ndup (ios as) then (evX as δ).bind fun ds δ1=>match mkA as ds δ1 with
  | none=>.stuck
  | some ss=>match G ss with
   | none=>.stuck
   | some (r,outs)=>.ok r (putA as outs δ1)
 else .stuck
theorem z3E:∀ {l:List Nat},ndup l=true→l.Nodup
 | [],_=>.nil
 | i :: r,h=>by
  simp only [ndup,Wk,JA] at h
  exact List.nodup_cons.mpr ⟨fun hm=>by have:=h.1; simp at this; exact this hm,z3E h.2⟩
theorem ios_mem:∀ {as:List Ak} {i:Nat},i ∈ ios as ↔ Ak.io i ∈ as
 | [],i=>by simp [ios]
 | .val f :: as,i=>by simp [ios,ios_mem (as:=as)]
 | .io j :: as,i=>by simp [ios,ios_mem (as:=as)]
theorem zbC:∀ {as:List Ak} {i j k:Nat},(ios as).Nodup→as[j]? = some (.io i)→as[k]? = some (.io i)→j=k
 | [],i,j,k,_,h,_=>by simp at h
 | .val f :: as,i,j,k,nd,h1,h2=>by
  cases j with
  | zero=>simp at h1
  | succ j =>
   cases k with
   | zero=>simp at h2
   | succ k=>exact congrArg (· + 1) (zbC (as:=as) nd (by simpa using h1) (by simpa using h2))
 | .io n :: as,i,j,k,nd,h1,h2=>by
  have nd':=QG.mp nd
  cases j with
  | zero =>
   simp at h1
   subst h1
   cases k with
   | zero=>rfl
   | succ k=>exact absurd (ios_mem.mpr (WB (by simpa using h2))) nd'.1
  | succ j =>
   cases k with
   | zero =>
    simp at h2
    subst h2
    exact absurd (ios_mem.mpr (WB (by simpa using h1))) nd'.1
   | succ k=>exact congrArg (· + 1) (zbC (as:=as) nd'.2 (by simpa using h1) (by simpa using h2))
section
variable {c:Fc} {σ:St} {δ:Dl} {H:Hp} {vs:List V} {as:List Ak} {ds:List (Option D)} {ss:List S}
theorem z7R (h:ArgR c σ δ H vs as ds):∀ {ss:List S},mkA as ds δ=some ss→ss.length=vs.length∧as.length=vs.length∧∀ (j:Nat) s v,ss[j]? = some s→vs[j]? = some v →
  (∃ d f,s = .pure d∧as[j]? = some (.val f)∧Rep H (Av c σ δ) v d)∨∃ d i,s = .own d∧as[j]? = some (.io i)∧σ[i]? = some (some v)∧δ[i]? = some (some (.own d)):=by
 induction h with
 | nil =>
  intro ss h
  simp only [mkA,W9] at h
  subst h
  exact ⟨rfl,rfl,fun j s v e _=>by simp at e⟩
 | @val v d f vs as ds r _ ih =>
  intro ss h
  simp only [mkA] at h
  cases e:mkA as ds δ with
  | none=>rw [e] at h; cases h
  | some rs =>
   rw [e] at h
   simp only [WL,W9] at h
   subst h
   obtain ⟨h1,h2,h3⟩:=ih e
   refine ⟨by simp [h1],by simp [h2],fun j s v' e1 e2=>?_⟩
   cases j with
   | zero=>simp at e1 e2; subst e1 e2; exact .inl ⟨d,f,rfl,rfl,r⟩
   | succ j=>simpa using h3 j s v' (by simpa using e1) (by simpa using e2)
 | @io v i vs as ds ev _ ih =>
  intro ss h
  simp only [mkA] at h
  split at h
  ·rename_i d ed
   cases e:mkA as ds δ with
   | none=>rw [e] at h; cases h
   | some rs =>
    rw [e] at h
    simp only [WL,W9] at h
    subst h
    obtain ⟨h1,h2,h3⟩:=ih e
    refine ⟨by simp [h1],by simp [h2],fun j s v' e1 e2=>?_⟩
    cases j with
    | zero=>simp at e1 e2; subst e1 e2; exact .inr ⟨d,i,rfl,rfl,ev,ed⟩
    | succ j=>simpa using h3 j s v' (by simpa using e1) (by simpa using e2)
  ·cases h
theorem z6Y:∀ (as:List Ak) (rs:List S) (δ:Dl),(putA as rs δ).length=δ.length
 | [],rs,δ=>by simp [putA]
 | .val f :: as,[],δ=>by simp [putA]
 | .io i :: as,[],δ=>by simp [putA]
 | .val f :: as,r :: rs,δ=>by simp [putA,z6Y as rs δ]
 | .io i :: as,r :: rs,δ=>by simp [putA,z6Y as rs]
theorem z4s:∀ (as:List Ak) (rs:List S) (δ:Dl) (i:Nat),i ∉ ios as→(putA as rs δ)[i]? = δ[i]?
 | [],rs,δ,i,_=>by simp [putA]
 | .val f :: as,[],δ,i,_=>by simp [putA]
 | .io j :: as,[],δ,i,_=>by simp [putA]
 | .val f :: as,r :: rs,δ,i,h=>by rw [putA]; exact z4s as rs δ i h
 | .io j :: as,r :: rs,δ,i,h=>by
  simp only [ios,Wj,not_or] at h
  rw [putA,z4s as rs _ i h.2,W8 (Ne.symm h.1)]
theorem z6Z:∀ (as:List Ak) (rs:List S) (δ:Dl) (i j:Nat) (r:S),(ios as).Nodup→as[j]? = some (.io i)→rs[j]? = some r→i < δ.length→(putA as rs δ)[i]? = some (some r)
 | [],rs,δ,i,j,r,_,h,_,_=>by simp at h
 | a :: as,[],δ,i,j,r,_,_,h,_=>by simp at h
 | .val f :: as,r0 :: rs,δ,i,j,r,nd,h1,h2,hi=>by
  cases j with
  | zero=>simp at h1
  | succ j=>rw [putA]; exact z6Z as rs δ i j r nd (by simpa using h1) (by simpa using h2) hi
 | .io k :: as,r0 :: rs,δ,i,j,r,nd,h1,h2,hi=>by
  have nd':=QG.mp nd
  cases j with
  | zero =>
   simp at h1 h2
   subst h1 h2
   rw [putA,z4s as rs _ k nd'.1,Wr hi]
  | succ j=>rw [putA]; exact z6Z as rs _ i j r nd'.2 (by simpa using h1) (by simpa using h2) (by simpa using hi)
theorem z8T (k:Ok c σ δ H) (hr:ArgR c σ δ H vs as ds) (hm:mkA as ds δ=some ss) (nd:(ios as).Nodup) :
  Ok ⟨H,fun a=>Av c σ δ a∧¬ ∃ (j:Nat) (d:D),ss[j]? = some (S.own d)∧vs[j]? = some (V.ref a),z0G 0 ss vs,fun _ _=>False⟩ (z17 vs) (z1i ss) H:=by
 obtain ⟨h1,h2,h3⟩:=z7R hr hm
 have at':∀ (j:Nat) s,ss[j]? = some s→∃ v,vs[j]? = some v:=fun j s e=>by
  have:j < vs.length:=by rw [← h1]; exact (Wf.mp e).1
  exact ⟨vs[j],by simp [this]⟩
 have ownE:∀ a,Own (z17 vs) (z1i ss) a ↔ ∃ (j:Nat) (d:D),ss[j]? = some (S.own d)∧vs[j]? = some (V.ref a):=fun a =>
  ⟨fun ⟨j,d,e1,e2⟩=>⟨j,d,someS_get.mp e1,some'_get.mp e2⟩,fun ⟨j,d,e1,e2⟩=>⟨j,d,someS_get.mpr e1,some'_get.mpr e2⟩⟩
 have own2:∀ a,Own (z17 vs) (z1i ss) a→Own σ δ a:=fun a z=>by
  obtain ⟨j,d,e1,e2⟩:=(ownE a).mp z
  rcases h3 j _ _ e1 e2 with ⟨d',f,e,_⟩ | ⟨d',i,e,_,es,ed⟩
  ·cases e
  ·exact ⟨i,d',ed,es⟩
 have sub:∀ a,Av ⟨H,fun a=>Av c σ δ a∧¬ ∃ (j:Nat) (d:D),ss[j]? = some (S.own d)∧vs[j]? = some (V.ref a),z0G 0 ss vs,fun _ _=>False⟩ (z17 vs) (z1i ss) a→Av c σ δ a:=fun a z=>z.elim (fun z=>z.1) fun z=>.inr (own2 a z)
 refine ⟨fun a o e _=>e,fun a z=>k.avthere z.1,fun a ⟨i,hi⟩=>?_,by simp [h1],fun j d e=>?_,fun j d e=>?_,fun i j a d d' e1 e2 e3 e4=>?_,fun p hp=>?_⟩
 ·obtain ⟨j,d,_,e1,e2⟩:=z1I hi
  exact k.othere (own2 a ((ownE a).mpr ⟨j,d,e1,e2⟩))
 ·have e':=someS_get.mp e
  obtain ⟨v,ev⟩:=at' j _ e'
  rcases h3 j _ v e' ev with ⟨d',f,e,_,r⟩ | ⟨d',i,e,_⟩
  ·cases e
   exact ⟨v,some'_get.mpr ev,r.anti fun b z=>.inl (sub b z)⟩
  ·cases e
 ·have e':=someS_get.mp e
  obtain ⟨v,ev⟩:=at' j _ e'
  rcases h3 j _ v e' ev with ⟨d',f,e,_,r⟩ | ⟨d',i,e,_,es,ed⟩
  ·cases e
  ·cases e
   obtain ⟨a,g1,g2,g3⟩:=k.own i d ed
   rw [es] at g1
   cases g1
   refine ⟨a,some'_get.mpr ev,g2.anti fun b z=>.inl (sub b z),.inl ⟨0 + j,z4w e' ev⟩,fun z=>z.2 ⟨j,d,e',ev⟩⟩
 ·have f1:=someS_get.mp e1
  have f2:=someS_get.mp e2
  rcases h3 i _ _ f1 (some'_get.mp e3) with ⟨_,_,e,_⟩ | ⟨d1,i1,e,a1,s1,x1⟩
  ·cases e
  ·rcases h3 j _ _ f2 (some'_get.mp e4) with ⟨_,_,e',_⟩ | ⟨d2,i2,e',a2,s2,x2⟩
   ·cases e'
   ·have:=k.inj i1 i2 a d1 d2 x1 x2 s1 s2
    subst this
    exact zbC nd a1 a2
 ·obtain ⟨j,d,e,e1,e2⟩:=z1I (i:=p.1) (a:=p.2) hp
  rw [Wy] at e
  rw [e]
  exact some'_get.mpr e2
theorem z5v (k:Ok c σ δ H) (hr:ArgR c σ δ H vs as ds) (hm:mkA as ds δ=some ss) (nd:(ios as).Nodup) (hB:B=fun a=>Av c σ δ a∧¬ ∃ (j:Nat) (d:D),ss[j]? = some (S.own d)∧vs[j]? = some (V.ref a))
  (x:Aft ⟨H,B,z0G 0 ss vs,fun _ _=>False⟩ (z17 vs) (z1i ss) H (z17 vs) (z1i outs) H') (hio:∀ (j:Nat) d,ss[j]? = some (.own d)→∃ d',outs[j]? = some (.own d')) (hpo:∀ (j:Nat) d,ss[j]? = some (.pure d)→∃ d',outs[j]? = some (.pure d')) :
  Aft c σ δ H σ (putA as outs δ) H'∧∀ v r,RepS ⟨H,B,z0G 0 ss vs,fun _ _=>False⟩ (z17 vs) (z1i outs) H H' v r→RepS c σ (putA as outs δ) H H' v r:=by
 obtain ⟨h1,h2,h3⟩:=z7R hr hm
 have inIdx:∀ i,i ∈ ios as→∃ (j:Nat) (d:D) (a:Addr),as[j]? = some (.io i)∧ss[j]? = some (.own d)∧vs[j]? = some (.ref a)∧σ[i]? = some (some (.ref a))∧δ[i]? = some (some (.own d)):=fun i hi=>by
  obtain ⟨j,hj,ej⟩:=List.mem_iff_getElem.mp (ios_mem.mp hi)
  have hv:j < vs.length:=by omega
  have hs:j < ss.length:=by omega
  have ej':as[j]? = some (.io i):=by rw [WA hj,ej]
  rcases h3 j ss[j] vs[j] (by simp [hs]) (by simp [hv]) with ⟨d,f,e,a1,_⟩ | ⟨d,i',e,a1,s1,x1⟩
  ·rw [ej'] at a1; cases a1
  ·rw [ej'] at a1; cases a1
   obtain ⟨a,g1,_⟩:=k.own i d x1
   rw [s1] at g1
   have g2:vs[j] = .ref a:=by
    have:=Wx g1
    exact Wx this
   exact ⟨j,d,a,ej',by rw [WA hs,e],by rw [WA hv,g2],by rw [s1,g2],x1⟩
 have passed:∀ a,(∃ (j:Nat) (d:D),ss[j]? = some (S.own d)∧vs[j]? = some (V.ref a))→Own σ δ a:=fun a ⟨j,d,e1,e2⟩=>by
  rcases h3 j _ _ e1 e2 with ⟨d',f,e,_⟩ | ⟨d',i,e,_,es,ed⟩
  ·cases e
  ·exact ⟨i,d',ed,es⟩
 have Iiff:∀ a,(⟨H,B,z0G 0 ss vs,fun _ _=>False⟩:Fc).I a ↔ ∃ (j:Nat) (d:D),ss[j]? = some (S.own d)∧vs[j]? = some (V.ref a):=fun a =>
  ⟨fun ⟨i,hi⟩=>by obtain ⟨j,d,_,e1,e2⟩:=z1I hi; exact ⟨j,d,e1,e2⟩,fun ⟨j,d,e1,e2⟩=>⟨0 + j,z4w e1 e2⟩⟩
 have ownIn:∀ a,Own (z17 vs) (z1i ss) a→∃ (j:Nat) (d:D),ss[j]? = some (S.own d)∧vs[j]? = some (V.ref a):=fun a ⟨j,d,e1,e2⟩=>⟨j,d,someS_get.mp e1,some'_get.mp e2⟩
 -- the owned addresses are the same
 have slotP:∀ (i:Nat) (d:D),(putA as outs δ)[i]? = some (some (.own d))→(i ∉ ios as∧δ[i]? = some (some (.own d)))∨(i ∈ ios as∧∃ (j:Nat) (d0:D) (a:Addr),as[j]? = some (.io i)∧ss[j]? = some (.own d0)∧vs[j]? = some (.ref a)∧σ[i]? = some (some (.ref a))∧outs[j]? = some (.own d)):=fun i d e=>by
  by_cases hi:i ∈ ios as
  ·right
   obtain ⟨j,d0,a,a1,a2,a3,a4,a5⟩:=inIdx i hi
   obtain ⟨d',ed'⟩:=hio j d0 a2
   have hlt:i < δ.length:=(Wf.mp a5).1
   have:=z6Z as outs δ i j (.own d') nd a1 ed' hlt
   rw [e] at this
   cases this
   exact ⟨hi,j,d0,a,a1,a2,a3,a4,ed'⟩
  ·rw [z4s as outs δ i hi] at e
   exact .inl ⟨hi,e⟩
 have own_sub:∀ b,Own σ (putA as outs δ) b→Own σ δ b:=fun b ⟨i,d,e1,e2⟩=>by
  rcases slotP i d e1 with ⟨_,e⟩ | ⟨hi,j,d0,a,_,a2,a3,a4,_⟩
  ·exact ⟨i,d,e,e2⟩
  ·rw [e2] at a4
   have:b=a:=by injection (Wx (Wx a4))
   subst this
   exact passed b ⟨j,d0,a2,a3⟩
 have pureP:∀ (i:Nat) (d:D),(putA as outs δ)[i]? = some (some (.pure d))→i ∉ ios as∧δ[i]? = some (some (.pure d)):=fun i d e=>by
  by_cases hi:i ∈ ios as
  ·obtain ⟨j,d0,a,a1,a2,a3,a4,a5⟩:=inIdx i hi
   obtain ⟨d',ed'⟩:=hio j d0 a2
   have hlt:i < δ.length:=(Wf.mp a5).1
   have:=z6Z as outs δ i j (.own d') nd a1 ed' hlt
   rw [e] at this
   cases this
  ·rw [z4s as outs δ i hi] at e
   exact ⟨hi,e⟩
 have kpAv:∀ a o,H a=some o→¬ Av c σ δ a→H' a=some o:=fun a o e n=>x.keep a o e fun z=>n (.inr (passed a (ownIn a z)))
 have subA:∀ b,Av c σ (putA as outs δ) b→Av c σ δ b:=fun b z=>z.elim .inl fun z=>.inr (own_sub b z)
 -- the callee's set holds ours
 have big:∀ {c':Fc},c'.B=B→∀ b,Av c σ δ b→Av c' (z17 vs) (z1i outs) b:=fun {c'} hB' b z=>by
  by_cases hp:∃ (j:Nat) (d:D),ss[j]? = some (S.own d)∧vs[j]? = some (V.ref b)
  ·obtain ⟨j,d,e1,e2⟩:=hp
   obtain ⟨d',ed'⟩:=hio j d e1
   exact .inr ⟨j,d',someS_get.mpr ed',some'_get.mpr e2⟩
  ·exact .inl (by rw [hB',hB]; exact ⟨z,hp⟩)
 have okc:∀ (c1 c2:Fc),c1.H₀=c.H₀→c1.pin=c.pin→(∀ b,c1.B b→c.B b∨(c2.B b∧H b=none))→c2.pin=z0G 0 ss vs→(∀ b,B b→c2.B b)→Ok c2 (z17 vs) (z1i outs) H'→(∀ b,c1.B b→∃ o,H' b=some o)→Ok c1 σ (putA as outs δ) H':=fun c1 c2 e0 e1 e2 e3 e4 k2 hex=>by
  have sub1:∀ b,Av c1 σ (putA as outs δ) b→Av c σ δ b∨H b=none:=fun b z=>by
   rcases z with z | z
   ·rcases e2 b z with z | ⟨_,z⟩
    ·exact .inl (.inl z)
    ·exact .inr z
   ·exact .inl (.inr (own_sub b z))
  have sub2:∀ b,Av c1 σ (putA as outs δ) b→Av c2 (z17 vs) (z1i outs) b:=fun b z=>by
   have bg:∀ b,Av c σ δ b→Av c2 (z17 vs) (z1i outs) b:=fun b z=>by
    by_cases hp:∃ (j:Nat) (d:D),ss[j]? = some (S.own d)∧vs[j]? = some (V.ref b)
    ·obtain ⟨j,d,e1,e2⟩:=hp
     obtain ⟨d',ed'⟩:=hio j d e1
     exact .inr ⟨j,d',someS_get.mpr ed',some'_get.mpr e2⟩
    ·exact .inl (e4 b (by rw [hB]; exact ⟨z,hp⟩))
   rcases z with z | z
   ·rcases e2 b z with z | ⟨z,_⟩
    ·exact bg b (.inl z)
    ·exact .inl z
   ·exact bg b (.inr (own_sub b z))
  have kp':∀ {v:V} {d:D},Rep H (Av c σ δ) v d→Rep H' (Av c1 σ (putA as outs δ)) v d:=fun {v d} r=>by
   have r1:Rep H (fun b=>Av c σ δ b∨Av c1 σ (putA as outs δ) b) v d:=r.anti fun b z=>z.elim .inl (sub1 b)
   exact (r1.keep fun b o e n=>kpAv b o e fun z=>n (.inl z)).anti fun b z=>.inl (.inr z)
  refine ⟨fun a o e n=>?_,hex,fun a z=>?_,by rw [z6Y]; exact k.len,fun i d e=>?_,fun i d e=>?_,fun i j a d d' f1 f2 f3 f4=>?_,by rw [e1]; exact k.pinned⟩
  ·rw [e0] at e
   have n':¬ c.I a:=fun z=>n (by unfold Fc.I at z ⊢; rw [e1]; exact z)
   refine x.keep a o (k.keep a o e n') fun z=>?_
   obtain ⟨i,d,g1,g2⟩:=passed a (ownIn a z)
   obtain ⟨a',g3,_,g4,_⟩:=k.own i d g1
   rw [g2] at g3; cases g3
   rcases g4 with g4 | g4
   ·exact n' g4
   ·rw [g4] at e; cases e
  ·have z':c.I a:=by unfold Fc.I at z ⊢; rw [← e1]; exact z
   obtain ⟨o,e⟩:=k.ith a z'
   exact x.there a o e
  ·obtain ⟨hi,e'⟩:=pureP i d e
   obtain ⟨v,g1,g2⟩:=k.slot i d e'
   exact ⟨v,g1,kp' g2⟩
  ·rcases slotP i d e with ⟨hi,e'⟩ | ⟨hi,j,d0,a,b1,b2,b3,b4,b5⟩
   ·obtain ⟨a,g1,g2,g3,g4⟩:=k.own i d e'
    have na:¬ Own (z17 vs) (z1i ss) a:=fun z=>by
     obtain ⟨j,d1,q1,q2⟩:=ownIn a z
     rcases h3 j _ _ q1 q2 with ⟨d',f,ee,_⟩ | ⟨d',i',ee,ai,es,ed⟩
     ·cases ee
     ·have:=k.inj i i' a d d' e' ed g1 es
      subst this
      exact hi (ios_mem.mpr (WB ai))
    have g2':OwnAt H' (Av c1 σ (putA as outs δ)) a d:=by
     have o1:OwnAt H (fun b=>Av c σ δ b∨Av c1 σ (putA as outs δ) b) a d:=g2.anti fun b z=>z.elim .inl (sub1 b)
     exact (o1.keep (fun b o e n=>kpAv b o e fun z=>n (.inl z)) fun o e=>x.keep a o e na).anti fun b z=>.inl (.inr z)
    refine ⟨a,g1,g2',by unfold Fc.I at g3 ⊢; rw [e0,e1]; exact g3,fun z=>?_⟩
    rcases e2 a z with z | ⟨_,z⟩
    ·exact g4 z
    ·obtain ⟨o,eo⟩:=g2.some
     rw [z] at eo; cases eo
   ·obtain ⟨a',g1,g2,g3,g4⟩:=k2.own j d (someS_get.mpr b5)
    rw [some'_get.mpr b3] at g1
    cases g1
    obtain ⟨i0,d1,q1,q2⟩:=passed a ⟨j,d0,b2,b3⟩
    obtain ⟨a'',q3,q4,q5,q6⟩:=k.own i0 d1 q1
    rw [q2] at q3; cases q3
    refine ⟨a,b4,g2.anti fun b z=>.inl (sub2 b z),by unfold Fc.I at q5 ⊢; rw [e0,e1]; exact q5,fun z=>?_⟩
    rcases e2 a z with z | ⟨_,z⟩
    ·exact q6 z
    ·obtain ⟨o,eo⟩:=q4.some
     rw [z] at eo; cases eo
  ·obtain ⟨d1,g1⟩:∃ d1,δ[i]? = some (some (.own d1)):=by
    rcases slotP i d f1 with ⟨_,e'⟩ | ⟨hi,_⟩
    ·exact ⟨d,e'⟩
    ·obtain ⟨_,d1,_,_,_,_,_,a5⟩:=inIdx i hi
     exact ⟨d1,a5⟩
   obtain ⟨d2,g2⟩:∃ d2,δ[j]? = some (some (.own d2)):=by
    rcases slotP j d' f2 with ⟨_,e'⟩ | ⟨hi,_⟩
    ·exact ⟨d',e'⟩
    ·obtain ⟨_,d1,_,_,_,_,_,a5⟩:=inIdx j hi
     exact ⟨d1,a5⟩
   exact k.inj i j a d1 d2 g1 g2 f3 f4
 have ok1:Ok c σ (putA as outs δ) H':=okc c ⟨H,B,z0G 0 ss vs,fun _ _=>False⟩ rfl rfl (fun b z=>.inl z) rfl (fun b z=>z) x.ok fun b z=>by
  obtain ⟨o,e⟩:=k.bd b z
  exact x.there b o e
 refine ⟨⟨ok1,fun a o e n=>x.keep a o e fun z=>n (passed a (ownIn a z)),fun a z=>.inl (own_sub a z),x.there⟩,fun v r hr=>?_⟩
 cases r with
 | pure d=>exact Rep.anti hr fun b z=>.inl (big rfl b (subA b z))
 | own d =>
  obtain ⟨a,ea,o,nb,h0,kp,hs⟩:=hr
  have hHa:H a=none:=hs
  have nav:¬ Av c σ δ a:=k.nav hHa
  refine ⟨a,ea,o.anti fun b z=>.inl ?_,fun z=>nav (.inl z),k.fresh₀ hHa,?_,hHa⟩
  ·rcases z with (z | z) | z
   ·exact (big rfl b (.inl z)).elim (fun z=>.inl (.inl z)) .inr
   ·exact .inl (.inr z)
   ·exact (big rfl b (.inr (own_sub b z))).elim (fun z=>.inl (.inl z)) .inr
  ·refine okc (c.plus a) (Fc.plus ⟨H,B,z0G 0 ss vs,fun _ _=>False⟩ a) rfl rfl (fun b z=>?_) rfl (fun b z=>.inl z) kp fun b z=>?_
   ·rcases z with z | z
    ·exact .inl z
    ·exact .inr ⟨.inr z,by rw [z]; exact hHa⟩
   ·rcases z with z | z
    ·obtain ⟨o,e⟩:=k.bd b z
     exact x.there b o e
    ·rw [z]; exact o.some
end
def z1t (G:DF):Prop:=∀ ss r outs,G ss=some (r,outs)→outs.length=ss.length∧∀ (j:Nat),(∀ d,ss[j]? = some (.own d)→∃ d',outs[j]? = some (.own d'))∧∀ d,ss[j]? = some (.pure d)→∃ d',outs[j]? = some (.pure d')
theorem z9T (hG:∀ ss y,G ss=some y→runD fb n ss=some y):z1t G:=fun ss r outs h=>by
 have:=hG ss _ h
 unfold runD at this
 cases e:fb (z0g n ss) with
 | exc x δx=>rw [e] at this; cases this
 | stuck=>rw [e] at this; cases this
 | ok fl δ =>
  rw [e] at this
  simp only at this
  cases e1:z0H fl with
  | none=>rw [e1] at this; cases this
  | some r' =>
   rw [e1] at this
   simp only [WD] at this
   cases e2:z0e 0 ss δ with
   | none=>rw [e2] at this; cases this
   | some os =>
    rw [e2] at this
    cases this
    obtain ⟨h1,h2⟩:=z5K e2
    refine ⟨h1,fun j=>⟨fun d ed=>?_,fun d ed=>?_⟩⟩
    ·rcases h2 j _ ed with ⟨d',z,_⟩ | ⟨d',d'',_,_,z⟩
     ·cases z
     ·exact ⟨d'',z⟩
    ·rcases h2 j _ ed with ⟨d',z,z'⟩ | ⟨d',d'',z,_⟩
     ·exact ⟨d',z'⟩
     ·cases z
section
variable {X:Cx} {c:Fc} {e:Expr} {es:List Expr} {as:List Ak} {k n:Nat} {x:Str} {G:DF} {pp pos:Pos}
theorem z88 {ps:List Str} (hK:z1t G) {σ:St} {H:Hp} {Q:VK} (hl:as.length=n) (h:tD c (z09 G as) σ H Q):zdT (spD n G) [] E0 (tX c as) σ H Q:=by
 obtain ⟨δ,kk,q⟩:=h
 unfold z09 at q
 split at q
 ·rename_i hc
  rw [Wk] at hc
  have nd:=z3E hc.2
  rw [z08] at q
  refine ⟨δ,kk,fun i hi=>?_,z02 q fun ds δ1 q1 vs H1 a1 r1=>?_⟩
  ·have:=Qh.mp hc.1 i (ios_mem.mpr hi)
   unfold z0s at this
   split at this
   ·rename_i d ed
    exact z2P kk ed
   ·cases this
  ·cases em:mkA as ds δ1 with
   | none=>rw [em] at q1; exact q1.elim
   | some ss =>
    rw [em] at q1
    simp only at q1
    cases eg:G ss with
    | none=>rw [eg] at q1; exact q1.elim
    | some y =>
     obtain ⟨r,outs⟩:=y
     rw [eg] at q1
     have hin:=z8T a1.ok r1 em nd
     obtain ⟨m1,m2,_⟩:=z7R r1 em
     obtain ⟨g1,g2⟩:=hK ss r outs eg
     refine ⟨ss,_,by rw [WP,← m2]; exact hl,by rw [WP]; exact hin,r,outs,eg,fun v H2 a2 r2=>?_⟩
     rw [WP] at a2 r2
     obtain ⟨o1,o2⟩:=z5v a1.ok r1 em nd rfl a2 (fun j d ed=>(g2 j).1 d ed) fun j d ed=>(g2 j).2 d ed
     exact q1 v H2 (a1.trans o1) (RepS.back (o2 v r r2) a1)
 ·exact q.elim
theorem z0j (F:KFn X.prog X.w X.K X.mg X.base k x n G) (hK:z1t G) (hr:Room k X.A) (hg:Gl X x) (ha:SX X c (e :: es) as) (hl:as.length=n) (hdb:(x == ("__debug__" : Str))=false:=by decide)
  (he:W7 (e :: es) X.env=(false,eval e X.env) :: W7 es X.env:=by rfl) (hpl:(WU pos (W7 es X.env)).any (·.1)=false:=by rfl):SE X c (.Call (.Name x pp) (e :: es) [] pos) (z09 G as):=by
 obtain ⟨f,fd,ps,hm,hk,hb,ok⟩:=F
 exact PE.weak (zen ok hr hg hm hk hb .nil pass0 ha hdb he hpl) fun σ H Q h=>z88 (ps:=ps) hK hl h
end
def gOf (np:List Nat) (n:Nat) (b:DS):DF:=fun ss=>if ioOk np 0 ss then runD b n ss else none
theorem z0E (h:gOf np n b ss=some y):ioOk np 0 ss=true∧runD b n ss=some y:=by
 unfold gOf at h
 split at h
 ·rename_i hi; exact ⟨hi,h⟩
 ·cases h
theorem z0o:z1t (gOf np n b):=z9T fun _ _ h=>(z0E h).2
theorem z1C (r:Room k A):A.units + 64 < Q4:=by have:=r.un; omega
theorem z3P {c:Fc} {np cs:List Nat} (h:Np c np) (hc:cs.all (fun i=>!np.contains i)=true):∀ p ∈ c.pin,p.1 ∉ cs:=fun p hp z=>by
 have h1:=h p hp
 have h2:=Qh.mp hc p.1 z
 rw [h1] at h2
 cases h2
def ndS:List Str→Bool
 | []=>true
 | x :: r=>!r.contains x && ndS r
theorem zdy:∀ {l:List Str},ndS l=true→l.Nodup
 | [],_=>.nil
 | x :: r,h=>by
  simp only [ndS,Wk,JA] at h
  exact List.nodup_cons.mpr ⟨fun hm=>by have:=h.1; simp at this; exact this hm,zdy h.2⟩
def z4T (names:List (Str×NameKind)) (x:Str) (k:NameKind):Bool:=match names.lookup x with
 | some j=>j == k
 | none=>false
theorem z79 (h:z4T names x k=true):names.lookup x=some k:=by
 unfold z4T at h
 split at h
 ·rename_i j e; rw [e,Jp h]
 ·cases h
def cscB (names:List (Str×NameKind)) (N:List Str) (sc:List (Str×NameKind)) (cs:List Nat):Bool :=
 sc.all (fun x=>!(x.2 == .local) || z4T sc x.1 .local) && sc.all (fun x=>!(x.2 == .free) || (z4T names x.1 .cell || z4T names x.1 .free)) && ndS (sc.map (·.1)) &&
 (Wb N.length).all fun i=>match N[i]? with
  | some x=>!(z4T sc x .local || z4T sc x .cell) || cs.contains i
  | none=>true
theorem z9r (h:names.lookup x=some k):z4T names x k=true:=by
 unfold z4T; rw [h]; simp
theorem z1D {X:Cx} {scope:Scope} {cs:List Nat} (hk:scope.kind = .function) (h:cscB X.env.scope.names X.N scope.names cs=true):CScope X scope cs:=by
 unfold cscB at h
 simp only [Wk] at h
 obtain ⟨⟨⟨h1,h2⟩,h3⟩,h4⟩:=h
 refine ⟨hk,fun x hx hl=>?_,fun x hx hf=>?_,zdy h3,fun i x hi hl=>?_⟩
 ·have:=Qh.mp h1 x hx
  rw [hl] at this
  exact z79 (by simpa using this)
 ·have:=Qh.mp h2 x hx
  rw [hf] at this
  have:z4T X.env.scope.names x.1 .cell=true∨z4T X.env.scope.names x.1 .free=true:=by simpa using this
  exact this.elim (fun z=>.inl (z79 z)) fun z=>.inr (z79 z)
 ·have hil:i < X.N.length:=(Wf.mp hi).1
  have:=Qh.mp h4 i (List.mem_range.mpr hil)
  rw [hi] at this
  have hl':(z4T scope.names x .local || z4T scope.names x .cell)=true:=by
   rcases hl with z | z
   ·rw [z9r z]; rfl
   ·rw [z9r z]; simp
  simp only [hl',Bool.not_true,Bool.false_or] at this
  simpa using this
theorem zdN {K:W3}:TyK K "int":=⟨rfl,rfl,rfl,rfl,rfl,rfl,rfl⟩
theorem zci {K:W3}:TyK K "bool":=⟨rfl,rfl,rfl,rfl,rfl,rfl,rfl⟩
theorem zdM {K:W3}:TyK K "str":=⟨rfl,rfl,rfl,rfl,rfl,rfl,rfl⟩
theorem zas {K:W3}:TyK K "tuple":=⟨rfl,rfl,rfl,rfl,rfl,rfl,rfl⟩
def z4S:Expr→Bool
 | .Starred ..=>false
 | _=>true
theorem z5x (h:z4S e=true):W7 (e :: es) env=(false,eval e env) :: W7 es env:=by
 cases e <;> first | (cases h; done) | rw [W7] | rfl
 all_goals (intros; contradiction)
section
variable {X:Cx} {c:Fc} {e:Expr} {es:List Expr} {f fe:DE} {g:DA} {as:List Ak}
theorem z07 (ha:SE X c e f) (hr:SA X c es g) (hs:z4S e=true:=by rfl):SA X c (e :: es) (z0c f g):=zaN ha hr (z5x hs)
theorem z00 (ha:SE X c e fe) (hr:SX X c es as) (hs:z4S e=true:=by rfl):SX X c (e :: es) (.val fe :: as):=zfb ha hr (z5x hs)
theorem z1o {i:Nat} (ha:PE X e (tVar i)) (hr:SX X c es as) (hs:z4S e=true:=by rfl):SX X c (e :: es) (.io i :: as):=sx_io ha hr (z5x hs)
end
mutual
def z3v:Nat→Expr→Option D
 | _,.Constant (.int i) _ _=>some (.int i)
 | _,.Constant (.bool b) _ _=>some (.bl b)
 | _,.Constant .none _ _=>some .non
 | _,.Constant (.str x) _ _=>some (.str x.cps.toList)
 | n + 1,.Tuple es _ _=>if es.length≤1000 then (z4e n es).map .tup else none
 | _,_=>none
def z4e:Nat→List Expr→Option (List D)
 | _,[]=>some []
 | n,e :: es=>match z3v n e,z4e n es with
  | some d,some ds=>some (d :: ds)
  | _,_=>none
end
theorem zah:∀ {n:Nat} {e:Expr} {d:D},z3v n e=some d→z4S e=true:=fun {n e d} h=>by
 cases e <;> first | rfl | (cases n <;> simp [z3v] at h)
mutual
theorem z7t:∀ {n:Nat} {e:Expr} {d:D},z3v n e=some d→SE X c e (eD d)
 | _,.Constant (.int i) _ _,d,h=>by
  simp only [z3v,W9] at h; subst h; exact z01
 | _,.Constant (.bool b) _ _,d,h=>by
  simp only [z3v,W9] at h; subst h; exact z4N
 | _,.Constant .none _ _,d,h=>by
  simp only [z3v,W9] at h; subst h; exact z97
 | _,.Constant (.str x) _ _,d,h=>by
  simp only [z3v,W9] at h; subst h; exact z39 _ (zf8 x)
 | 0,.Tuple es k pos,d,h=>by simp [z3v] at h
 | n + 1,.Tuple es k pos,d,h=>by
  simp only [z3v] at h
  split at h
  ·rename_i hl
   cases e:z4e n es with
   | none=>rw [e] at h; cases h
   | some ds =>
    rw [e] at h
    simp only [WL,W9] at h
    subst h
    exact z1U (z5E e) hl
  ·cases h
theorem z5E:∀ {n:Nat} {es:List Expr} {ds:List D},z4e n es=some ds→SA X c es (fun δ=>.ok ds δ)
 | _,[],ds,h=>by
  simp only [z4e,W9] at h; subst h; exact z0J
 | n,e :: es,ds,h=>by
  simp only [z4e] at h
  split at h
  ·rename_i d ds' h1 h2
   cases h
   exact zaN (z7t h1) (z5E h2) (z5x (zah h1))
  ·cases h
end
def z3K (ds:List D):DE:=fun δ=>.ok (.own (.lst ds)) δ
theorem z2A {X:Cx} {c:Fc} {e:Expr} {d:D} (h:z3v 9 e=some d):SE X c e (eD d):=z7t h
theorem z3d {X:Cx} {c:Fc} {es:List Expr} {ds:List D} {pos:Pos} (h:z4e 9 es=some ds) (hl:es.length≤1000):SE X c (.List es pos) (z3K ds):=z1z (z5E h) hl
section
variable {X:Cx} {c:Fc} {e:Expr} {fe:DE} {pos:Pos} {tg:Expr}
theorem z6Q (he:SE X c e fe) (hs:J5 e none pos.line X.env=pure false:=by rfl):SS X c (.Expr e pos) (z6q fe) :=
 zdV he (fun _=>hs) trivial (zb5 he hs)
theorem z1x {i:Nat} {o:Expr} {apos cpos:Pos} (ho:PE X o (tVar i)) (he:SE X c e fe)
  (hbase:Qz o "append" X.env (eval o X.env)=eval o X.env:=by rfl)
  (hfew:((WU cpos (W7 [e] X.env)).all (fun x=>!x.1) && (backToKw cpos (Jg [] X.env)).all (fun x=>x.1.isSome)
   && decide ([e].length + ([]:List Keyword).length + (if ([]:List Keyword).isEmpty then 0 else 1) < 30))=true:=by rfl)
  (hline:(apos.endLine == cpos.line)=true:=by rfl) (hs:W7 [e] X.env=(false,eval e X.env) :: W7 [] X.env:=by rfl)
  (hsw:J5 (.Call (.Attribute o "append" apos) [e] [] cpos) none pos.line X.env=pure false:=by rfl):SS X c (.Expr (.Call (.Attribute o "append" apos) [e] [] cpos) pos) (z0A i fe) :=
 zaD (p0:=apos) ho he (zb5 (zcK PySem.F.plainAttrs_list PySem.F.slot_list_append PySem.F.type_list_append z7Q ho (z0U he z2d hs) hbase hfew hline hs rfl) hsw)
end
def noL (K:W3):Bool:=K.all fun p=>match p.2.cls with
 | .type t=>!(t == "list")
 | _=>true
theorem zdz [BEq α] [LawfulBEq α]:∀ {K:List (α×β)} {a:α} {o:β},K.lookup a=some o→(a,o) ∈ K
 | [],a,o,e=>by simp at e
 | (b,o') :: r,a,o,e=>by
  rw [Q5] at e
  cases hb:a == b with
  | true =>
   rw [hb] at e
   have h1:o'=o:=Wx e
   have h2:a=b:=Jp hb
   rw [h1,h2]
   exact Wi
  | false =>
   rw [hb] at e
   exact Wg _ (zdz e)
theorem zg8 {K:W3} {a:Addr} {o:Obj} (h:noL K=true) (e:K.lookup a=some o) (hc:o.cls = .type "list"):False:=by
 have hm:(a,o) ∈ (K:List (Addr×Obj)):=zdz e
 have h1:=Qh.mp h (a,o) hm
 have h2:(match o.cls with | .type t=>!(t == "list") | _=>true)=true:=h1
 rw [hc] at h2
 have h3:(!(("list" : String) == "list"))=true:=h2
 rw [beq_self_eq_true] at h3
 cases h3
theorem zga {K:W3} {G:DF} {H:Hp} {a:Addr} {ns:List Int} {E:XK} (hK:noL K=true) (hS:SqL K H a (ns.map V.int)) (hG:∃ outs,G [.pure (.lst (ns.map .int))]=some (.pure (.bl true),outs)) :
  spD 1 G [.ref a] H (fun v _=>v = .bl true) E:=by
 have hR:Rd H a (.lst (ns.map V.int)):=by
  rcases hS with h | ⟨o,its,n,e,hc,_⟩
  ·exact h
  ·exact (zg8 hK e hc).elim
 obtain ⟨outs,hg⟩:=hG
 have rep:∀ O:Addr→Prop,¬ O a→Rep H O (.ref a) (.lst (ns.map D.int)):=fun O hO=>.lst hO hR (by simp) fun i v d e1 e2=>by
  rw [WR] at e1 e2
  cases e:ns[i]? with
  | none=>rw [e] at e1; cases e1
  | some k=>rw [e] at e1 e2; cases e1; cases e2; exact .int k
 refine ⟨[.pure (.lst (ns.map .int))],fun _=>False,rfl,⟨fun b o e _=>e,fun b z=>z.elim,fun b ⟨i,z⟩=>?_,rfl,fun i d e=>?_,fun i d e=>?_,fun i j b d d' e1 e2 e3 e4=>?_,fun p z=>?_⟩,_,outs,hg,fun v H' x r=>?_⟩
 ·simp [z0G] at z
 ·cases i with
  | zero =>
   simp at e
   subst e
   refine ⟨.ref a,rfl,rep _ fun z=>?_⟩
   rcases z with z | ⟨j,d',z1,z2⟩
   ·exact z
   ·cases j with
    | zero=>simp at z1
    | succ j=>simp at z1
  | succ i=>simp at e
 ·cases i with
  | zero=>simp at e
  | succ i=>simp at e
 ·cases i with
  | zero=>simp at e1
  | succ i=>simp at e1
 ·simp [z0G] at z
 ·cases r
  rfl
theorem walkD {l:PySem.W.OpenLaw} {q:Wm} {loose:List Str} {XP:(Str→Option Value)→Heap→Prop} {YP:Ws→Heap→Prop} {d:DefRec} {K:Params→W3} {k:Nat} {G:DF} (hn:l.most=some 63) (hdf:d.params.defaults=[]) (hr:Room k callerA)
  (hY:∀ (w:Ws) (h:Heap),YP w h→(K w.params).In h) (hL:∀ p:Params,noL (K p)=true)
  (hG:∀ ns:List Int,ns.length≤63→∃ outs,G [.pure (.lst (ns.map .int))]=some (.pure (.bl true),outs))
  (F:∀ (w:Ws) (mg:Str→Option Value) (fa:Addr) (h:Heap),(K w.params).In h→h.Ns Wp mg→mg d.name=some (.ref fa) →
   ∃ fd:WC,(∀ (s:W5) (u:Value),BindsTo s fd ⟨[u],[]⟩ [("script",u)])∧∀ base:Heap,(K w.params).In base→base.Ns Wp mg→FnOk l.prog w (K w.params) mg base CX0 k fa fd ["script"] (spD 1 G)) :
  PySem.W.WalkO q loose XP YP l.row.toRowW d [] (fun f vs=>PySem.call f vs) :=
 L2.walk_of (n:=63) (k:=k) (x:="script") (CX:=fun _=>CX0) (sp:=fun _=>spD 1 G) hn (by decide) hdf hr hY F (fun w H a ns hl _ hS=>zga (hL w.params) hS (hG ns hl)) fun _ _ _ _ _ z=>z
end DV
set_option maxHeartbeats 400000
namespace L2
open PySem PySem.Spec PyProof.Rows
def Its (x:Str):It:=⟨fun i _=>i < x.cps.size,fun i H y H'=>H'=H∧∃ c,x.cps[i]? = some c∧y = .str ⟨#[c]⟩,fun i _=>i=x.cps.size⟩
theorem zcj {P:Wm} {w:Ws} {K:W3} {tg:Expr} (x:Str) (t:Tok) (it:Addr) (T:String) (hT:T = "str_ascii_iterator"∨T = "str_iterator"):Turn P w K tg (Its x) [it] it (fun i h=>h.IsStrIter it T x t i):=by
 have W:∀ A:Wq,A.handled=none→Walks P w A it [it] [it] x.cps.size (SignAt x) (fun i h=>h.IsStrIter it T x t i):=fun A hh=>by
  rcases hT with rfl | rfl
  ·exact Walks.strAscii hh it x t
  ·exact Walks.strWide hh it x t
 refine ⟨by simp,fun i h st b hb=>?_,fun i h h' st k=>?_,?_,?_,fun A i s Q E st h=>?_⟩
 ·have e:b=it:=by simpa using hb
  subst e
  obtain ⟨o,e,c,d⟩:=st
  exact ⟨o,e,fun v z=>by rw [d] at z; cases z⟩
 ·obtain ⟨o,e,r⟩:=st
  exact ⟨o,k it (by simp) o e,r⟩
 ·intro X hP hw hK hc i pins s σ H E I hf st hg
  subst hP hw hK
  obtain ⟨f0,f1,f2,f3,f4,f5⟩:=hf it (by simp)
  refine (W X.A (I.ok.hd hc)).item i s _ _ hg st fun v h' tk hv st' kk=>?_
  obtain ⟨c,u,hx,rfl⟩:=hv
  have I1:Inv X pins σ H { s with heap:=h',toks:=tk }:=I.turned (fun b o hb e=>kk b o (by simpa using hb) e) f0 f1 f3 f4 f5
  obtain ⟨o,e,c',d⟩:=id st'
  refine ⟨_,rfl,zbG (s:={ s with heap:=h',toks:=tk }) e c' d (by rcases hT with rfl | rfl <;> decide) ⟨.str ⟨#[c]⟩,H,I1,⟨u,rfl⟩,⟨rfl,c,hx,rfl⟩,st',fun b hb=>(hf b hb).1⟩⟩
 ·intro X hP hw hK hc i pins s σ H E I hf st hg
  subst hP hw hK
  have hg':i=x.cps.size:=hg
  subst hg'
  obtain ⟨f0,f1,f2,f3,f4,f5⟩:=hf it (by simp)
  exact (W X.A (I.ok.hd hc)).done s _ _ st fun h' tk eb=>⟨rfl,I.turned (fun b o hb e=>eb b o (by simpa using hb) e) f0 f1 f3 f4 f5⟩
 ·rcases hT with rfl | rfl
  ·exact wpAny_pyIter_striter_ascii st h
  ·exact wpAny_pyIter_striter_wide st h
end L2
namespace DV
open PySem PySem.Spec PyProof.Rows L2
section
variable {X:Cx} {c:Fc} {tg e:Expr} {fe:DE} {pos pp:Pos}
def iSeqS (K:W3) (tl:TE):TI:=fun σ H R=>tl σ H fun x H1=>(∃ a,x = .ref a∧(∃ xs,SqL K H1 a xs)∧R (Itl K a) H1)∨(∃ a,x = .ref a∧(∃ xs,SqT K H1 a xs)∧R (Itt K a) H1)∨∃ z,x = .str z∧R (Its z) H1
theorem zel {l:Expr} {tl:TE} (hl:PE X l tl):PI X tg l (iSeqS X.K tl):=by
 intro pins s σ H R I h
 refine thn (hl pins s σ H _ I h) fun v s1 ⟨x,H1,I1,r1,q1⟩=>?_
 rcases q1 with q1 | q1 | ⟨z,e,q⟩
 ·obtain ⟨a,e,⟨xs,hq⟩,q⟩:=q1
  subst e
  cases r1
  obtain ⟨its,rv,p,hz⟩:=I1.list hq
  refine wpAny_pyIter_list p.isList ?_
  refine ⟨s1.heap.objs.size,[s1.heap.objs.size],_,_,H1,rfl,I1.kept (t':=s1.toks) fun b o e=>Wa _ e,zau a _,⟨_,Wu _ rfl,rfl,rfl⟩,fun b hb=>?_,q⟩
  have e:b=s1.heap.objs.size:=by simpa using hb
  subst e
  exact I1.fpOk (Wh _) (I1.hok.fresh (Wh _))
 ·obtain ⟨a,e,⟨xs,hq⟩,q⟩:=q1
  subst e
  cases r1
  obtain ⟨its,rv,p,hz⟩:=I1.tuple hq
  refine wpAny_pyIter_tuple (show s1.heap.IsTuple a its.toArray from p) ?_
  refine ⟨s1.heap.objs.size,[s1.heap.objs.size],_,_,H1,rfl,I1.kept (t':=s1.toks) fun b o e=>Wa _ e,z9Q a _,⟨_,Wu _ rfl,rfl,rfl⟩,fun b hb=>?_,q⟩
  have e:b=s1.heap.objs.size:=by simpa using hb
  subst e
  exact I1.fpOk (Wh _) (I1.hok.fresh (Wh _))
 ·subst e
  obtain ⟨t,rfl⟩:=r1
  refine wpAny_pyIter_strU ?_
  have hT:strIterType z = "str_ascii_iterator"∨strIterType z = "str_iterator":=by
   unfold strIterType
   split
   ·exact .inl rfl
   ·exact .inr rfl
  refine ⟨s1.heap.objs.size,[s1.heap.objs.size],_,_,H1,rfl,I1.kept (t':=s1.toks) fun b o e=>Wa _ e,zcj z t _ _ hT,⟨_,Wu _ rfl,rfl,rfl⟩,fun b hb=>?_,q⟩
  have e:b=s1.heap.objs.size:=by simpa using hb
  subst e
  exact I1.fpOk (Wh _) (I1.hok.fresh (Wh _))
theorem zgk (z:Tx):ItOk c σ δ H (Its (toS z)) (z.map fun n=>D.str [n]):=by
 intro H2 kp
 have hsz:(toS z).cps.size=z.length:=by simp [toS]
 refine ⟨by show (z.map _).length=_; rw [hsz]; simp,fun i d e=>?_⟩
 rw [WR] at e
 cases ez:z[i]? with
 | none=>rw [ez] at e; cases e
 | some n =>
  rw [ez] at e
  cases e
  have hi:i < z.length:=(Wf.mp ez).1
  refine ⟨by show i < _; rw [hsz]; exact hi,fun x H3 ⟨e3,cc,hc,hx⟩=>.inl ⟨e3,?_⟩⟩
  have:(toS z).cps[i]? = z[i]?:=by simp [toS]
  rw [this,ez] at hc
  cases hc
  rw [hx]
  exact .str [n]
def iSq (f:DE):DI:=fun δ=>(f δ).bind fun r δ1=>match r.d with
 | .lst ds=>.ok ds δ1
 | .tup ds=>.ok ds δ1
 | .str x=>.ok (x.map fun n=>.str [n]) δ1
 | _=>.stuck
theorem z3T (he:SE X c e fe):SI X c tg e (iSq fe):=PI.weak (zel he) fun σ H R ⟨δ,k,q⟩=>by
 unfold iSq at q
 rw [z08] at q
 refine ⟨δ,k,z02 q fun r δ1 q1 v H1 a1 r1=>?_⟩
 have rr:=r1.rep
 generalize r.d=d at q1 rr
 cases d <;> first | exact q1.elim | skip
 ·cases rr
  exact .inr (.inr ⟨_,rfl,q1 _ H1 a1 (zgk _)⟩)
 ·cases rr with
  | tup h1 h2 h3 h4=>exact .inr (.inl ⟨_,rfl,⟨_,.of h2⟩,q1 _ H1 a1 (zgj _ h2 (fun z=>h1 (.inr z)) ⟨h3,h4⟩)⟩)
 ·cases rr with
  | lst h1 h2 h3 h4 =>
   refine .inl ⟨_,rfl,⟨_,.inl h2⟩,q1 _ H1 a1 ?_⟩
   intro H2 kp
   rename_i a vs
   have h5:Rd H2 a (.lst vs):=Rd.keep h2 fun o e=>kp a o e fun z=>h1 (.inr z)
   have r':Reps H1 (Av c σ δ1) vs _:=⟨h3,h4⟩
   refine ⟨⟨vs,.inl h5,by rw [r'.1]; exact Wh _⟩,fun i d e=>?_⟩
   obtain ⟨v,ev,rv⟩:=r'.get e
   refine ⟨⟨vs,v,.inl h5,ev⟩,fun x H3 ⟨e3,y⟩=>.inl ⟨e3,?_⟩⟩
   have:=y vs (.inl h5)
   rw [ev] at this
   cases this
   exact rv
end
end DV
namespace L2
open PySem PySem.Spec PyProof.Rows
theorem z6o (a:Int) (t:Tok) (l:Addr) (dd:Option Addr) (items:Array Value) (n:Nat) (sl:Array (Option Value)) :
  Meets (Builtin.«int.__rmul__» ⟨[.int a t,.ref l],[]⟩) (fun _ R s=>s.heap.get? l=some { cls:=.type "tuple",dict:=dd,data:=.seq items n,slots:=sl }∧R (.ok (.ret Value.notImplemented)) s) :=
 .of_wp fun prog w A R s h=>by obtain ⟨hp,g,d,tk,os⟩:=s; obtain ⟨hl,h⟩:=h; wp_walk; exact ⟨_,rfl,h⟩
theorem z5e:fillsNumberSlot (.type "tuple") "mul" = pure false :=
 PySem.fillsNumberSlot_seq (id:="tuple.__mul__") (r:=some (.builtin "tuple.__rmul__")) F.slot_tuple_mul.lookup (by decide +kernel) F.slot_tuple_rmul.lookup (by decide +kernel)
theorem z7x:seqRepeat? (.type "tuple")=pure (some (.builtin "tuple.__mul__")):=by
 unfold seqRepeat?
 rw [PySem.seqSlot_of (T:="tuple") (name:="__mul__") (id:="tuple.__mul__") F.slot_tuple_mul.lookup (by decide +kernel),PySem.seqSlot_of (T:="tuple") (name:="__rmul__") (id:="tuple.__rmul__") F.slot_tuple_rmul.lookup (by decide +kernel)]
 rfl
theorem z6d (l:Addr) (dd:Option Addr) (items:Array Value) (n:Nat) (sl:Array (Option Value)) (x:Int) (u:Tok) (h1:¬ (decide (x < -(2 ^ 63)) || decide (x ≥ 2 ^ 63))=true) (h2:¬ (items.isEmpty || x == 1)=true) (h3:¬ (decide (x≤0) || items.isEmpty)=true) (h4:¬ items.size * x > (2 ^ 63 - 1) / 8) (h5:¬ Builtin.Tuple.tupleTooMany (items.size * x)=true) (h6:((Wd x.toNat items).foldl (· ++ ·) #[]).size≤W6) :
  Meets (Builtin.«tuple.__mul__» ⟨[.ref l,.int x u],[]⟩) (fun _ R s=>s.heap.get? l=some { cls:=.type "tuple",dict:=dd,data:=.seq items n,slots:=sl } ∧
   R (.ok (.ret (.ref s.heap.objs.size))) { s with heap:=s.heap.push { cls:=.type "tuple",data:=.seq ((Wd x.toNat items).foldl (· ++ ·) #[]) } }) :=
 .of_wp fun prog w A R s h=>by
  obtain ⟨hp,g,d,tk,os⟩:=s; obtain ⟨hl,h⟩:=h
  wp_walk
  rw [if_neg h1]
  wp_walk
  try rw [if_neg h2]
  try wp_walk
  try rw [if_neg h3]
  try wp_walk
  try rw [if_neg h4]
  try wp_walk
  try rw [if_neg h5]
  try wp_walk
  exact ⟨_,rfl,h⟩
theorem z7c (its:List α):∀ (k:Nat) (acc:List α),List.foldl (fun x1 x2:Array α=>x1 ++ x2) acc.toArray (Wd k its.toArray)=(acc ++ (Wd k its).flatten).toArray
 | 0,acc=>by simp
 | k + 1,acc=>by
  rw [WX,Qn,show acc.toArray ++ its.toArray=(acc ++ its).toArray by simp,z7c its k]
  simp [WX]
section
variable {X:Cx}
def zfx (K:W3):R2:=fun x y H Q=>∃ l k xs,x = .ref l∧y = .int k∧SqT K H l xs∧xs≠[]∧2≤k∧k≤1000000∧xs.length * k.toNat≤W6∧∀ p,H p=none→Q (.ref p) (upd H p (.tup (Wd k.toNat xs).flatten))
theorem zer:OpR X (Qc .Mult) (zfx X.K):=by
 intro pins s σ H x y v u Q I rx ry h
 obtain ⟨l,k,xs,rfl,rfl,hH,hne,h1,h2,hz,q⟩:=h
 cases rx
 obtain ⟨t,rfl⟩:=ry
 obtain ⟨its,r,pl,hl⟩:=I.tuple hH
 obtain ⟨⟨cls,dd,data,sl⟩,ho,hc,n,hd⟩:=id pl
 simp only at hc hd
 subst hc hd
 have hlen:its.toArray.size=xs.length:=by rw [Wl]; exact r.length.symm
 have hem:its.toArray.isEmpty=false:=by
  cases its with
  | nil=>exact absurd (r.nil_iff.mp rfl) hne
  | cons a b=>rfl
 have hline:W6=16777216:=rfl
 have hk:(k.toNat:Int)=k:=by omega
 have hmul:((its.toArray.size:Nat):Int) * k=((xs.length * k.toNat:Nat):Int):=by rw [hlen,QX,hk]
 have hfold:List.foldl (fun x1 x2=>x1 ++ x2) #[] (Wd k.toNat its.toArray)=(Wd k.toNat its).flatten.toArray:=by
  have:=z7Z its k.toNat []
  rw [Q0] at this
  exact this
 refine wpAny_binaryOp_repeat_ref (T:="tuple") (U:="int") (by decide) ⟨_,ho,rfl⟩ (fun s'=>Jv s' k t) z5e F.fills_int_mul F.slot_int_rmul z7x F.slot_int_index.lookup
  (QW F.slot_int_rmul (Jv s k t) F.entry_int_rmul (F.args_int_rmul_2 _ _) (z6o k t l dd its.toArray n sl)
   ⟨ho,rfl,⟨_,ho,rfl⟩,QW F.slot_tuple_mul ⟨_,ho,rfl⟩ F.entry_tuple_mul (F.args_tuple_mul_2 _ _) (z6d l dd its.toArray n sl k t ?_ ?_ ?_ ?_ ?_ ?_) ⟨ho,?_⟩⟩)
 ·simp; omega
 ·rw [hem]; simp; omega
 ·rw [hem]; simp; omega
 ·rw [hmul]; omega
 ·rw [hmul]
  unfold Builtin.Tuple.tupleTooMany
  rw [hline] at hz
  generalize xs.length * k.toNat=m at hz
  simp only [hline,decide_eq_true_eq]
  omega
 ·rw [hfold,Wl,z8K,← r.length,Q8]; exact hz
 ·rw [hfold]
  have I1:Inv X pins σ (upd H s.heap.objs.size (.tup (Wd k.toNat xs).flatten)) { s with heap:=s.heap.push { cls:=.type "tuple",data:=.seq (Wd k.toNat its).flatten.toArray } } :=
   I.laid (t':=s.toks) (fun b o e=>Wa _ e) (Wh _) (show ObjOk X.prog X.w _ _ _ (.tup (Wd k.toNat xs).flatten) from ⟨by rw [z8K,Q8]; exact hz,(Wd k.toNat its).flatten,r.rep k.toNat,IsTupN.new _ _⟩)
  exact ⟨.ref _,_,I1,rfl,q _ (I.hok.fresh (Wh _))⟩
def zfy:R2:=fun x y H Q=>∃ z k,x = .str z∧y = .int k∧2≤k∧k≤1000000∧0 < z.length∧z.length * k.toNat≤W6∧Q (.str ⟨(Wd k.toNat z.cps).foldl (· ++ ·) #[]⟩) H
theorem op_repS:OpR X (Qc .Mult) zfy:=by
 intro pins s σ H x y v u Q I rx ry h
 obtain ⟨z,k,rfl,rfl,h1,h2,h0,hz,q⟩:=h
 obtain ⟨t,rfl⟩:=rx
 obtain ⟨t',rfl⟩:=ry
 have hline:W6=16777216:=rfl
 have c1:¬ k < 1:=by omega
 have c2:(k == 1 || z.length == 0)=false:=by
  simp
  omega
 refine PySem.P.mul_str (by simp; omega) (fun _ _=>?_) (fun _ _=>?_) ?_
 ·have hm:(z.length:Int) * k≤16777216:=by
   have:(z.length:Int) * k=((z.length * k.toNat:Nat):Int):=by rw [QX,show (k.toNat:Int)=k by omega]
   rw [this]
   rw [hline] at hz
   omega
  have:(z.length:Int)≤(2 ^ 63 - 1) / k:=(Int.le_ediv_iff_mul_le (by omega)).mpr (by omega)
  omega
 ·unfold Builtin.Str.tooLong
  rw [hline] at hz
  generalize z.length * k.toNat=m at hz
  simp only [hline,decide_eq_false_iff_not]
  omega
 ·rw [if_neg c1,if_neg (by rw [c2]; simp)]
  have hsz:((Wd k.toNat z.cps).foldl (· ++ ·) #[]).size=k.toNat * z.length:=by
   have h:=z7c z.cps.toList k.toNat []
   simp only [Q0,Array.toArray_toList] at h
   rw [h,Wl,z8K]
   simp [Str.length]
  exact ⟨by show ((Wd k.toNat z.cps).foldl (· ++ ·) #[]).size≤_; rw [hsz,Q8]; exact hz,.str _,H,I.tok _,⟨_,rfl⟩,q⟩
end
end L2
namespace DV
open PySem PySem.Spec PyProof.Rows L2
def z1a:D→D→Option S
 | .int i,.int j=>pMul (.int i) (.int j)
 | .str x,.int k=>if 2≤k∧k≤1000000∧0 < x.length∧x.length * k.toNat≤W6 then some (.pure (.str (Wd k.toNat x).flatten)) else none
 | .tup xs,.int k=>if 2≤k∧k≤1000000∧0 < xs.length∧xs.length * k.toNat≤W6 then some (.pure (.tup (Wd k.toNat xs).flatten)) else none
 | _,_=>none
def zfz (K:W3):R2:=fun x y H Q=>rI CMul (fun i j=>V.int (i * j)) x y H Q∨zfy x y H Q∨zfx K x y H Q
theorem z1N:OpR X (Qc .Mult) (zfz X.K):=op_mul.or (op_repS.or zer)
theorem Reps.rep (h:Reps H O vs ds):∀ k:Nat,Reps H O (Wd k vs).flatten (Wd k ds).flatten
 | 0=>.nil
 | k + 1=>by rw [WX,WX,QK,QK]; exact h.append (Reps.rep h k)
theorem z1O {K:W3}:Op2 (zfz K) z1a:=by
 intro c σ δ H x y d e s Q k rx ry hp q
 cases d <;> cases e <;> first | (simp [z1a] at hp; done) | skip
 ·exact .inl (zg2 c σ δ H x y _ _ s Q k rx ry hp q)
 ·rename_i z n
  simp only [z1a] at hp
  split at hp
  ·rename_i h
   cases hp
   refine .inr (.inl ⟨toS z,n,rx.str,ry.int,h.1,h.2.1,by rw [z2j]; exact h.2.2.1,by rw [z2j]; exact h.2.2.2,?_⟩)
   have e:(⟨(Wd n.toNat (toS z).cps).foldl (· ++ ·) #[]⟩:Str)=toS (Wd n.toNat z).flatten:=by
    unfold toS
    congr 1
    have:=z7c z n.toNat []
    rw [Q0] at this
    exact this
   rw [e]
   exact q _ H (.refl k) (.str _)
  ·cases hp
 ·rename_i ds n
  simp only [z1a] at hp
  split at hp
  ·rename_i h
   cases hp
   obtain ⟨a,vs,ex,ha,r⟩:=rx.tup
   refine .inr (.inr ⟨a,n,vs,ex,ry.int,.of ha,?_,h.1,h.2.1,by rw [r.1]; exact h.2.2.2,fun p hp'=>?_⟩)
   ·intro z
    rw [z] at r
    have:=r.1
    simp at this
    omega
   ·exact q _ _ (.alloc k hp' _) (RepS.newT k (Reps.rep r _) hp')
  ·cases hp
theorem RepS.newD (k:Ok c σ δ H) (hp:H p=none):RepS c σ δ H (upd H p (.dK [])) (.ref p) (.own (.dct [])):=by
 refine ⟨p,rfl,⟨[],z0D,rfl,fun i p q e=>by simp at e⟩,fun z=>k.nav hp (.inl z),k.fresh₀ hp,k.plus hp _,hp⟩
def zbR:DE:=fun δ=>.ok (.own (.dct [])) δ
theorem zco {X:Cx} {c:Fc} {pos:Pos}:SE X c (.Dict [] [] pos) zbR:=PE.weak zcI fun σ H Q ⟨δ,k,q⟩=>fun p hp=>q _ _ (.alloc k hp _) (RepS.newD k hp)
section
variable {X:Cx} {c:Fc} {e a x y:Expr} {fb:BE} {f g fa:DE} {pos pp p p2:Pos}
end
end DV
set_option maxHeartbeats 1000000
namespace L2
open PySem PySem.Spec PyProof.Rows
theorem z3u:entryFor table "dict.update.loop" = some Builtin.«dict.update.loop»:=entryFor_of_tree (by kernel_rfl)
theorem z1p:plainId "dict.update.loop" = true:=by decide +kernel
theorem z5T:typeLookup (.type "tuple") "keys" = pure none:=by rw [typeLookup_type,builtinLookup_eq_fast]; kernel_rfl
theorem z6l:typeLookup (.type "list") "keys" = pure none:=by rw [typeLookup_type,builtinLookup_eq_fast]; kernel_rfl
set_option maxRecDepth 8000 in
theorem z7P
  (hx:s.heap.get? a=some o) (hc:o.cls = .type "tuple") (hdat:o.data = .seq xs k) (hd:o.dict=none) (hA:A.handled=none)
  (h:∀ h' tk,(∀ b ob,s.heap.get? b=some ob→h'.get? b=some ob)→Q none { s with heap:=h',toks:=tk }) :
  We (model prog w) A (getAttr? (.ref a) "keys") Q E s:=by
 obtain ⟨c,dct,dat,sl⟩:=o
 simp only at hc hdat hd
 subst hc hdat hd
 obtain ⟨hp,g,d,tk,os⟩:=s
 have hT:∀ tk',(⟨hp,g,d,tk',os⟩:W5).TypeIs (.ref a) "tuple":=fun _=>⟨_,hx,rfl⟩
 have f1:=sub_AttributeError
 have f3:=F.slot_tuple_getattribute.lookup
 have f4:=F.slot_tuple_getattribute.bind (.ref a)
 have f5:=am_tuple_getattr_none
 have hmiss:=z5T
 unfold getAttr? getAttrBy? getAttrBy
 repeat (any_goals (first | assumption | exact hT _ | ((with_reducible show We _ _ (call (Value.builtin "tuple.__getattribute__") _ _) _ _ _); refine QW F.slot_tuple_getattribute (hT _) am_entry_tuple_getattribute (F.args_tuple_getattribute_2 _ _) (meets_getattribute_miss_tuple a xs k sl "keys" _ hmiss (by decide +kernel)) ⟨hx,hA,fun h' tk' e hx'=>?_⟩) | wp_step))
 obtain ⟨t',u',he⟩:=hx'.there
 show We _ _ (Jr _ _ _ _ _ _ _) _ _ _
 unfold Jr
 repeat (any_goals (first | assumption | wp_step))
 exact h _ _ hx'.keeps
set_option maxRecDepth 8000 in
theorem z8F
  (hx:s.heap.get? a=some o) (hc:o.cls = .type "list") (hdat:o.data = .seq xs k) (hd:o.dict=none) (hA:A.handled=none)
  (h:∀ h' tk,(∀ b ob,s.heap.get? b=some ob→h'.get? b=some ob)→Q none { s with heap:=h',toks:=tk }) :
  We (model prog w) A (getAttr? (.ref a) "keys") Q E s:=by
 obtain ⟨c,dct,dat,sl⟩:=o
 simp only at hc hdat hd
 subst hc hdat hd
 obtain ⟨hp,g,d,tk,os⟩:=s
 have hT:∀ tk',(⟨hp,g,d,tk',os⟩:W5).TypeIs (.ref a) "list":=fun _=>⟨_,hx,rfl⟩
 have f1:=sub_AttributeError
 have f3:=F.slot_list_getattribute.lookup
 have f4:=F.slot_list_getattribute.bind (.ref a)
 have f5:=am_list_getattr_none
 have hmiss:=z6l
 unfold getAttr? getAttrBy? getAttrBy
 repeat (any_goals (first | assumption | exact hT _ | ((with_reducible show We _ _ (call (Value.builtin "list.__getattribute__") _ _) _ _ _); refine QW F.slot_list_getattribute (hT _) am_entry_list_getattribute (F.args_list_getattribute_2 _ _) (meets_getattribute_miss_list a xs k sl "keys" _ hmiss (by decide +kernel)) ⟨hx,hA,fun h' tk' e hx'=>?_⟩) | wp_step))
 obtain ⟨t',u',he⟩:=hx'.there
 show We _ _ (Jr _ _ _ _ _ _ _) _ _ _
 unfold Jr
 repeat (any_goals (first | assumption | wp_step))
 exact h _ _ hx'.keeps
def z26 (kps:List (Key×V)) (acc:List (Key×V)):List (Key×V):=kps.foldl (fun a kv=>putK a kv.1 kv.2) acc
theorem zbT {prog:Wm} {w:Ws} {A:Wq} {R:Result→W5→Prop} {s:W5} {dl it:Addr} {i:Int} {t0:Tok}
  (hn:We (model prog w) A.in1 (pyNext (.ref it)) (fun r s1=>∃ (q:Addr) (k v:Value) (n:Nat),r=some (.ref q)∧s1.heap.get? q=some { cls:=.type "tuple",dict:=none,data:=.seq #[k,v] n,slots:=#[] } ∧
   We (model prog w) A.in1 (dictSet dl k v) (fun _ s2=>QC (model prog w) A (.builtin "dict.update.loop" ⟨[.ref dl,.ref it,rawInt (i + 1),.none],[]⟩) R s2) (fun _ _=>False) s1) (fun _ _=>False) s) :
  QC (model prog w) A (.builtin "dict.update.loop" ⟨[.ref dl,.ref it,.int i t0,.none],[]⟩) R s:=by
 refine codeAny_builtin z3u ?_
 rw [Around.under_plainId z1p _]
 show We _ A.in1 (pyNext (.ref it) >>= _) _ _ s
 refine W4 (WJ hn (fun r s1 hr=>?_) fun _ _ z=>z.elim)
 obtain ⟨q,k,v,n,rfl,hq,hd⟩:=hr
 dsimp only
 refine W4 ?_
 try with_reducible refine Q7 ?_
 refine W4 (wpAny_tryCatch ?_)
 have hT:s1.TypeIs (.ref q) "tuple":=⟨_,hq,rfl⟩
 unfold Builtin.Dict.pairItems
 refine W4 (QQ hT ?_)
 rw [if_pos (by decide)]
 refine W4 ?_
 unfold seqItems?
 refine W4 (wpAny_load hq (Wc ?_))
 refine Wc ?_
 show We _ A.in1 (holding [k,v] (dictSet dl k v)) _ _ s1
 try with_reducible refine Q7 ?_
 refine WJ hd (fun _ s2 h2=>?_) fun _ _ z=>z.elim
 exact Wc ⟨plainId_quiet z1p _,h2⟩
theorem zbU {prog:Wm} {w:Ws} {A:Wq} {R:Result→W5→Prop} {s:W5} {dl it:Addr} {i:Int} {t0:Tok}
  (hn:We (model prog w) A.in1 (pyNext (.ref it)) (fun r s1=>r=none∧R (.ok (.ret .none)) s1) (fun _ _=>False) s) :
  QC (model prog w) A (.builtin "dict.update.loop" ⟨[.ref dl,.ref it,.int i t0,.none],[]⟩) R s:=by
 refine codeAny_builtin z3u ?_
 rw [Around.under_plainId z1p _]
 show We _ A.in1 (pyNext (.ref it) >>= _) _ _ s
 refine W4 (WJ hn (fun r s1 hr=>?_) fun _ _ z=>z.elim)
 obtain ⟨rfl,hd⟩:=hr
 dsimp only
 show We _ A.in1 (Builtin.Dict.addKeywords dl [] >>= _) _ _ s1
 exact W4 (Wc (Wc hd))
section
variable {X:Cx} {pins:List (Addr×Obj)} {σ:St} {H:Hp}
theorem Rd.sub (h:Rd H a u) (k:∀ b o,H b=some o→H' b=some o):Rd H' a u:=by
 rcases h with h | ⟨o,h⟩
 ·exact .inl (k _ _ h)
 ·exact .inr ⟨o,k _ _ h⟩
def z7o (H:Hp) (ys:List V) (kps:List (Key×V)):Prop:=ys.length=kps.length∧∀ (i:Nat) y kv,ys[i]? = some y→kps[i]? = some kv→∃ q,y = .ref q∧H q=some (.tup [kV kv.1,kv.2])
theorem z4A:∀ (kps acc:List (Key×V)),(z26 kps acc).length≤acc.length + kps.length
 | [],acc=>Wh _
 | kv :: r,acc=>by
  have h1:=z4A r (putK acc kv.1 kv.2)
  have h2:=z5U acc kv.1 kv.2
  show (z26 r (putK acc kv.1 kv.2)).length≤_
  simp only [WN]
  omega
theorem z8y (kps:List (Key×V)) (kv:Key×V) (acc:List (Key×V)):z26 (kps ++ [kv]) acc=putK (z26 kps acc) kv.1 kv.2:=by
 unfold z26
 rw [List.foldl_append]
 rfl
theorem z84 {A:Wq} {R:Result→W5→Prop} {dl it:Addr} {ys:List V} {kps:List (Key×V)} {tn:Nat→Heap→Prop} (hP:z7o H ys kps) (hdl:H dl=none) (hz:kps.length≤W6)
  (item:∀ (i:Nat) (y:V) (H':Hp) (s:W5) (Q:Option Value→W5→Prop),(∀ b o,H b=some o→H' b=some o)→H' it=none→Inv X pins σ H' s→tn i s.heap→ys[i]? = some y→(∀ u s',RelV y u→Inv X pins σ H' s'→tn (i + 1) s'.heap→Q (some u) s')→We (model X.prog X.w) A.in1 (pyNext (.ref it)) Q (fun _ _=>False) s)
  (done:∀ (H':Hp) (s:W5) (Q:Option Value→W5→Prop),(∀ b o,H b=some o→H' b=some o)→H' it=none→Inv X pins σ H' s→tn ys.length s.heap→(∀ s',Inv X pins σ H' s'→Q none s')→We (model X.prog X.w) A.in1 (pyNext (.ref it)) Q (fun _ _=>False) s)
  (keep:∀ (i:Nat) (h h':Heap),tn i h→(∀ o,h.get? it=some o→h'.get? it=some o)→tn i h') (hit:H it=none) (hne:it≠dl) (hR:∀ s',Inv X pins σ (upd H dl (.dK (z26 kps []))) s'→R (.ok (.ret .none)) s') :
  ∀ (k i:Nat) (s:W5) (j:Int) (t0:Tok),ys.length - i=k→i≤ys.length→Inv X pins σ (upd H dl (.dK (z26 (kps.take i) []))) s→tn i s.heap →
   QC (model X.prog X.w) A (.builtin "dict.update.loop" ⟨[.ref dl,.ref it,.int j t0,.none],[]⟩) R s:=by
 have up:∀ (acc:List (Key×V)) b o,H b=some o→upd H dl (.dK acc) b=some o:=fun acc b o e=>by rw [z0x (z0R e hdl)]; exact e
 have nit:∀ acc:List (Key×V),upd H dl (.dK acc) it=none:=fun acc=>by rw [z0x hne]; exact hit
 intro k
 induction k with
 | zero =>
  intro i s j t0 hk hi I st
  have e:i=ys.length:=by omega
  subst e
  rw [hP.1,List.take_of_length_le (Wh _)] at I
  refine zbU (done _ s _ (up _) (nit _) I st fun s' I'=>⟨rfl,hR s' I'⟩)
 | succ k ih =>
  intro i s j t0 hk hi I st
  have hlt:i < ys.length:=by omega
  have hlk:i < kps.length:=by rw [← hP.1]; exact hlt
  obtain ⟨q,ey,hq⟩:=hP.2 i ys[i] kps[i] (by simp [hlt]) (by simp [hlk])
  -- the item is a tuple of two
  have main:∀ s1,Inv X pins σ (upd H dl (.dK (z26 (kps.take i) []))) s1→tn (i + 1) s1.heap→∃ (kk vv:Value) (n:Nat),s1.heap.get? q=some { cls:=.type "tuple",dict:=none,data:=.seq #[kk,vv] n,slots:=#[] }∧RelV (kV kps[i].1) kk∧RelV kps[i].2 vv:=fun s1 I1 _=>by
   obtain ⟨_,its,r,n,e⟩:=(show ObjOk X.prog X.w _ s1.heap q (.tup [kV kps[i].1,kps[i].2]) from I1.hok q _ (up _ q _ hq))
   obtain ⟨u,v,rfl,r1,r2⟩:=Vals.two r
   exact ⟨u,v,n,e,r1,r2⟩
  refine zbT (item i ys[i] _ s _ (up _) (nit _) I st (by simp [hlt]) fun u s' ru I' st'=>?_)
  rw [ey] at ru
  cases ru
  obtain ⟨kk,vv,n,e,r1,r2⟩:=main s' I' st'
  refine ⟨q,kk,vv,n,rfl,e,?_⟩
  obtain ⟨z,hd,vs,rel,dd⟩:=zeU I'.hok z0D
  have hvs:vs.length≤W6:=by rw [← rel.length]; exact z
  have hl:(putK (z26 (kps.take i) []) kps[i].1 kps[i].2).length≤W6:=by
   have h1:=z5U (z26 (kps.take i) []) kps[i].1 kps[i].2
   have h2:=z4A (kps.take i) []
   simp at h2
   omega
  refine wpAny_dictSet_pairs (hsz:=hvs) (zbz r1) dd fun h' dd' hs=>?_
  have he:∃ q,h'.get? dl=some q:=let ⟨q,_,_,hq,_⟩:=dd'; ⟨q,hq⟩
  have I2:=zeV (t':=s'.toks + 1) I' (by rw [z0D]; exact True.intro) hs he (zgB hl hd (rel.put kps[i].1 r2) dd')
  rw [zdL] at I2
  have et:kps.take (i + 1)=kps.take i ++ [kps[i]]:=by rw [JB]; simp [hlk]
  rw [show putK (z26 (kps.take i) []) kps[i].1 kps[i].2=z26 (kps.take (i + 1)) [] by rw [et,z8y]] at I2
  exact ih (i + 1) _ (j + 1) _ (by omega) hlt I2 (keep (i + 1) _ _ st' fun o eo=>(hs.2 it hne).trans eo)
theorem z68 (hc:X.calm=true):CallR X (.type "dict") (fun xs H Q=>∃ p ys kps,xs=[.ref p]∧(H p=some (.tup ys)∨Rd H p (.lst ys))∧z7o H ys kps∧kps.length≤W6∧∀ l,H l=none→Q (.ref l) (upd H l (.dK (z26 kps [])))):=by
 intro pins s σ H xs us Q I r h
 obtain ⟨p,ys,kps,rfl,hp,hP,hz,q⟩:=h
 obtain ⟨u,rfl,rx⟩:=z6c r
 cases rx
 have hA:X.A.handled=none:=I.ok.hd hc
 refine callType_codes (Q₁:=fun obj s₁=>obj = .ref s.heap.objs.size∧s₁ = { s with heap:=s.heap.push { cls:=.type "dict",data:=.dict #[] } }) F.kt_called_dict (F.kt_typeCall_dict_1 _) F.entry_dict_init (kt_code_dict_new _ ⟨rfl,rfl⟩) ?_
 rintro obj s₁ ⟨rfl,rfl⟩
 have hdl:H s.heap.objs.size=none:=I.hok.fresh (Wh _)
 have I1:Inv X pins σ (upd H s.heap.objs.size (.dK [])) { s with heap:=s.heap.push { cls:=.type "dict",data:=.dict #[] } }:=I.laid (t':=s.toks) (fun _ _ q=>Wa _ q) (Wh _) (z9J s.heap I.big)
 generalize hdd:s.heap.objs.size=dl at hdl I1
 have up:∀ (acc:List (Key×V)) b o,H b=some o→upd H dl (.dK acc) b=some o:=fun acc b o e=>by rw [z0x (z0R e hdl)]; exact e
 have hTd:({ s with heap:=s.heap.push { cls:=.type "dict",data:=.dict #[] } }:W5).TypeIs (.ref dl) "dict":=⟨_,by rw [← hdd]; exact Wu _ rfl,rfl⟩
 refine ⟨hTd,F.args_dict_init_2 _ _,?_⟩
 unfold Builtin.«dict.__init__»
 refine W4 ?_
 unfold Builtin.Dict.selfAndRest
 refine W4 (wpAny_notOrdered_dict hTd ?_)
 show We _ _ (pure (dl,[Value.ref p])) _ _ _
 refine Wc ?_
 show We _ _ (Builtin.Dict.updateFrom "dict.__init__" dl (.ref p) [] .none) _ _ _
 unfold Builtin.Dict.updateFrom
 have fin:∀ s',Inv X pins σ (upd H dl (.dK (z26 kps []))) s'→EP X pins σ Q (.ref dl) s':=fun s' I'=>⟨.ref dl,_,I',rfl,q dl hdl⟩
 rcases hp with hp | hp
 ·obtain ⟨_,its,r,n,e⟩:=(show ObjOk X.prog X.w _ (s.heap.push { cls:=.type "dict",data:=.dict #[] }) p (.tup ys) from I1.hok p _ (up _ p _ hp))
  refine W4 (QQ ⟨_,e,rfl⟩ ?_)
  rw [if_pos (by decide)]
  refine W4 (z7P e rfl rfl rfl hA fun h' tk kp=>?_)
  rw [if_pos (show (none:Option Value).isNone=true from rfl)]
  refine W4 (Jw ?_)
  have I2:Inv X pins σ (upd H dl (.dK [])) { s with heap:=h',toks:=tk }:=I1.kept kp
  have isT:h'.IsTuple p its.toArray:=⟨_,kp _ _ e,rfl,n,rfl⟩
  refine W4 (wpAny_pyIter_tuple (s:={ s with heap:=h',toks:=tk }) isT ?_)
  refine Wc ⟨plainId_quiet z1p _,?_⟩
  have hfr:upd H dl (.dK []) h'.objs.size=none:=I2.hok.fresh (Wh _)
  have hne:h'.objs.size≠dl:=fun z=>by rw [z,z0D] at hfr; cases hfr
  have hit:H h'.objs.size=none:=by rw [z0x hne] at hfr; exact hfr
  have fp:∀ H':Hp,H' h'.objs.size=none→FpOk X pins H' h'.objs.size:=fun H' hn=>I2.fpOk (Wh _) hn
  refine z84 (X:=X) (pins:=pins) (σ:=σ) (H:=H) (dl:=dl) (it:=h'.objs.size) (ys:=ys) (kps:=kps) (tn:=fun i h=>h.IsTupleIter h'.objs.size p i) hP hdl hz ?_ ?_ (fun i h h2 st k=>st.at k) hit hne (fun s' I'=>⟨rfl,fin s' I'⟩) ys.length 0 _ 0 _ (JH _) (QM _) ?_ ?_
  ·intro i y H' s' Q' sub hn I' st hy k
   obtain ⟨_,its2,r2,n2,e2⟩:=(show ObjOk X.prog X.w _ s'.heap p (.tup ys) from I'.hok p _ (sub p _ hp))
   obtain ⟨v,hv,rv⟩:=r2.get hy
   obtain ⟨f0,f1,f2,f3,f4,f5⟩:=fp H' hn
   refine wpAny_pyNext_tuple_item st (items:=its2.toArray) ⟨_,e2,rfl,n2,rfl⟩ (x:=v) (by simpa using hv) fun h3 st3 sb=>?_
   exact k v { s' with heap:=h3 } rv (I'.turned (t':=s'.toks) (fun b o hb e=>(sb.2 b hb).trans e) f0 f1 f3 f4 f5) st3
  ·intro H' s' Q' sub hn I' st k
   obtain ⟨_,its2,r2,n2,e2⟩:=(show ObjOk X.prog X.w _ s'.heap p (.tup ys) from I'.hok p _ (sub p _ hp))
   obtain ⟨f0,f1,f2,f3,f4,f5⟩:=fp H' hn
   have hl2:=r2.length
   exact wpAny_pyNext_tuple_end (show X.A.in1.in1.handled=none from hA) st (items:=its2.toArray) ⟨_,e2,rfl,n2,rfl⟩ (by simp; omega) fun h3 eb=>k { s' with heap:=h3 } (I'.turned (t':=s'.toks) (fun b o hb e=>eb b o hb e) f0 f1 f3 f4 f5)
  ·exact I2.kept (t':=tk) fun b o e=>Wa _ e
  ·exact ⟨_,Wu _ rfl,rfl,rfl⟩
 ·obtain ⟨_,its,n,r,e⟩:=(show ObjOk X.prog X.w _ (s.heap.push { cls:=.type "dict",data:=.dict #[] }) p (.lst ys) from (Rd.sub hp (up _)).ok I1.hok)
  refine W4 (QQ ⟨_,e,rfl⟩ ?_)
  rw [if_pos (by decide)]
  refine W4 (z8F e rfl rfl rfl hA fun h' tk kp=>?_)
  rw [if_pos (show (none:Option Value).isNone=true from rfl)]
  refine W4 (Jw ?_)
  have I2:Inv X pins σ (upd H dl (.dK [])) { s with heap:=h',toks:=tk }:=I1.kept kp
  have isT:h'.IsList p its.toArray:=⟨_,kp _ _ e,rfl,n,rfl⟩
  refine W4 (wpAny_pyIter_list (s:={ s with heap:=h',toks:=tk }) isT ?_)
  refine Wc ⟨plainId_quiet z1p _,?_⟩
  have hfr:upd H dl (.dK []) h'.objs.size=none:=I2.hok.fresh (Wh _)
  have hne:h'.objs.size≠dl:=fun z=>by rw [z,z0D] at hfr; cases hfr
  have hit:H h'.objs.size=none:=by rw [z0x hne] at hfr; exact hfr
  have fp:∀ H':Hp,H' h'.objs.size=none→FpOk X pins H' h'.objs.size:=fun H' hn=>I2.fpOk (Wh _) hn
  refine z84 (X:=X) (pins:=pins) (σ:=σ) (H:=H) (dl:=dl) (it:=h'.objs.size) (ys:=ys) (kps:=kps) (tn:=fun i h=>h.IsListIter h'.objs.size p i) hP hdl hz ?_ ?_ (fun i h h2 st k=>st.at k) hit hne (fun s' I'=>⟨rfl,fin s' I'⟩) ys.length 0 _ 0 _ (JH _) (QM _) ?_ ?_
  ·intro i y H' s' Q' sub hn I' st hy k
   obtain ⟨_,its2,n2,r2,e2⟩:=(show ObjOk X.prog X.w _ s'.heap p (.lst ys) from (Rd.sub hp sub).ok I'.hok)
   obtain ⟨v,hv,rv⟩:=r2.get hy
   obtain ⟨f0,f1,f2,f3,f4,f5⟩:=fp H' hn
   refine wpAny_pyNext_list_item st (items:=its2.toArray) ⟨_,e2,rfl,n2,rfl⟩ (x:=v) (by simpa using hv) fun h3 st3 sb=>?_
   exact k v { s' with heap:=h3 } rv (I'.turned (t':=s'.toks) (fun b o hb e=>(sb.2 b hb).trans e) f0 f1 f3 f4 f5) st3
  ·intro H' s' Q' sub hn I' st k
   obtain ⟨_,its2,n2,r2,e2⟩:=(show ObjOk X.prog X.w _ s'.heap p (.lst ys) from (Rd.sub hp sub).ok I'.hok)
   obtain ⟨f0,f1,f2,f3,f4,f5⟩:=fp H' hn
   have hl2:=r2.length
   exact wpAny_pyNext_list_end (show X.A.in1.in1.handled=none from hA) st (items:=its2.toArray) ⟨_,e2,rfl,n2,rfl⟩ (by simp; omega) fun h3 eb=>k { s' with heap:=h3 } (I'.turned (t':=s'.toks) (fun b o hb e=>eb b o hb e) f0 f1 f3 f4 f5)
  ·exact I2.kept (t':=tk) fun b o e=>Wa _ e
  ·exact ⟨_,Wu _ rfl,rfl,rfl⟩
end
end L2
set_option maxHeartbeats 400000
namespace DV
open PySem PySem.Spec PyProof.Rows L2
def valD (kvs:List (DKey×D)) (k:DKey):Option D:=(kvs.find? fun kv=>decide (kv.1=k)).map (·.2)
def putD (kvs:List (DKey×D)) (k:DKey) (v:D):List (DKey×D) :=
 if (kvs.any fun kv=>decide (kv.1=k))=true then kvs.map (fun kv=>if kv.1=k then (kv.1,v) else kv) else kvs ++ [(k,v)]
def z8x (kps acc:List (DKey×D)):List (DKey×D):=kps.foldl (fun a kv=>putD a kv.1 kv.2) acc
theorem zeB (h:kOf k=kOf j):k=j:=by
 cases k <;> cases j <;> simp [kOf] at h
 ·rw [h]
 ·rw [z8g h]
def DR (H:Hp) (O:Addr→Prop):List (Key×V)→List (DKey×D)→Prop
 | [],[]=>True
 | p :: ws,q :: ds=>p.1=kOf q.1∧Rep H O p.2 q.2∧DR H O ws ds
 | _,_=>False
section
variable {H H':Hp} {O O':Addr→Prop}
theorem DR.of:∀ {ws:List (Key×V)} {ds:List (DKey×D)},ws.map (·.1)=ds.map (fun p=>kOf p.1)→(∀ (i:Nat) p q,ws[i]? = some p→ds[i]? = some q→Rep H O p.2 q.2)→DR H O ws ds
 | [],[],_,_=>trivial
 | [],_ :: _,h,_=>by simp at h
 | _ :: _,[],h,_=>by simp at h
 | p :: ws,q :: ds,h,k=>by
  simp only [Ww,List.cons.injEq] at h
  exact ⟨h.1,k 0 p q rfl rfl,DR.of h.2 fun i p' q' e1 e2=>k (i + 1) p' q' (by simpa using e1) (by simpa using e2)⟩
theorem DR.keys:∀ {ws:List (Key×V)} {ds:List (DKey×D)},DR H O ws ds→ws.map (·.1)=ds.map (fun p=>kOf p.1)
 | [],[],_=>rfl
 | [],_ :: _,h=>h.elim
 | _ :: _,[],h=>h.elim
 | p :: ws,q :: ds,h=>by simp only [Ww,h.1,DR.keys h.2.2]
theorem DR.vals:∀ {ws:List (Key×V)} {ds:List (DKey×D)},DR H O ws ds→∀ (i:Nat) p q,ws[i]? = some p→ds[i]? = some q→Rep H O p.2 q.2
 | [],[],_,i,p,q,e,_=>by simp at e
 | [],_ :: _,h,_,_,_,_,_=>h.elim
 | _ :: _,[],h,_,_,_,_,_=>h.elim
 | p :: ws,q :: ds,h,i,p',q',e1,e2=>by
  cases i with
  | zero=>simp at e1 e2; subst e1 e2; exact h.2.1
  | succ i=>exact DR.vals h.2.2 i p' q' (by simpa using e1) (by simpa using e2)
theorem DR.map:∀ {ws:List (Key×V)} {ds:List (DKey×D)},DR H O ws ds→(∀ v d,Rep H O v d→Rep H' O' v d)→DR H' O' ws ds
 | [],[],_,_=>trivial
 | [],_ :: _,h,_=>h.elim
 | _ :: _,[],h,_=>h.elim
 | p :: ws,q :: ds,h,k=>⟨h.1,k _ _ h.2.1,DR.map h.2.2 k⟩
theorem z49 (h:p=kOf q):(p=kOf k) ↔ q=k:=⟨fun e=>zeB (by rw [← h]; exact e),fun e=>by rw [h,e]⟩
theorem DR.any:∀ {ws:List (Key×V)} {ds:List (DKey×D)} (k:DKey),DR H O ws ds→(ws.any fun kv=>decide (kv.1=kOf k))=ds.any fun kv=>decide (kv.1=k)
 | [],[],_,_=>rfl
 | [],_ :: _,_,h=>h.elim
 | _ :: _,[],_,h=>h.elim
 | p :: ws,q :: ds,k,h=>by
  rw [QI,QI,DR.any k h.2.2]
  congr 1
  exact decide_eq_decide.mpr (z49 h.1)
theorem DR.val:∀ {ws:List (Key×V)} {ds:List (DKey×D)} (k:DKey),DR H O ws ds→(valD ds k=none∧valV ws (kOf k)=none)∨∃ v d,valD ds k=some d∧valV ws (kOf k)=some v∧Rep H O v d
 | [],[],_,_=>.inl ⟨rfl,rfl⟩
 | [],_ :: _,_,h=>h.elim
 | _ :: _,[],_,h=>h.elim
 | p :: ws,q :: ds,k,h=>by
  by_cases e:q.1=k
  ·have e':=(z49 h.1).mpr e
   exact .inr ⟨p.2,q.2,by simp [valD,Qw,e],z5j e',h.2.1⟩
  ·have e':¬ p.1=kOf k:=fun z=>e ((z49 h.1).mp z)
   have ev:valD (q :: ds) k=valD ds k:=by simp [valD,Qw,e]
   rw [ev,z5k e']
   exact DR.val k h.2.2
theorem DR.append:∀ {ws ws':List (Key×V)} {ds ds':List (DKey×D)},DR H O ws ds→DR H O ws' ds'→DR H O (ws ++ ws') (ds ++ ds')
 | [],_,[],_,_,h'=>h'
 | [],_,_ :: _,_,h,_=>h.elim
 | _ :: _,_,[],_,h,_=>h.elim
 | p :: ws,_,q :: ds,_,h,h'=>⟨h.1,h.2.1,DR.append h.2.2 h'⟩
theorem DR.store:∀ {ws:List (Key×V)} {ds:List (DKey×D)} {k:DKey} {v:V} {d:D},DR H O ws ds→Rep H O v d→DR H O (ws.map fun kv=>if kv.1=kOf k then (kv.1,v) else kv) (ds.map fun kv=>if kv.1=k then (kv.1,d) else kv)
 | [],[],_,_,_,_,_=>trivial
 | [],_ :: _,_,_,_,h,_=>h.elim
 | _ :: _,[],_,_,_,h,_=>h.elim
 | p :: ws,q :: ds,k,v,d,h,r=>by
  refine ⟨?_,?_,DR.store h.2.2 r⟩
  ·by_cases e:q.1=k
   ·dsimp only; rw [if_pos ((z49 h.1).mpr e),if_pos e]; exact h.1
   ·dsimp only; rw [if_neg fun z=>e ((z49 h.1).mp z),if_neg e]; exact h.1
  ·by_cases e:q.1=k
   ·dsimp only; rw [if_pos ((z49 h.1).mpr e),if_pos e]; exact r
   ·dsimp only; rw [if_neg fun z=>e ((z49 h.1).mp z),if_neg e]; exact h.2.1
theorem DR.put (h:DR H O ws ds) (r:Rep H O v d):DR H O (putK ws (kOf k) v) (putD ds k d):=by
 unfold putK putD
 rw [DR.any k h]
 split
 ·exact DR.store h r
 ·exact DR.append h ⟨rfl,r,trivial⟩
theorem DR.puts:∀ {kps:List (Key×V)} {dps:List (DKey×D)} {ws:List (Key×V)} {ds:List (DKey×D)},DR H O kps dps→DR H O ws ds→DR H O (z26 kps ws) (z8x dps ds)
 | [],[],_,_,_,h=>h
 | [],_ :: _,_,_,h,_=>h.elim
 | _ :: _,[],_,_,h,_=>h.elim
 | p :: kps,q :: dps,ws,ds,h,h'=>by
  show DR H O (z26 kps (putK ws p.1 p.2)) (z8x dps (putD ds q.1 q.2))
  rw [h.1]
  exact DR.puts h.2.2 (DR.put h' h.2.1)
end
def keyD:D→Option DKey
 | .int i=>some (.inl i)
 | .str x=>some (.inr x)
 | _=>none
theorem zaS (h:keyD d=some k) (r:Rep H O v d):v=kV (kOf k):=by
 cases d <;> simp [keyD] at h <;> subst h <;> cases r <;> rfl
theorem z9b (h:keyD d=some k) (r:RepB c σ δ H v d):v=kV (kOf k):=by
 rcases r with r | ⟨a,rfl,r⟩
 ·exact zaS h r
 ·cases d <;> simp [keyD] at h <;> exact r.elim
def z3M:List D→Option (List (DKey×D))
 | []=>some []
 | .tup [k,v] :: r=>match keyD k,z3M r with
  | some k',some r'=>some ((k',v) :: r')
  | _,_=>none
 | _ :: _=>none
def z2o:D→Option S
 | .lst ds=>(z3M ds).bind fun ps=>if ps.length≤W6 then some (.own (.dct (z8x ps []))) else none
 | .tup ds=>(z3M ds).bind fun ps=>if ps.length≤W6 then some (.own (.dct (z8x ps []))) else none
 | _=>none
theorem z70:∀ {ds:List D} {vs:List V} {ps:List (DKey×D)},z3M ds=some ps→Reps H O vs ds→∃ kps,z7o H vs kps∧DR H O kps ps∧kps.length=ps.length
 | [],[],ps,h,_=>by
  simp [z3M] at h
  subst h
  exact ⟨[],⟨rfl,fun i y kv e=>by simp at e⟩,trivial,rfl⟩
 | [],_ :: _,_,_,r=>by have:=r.1; simp at this
 | _ :: _,[],_,_,r=>by have:=r.1; simp at this
 | d :: ds,v :: vs,ps,h,r=>by
  unfold z3M at h
  split at h
  ·rename_i heq; cases heq
  ·rename_i k w r' heq
   cases heq
   split at h
   ·rename_i k' r'' hk hr
    cases h
    obtain ⟨kps,hP,hD,hL⟩:=z70 hr r.tail
    have rp:=r.head
    cases rp with
    | tup h1 h2 h3 h4 =>
     rename_i a us
     match us,h3,h4,h2 with
     | [x,y],_,h4,h2 =>
      have rk:=h4 0 x k rfl rfl
      have rv:=h4 1 y w rfl rfl
      have ek:=zaS hk rk
      subst ek
      refine ⟨(kOf k',y) :: kps,⟨by simp [hP.1],fun i z kv e1 e2=>?_⟩,⟨rfl,rv,hD⟩,by simp [hL]⟩
      cases i with
      | zero=>simp at e1 e2; subst e1 e2; exact ⟨a,rfl,h2⟩
      | succ i=>exact hP.2 i z kv (by simpa using e1) (by simpa using e2)
   ·cases h
  ·cases h
theorem RepS.newDk (k:Ok c σ δ H) (hp:H p=none) (r:DR H (Av c σ δ) ws ds):RepS c σ δ H (upd H p (.dK ws)) (.ref p) (.own (.dct ds)):=by
 have up:∀ a w,H a=some w→upd H p (.dK ws) a=some w:=fun a w e=>by rw [z0x (z0R e hp)]; exact e
 have r1:DR (upd H p (.dK ws)) (Av (c.plus p) σ δ) ws ds:=r.map fun v d h=>(h.anti fun b z=>by
  rcases z with (z | z) | z
  ·exact .inl (.inl z)
  ·exact .inr (by rw [z]; exact hp)
  ·exact .inl (.inr z)).keep fun b w e _=>up b w e
 exact ⟨p,rfl,⟨ws,z0D,r1.keys,r1.vals⟩,fun z=>k.nav hp (.inl z),k.fresh₀ hp,k.plus hp _,hp⟩
section
variable {X:Cx} {c:Fc} {e:Expr} {fb:BE} {pos pp:Pos}
theorem zal:Q6 "dict" = some (.type "dict"):=by decide +kernel
theorem z5A (hc:X.calm=true) (hg:Gl X "dict") (hm:X.mg "dict" = none) (he:SB X c e fb) (hs:z4S e=true:=by rfl):SE X c (.Call (.Name "dict" pp) [e] [] pos) (eC1 z2o fb) :=
 z5B (r:=fun v H Q=>∃ p ys kps,v = .ref p∧(H p=some (.tup ys)∨Rd H p (.lst ys))∧z7o H ys kps∧kps.length≤W6∧∀ l,H l=none→Q (.ref l) (upd H l (.dK (z26 kps []))))
  (z68 hc) (fun v H Q ⟨p,ys,kps,e,h⟩=>⟨p,ys,kps,by rw [e],h⟩)
  (fun c σ δ H x d s Q k rx hp q=>by
   cases d with
   | lst ds =>
    simp only [z2o] at hp
    cases hps:z3M ds with
    | none=>rw [hps] at hp; cases hp
    | some ps =>
     rw [hps] at hp
     simp only [WD] at hp
     split at hp
     ·rename_i hz
      cases hp
      obtain ⟨a,vs,ex,ha,r⟩:=rx.lst
      obtain ⟨kps,hP,hD,hL⟩:=z70 hps r
      exact ⟨a,vs,kps,ex,.inr ha,hP,by rw [hL]; exact hz,fun l hl=>q _ _ (.alloc k hl _) (RepS.newDk k hl (DR.puts hD (ws:=[]) (ds:=[]) trivial))⟩
     ·cases hp
   | tup ds =>
    simp only [z2o] at hp
    cases hps:z3M ds with
    | none=>rw [hps] at hp; cases hp
    | some ps =>
     rw [hps] at hp
     simp only [WD] at hp
     split at hp
     ·rename_i hz
      cases hp
      obtain ⟨a,vs,ex,ha,r⟩:=rx.tup
      obtain ⟨kps,hP,hD,hL⟩:=z70 hps r
      exact ⟨a,vs,kps,ex,.inl ha,hP,by rw [hL]; exact hz,fun l hl=>q _ _ (.alloc k hl _) (RepS.newDk k hl (DR.puts hD (ws:=[]) (ds:=[]) trivial))⟩
     ·cases hp
   | _=>simp [z2o] at hp) hg hm zal he (by decide) (by decide) (z5x hs)
end
theorem z9c (r:RepB c σ δ H v (.dct ds)):∃ a ws,v = .ref a∧H a=some (.dK ws)∧DR H (Av c σ δ) ws ds:=by
 obtain ⟨a,ws,e,h,k1,k2⟩:=r.dct
 exact ⟨a,ws,e,h,DR.of k1 k2⟩
def rInD (neg:Bool):R2:=fun x y H Q=>∃ a kvs k,y = .ref a∧H a=some (.dK kvs)∧x=kV k∧Q (.bl (if neg then !(valV kvs k).isSome else (valV kvs k).isSome)) H
theorem op_inD (hu:X.A.units + 64 < Q4):OpR X (Wz .In) (rInD false):=by
 intro pins s σ H x y v u Q I rx ry h
 obtain ⟨a,kvs,k,rfl,ha,rfl,q⟩:=h
 cases ry
 exact d_in (by omega) I (DGet.k ha) rx fun s' I'=>⟨.bl _,H,I',rfl,q⟩
theorem zbi (hu:X.A.units + 64 < Q4):OpR X (Wz .NotIn) (rInD true):=by
 intro pins s σ H x y v u Q I rx ry h
 obtain ⟨a,kvs,k,rfl,ha,rfl,q⟩:=h
 cases ry
 exact zeW (by omega) I (DGet.k ha) rx fun s' I'=>⟨.bl _,H,I',rfl,q⟩
def zdq (K:W3) (neg:Bool):R2:=fun x y H Q=>rInD neg x y H Q∨rIn K neg x y H Q∨∃ i j,x = .str i∧y = .str j∧Q (.bl (if neg then !(!(Builtin.Str.occurrences j i 0 j.length 1).isEmpty) else !(Builtin.Str.occurrences j i 0 j.length 1).isEmpty)) H
theorem z8C {X:Cx} (hu:X.A.units + 64 < Q4):OpR X (Wz .NotIn) (zdq X.K true):=(zbi hu).or (op_notIn_seq.or z7H)
def pIn (neg:Bool) (x y:D):Option S:=match y with
 | .dct ds=>(keyD x).map fun k=>.pure (.bl (if neg then !(valD ds k).isSome else (valD ds k).isSome))
 | .str y=>match x with
  | .str [n]=>some (.pure (.bl (if neg then !decide (n ∈ y) else decide (n ∈ y))))
  | _=>none
 | .lst ds=>match x,z2N ds with
  | .str z,some ts=>some (.pure (.bl (if neg then !ts.contains z else ts.contains z)))
  | _,_=>none
 | .tup ds=>match x,z2N ds with
  | .str z,some ts=>some (.pure (.bl (if neg then !ts.contains z else ts.contains z)))
  | _,_=>none
 | _=>none
theorem z5Z (z:Tx) (ts:List Tx):inV (V.str (toS z)) (ts.map fun z=>V.str (toS z))=ts.contains z:=by
 unfold inV
 rw [List.any_map]
 induction ts with
 | nil=>rfl
 | cons t r ih =>
  rw [QI,Js,ih]
  congr 1
  show (toS t == toS z)=(z == t)
  rw [z8i,Bool.beq_comm]
theorem z50 (ts:List Tx):(ts.map fun z=>V.str (toS z)).all z7d=true:=by
 rw [List.all_map]
 exact List.all_eq_true.mpr fun _ _=>rfl
theorem zcR {K:W3} (neg:Bool):Op2 (zdq K neg) (pIn neg):=by
 intro c σ δ H x y d e s Q k rx ry hp q
 cases e <;> first | (simp [pIn] at hp; done) | skip
 ·rename_i z
  simp only [pIn] at hp
  split at hp <;> first | (cases hp; done) | skip
  rename_i n
  cases hp
  refine .inr (.inr ⟨toS [n],toS z,rx.str,ry.str,?_⟩)
  rw [show toS [n] = ⟨#[n]⟩ from rfl,PySem.StrLaws.found_one,show (toS z).cps.toList=z by simp [toS]]
  exact q _ H (.refl k) (.bl _)
 ·rename_i ds
  simp only [pIn] at hp
  split at hp <;> first | (cases hp; done) | skip
  rename_i z ts ht
  cases hp
  obtain ⟨a,vs,ea,ha,r⟩:=ry.tup
  have ev:=z2R ht r
  refine .inr (.inl ⟨a,vs,ea,.inr (.of ha),by rw [rx.str]; rfl,by rw [ev]; exact z50 ts,?_⟩)
  rw [rx.str,ev,z5Z]
  exact q _ H (.refl k) (.bl _)
 ·rename_i ds
  simp only [pIn] at hp
  split at hp <;> first | (cases hp; done) | skip
  rename_i z ts ht
  cases hp
  obtain ⟨a,vs,ea,ha,r⟩:=ry.lst
  have ev:=z2R ht r
  refine .inr (.inl ⟨a,vs,ea,.inl (.inl ha),by rw [rx.str]; rfl,by rw [ev]; exact z50 ts,?_⟩)
  rw [rx.str,ev,z5Z]
  exact q _ H (.refl k) (.bl _)
 ·rename_i ds
  simp only [pIn] at hp
  cases hk:keyD d with
  | none=>rw [hk] at hp; cases hp
  | some kk =>
   rw [hk] at hp
   cases hp
   obtain ⟨a,ws,ea,ha,dr⟩:=z9c ry
   refine .inl ⟨a,ws,kOf kk,ea,ha,z9b hk rx,?_⟩
   have:(valV ws (kOf kk)).isSome=(valD ds kk).isSome:=by
    rcases dr.val kk with ⟨e1,e2⟩ | ⟨v,d,e1,e2,_⟩
    ·rw [e1,e2]; rfl
    ·rw [e1,e2]; rfl
   rw [this]
   exact q _ H (.refl k) (.bl _)
def rIxD:R2:=fun x y H Q=>∃ a kvs k v,x = .ref a∧H a=some (.dK kvs)∧y=kV k∧valV kvs k=some v∧Q v H
def pIxX:D→D→Option S
 | .dct ds,k=>(keyD k).bind fun k=>(valD ds k).map .pure
 | x,y=>pIx x y
theorem zeD (hu:X.A.units + 64 < Q4):IxR X rIxD:=by
 intro value slice pins s σ H x y v u Q I rx ry h hs
 obtain ⟨a,kvs,k,w,rfl,ha,rfl,hv,q⟩:=h
 cases rx
 obtain ⟨_,_,vs,_,dd⟩:=zeU I.hok ha
 have hT:s.TypeIs (.ref a) "dict":=dd.typeIs
 exact tail_any hT F.slot_dict_getitem.lookup (zbV (v:=w) (by omega) I (by rw [← hv]; exact DGet.k ha) ry fun w' s' I' rw'=>⟨w,H,I',rw',q⟩) hs
theorem zbm {K:W3}:Op2 (fun x y H Q=>rIxD x y H Q∨rIx K x y H Q) pIxX:=by
 intro c σ δ H x y d e s Q k rx ry hp q
 cases d with
 | dct ds =>
  simp only [pIxX] at hp
  cases hk:keyD e with
  | none=>rw [hk] at hp; cases hp
  | some kk =>
   rw [hk] at hp
   simp only [WD,J0] at hp
   obtain ⟨dv,hv,rfl⟩:=hp
   obtain ⟨a,ws,ea,ha,dr⟩:=z9c rx
   rcases dr.val kk with ⟨e1,e2⟩ | ⟨v,d',e1,e2,r⟩
   ·rw [e1] at hv; cases hv
   ·rw [e1] at hv; cases hv
    exact .inl ⟨a,ws,kOf kk,v,ea,ha,z9b hk ry,e2,q v H (.refl k) r⟩
 | _=>exact .inr (z0q c σ δ H x y _ e s Q k rx ry hp q)
end DV
namespace PySem
open Sem (wp)
open AutoSeq1 (wpAny_loadPart')
section
variable {prog:Wm} {w:Ws} {A:Wq} {E:Value→W5→Prop} {s:W5}
end
theorem IsTuple.at' {h h':Heap} {l:Addr} {items:Array Value} (x:h.IsTuple l items) (k:∀ o,h.get? l=some o→h'.get? l=some o):h'.IsTuple l items:=by
 obtain ⟨o,ho,r⟩:=x
 exact ⟨o,k o ho,r⟩
end PySem
namespace L2
open PySem PySem.Spec PyProof.Rows
section
variable {X:Cx} {pins:List (Addr×Obj)} {σ:St} {H:Hp} {s:W5} {h':Heap}
end
end L2
namespace DV
open PySem PySem.Spec PyProof.Rows L2
section
variable {X:Cx} {c:Fc} {tg e:Expr} {fe:DE} {pos pp:Pos}
end
end DV
namespace HT
open PySem PySem.Spec PyProof.Rows
section
variable {prog:Wm} {w:Ws} {A:Wq} {E:Value→W5→Prop} {s:W5}
theorem zam (n:Nat):Qe none none (-1) (n:Int)=((n:Int) - 1,-1):=by
 unfold Qe
 simp
theorem za4 (n:Nat):WO ((n:Int) - 1) (-1) (-1)=n:=by
 unfold WO
 simp
 try omega
theorem z58 {sl:Addr} {t:Tok} {n:Nat} {Q:Int×Int×Nat→W5→Prop} (hs:s.heap.IsSliceOf sl .none .none (.int (-1) t))
  (h:Q ((n:Int) - 1,-1,n) s):We (model prog w) A (QH (.ref sl) (pure (n:Int))) Q E s:=by
 obtain ⟨os,hos,hcs,hds⟩:=id hs
 unfold QH Builtin.Slice.sliceFields
 refine W4 (W4 (JC hos hds (x:=.none) rfl (W4 (JC hos hds (x:=.none) rfl (W4 (JC hos hds (x:=.int (-1) t) rfl (Wc ?_)))))))
 refine W4 (slicePart_int ?_)
 show We _ _ (if ((-1:Int) == 0)=true then _ else _) _ _ s
 rw [if_neg (by decide)]
 refine W4 (slicePart_none (W4 (slicePart_none (W4 (Wc ?_)))))
 show We _ _ (match Qe none none (-1) (n:Int) with | (lo,hi)=>pure (lo,(-1:Int),WO lo hi (-1))) _ _ s
 rw [zam n]
 show We _ _ (pure ((n:Int) - 1,(-1:Int),WO ((n:Int) - 1) (-1) (-1))) _ _ s
 rw [za4]
 exact Wc h
theorem z9C:∀ {l:List α},(∀ x ∈ l,f x=g x)→l.filterMap f=l.filterMap g
 | [],_=>rfl
 | x :: l,h=>by
  rw [QS,QS,h x (by simp),z9C fun y hy=>h y (by simp [hy])]
theorem zcD (xs:Array Value):((Wb xs.size).filterMap fun (m:Nat)=>xs[(((xs.size:Int) - 1) + (m:Int) * -1).toNat]?).toArray=xs.toList.reverse.toArray:=by
 have e:((Wb xs.size).filterMap fun (m:Nat)=>xs[(((xs.size:Int) - 1) + (m:Int) * -1).toNat]?)=((Wb xs.size).map fun k=>xs.size - 1 - k).filterMap (xs[·]?):=by
  rw [List.filterMap_map]
  refine z9C fun m hm=>?_
  have:(((xs.size:Int) - 1) + (m:Int) * -1).toNat=xs.size - 1 - m:=by
   have:=List.mem_range.mp hm
   omega
  simp only [this,Function.comp]
 rw [e,PySem.W.krv_range,List.filterMap_reverse,PySem.W.krv_all]
theorem getItem_tuple_rev (ht:IsTup s.heap t items) (hs:s.heap.IsSliceOf sl .none .none (.int (-1) tk))
  (h:Q (.ref s.heap.objs.size) { s with heap:=s.heap.push { cls:=.type "tuple",data:=.seq items.toList.reverse.toArray } })
  (hsz:items.size≤W6):We (model prog w) A (Je (.ref t) (.ref sl)) Q E s:=by
 have htake:sizeOk (.seq items.toList.reverse.toArray):=by
  show items.toList.reverse.toArray.size≤W6
  simpa using hsz
 obtain ⟨os,hos,hcs,hds⟩:=id hs
 have hTs:s.TypeIs (.ref sl) "slice":=⟨os,hos,hcs⟩
 unfold Je
 try with_reducible refine Q7 ?_
 first | refine W4 (Wc ?_) | skip
 refine W4 (wpAny_sequenceKey ht.typeIs (by decide) ?_)
 refine W4 (wpAny_callSpecial?_slot (name:=Str.ofString "__getitem__") ht.typeIs WS
  (wpAny_call_entry WS ht.typeIs entry_tuple_getitem ?_ (args_tuple_getitem _ _)))
 show We _ _ (Builtin.Tuple.tupleItemsOf (.ref t) >>= _) _ _ s
 refine W4 (tupleItemsOf_ ht ?_)
 refine W4 (QQ hTs ?_)
 rw [if_pos (by decide)]
 refine W4 (z58 hs ?_)
 have hno:¬ ((((items.size:Int) - 1) == 0 && (-1:Int) == 1 && items.size == items.size)=true):=by
  intro q
  rw [Wk,Wk] at q
  exact absurd q.1.2 (by decide)
 show We _ _ (if (((items.size:Int) - 1) == 0 && (-1:Int) == 1 && items.size == items.size)=true then _ else _) _ _ s
 rw [if_neg hno,zcD]
 first
  | exact W4 (m:=WQ _) (Qa (Wc ⟨_,rfl,Wc h⟩) htake)
  | exact W4 (m:=WQ _) (Qa (W4 (Wc (Wc ⟨_,rfl,Wc h⟩))) htake)
  | exact W4 (W4 (m:=WQ _) (Qa (Wc (Wc ⟨_,rfl,Wc h⟩)) htake))
  | exact W4 (W4 (m:=WQ _) (Qa (Wc ⟨_,rfl,Wc h⟩) htake))
end
end HT
namespace DV
open PySem PySem.Spec PyProof.Rows L2
theorem rv_tup:RvR X (fun x H Q=>∃ a xs,x = .ref a∧SqT X.K H a xs∧∀ p,H p=none→Q (.ref p) (upd H p (.tup xs.reverse))):=by
 intro pins s σ H x v t sl Q I rx hs h
 obtain ⟨a,xs,rfl,hx,q⟩:=h
 cases rx
 obtain ⟨its,r,ht,hz⟩:=I.tuple hx
 have hlen:=r.length
 refine ⟨"tuple",_,PyProof.Rows.slot_tuple_getitem.lookup,ht.typeIs,?_⟩
 refine HT.getItem_tuple_rev ht hs ?_ (by rw [Wl]; omega)
 refine ⟨.ref s.heap.objs.size,_,I.laid (t':=s.toks) (o:=.tup xs.reverse) (fun b ob q=>Wa _ q) (Wh _) ?_,rfl,q _ (I.hok.fresh (Wh _))⟩
 exact ⟨by rw [Ji]; exact hz,_,r.reverse,IsTupN.new _ _⟩
section
variable {X:Cx} {c:Fc} {e:Expr} {fb:BE} {pos p2:Pos}
def z8z:D→Option S
 | .tup ds=>some (.pure (.tup ds.reverse))
 | d=>pRev d
def rRevX (K:W3):V→Hp→VK→Prop:=fun x H Q=>(∃ a xs,x = .ref a∧SqT K H a xs∧∀ p,H p=none→Q (.ref p) (upd H p (.tup xs.reverse)))∨rRev K x H Q
theorem ze0 {st:Expr} (he:SB X c e fb) (hst:PE X st (tC (.int (-1)))):SE X c (.Subscript e (.Slice none none (some st) p2) pos) (eC1 z8z fb) :=
 PE.weak (zfQ (r:=rRevX X.K) (rv_tup.or (rv_str.or ze3)) he hst) fun σ H Q h=>z3Q (fun c σ δ H x d s Q k rx hp q=>by
  cases d with
  | tup ds =>
   simp only [z8z,W9] at hp
   subst hp
   obtain ⟨a,vs,ea,ha,ra⟩:=rx.tup
   exact .inl ⟨a,vs,ea,.of ha,fun p hp=>q _ _ (.alloc k hp _) (RepS.newT k ra.reverse hp)⟩
  | str z =>
   simp only [z8z,pRev] at hp
   split at hp
   ·rename_i hz
    simp only [W9] at hp
    subst hp
    exact .inr (.inl ⟨z,rx.str,hz,q _ H (.refl k) (.str _)⟩)
   ·cases hp
  | lst ds =>
   simp only [z8z,pRev,W9] at hp
   subst hp
   obtain ⟨a,vs,ea,ha,ra⟩:=rx.lst
   exact .inr (.inr ⟨a,vs,ea,.inl ha,fun p hp=>q _ _ (.alloc k hp _) (RepS.newL k ra.reverse hp)⟩)
  | _=>simp [z8z,pRev] at hp) h
def pNeg:D→Option S
 | .int i=>some (.pure (.int (-i)))
 | _=>none
theorem z4p (he:SB X c e fb):SE X c (.UnaryOp .USub e pos) (eC1 pNeg fb) :=
 PE.weak (zfO zdl he) fun σ H Q h=>z3Q (fun c σ δ H x d s Q k rx hp q=>by
  cases d with
  | int i =>
   simp only [pNeg,W9] at hp
   subst hp
   exact ⟨i,rx.int,q _ H (.refl k) (.int _)⟩
  | _=>simp [pNeg] at hp) h
end
def Fc.park (c:Fc) (i:Nat) (a:Addr):Fc:=⟨c.H₀,fun b=>c.B b∨b=a,(i,a) :: c.pin,c.xc⟩
theorem Np.park (h:Np c np):Np (c.park i a) (i :: np):=fun p hp=>by
 rcases Wj.mp hp with e | hp
 ·subst e; simp
 ·have:=h p hp
  simp at this ⊢
  exact .inr this
section
variable {c:Fc} {σ σ':St} {δ δ':Dl} {H H':Hp} {i:Nat} {a:Addr} {ds:List D}
theorem Own.unset (h:Own σ (δ.set i none) b):Own σ δ b:=by
 obtain ⟨j,d',e1,e2⟩:=h
 by_cases hj:i=j
 ·subst hj
  rw [WF] at e1
  split at e1
  ·split at e1 <;> cases e1
  ·rename_i q; exact absurd rfl q
 ·rw [W8 hj] at e1
  exact ⟨j,d',e1,e2⟩
theorem zf1 (k:Ok c σ δ H) (e:δ[i]? = some (some (.own (.lst ds)))) (ea:σ[i]? = some (some (.ref a))) (b:Addr) (z:Av (c.park i a) σ (δ.set i none) b):Av c σ δ b:=by
 rcases z with (z | z) | z
 ·exact .inl z
 ·subst z; exact .inr ⟨i,_,e,ea⟩
 ·exact .inr z.unset
theorem Ok.park (k:Ok c σ δ H) (e:δ[i]? = some (some (.own (.lst ds)))) (ea:σ[i]? = some (some (.ref a))):Ok (c.park i a) σ (δ.set i none) H:=by
 have sub:=zf1 k e ea
 have ne:∀ j d,(δ.set i none)[j]? = some (some d)→i≠j∧δ[j]? = some (some d):=fun j d q=>by
  by_cases hj:i=j
  ·subst hj
   rw [Wr (Wf.mp e).1] at q; cases q
  ·rw [W8 hj] at q; exact ⟨hj,q⟩
 refine ⟨fun b o h n=>k.keep b o h fun ⟨j,z⟩=>n ⟨j,Wg _ z⟩,fun b z=>?_,fun b ⟨j,z⟩=>?_,by rw [Qv]; exact k.len,fun j d q=>?_,fun j d q=>?_,fun j l b d d' q1 q2=>?_,fun p hp=>?_⟩
 ·rcases z with z | z
  ·exact k.bd b z
  ·subst z; exact k.othere ⟨i,_,e,ea⟩
 ·rcases Wj.mp z with z | z
  ·cases z; exact k.othere ⟨i,_,e,ea⟩
  ·exact k.ith b ⟨j,z⟩
 ·obtain ⟨_,q⟩:=ne j _ q
  obtain ⟨v,g1,g2⟩:=k.slot j d q
  exact ⟨v,g1,g2.anti fun b z=>.inl (sub b z)⟩
 ·obtain ⟨hj,q⟩:=ne j _ q
  obtain ⟨b,g1,g2,g3,g4⟩:=k.own j d q
  refine ⟨b,g1,g2.anti fun b z=>.inl (sub b z),g3.imp (fun ⟨l,z⟩=>⟨l,Wg _ z⟩) id,fun z=>?_⟩
  rcases z with z | z
  ·exact g4 z
  ·subst z; exact hj (k.inj i j b _ _ e q ea g1)
 ·exact k.inj j l b d d' (ne j _ q1).2 (ne l _ q2).2
 ·rcases Wj.mp hp with z | z
  ·subst z; exact ea
  ·exact k.pinned p z
end
def dForO (i:Nat) (g:DG) (b:DS):DS:=fun δ=>match δ[i]? with
 | some (some (.own (.lst ds)))=>(forL g b ds (δ.set i none)).bind fun fl δ'=>match fl with
  | .ret (.own _)=>.stuck
  | fl=>.ok fl (δ'.set i (some (.own (.lst ds))))
 | _=>.stuck
section
variable {X:Cx} {c:Fc} {tg iter:Expr} {body:List Stmt} {g:DG} {b:DS} {i:Nat} {pos:Pos}
def z8S (np:List Nat) (i:Nat):DS:=fun δ=>match δ[i]? with
 | some (some (.own d))=>if np.contains i || !np.all (z0s δ) then .ok (.ret (.pure d)) (δ.set i (some (.pure d))) else .ok (.ret (.own d)) (δ.set i none)
 | some (some (.pure d))=>.ok (.ret (.pure d)) δ
 | _=>.stuck
theorem zaA {np:List Nat} {e:Expr} (hnp:Np c np) (he:PE X e (tVar i)):SS X c (.Return (some e) pos) (z8S np i):=PS.weak (zds he) fun D σ H ⟨δ,k,q⟩=>by
 unfold z8S z2z at q
 split at q
 ·rename_i d e
  obtain ⟨a,ea,oa,ia,nb⟩:=k.own i d e
  refine ⟨.ref a,ea,?_⟩
  split at q
  ·obtain ⟨a',ea',x,r⟩:=k.give e
   rw [ea] at ea'; cases ea'
   exact q σ H x _ r
  ·rename_i hc
   simp only [Bool.or_eq_true,not_or,Bool.not_eq_true,Bool.not_eq_false',List.all_eq_true] at hc
   obtain ⟨hc1,hc2⟩:=hc
   have nI:¬ c.I a:=fun ⟨j,z⟩=>by
    have z1:=hnp (j,a) z
    have z2:=k.pinned (j,a) z
    have z3:=hc2 j (by simpa using z1)
    unfold z0s at z3
    split at z3
    ·rename_i d' ej
     have:=k.inj i j a _ _ e ej ea z2
     subst this
     rw [z1] at hc1; cases hc1
    ·cases z3
   have h0:c.H₀ a=none:=ia.resolve_left nI
   have hi:i < δ.length:=(Wf.mp e).1
   have ne:∀ j d,(δ.set i none)[j]? = some (some d)→i≠j∧δ[j]? = some (some d):=fun j d q=>by
    by_cases hj:i=j
    ·subst hj
     rw [Wr hi] at q; cases q
    ·rw [W8 hj] at q; exact ⟨hj,q⟩
   have sub:∀ b,Av (c.plus a) σ (δ.set i none) b→Av c σ δ b:=fun b z=>by
    rcases z with (z | z) | z
    ·exact .inl z
    ·subst z; exact .inr ⟨i,_,e,ea⟩
    ·exact .inr z.unset
   have kp:Ok (c.plus a) σ (δ.set i none) H:=by
    refine ⟨k.keep,fun b z=>?_,k.ith,by rw [Qv]; exact k.len,fun j d q=>?_,fun j d q=>?_,fun j l b d d' q1 q2=>k.inj j l b d d' (ne j _ q1).2 (ne l _ q2).2,k.pinned⟩
    ·rcases z with z | z
     ·exact k.bd b z
     ·subst z; exact k.othere ⟨i,_,e,ea⟩
    ·obtain ⟨_,q⟩:=ne j _ q
     obtain ⟨v,g1,g2⟩:=k.slot j d q
     exact ⟨v,g1,g2.anti fun b z=>.inl (sub b z)⟩
    ·obtain ⟨hj,q⟩:=ne j _ q
     obtain ⟨b,g1,g2,g3,g4⟩:=k.own j d q
     refine ⟨b,g1,g2.anti fun b z=>.inl (sub b z),g3,fun z=>?_⟩
     rcases z with z | z
     ·exact g4 z
     ·subst z; exact hj (k.inj i j b _ _ e q ea g1)
   have x:Aft c σ δ H σ (δ.set i none) H:=by
    refine ⟨⟨k.keep,k.bd,k.ith,by rw [Qv]; exact k.len,fun j d q=>?_,fun j d q=>?_,fun j l b d d' q1 q2=>k.inj j l b d d' (ne j _ q1).2 (ne l _ q2).2,k.pinned⟩,fun _ _ w _=>w,fun b z=>.inl z.unset,fun _ o w=>⟨o,w⟩⟩
    ·obtain ⟨_,q⟩:=ne j _ q
     obtain ⟨v,g1,g2⟩:=k.slot j d q
     exact ⟨v,g1,g2.anti fun b z=>.inl (z.elim .inl fun z=>.inr z.unset)⟩
    ·obtain ⟨hj,q⟩:=ne j _ q
     obtain ⟨b,g1,g2,g3,g4⟩:=k.own j d q
     exact ⟨b,g1,g2.anti fun b z=>.inl (z.elim .inl fun z=>.inr z.unset),g3,g4⟩
   exact q σ H x _ ⟨a,rfl,oa.anti fun b z=>.inl (sub b z),nb,h0,kp,h0⟩
 ·rename_i d e
  obtain ⟨v,e1,r⟩:=k.slot i d e
  exact ⟨v,e1,q σ H (.refl k) v r⟩
 ·exact q.elim
end
theorem ix_X (hu:X.A.units + 64 < Q4):IxR X (fun x y H Q=>rIxD x y H Q∨rIx X.K x y H Q):=(zeD hu).or z0b
end DV
namespace L2
open PySem PySem.Spec PyProof.Rows
section
variable {X:Cx}
end
end L2
namespace DV
open PySem PySem.Spec PyProof.Rows L2
section
variable {X:Cx} {c:Fc} {e:Expr} {fe:DE} {pos:Pos}
end
section
variable {c:Fc} {σ:St} {δ δ':Dl} {H H':Hp} {i:Nat} {a p:Addr} {ds:List D}
end
open Classical in
noncomputable def itAt (δ₀:Dl) (ds:List D):DI:=fun δ=>if δ=δ₀ then .ok ds δ else .stuck
section
variable {X:Cx} {c:Fc} {cs:List Nat} {tg iter elt:Expr} {ifs:List Expr} {scope:Scope} {pos:Pos} {g:DG} {t:DT} {el:DE} {i:Nat}
end
section
variable {X:Cx} {c:Fc} {e:Expr} {fe:DE} {pos pos':Pos}
end
section
variable {X:Cx} {c:Fc} {pp pos:Pos}
def pMin:D→D→Option S
 | .int i,.int j=>some (.pure (.int (if j < i then j else i)))
 | _,_=>none
def eMin (f g:DE):DE:=fun δ=>(f δ).bind fun x δ1=>(g δ1).bind fun y δ2=>p2 pMin x.d y.d δ2
theorem zfg {a b:Expr} {f g:DE} (hc:X.calm=true) (hg:Gl X "min") (hm:X.mg "min" = none) (ha:SE X c a f) (hb:SE X c b g) (hs:W7 [a,b] X.env=(false,eval a X.env) :: W7 [b] X.env:=by rfl)
  (hs2:W7 [b] X.env=(false,eval b X.env) :: W7 [] X.env:=by rfl) (hpl:(WU pos (W7 [b] X.env)).any (·.1)=false:=by rfl):SE X c (.Call (.Name "min" pp) [a,b] [] pos) (eMin f g) :=
 PE.weak (z3D (zc2 hc) hg hm PyProof.Rows.boot_min (z0U ha (z0U hb z2d hs2) hs) (by decide) (by decide) hs hpl) fun σ H Q ⟨δ,k,q⟩=>by
  unfold eMin at q
  rw [z08] at q
  refine ⟨δ,k,z02 q fun x δ1 q1 v H1 a1 r1=>⟨δ1,a1.ok,?_⟩⟩
  rw [z08] at q1
  refine z02 q1 fun y δ2 q2 u H2 a2 r2=>?_
  unfold p2 at q2
  have hx:RepB c σ δ2 H2 v x.d:=.inl (Rep.aft r1.rep a2)
  have hy:=r2.b
  generalize x.d=dx at q2 hx
  generalize y.d=dy at q2 hy
  cases dx <;> first | exact q2.elim | skip
  cases dy <;> first | exact q2.elim | skip
  rename_i i j
  obtain ⟨i',e1⟩:∃ i',v = .int i':=hx.elim (fun h=>by cases h; exact ⟨_,rfl⟩) fun ⟨_,_,h⟩=>h.elim
  subst e1
  have e2:i'=i:=hx.elim (fun h=>by cases h; rfl) fun ⟨_,_,h⟩=>h.elim
  obtain ⟨j',e3⟩:∃ j',u = .int j':=hy.elim (fun h=>by cases h; exact ⟨_,rfl⟩) fun ⟨_,_,h⟩=>h.elim
  subst e3
  have e4:j'=j:=hy.elim (fun h=>by cases h; rfl) fun ⟨_,_,h⟩=>h.elim
  subst e2 e4
  exact ⟨i',j',rfl,q2 _ H2 (a1.trans a2) (.int _)⟩
end
section
variable {c:Fc} {σ:St} {δ:Dl} {H:Hp} {a:Addr} {d:D}
theorem getA (h:(xs ++ [x])[i]? = some y):xs[i]? = some y∨(i=xs.length∧y=x):=by
 rw [List.getElem?_append] at h
 split at h
 ·exact .inl h
 ·rename_i hi
  right
  have:i - xs.length=0:=by
   cases hk:i - xs.length with
   | zero=>rfl
   | succ k=>rw [hk] at h; simp at h
  rw [this] at h
  simp at h
  exact ⟨by omega,h.symm⟩
theorem getL {α:Type} {xs:List α} {x y:α} {i:Nat} (h:xs[i]? = some y):(xs ++ [x])[i]? = some y:=by
 rw [QL (Wf.mp h).1]; exact h
theorem Ok.cutl (hl:δ.length=σ.length) (k:Ok c (σ ++ [some (.ref a)]) (δ ++ [some (.own d)]) H) (hp:∀ p ∈ c.pin,p.1 < σ.length):Ok c σ δ H:=by
 have sub:∀ b,Av c σ δ b→Av c (σ ++ [some (.ref a)]) (δ ++ [some (.own d)]) b:=fun b z=>z.elim .inl fun ⟨i,d',e1,e2⟩=>.inr ⟨i,d',getL e1,getL e2⟩
 refine ⟨k.keep,k.bd,k.ith,hl,fun i d' e=>?_,fun i d' e=>?_,fun i j b d1 d2 e1 e2 s1 s2=>k.inj i j b d1 d2 (getL e1) (getL e2) (getL s1) (getL s2),fun p hm=>?_⟩
 ·obtain ⟨v,g1,g2⟩:=k.slot i d' (getL e)
  have hi:=(Wf.mp e).1
  rcases getA g1 with g1 | ⟨z,_⟩
  ·exact ⟨v,g1,g2.anti fun b z=>.inl (sub b z)⟩
  ·omega
 ·obtain ⟨b,g1,g2,g3⟩:=k.own i d' (getL e)
  have hi:=(Wf.mp e).1
  rcases getA g1 with g1 | ⟨z,_⟩
  ·exact ⟨b,g1,g2.anti fun b z=>.inl (sub b z),g3⟩
  ·omega
 ·rcases getA (k.pinned p hm) with g | ⟨z,_⟩
  ·exact g
  ·have:=hp p hm; omega
end
section
variable {X:Cx} {c:Fc} {e:Expr} {es:List Expr} {as:List Ak} {f0:DE} {k n:Nat} {x:Str} {G:DF} {pp pos:Pos}
end
section
variable {X:Cx} {c:Fc} {e:Expr} {fe:DE} {pos:Pos}
end
section
variable {X:Cx} {c:Fc} {o e f:Expr} {fe ff:DE} {i:Nat} {apos cpos:Pos}
end
def bigB:Int:=2 ^ 1000
def zgE (_ j:Int):Prop:=0 < j∧j < bigB
theorem zdh (h0:0 < j) (h1:j < bigB):j.natAbs.log2 < 9000:=by
 have e:j.natAbs < 2 ^ 1000:=by
  unfold bigB at h1
  have:((2 ^ 1000:Nat):Int)=(2:Int) ^ 1000:=by exact_mod_cast rfl
  omega
 have:=(Nat.log2_lt (by omega:j.natAbs≠0)).mpr e
 omega
section
variable {X:Cx}
theorem z5o:OpR X (Qc .FloorDiv) (rI zgE fun i j=>.int (i / j)):=opI fun i j _ _ _ _ _ hc q=>by
 have h1:(0:Int) < j:=hc.1
 exact floordiv_int (by omega) (by rw [Int.fdiv_eq_ediv_of_nonneg i (by omega)]; exact q) (.inl (PyProof.noPylong_of_log2 (zdh h1 hc.2)))
end
def zc7 (_ j:Int):Bool:=decide (0 < j) && decide (j < bigB)
def z5I:=pII zc7 fun i j=>.int (i / j)
theorem z77:Op2 (rI zgE fun i j=>V.int (i / j)) z5I:=zbn (fun i j h=>by
 unfold zc7 at h
 simp only [Wk,decide_eq_true_eq] at h
 exact h) fun _ _ _ _=>.int _
theorem zcL (i j:Int) (h0:0 < j) (h1:j < bigB):z5I (.int i) (.int j)=some (.pure (.int (i / j))):=by
 show (if zc7 i j then some (S.pure (.int (i / j))) else none)=_
 have:zc7 i j=true:=by unfold zc7; simp only [h0,h1,decide_true,Bool.and_self]
 rw [this]; rfl
end DV
namespace L2
open PySem PySem.Spec PyProof.Rows
theorem zat {P:Wm} {w:Ws} {K:W3} {tg:Expr} (it:Addr) (lo:Int) (n:Nat):Turn P w K tg (Itr lo n) [it] it (fun i h=>IsLongIter h it (lo + (i:Nat) * 1) ((n:Int) - (i:Nat)) 1) where
 mem:=by simp
 obj:=fun i h st b hb=>by
  have e:b=it:=by simpa using hb
  subst e
  exact ⟨_,st,fun v z=>by
   have z':Data.fields _=Data.cell v:=z
   cases z'⟩
 keep:=fun i h h' st k=>k it (by simp) _ st
 item:=by
  intro X hP hw hK hc i pins s σ H E I hf st hg
  subst hP hw hK
  obtain ⟨f0,f1,f2,f3,f4,f5⟩:=hf it (by simp)
  have W:=Walks.longrange (prog:=X.prog) (w:=X.w) (I.ok.hd hc) it lo 1 n
  refine W.item i s _ _ hg st fun v h' tk hv st' kk=>?_
  obtain ⟨t,rfl⟩:=hv
  have I1:Inv X pins σ H { s with heap:=h',toks:=tk }:=I.turned (fun b o hb e=>kk b o (by simpa using hb) e) f0 f1 f3 f4 f5
  refine ⟨_,rfl,zbG (s:={ s with heap:=h',toks:=tk }) (n:="longrange_iterator") st' rfl rfl (by decide) ⟨.int (lo + i),H,I1,⟨t,?_⟩,⟨rfl,rfl⟩,st',fun b hb=>(hf b hb).1⟩⟩
  rw [Int.mul_one]
 done:=by
  intro X hP hw hK hc i pins s σ H E I hf st hg
  subst hP hw hK
  obtain ⟨f0,f1,f2,f3,f4,f5⟩:=hf it (by simp)
  exact wpAny_pyNext_long_end (I.ok.hd hc) st (by have:n≤i:=hg; omega) fun h' eb=>⟨rfl,I.turned (t':=s.toks) (fun b o hb e=>eb b o hb e) f0 f1 f3 f4 f5⟩
 self:=fun _ _ _ _ _ st h=>wpAny_pyIter_longiter st h
section
variable {X:Cx} {tg:Expr}
theorem zaT {pins:List (Addr×Obj)} {σ:St} {H:Hp} {s:W5} {R:It→Hp→Prop} {E:Value→W5→Prop} {lo hi:Int} {t u v:Tok} {tk:Nat} (I:Inv X pins σ H s)
  (q:R (Itr lo (hi - lo).toNat) H):We (model X.prog X.w) X.A (pyIter (.ref s.heap.objs.size)) (PIE X pins σ tg R) E { s with heap:=s.heap.push { cls:=.type "range",data:=.fields #[.int lo t,.int hi u,.int 1 v] },toks:=tk }:=by
 have e1:lo + ((0:Nat):Int) * 1=lo:=by simp
 have e2:(((hi - lo).toNat:Nat):Int) - ((0:Nat):Int)=Builtin.Range.rangeSize lo hi 1:=by rw [rangeSize_one]; split <;> omega
 have I1:Inv X pins σ H { s with heap:=s.heap.push { cls:=.type "range",data:=.fields #[.int lo t,.int hi u,.int 1 v] },toks:=tk }:=I.kept fun b o e=>Wa _ e
 have fp:∀ (o':Obj) (b:Addr),b ∈ [(s.heap.push { cls:=.type "range",data:=.fields #[.int lo t,.int hi u,.int 1 v] }).objs.size]→FpOk X pins H b:=fun _ b hb=>by
  have e:b=(s.heap.push { cls:=.type "range",data:=.fields #[.int lo t,.int hi u,.int 1 v] }).objs.size:=by simpa using hb
  subst e
  exact I1.fpOk (Wh _) (I1.hok.fresh (Wh _))
 by_cases hsm:Builtin.Range.small lo hi 1=true
 ·refine wpAny_pyIter_range (IsRange.new ..) hsm ?_
  refine ⟨(s.heap.push { cls:=.type "range",data:=.fields #[.int lo t,.int hi u,.int 1 v] }).objs.size,[(s.heap.push { cls:=.type "range",data:=.fields #[.int lo t,.int hi u,.int 1 v] }).objs.size],_,_,H,rfl,
   I1.kept (t':=tk) fun b o e=>Wa _ e,z6s _ lo (hi - lo).toNat,?_,fp ⟨.type "range",none,.fields #[],#[]⟩,q⟩
  show IsRangeIter _ _ (lo + ((0:Nat):Int) * 1) ((((hi - lo).toNat:Nat):Int) - ((0:Nat):Int)) 1
  rw [e1,e2]
  exact Wu _ rfl
 ·refine wpAny_pyIter_longrange (IsRange.new ..) (by simpa using hsm) ?_
  refine ⟨(s.heap.push { cls:=.type "range",data:=.fields #[.int lo t,.int hi u,.int 1 v] }).objs.size,[(s.heap.push { cls:=.type "range",data:=.fields #[.int lo t,.int hi u,.int 1 v] }).objs.size],_,_,H,rfl,
   I1.kept (t':=tk) fun b o e=>Wa _ e,zat _ lo (hi - lo).toNat,?_,fp ⟨.type "range",none,.fields #[],#[]⟩,q⟩
  show IsLongIter _ _ (lo + ((0:Nat):Int) * 1) ((((hi - lo).toNat:Nat):Int) - ((0:Nat):Int)) 1
  rw [e1,e2]
  exact Wu _ rfl
def zgn (ta:TA):TI:=fun σ H R=>ta σ H fun vs H1=>∃ i j:Int,vs=[.int i,.int j]∧R (Itr i (j - i).toNat) H1
theorem za6 (hg:Gl X "range") (hm:X.mg "range" = none) (ha:PA X [a,b] ta) (hs:W7 [a,b] X.env=[(false,eval a X.env),(false,eval b X.env)]:=by rfl) (hs2:W7 [b] X.env=[(false,eval b X.env)]:=by rfl) :
  PI X tg (.Call (.Name "range" p) [a,b] [] pos) (zgn ta):=by
 intro pins s σ H R I h
 refine Call_ (z7U I hg hm boot_range (PyProof.Rows.callWith_type1 (thn (ha pos pins s σ H _ I h) fun us s1 ⟨vs,H1,I1,r1,q1⟩=>?_) (by rw [hs,hs2]) (by rw [hs2]; rfl)))
 obtain ⟨i,j,e,q⟩:=q1
 subst e
 cases r1 with
 | cons r rr =>
  cases rr with
  | cons r' rr =>
   cases rr
   obtain ⟨t,rfl⟩:=r
   obtain ⟨t',rfl⟩:=r'
   exact call_range_2 (zaT I1 q)
end
end L2
namespace DV
open PySem PySem.Spec PyProof.Rows L2
variable {X:Cx} {c:Fc} {tg e:Expr} {fe:DE} {pp pos:Pos}
def z2g (f g:DE):DI:=fun δ=>(f δ).bind fun r δ1=>(g δ1).bind fun s δ2=>match r,s with
 | .pure (.int i),.pure (.int j)=>.ok (z0z i (j - i).toNat) δ2
 | _,_=>.stuck
theorem z6z {e2:Expr} {fe2:DE} (hg:Gl X "range") (hm:X.mg "range" = none) (he:SE X c e fe) (he2:SE X c e2 fe2) (hs:W7 [e,e2] X.env=[(false,eval e X.env),(false,eval e2 X.env)]:=by rfl) (hs2:W7 [e2] X.env=[(false,eval e2 X.env)]:=by rfl)
  (hs3:W7 [e,e2] X.env=(false,eval e X.env) :: W7 [e2] X.env:=by rfl):SI X c tg (.Call (.Name "range" pp) [e,e2] [] pos) (z2g fe fe2) :=
 PI.weak (za6 hg hm (z0U he (z0U he2 z2d hs2) hs3) hs hs2) fun σ H R ⟨δ,k,q⟩=>by
  unfold z2g at q
  rw [z08] at q
  refine ⟨δ,k,z02 q fun r δ1 q1 v H1 a1 r1=>⟨δ1,a1.ok,?_⟩⟩
  rw [z08] at q1
  refine z02 q1 fun r2 δ2 q2 v2 H2 a2 r2'=>?_
  cases r with
  | own d=>exact q2.elim
  | pure d =>
   cases d <;> first | exact q2.elim | skip
   rename_i i
   cases r1
   cases r2 with
   | own d=>exact q2.elim
   | pure d =>
    cases d <;> first | exact q2.elim | skip
    rename_i j
    cases r2'
    exact ⟨i,j,rfl,q2 _ H2 (a1.trans a2) (z9u i (j - i).toNat)⟩
section
variable {X:Cx}
end
theorem vals_ints:∀ {ns:List Int} {us:List Value},Vals (ns.map V.int) us→∃ ys:List (Int×Tok),us=(ys.map fun p=>Value.int p.1 p.2)∧ns=ys.map (·.1)
 | [],us,r=>by cases r; exact ⟨[],rfl,rfl⟩
 | n :: ns,us,r=>by
  cases r with
  | cons r1 r2 =>
   obtain ⟨ys,e1,e2⟩:=vals_ints r2
   obtain ⟨t,rfl⟩:=r1
   exact ⟨(n,t) :: ys,by rw [e1]; rfl,by rw [e2]; rfl⟩
section
variable {X:Cx}
end
def z6n:List D→Option (List Int)
 | []=>some []
 | .int i :: r=>(z6n r).map (i :: ·)
 | _ :: _=>none
theorem ints_map (ns:List Int):z6n (ns.map D.int)=some ns:=by
 induction ns with
 | nil=>rfl
 | cons n r ih=>simp [z6n,ih]
section
variable {X:Cx} {c:Fc} {e:Expr} {fb:BE} {pos pp:Pos}
end
end DV
namespace L2
open PySem PySem.Spec PyProof.Rows
section
variable {prog:Wm} {w:Ws} {A:Wq} {E:Value→W5→Prop} {s:W5}
end
section
variable {X:Cx} {pos:Pos}
end
end L2
namespace DV
open PySem PySem.Spec PyProof.Rows L2
section
variable {X:Cx} {c:Fc} {pos:Pos}
end
open PySem PySem.Builtin PySem.Builtin.Str PySem.StrLaws
section
variable {X:Cx}
end
section
variable {X:Cx} {c:Fc} {e:Expr} {fb:BE}
end
end DV
set_option maxHeartbeats 1000000
namespace PySem
open Sem (wp)
open AutoSeq1 (wpAny_loadPart')
section
variable {prog:Wm} {w:Ws} {A:Wq} {E:Value→W5→Prop} {s:W5}
end
end PySem
namespace PyProof.Rows
open PySem
section
variable {M:Model} {A:Wq} {E:Value→W5→Prop} {s:W5} {env:Env}
end
end PyProof.Rows
set_option maxHeartbeats 400000
namespace L2
open PySem PySem.Spec PyProof.Rows
end L2
namespace DV
open PySem PySem.Spec PyProof.Rows L2
section
variable {X:Cx} {c:Fc} {tg e:Expr} {fe:DE} {pos pp:Pos}
end
end DV
namespace L2
open PySem PySem.Spec PyProof.Rows
abbrev vErr:List Value:=[.type "ValueError",.type "Exception",.type "BaseException",.type "object"]
def ExcC (K:W3) (C:Addr):Prop:=PySem.W.excIn K C vErr "ValueError.__new__" = true
theorem ExcC.obj {K:W3} {C:Addr} {h:Heap} (q:ExcC K C) (X:K.In h):∃ (bm:List Value) (N:Addr) (nm qn:Str) (bs:List Value) (hdct:Bool) (sn:List Str) (sub:List Value) (ab:Bool) (col:Option Bool) (dd:Option Addr) (k0 k1 k2 k3 k5:Option Value) (mN:Str→Option Value),
  h.get? C=some (excClassObj nm qn C N bs bm hdct sn sub ab col dd k0 k1 k2 k3 k5 "ValueError.__new__")∧h.Ns N mN∧mN "__init__" = none∧OwnTail h vErr bm:=by
 unfold ExcC PySem.W.excIn at q
 split at q
 next dd cd sl lk =>
  split at q
  next C' bm k0 k1 k2 k3 n k5 e1 e2 =>
   simp only [Wk,beq_iff_eq,JA] at q
   obtain ⟨⟨⟨⟨⟨c1,c2⟩,c3⟩,c4⟩,c5⟩,c6⟩:=q
   subst c1; subst c2
   have e3:sl = #[k0,k1,k2,k3,some (.builtin "ValueError.__new__"),k5]:=by
    cases sl; simp only at e2; rw [e2]
   subst e3
   cases cd
   simp only at e1 c3 c4 c5 c6 lk
   subst e1; subst c3
   exact ⟨bm,_,_,_,_,_,_,_,_,_,dd,k0,k1,k2,k3,k5,_,X _ _ lk,.of_isNs (PySem.W.isNs_of_in X c5),PySem.W.nsMap_none_of_in X c5 c6,PySem.W.tail_of_in X c4⟩
  next=>cases q
 next=>cases q
def Fly (h:Heap) (a C T:Addr):Prop :=
 ∃ oe vs oT ts a0,h.get? a=some oe∧(oe.cls = .ref C∧vs[0]? = some a0)∧oe.data = .fields vs∧vs[1]? = some (.ref T)∧T≠a∧h.get? T=some oT∧oT.data = .fields ts∧ts[3]? = some .none
def CXe (P:Wm) (w:Ws):CXT:=fun outer H s E v s' =>
 ∃ (a C T:Addr) (H':Hp),v = .ref a∧s'.os=s.os∧AllBare s'.gens∧Un (frs outer) [] H H' s.heap s'.heap∧HOk P w H' s'.heap∧Fly s'.heap a C T∧s.heap.get? a=none∧s.heap.get? T=none∧H' a=none∧H' T=none∧E (.ref C) none H'
section
variable {X:Cx} {x:Str} {C:Addr} {np cpos pos:Pos}
theorem zb4 {W:St→Hp→Prop} (q:ExcC X.K C) (hc:X.calm=true) (hg:Gl X x) (hm:X.mg x=some (.ref C)) (hd:(x == ("__debug__" : Str))=false)
  (hxe:∀ pins σ H s h' e,Inv X pins σ H s→W σ H→Heap.MadeExcOf s.heap h' e (.ref C) []→X.xe (.ref e) { s with heap:=h' }) :
  PS X (.Raise (some (.Call (.Name x np) [] [] cpos)) none pos) (fun _ σ H=>W σ H):=by
 intro pins s σ H D I hw
 obtain ⟨bm,N,nm,qn,bs,hdct,sn,sub,ab,col,dd,k0,k1,k2,k3,k5,mN,hC,hN,hi,hT⟩:=q.obj I.kIn
 refine wpAny_Raise_call_subT (C:=C) (nm:=nm) (q:=qn) (N:=N) (bs:=bs) (bm:=bm) (hdct:=hdct) (sn:=sn) (sub:=sub) (ab:=ab) (col:=col) (dd:=dd) (k0:=k0) (k1:=k1) (k2:=k2) (k3:=k3) (k5:=k5) (mN:=mN)
  PySem.F.excBase_ValueError (hT.hasType rfl) (I.ok.hd hc) rfl hi (z48 I hg hm ⟨rfl,?_⟩ hd)
 exact evalArgs_empty ⟨rfl,QM _,hC,hN,hT,fun h' e hm=>hxe pins σ H s h' e I hw hm⟩
end
section
variable {X:Cx} {pins:List (Addr×Obj)} {σ:St} {H:Hp} {s:W5} {h':Heap}
theorem Inv.gone (I:Inv X pins σ H s) (hx:X.ex=[]) (e:s.heap.get? b=none):H b=none∧X.s₀.heap.get? b=none:=by
 constructor
 ·cases q:H b with
  | none=>rfl
  | some o =>
   exfalso
   have:∃ u,s.heap.get? b=some u:=by
    have z:=I.hok b o q
    clear q
    induction o with
    | lst xs=>obtain ⟨_,_,_,_,e⟩:=z; exact ⟨_,e⟩
    | tup xs=>obtain ⟨_,_,_,_,e⟩:=z; exact ⟨_,e⟩
    | dK kvs=>obtain ⟨_,_,_,_,_,_,_,e,_⟩:=z; exact ⟨_,e⟩
    | dT kvs=>obtain ⟨_,_,_,_,_,_,_,e,_⟩:=z; exact ⟨_,e⟩
    | set S n=>obtain ⟨_,_,_,_,e,_⟩:=z; exact ⟨_,e⟩
    | ins C dx fs=>obtain ⟨_,_,_,e,_⟩:=z; exact ⟨_,e⟩
    | own y=>exact z
    | xd fs=>obtain ⟨_,⟨_,_,_,e,_⟩,_⟩:=z; exact ⟨_,e⟩
    | rng lo hi=>obtain ⟨_,_,_,e⟩:=z; exact ⟨_,e⟩
    | frz ob u ih=>exact ⟨_,z.1⟩
    | tbl ps=>exact ⟨_,z⟩
    | met f y=>exact ⟨_,z⟩
    | ext φ=>exact z.2.1
   obtain ⟨u,q⟩:=this
   rw [e] at q; cases q
 ·cases q:X.s₀.heap.get? b with
  | none=>rfl
  | some o =>
   obtain ⟨o',q'⟩:=I.base.there b o q (by rw [hx]; simp)
   rw [e] at q'; cases q'
theorem zcZ (hB:B=QV h (e :: frs l)) (hL:Heap.LeftW B l e (.ref C) a0 h h') :
  (∀ b o,h.get? b=some o→b≠e→b ∉ frs l→h'.get? b=some o)∧(∀ b o,h.get? b=some o→(∀ vs,o.data≠.fields vs)→∃ sl,h'.get? b=some { o with slots:=sl })∧∃ T,Fly h' e C T∧h.get? T=none:=by
 obtain ⟨l1,l2,⟨oe,vs,T,oT,ts,t1,t2,t3,t4,t5,t6,t7,t8,t9⟩,l4⟩:=hL
 refine ⟨fun b o q ne nf=>l1 b o ?_,l4,T,⟨oe,vs,oT,ts,a0,t1,t2,t3,t4,t6,t7,t8,t9⟩,?_⟩
 ·rw [hB]; exact QA _ q (by simp [ne,nf])
 ·cases q:h.get? T with
  | none=>rfl
  | some o =>
   exfalso
   by_cases hf:T ∈ frs l
   ·obtain ⟨_,o',g1,g2⟩:=l2.mem hf
    rw [t7] at g1
    cases g1
    exact g2 ts t8
   ·rw [hB,QA _ q (by simp [t6,hf])] at t5
    cases t5
end
section
variable {P:Wm} {w:Ws} {K:W3} {mg:Str→Option Value} {base:Heap} {N:List Str} {qual:Str} {scope:Scope} {f:Addr} {cd:Value} {A:Wq} {outer:List Env} {s₀:W5} {H₀:Hp} {E:XK}
end
structure Apart (X:Cx) (pins:List (Addr×Obj)) (H:Hp) (b:Addr):Prop where
 old:X.s₀.heap.get? b=none
 free:H b=none
 loc:b≠X.env.locals
 cel:∀ x c,X.env.cells.lookup x=some c→c≠b
 pin:∀ p ∈ X.pn ++ pins,p.1≠b
section
variable {X:Cx} {pins:List (Addr×Obj)} {σ:St} {H:Hp} {s:W5} {h':Heap} {a T:Addr}
theorem Inv.neL (I:Inv X pins σ H s) (e:X.s₀.heap.get? b=some o):b≠X.env.locals:=WT (Wt (Wn e) I.ok.above)
theorem Inv.noted2 (I:Inv X pins σ H s) (ha:Apart X pins H a) (hT:Apart X pins H T) (k1:∀ b o,s.heap.get? b=some o→b ∉ frs X.stack→b≠a→b≠T→h'.get? b=some o)
  (k2:∀ b o,s.heap.get? b=some o→b ∈ frs X.stack→∃ sl,h'.get? b=some { o with slots:=sl }):Inv X pins σ H { s with heap:=h' }:=by
 have any:∀ b o,s.heap.get? b=some o→b≠a→b≠T→∃ sl,h'.get? b=some { o with slots:=sl }:=fun b o e n1 n2=>by
  by_cases hb:b ∈ frs X.stack
  ·exact k2 b o e hb
  ·exact ⟨o.slots,k1 b o e hb n1 n2⟩
 have ne:∀ b o,X.s₀.heap.get? b=some o→b≠a∧b≠T:=fun b o e=>⟨fun z=>(by rw [z,ha.old] at e; cases e),fun z=>(by rw [z,hT.old] at e; cases e)⟩
 have nst:∀ b,b≠X.env.locals→b ∉ X.fs→b ∉ frs X.stack:=fun b n1 n2 z=>(Wj.mp (I.stkSub b z)).elim n1 n2
 have cellK:∀ y c,X.env.cells.lookup y=some c→∀ v,s.heap.IsCell c v→h'.IsCell c v:=fun y c e v ⟨o,ho,hd⟩=>by
  obtain ⟨sl,q⟩:=any c o ho (ha.cel y c e) (hT.cel y c e)
  exact ⟨_,q,hd⟩
 refine ⟨I.ok,I.os,I.bare,⟨fun b o e n hb hx=>?_,fun b o e n hb hx=>?_,I.base.free,fun b o e hx=>?_,I.base.tups,I.base.frzs,I.base.tbls⟩,?_,fun y c e=>?_,I.free,I.freeC,fun p hp=>?_,fun b o e=>?_,I.len⟩
 ·exact k1 b o (I.base.keep b o e n hb hx) (nst b (I.neL e) hb) (ne b o e).1 (ne b o e).2
 ·obtain ⟨sl,q⟩:=I.base.slot b o e n hb hx
  obtain ⟨sl',q'⟩:=any b _ q (ne b o e).1 (ne b o e).2
  exact ⟨sl',q'⟩
 ·obtain ⟨o',q⟩:=I.base.there b o e hx
  obtain ⟨sl',q'⟩:=any b _ q (ne b o e).1 (ne b o e).2
  exact ⟨_,q'⟩
 ·obtain ⟨m,⟨o,es,ep,ho,hd,r⟩,hl⟩:=I.loc
  obtain ⟨sl,q⟩:=any _ o ho (fun z=>ha.loc z.symm) (fun z=>hT.loc z.symm)
  refine ⟨m,⟨_,es,ep,q,hd,r⟩,fun i y v e1 e2 e3=>?_⟩
  obtain ⟨u,ru,lk⟩:=hl i y v e1 e2 e3
  refine ⟨u,ru,lk.elim .inl fun ⟨k,c,e,z⟩=>.inr ⟨k,c,e,cellK y c e _ z⟩⟩
 ·obtain ⟨v,z⟩:=I.cell y c e
  exact ⟨v,cellK y c e v z⟩
 ·obtain ⟨e,n,nl,nf,d⟩:=I.pin p hp
  exact ⟨k1 p.1 p.2 e (nst _ nl nf) (ha.pin p hp) (hT.pin p hp),n,nl,nf,d⟩
 ·refine (I.hok b o e).stay (fun c u hc q=>k1 c u q (fun z=>?_) (fun z=>?_) (fun z=>?_)) (fun _ q=>q) fun _ _ q=>q
  ·have:=I.stkFree c z
   rcases hc with rfl | hc
   ·rw [e] at this; cases this
   ·rw [hc] at this; cases this
  ·subst z
   rcases hc with rfl | hc
   ·rw [ha.free] at e; cases e
   ·rw [ha.free] at hc; cases hc
  ·subst z
   rcases hc with rfl | hc
   ·rw [hT.free] at e; cases e
   ·rw [hT.free] at hc; cases hc
theorem Inv.track (I:Inv X pins σ H s) (ha:Apart X pins H a) (ob:ObjOk X.prog X.w (upd H a o) s.heap a o):Inv X pins σ (upd H a o) s:=by
 have ne:∀ {b:Addr} {u:HO},H b=some u→b≠a:=fun {b u} e z=>by rw [z,ha.free] at e; cases e
 have up:∀ {b:Addr} {u:HO},H b=some u→upd H a o b=some u:=fun {b u} e=>by rw [z0x (ne e)]; exact e
 have no:∀ {b:Addr},b≠a→H b=none→upd H a o b=none:=fun {b} n e=>by rw [z0x n]; exact e
 refine ⟨I.ok,I.os,I.bare,⟨I.base.keep,I.base.slot,fun b u e n hx=>no (fun z=>by rw [z,ha.old] at e; cases e) (I.base.free b u e n hx),I.base.there,fun b xs e=>up (I.base.tups b xs e),fun b u z e=>up (I.base.frzs b u z e),fun b ps e=>?_⟩,I.loc,I.cell,no (Ne.symm ha.loc) I.free,fun x c e=>no (ha.cel x c e) (I.freeC x c e),fun p hp=>?_,fun b u e=>?_,I.len⟩
 ·obtain ⟨m,q⟩:=I.base.tbls b ps e
  exact ⟨m,up q⟩
 ·obtain ⟨e,n,nl,nf,d⟩:=I.pin p hp
  exact ⟨e,no (ha.pin p hp) n,nl,nf,d⟩
 ·by_cases hb:b=a
  ·subst hb
   rw [z0D] at e
   cases e
   exact ob
  ·rw [z0x hb] at e
   exact (I.hok b u e).stay (fun _ _ _ q=>q) (fun c q=>up q) fun c xs q=>up q
theorem z9P (I:Inv X pins σ H s) (hN:X.N.Nodup) (hi:X.N[i]? = some x) (hk:X.env.scope.names.lookup x=some .local)
  (h:∀ s',Inv X pins (σ.set i none) H s'→Q () s'):We M A (do bindName X.env x .none; unbindBehindTheSuite X.env x pos) Q E s:=by
 have hiσ:i < σ.length:=by rw [I.len]; exact (Wf.mp hi).1
 refine W4 (wpAny_bindName (z4l (v:=.non) (u:=.none) I hN hi (.inl hk) rfl (fun s1 I1 _=>?_) (.inr hk)))
 obtain ⟨m,hn,hl⟩:=id I1.loc
 obtain ⟨u,ru,lk⟩:=hl i x .non hi (Wr hiσ) (.inl hk)
 have hv:m x=some u:=by
  rcases lk with ⟨_,e⟩ | ⟨z,_⟩
  ·exact e
  ·have:X.env.kindOf x=some .local:=hk
   rw [this] at z
   rcases z with z | z <;> cases z
 refine wpAny_onRaise (wpAny_unbindName_local hk hn hv (by rw [I.ok.kind]; rfl) fun h' w' hn' hs=>h _ ?_)
 obtain ⟨oL,_,_,hoL,_⟩:=id hn
 have cne:=I1.cne
 refine ⟨I1.ok,I1.os,I1.bare,⟨fun b o e n hb hx=>?_,fun b o e n hb hx=>?_,I1.base.free,fun b o e hx=>?_,I1.base.tups,I1.base.frzs,I1.base.tbls⟩,⟨_,hn',fun j y v' e1 e2 e3=>?_⟩,fun y c e=>?_,I1.free,I1.freeC,fun p hp=>?_,fun b ob e=>?_,by simpa using I.len⟩
 ·exact (hs.2 b (I1.neL e)).trans (I1.base.keep b o e n hb hx)
 ·obtain ⟨sl,q⟩:=I1.base.slot b o e n hb hx
  exact ⟨sl,(hs.2 b (I1.neL e)).trans q⟩
 ·obtain ⟨o',q⟩:=I1.base.there b o e hx
  exact ⟨o',(hs.2 b (I1.neL e)).trans q⟩
 ·by_cases hj:j=i
  ·subst hj
   rw [Wr hiσ] at e2
   cases e2
  ·rw [W8 (Ne.symm hj)] at e2
   obtain ⟨u',r',q⟩:=hl j y v' e1 (by rw [W8 (Ne.symm hj)]; exact e2) e3
   have hyx:y≠x:=fun z=>hj (z78 hN e1 (z ▸ hi))
   refine ⟨u',r',?_⟩
   rcases q with ⟨k,e⟩ | ⟨k,c,e,z⟩
   ·exact .inl ⟨k,by simp [hyx,e]⟩
   ·exact .inr ⟨k,c,e,z.sameBut hs (cne y c e)⟩
 ·obtain ⟨w2,z⟩:=I1.cell y c e
  exact ⟨w2,z.sameBut hs (cne y c e)⟩
 ·obtain ⟨e,n,nl,nf,d⟩:=I1.pin p hp
  exact ⟨(hs.2 p.1 nl).trans e,n,nl,nf,d⟩
 ·refine (I1.hok b ob e).stay (fun c u' hc q=>(hs.2 c fun z=>?_).trans q) (fun _ q=>q) fun _ _ q=>q
  subst z
  have:=I1.free
  rcases hc with rfl | hc
  ·rw [e] at this; cases this
  ·rw [hc] at this; cases this
end
section
variable {prog:Wm} {w:Ws} {A:Wq} {E:Value→W5→Prop} {K:W3}
theorem zbL {C B e:Addr} {oe:Obj} {h:Heap} {g:Array GenState} {d:Drawn} {t:Nat} {os:OsState} {Q:Bool→W5→Prop} (X:K.In h) (qB:ExcC K B) (qm:PySem.W.mroIn K C (.ref B)=some true) (he:h.get? e=some oe) (hc:oe.cls = .ref C)
  (hq:Q true ⟨h,g,d,t,os⟩):We (model prog w) A (excMatches (.ref e) (.ref B)) Q E ⟨h,g,d,t,os⟩:=by
 obtain ⟨bm,N,nm,qn,bs,hdct,sn,sub,ab,col,dd,k0,k1,k2,k3,k5,mN,hB,_,_,hT⟩:=qB.obj X
 have cB:(Value.ref B :: bm).contains (.type "BaseException")=true:=by rw [Js,hT.hasType (X:="BaseException") (b:=true) rfl,Bool.or_true]
 have lk:=PySem.W.looks_mroIn (M:=model prog w) X qm
 have f:=tc_notTuple
 unfold excMatches
 repeat (first | with_reducible refine PySem.W.Looks.at lk ?_ | (with_reducible refine Qb he ?_; rw [hc]) | with_reducible refine Qb hB ?_ | (with_reducible refine wpAny_isSubtype_exc hB ?_; rw [cB]) | wp_step)
 exact hq
end
def Cx.wt (X:Cx) (pn:List (Addr×Obj)) (xe:Value→W5→Prop):Cx:={ X with pn:=pn,xe:=xe }
def Cx.hand (X:Cx) (a:Addr):Cx:={ X with A:=X.A.mark (some (.ref a)),calm:=false,xe:=fun _ _=>False }
section
variable {X:Cx} {pins ps:List (Addr×Obj)} {σ:St} {H:Hp} {s:W5} {a:Addr} {xe:Value→W5→Prop} {pn:List (Addr×Obj)}
theorem Cx.Ok.wt (o:X.Ok):(X.wt pn xe).Ok:=⟨o.mod,o.kind,o.glob,o.blt,o.above,o.inj,o.has,o.cab,o.hd,o.frames,o.stk,o.exf,o.bs,o.bsz,o.noex,o.exfs,o.funs,o.frf⟩
theorem Cx.Ok.hand (o:X.Ok):(X.hand a).Ok:=⟨o.mod,o.kind,o.glob,o.blt,o.above,o.inj,o.has,o.cab,fun z=>(by cases z),o.frames,o.stk,o.exf,o.bs,o.bsz,o.noex,o.exfs,o.funs,o.frf⟩
theorem Inv.wt (I:Inv X pins σ H s):Inv (X.wt (X.pn ++ pins) xe) [] σ H s:=⟨I.ok.wt,I.os,I.bare,I.base,I.loc,I.cell,I.free,I.freeC,fun p hp=>I.pin p (by simpa [Cx.wt] using hp),I.hok,I.len⟩
theorem Inv.unwt (o:X.Ok) (J:Inv (X.wt (X.pn ++ pins) xe) ps σ H s):Inv X pins σ H s:=⟨o,J.os,J.bare,J.base,J.loc,J.cell,J.free,J.freeC,fun p hp=>J.pin p (Ja _ hp),J.hok,J.len⟩
theorem Inv.hand (I:Inv X pins σ H s):Inv (X.hand a) pins σ H s:=⟨I.ok.hand,I.os,I.bare,I.base,I.loc,I.cell,I.free,I.freeC,I.pin,I.hok,I.len⟩
theorem Inv.unhand (o:X.Ok) (J:Inv (X.hand a) pins σ H s):Inv X pins σ H s:=⟨o,J.os,J.bare,J.base,J.loc,J.cell,J.free,J.freeC,J.pin,J.hok,J.len⟩
theorem Apart.unwt (h:Apart (X.wt (X.pn ++ pins) xe) ps H a):Apart X pins H a:=⟨h.old,h.free,h.loc,h.cel,fun p hp=>h.pin p (Ja _ hp)⟩
theorem SP.unwt (o:X.Ok) (h:SP (X.wt (X.pn ++ pins) xe) ps D f s):SP X pins D f s:=by
 cases f with
 | next=>obtain ⟨σ',H',J,q⟩:=h; exact ⟨σ',H',Inv.unwt o J,q⟩
 | brk=>obtain ⟨σ',H',J,q⟩:=h; exact ⟨σ',H',Inv.unwt o J,q⟩
 | cont=>obtain ⟨σ',H',J,q⟩:=h; exact ⟨σ',H',Inv.unwt o J,q⟩
 | ret u=>obtain ⟨v,σ',H',J,r,q⟩:=h; exact ⟨v,σ',H',Inv.unwt o J,r,q⟩
def zf3 (X:Cx) (pins:List (Addr×Obj)) (H:Hp) (s:W5) (a C:Addr):Prop:=∃ T,Fly s.heap a C T∧Apart X pins H a∧Apart X pins H T
def Ends.hand (D:Ends) (i:Nat):Ends where
 nx:=fun σ H=>D.nx (σ.set i none) H
 rt:=D.rt
 bk:=fun σ H=>D.bk (σ.set i none) H
 ct:=fun σ H=>D.ct (σ.set i none) H
theorem zb2 {body:List Stmt} {x n:Str} {b₀:Stmt} {suite:List Stmt} {np hpos pos:Pos} {B:Addr} {i:Nat} {tb:(Addr→St→Hp→Prop)→TS} {th:Addr→Addr→TS} (hst:X.stack=X.env :: X.outer) (hf:X.env.frame=some X.env.locals)
  (hN:X.N.Nodup) (hi:X.N[i]? = some n) (hl:X.env.scope.names.lookup n=some .local) (hg:Gl X x) (hm:X.mg x=some (.ref B)) (qB:ExcC X.K B) (hdb:(x == ("__debug__" : Str))=false)
  (hbody:∀ (W:Addr→St→Hp→Prop) (pn:List (Addr×Obj)) (xe:Value→W5→Prop),(∀ ps σ H s a C,Inv (X.wt pn xe) ps σ H s→zf3 (X.wt pn xe) ps H s a C→W C σ H→xe (.ref a) s)→PSs (X.wt pn xe) body (tb W))
  (hhand:∀ C a,PSs (X.hand a) (b₀ :: suite) (th C a)) :
  PS X (.Try body [.ExceptHandler (some (.Name x np)) (some n) (b₀ :: suite) hpos] [] [] pos)
   (fun D σ H=>tb (fun C σ' H'=>PySem.W.mroIn X.K C (.ref B)=some true∧∀ a,H' a=none→th C a (D.hand i) (σ'.set i (some (.ref a))) (upd H' a (.ext (DV.excAt C a)))) D σ H):=by
 intro pins s σ H D I hw
 refine wpAny_Try_except (WJ (hbody _ (X.pn ++ pins) _ (fun ps σ1 H1 s1 a C J hc hW=>?_) [] s σ H D I.wt hw) (fun f s1 hs=>?_) fun e s1 he=>he)
 ·obtain ⟨T,⟨oe,vs,oT,ts,a0,t1,⟨t2,t2'⟩,t3,t4,t5,t6,t7,t8⟩,pa,pT⟩:=hc
  have J:Inv X pins σ1 H1 s1:=Inv.unwt I.ok J
  have pa:=pa.unwt
  have pT:=pT.unwt
  have hfr:X.A.frames=some (X.env :: X.outer):=by rw [← hst]; exact J.ok.frames
  have hB0:Heap.FlyingW (QV s1.heap (a :: T :: frs (X.env :: X.outer))) (X.env :: X.outer) a (.ref C) a0 s1.heap:=by
   refine ⟨fun b o z=>Jm _ z,Qs _ (.head _),?_,oe,vs,T,oT,ts,t1,⟨t2,t2'⟩,t3,t4,Qs _ (.tail _ (.head _)),t5,t6,t7,t8⟩
   have:=J.stack
   rw [hst] at this
   exact PySem.W.funFrames_hide this fun env he b hb=>Wg _ (Wg _ (Jn.mpr ⟨env,he,hb⟩))
  -- whatever the notes do,ours is kept
  have keepI:∀ h2,Heap.FlyingW (QV s1.heap (a :: T :: frs (X.env :: X.outer))) (X.env :: X.outer) a (.ref C) a0 h2→s1.heap.UpToSlots h2→Inv X pins σ1 H1 { s1 with heap:=h2 }:=fun h2 hf2 up=>by
   refine J.noted2 pa pT (fun b o z n n1 n2=>hf2.1 b o (QA _ z ?_)) fun b o z n=>?_
   ·rw [hst] at n
    simp [n,n1,n2]
   ·obtain ⟨_,o',g1,g2⟩:=J.stack.mem n
    rw [z] at g1; cases g1
    exact up b o z g2
  refine wpAny_looks_onW hfr hf hB0 fun h2 held up2=>?_
  refine wpAny_landsW held fun h3 fly3 up3=>?_
  have I3:=keepI h3 fly3 (up2.trans up3)
  obtain ⟨ob,hob,hobc⟩:=fly3.there
  obtain ⟨qm,qh⟩:=hW
  refine wpAny_handleBy_cons (codeAny_handlers_test ?_) (by intro z; cases z)
  have I3h:Inv (X.hand a) pins σ1 H1 { s1 with heap:=h3 }:=I3.hand
  refine z48 (X:=X.hand a) I3h hg hm ?_ hdb
  refine zbL I3.kIn qB qm hob hobc ?_
  refine codeAny_handlers_suite_as (lands_againW fly3 fun h4 fly4 up4=>?_)
  have I4:=keepI h4 fly4 ((up2.trans up3).trans up4)
  obtain ⟨oe4,vs4,_,_,_,u1,⟨u2,_⟩,u3,_⟩:=fly4.2.2.2
  have I5:Inv X pins σ1 (upd H1 a (.ext (DV.excAt C a))) { s1 with heap:=h4 }:=I4.track pa ⟨⟨oe4,u1,u2,vs4,u3⟩,⟨oe4,u1⟩,fun h1 h2 ⟨o,e1,e2⟩ k=>⟨o,k o e1,e2⟩⟩
  refine z4l (v:=.ref a) (u:=.ref a) (X:=X.hand a) I5.hand hN hi (.inl hl) rfl (fun s6 I6 _=>?_) (.inr hl)
  refine WJ (hhand C a pins s6 _ _ (D.hand i) I6 (qh a pa.free)) (fun f s7 hs=>?_) (fun e s7 he=>he.elim)
  have un:∀ {σ':St} {H':Hp} {Q:Flow→W5→Prop},Inv (X.hand a) pins σ' H' s7→(∀ s8,Inv X pins (σ'.set i none) H' s8→Q f s8)→We (model X.prog X.w) X.A (do bindName X.env n .none; unbindBehindTheSuite X.env n hpos) (fun _ s8=>Q f s8) X.xe s7 :=
   fun {σ' H' Q} J7 k=>z9P (Inv.unhand I.ok J7) hN hi hl fun s8 J8=>k s8 J8
  cases f with
  | next=>obtain ⟨σ',H',J7,q⟩:=hs; exact un J7 fun s8 J8=>⟨_,_,J8,q⟩
  | brk=>obtain ⟨σ',H',J7,q⟩:=hs; exact un J7 fun s8 J8=>⟨_,_,J8,q⟩
  | cont=>obtain ⟨σ',H',J7,q⟩:=hs; exact un J7 fun s8 J8=>⟨_,_,J8,q⟩
  | ret u=>obtain ⟨v,σ',H',J7,r,q⟩:=hs; exact un J7 fun s8 J8=>⟨v,_,_,J8,r,q⟩
 ·have hs:=SP.unwt I.ok hs
  cases f with
  | next=>exact Jk hs
  | brk=>exact hs
  | cont=>exact hs
  | ret u=>exact hs
end
def XOk (X:Cx) (W:Addr→St→Hp→Prop):Prop:=∀ ps σ H s a C,Inv X ps σ H s→zf3 X ps H s a C→W C σ H→X.xe (.ref a) s
def Young (X:Cx) (ps:List (Addr×Obj)) (H:Hp) (s:W5) (a C:Addr):Prop:=(∃ oe vs a0,s.heap.get? a=some oe∧(oe.cls = .ref C∧vs[0]? = some a0)∧oe.data = .fields vs∧vs[1]? = some .none)∧Apart X ps H a
def XOkR (X:Cx) (W:Addr→St→Hp→Prop):Prop:=∀ ps σ H s a C,Inv X ps σ H s→Young X ps H s a C→W C σ H→X.xe (.ref a) s
section
variable {X:Cx} {pins:List (Addr×Obj)} {σ:St} {H:Hp} {s:W5} {b:Addr}
theorem Inv.apart (I:Inv X pins σ H s) (hx:X.ex=[]) (e:s.heap.get? b=none) (f:H' b=none):Apart X pins H' b:=by
 refine ⟨(I.gone hx e).2,f,fun z=>?_,fun x c hc z=>?_,fun p hp z=>?_⟩
 ·obtain ⟨m,⟨o,_,_,ho,_⟩,_⟩:=I.loc
  rw [← z,e] at ho; cases ho
 ·obtain ⟨v,o,ho,_⟩:=I.cell x c hc
  rw [z,e] at ho; cases ho
 ·have:=(I.pin p hp).1
  rw [z,e] at this; cases this
theorem Inv.afterX (I:Inv X pins σ H s) (hx:X.ex=[]) (h:CXe X.prog X.w X.stack H s E v s'):∃ a C H',v = .ref a∧Inv X pins σ H' s'∧zf3 X pins H' s' a C∧E (.ref C) none H':=by
 obtain ⟨a,C,T,H',rfl,ho,hb,un,hok,fl,na,nT,fa,fT,q⟩:=h
 exact ⟨a,C,H',rfl,I.call' (ch:=[]) ho un hok hb (fun b z=>absurd z (by simp)),⟨T,fl,I.apart hx na fa,I.apart hx nT fT⟩,q⟩
end
section
variable {X:Cx} {k:Nat} {f:Addr} {fd:WC} {ps:List Str} {sp:Sp} {x:Str} {p pos:Pos} {e:Expr} {es:List Expr} {t:TA} {W:Addr→St→Hp→Prop}
theorem z9j (F:FnOk X.prog X.w X.K X.mg X.base (CXe X.prog X.w) k f fd ps sp) (hr:Room k X.A) (hex:X.ex=[]) (hg:Gl X x) (hm:X.mg x=some (.ref f)) (hk:Q9 X.K (.ref f)=true) (hb:Binds X.K fd ps []) (hx:XOk X W)
  (ha:PA X (e :: es) t) (hdb:(x == ("__debug__" : Str))=false:=by decide) (he:W7 (e :: es) X.env=(false,eval e X.env) :: W7 es X.env:=by rfl) (hpl:(WU pos (W7 es X.env)).any (·.1)=false:=by rfl) :
  PE X (.Call (.Name x p) (e :: es) [] pos) (fun σ H Q=>t σ H fun vs H1=>sp vs H1 Q (fun c _ H'=>∃ C,c = .ref C∧W C σ H')):=by
 intro pins s σ H Q I h
 refine QE (z48 I hg hm ?_ hdb)
 refine PySem.W.callWith_K (h₀:=X.base) I.ok.mod.kin hk (thn (ha pos pins s σ H _ I h) fun us s1 ⟨vs,H1,I1,r,q⟩=>⟨I1.kIn,?_⟩) he hpl
 have hl:(us ++ []).length=ps.length:=by rw [WP,← r.length]; exact F.len _ _ _ _ q
 refine wpAny_call (Jo (F.run X.A X.stack s1 H1 ⟨us,[]⟩ us vs Q _ hr I1.env0 (by have:=hb s1 us I1.kIn hl; rwa [WP] at this) r q) fun r s' hq=>?_)
 cases r with
 | error e =>
  obtain ⟨a,C,H',ea,I2,co,C',hC,hW⟩:=I1.afterX (E:=fun c _ H'=>∃ C,c = .ref C∧W C σ H') (v:=e) (s':=s') hex hq
  cases hC
  subst ea
  exact hx pins σ H' s' a C I2 co hW
 | ok fl =>
  cases fl with
  | ret u=>exact I1.after hq
  | next=>exact False.elim hq
  | brk=>exact False.elim hq
  | cont=>exact False.elim hq
end
section
variable {P:Wm} {w:Ws} {K:W3} {mg:Str→Option Value} {base:Heap} {N:List Str} {qual:Str} {scope:Scope} {f:Addr} {cd:Value} {A:Wq} {outer:List Env} {s₀:W5} {H₀:Hp} {E:XK}
theorem zce (hW:∀ C σ H,W C σ H→E (.ref C) none H):XOkR (cxOf (CXe P w) P w K mg base N qual scope f cd A outer s₀ H₀ E) W:=fun ps σ H s a C I y q=>by
 obtain ⟨⟨oe,vs,a0,t1,⟨t2,t2'⟩,t3,t4⟩,pa⟩:=y
 have hstk:s.heap.FunFrames base (Qo qual scope s₀.heap.objs.size f cd :: outer):=I.stack
 refine wpAny_leaving_firstW (base:=QV s.heap (a :: frs (Qo qual scope s₀.heap.objs.size f cd :: outer))) (outer:=outer) (L:=s₀.heap.objs.size) (oe:=oe) I.ok.frames
  (PySem.W.funFrames_hide hstk fun env he b hf=>Wg _ (Jn.mpr ⟨env,he,hf⟩)) rfl t1 (fun b o z=>Jm _ z) (Qs _ (.head _)) t3 t4 t2' fun h2 hL=>?_
 rw [t2] at hL
 obtain ⟨k1,k2,T,hT,nT⟩:=zcZ rfl hL
 have gT:=I.gone rfl nT
 have pT:=I.apart rfl nT gT.1
 have I2:Inv (cxOf (CXe P w) P w K mg base N qual scope f cd A outer s₀ H₀ E) ps σ H { s with heap:=h2 }:=I.noted2 pa pT (fun b o z n n1 n2=>k1 b o z n1 n) fun b o z n=>by
  obtain ⟨_,o',g1,g2⟩:=I.stack.mem n
  rw [z] at g1; cases g1
  exact k2 b o z g2
 exact ⟨a,C,T,H,rfl,I.os,I.bare,I2.base,I2.hok,hT,pa.old,gT.2,pa.free,gT.1,hW C σ H q⟩
theorem zaq (hW:∀ C σ H,W C σ H→E (.ref C) none H):XOk (cxOf (CXe P w) P w K mg base N qual scope f cd A outer s₀ H₀ E) W:=fun ps σ H s a C I hc q=>by
 obtain ⟨T,⟨oe,vs,oT,ts,a0,t1,⟨t2,t2'⟩,t3,t4,t5,t6,t7,t8⟩,pa,pT⟩:=hc
 have hstk:s.heap.FunFrames base (Qo qual scope s₀.heap.objs.size f cd :: outer):=I.stack
 refine wpAny_leaving_nextW (base:=QV s.heap (a :: T :: frs (Qo qual scope s₀.heap.objs.size f cd :: outer))) (outer:=outer) (L:=s₀.heap.objs.size) (cls:=.ref C) (a0:=a0) I.ok.frames
  (PySem.W.funFrames_hide hstk fun env he b hf=>Wg _ (Wg _ (Jn.mpr ⟨env,he,hf⟩))) rfl
  ⟨oe,vs,T,oT,ts,t1,⟨t2,t2'⟩,t3,t4,Qs _ (.tail _ (.head _)),t5,t6,t7,t8⟩ (fun b o z=>Jm _ z) (Qs _ (.head _)) fun h2 hL=>?_
 obtain ⟨l1,l2,⟨oe',vs',T',oT',ts',u1,u2,u3,u4,u5,u6,u7,u8,u9⟩,l4⟩:=hL
 have I2:Inv (cxOf (CXe P w) P w K mg base N qual scope f cd A outer s₀ H₀ E) ps σ H { s with heap:=h2 }:=I.noted2 pa pT (fun b o z n n1 n2=>l1 b o (QA _ z (by
   have n':b ∉ frs (Qo qual scope s₀.heap.objs.size f cd :: outer):=n
   simp [n',n1,n2]))) fun b o z n=>by
  obtain ⟨_,o',g1,g2⟩:=I.stack.mem n
  rw [z] at g1; cases g1
  exact l4 b o z g2
 have hT':H T'=none∧s₀.heap.get? T'=none:=by
  by_cases hh:T'=T
  ·rw [hh]; exact ⟨pT.free,pT.old⟩
  ·cases z:s.heap.get? T' with
   | none=>exact I.gone rfl z
   | some o =>
    exfalso
    by_cases hf:T' ∈ frs (Qo qual scope s₀.heap.objs.size f cd :: outer)
    ·obtain ⟨_,o',g1,g2⟩:=l2.mem hf
     rw [u7] at g1
     cases g1
     exact g2 ts' u8
    ·rw [QA _ z (by simp [hh,u6,hf])] at u5
     cases u5
 exact ⟨a,C,T',H,rfl,I.os,I.bare,I2.base,I2.hok,⟨oe',vs',oT',ts',a0,u1,u2,u3,u4,u6,u7,u8,u9⟩,pa.old,hT'.2,pa.free,hT'.1,hW C σ H q⟩
end
end L2
namespace DV
open PySem PySem.Spec PyProof.Rows L2
section
variable {c:Fc} {σ σ':St} {δ δ':Dl} {H H':Hp} {g:Xc→Dl→Prop}
theorem Ok.xc (k:Ok c σ δ H):Ok { c with xc:=g } σ δ H:=⟨k.keep,k.bd,k.ith,k.len,k.slot,k.own,k.inj,k.pinned⟩
theorem Ok.unxc (k:Ok { c with xc:=g } σ δ H):Ok c σ δ H:=⟨k.keep,k.bd,k.ith,k.len,k.slot,k.own,k.inj,k.pinned⟩
theorem Ok.since (h0:c.H₀=H) (k:Ok c σ δ H) (hI:∀ a,c.I a→Own σ δ a) (k':Ok c σ' δ' H'):Aft c σ δ H σ' δ' H':=by
 refine ⟨k',fun a o e n=>k'.keep a o (by rw [h0]; exact e) fun z=>n (hI a z),fun a ⟨i,d,e1,e2⟩=>?_,fun a o e=>?_⟩
 ·obtain ⟨b,e3,_,q,_⟩:=k'.own i d e1
  rw [e2] at e3; cases e3
  rcases q with q | q
  ·exact .inl (hI a q)
  ·rw [h0] at q; exact .inr q
 ·by_cases z:c.I a
  ·exact k'.ith a z
  ·exact ⟨o,k'.keep a o (by rw [h0]; exact e) z⟩
end
def wD (mg:Str→Option Value) (c:Fc) (C:Addr) (σ:St) (H:Hp):Prop:=∃ (x:Tx) (δ:Dl),mg (toS x)=some (.ref C)∧Ok c σ δ H∧c.xc ⟨x,[]⟩ δ
def z63 (x:Tx):DS:=fun δ=>.exc ⟨x,[]⟩ δ
theorem z96 {X:Cx} {c:Fc} {x:Str} {C:Addr} {np cpos pos:Pos} (y:Tx) (q:ExcC X.K C) (hc:X.calm=true) (hg:Gl X x) (hm:X.mg x=some (.ref C)) (hx:XOkR X (wD X.mg c)) (hy:x=toS y:=by decide +kernel) (hd:(x == ("__debug__" : Str))=false:=by decide) (hex:X.ex=[]:=by rfl) :
  SS X c (.Raise (some (.Call (.Name x np) [] [] cpos)) none pos) (z63 y) :=
 PS.weak (zb4 (W:=fun σ H=>wD X.mg c C σ H) q hc hg hm hd fun ps σ H s h' e I w hm=>by
  obtain ⟨t,ht,_⟩:=hm.there
  have I1:Inv X ps σ H { s with heap:=h' }:=I.kept (t':=s.toks) hm.keeps
  exact hx ps σ H _ e C I1 ⟨⟨_,_,_,ht,⟨rfl,rfl⟩,rfl,rfl⟩,I.apart hex hm.new (I.gone hex hm.new).1⟩ w) fun D σ H ⟨δ,k,w⟩=>⟨y,δ,by rw [← hy]; exact hm,k,w⟩
abbrev DX:=List S→Option ((S×List S) ⊕ (Tx×List S))
def runX (f:DS) (n:Nat) (ss:List S):Option ((S×List S) ⊕ (Tx×List S)):=match f (z0g n ss) with
 | .ok fl δ=>(z0H fl).bind fun r=>(z0e 0 ss δ).map fun outs=>.inl (r,outs)
 | .exc x δ=>if x.flds.isEmpty then (z0e 0 ss δ).map fun outs=>.inr (x.cls,outs) else none
 | .stuck=>none
def spX (mg:Str→Option Value) (n:Nat) (G:DX):Sp:=fun vs H Q E=>∃ ss B,vs.length=n∧Ok ⟨H,B,z0G 0 ss vs,fun _ _=>False⟩ (z17 vs) (z1i ss) H∧∃ y,G ss=some y∧match y with
 | .inl (r,outs)=>∀ v H',Aft ⟨H,B,z0G 0 ss vs,fun _ _=>False⟩ (z17 vs) (z1i ss) H (z17 vs) (z1i outs) H'→RepS ⟨H,B,z0G 0 ss vs,fun _ _=>False⟩ (z17 vs) (z1i outs) H H' v r→Q v H'
 | .inr (x,outs)=>∀ C H',mg (toS x)=some (.ref C)→Aft ⟨H,B,z0G 0 ss vs,fun _ _=>False⟩ (z17 vs) (z1i ss) H (z17 vs) (z1i outs) H'→E (.ref C) none H'
def KFnX (P:Wm) (w:Ws) (K:W3) (mg:Str→Option Value) (base:Heap) (k:Nat) (x:Str) (n:Nat) (G:DX):Prop :=
 ∃ (f:Addr) (fd:WC) (ps:List Str),mg x=some (.ref f)∧Q9 K (.ref f)=true∧Binds K fd ps []∧FnOk P w K mg base (CXe P w) k f fd ps (spX mg n G)
theorem zcM (h:(⟨H,B,z0G 0 ss vs,g⟩:Fc).I a):Own (z17 vs) (z1i ss) a:=by
 obtain ⟨i,hi⟩:=h
 obtain ⟨j,d,_,e1,e2⟩:=z1I hi
 exact ⟨j,d,someS_get.mpr e1,some'_get.mpr e2⟩
section
variable {P:Wm} {w:Ws} {K:W3} {mg:Str→Option Value} {base:Heap}
theorem Aft.unxc (x:Aft { c with xc:=g } σ δ H σ' δ' H'):Aft c σ δ H σ' δ' H':=⟨x.ok.unxc,x.keep,x.own,x.there⟩
theorem RepS.unxc (h:RepS { c with xc:=g } σ δ Hs H v r):RepS c σ δ Hs H v r:=by
 cases r with
 | pure d=>exact h
 | own d =>
  obtain ⟨a,e,o,n,f,k,q⟩:=h
  exact ⟨a,e,o,n,f,⟨k.keep,k.bd,k.ith,k.len,k.slot,k.own,k.inj,k.pinned⟩,q⟩
theorem zgp {x qual:Str} {st:Stmt} {f:Addr} {fd:WC} {N ps:List Str} {k:Nat} {np:List Nat} {fb:DS} {G:DX} (F:Fun K x qual st f fd) (S:FnScope N ps (z06 st))
  (hbody:∀ (c:Fc) (cdv:Value) (A:Wq) (outer:List Env) (s:W5) (H:Hp) (E:XK),Room k (A.deeper (Qo qual (z06 st) s.heap.objs.size f cdv))→Np c np →
   XOk (cxOf (CXe P w) P w K mg base N qual (z06 st) f cdv A outer s H E) (wD mg c)→XOkR (cxOf (CXe P w) P w K mg base N qual (z06 st) f cdv A outer s H E) (wD mg c)→SSs (cxOf (CXe P w) P w K mg base N qual (z06 st) f cdv A outer s H E) c (z1s st) fb)
  (hG:∀ ss y,G ss=some y→ioOk np 0 ss=true∧runX fb N.length ss=some y):FnOk P w K mg base (CXe P w) (k + 1) f fd ps (spX mg ps.length G):=by
 obtain ⟨oc,od,kV,doc,pm,an,cdv,ct,osl,rfl,lk,hcd⟩:=F.ex
 refine zgs lk hcd S (fun vs H Q E h=>?_) fun A outer s H vs Q E hr h=>?_
 ·obtain ⟨ss,B,hl,_⟩:=h
  exact hl
 ·obtain ⟨ss,B,hl,ok,y,hg,q⟩:=h
  obtain ⟨hio,hrun⟩:=hG ss _ hg
  have hvs:ss.length=vs.length:=by have:=ok.len; simpa using this
  let g:Xc→Dl→Prop:=fun x δ'=>∃ outs,x.flds=[]∧z0e 0 ss δ'=some outs∧y = .inr (x.cls,outs)
  have np':Np ⟨H,B,z0G 0 ss vs,g⟩ np:=fun p hp=>by
   obtain ⟨j,d,e,h1,_⟩:=z1I (i:=p.1) (a:=p.2) hp
   rw [e]
   exact z7a hio h1
  have hst:start N vs=z17 vs ++ Wd (N.length - ss.length) none:=by rw [hvs]; rfl
  have ok0:Ok ⟨H,B,z0G 0 ss vs,fun _ _=>False⟩ (start N vs) (z0g N.length ss) H:=by rw [hst]; exact ok.ext _
  have wish:∀ C σ' H',wD mg ⟨H,B,z0G 0 ss vs,g⟩ C σ' H'→E (.ref C) none H':=fun C σ' H' ⟨z,δ',hm,k',outs,_,ho,hy⟩=>by
   rw [hy] at q
   have k1:Ok ⟨H,B,z0G 0 ss vs,fun _ _=>False⟩ σ' δ' H':=⟨k'.keep,k'.bd,k'.ith,k'.len,k'.slot,k'.own,k'.inj,k'.pinned⟩
   have a:Aft ⟨H,B,z0G 0 ss vs,fun _ _=>False⟩ (z17 vs ++ Wd (N.length - ss.length) none) (z1i ss ++ Wd (N.length - ss.length) none) H σ' δ' H' :=
    Ok.since rfl (by rw [hst] at ok0; exact ok0) (fun a z=>Own.ext.mpr (zcM z)) k1
   exact q C H' hm (z8L rfl ok a ho).1
  refine ⟨tDS ⟨H,B,z0G 0 ss vs,g⟩ fb,hbody ⟨H,B,z0G 0 ss vs,g⟩ cdv A outer s H E hr np' (zaq wish) (zce wish),z0g N.length ss,⟨ok0.keep,ok0.bd,ok0.ith,ok0.len,ok0.slot,ok0.own,ok0.inj,ok0.pinned⟩,?_⟩
  unfold runX at hrun
  unfold z2z
  cases e:fb (z0g N.length ss) with
  | stuck=>rw [e] at hrun; cases hrun
  | exc x δx =>
   rw [e] at hrun
   simp only at hrun
   split at hrun
   ·rename_i hfl
    cases eo:z0e 0 ss δx with
    | none=>rw [eo] at hrun; cases hrun
    | some os =>
     rw [eo] at hrun
     cases hrun
     exact ⟨os,List.isEmpty_iff.mp hfl,eo,rfl⟩
   ·cases hrun
  | ok fl δ' =>
   rw [e] at hrun
   show ∀ σ' H',Aft _ (start N vs) (z0g N.length ss) H σ' δ' H'→fin _ _ σ' δ' H' fl
   intro σ' H' a
   rw [hst] at a
   have k1:=a.ok
   have a1:Aft ⟨H,B,z0G 0 ss vs,fun _ _=>False⟩ (z17 vs ++ Wd (N.length - ss.length) none) (z0g N.length ss) H σ' δ' H':=⟨⟨k1.keep,k1.bd,k1.ith,k1.len,k1.slot,k1.own,k1.inj,k1.pinned⟩,a.keep,a.own,a.there⟩
   simp only at hrun
   cases fl with
   | brk=>cases hrun
   | cont=>cases hrun
   | next =>
    simp only [z0H,WD] at hrun
    cases eo:z0e 0 ss δ' with
    | none=>rw [eo] at hrun; cases hrun
    | some os =>
     rw [eo] at hrun
     cases hrun
     obtain ⟨l1,l2⟩:=z8L rfl ok a1 eo
     exact q .non H' l1 .non
   | ret r' =>
    simp only [z0H,WD] at hrun
    cases eo:z0e 0 ss δ' with
    | none=>rw [eo] at hrun; cases hrun
    | some os =>
     rw [eo] at hrun
     cases hrun
     obtain ⟨l1,l2⟩:=z8L rfl ok a1 eo
     exact fun v rv=>q v H' l1 (l2 v _ (RepS.unxc (c:=⟨H,B,z0G 0 ss vs,fun _ _=>False⟩) (g:=g) rv))
theorem z8O {x qual:Str} {st:Stmt} {f:Addr} {fd:WC} {N ps:List Str} {k:Nat} {np:List Nat} {fb:DS} {G:DX} (F:Fun K x qual st f fd) (hm:mg x=some (.ref f)) (hb:Binds K fd ps []) (S:FnScope N ps (z06 st))
  (hbody:∀ (c:Fc) (cdv:Value) (A:Wq) (outer:List Env) (s:W5) (H:Hp) (E:XK),Room k (A.deeper (Qo qual (z06 st) s.heap.objs.size f cdv))→Np c np →
   XOk (cxOf (CXe P w) P w K mg base N qual (z06 st) f cdv A outer s H E) (wD mg c)→XOkR (cxOf (CXe P w) P w K mg base N qual (z06 st) f cdv A outer s H E) (wD mg c)→SSs (cxOf (CXe P w) P w K mg base N qual (z06 st) f cdv A outer s H E) c (z1s st) fb)
  (hG:∀ ss y,G ss=some y→ioOk np 0 ss=true∧runX fb N.length ss=some y):KFnX P w K mg base (k + 1) x ps.length G:=⟨f,fd,ps,hm,F.kp,hb,zgp F S hbody hG⟩
end
def zep:(S×List S) ⊕ (Tx×List S)→List S
 | .inl y=>y.2
 | .inr y=>y.2
def z57 (G:DX):Prop:=∀ ss y,G ss=some y→∀ (j:Nat),(∀ d,ss[j]? = some (.own d)→∃ d',(zep y)[j]? = some (.own d'))∧∀ d,ss[j]? = some (.pure d)→∃ d',(zep y)[j]? = some (.pure d')
theorem zbg {ss os:List S} {δ:Dl} (e:z0e 0 ss δ=some os) (j:Nat):(∀ d,ss[j]? = some (.own d)→∃ d',os[j]? = some (.own d'))∧∀ d,ss[j]? = some (.pure d)→∃ d',os[j]? = some (.pure d'):=by
 obtain ⟨h1,h2⟩:=z5K e
 refine ⟨fun d ed=>?_,fun d ed=>?_⟩
 ·rcases h2 j _ ed with ⟨d',z,_⟩ | ⟨d',d'',_,_,z⟩
  ·cases z
  ·exact ⟨d'',z⟩
 ·rcases h2 j _ ed with ⟨d',z,z'⟩ | ⟨d',d'',z,_⟩
  ·exact ⟨d',z'⟩
  ·cases z
theorem zaP (h:runX fb n ss=some y):∃ δ,z0e 0 ss δ=some (zep y):=by
 unfold runX at h
 cases e:fb (z0g n ss) with
 | stuck=>rw [e] at h; cases h
 | exc x δ =>
  rw [e] at h
  simp only at h
  split at h
  ·cases e2:z0e 0 ss δ with
   | none=>rw [e2] at h; cases h
   | some os=>rw [e2] at h; cases h; exact ⟨δ,e2⟩
  ·cases h
 | ok fl δ =>
  rw [e] at h
  simp only at h
  cases e1:z0H fl with
  | none=>rw [e1] at h; cases h
  | some r =>
   rw [e1] at h
   simp only [WD] at h
   cases e2:z0e 0 ss δ with
   | none=>rw [e2] at h; cases h
   | some os=>rw [e2] at h; cases h; exact ⟨δ,e2⟩
def gOfX (np:List Nat) (n:Nat) (b:DS):DX:=fun ss=>if ioOk np 0 ss then runX b n ss else none
theorem z5r (h:gOfX np n b ss=some y):ioOk np 0 ss=true∧runX b n ss=some y:=by
 unfold gOfX at h
 split at h
 ·exact ⟨by assumption,h⟩
 ·cases h
theorem z4Z {np:List Nat} {n:Nat} {b:DS}:z57 (gOfX np n b):=fun ss y h j=>by
 obtain ⟨δ,e⟩:=zaP (z5r h).2
 exact zbg e j
def z1r (G:DX) (as:List Ak):DE:=fun δ=>if (ios as).all (z0s δ) && ndup (ios as) then (evX as δ).bind fun ds δ1=>match mkA as ds δ1 with
  | none=>.stuck
  | some ss=>match G ss with
   | none=>.stuck
   | some (.inl (r,outs))=>.ok r (putA as outs δ1)
   | some (.inr (x,outs))=>.exc ⟨x,[]⟩ (putA as outs δ1)
 else .stuck
section
variable {X:Cx} {c:Fc} {e:Expr} {es:List Expr} {as:List Ak} {k n:Nat} {x:Str} {G:DX} {pp pos:Pos}
theorem zaj (hK:z57 G) (hl:as.length=n) (h:tD c (z1r G as) σ H Q):tX c as σ H fun vs H1=>spX X.mg n G vs H1 Q (fun c' _ H'=>∃ C,c' = .ref C∧wD X.mg c C σ H'):=by
 obtain ⟨δ,kk,q⟩:=h
 unfold z1r at q
 split at q
 ·rename_i hc
  rw [Wk] at hc
  have nd:=z3E hc.2
  rw [z08] at q
  refine ⟨δ,kk,fun i hi=>?_,z02 q fun ds δ1 q1 vs H1 a1 r1=>?_⟩
  ·have:=Qh.mp hc.1 i (ios_mem.mpr hi)
   unfold z0s at this
   split at this
   ·rename_i d ed
    exact z2P kk ed
   ·cases this
  ·cases em:mkA as ds δ1 with
   | none=>rw [em] at q1; exact q1.elim
   | some ss =>
    rw [em] at q1
    simp only at q1
    cases eg:G ss with
    | none=>rw [eg] at q1; exact q1.elim
    | some y =>
     rw [eg] at q1
     have hin:=z8T a1.ok r1 em nd
     obtain ⟨m1,m2,_⟩:=z7R r1 em
     have g2:=hK ss y eg
     refine ⟨ss,_,by rw [← m2]; exact hl,hin,y,eg,?_⟩
     cases y with
     | inl y =>
      obtain ⟨r,outs⟩:=y
      intro v H2 a2 r2
      obtain ⟨o1,o2⟩:=z5v a1.ok r1 em nd rfl a2 (fun j d ed=>(g2 j).1 d ed) fun j d ed=>(g2 j).2 d ed
      exact q1 v H2 (a1.trans o1) (RepS.back (o2 v r r2) a1)
     | inr y =>
      obtain ⟨z,outs⟩:=y
      intro C H2 hm a2
      obtain ⟨o1,o2⟩:=z5v a1.ok r1 em nd rfl a2 (fun j d ed=>(g2 j).1 d ed) fun j d ed=>(g2 j).2 d ed
      exact ⟨C,rfl,z,putA as outs δ1,hm,o1.ok,q1⟩
 ·exact q.elim
theorem z5l (F:KFnX X.prog X.w X.K X.mg X.base k x n G) (hK:z57 G) (hr:Room k X.A) (hex:X.ex=[]) (hx:XOk X (wD X.mg c)) (hg:Gl X x) (ha:SX X c (e :: es) as) (hl:as.length=n) (hdb:(x == ("__debug__" : Str))=false:=by decide)
  (he:W7 (e :: es) X.env=(false,eval e X.env) :: W7 es X.env:=by rfl) (hpl:(WU pos (W7 es X.env)).any (·.1)=false:=by rfl):SE X c (.Call (.Name x pp) (e :: es) [] pos) (z1r G as):=by
 obtain ⟨f,fd,ps,hm,hk,hb,ok⟩:=F
 exact PE.weak (z9j ok hr hex hg hm hk hb hx ha hdb he hpl) fun σ H Q h=>zaj hK hl h
end
def za8 (δ:Dl):Bool:=δ.all fun
 | some (.own _)=>false
 | _=>true
def unset (i:Nat):Rs Fl→Rs Fl
 | .ok fl δ=>.ok fl (δ.set i none)
 | r=>r
def dTry (ce:Tx→Nat) (ys:List Tx) (i:Nat) (fb fh:DS):DS:=fun δ=>if za8 δ then match fb δ with
  | .exc x δ'=>if ys.contains x.cls && x.flds.isEmpty && decide (i < δ'.length) then unset i (fh (δ'.set i (some (.pure (.exc (ce x.cls)))))) else .stuck
  | r=>r
 else .stuck
section
variable {c:Fc} {σ σ':St} {δ δ':Dl} {H H':Hp}
theorem zg7 (h:Np c []):c.pin=[]:=by
 cases e:c.pin with
 | nil=>rfl
 | cons p r =>
  have:=h p (by rw [e]; exact Wi)
  simp at this
theorem Aft.unset (x:Aft c σ₀ δ₀ H₀ σ δ H) (hp:c.pin=[]) (i:Nat):Aft c σ₀ δ₀ H₀ (σ.set i none) (δ.set i none) H:=by
 have k:=x.ok
 have back:∀ {α:Type} {l:List (Option α)} {j:Nat} {v:α},(l.set i none)[j]? = some (some v)→l[j]? = some (some v)∧i≠j:=fun {α l j v} e=>by
  by_cases hj:i=j
  ·subst hj
   rw [WF] at e
   simp at e
  ·rw [W8 hj] at e
   exact ⟨e,hj⟩
 have own:∀ a,Own (σ.set i none) (δ.set i none) a→Own σ δ a:=fun a ⟨j,d,e1,e2⟩=>⟨j,d,(back e1).1,(back e2).1⟩
 have av:∀ a,Av c (σ.set i none) (δ.set i none) a→Av c σ δ a:=fun a z=>z.elim .inl fun z=>.inr (own a z)
 refine ⟨⟨k.keep,k.bd,k.ith,by simp [k.len],fun j d e=>?_,fun j d e=>?_,fun j1 j2 a d d' e1 e2 e3 e4=>k.inj j1 j2 a d d' (back e1).1 (back e2).1 (back e3).1 (back e4).1,fun p hm=>by rw [hp] at hm; simp at hm⟩,x.keep,fun a z=>x.own a (own a z),x.there⟩
 ·obtain ⟨e',n⟩:=back e
  obtain ⟨v,e1,r⟩:=k.slot j d e'
  exact ⟨v,by rw [W8 n]; exact e1,r.anti fun a z=>.inl (av a z)⟩
 ·obtain ⟨e',n⟩:=back e
  obtain ⟨a,e1,r,q⟩:=k.own j d e'
  exact ⟨a,by rw [W8 n]; exact e1,r.anti fun a z=>.inl (av a z),q⟩
end
section
variable {c:Fc} {σ σ':St} {δ δ':Dl} {H H':Hp} {B':Addr→Prop} {g:Xc→Dl→Prop}
theorem Ok.inTry (k:Ok c σ δ H) (h:za8 δ=true):Ok ⟨H,c.B,[],g⟩ σ δ H :=
 ⟨fun _ _ e _=>e,k.bd,fun a ⟨i,z⟩=>(by simp at z),k.len,k.slot,fun i d e=>((by have:=Qh.mp h _ (WB e); cases this)),k.inj,fun p z=>(by simp at z)⟩
theorem Ok.outTry (k:Ok c σ δ H) (hp:c.pin=[]) (k':Ok ⟨H,B',[],g⟩ σ' δ' H'):Ok { c with B:=B' } σ' δ' H':=by
 have nI:∀ a,¬ c.I a:=fun a ⟨i,z⟩=>by rw [hp] at z; simp at z
 have nI':∀ a,¬ (⟨H,B',[],g⟩:Fc).I a:=fun a ⟨i,z⟩=>by simp at z
 refine ⟨fun a o e n=>k'.keep a o (k.keep a o e n) (nI' a),k'.bd,fun a z=>absurd z (nI a),k'.len,k'.slot,fun i d e=>?_,k'.inj,fun p z=>by rw [show ({ c with B:=B' }:Fc).pin=c.pin from rfl,hp] at z; simp at z⟩
 obtain ⟨a,e1,r,q,nb⟩:=k'.own i d e
 refine ⟨a,e1,r,.inr ?_,nb⟩
 rcases q with q | q
 ·exact absurd q (nI' a)
 ·exact k.fresh₀ q
theorem Aft.outTry (k:Ok c σ δ H) (hp:c.pin=[]) (x:Aft ⟨H,c.B,[],g⟩ σ δ H σ' δ' H'):Aft c σ δ H σ' δ' H':=⟨k.outTry hp x.ok,x.keep,x.own,x.there⟩
theorem RepS.outTry (k:Ok c σ δ H) (hp:c.pin=[]) (h:RepS ⟨H,c.B,[],g⟩ σ' δ' H H' v r):RepS c σ' δ' c.H₀ H' v r:=by
 cases r with
 | pure d=>exact h
 | own d =>
  obtain ⟨a,e,o,n,f,k',q⟩:=h
  exact ⟨a,e,o,n,k.fresh₀ f,k.outTry hp k',k.fresh₀ f⟩
theorem RepS.unset (hp:c.pin=[]) (i:Nat) (h:RepS c σ δ Hs H v r):RepS c (σ.set i none) (δ.set i none) Hs H v r:=by
 have own:∀ a,Own (σ.set i none) (δ.set i none) a→Own σ δ a:=fun a ⟨j,d,e1,e2⟩=>by
  have back:∀ {α:Type} {l:List (Option α)} {v:α},(l.set i none)[j]? = some (some v)→l[j]? = some (some v):=fun {α l v} e=>by
   by_cases hj:i=j
   ·subst hj; rw [WF] at e; simp at e
   ·rw [W8 hj] at e; exact e
  exact ⟨j,d,back e1,back e2⟩
 cases r with
 | pure d=>exact Rep.anti h fun a z=>.inl (z.elim .inl fun z=>.inr (own a z))
 | own d =>
  obtain ⟨a,e,o,n,f,k,q⟩:=h
  exact ⟨a,e,o.anti fun b z=>.inl (z.elim .inl fun z=>.inr (own b z)),n,f,(Aft.unset (Aft.refl k) hp i).ok,q⟩
end
theorem zfc (hnp:Np c []) (hst:X.stack=X.env :: X.outer) (hf:X.env.frame=some X.env.locals)
  (hN:X.N.Nodup) (hi:X.N[i]? = some n) (hl:X.env.scope.names.lookup n=some .local) (hg:Gl X x) (hm:X.mg x=some (.ref B)) (qB:ExcC X.K B)
  (hys:∀ y ∈ ys,X.mg (toS y)=some (.ref (ce y))∧PySem.W.mroIn X.K (ce y) (.ref B)=some true)
  (hb:∀ (c':Fc) (pn:List (Addr×Obj)) (xe:Value→W5→Prop),Np c' []→XOk (X.wt pn xe) (wD X.mg c')→SSs (X.wt pn xe) c' body fb) (hh:∀ a,SSs (X.hand a) c (b₀ :: suite) fh) (hdb:(x == ("__debug__" : Str))=false:=by decide) :
  SS X c (.Try body [.ExceptHandler (some (.Name x np)) (some n) (b₀ :: suite) hpos] [] [] pos) (dTry ce ys i fb fh):=by
 have hp:=zg7 hnp
 refine PS.weak (zb2 (i:=i) (B:=B) (th:=fun _ _=>tDS c fh)
  (tb:=fun W D σ H=>tDS ⟨H,c.B,[],fun z δ'=>∀ σ' H',Ok ⟨H,c.B,[],fun _ _=>False⟩ σ' δ' H'→∀ C,X.mg (toS z.cls)=some (.ref C)→z.flds=[]→W C σ' H'⟩ fb D σ H) hst hf hN hi hl hg hm qB hdb
  (fun W pn xe acc pins s σ H D I hw=>hb _ pn xe (fun p z=>(by simp at z)) (fun ps σ' H' s' a C J co ⟨y,δ',hy,k',w'⟩=>acc ps σ' H' s' a C J co (w' σ' H' ⟨k'.keep,k'.bd,k'.ith,k'.len,k'.slot,k'.own,k'.inj,k'.pinned⟩ C hy rfl)) pins s σ H D I hw)
  (fun _ a=>hh a)) fun D σ H ⟨δ,k,q⟩=>?_
 unfold dTry at q
 split at q
 ·rename_i hno
  refine ⟨δ,k.inTry hno,?_⟩
  unfold z2z at q ⊢
  cases e:fb δ with
  | stuck=>rw [e] at q; exact q.elim
  | ok fl δ' =>
   rw [e] at q
   intro σ' H' a
   have f0:=q σ' H' (Aft.outTry k hp a)
   cases fl with
   | next=>exact f0
   | brk=>exact f0
   | cont=>exact f0
   | ret r=>exact fun v rv=>f0 v (RepS.outTry k hp rv)
  | exc z δ' =>
   rw [e] at q
   simp only at q
   split at q
   ·rename_i hc
    simp only [Wk,decide_eq_true_eq] at hc
    obtain ⟨⟨hy,hfl⟩,hlt⟩:=hc
    intro σ' H' k' C hC _
    obtain ⟨y1,y2⟩:=hys z.cls (by simpa using hy)
    rw [y1] at hC
    cases hC
    refine ⟨y2,fun a ha=>?_⟩
    have A1:Aft c σ δ H σ' δ' H':=Aft.outTry k hp (Ok.since (c:=⟨H,c.B,[],fun _ _=>False⟩) rfl (k.inTry hno) (fun a ⟨j,z⟩=>by simp at z) k')
    have A2:=A1.trans (Aft.alloc A1.ok ha (.ext (excAt (ce z.cls) a)))
    have A3:=Ok.set (i:=i) (v:=.ref a) (r:=.pure (.exc (ce z.cls))) A2 (.exc (A1.ok.nav ha) z0D) (fun p zz=>by rw [hp] at zz; simp at zz)
    refine ⟨δ'.set i (some (.pure (.exc (ce z.cls)))),A3.ok,?_⟩
    unfold z2z
    generalize fh (δ'.set i (some (.pure (.exc (ce z.cls)))))=r at q
    cases r with
    | stuck=>exact q.elim
    | exc z' δ4=>exact q
    | ok fl δ4 =>
     intro σ4 H4 A4
     have f0:=q (σ4.set i none) H4 (Aft.unset (A3.trans A4) hp i)
     cases fl with
     | next=>exact f0
     | brk=>exact f0
     | cont=>exact f0
     | ret r=>exact fun v rv=>f0 v (RepS.unset hp i rv)
   ·exact q.elim
 ·exact q.elim
end DV
namespace L2
open PySem PySem.Spec PyProof.Rows PySem.W Builtin Builtin.ObjectAttr Builtin.Getset_descriptor
section
variable {prog:Wm} {w:Ws} {A:Wq} {E:Value→W5→Prop} {K:W3} {C e:Addr} {oe:Obj} {h:Heap} {g:Array GenState} {d:Drawn} {t:Nat} {os:OsState}
structure ExcK (K:W3) (C:Addr):Prop where
 ga:J3 K (.ref C) "__getattribute__" = some (some (.builtin "BaseException.__getattribute__"))
 gt:J3 K (.ref C) "__getattr__" = some none
 cl:J3 K (.ref C) "__class__" = some (some (.builtin "object.__class__"))
 sp:specialIn K (.builtin "object.__class__") "__get__" = some (some (.builtin "getset_descriptor.__get__"))
 tk:takesIn K (.builtin "object.__class__")=some true
 mo:mroIn K C (.type "object")=some true
 mb:mroIn K C (.type "BaseException")=some true
theorem zeM (X:K.In h) (k:ExcK K C) (he:h.get? e=some oe) (hc:oe.cls = .ref C) (q:R (.ok (.ret (.ref C))) ⟨h,g,d,t,os⟩) :
  QC (model prog w) A (.call (.builtin "getset_descriptor.__get__") ⟨[.builtin "object.__class__",.ref e,tp],[]⟩) R ⟨h,g,d,t,os⟩:=by
 have l1:Looks (model prog w) h (typeOf (.ref e)) (.ref C):=hc ▸ (Looks.ld he).andThen .now
 have l2:=looks_mroIn (M:=model prog w) X k.mo
 refine codeAny_call_builtin
  KF.slot_gs.plain KF.entry_gs
  (KF.slot_gs.check _ _ _ _ _ _ _ _
   KF.type_class (KF.args_gs _ _ _) ?_)
 unfold Builtin.«getset_descriptor.__get__» descrGet; rw [dga_obj]
 refine W4 (Wc ?_)
 unfold descrGetter descrCheckInstance descrNameAndClass isInstance; simp only [KF.owner_class]
 repeat lk
 refine ⟨Code.quiet_builtin _ (by decide +kernel),
  codeAny_builtin KF.entry_class ?_⟩
 unfold Builtin.«object.__class__» shownTypeOf; repeat lk
 exact q
theorem zbM (X:K.In h) (k:ExcK K C) (he:h.get? e=some oe) (hc:oe.cls = .ref C) (q:Q (.done (.ret (.ref C))) ⟨h,g,d,t,os⟩) :
  We (model prog w) A (Builtin.«object.__getattribute__» ⟨[.ref e,.str "__class__" tk],[]⟩) Q E ⟨h,g,d,t,os⟩:=by
 have l0:Looks (model prog w) h (typeOf (.ref e)) (.ref C):=hc ▸ (Looks.ld he).andThen .now
 have l1:=looks_findIn (M:=model prog w) X k.cl
 have l2:=KF.type_class
 have l3:=F.slot_gs_get.lookup
 have l4:=F.slot_gs_set.lookup
 repeat (any_goals (first | assumption | with_reducible refine Looks.at l0 ?_ | with_reducible refine Looks.at l1 ?_ | (with_reducible refine Qb he ?_; rw [hc]) | wp_step))
 refine zeM X k he hc ?_
 repeat (any_goals (first | assumption | wp_step))
theorem zbO (X:K.In h) (k:ExcK K C) (he:h.get? e=some oe) (hc:oe.cls = .ref C) (q:Q () ⟨h,g,d,t,os⟩) :
  We (model prog w) A (checkBuiltinCall "BaseException.__getattribute__" ⟨[.ref e,nv],[]⟩) Q E ⟨h,g,d,t,os⟩:=by
 have l0:Looks (model prog w) h (typeOf (.ref e)) (.ref C):=hc ▸ (Looks.ld he).andThen .now
 have l1:=looks_mroIn (M:=model prog w) X k.mb
 have b1:builtinKind "BaseException.__getattribute__" = some .slot:=by decide +kernel
 have b2:splitId "BaseException.__getattribute__" = some ("BaseException","__getattribute__"):=by decide +kernel
 have b3:=F.args_bexc_ga (.ref e) nv
 simp only [checkBuiltinCall,b1,b2]
 refine W4 ?_
 unfold isInstance
 repeat (first | with_reducible refine Looks.at l0 ?_ | with_reducible refine Looks.at l1 ?_ | (with_reducible refine Qb he ?_; rw [hc]) | wp_step)
 exact q
theorem zbN (X:K.In h) (k:ExcK K C) (he:h.get? e=some oe) (hc:oe.cls = .ref C) (q:Q (some (.ref C)) ⟨h,g,d,t + 1,os⟩):We (model prog w) A (getAttr? (.ref e) "__class__") Q E ⟨h,g,d,t,os⟩:=by
 have L0:Looks (model prog w) h (typeOf (.ref e)) (.ref C):=hc ▸ (Looks.ld he).andThen .now
 have L1:=looks_findIn (M:=model prog w) X k.ga
 have L2:=looks_findIn (M:=model prog w) X k.gt
 have L3:=looks_mroIn (M:=model prog w) X k.mb
 have hx0:(false && onTheHeap (Value.builtin "BaseException.__getattribute__"))=false:=rfl
 have hx2:(Value.builtin "BaseException.__getattribute__" == Value.builtin "object.__getattribute__")=false:=by decide +kernel
 have f3:=F.attrBase_ValueError.ga.bind (.ref e)
 unfold getAttr? getAttrBy? getAttrBy
 refine W4 (wpAny_mkText (W4 (wpAny_attempt (Q7 (W4 (L0.at (W4 (L1.at ?_))))))))
 dsimp only
 rw [hx2,QN]
 simp only [Bool.false_eq_true,if_false]
 unfold getAttrByItsOwn hookBefore
 repeat (any_goals (first | assumption | with_reducible refine Looks.at L2 ?_ | wp_step))
 refine codeAny_call_builtin F.attrBase_ValueError.ga.plain F.entry_bexc_ga (zbO X k he hc (zbM X k he hc ?_))
 repeat (any_goals (first | assumption | wp_step))
theorem zd1 (k:ExcK K C) (hk:(clsIn K C).isSome=true):KitX K (.ref e) (.ref C) (DV.excAt C e) where
 ty:=fun M h X ⟨o,h1,h2,_⟩=>h2 ▸ (Looks.ld h1).andThen .now
 it:=fun M h X _=>by
  obtain ⟨cd,hcd⟩:=QO.mp hk
  unfold clsIn at hcd
  split at hcd
  next c' d' cd' sl' ho=>exact fun A' Q' E' s' kk q=>by unfold isType loadHead; exact W4 (wpAny_loadPart (kk _ _ (X _ _ ho)) (Wc q))
  next=>cases hcd
 ne:=fun h tp dd its n sl X htp=>by
  obtain ⟨cd,hcd⟩:=QO.mp hk
  refine Bool.eq_false_iff.mpr fun q=>?_
  obtain rfl:C=tp:=Value.ref.inj (beq_iff_eq.mp q)
  unfold clsIn at hcd
  split at hcd
  next c' d' cd' sl' ho=>have z:=(X _ _ ho).symm.trans htp; cases z
  next=>cases hcd
 ca:=fun {prog w A E Q s} X ⟨o,h1,h2,_⟩ q=>by
  obtain ⟨hh,gg,dd,tt,oo⟩:=s
  exact zbN X k h1 h2 q
end
section
variable {X:Cx} {y:Str} {D:Addr} {pos:Pos}
theorem zfX (hg:Gl X y) (hm:X.mg y=some (.ref D)) (hd:(y == ("__debug__" : Str))=false:=by decide):PE X (.Name y pos) (fun σ H Q=>Q (.ref D) H):=fun pins s σ H Q I h=>z48 I hg hm ⟨.ref D,H,I,rfl,h⟩ hd
structure IsT (K:W3) (ce:DV.Tx→Nat) (ys:List DV.Tx) (cv:Value) (tab:DV.Tx→Bool):Prop where
 k:∀ z ∈ ys,ExcK K (ce z)
 c:∀ z ∈ ys,(PySem.W.clsIn K (ce z)).isSome=true
 one:∀ z ∈ ys,Qq K (.ref (ce z)) cv=some (tab z)
theorem z9N (hcv:∀ u,RelV cV u→u=cv) (T:IsT X.K ce ys cv tab) :
  CallR X (.builtin "isinstance") (fun xs H Q=>∃ (a:Addr) (z:DV.Tx),xs=[.ref a,cV]∧H a=some (.ext (DV.excAt (ce z) a))∧z ∈ ys∧Q (.bl (tab z)) H):=by
 intro pins s σ H xs us Q I r h
 obtain ⟨a,z,rfl,ha,hz,q⟩:=h
 obtain ⟨u,w',rfl,r1,r2⟩:=zcg r
 cases r1
 have e:=hcv _ r2
 subst e
 obtain ⟨p,_,_⟩:=I.hok a _ ha
 exact WV (zd1 (T.k z hz) (T.c z hz)) I.kIn p (T.one z hz) (fun z=>nomatch z) fun tk=>⟨.bl (tab z),H,I.tok tk,rfl,q⟩
end
structure RoomH (k:Nat) (A:Wq):Prop where
 dp:A.depth + 3 * k + 5 < recursionLimit
 un:A.units + 16 * k + 200 < Q4
theorem RoomH.deeper (r:RoomH (k + 1) A) (env:Env):RoomH k (A.deeper env) :=
 ⟨by have:=r.dp; show A.depth + 1 + 3 * k + 5 < _; omega,by have:=r.un; show A.units + 3 + 16 * k + 200 < _; omega⟩
theorem Room.h (r:Room k A):RoomH k A:=⟨r.dp,r.un⟩
theorem RoomH.mono (r:RoomH k A) (h:j≤k):RoomH j A:=⟨by have:=r.dp; omega,by have:=r.un; omega⟩
theorem RoomH.mark (r:RoomH k A) (v:Option Value):RoomH k (A.mark v):=⟨r.dp,r.un⟩
def Cx.cold (X:Cx):Cx:={ X with calm:=false,xe:=fun _ _=>False }
structure FnOkH (P:Wm) (w:Ws) (K:W3) (mg:Str→Option Value) (base:Heap) (k:Nat) (f:Addr) (fd:WC) (ps:List Str) (sp:Sp):Prop where
 len:∀ vs H Q E,sp vs H Q E→vs.length=ps.length
 run:∀ (A:Wq) (outer:List Env) (s:W5) (H:Hp) (args:Args) (us:List Value) (vs:List V) (Q:VK),RoomH k A→Env0 P w K mg base A outer s H→BindsTo s fd args (ps.zip us)→Vals vs us→sp vs H Q E0 →
  QC (model P w) A (.call (.ref f) args) (CR CX0 outer P w H s Q E0) s
section
variable {P:Wm} {w:Ws} {K:W3} {mg:Str→Option Value} {base:Heap} {k:Nat} {f:Addr}
theorem zgr {x qual:Str} {st:Stmt} {fd:WC} {N ps:List Str} {sp:Sp} (F:Fun K x qual st f fd) (S:FnScope N ps (z06 st)) (len:∀ vs H Q E,sp vs H Q E→vs.length=ps.length)
  (hbody:∀ (cdv:Value) (A:Wq) (outer:List Env) (s:W5) (H:Hp) (vs:List V) (Q:VK),RoomH k (A.deeper (Qo qual (z06 st) s.heap.objs.size f cdv))→sp vs H Q E0 →
   ∃ t,PSs (cxOf CX0 P w K mg base N qual (z06 st) f cdv A outer s H E0).cold (z1s st) t∧t { nx:=fun _ H'=>Q .non H',rt:=Q } (start N vs) H):FnOkH P w K mg base (k + 1) f fd ps sp:=by
 obtain ⟨oc,od,kV,doc,pm,an,cdv,ct,osl,rfl,lk,hcd⟩:=F.ex
 refine ⟨len,fun A outer s H args us vs Q hr e0 hb r hsp=>?_⟩
 have hl:=len _ _ _ _ hsp
 have KX:K.In s.heap:=e0.mod.kin.keeps fun b o e=>(e0.bs b o e).1
 have lim:s.heap.NoLimit:=e0.mod.nolimit.keeps fun b o e=>(e0.bs b o e).1
 have hkind:∀ y ∈ ps.zip us,(z06 st).names.lookup y.1=some .local∨((z06 st).names.lookup y.1=some .cell∧((Qm (s.heap.objs.size + 1) (z06 st).names []).lookup y.1).isSome=true):=fun ⟨n,v⟩ hy=>by
  rcases S.par n (JG hy).1 with q | q
  ·exact .inl q
  ·exact .inr ⟨q,QZ _ _ _ (.inl q)⟩
 have hdep:A.depth < recursionLimit:=by have:=hr.dp; omega
 refine codeAny_call_function hdep (KX _ _ lk) rfl S.co S.gen rfl (PySem.W.codeRec_of KX hcd) (hb _ _ _ _ ?_)
 refine wpAny_newFunctionEnv_cells S.kind hkind fun env he s1 x=>?_
 subst he
 refine ⟨lim.keeps x.toInCall.keep,codeAny_func ?_⟩
 obtain ⟨t,ht,hq⟩:=hbody cdv A outer s H vs Q (hr.deeper _) hsp
 have e1:Env0 P w K mg base { A with handled:=none } outer s H:=⟨e0.frames,e0.mod,e0.bs,e0.bsz,e0.funs,e0.frf,e0.hok,e0.bare⟩
 have J:=z7X (CX:=CX0) (E:=E0) (qual:=qual) (f:=f) (cd:=cdv) (A:={ A with handled:=none }) S rfl e1 hl r x
 have I:Inv (cxOf CX0 P w K mg base N qual (z06 st) f cdv A outer s H E0).cold [] (start N vs) H s1:=by
  have o:=J.ok
  exact ⟨⟨o.mod,o.kind,o.glob,o.blt,o.above,o.inj,o.has,o.cab,fun z=>(by cases z),Around.frames_deeper e0.frames,o.stk,o.exf,o.bs,o.bsz,o.noex,o.exfs,o.funs,o.frf⟩,J.os,J.bare,J.base,J.loc,J.cell,J.free,J.freeC,J.pin,J.hok,J.len⟩
 refine WJ (ht [] s1 (start N vs) H _ I hq) (fun fl s' hs=>?_) fun e s' hs=>hs.elim
 cases fl with
 | ret u =>
  obtain ⟨v,σ',H',J2,rv,q⟩:=hs
  exact ⟨v,H',J2.os,J2.bare,J2.base,J2.hok,rv,q⟩
 | next =>
  obtain ⟨σ',H',J2,q⟩:=hs
  exact ⟨V.non,H',J2.os,J2.bare,J2.base,J2.hok,rfl,q⟩
 | brk =>
  obtain ⟨_,_,_,q⟩:=hs
  exact False.elim q
 | cont =>
  obtain ⟨_,_,_,q⟩:=hs
  exact False.elim q
end
section
variable {X:Cx} {k:Nat} {f:Addr} {fd:WC} {ps:List Str} {sp:Sp} {x:Str} {p pos:Pos} {e:Expr} {es:List Expr} {t:TA}
theorem zcJ (F:FnOkH X.prog X.w X.K X.mg X.base k f fd ps sp) (hr:RoomH k X.A) (hg:Gl X x) (hm:X.mg x=some (.ref f)) (hk:Q9 X.K (.ref f)=true) (hb:Binds X.K fd ps [])
  (ha:PA X (e :: es) t) (hdb:(x == ("__debug__" : Str))=false:=by decide) (he:W7 (e :: es) X.env=(false,eval e X.env) :: W7 es X.env:=by rfl) (hpl:(WU pos (W7 es X.env)).any (·.1)=false:=by rfl) :
  PE X (.Call (.Name x p) (e :: es) [] pos) (zdT sp [] E0 t):=by
 intro pins s σ H Q I h
 refine QE (z48 I hg hm ?_ hdb)
 refine PySem.W.callWith_K (h₀:=X.base) I.ok.mod.kin hk (thn (ha pos pins s σ H _ I h) fun us s1 ⟨vs,H1,I1,r,q⟩=>⟨I1.kIn,?_⟩) he hpl
 have q:sp vs H1 Q E0:=by have q':sp (vs ++ []) H1 Q E0:=q; rwa [WP] at q'
 have hl:(us ++ []).length=ps.length:=by rw [WP,← r.length]; exact F.len _ _ _ _ q
 refine wpAny_call (Jo (F.run X.A X.stack s1 H1 ⟨us,[]⟩ us vs Q hr I1.env0 (by have:=hb s1 us I1.kIn hl; rwa [WP] at this) r q) fun r s' hq=>?_)
 cases r with
 | error e=>exact False.elim hq
 | ok fl =>
  cases fl with
  | ret u=>exact I1.after hq
  | next=>exact False.elim hq
  | brk=>exact False.elim hq
  | cont=>exact False.elim hq
end
end L2
namespace DV
open PySem PySem.Spec PyProof.Rows L2
def eIsC (ce:Tx→Nat) (ys:List Tx) (tab:Tx→Bool) (fb:BE):DE:=fun δ=>(fb δ).bind fun d δ'=>match d with
 | .exc n=>match ys.find? fun z=>ce z == n with
  | some z=>.ok (.pure (.bl (tab z))) δ'
  | none=>.stuck
 | _=>.stuck
section
variable {X:Cx} {c:Fc} {e:Expr} {fb:BE} {pp py pos:Pos} {y:Str} {ce:Tx→Nat} {ys:List Tx} {tab:Tx→Bool}
theorem z9w (h:tD c (eIsC ce ys tab fb) σ H Q):tB c fb σ H fun v H1=>∃ (a:Addr) (z:Tx),[v,cV]=[.ref a,cV]∧H1 a=some (.ext (excAt (ce z) a))∧z ∈ ys∧Q (.bl (tab z)) H1:=by
 obtain ⟨δ,k,q⟩:=h
 unfold eIsC at q
 rw [z08] at q
 refine ⟨δ,k,z02 q fun d δ1 q1 v H1 a1 r1=>?_⟩
 cases d <;> first | exact q1.elim | skip
 rename_i n
 simp only at q1
 split at q1
 ·rename_i z hz
  have h1:=List.find?_some hz
  have h2:=List.mem_of_find?_eq_some hz
  have e:ce z=n:=by simpa using h1
  subst e
  rcases r1 with r1 | ⟨a,_,o⟩
  ·cases r1 with
   | exc _ ha=>exact ⟨_,z,rfl,ha,h2,q1 _ H1 a1 (.bl _)⟩
  ·exact o.elim
 ·exact q1.elim
theorem z4r {D:Addr} (T:IsT X.K ce ys (.ref D) tab) (hg:Gl X "isinstance") (hm:X.mg "isinstance" = none) (hgy:Gl X y) (hmy:X.mg y=some (.ref D)) (he:SB X c e fb) (hdy:(y == ("__debug__" : Str))=false:=by decide)
  (hs:W7 [e,.Name y py] X.env=(false,eval e X.env) :: W7 [.Name y py] X.env:=by rfl) (hpl:(WU pos (W7 [.Name y py] X.env)).any (·.1)=false:=by rfl) :
  SE X c (.Call (.Name "isinstance" pp) [e,.Name y py] [] pos) (eIsC ce ys tab fb) :=
 PE.weak (z3D (z9N (cV:=.ref D) (fun u r=>by cases r; rfl) T) hg hm PyProof.Rows.boot_isinstance (z0U he (z0U (zfX hgy hmy hdy) z2d) hs) (by decide) (by decide) hs hpl) fun σ H Q h=>z9w h
theorem zfi {T':String} (T:IsT X.K ce ys (.type T') tab) (hg:Gl X "isinstance") (hm:X.mg "isinstance" = none) (hgy:Gl X y) (hmy:X.mg y=none) (hvy:Q6 y=some (.type T')) (he:SB X c e fb)
  (hny:y≠"__name__":=by decide) (hdy:(y == ("__debug__" : Str))=false:=by decide)
  (hs:W7 [e,.Name y py] X.env=(false,eval e X.env) :: W7 [.Name y py] X.env:=by rfl) (hpl:(WU pos (W7 [.Name y py] X.env)).any (·.1)=false:=by rfl) :
  SE X c (.Call (.Name "isinstance" pp) [e,.Name y py] [] pos) (eIsC ce ys tab fb) :=
 PE.weak (z3D (z9N (cV:=.ty T') (fun u r=>by cases r; rfl) T) hg hm PyProof.Rows.boot_isinstance (z0U he (z0U (zbd (v:=.ty T') hgy hmy hvy rfl hny hdy) z2d) hs) (by decide) (by decide) hs hpl) fun σ H Q h=>z9w h
end
def KFnH (P:Wm) (w:Ws) (K:W3) (mg:Str→Option Value) (base:Heap) (k:Nat) (x:Str) (n:Nat) (G:DF):Prop :=
 ∃ (f:Addr) (fd:WC) (ps:List Str),mg x=some (.ref f)∧Q9 K (.ref f)=true∧Binds K fd ps []∧FnOkH P w K mg base k f fd ps (spD n G)
theorem zgo (r:RoomH k A):A.units + 64 < Q4:=by have:=r.un; omega
section
variable {P:Wm} {w:Ws} {K:W3} {mg:Str→Option Value} {base:Heap}
theorem zeK {x qual:Str} {st:Stmt} {f:Addr} {fd:WC} {N ps:List Str} {k:Nat} {np:List Nat} {fb:DS} {G:DF} (F:Fun K x qual st f fd) (hm:mg x=some (.ref f)) (hb:Binds K fd ps []) (S:FnScope N ps (z06 st))
  (hbody:∀ (c:Fc) (cdv:Value) (A:Wq) (outer:List Env) (s:W5) (H:Hp) (E:XK),RoomH k (A.deeper (Qo qual (z06 st) s.heap.objs.size f cdv))→Np c np→SSs (cxOf CX0 P w K mg base N qual (z06 st) f cdv A outer s H E).cold c (z1s st) fb)
  (hG:∀ ss y,G ss=some y→ioOk np 0 ss=true∧runD fb N.length ss=some y):KFnH P w K mg base (k + 1) x ps.length G:=by
 refine ⟨f,fd,ps,hm,F.kp,hb,zgr F S (fun vs H Q E h=>?_) fun cdv A outer s H vs Q hr h=>?_⟩
 ·obtain ⟨ss,B,hl,_⟩:=h
  exact hl
 ·obtain ⟨ss,B,hl,ok,r,outs,hg,q⟩:=h
  obtain ⟨hio,hrun⟩:=hG ss _ hg
  have hvs:ss.length=vs.length:=by have:=ok.len; simpa using this
  have np':Np ⟨H,B,z0G 0 ss vs,fun _ _=>False⟩ np:=fun p hp=>by
   obtain ⟨j,d,e,h1,_⟩:=z1I (i:=p.1) (a:=p.2) hp
   rw [e]
   exact z7a hio h1
  refine ⟨tDS ⟨H,B,z0G 0 ss vs,fun _ _=>False⟩ fb,hbody ⟨H,B,z0G 0 ss vs,fun _ _=>False⟩ cdv A outer s H E0 hr np',?_⟩
  have hst:start N vs=z17 vs ++ Wd (N.length - ss.length) none:=by rw [hvs]; rfl
  refine ⟨z0g N.length ss,by rw [hst]; exact ok.ext _,?_⟩
  unfold runD at hrun
  unfold z2z
  cases e:fb (z0g N.length ss) with
  | exc x δx=>rw [e] at hrun; cases hrun
  | stuck=>rw [e] at hrun; cases hrun
  | ok fl δ' =>
   rw [e] at hrun
   show ∀ σ' H',Aft _ (start N vs) (z0g N.length ss) H σ' δ' H'→fin _ _ σ' δ' H' fl
   intro σ' H' a
   rw [hst] at a
   simp only at hrun
   cases fl with
   | brk=>cases hrun
   | cont=>cases hrun
   | next =>
    simp only [z0H,WD] at hrun
    cases eo:z0e 0 ss δ' with
    | none=>rw [eo] at hrun; cases hrun
    | some os =>
     rw [eo] at hrun
     cases hrun
     obtain ⟨l1,l2⟩:=z8L rfl ok a eo
     exact q .non H' l1 .non
   | ret r' =>
    simp only [z0H,WD] at hrun
    cases eo:z0e 0 ss δ' with
    | none=>rw [eo] at hrun; cases hrun
    | some os =>
     rw [eo] at hrun
     cases hrun
     obtain ⟨l1,l2⟩:=z8L rfl ok a eo
     exact fun v rv=>q v H' l1 (l2 v _ rv)
end
section
variable {X:Cx} {c:Fc} {e:Expr} {es:List Expr} {as:List Ak} {k n:Nat} {x:Str} {G:DF} {pp pos:Pos}
theorem zcq (F:KFnH X.prog X.w X.K X.mg X.base k x n G) (hK:z1t G) (hr:RoomH k X.A) (hg:Gl X x) (ha:SX X c (e :: es) as) (hl:as.length=n) (hdb:(x == ("__debug__" : Str))=false:=by decide)
  (he:W7 (e :: es) X.env=(false,eval e X.env) :: W7 es X.env:=by rfl) (hpl:(WU pos (W7 es X.env)).any (·.1)=false:=by rfl):SE X c (.Call (.Name x pp) (e :: es) [] pos) (z09 G as):=by
 obtain ⟨f,fd,ps,hm,hk,hb,ok⟩:=F
 exact PE.weak (zcJ ok hr hg hm hk hb ha hdb he hpl) fun σ H Q h=>z88 (ps:=ps) hK hl h
end
end DV
namespace L2
open PySem PySem.Spec PyProof.Rows PySem.SeqAt
theorem z6O:∀ {bs:List Bool} {us:List Value},Vals (bs.map V.bl) us→us=bs.map Value.bool
 | [],us,r=>by cases r; rfl
 | b :: bs,us,r=>by
  cases r with
  | cons r1 r2 =>
   cases r1
   rw [z6O r2]
   rfl
def z5X:Value→Bool
 | .bool b=>b
 | _=>false
theorem z65:∀ bs:List Bool,(bs.map Value.bool).countP z5X=bs.count true
 | []=>rfl
 | b :: bs=>by
  rw [Ww,List.countP_cons,z65 bs,List.count_cons]
  cases b <;> rfl
def zdr (K:W3):V→List V→Hp→VK→Prop:=fun x xs H Q=>∃ (a:Addr) (bs:List Bool),x = .ref a∧xs=[.bl true]∧SqL K H a (bs.map V.bl)∧Q (.int (bs.count true:Nat)) H
def zdp (K:W3):V→List V→Hp→VK→Prop:=fun x xs H Q=>∃ (a:Addr) (bs:List Bool),x = .ref a∧xs=[.bl true]∧SqL K H a (bs.map V.bl)∧true ∈ bs∧bs.length≤1000∧Q (.int (bs.idxOf true:Nat)) H
section
variable {X:Cx}
theorem zcY:MtR X "list.count" (zdr X.K):=by
 intro pins s σ H x xs v us Q I rx rs h
 obtain ⟨a,bs,rfl,rfl,hq,q⟩:=h
 obtain ⟨u,rfl,ru⟩:=z6c rs
 cases ru
 cases rx
 obtain ⟨its,r',p,_⟩:=I.list hq
 obtain rfl:=z6O r'
 obtain ⟨⟨cls,dd,data,sl⟩,ho,hc,n,hd⟩:=p.isList
 simp only at hc hd
 subst hc; subst hd
 refine QW PySem.F.slot_list_count ⟨_,ho,rfl⟩ PySem.F.entry_list_count (PySem.F.args_list_count_2 _ _) (list_countAt a _ n dd sl (.bool true) z5X) ⟨ho,fun y hy=>?_,?_⟩
 ·have hy':y ∈ bs.map Value.bool:=by simpa using hy
  obtain ⟨b,_,rfl⟩:=WE.mp hy'
  have:=EqAt.bool_bool (A:=X.A.in1) (s:=s) b true
  cases b <;> exact this
 ·rw [show (bs.map Value.bool).toArray.toList=bs.map Value.bool from rfl,z65]
  exact ⟨.int (bs.count true:Nat),H,I.tok _,⟨_,rfl⟩,q⟩
theorem zcX:MtR X "list.index" (zdp X.K):=by
 intro pins s σ H x xs v us Q I rx rs h
 obtain ⟨a,bs,rfl,rfl,hq,hm,hl,q⟩:=h
 obtain ⟨u,rfl,ru⟩:=z6c rs
 cases ru
 cases rx
 obtain ⟨its,r',p,_⟩:=I.list hq
 obtain rfl:=z6O r'
 obtain ⟨⟨cls,dd,data,sl⟩,ho,hc,n,hd⟩:=p.isList
 simp only at hc hd
 subst hc; subst hd
 have hj:bs.idxOf true < bs.length:=List.idxOf_lt_length_iff.mpr hm
 refine QW PySem.F.slot_list_index ⟨_,ho,rfl⟩ PySem.F.entry_list_index (PySem.F.args_list_index_2 _ _) (list_indexAt a _ n dd sl (.bool true) z5X (bs.idxOf true) (by simpa using hj) (by omega) ?_ ?_) ⟨ho,fun y hy=>?_,⟨.int (bs.idxOf true:Nat),H,I.tok _,⟨_,rfl⟩,q⟩⟩
 ·have:=List.getElem_idxOf hj
  simp [z5X,this]
 ·intro m hm' hlt
  have hm2:m < bs.length:=by simpa using hm'
  have:bs[m]≠true:=fun z=>by
   have z2:=List.not_of_lt_findIdx (p:=(· == true)) (xs:=bs) (i:=m) hlt
   rw [z] at z2
   cases z2
  simp [z5X,this]
 ·have hy':y ∈ bs.map Value.bool:=by simpa using hy
  obtain ⟨b,_,rfl⟩:=WE.mp hy'
  have:=EqAt.bool_bool (A:=X.A.in1) (s:=s) b true
  cases b <;> exact this
end
end L2
namespace DV
open PySem PySem.Spec PyProof.Rows L2
def z5J:D→Option S
 | .lst ds=>(z4I ds).map fun bs=>.pure (.int (bs.count true:Nat))
 | _=>none
def z43:D→Option S
 | .lst ds=>match z4I ds with
  | some bs=>if true ∈ bs∧bs.length≤1000 then some (.pure (.int (bs.idxOf true:Nat))) else none
  | none=>none
 | _=>none
section
variable {X:Cx} {c:Fc} {e:Expr} {fb:BE}
theorem zcU {K:W3}:Op1 (fun x H Q=>tyV K "list" x H∧zdr K x [.bl true] H Q) z5J:=by
 intro c σ δ H x d s Q k rx hp q
 cases d with
 | lst ds =>
  simp only [z5J] at hp
  cases e:z4I ds with
  | none=>rw [e] at hp; cases hp
  | some bs =>
   rw [e] at hp
   cases hp
   obtain ⟨a,vs,ea,ha,ra⟩:=rx.lst
   obtain rfl:=z3C e ra
   subst ea
   exact ⟨.inl ⟨rfl,_,.inl ha⟩,a,bs,rfl,rfl,.inl ha,q _ H (.refl k) (.int _)⟩
 | _=>simp [z5J] at hp
theorem zcT {K:W3}:Op1 (fun x H Q=>tyV K "list" x H∧zdp K x [.bl true] H Q) z43:=by
 intro c σ δ H x d s Q k rx hp q
 cases d with
 | lst ds =>
  simp only [z43] at hp
  cases e:z4I ds with
  | none=>rw [e] at hp; cases hp
  | some bs =>
   rw [e] at hp
   simp only at hp
   split at hp
   ·rename_i hz
    cases hp
    obtain ⟨a,vs,ea,ha,ra⟩:=rx.lst
    obtain rfl:=z3C e ra
    subst ea
    exact ⟨.inl ⟨rfl,_,.inl ha⟩,a,bs,rfl,rfl,.inl ha,hz.1,hz.2,q _ H (.refl k) (.int _)⟩
   ·cases hp
 | _=>simp [z43] at hp
theorem zcp {j} {p0 apos cpos:Pos} (he:SB X c e fb)
  (hbase:Qz e "count" X.env (eval e X.env)=eval e X.env:=by rfl)
  (hfew:((WU cpos (W7 [.Constant (.bool true) j p0] X.env)).all (fun x=>!x.1) && (backToKw cpos (Jg [] X.env)).all (fun x=>x.1.isSome)
   && decide ([Expr.Constant (.bool true) j p0].length + ([]:List Keyword).length + (if ([]:List Keyword).isEmpty then 0 else 1) < 30))=true:=by rfl)
  (hline:(apos.endLine == cpos.line)=true:=by rfl) (hs:W7 [.Constant (.bool true) j p0] X.env=(false,eval (.Constant (.bool true) j p0) X.env) :: W7 [] X.env:=by rfl) :
  SE X c (.Call (.Attribute e "count" apos) [.Constant (.bool true) j p0] [] cpos) (eC1 z5J fb):=by
 refine PE.weak (zcK PySem.F.plainAttrs_list PySem.F.slot_list_count PySem.F.type_list_count zcY he (z0U zeo z2d hs) hbase hfew hline hs rfl) fun σ H Q h=>?_
 obtain ⟨δ,k,q⟩:=z3Q (zcU (K:=X.K)) h
 exact ⟨δ,k,z02 q fun y δ1 q1 v H1 a1 r1=>q1 v H1 a1 r1⟩
theorem zcn {j} {p0 apos cpos:Pos} (he:SB X c e fb)
  (hbase:Qz e "index" X.env (eval e X.env)=eval e X.env:=by rfl)
  (hfew:((WU cpos (W7 [.Constant (.bool true) j p0] X.env)).all (fun x=>!x.1) && (backToKw cpos (Jg [] X.env)).all (fun x=>x.1.isSome)
   && decide ([Expr.Constant (.bool true) j p0].length + ([]:List Keyword).length + (if ([]:List Keyword).isEmpty then 0 else 1) < 30))=true:=by rfl)
  (hline:(apos.endLine == cpos.line)=true:=by rfl) (hs:W7 [.Constant (.bool true) j p0] X.env=(false,eval (.Constant (.bool true) j p0) X.env) :: W7 [] X.env:=by rfl) :
  SE X c (.Call (.Attribute e "index" apos) [.Constant (.bool true) j p0] [] cpos) (eC1 z43 fb):=by
 refine PE.weak (zcK PySem.F.plainAttrs_list PySem.F.slot_list_index PySem.F.type_list_index zcX he (z0U zeo z2d hs) hbase hfew hline hs rfl) fun σ H Q h=>?_
 obtain ⟨δ,k,q⟩:=z3Q (zcT (K:=X.K)) h
 exact ⟨δ,k,z02 q fun y δ1 q1 v H1 a1 r1=>q1 v H1 a1 r1⟩
end
theorem SS.nox {X:Cx} {c:Fc} {st:Stmt} {f:DS} (h:SS X.nox c st f):SS X c st f:=fun pins s σ H D I hw =>
 WJ (h pins s σ H D (I.wish _) hw) (fun _ _ q=>q.unwish) fun _ _ z=>False.elim z
theorem z69:Q6 "ValueError" = some (.type "ValueError"):=by decide +kernel
def ceOf:List (Tx×Nat)→Tx→Nat
 | [],_=>0
 | p :: r,x=>bif p.1 == x then p.2 else ceOf r x
end DV
namespace L2
open PySem PySem.Spec PyProof.Rows
section
variable {X:Cx}
end
end L2
namespace DV
open PySem PySem.Spec PyProof.Rows L2
end DV
namespace PySem
open Sem (wp)
structure ZA (z TI TO i1 i2:Addr) (f1 f2:List Addr):Prop where
 m1:i1 ∈ f1
 m2:i2 ∈ f2
 z1:z ∉ f1
 z2:z ∉ f2
 t1:TO ∉ f1
 t2:TO ∉ f2
 k1:i1 ∉ f2
 k2:i2 ∉ f1
 tz:TO≠z
 iz:TI≠z
 io:TI≠TO
 n1:TI≠i1
 n2:TI≠i2
section
variable {prog:Wm} {w:Ws} {A:Wq} {E:Value→W5→Prop} {s:W5}
end
def IsB (b:Bool) (h:Heap) (a:Addr) (its:Array Value):Prop:=match b with
 | true=>h.IsList a its
 | false=>h.IsTuple a its
theorem IsB.lt (q:IsB b h a its):a < h.objs.size:=by
 cases b
 ·obtain ⟨o,e,_⟩:=(q:h.IsTuple a its); exact Wn e
 ·obtain ⟨o,e,_⟩:=(q:h.IsList a its); exact Wn e
theorem IsB.push (q:IsB b h a its) (o:Obj):IsB b (h.push o) a its:=by
 cases b
 ·obtain ⟨o,e,r⟩:=(q:h.IsTuple a its); exact ⟨o,Wa _ e,r⟩
 ·obtain ⟨o,e,r⟩:=(q:h.IsList a its); exact ⟨o,Wa _ e,r⟩
end PySem
namespace L2
open PySem PySem.Spec PyProof.Rows
section
variable {X:Cx} {pins:List (Addr×Obj)} {σ:St} {H:Hp} {s:W5} {h':Heap}
end
end L2
namespace DV
open PySem PySem.Spec PyProof.Rows L2
section
variable {X:Cx} {c:Fc} {tg e:Expr} {fe:DE} {pos pp:Pos}
theorem Reps.two (r:Rep H O u x) (r':Rep H O v y):Reps H O [u,v] [x,y]:=by
 refine ⟨rfl,fun j v' d' e1 e2=>?_⟩
 match j with
 | 0=>simp at e1 e2; subst e1 e2; exact r
 | 1=>simp at e1 e2; subst e1 e2; exact r'
 | j + 2=>simp at e1
end
def z2t (G:DX) (as:List Ak):DE:=fun δ=>if (ios as).all (z0s δ) && ndup (ios as) then (evX as δ).bind fun ds δ1=>match mkA as ds δ1 with
  | none=>.stuck
  | some ss=>match G ss with
   | some (.inl (r,outs))=>.ok r (putA as outs δ1)
   | _=>.stuck
 else .stuck
section
variable {X:Cx} {c:Fc} {e:Expr} {es:List Expr} {as:List Ak} {k n:Nat} {x:Str} {G:DX} {pp pos:Pos}
theorem zak (hK:z57 G) (hl:as.length=n) (h:tD c (z2t G as) σ H Q):tX c as σ H fun vs H1=>spX X.mg n G vs H1 Q (fun c' _ H'=>∃ C,c' = .ref C∧False):=by
 obtain ⟨δ,kk,q⟩:=h
 unfold z2t at q
 split at q
 ·rename_i hc
  rw [Wk] at hc
  have nd:=z3E hc.2
  rw [z08] at q
  refine ⟨δ,kk,fun i hi=>?_,z02 q fun ds δ1 q1 vs H1 a1 r1=>?_⟩
  ·have:=Qh.mp hc.1 i (ios_mem.mpr hi)
   unfold z0s at this
   split at this
   ·rename_i d ed
    exact z2P kk ed
   ·cases this
  ·cases em:mkA as ds δ1 with
   | none=>rw [em] at q1; exact q1.elim
   | some ss =>
    rw [em] at q1
    simp only at q1
    cases eg:G ss with
    | none=>rw [eg] at q1; exact q1.elim
    | some y =>
     rw [eg] at q1
     have hin:=z8T a1.ok r1 em nd
     obtain ⟨m1,m2,_⟩:=z7R r1 em
     have g2:=hK ss y eg
     cases y with
     | inl y =>
      refine ⟨ss,_,by rw [← m2]; exact hl,hin,.inl y,eg,?_⟩
      obtain ⟨r,outs⟩:=y
      intro v H2 a2 r2
      obtain ⟨o1,o2⟩:=z5v a1.ok r1 em nd rfl a2 (fun j d ed=>(g2 j).1 d ed) fun j d ed=>(g2 j).2 d ed
      exact q1 v H2 (a1.trans o1) (RepS.back (o2 v r r2) a1)
     | inr y=>exact q1.elim
 ·exact q.elim
theorem z5m (F:KFnX X.prog X.w X.K X.mg X.base k x n G) (hK:z57 G) (hr:Room k X.A) (hex:X.ex=[]) (hg:Gl X x) (ha:SX X c (e :: es) as) (hl:as.length=n) (hdb:(x == ("__debug__" : Str))=false:=by decide)
  (he:W7 (e :: es) X.env=(false,eval e X.env) :: W7 es X.env:=by rfl) (hpl:(WU pos (W7 es X.env)).any (·.1)=false:=by rfl):SE X c (.Call (.Name x pp) (e :: es) [] pos) (z2t G as):=by
 obtain ⟨f,fd,ps,hm,hk,hb,ok⟩:=F
 exact PE.weak (z9j (W:=fun _ _ _=>False) ok hr hex hg hm hk hb (fun _ _ _ _ _ _ _ _ h=>h.elim) ha hdb he hpl) fun σ H Q h=>zak hK hl h
end
end DV
namespace PySem
open Sem (wp)
section
variable {prog:Wm} {w:Ws} {A:Wq} {E:Value→W5→Prop} {hp:Heap} {g:Array GenState} {d:Drawn} {t:Nat} {os:OsState}
variable {nm qn:Str} {C N:Addr} {bs bm bmB:List Value} {hdct:Bool} {sn:List Str} {sub:List Value} {ab:Bool} {col:Option Bool} {dd:Option Addr} {k0 k1 k2 k3 k5:Option Value} {B newId initId:String}
theorem z9R (F:ExcBaseFacts B newId initId bmB) (T:OwnTail hp bmB bm)
  (hC:hp.get? C=some (excClassObj nm qn C N bs bm hdct sn sub ab col dd k0 k1 k2 k3 k5 newId)) (hN:hp.Ns N mN) (hi:mN "__init__" = some (.ref f)) (hf:hp.get? f=some o) (hfc:o.cls = .type "function")
  (q:∀ h' e,Heap.MadeExcOf hp h' e (.ref C) vs→We (model prog w) A (call (.ref f) (.ref e :: vs)) (fun r s'=>r = .none∧Q (.done (.ret (.ref e))) s') E ⟨h',g,d,t,os⟩) (hl:vs.length≤W6) :
  We (model prog w) A (Builtin.«type.__call__» ⟨.ref C :: vs,[]⟩) Q E ⟨hp,g,d,t,os⟩:=by
 repeat (first | with_reducible refine Qb hC ?_ | with_reducible refine wpAny_madeBy_exc hC ?_ | wp_step)
 refine codeAny_call_builtin_code (Code.quiet_builtin _ F.quiet) (wpAny_check_new_subT F T hC (codeAny_exc_new_subT F T hC ?_ hl))
 show We _ _ _ _ _ _
 have up:∀ {o1 o2:Obj} {b:Addr} {u:Obj},hp.get? b=some u→((hp.push o1).push o2).get? b=some u:=fun e=>Wa _ (Wa _ e)
 have hC1:=up (o1:={ cls:=.type "tuple",data:=.seq vs.toArray }) (o2:={ cls:=.ref C,data:=.fields #[.ref hp.objs.size,.none,.none,.none,.bool false,.none] }) hC
 have hf1:=up (o1:={ cls:=.type "tuple",data:=.seq vs.toArray }) (o2:={ cls:=.ref C,data:=.fields #[.ref hp.objs.size,.none,.none,.none,.bool false,.none] }) hf
 have hN1:((hp.push { cls:=.type "tuple",data:=.seq vs.toArray }).push { cls:=.ref C,data:=.fields #[.ref hp.objs.size,.none,.none,.none,.bool false,.none] }).Ns N mN:=let ⟨o,es,ep,e,r⟩:=hN; ⟨o,es,ep,up e,r⟩
 have he:((hp.push { cls:=.type "tuple",data:=.seq vs.toArray }).push { cls:=.ref C,data:=.fields #[.ref hp.objs.size,.none,.none,.none,.bool false,.none] }).get? (hp.objs.size + 1)=some { cls:=.ref C,data:=.fields #[.ref hp.objs.size,.none,.none,.none,.bool false,.none] }:=by heap_get
 have hc:(Value.ref C :: bm).contains (.ref C)=true:=by simp
 have T1:=T.keeps (h':=(hp.push { cls:=.type "tuple",data:=.seq vs.toArray }).push { cls:=.ref C,data:=.fields #[.ref hp.objs.size,.none,.none,.none,.bool false,.none] }) fun b o e=>up e
 unfold isInstance
 repeat (first | with_reducible refine Qb he ?_ | (with_reducible refine wpAny_isSubtype_exc hC1 ?_; rw [hc]) | wp_step)
 show We _ _ (typeLookup (.ref C) _) _ _ _
 refine wpAny_typeLookup_tail hC1 hN1 T1 F.mroIs F.init.lookup ?_
 rw [hi]
 refine Q7 (W4 ?_)
 unfold bindSpecial
 refine W4 (QQ (T:="function") ⟨_,hf1,hfc⟩ ?_)
 rw [if_pos (by decide)]
 refine Wc (W4 (WJ (q _ (hp.objs.size + 1) ⟨fun b o hb=>up hb,Heap.get?_none_of_le (Nat.le_succ _),hp.objs.size,he,Heap.get?_none_of_le (Wh _),Wa _ (Heap.get?_push_at rfl rfl)⟩) (fun r s' hr=>?_) fun _ _ x=>x))
 obtain ⟨rfl,hQ⟩:=hr
 wp_walk
 exact hQ
theorem zc6 (F:ExcBaseFacts B newId initId bmB) (T:OwnTail hp bmB bm)
  (hC:hp.get? C=some (excClassObj nm qn C N bs bm hdct sn sub ab col dd k0 k1 k2 k3 k5 newId)) (hN:hp.Ns N mN) (hi:mN "__init__" = some (.ref f)) (hf:hp.get? f=some o) (hfc:o.cls = .type "function")
  (q:∀ h' e,Heap.MadeExcOf hp h' e (.ref C) vs→We (model prog w) (A.under (.builtin "type.__call__" ⟨.ref C :: vs,[]⟩)) (call (.ref f) (.ref e :: vs)) (fun r s'=>r = .none∧Q (.ref e) s') E ⟨h',g,d,t,os⟩) (hl:vs.length≤W6) :
  We (model prog w) A (call (.ref C) vs) Q E ⟨hp,g,d,t,os⟩:=by
 have f1:=tc_lookup
 have f2:=tc_bind (.ref C)
 have hT:(⟨hp,g,d,t,os⟩:W5).TypeIs (.ref C) "type":=⟨_,hC,rfl⟩
 refine wpAny_call (codeAny_of_tree ?_); show We _ _ (callAny (.ref C) _) _ _ _
 repeat (any_goals (first | assumption | with_reducible refine Qb hC ?_ | wp_step))
 exact ⟨rfl,codeAny_call_builtin_at (Code.quiet_builtin _ (by decide +kernel)) entry_typeCall (wpAny_check_type_call_sub hC (z9R F T hC hN hi hf hfc (fun h' e hm=>q h' e hm) hl))⟩
theorem zct (hh:A.handled=none)
  (h:We M A x (fun v s1=>∃ (e C N:Addr) (dx:Option Addr) (vs:Array Value) (sl:Array (Option Value)) (nm qn:Str) (bs bm:List Value) (hdct:Bool) (sn:List Str) (sub:List Value) (ab:Bool) (col:Option Bool) (dd:Option Addr) (k0 k1 k2 k3 k5:Option Value) (newId:String),
   v = .ref e∧bm.contains (.type "BaseException")=true∧s1.heap.get? C=some (excClassObj nm qn C N bs bm hdct sn sub ab col dd k0 k1 k2 k3 k5 newId)∧s1.heap.get? e=some ⟨.ref C,dx,.fields vs,sl⟩∧vs[1]? = some .none∧E (.ref e) s1) E s) :
  We M A (raiseStmt env (some x) none) Q E s:=by
 unfold raiseStmt
 refine W4 (WJ h (fun v s1 h1=>?_) fun _ _ x=>x)
 obtain ⟨e,C,N,dx,vs,sl,nm,qn,bs,bm,hdct,sn,sub,ab,col,dd,k0,k1,k2,k3,k5,newId,rfl,hb,hC,he,hv,hE⟩:=h1
 have hc:(Value.ref C :: bm).contains (.type "BaseException")=true:=by rw [Js,hb,Bool.or_true]
 obtain ⟨hp,g,d,tk,os⟩:=s1
 repeat (first | with_reducible refine Qb he ?_ | with_reducible refine Qb hC ?_ | (with_reducible refine wpAny_isSubtype_exc hC ?_; rw [hc]) | wp_step)
 rw [hv]
 repeat (first | wp_step)
 exact wpAny_raiseNew_none hh hE
end
end PySem
namespace L2
open PySem PySem.Spec PyProof.Rows PySem.W PySem.Builtin PySem.Builtin.ObjectAttr
def zcN:List Value→Bool
 | .ref _ :: r=>zcN r
 | l=>l == vErr
theorem z4R (self:Value):∀ {l:List Value},zcN l=true→refuseLoop self "__setattr__" l=pure ()
 | [],e=>by cases e
 | .ref c :: r,e=>by rw [refuseLoop_ref]; exact z4R self e
 | .none :: r,e=>by cases e
 | .type n :: r,e=>by
  have:(Value.type n :: r)=vErr:=beq_iff_eq.mp e
  rw [this]; exact PySem.F.store_ValueError.passes self
 | .bool b :: r,e=>by cases (beq_iff_eq.mp (show ((Value.bool b :: r) == vErr)=true from e))
 | v :: r,e=>by
  cases v <;> first
   | (rw [refuseLoop_ref]; exact z4R self e)
   | (rw [show _=vErr from beq_iff_eq.mp e]; exact PySem.F.store_ValueError.passes self)
theorem z7G:∀ {l:List Value},zcN l=true→l.contains (.type "object")=true
 | [],e=>by cases e
 | v :: r,e=>by
  cases v <;> first
   | (rw [Js,z7G (l:=r) e,Bool.or_true])
   | (rw [show _=vErr from beq_iff_eq.mp e]; decide)
def z9l (K:W3) (C:Addr):Bool:=(clsIn K C).any fun cd=>zcN cd.mro
section
variable {prog:Wm} {w:Ws} {A:Wq} {E:Value→W5→Prop} {s:W5} {K:W3} {x C:Addr} {name:Str} {v:Value} {R:Result→W5→Prop}
theorem zeq (X:K.In s.heap) (I:InstAt s.heap x ox C od) (hp:z9l K C=true) (ht:takerIn K C name=some none)
  (q:∀ b,We (model prog w) A.in1 (storeInOwnDict (.ref x) (.ref C) (.str name tk) name v b) (fun fin s'=>match fin with | .done f=>R (.ok f) s' | .again c'=>c'.quiet=true∧QC (model prog w) A c' R s') (fun e s'=>R (.error e) s') s) :
  QC (model prog w) A (.call (.builtin "object.__setattr__") ⟨[.ref x,.str name tk,v],[]⟩) R s:=by
 have SF:=PySem.F.store_object
 obtain ⟨cd,hc,ho⟩:=any_some hp
 have ne:cd.mro.isEmpty=false:=by
  cases z:cd.mro with
  | nil=>rw [z] at ho; cases ho
  | cons _ _=>rfl
 have sub:Looks (model prog w) s.heap (isInstance (.ref x) (.type "object")) true:=I.type.andThen (looks_mroIn X (by unfold mroIn; rw [hc,WD,if_neg (by rw [ne]; decide),z7G ho]))
 refine codeAny_call_builtin SF.slot.plain SF.entry (@check_slot (model prog w) _ _ s "object.__setattr__" "object" "__setattr__" (.ref x) [.str name tk,v] [] _ SF.kind SF.split sub (SF.args (.ref x) (.str name tk) v) ?_)
 obtain ⟨attr,ha,hr⟩:=Option.bind_eq_some_iff.mp ht
 have hm:Looks (model prog w) s.heap (mroOf (.ref C)) cd.mro:=(looks_clsIn X hc).andThen .now
 have L3:Looks (model prog w) s.heap (storeTaker? attr) none:=by
  cases attr with
  | none=>exact .now
  | some a =>
   obtain ⟨b,hb,hn⟩:=Option.map_eq_some_iff.mp hr
   refine (looks_takesIn X hb).andThen ?_
   cases b
   ·exact .now
   ·cases hn
 rw [osa_eq,refuse_eq]
 refine W4 (W4 (I.type.here (W4 (hm.here ?_))))
 rw [z4R _ ho]
 exact Wc (W4 (I.type.here (W4 ((looks_findIn X ha).here (W4 (L3.here (q _)))))))
theorem zdZ (X:K.In s.heap) (hx:s.heap.get? x=some ⟨.ref C,none,.fields vs,sl⟩)
  (hs:J3 K (.ref C) "__setattr__" = some (some (.builtin "object.__setattr__"))) (hp:z9l K C=true) (ht:takerIn K C name=some none) (hh:hasDictIn K C=true)
  (q:∀ h' tk,h'.get? x=some ⟨.ref C,some s.heap.objs.size,.fields vs,sl⟩→(∀ b o,b≠x→s.heap.get? b=some o→h'.get? b=some o)→Q () { s with heap:=h',toks:=tk }) :
  We (model prog w) A (setAttr (.ref x) name v) Q E s:=by
 have J:InstAt s.heap x ⟨.ref C,none,.fields vs,sl⟩ C none:=⟨hx,rfl,rfl,trivial⟩
 refine set_plain X J hs (zeq (s:={ s with toks:=s.toks + 1 }) X J hp ht fun b=>?_)
 obtain ⟨cd,hc,hd'⟩:=any_some hh
 have hx1:(s.heap.push { cls:=.type "dict",data:=.dict #[] }).get? x=some ⟨.ref C,none,.fields vs,sl⟩:=Wa _ hx
 have hxs:x≠s.heap.objs.size:=WT (Wn hx)
 refine W4 (Wc (W4 (W4 (wpAny_loadPart hx (W4 (PySem.W.Looks.here (s:={ s with toks:=s.toks + 1 }) (PySem.W.looks_clsIn X hc) ?_))))))
 rw [hd']
 show We _ _ (alloc { cls:=.type "dict",data:=.dict #[] } >>= fun d=>(update x fun o=>{ cls:=o.cls,dict:=some d,data:=o.data,slots:=o.slots }) >>= fun _=>dictMade (.ref C) x d) _ _ _
 refine W4 (wpAny_alloc' (W4 (wpAny_update' hx1 (Wc ?_))))
 have gd:((s.heap.push { cls:=.type "dict",data:=.dict #[] }).update x fun o=>{ cls:=o.cls,dict:=some s.heap.objs.size,data:=o.data,slots:=o.slots }).get? s.heap.objs.size=some { cls:=.type "dict",data:=.dict #[] }:=(Heap.get?_update_ne _ _ _ _ hxs.symm).trans (Heap.get?_push_at rfl rfl)
 have nd:((s.heap.push { cls:=.type "dict",data:=.dict #[] }).update x fun o=>{ cls:=o.cls,dict:=some s.heap.objs.size,data:=o.data,slots:=o.slots }).Ns s.heap.objs.size (fun _=>none):=⟨_,#[],_,gd,rfl,fun e he=>absurd he (by simp),fun _=>rfl⟩
 show We _ _ (storeInDict s.heap.objs.size (.str name _) name v) _ _ _
 unfold storeInDict newKeyGuard
 refine W4 (Wc (W4 (wpAny_nsSet1 (Heap.Ns1.of_empty nd) fun h' hn' sb=>?_)))
 obtain ⟨oD,esD,epD,hoD,hdD,hcD⟩:=hn'.count (Within.cons name v Within.nil)
 refine W4 (wpAny_lookBehind hoD (by rw [hdD]; exact pastItsLine_dict (WG hcD (by rw [WN,List.length_nil,sizeLine_eq]; omega))) ?_)
 refine Wc (q h' _ ((sb.2 x hxs).trans (Heap.get?_update_self _ hx1 rfl)) fun b o hb e=>?_)
 exact (sb.2 b (WT (Wn e))).trans ((Heap.get?_update_ne _ _ _ _ hb).trans (Wa _ e))
end
def excN (C a:Addr):Heap→Prop:=fun h=>∃ vs sl a0,h.get? a=some ⟨.ref C,none,.fields vs,sl⟩∧vs[0]? = some a0∧vs[1]? = some .none
def excD (C a:Addr):Heap→Prop:=fun h=>∃ dx vs sl a0,h.get? a=some ⟨.ref C,dx,.fields vs,sl⟩∧vs[0]? = some a0∧vs[1]? = some .none
section
variable {P:Wm} {w:Ws} {H:Hp} {h:Heap} {C a:Addr}
theorem zeN (q:excN C a h):ObjOk P w H h a (.ext (excN C a)):=by
 refine ⟨q,?_,?_⟩
 ·obtain ⟨vs,sl,a0,e,_⟩:=q
  exact ⟨_,e⟩
 ·rintro h1 h2 ⟨vs,sl,a0,e,r⟩ k
  exact ⟨vs,sl,a0,k _ e,r⟩
theorem zeO (q:excD C a h):ObjOk P w H h a (.ext (excD C a)):=by
 refine ⟨q,?_,?_⟩
 ·obtain ⟨dx,vs,sl,a0,e,_⟩:=q
  exact ⟨_,e⟩
 ·rintro h1 h2 ⟨dx,vs,sl,a0,e,r⟩ k
  exact ⟨dx,vs,sl,a0,k _ e,r⟩
end
structure ExcS (K:W3) (C:Addr) (f:Str):Prop where
 set:J3 K (.ref C) "__setattr__" = some (some (.builtin "object.__setattr__"))
 over:z9l K C=true
 hd:hasDictIn K C=true
 tk:takerIn K C f=some none
section
variable {X:Cx} {o value:Expr} {f:Str} {ta tv:TE} {pos pos':Pos}
def zfm (K:W3) (ta tv:TE) (f:Str):TS:=fun D σ H=>tv σ H fun y H1=>ta σ H1 fun x H2=>∃ a C,x = .ref a∧H2 a=some (.ext (excN C a))∧ExcS K C f∧D.nx σ (upd H2 a (.ext (excD C a)))
theorem zeh (ha:PE X o ta) (hv:PE X value tv) (hs:J5 value (some (.Attribute o f pos')) pos.line X.env=pure false):PS X (.Assign [.Attribute o f pos'] value pos) (zfm X.K ta tv f):=by
 intro pins s σ H D I h
 refine plainObj_wpAny_Assign_Attribute (thn (hv pins s σ H _ I h) fun u s1 ⟨y,H1,I1,ry,q⟩=>thn (ha pins s1 σ H1 _ I1 q) fun ov s2 ⟨x,H2,I2,rx,a,C,ex,ea,c,q2⟩=>?_) hs
 subst ex
 obtain rfl:ov=Value.ref a:=rx
 obtain ⟨⟨vs,sl,a0,e0,e1,e2⟩,_,_⟩:=(show ObjOk X.prog X.w H2 s2.heap a (.ext (excN C a)) from I2.hok a _ ea)
 refine zdZ I2.kIn e0 c.set c.over c.tk c.hd fun h' tk g1 g2=>⟨σ,_,?_,q2⟩
 exact I2.write (x:=a) (e:=a) (t':=tk) (by rw [ea]; exact True.intro) (.inl rfl) (fun b u nb z=>g2 b u nb z) ⟨_,g1⟩ (zeO ⟨_,vs,sl,a0,g1,e1,e2⟩)
end
def excI (K:W3) (C f:Addr):Bool:=match K.lookup C with
 | some ⟨.type "type",_,.cls c,ss⟩=>(match c.mro,ss.toList with
  | .ref C' :: bm,[_,_,_,_,some (.builtin n),_]=>C' == C && n == "ValueError.__new__" && !c.hasDel && tailIn K vErr bm && nsOkIn K c.ns && nsIn K c.ns "__init__" == some (some (.ref f))
  | _,_=>false)
 | _=>false
theorem zew {K:W3} {h:Heap} {N:Addr} {m:Str→Option Value} {n:Str} {v:Value} (X:K.In h) (G:h.Ns N m) (e:nsIn K N n=some (some v)):m n=some v:=by
 obtain ⟨o,es,ep,ho,hd,_,hf⟩:=G
 unfold nsIn at e
 split at e
 next c d es' n' sl q =>
  have z:=X _ _ q
  rw [ho] at z
  cases z
  simp only at hd
  injection hd with h1 h2
  subst h1
  split at e
  next x hx =>
   cases e
   rw [← hf n]
   unfold nsFind findBy
   rw [← Array.find?_toList,hx]
   rfl
  next=>split at e <;> cases e
 next=>cases e
theorem z9F {K:W3} {C f:Addr} {h:Heap} (q:excI K C f=true) (X:K.In h):∃ (bm:List Value) (N:Addr) (nm qn:Str) (bs:List Value) (hdct:Bool) (sn:List Str) (sub:List Value) (ab:Bool) (col:Option Bool) (dd:Option Addr) (k0 k1 k2 k3 k5:Option Value) (mN:Str→Option Value),
  h.get? C=some (excClassObj nm qn C N bs bm hdct sn sub ab col dd k0 k1 k2 k3 k5 "ValueError.__new__")∧h.Ns N mN∧mN "__init__" = some (.ref f)∧OwnTail h vErr bm:=by
 unfold excI at q
 split at q
 next dd cd sl lk =>
  split at q
  next C' bm k0 k1 k2 k3 n k5 e1 e2 =>
   simp only [Wk,beq_iff_eq,JA] at q
   obtain ⟨⟨⟨⟨⟨c1,c2⟩,c3⟩,c4⟩,c5⟩,c6⟩:=q
   subst c1; subst c2
   have e3:sl = #[k0,k1,k2,k3,some (.builtin "ValueError.__new__"),k5]:=by
    cases sl; simp only at e2; rw [e2]
   subst e3
   cases cd
   simp only at e1 c3 c4 c5 c6 lk
   subst e1; subst c3
   have hN:=Heap.Ns.of_isNs (isNs_of_in X c5)
   exact ⟨bm,_,_,_,_,_,_,_,_,_,dd,k0,k1,k2,k3,k5,_,X _ _ lk,hN,zew X hN c6,tail_of_in X c4⟩
  next=>cases q
 next=>cases q
section
variable {X:Cx} {k:Nat} {f C:Addr} {fd:WC} {ps:List Str} {sp:Sp} {x:Str} {p pos:Pos} {e:Expr} {es:List Expr} {t:TA}
theorem fn_at {K:W3} {h:Heap} (X:K.In h) (q:isFn K (.ref f)=true):∃ o,h.get? f=some o∧o.cls = .type "function":=by
 have z:(K.lookup f).map (·.cls)=some (.type "function"):=beq_iff_eq.mp q
 obtain ⟨o,lk,e⟩:=Option.map_eq_some_iff.mp z
 exact ⟨o,X _ _ lk,e⟩
theorem zaO {pins:List (Addr×Obj)} {σ:St} {H:Hp} {s:W5} {Q:VK} {us:List Value} {vs:List V} (q:excI X.K C f=true) (hfn:isFn X.K (.ref f)=true) (F:FnOk X.prog X.w X.K X.mg X.base CX0 k f fd ps sp) (hr:Room (k + 1) X.A) (hb:Binds X.K fd ps []) (hex:X.ex=[])
  (I:Inv X pins σ H s) (r:Vals vs us) (hl:us.length≤W6)
  (h:∀ a,H a=none→X.s₀.heap.get? a=none→sp (.ref a :: vs) (upd H a (.ext (excN C a))) (fun v H2=>v = .non∧Q (.ref a) H2) E0) :
  We (model X.prog X.w) X.A (call (.ref C) us) (EP X pins σ Q) X.xe s:=by
 obtain ⟨bm,N,nm,qn,bs,hdct,sn,sub,ab,col,dd,k0,k1,k2,k3,k5,mN,hC,hN,hi,hT⟩:=z9F q I.kIn
 obtain ⟨o,hf,hfc⟩:=fn_at I.kIn hfn
 obtain ⟨hp,g,d,tk,os⟩:=s
 refine zc6 PySem.F.excBase_ValueError hT hC hN hi hf hfc (fun h' a hm=>?_) hl
 obtain ⟨t0,ht,_,_⟩:=hm.there
 have I1:Inv X pins σ H ⟨h',g,d,tk,os⟩:=I.kept (t':=tk) hm.keeps
 have g1:=I.gone hex hm.new
 have ap:=I.apart hex hm.new g1.1
 have I2:Inv X pins σ (upd H a (.ext (excN C a))) ⟨h',g,d,tk,os⟩:=I1.track ap (zeN ⟨_,_,_,ht,rfl,rfl⟩)
 have hq:=h a g1.1 g1.2
 have r2:Vals (V.ref a :: vs) (Value.ref a :: us):=.cons rfl r
 have hln:(Value.ref a :: us ++ []).length=ps.length:=by
  rw [WP,← r2.length]; exact F.len _ _ _ _ hq
 refine wpAny_call (Jo (F.run _ X.stack _ _ ⟨Value.ref a :: us,[]⟩ (Value.ref a :: us) _ _ E0 (hr.make C us []) (I2.env0.make C us []) (by have:=hb _ (Value.ref a :: us) I2.kIn hln; rwa [WP] at this) r2 hq) fun rr s' hq'=>?_)
 cases rr with
 | error z=>exact hq'.elim
 | ok fl =>
  cases fl with
  | ret u =>
   obtain ⟨v,H',I3,rv,ev,q3⟩:=I2.after hq'
   subst ev
   exact ⟨rv,⟨V.ref a,H',I3,rfl,q3⟩⟩
  | next=>exact False.elim hq'
  | brk=>exact False.elim hq'
  | cont=>exact False.elim hq'
theorem zcG (q:excI X.K C f=true) (hfn:isFn X.K (.ref f)=true) (hk:keepIn X.K (.ref C)=true) (F:FnOk X.prog X.w X.K X.mg X.base CX0 k f fd ps sp) (hr:Room (k + 1) X.A) (hb:Binds X.K fd ps []) (hex:X.ex=[]) (hg:Gl X x) (hm:X.mg x=some (.ref C))
  (ha:PA X (e :: es) t) (hl:(e :: es).length≤100) (hdb:(x == ("__debug__" : Str))=false:=by decide) (he:W7 (e :: es) X.env=(false,eval e X.env) :: W7 es X.env:=by rfl) (hpl:(WU pos (W7 es X.env)).any (·.1)=false:=by rfl) :
  PE X (.Call (.Name x p) (e :: es) [] pos) (fun σ H Q=>t σ H fun vs H1=>vs.length≤100∧∀ a,H1 a=none→X.s₀.heap.get? a=none→sp (.ref a :: vs) (upd H1 a (.ext (excN C a))) (fun v H2=>v = .non∧Q (.ref a) H2) E0):=by
 intro pins s σ H Q I h
 refine QE (z48 I hg hm ?_ hdb)
 refine callWith_K (h₀:=X.base) I.ok.mod.kin hk (thn (ha pos pins s σ H _ I h) fun us s1 ⟨vs,H1,I1,r,q1⟩=>⟨I1.kIn,?_⟩) he hpl
 exact zaO q hfn F hr hb hex I1 r (by rw [Q0,← r.length,sizeLine_eq]; have:=q1.1; omega) q1.2
end
def spX1 (K:W3) (fld:Str):Sp:=fun vs H Q _=>∃ a C y,vs=[.ref a,y]∧H a=some (.ext (excN C a))∧ExcS K C fld∧Q .non (upd H a (.ext (excD C a)))
theorem zd5 {P:Wm} {w:Ws} {K:W3} {mg:Str→Option Value} {base:Heap} {x qual fld:Str} {st:Stmt} {f:Addr} {fd:WC} {N ps:List Str} {k:Nat} (F:Fun K x qual st f fd) (S:FnScope N ps (z06 st)) (hps:ps.length=2) (h0:∀ vs:List V,vs.length=2→start N vs=vs.map some)
  (hbody:∀ (cdv:Value) (A:Wq) (outer:List Env) (s:W5) (H:Hp) (E:XK),Room k (A.deeper (Qo qual (z06 st) s.heap.objs.size f cdv))→PSs (cxOf CX0 P w K mg base N qual (z06 st) f cdv A outer s H E).nox (z1s st) (zfm K (tVar 0) (tVar 1) fld)) :
  FnOk P w K mg base CX0 (k + 1) f fd ps (spX1 K fld):=by
 refine F.ok S (fun vs H Q E ⟨a,C,y,e,_⟩=>by rw [e,hps]; rfl) fun cdv A outer s H vs Q E hr ⟨a,C,y,e,ea,c,q⟩=>⟨_,hbody cdv A outer s H E hr,?_⟩
 subst e
 rw [h0 _ rfl]
 exact ⟨y,rfl,.ref a,rfl,a,C,rfl,ea,c,q⟩
theorem ObjOk.less:∀ {b:Addr} {o:HO},ObjOk P w (upd H a (.ext φ)) h b o→ObjOk P w H h b o:=by
 have dn:∀ {c:Addr} {u:HO},upd H a (.ext φ) c=some u→(∀ ψ,u≠.ext ψ)→H c=some u:=fun {c u} e n=>by
  by_cases hc:c=a
  ·subst hc; rw [z0D] at e; cases e; exact absurd rfl (n φ)
  ·rw [z0x hc] at e; exact e
 intro b o
 induction o generalizing b with
 | dT kvs =>
  rintro ⟨h1,h2,xs,h3,h4⟩
  refine ⟨h1,h2,xs,L2.Paired.mapP h3 (fun p q ⟨e1,e2,e3⟩=>⟨e1,dn e2 (fun ψ z=>by cases z),e3⟩),h4⟩
 | ins C dx fs =>
  rintro ⟨h1,h2⟩
  exact ⟨dn h1 (fun ψ z=>by cases z),h2⟩
 | frz ob u ih=>exact fun ⟨h1,h2⟩=>⟨h1,ih h2⟩
 | _=>exact fun x=>x
theorem Inv.untrack (I:Inv X pins σ (upd H a (.ext φ)) s) (hn:H a=none):Inv X pins σ H s:=by
 have dn:∀ {c:Addr} {u:HO},upd H a (.ext φ) c=some u→(∀ ψ,u≠.ext ψ)→H c=some u:=fun {c u} e n=>by
  by_cases hc:c=a
  ·subst hc; rw [z0D] at e; cases e; exact absurd rfl (n φ)
  ·rw [z0x hc] at e; exact e
 have no:∀ {c:Addr},upd H a (.ext φ) c=none→H c=none:=fun {c} e=>by
  by_cases hc:c=a
  ·subst hc; exact hn
  ·rw [z0x hc] at e; exact e
 refine ⟨I.ok,I.os,I.bare,⟨I.base.keep,I.base.slot,fun b o e n hx=>no (I.base.free b o e n hx),I.base.there,fun b xs e=>dn (I.base.tups b xs e) (fun ψ z=>by cases z),fun b o u e=>dn (I.base.frzs b o u e) (fun ψ z=>by cases z),fun b ps e=>?_⟩,I.loc,I.cell,no I.free,fun x c e=>no (I.freeC x c e),fun p hp=>?_,fun b o e=>?_,I.len⟩
 ·obtain ⟨m,q⟩:=I.base.tbls b ps e
  exact ⟨m,dn q (fun ψ z=>by cases z)⟩
 ·obtain ⟨e,n,r⟩:=I.pin p hp
  exact ⟨e,no n,r⟩
 ·have hb:b≠a:=fun z=>by rw [z,hn] at e; cases e
  exact (I.hok b o (by rw [z0x hb]; exact e)).less
section
variable {X:Cx} {C f:Addr} {call:Expr} {te:TE} {pos:Pos}
theorem zb3 {W:St→Hp→Prop} (q:excI X.K C f=true) (hc:X.calm=true) (he:PE X call te)
  (hxe:∀ pins σ H s a,Inv X pins σ (upd H a (.ext (excD C a))) s→H a=none→X.s₀.heap.get? a=none→W σ H→X.xe (.ref a) s) :
  PS X (.Raise (some call) none pos) (fun _ σ H=>te σ H fun v H2=>∃ a H1,v = .ref a∧H2=upd H1 a (.ext (excD C a))∧H1 a=none∧X.s₀.heap.get? a=none∧W σ H1):=by
 intro pins s σ H D I h
 rw [arm_exec_Raise]
 refine W4 (wpAny_standAt (zct (I.ok.hd hc) (W4 (thn (he pins s σ H _ I h) fun v s1 ⟨x,H2,I2,rx,a,H1,ex,eH,n1,n2,w⟩=>W4 (wpAny_standAt (Wc ?_))))))
 subst ex eH
 obtain rfl:v=Value.ref a:=rx
 obtain ⟨bm,N,nm,qn,bs,hdct,sn,sub,ab,col,dd,k0,k1,k2,k3,k5,mN,hC,hN,hi,hT⟩:=z9F q I2.kIn
 obtain ⟨⟨dx,vs,sl,a0,e0,e1,e2⟩,_,_⟩:=(show ObjOk X.prog X.w (upd H1 a (.ext (excD C a))) s1.heap a (.ext (excD C a)) from I2.hok a _ z0D)
 exact ⟨a,C,N,dx,vs,sl,nm,qn,bs,bm,hdct,sn,sub,ab,col,dd,k0,k1,k2,k3,k5,_,rfl,hT.hasType rfl,hC,e0,e2,hxe pins σ H1 s1 a I2 n1 n2 w⟩
end
end L2
namespace DV
open PySem PySem.Spec PyProof.Rows L2 PySem.W
def z51 (y:Tx) (f:DE):DS:=fun δ=>(f δ).bind fun _ δ1=>.exc ⟨y,[]⟩ δ1
theorem zaC {X:Cx} {c:Fc} {x fld:Str} {C f:Addr} {fd:WC} {ps:List Str} {k:Nat} {e:Expr} {fe:DE} {np cpos pos:Pos} (y:Tx) (q:excI X.K C f=true) (hfn:isFn X.K (.ref f)=true) (hk:keepIn X.K (.ref C)=true) (hS:ExcS X.K C fld)
  (F:FnOk X.prog X.w X.K X.mg X.base CX0 k f fd ps (spX1 X.K fld)) (hr:Room (k + 1) X.A) (hb:Binds X.K fd ps []) (hc:X.calm=true) (hg:Gl X x) (hm:X.mg x=some (.ref C)) (he:SE X c e fe) (hx:XOkR X (wD X.mg c)) (hy:x=toS y:=by decide +kernel) (hd:(x == ("__debug__" : Str))=false:=by decide) (hex:X.ex=[]:=by rfl)
  (hs:W7 [e] X.env=(false,eval e X.env) :: W7 [] X.env:=by rfl):SS X c (.Raise (some (.Call (.Name x np) [e] [] cpos)) none pos) (z51 y fe) :=
 PS.weak (zb3 (W:=fun σ H=>wD X.mg c C σ H) q hc (zcG (p:=np) (pos:=cpos) q hfn hk F hr hb hex hg hm (z0U he z2d hs) (by simp) hd hs rfl) fun pins σ H s a I n1 n2 w=>by
  obtain ⟨⟨dx,vs,sl,a0,e0,e1,e2⟩,_,_⟩:=(show ObjOk X.prog X.w (upd H a (.ext (excD C a))) s.heap a (.ext (excD C a)) from I.hok a _ z0D)
  have ne:∀ {b:Addr},upd H a (.ext (excD C a)) b=none→a≠b:=fun {b} z e=>by rw [← e,z0D] at z; cases z
  exact hx pins σ H s a C (I.untrack n1) ⟨⟨_,vs,a0,e0,⟨rfl,e1⟩,rfl,e2⟩,n2,n1,ne I.free,fun x c hc z=>ne (I.freeC x c hc) z.symm,fun p hp z=>ne (I.pin p hp).2.1 z.symm⟩ w) fun D σ H ⟨δ,k,q⟩=>by
  unfold z51 z2z at q
  rw [z08] at q
  refine ⟨δ,k,z02 q fun r δ1 q1 v H1 a1 r1=>⟨by simp,fun a n1 n2=>⟨a,C,v,rfl,z0D,hS,rfl,a,H1,rfl,?_,n1,n2,y,δ1,by rw [← hy]; exact hm,a1.ok,q1⟩⟩⟩
  funext b
  unfold upd
  by_cases hb:b=a
  ·simp [hb]
  ·simp [hb]
def IniK (P:Wm) (w:Ws) (K:W3) (mg:Str→Option Value) (base:Heap) (C:Addr) (fld:Str):Prop :=
 ∃ (f:Addr) (fd:WC) (ps:List Str),excI K C f=true∧isFn K (.ref f)=true∧keepIn K (.ref C)=true∧ExcS K C fld∧Binds K fd ps []∧FnOk P w K mg base CX0 1 f fd ps (spX1 K fld)
theorem zaB {X:Cx} {c:Fc} {x fld:Str} {C:Addr} {e:Expr} {fe:DE} {np cpos pos:Pos} (y:Tx) (N:IniK X.prog X.w X.K X.mg X.base C fld) (hr:Room 2 X.A) (hc:X.calm=true) (hg:Gl X x) (hm:X.mg x=some (.ref C)) (he:SE X c e fe) (hx:XOkR X (wD X.mg c))
  (hy:x=toS y:=by decide +kernel) (hd:(x == ("__debug__" : Str))=false:=by decide) (hex:X.ex=[]:=by rfl) (hs:W7 [e] X.env=(false,eval e X.env) :: W7 [] X.env:=by rfl):SS X c (.Raise (some (.Call (.Name x np) [e] [] cpos)) none pos) (z51 y fe):=by
 obtain ⟨f,fd,ps,h1,h2,h3,h4,h5,h6⟩:=N
 exact zaC y h1 h2 h3 h4 h6 hr h5 hc hg hm he hx hy hd hex hs
def zeX:Stmt→List Stmt
 | .ClassDef _ _ _ b _ _ _ _ _ _ _=>b
 | _=>[]
section
variable {X:Cx} {c:Fc} {e:Expr} {fb:BE}
def z6F:D→Option S
 | .str [n]=>if 97≤n∧n≤122 then some (.pure (.str [n - 32])) else none
 | _=>none
theorem zch:∀ k:Nat,k < 26→Txt.upper (toS [97 + k])=toS [97 + k - 32]:=by decide +kernel
theorem zcW:MtR X "str.upper" (fun x vs H Q=>∃ n:Nat,x = .str (toS [n])∧vs=[]∧(97≤n∧n≤122)∧Q (.str (toS [n - 32])) H):=by
 intro pins s σ H x vs v us Q I rx rv h
 obtain ⟨n,rfl,rfl,hn,q⟩:=h
 obtain ⟨t,rfl⟩:=rx
 cases rv
 have e:Txt.upper (toS [n])=toS [n - 32]:=by
  have:=zch (n - 97) (by omega)
  rwa [show 97 + (n - 97)=n by omega] at this
 exact SC.upper (by rw [e]; rfl) (by rw [e]; exact ⟨.str _,H,I.tok _,⟨_,rfl⟩,q⟩)
theorem zcm {apos cpos:Pos} (he:SB X c e fb) (hbase:Qz e "upper" X.env (eval e X.env)=eval e X.env:=by rfl) (hline:(apos.endLine == cpos.line)=true:=by rfl) :
  SE X c (.Call (.Attribute e "upper" apos) [] [] cpos) (eC1 z6F fb):=by
 refine PE.weak (zfY PySem.F.plainAttrs_str PySem.F.slot_str_upper PySem.F.type_str_upper zcW he hbase hline) fun σ H Q h=>?_
 obtain ⟨δ,k,q⟩:=h
 refine ⟨δ,k,?_⟩
 unfold eC1 at q
 rw [z08] at q
 refine z02 q fun d δ1 q1 v H1 a1 r1=>?_
 unfold p1 at q1
 cases d with
 | str z =>
  match z with
  | []=>exact q1.elim
  | [n] =>
   have hv:v = .str (toS [n]):=by
    rcases r1 with r1 | ⟨a,_,o⟩
    ·cases r1; rfl
    ·exact o.elim
   by_cases hn:97≤n∧n≤122
   ·have e1:z6F (.str [n])=some (.pure (.str [n - 32])):=if_pos hn
    rw [e1] at q1
    subst hv
    exact ⟨rfl,n,rfl,rfl,hn,q1 _ H1 a1 (.str _)⟩
   ·have e1:z6F (.str [n])=none:=if_neg hn
    rw [e1] at q1
    exact q1.elim
  | _ :: _ :: _=>exact q1.elim
 | _=>exact q1.elim
end
end DV
namespace L2
open PySem PySem.Spec PyProof.Rows
section
variable {X:Cx} {tg:Expr}
end
end L2
namespace DV
open PySem PySem.Spec PyProof.Rows L2
section
variable {X:Cx} {c:Fc} {tg e:Expr} {fe:DE} {pos pp:Pos}
end
end DV
namespace PySem.SeqAt
open AutoSeq1 (wpAny_loadPart')
open MeetsSeq
theorem z8m (b:Str) (u:Tok) (l:Addr) (c:Value) (es:Array DictEntry) (ep:Nat) (dd:Option Addr) (sl:Array (Option Value)) :
  Meets (Builtin.«str.__eq__» ⟨[.str b u,.ref l],[]⟩) (fun _ R s=>s.heap.get? l=some { cls:=c,dict:=dd,data:=.dict es ep,slots:=sl }∧R (.ok (.ret .notImplemented)) s) :=
 .of_wp fun prog w A R s h=>by obtain ⟨hp,g,d,tk,os⟩:=s; obtain ⟨hl,h⟩:=h; wp_walk using Qu hl,wpAny_load hl; exact ⟨_,rfl,h⟩
theorem z8Q (l:Addr) (o:Obj) (b:Str) (u:Tok) :
  Meets (Builtin.«dict.__eq__» ⟨[.ref l,.str b u],[]⟩) (fun _ R s=>s.heap.get? l=some o∧o.cls = .type "dict"∧R (.ok (.ret .notImplemented)) s) :=
 .of_wp fun prog w A R s h=>by
  obtain ⟨hl,hc,h⟩:=h
  have hT:s.TypeIs (.ref l) "dict":=⟨o,hl,hc⟩
  show We _ _ (Builtin.Dict.dictSlotArgs "__eq__" ⟨[.ref l,.str b u],[]⟩ >>= _) _ _ s
  refine W4 ?_
  unfold Builtin.Dict.dictSlotArgs
  refine W4 (wpAny_notOrdered_dict hT ?_)
  show We _ _ (pure (Value.ref l,Value.str b u)) _ _ s
  refine Wc ?_
  refine W4 (wpAny_isInstance (T:="str") (Ju s b u) PySem.F.sub_str_dict ?_)
  show We _ _ (if (!false)=true then _ else _) _ _ s
  rw [if_pos (by decide)]
  refine W4 (Jw ?_)
  exact Wc ⟨_,rfl,h⟩
section
variable {A:Wq} {s:W5}
theorem z8s (b:Str) (u:Tok) (hl:s.heap.get? l=some o) (hc:o.cls = .type "dict") (hd:o.data = .dict es ep) (hu:A.units < Q4):RcAt A s (.str b u) (.ref l) false:=fun prog w E Q h=>by
 obtain ⟨cls,dd,data,sl⟩:=o
 simp only at hc hd
 subst hc hd
 exact rc_eq_decline_or (k:=false) (Ju s b u) ⟨_,hl,rfl⟩ (by decide) PySem.F.sub_dict_str PySem.F.slot_str_eq PySem.F.slot_dict_eq_refl
  (fun _ hq=>QW PySem.F.slot_str_eq (Ju s b u) PySem.F.entry_str_eq (PySem.F.args_str_eq_2 _ _) (z8m b u l (.type "dict") es ep dd sl) ⟨hl,hq⟩)
  (fun _ hq=>QW PySem.F.slot_dict_eq_refl ⟨_,hl,rfl⟩ PySem.F.entry_dict_eq (PySem.F.args_dict_eq_2 _ _) (z8Q l _ b u) ⟨hl,rfl,hq⟩)
  (fun _ hq=>wpAny_of_eq (rfl:isSame (.str b u) (.ref l)=pure false) hq) (.inr hu) h
theorem eq_str_dict (b:Str) (u:Tok) (hl:s.heap.get? l=some o) (hc:o.cls = .type "dict") (hd:o.data = .dict es ep) (hu:A.units < Q4):EqAt A s (.str b u) (.ref l) false:=fun prog w E Q h=>by
 unfold eqBool
 refine Q7 ?_
 refine wpAny_ite_split (fun hab=>absurd (Jp hab) nofun) (fun _=>?_)
 exact W4 (z8s b u hl hc hd hu prog w E _ (Ql h))
end
end PySem.SeqAt
namespace DV
open PySem PySem.Spec PyProof.Rows L2
def OddV (K:W3) (H:Hp) (x:V):Prop:=x = .non∨(∃ b,x = .bl b)∨(∃ i,x = .int i)∨(∃ p xs,x = .ref p∧(SqL K H p xs∨SqT K H p xs))∨∃ a kvs,x = .ref a∧H a=some (.dK kvs)
theorem zdG (I:Inv X pins σ H s) (rx:RelV x v) (ho:OddV X.K H x) (hu:A.units < Q4) (b:PySem.Str) (u:Tok):SeqAt.EqAt A s (.str b u) v false:=by
 rcases ho with rfl | ⟨b',rfl⟩ | ⟨i,rfl⟩ | ⟨p,xs,rfl,hq | hq⟩ | ⟨a,kvs,rfl,ha⟩
 ·cases rx; exact SeqAt.EqAt.str_none b u
 ·cases rx; exact SeqAt.EqAt.str_bool b u b'
 ·obtain ⟨t,rfl⟩:=rx; exact SeqAt.EqAt.str_int b u i t
 ·cases rx
  obtain ⟨its,r,pl,hz⟩:=I.list hq
  exact SeqAt.EqAt.str_list b u pl.isList hu
 ·cases rx
  obtain ⟨its,r,pl,hz⟩:=I.tuple hq
  exact SeqAt.EqAt.str_tuple b u pl hu
 ·cases rx
  obtain ⟨_,_,vs,_,o,es,ep,h1,h2,h3,_⟩:=zeU I.hok ha
  exact SeqAt.eq_str_dict b u h1 h2.1 h3 hu
theorem z6N:∀ {zs:List PySem.Str} {us:List Value},Vals (zs.map V.str) us→∀ u ∈ us,∃ z t,u = .str z t
 | [],_,r,u,hu=>by cases r; cases hu
 | z :: zs,_,r,u,hu=>by
  cases r with
  | cons r1 r2 =>
   rcases Wj.mp hu with rfl | hu
   ·obtain ⟨t,rfl⟩:=r1; exact ⟨z,t,rfl⟩
   ·exact z6N r2 u hu
def rOdd (K:W3) (neg:Bool):R2:=fun x y H Q=>∃ (p:Addr) (zs:List PySem.Str),y = .ref p∧SqL K H p (zs.map V.str)∧OddV K H x∧Q (.bl neg) H
def rInO (K:W3) (neg:Bool):R2:=fun x y H Q=>rIn K neg x y H Q∨rOdd K neg x y H Q
theorem op_inO (hu:X.A.units + 64 < Q4):OpR X (Wz .In) (rInO X.K false):=op_in_seq.or (by
 intro pins s σ H x y v u Q I rx ry h
 obtain ⟨p,zs,rfl,hl,ho,q⟩:=h
 cases ry
 obtain ⟨its,r,pl,hz⟩:=I.list hl
 refine SeqAt.in_listAt (fun _=>false) pl.isList (fun w hw=>?_) ⟨.bl _,H,I,rfl,?_⟩
 ·obtain ⟨z,t,rfl⟩:=z6N r w (by simpa using hw)
  exact zdG I rx ho (show X.A.units + 1 < Q4 by omega) z t
 ·rw [show its.toArray.any (fun _=>false)=false by simp]
  exact q)
theorem zbh {X:Cx} (hu:X.A.units + 64 < Q4):OpR X (Wz .NotIn) (rInO X.K true):=op_notIn_seq.or (by
 intro pins s σ H x y v u Q I rx ry h
 obtain ⟨p,zs,rfl,hl,ho,q⟩:=h
 cases ry
 obtain ⟨its,r,pl,hz⟩:=I.list hl
 refine SeqAt.notIn_listAt (fun _=>false) pl.isList (fun w hw=>?_) ⟨.bl _,H,I,rfl,?_⟩
 ·obtain ⟨z,t,rfl⟩:=z6N r w (by simpa using hw)
  exact zdG I rx ho (show X.A.units + 1 < Q4 by omega) z t
 ·rw [show its.toArray.any (fun _=>false)=false by simp]
  exact q)
def pInO (neg:Bool) (x y:D):Option S:=match y with
 | .lst ds=>match z2N ds with
  | none=>none
  | some ts=>match x with
   | .exc _=>none
   | .str z=>some (.pure (.bl (if neg then !ts.contains z else ts.contains z)))
   | _=>some (.pure (.bl neg))
 | _=>none
theorem zg3 {K:W3} (neg:Bool):Op2 (rInO K neg) (pInO neg):=by
 intro c σ δ H x y d e s Q k rx ry hp q
 cases e <;> first | (simp [pInO] at hp; done) | skip
 rename_i ds
 simp only [pInO] at hp
 cases ht:z2N ds with
 | none=>rw [ht] at hp; cases hp
 | some ts =>
  rw [ht] at hp
  obtain ⟨a,vs,ea,ha,r⟩:=ry.lst
  have ev:=z2R ht r
  have hl:SqL K H a ((ts.map toS).map V.str):=by rw [Qg]; rw [ev] at ha; exact .inl ha
  cases d with
  | str z =>
   cases hp
   refine .inl ⟨a,vs,ea,.inl (.inl ha),by rw [rx.str]; rfl,by rw [ev]; exact z50 ts,?_⟩
   rw [rx.str,ev,z5Z]
   exact q _ H (.refl k) (.bl _)
  | exc n=>cases hp
  | non=>cases hp; exact .inr ⟨a,_,ea,hl,.inl rx.non,q _ H (.refl k) (.bl _)⟩
  | bl b=>cases hp; exact .inr ⟨a,_,ea,hl,.inr (.inl ⟨b,rx.bl⟩),q _ H (.refl k) (.bl _)⟩
  | int i=>cases hp; exact .inr ⟨a,_,ea,hl,.inr (.inr (.inl ⟨i,rx.int⟩)),q _ H (.refl k) (.bl _)⟩
  | tup xs=>cases hp; obtain ⟨p,ws,e1,h1,_⟩:=rx.tup; exact .inr ⟨a,_,ea,hl,.inr (.inr (.inr (.inl ⟨p,ws,e1,.inr (.of h1)⟩))),q _ H (.refl k) (.bl _)⟩
  | lst xs=>cases hp; obtain ⟨p,ws,e1,h1,_⟩:=rx.lst; exact .inr ⟨a,_,ea,hl,.inr (.inr (.inr (.inl ⟨p,ws,e1,.inl (.inl h1)⟩))),q _ H (.refl k) (.bl _)⟩
  | dct xs=>cases hp; obtain ⟨p,ws,e1,h1,_⟩:=rx.dct; exact .inr ⟨a,_,ea,hl,.inr (.inr (.inr (.inr ⟨p,ws,e1,h1⟩))),q _ H (.refl k) (.bl _)⟩
end DV
namespace PySem.SeqAt
open AutoSeq1 (wpAny_loadPart')
open MeetsSeq
abbrev prO (dd:Option Addr) (a1 a2:Int) (t1 t2:Tok) (n:Nat) (sl:Array (Option Value)):Obj:={ cls:=.type "tuple",dict:=dd,data:=.seq #[.int a1 t1,.int a2 t2] n,slots:=sl }
def ltP (a1 a2 b1 b2:Int):Bool:=if a1 == b1 then decide (a2 < b2) else decide (a1 < b1)
theorem zav (l b:Addr) (a1 a2 b1 b2:Int) (t1 t2 u1 u2:Tok) (n n2:Nat) (dd dd2:Option Addr) (sl sl2:Array (Option Value)) :
  Meets (Builtin.«tuple.__lt__» ⟨[.ref l,.ref b],[]⟩)
   (fun _ R s=>s.heap.get? l=some (prO dd a1 a2 t1 t2 n sl)∧s.heap.get? b=some (prO dd2 b1 b2 u1 u2 n2 sl2)∧R (.ok (.ret (.bool (ltP a1 a2 b1 b2)))) s) :=
 .of_wp fun prog w A R s h=>by
  obtain ⟨hp,g,d,tk,os⟩:=s; obtain ⟨hl,hb,h⟩:=h
  have f2:=AutoSeq1.sub_tuple_tuple
  wp_walk using Qu hl,Qu hb,wpAny_forIn_list _ (fun rest c s'=>c.1=none∧s' = ⟨hp,g,d,tk,os⟩ ∧
   (rest=[(.int a1 t1,.int b1 u1),(.int a2 t2,.int b2 u2)]∨(rest=[(.int a2 t2,.int b2 u2)]∧a1=b1)∨(rest=[]∧a1=b1∧a2=b2))) _
  case turn =>
   rintro ⟨y,x⟩ rest c s' ⟨hc,rfl,hz⟩
   rcases hz with hz | ⟨hz,e1⟩ | ⟨hz,_⟩
   ·injection hz with hyx hrest
    cases hyx
    refine W4 (EqAt.int_int a1 t1 b1 u1 prog w _ _ ?_)
    by_cases e:a1=b1
    ·rw [show (a1 == b1)=true by simp [e]]
     wp_walk
     exact ⟨rfl,rfl,.inr (.inl ⟨hrest,e⟩)⟩
    ·rw [show (a1 == b1)=false by simp [e]]
     have hlt:ltP a1 a2 b1 b2=decide (a1 < b1):=by simp [ltP,e]
     rw [hlt] at h
     simp only [Bool.not_false,if_true]
     refine W4 (Jw ?_)
     refine W4 (richCompare_gives (op:=.Lt) (Jv _ _ t1) (Jv _ _ u1) F.slot_int_lt F.entry_int_lt (F.args_int_lt_2 _ _) (gives_int_lt _ _ t1 u1) (fun x=>nomatch x) ?_)
     refine W4 (Wc ?_)
     exact Wc (Wc ⟨_,rfl,h⟩)
   ·injection hz with hyx hrest
    cases hyx
    refine W4 (EqAt.int_int a2 t2 b2 u2 prog w _ _ ?_)
    by_cases e:a2=b2
    ·rw [show (a2 == b2)=true by simp [e]]
     wp_walk
     exact ⟨rfl,rfl,.inr (.inr ⟨hrest,e1,e⟩)⟩
    ·rw [show (a2 == b2)=false by simp [e]]
     have hlt:ltP a1 a2 b1 b2=decide (a2 < b2):=by simp [ltP,e1]
     rw [hlt] at h
     simp only [Bool.not_false,if_true]
     refine W4 (Jw ?_)
     refine W4 (richCompare_gives (op:=.Lt) (Jv _ _ t2) (Jv _ _ u2) F.slot_int_lt F.entry_int_lt (F.args_int_lt_2 _ _) (gives_int_lt _ _ t2 u2) (fun x=>nomatch x) ?_)
     refine W4 (Wc ?_)
     exact Wc (Wc ⟨_,rfl,h⟩)
   ·cases hz
  case fin =>
   rintro ⟨c1,c2⟩ s' ⟨hc,rfl,hz⟩
   simp only at hc
   subst hc
   rcases hz with hz | ⟨hz,e1⟩ | ⟨_,e1,e2⟩
   ·cases hz
   ·cases hz
   ·have hlt:ltP a1 a2 b1 b2=false:=by simp [ltP,e1,e2]
    rw [hlt] at h
    wp_walk
    exact ⟨_,rfl,h⟩
  case h=>exact ⟨rfl,rfl,.inl rfl⟩
end PySem.SeqAt
namespace PySem
open SeqAt (prO ltP zav)
section
variable {prog:Wm} {w:Ws} {A:Wq} {R:Result→W5→Prop} {I:Addr} {fp wr:List Addr} {n:Nat} {P:Nat→Value→Prop} {St:Nat→Heap→Prop}
end
section
variable {prog:Wm} {w:Ws} {A:Wq} {E:Value→W5→Prop} {s:W5}
end
end PySem
namespace DV
open PySem PySem.Spec PyProof.Rows L2
open PySem.SeqAt (prO ltP)
section
variable {X:Cx} {c:Fc} {e:Expr} {fb:BE} {pos pp:Pos}
end
section
variable {c:Fc} {σ:St} {δ δ':Dl} {H H':Hp} {p:Addr}
end
end DV
namespace L2
open PySem PySem.Spec PyProof.Rows
end L2
namespace DV
open PySem PySem.Spec PyProof.Rows L2
section
variable {X:Cx} {c:Fc} {tg e:Expr} {fe:DE} {pos pp:Pos}
end
section
variable {K:W3} {h:Heap} {mg:Str→Option Value} {x q:Str} {st:Stmt} {f:Addr} {fd:WC}
abbrev FnH (K:W3) (x:Str) (st:Stmt):Prop:=∃ (f:Addr) (oc:Value) (od:Option Addr) (kV dc pm:Value) (an:Option Addr) (cd ct:Value) (sl:Array (Option Value)),
 PySem.W.nsIn K Wp x=some (some (.ref f))∧K.lookup f=some ⟨oc,od,.func (Qp x x (z32 st) (z1s st) (z06 st) .none kV dc pm an cd ct),sl⟩∧PySem.W.codeIn K cd x=true∧Q9 K (.ref f)=true
theorem fnH (X:K.In h) (G:h.Ns Wp mg) (d:FnH K x st):∃ f fd,Fun K x x st f fd∧mg x=some (.ref f):=by
 obtain ⟨f,oc,od,kV,dc,pm,an,cd,ct,sl,a,l,c,k⟩:=d
 exact ⟨f,_,zbH l c k,PySem.W.mg_of X G a⟩
abbrev Bd (x q:Str) (st:Stmt) (ps:List Str) (us:List Value):Prop:=∀ (kV doc pm:Value) (an:Option Addr) (cdv ct:Value),bindArgs (Qp x q (z32 st) (z1s st) (z06 st) .none kV doc pm an cdv ct) ⟨us,[]⟩=pure (ps.zip us)
variable {p1 p2 p3 p4 p5 p6:Str}
theorem bd1 (F:Fun K x q st f fd) (h:∀ a,Bd x q st [p1] [a]):Binds K fd [p1] []:=F.binds fun _ _ _ _ _ _ us hl=>match us,hl with
 | [a],_=>h a _ _ _ _ _ _
theorem bd2 (F:Fun K x q st f fd) (h:∀ a b,Bd x q st [p1,p2] [a,b]):Binds K fd [p1,p2] []:=F.binds fun _ _ _ _ _ _ us hl=>match us,hl with
 | [a,b],_=>h a b _ _ _ _ _ _
theorem bd3 (F:Fun K x q st f fd) (h:∀ a b c,Bd x q st [p1,p2,p3] [a,b,c]):Binds K fd [p1,p2,p3] []:=F.binds fun _ _ _ _ _ _ us hl=>match us,hl with
 | [a,b,c],_=>h a b c _ _ _ _ _ _
theorem bd4 (F:Fun K x q st f fd) (h:∀ a b c d,Bd x q st [p1,p2,p3,p4] [a,b,c,d]):Binds K fd [p1,p2,p3,p4] []:=F.binds fun _ _ _ _ _ _ us hl=>match us,hl with
 | [a,b,c,d],_=>h a b c d _ _ _ _ _ _
theorem bd5 (F:Fun K x q st f fd) (h:∀ a b c d e,Bd x q st [p1,p2,p3,p4,p5] [a,b,c,d,e]):Binds K fd [p1,p2,p3,p4,p5] []:=F.binds fun _ _ _ _ _ _ us hl=>match us,hl with
 | [a,b,c,d,e],_=>h a b c d e _ _ _ _ _ _
theorem bd6 (F:Fun K x q st f fd) (h:∀ a b c d e g,Bd x q st [p1,p2,p3,p4,p5,p6] [a,b,c,d,e,g]):Binds K fd [p1,p2,p3,p4,p5,p6] []:=F.binds fun _ _ _ _ _ _ us hl=>match us,hl with
 | [a,b,c,d,e,g],_=>h a b c d e g _ _ _ _ _ _
end
theorem fm1 {α:Type} {P:α→Prop} {a:α} (x:P a):∀ z ∈ [a],P z:=fun _ h=>by cases h with | head=>exact x | tail _ h=>cases h
theorem fm2 {α:Type} {P:α→Prop} {a b:α} (x:P a) (y:P b):∀ z ∈ [a,b],P z:=fun _ h=>by cases h with | head=>exact x | tail _ h=>exact fm1 y _ h
open PySem (sizeLine)
section
variable {α β:Type}
@[simp] theorem z0Z (a:α) (δ:Dl) (f:α→Dl→Rs β):(Rs.ok a δ).bind f=f a δ:=id rfl
@[simp] theorem zd8 (f:α→Dl→Rs β):(Rs.stuck:Rs α).bind f = .stuck:=id rfl
@[simp] theorem zgw (d:D):(S.pure d).d=d:=id rfl
@[simp] theorem ev_d2 (d:D):(S.own d).d=d:=id rfl
end
section
variable (δ:Dl) (i:Nat) (d e:D) (f g:DE) (fb:BE) (t u:DT) (p:D→D→Option S)
@[simp] theorem ev_eD:eD d δ = .ok (.pure d) δ:=id rfl
@[simp] theorem zdF:bOf f δ=(f δ).bind fun r δ'=>.ok r.d δ':=id rfl
@[simp] theorem zgu:eOp p f fb δ=(f δ).bind fun x δ1=>(fb δ1).bind fun y δ2=>p2 p x.d y δ2:=id rfl
@[simp] theorem ev_dAnd:dAnd t u δ=(t δ).bind fun b δ1=>if b then u δ1 else .ok false δ1:=id rfl
@[simp] theorem ev_dOr:dOr t u δ=(t δ).bind fun b δ1=>if b then .ok true δ1 else u δ1:=id rfl
@[simp] theorem ev_dNot:dNot t δ=(t δ).bind fun b δ1=>.ok (!b) δ1:=id rfl
@[simp] theorem ev_eIf:eIf t f g δ=(t δ).bind fun b δ1=>if b then f δ1 else g δ1:=id rfl
@[simp] theorem ev_dNext:z1n δ = .ok .next δ:=id rfl
@[simp] theorem ev_dYes:dYes δ = .ok true δ:=id rfl
@[simp] theorem ev_dDrop:z6q f δ=(f δ).bind fun _ δ1=>.ok .next δ1:=id rfl
@[simp] theorem ev_dRet:dRet f δ=(f δ).bind fun r δ1=>.ok (.ret r) δ1:=id rfl
@[simp] theorem ev_dIf (a b:DS):dIf t a b δ=(t δ).bind fun x δ1=>if x then a δ1 else b δ1:=id rfl
@[simp] theorem z8P (it:DI) (gg:DG) (b:DS):dFor it gg b δ=(it δ).bind fun ds δ1=>forL gg b ds δ1:=id rfl
@[simp] theorem zeQ (a:DA):eTup a δ=(a δ).bind fun ds δ'=>.ok (.pure (.tup ds)) δ':=id rfl
@[simp] theorem zeR (a:DA):eLst a δ=(a δ).bind fun ds δ'=>.ok (.own (.lst ds)) δ':=id rfl
@[simp] theorem ev_eLstC (ds:List D):z3K ds δ = .ok (.own (.lst ds)) δ:=id rfl
@[simp] theorem zeS:aNil δ = .ok [] δ:=id rfl
@[simp] theorem zd9 (a:DA):z0c f a δ=(f δ).bind fun x δ1=>(a δ1).bind fun xs δ2=>.ok (x.d :: xs) δ2:=id rfl
@[simp] theorem zgv (q:D→Option S):eC1 q fb δ=(fb δ).bind fun x δ1=>p1 q x δ1:=id rfl
@[simp] theorem ev_eMax:eMax f g δ=(f δ).bind fun x δ1=>(g δ1).bind fun y δ2=>p2 pMax x.d y.d δ2:=id rfl
@[simp] theorem ev_eSl (fl fh:DOp):eSl f fl fh δ=(f δ).bind fun x δ1=>(fl δ1).bind fun l δ2=>(fh δ2).bind fun h δ3=>p1 (pSl l h) x.d δ3:=id rfl
@[simp] theorem ev_oNone:z4x δ = .ok none δ:=id rfl
@[simp] theorem ev_eComp (cs:List Nat) (it:DI) (gg:DG) (el:DE):z2s cs it gg t el δ=(it δ).bind fun ds δ1=>if cs.any (z0s δ1) then .stuck else
 (z1Z cs gg t el ds (clrD cs δ1) []).bind fun acc δ2=>.ok (.own (.lst acc)) (z1S cs δ1 δ2):=id rfl
@[simp] theorem ev_gNm (np:List Nat) (r:S):gNm np i r δ=if np.contains i then none else some (δ.set i (some r)):=id rfl
@[simp] theorem zeP (gg:DG) (b:DS):forL gg b [] δ = .ok .next δ:=id rfl
end
section
variable (δ:Dl) (i:Nat) (d e:D) (f g:DE) (fb:BE) (p:D→D→Option S) (s:S)
@[simp] theorem zgt (x y:D):p2 p x y δ=match p x y with | some s=>.ok s δ | none=>.stuck:=id rfl
@[simp] theorem ev_p1 (q:D→Option S) (x:D):p1 q x δ=match q x with | some s=>.ok s δ | none=>.stuck:=id rfl
@[simp] theorem zbP (a b:DS):dSeq a b δ=(a δ).bind fun fl δ1=>match fl with | .next=>b δ1 | .ret r=>.ok (.ret r) δ1 | .brk=>.ok .brk δ1 | .cont=>.ok .cont δ1:=id rfl
@[simp] theorem zf4 {α β:Type} (c:Prop) [Decidable c] (x y:Rs α) (k:α→Dl→Rs β):(if c then x else y).bind k=if c then x.bind k else y.bind k:=by split <;> rfl
end
theorem z1b:W6=16777216:=rfl
theorem z2h (xs:List α) (i:Nat):atI xs (i:Int)=xs[i]?:=by
 unfold atI ixN
 by_cases h:i < xs.length
 ·rw [if_pos (by omega),if_pos (by omega)]
  simp
 ·rw [if_pos (by omega),if_neg (by omega)]
  simp [WZ (Nat.le_of_not_lt h)]
theorem z8U (xs:List α):atI xs 2=xs[2]?:=z2h xs 2
theorem z1d (xs:List α):atI xs 0=xs[0]?:=z2h xs 0
theorem z7l (xs:List α):atI xs 1=xs[1]?:=z2h xs 1
theorem z66 (I:Dl→Prop) (R:D→D→Prop) :
  ∀ (ds:List D) (δ:Dl) (acc:List D),I δ→acc.length + ds.length≤W6 →
   (∀ d ∈ ds,∀ δ,I δ→∃ δ1 δ2 x δ3,g (.pure d) δ=some δ1∧t δ1 = .ok true δ2∧el δ2 = .ok x δ3∧I (clrD cs δ3)∧R d x.d) →
   ∃ xs δ',z1Z cs g t el ds δ acc = .ok (acc ++ xs) δ'∧I δ'∧xs.length=ds.length∧∀ (i:Nat) d x,ds[i]? = some d→xs[i]? = some x→R d x
 | [],δ,acc,h,_,_=>⟨[],δ,by simp [z1Z],h,rfl,fun i d x e=>by simp at e⟩
 | d :: r,δ,acc,h,hl,hs=>by
  obtain ⟨δ1,δ2,x,δ3,e1,e2,e3,h3,hr⟩:=hs d Wi δ h
  have hl':acc.length < W6:=by simp at hl; omega
  obtain ⟨xs,δ',e4,h4,hn,hf⟩:=z66 (g:=g) (t:=t) (el:=el) I R r (clrD cs δ3) (acc ++ [x.d]) h3 (by simp at hl ⊢; omega) (fun d hd=>hs d (Wg _ hd))
  refine ⟨x.d :: xs,δ',?_,h4,by simp [hn],fun i d' x' f1 f2=>?_⟩
  ·unfold z1Z
   rw [e1]
   simp only [e2,z0Z,if_true,e3,if_pos hl',e4]
   simp
  ·cases i with
   | zero=>simp at f1 f2; subst f1 f2; exact hr
   | succ i=>exact hf i d' x' (by simpa using f1) (by simpa using f2)
theorem zbY (F:D→D) (δ:Dl) :
  ∀ (ds:List D) (acc:List D),acc.length + ds.length≤W6 →
   (∀ d ∈ ds,∃ δ1 δ2 x δ3,g (.pure d) δ=some δ1∧t δ1 = .ok true δ2∧el δ2 = .ok x δ3∧clrD cs δ3=δ∧x.d=F d) →
   z1Z cs g t el ds δ acc = .ok (acc ++ ds.map F) δ:=by
 intro ds acc hl hs
 obtain ⟨xs,δ',e,h,hn,hf⟩:=z66 (cs:=cs) (g:=g) (t:=t) (el:=el) (fun δ'=>δ'=δ) (fun d x=>x=F d) ds δ acc rfl hl (fun d hd δ' h=>by
  subst h
  obtain ⟨δ1,δ2,x,δ3,a,b,c,d,e⟩:=hs d hd
  exact ⟨δ1,δ2,x,δ3,a,b,c,d,e⟩)
 subst h
 rw [e]
 congr 2
 apply List.ext_getElem?
 intro i
 by_cases hi:i < ds.length
 ·have:=hf i ds[i] (xs[i]'(by omega)) (by simp [hi]) (by simp [hn,hi])
  simp [hn,hi,this]
 ·rw [WZ (by omega),WZ (by simp; omega)]
theorem z16 (I:Nat→Dl→Prop) :
  ∀ (ds:List D) (n:Nat) (δ:Dl),I n δ →
   (∀ (i:Nat) d δ,ds[i]? = some d→I (n + i) δ→∃ δ1 δ2,g (.pure d) δ=some δ1∧b δ1 = .ok .next δ2∧I (n + i + 1) δ2) →
   ∃ δ',forL g b ds δ = .ok .next δ'∧I (n + ds.length) δ'
 | [],n,δ,h,_=>⟨δ,rfl,h⟩
 | d :: r,n,δ,h,hs=>by
  obtain ⟨δ1,δ2,e1,e2,h2⟩:=hs 0 d δ rfl h
  obtain ⟨δ',e3,h3⟩:=z16 (g:=g) (b:=b) I r (n + 1) δ2 h2 (fun i d' δ' e hi=>by
   have:=hs (i + 1) d' δ' (by simpa using e) (by rw [show n + (i + 1)=n + 1 + i by omega]; exact hi)
   rw [show n + (i + 1) + 1=n + 1 + i + 1 by omega] at this
   exact this)
  refine ⟨δ',?_,by rw [WN,show n + (r.length + 1)=n + 1 + r.length by omega]; exact h3⟩
  unfold forL
  rw [e1]
  simp only [e2,z0Z,e3]
theorem z9G (xs:List Tx):z2N (xs.map .str)=some xs:=by
 induction xs with
 | nil=>rfl
 | cons x r ih=>simp [z2N,ih]
theorem z3s:∀ ts:List Tx,z5W [] ts=ts.flatten
 | []=>rfl
 | [x]=>by simp [z5W]
 | x :: y :: r=>by rw [z5W,z3s (y :: r)]; simp
theorem zaf (xs:List Nat):z3m (xs.map fun n=>[n])=xs.length:=by
 unfold z3m
 induction xs with
 | nil=>rfl
 | cons x r ih=>simp at ih ⊢; omega
theorem zd6 (xs:List Nat):(xs.map fun n=>[n]).flatten=xs:=by
 induction xs with
 | nil=>rfl
 | cons x r ih=>simp [ih]
theorem z9H (xs:List Nat) (h:xs.length≤16777216):z3k [] (.lst (xs.map fun n=>.str [n]))=some (.pure (.str xs)):=by
 have e:(xs.map fun n=>D.str [n])=(xs.map fun n=>[n]).map D.str:=by simp
 unfold z3k
 simp only [e,z9G,zaf,z3s,zd6]
 rw [if_pos (by simpa using h)]
theorem zd7 (bs:List Bool):z4I (bs.map .bl)=some bs:=by
 induction bs with
 | nil=>rfl
 | cons x r ih=>simp [z4I,ih]
theorem z83 (r:Tx) (c:Nat) (h:c < r.length) (hl:r.length≤64):pIx (.str r) (.int c)=some (.pure (.str [r.getD c 0])):=by
 unfold pIx
 have:W6=16777216:=rfl
 simp only
 rw [if_pos (by omega),z2h]
 simp [h]
theorem zag (r:Tx) (hl:r.length≤64):pLen (.str r)=some (.pure (.int r.length)):=by
 unfold pLen
 have:W6=16777216:=rfl
 simp only
 rw [if_pos (by omega)]
abbrev flD (fl:List Tx):D:=.tup (fl.map .str)
structure Rect (w:Nat) (fl:List Tx):Prop where
 h0:0 < fl.length
 h1:fl.length≤64
 w0:0 < w
 w1:w≤64
 all:∀ r ∈ fl,r.length=w
def turn (w:Nat) (fl:List Tx):List Tx:=(Wb w).map fun c=>fl.map fun r=>r.getD c 0
def back (fl:List Tx):List Tx:=fl.map List.reverse
theorem zeL (n:Nat) (fl:List Tx):flat (n + 1) (flD fl)=true:=by
 unfold flat
 induction fl with
 | nil=>rfl
 | cons x r ih=>simp [z6p,flat] at ih ⊢; exact ih
theorem z82 (fl:List Tx):pLen (flD fl)=some (.pure (.int fl.length)):=by simp [pLen]
def rng (r:S) (δ1:Dl):Rs (List D):=match r with
 | .pure (.int j)=>if z6x j then .ok (z0z 0 j.toNat) δ1 else .stuck
 | _=>.stuck
@[simp] theorem z81 (f:DE) (δ:Dl):z0K f δ=(f δ).bind fun r δ1=>rng r δ1:=id rfl
theorem zaE (w:Nat) (hw:w≤1000000):z6x (w:Int)=true:=by
 have h1 : -(4611686018427387904:Int)≤(w:Int):=by omega
 have h2:(w:Int) < 4611686018427387904:=by omega
 unfold z6x
 rw [Wk]
 exact ⟨decide_eq_true h1,decide_eq_true h2⟩
theorem zfp (j:Int) (hs:z6x j=true) (δ:Dl):rng (.pure (.int j)) δ = .ok (z0z 0 j.toNat) δ:=by unfold rng; simp only [hs,if_true]
theorem z3a (w:Nat) (hw:w≤1000000) (δ:Dl):rng (.pure (.int w)) δ = .ok (z0z 0 w) δ:=by
 have:=zfp (w:Int) (zaE w hw) δ
 rwa [Int.toNat_natCast] at this
theorem z11 (h:(z0z 0 n)[i]? = some d):i < n∧d = .int (i:Int):=by
 unfold z0z at h
 rw [WR] at h
 by_cases hi:i < n
 ·rw [List.getElem?_range hi] at h
  simp at h
  exact ⟨hi,h.symm⟩
 ·rw [WZ (by simpa using hi)] at h
  cases h
theorem z80 (h:d ∈ z0z 0 n):∃ i:Nat,i < n∧d = .int (i:Int):=by
 obtain ⟨i,hi⟩:=List.getElem?_of_mem h
 exact ⟨i,z11 hi⟩
@[simp] theorem z2B (lo:Int) (n:Nat):(z0z lo n).length=n:=by simp [z0z]
theorem zaI {P:Nat→Prop}:∀ {xs:List D},(∀ x ∈ xs,∃ n,P n∧x = .str [n])→∃ row:List Nat,xs=row.map (fun n=>.str [n])∧∀ n ∈ row,P n
 | [],_=>⟨[],rfl,by simp⟩
 | x :: r,h=>by
  obtain ⟨n,hn,rfl⟩:=h x Wi
  obtain ⟨row,rfl,hr⟩:=zaI (xs:=r) fun y hy=>h y (Wg _ hy)
  exact ⟨n :: row,rfl,by simpa using ⟨hn,hr⟩⟩
theorem ze5 {R:D→D→Prop} {ds xs:List D} {Q:D→Prop} (hn:xs.length=ds.length) (hf:∀ (i:Nat) d x,ds[i]? = some d→xs[i]? = some x→R d x) (hq:∀ d x,d ∈ ds→R d x→Q x):∀ x ∈ xs,Q x:=fun x hx=>by
 obtain ⟨i,hi⟩:=List.getElem?_of_mem hx
 have h1:=(Wf.mp hi).1
 have h2:ds[i]? = some (ds[i]'(by omega)):=by simp [show i < ds.length by omega]
 exact hq _ x (QD _) (hf i _ x h2 hi)
abbrev blD (b:Nat×List Tx):D:=.tup [.str [b.1],flD b.2]
abbrev ruD (h w:Nat) (bs:List (Nat×List Tx)):D:=.tup [.int h,.int w,.tup (bs.map blD)]
structure Rul (h w:Nat) (bs:List (Nat×List Tx)):Prop where
 h0:0 < h
 h1:h≤4
 w0:0 < w
 w1:w≤4
 hw:2 < h + w
 n0:0 < bs.length
 n1:bs.length≤26
 up:(bs.map (·.1)).Pairwise (· < ·)
 let':∀ b ∈ bs,97≤b.1∧b.1≤122
 blk:∀ b ∈ bs,b.2.length=h∧∀ r ∈ b.2,r.length=w∧∀ n ∈ r,n ∈ bs.map (·.1)
theorem z2i (f F:A→D) (δ:Dl):∀ (as:List A) (acc:List D),acc.length + as.length≤W6 →
  (∀ a ∈ as,∃ δ1 δ2 x δ3,g (.pure (f a)) δ=some δ1∧t δ1 = .ok true δ2∧el δ2 = .ok x δ3∧clrD cs δ3=δ∧x.d=F a)→z1Z cs g t el (as.map f) δ acc = .ok (acc ++ as.map F) δ
 | [],acc,_,_=>by simp [z1Z]
 | a :: r,acc,hl,hs=>by
  obtain ⟨δ1,δ2,x,δ3,e1,e2,e3,e4,e5⟩:=hs a Wi
  have hl':acc.length < W6:=by simp at hl; omega
  have ih:=z2i (cs:=cs) (g:=g) (t:=t) (el:=el) f F δ r (acc ++ [x.d]) (by simp at hl ⊢; omega) (fun a ha=>hs a (Wg _ ha))
  rw [Ww]
  unfold z1Z
  rw [e1]
  rw [e5] at ih
  simp only [e2,z0Z,if_true,e3,if_pos hl',e4,e5,ih]
  simp
end DV
namespace K57
open PySem.W (nsIn keepIn codeIn findIn mroIn kitOne mg_of)
open PySem PySem.Spec PyProof.Rows L2 DV
def top (i:Nat):Stmt:=PySem.Challenge.pw_tilegrow_k57_still_floors.main.body.getD i (.Pass ⟨0,0,0,0⟩)
abbrev z2I:Stmt:=top 30
abbrev z2X:Stmt:=top 32
abbrev z41:Stmt:=top 31
abbrev z42:Stmt:=top 33
abbrev z2G:Stmt:=top 35
abbrev z3h:Stmt:=top 39
abbrev z30:Stmt:=top 44
abbrev z2W:Stmt:=top 20
abbrev z1M:Stmt:=top 24
abbrev z3e:Stmt:=top 12
abbrev z2E:Stmt:=top 13
abbrev z3Y:Stmt:=top 25
abbrev z3g:Stmt:=top 17
abbrev z3f:Stmt:=top 18
abbrev z3Z:Stmt:=top 15
abbrev z4P:Stmt:=top 22
abbrev z2F:Stmt:=top 26
abbrev z3X:Stmt:=top 27
abbrev z4O:Stmt:=top 28
abbrev z2m:Stmt:=top 41
abbrev z5F:Stmt:=top 45
abbrev z2Y:Stmt:=top 43
abbrev z2n:Stmt:=top 42
abbrev z1X:Stmt:=top 47
abbrev z2k:Stmt:=top 38
abbrev z2l:Stmt:=top 40
abbrev z2H:Stmt:=top 34
abbrev z40:Stmt:=top 46
abbrev z1A:Stmt:=top 49
abbrev z3i:Stmt:=top 36
abbrev z2Z:Stmt:=top 37
abbrev z1W:Stmt:=top 48
abbrev z6V:Stmt:=top 50
abbrev si_f:Stmt:=(zeX (top 7)).getD 0 (.Pass ⟨0,0,0,0⟩)
theorem sci_f:FnScope ["self","tile"] ["self","tile"] (z06 si_f):=⟨rfl,rfl,rfl,by decide +kernel,rfl,by decide +kernel,by decide +kernel⟩
abbrev ys:List Tx:=[[78,111,80,108,97,99,101],[78,111,84,105,108,101]]
def InjC (ce:Tx→Nat):Prop:=∀ x ∈ ys,∀ y ∈ ys,ce x=ce y→x=y
section
variable (ce:Tx→Nat)
structure Txt (K:W3) (mg:Str→Option Value):Prop where
 z_ValueError:mg "ValueError" = none
 z_all:mg "all" = none
 z_bool:mg "bool" = none
 z_dict:mg "dict" = none
 z_int:mg "int" = none
 z_isinstance:mg "isinstance" = none
 z_len:mg "len" = none
 z_max:mg "max" = none
 z_min:mg "min" = none
 z_range:mg "range" = none
 z_str:mg "str" = none
 z_tuple:mg "tuple" = none
 ty_bool:TyK K "bool"
 ty_int:TyK K "int"
 ty_str:TyK K "str"
 ty_tuple:TyK K "tuple"
 c_j:mg "FloorError" = some (.ref (ce [70,108,111,111,114,69,114,114,111,114]))
 c_a:mg "NoFloor" = some (.ref (ce [78,111,70,108,111,111,114]))
 c_b:mg "NoPlace" = some (.ref (ce [78,111,80,108,97,99,101]))
 c_c:mg "NoNumber" = some (.ref (ce [78,111,78,117,109,98,101,114]))
 c_d:mg "NoRow" = some (.ref (ce [78,111,82,111,119]))
 c_e:mg "Unlike" = some (.ref (ce [85,110,108,105,107,101]))
 c_f:mg "NoTile" = some (.ref (ce [78,111,84,105,108,101]))
 c_g:mg "NoRule" = some (.ref (ce [78,111,82,117,108,101]))
 c_h:mg "NoText" = some (.ref (ce [78,111,84,101,120,116]))
 c_i:mg "TooGreat" = some (.ref (ce [84,111,111,71,114,101,97,116]))
 q_j:ExcC K (ce [70,108,111,111,114,69,114,114,111,114])
 q_b:ExcC K (ce [78,111,80,108,97,99,101])
 i_a:IsT K ce ys (.ref (ce [78,111,70,108,111,111,114])) (fun z=>z == [78,111,70,108,111,111,114])
 i_b:IsT K ce ys (.ref (ce [78,111,80,108,97,99,101])) (fun z=>z == [78,111,80,108,97,99,101])
 i_c:IsT K ce ys (.ref (ce [78,111,78,117,109,98,101,114])) (fun z=>z == [78,111,78,117,109,98,101,114])
 i_d:IsT K ce ys (.ref (ce [78,111,82,111,119])) (fun z=>z == [78,111,82,111,119])
 i_e:IsT K ce ys (.ref (ce [85,110,108,105,107,101])) (fun z=>z == [85,110,108,105,107,101])
 i_f:IsT K ce ys (.ref (ce [78,111,84,105,108,101])) (fun z=>z == [78,111,84,105,108,101])
 i_g:IsT K ce ys (.ref (ce [78,111,82,117,108,101])) (fun z=>z == [78,111,82,117,108,101])
 i_h:IsT K ce ys (.ref (ce [78,111,84,101,120,116])) (fun z=>z == [78,111,84,101,120,116])
 i_i:IsT K ce ys (.ref (ce [84,111,111,71,114,101,97,116])) (fun z=>z == [84,111,111,71,114,101,97,116])
 i_ValueError:IsT K ce ys (.type "ValueError") (fun _=>true)
 m_j:∀ y ∈ ys,mg (toS y)=some (.ref (ce y))∧mroIn K (ce y) (.ref (ce [70,108,111,111,114,69,114,114,111,114]))=some true
end
def z2M:DS:=(dSeq (dIf (dTr (eOpF pLt 1 (bOf (eC1 pLen (bVar 0))))) (dRet (eOpF pIx 0 (bVar 1))) z1n) (dRet (eD (.int 0))))
def z14:DF:=gOf [] 2 z2M
theorem z4F:z1t z14:=z0o
theorem z5D:FnScope ["script","k"] ["script","k"] (z06 z2I):=⟨rfl,rfl,rfl,by decide +kernel,rfl,by decide +kernel,by decide +kernel⟩
theorem z5P {K:W3} (F:Fun K "_law_cell_at" "_law_cell_at" z2I f fd) (hm:mg "_law_cell_at" = some (.ref f)) (hb:Binds K fd ["script","k"] []) (T:Txt ce K mg):KFn P w K mg base 1 "_law_cell_at" 2 z14 :=
 z15 (np:=[]) (fb:=z2M) F hm hb z5D (fun c cdv A outer s H E hr hnp=>by
  have hq:=z1C hr
  refine (z03 ?_ ?_)
  ·refine (z2O ?_ ?_ ?_)
   ·exact (z2D z9m zcQ (pv 1) (z05 (z3L rfl T.z_len (z0i (pv 0)) (by rfl))) (z0Q _))
   ·refine (z0f ?_)
    refine (z0y ?_)
    exact (z0h z0b z0q (pv 0) (z0i (pv 1)) (fun _ _=>rfl))
   ·exact z1K
  refine (z0f ?_)
  refine (z0y ?_)
  exact z01) fun ss y h=>z0E h
def z35:DS:=(dSeq (dAsg (eMax (eVar 0) (eOp pSub (eD (.int 0)) (bVar 0))) (gNm [] 1)) (dRet (eLst (z0c (eVar 1) (z0c (eC1 pInt (bOf (eOpF pGe 1 (bOf (eOp pPow (eD (.int 10)) (bOf (eD (.int 18)))))))) (z0c (eOpF pMod 1 (bOf (eD (.int 1000003)))) aNil))))))
def z1f:DF:=gOf [] 2 z35
theorem z4V:z1t z1f:=z0o
theorem sc__law_pen_of:FnScope ["cell","left"] ["cell"] (z06 z2X):=⟨rfl,rfl,rfl,by decide +kernel,rfl,by decide +kernel,by decide +kernel⟩
theorem z6h {K:W3} (F:Fun K "_law_pen_of" "_law_pen_of" z2X f fd) (hm:mg "_law_pen_of" = some (.ref f)) (hb:Binds K fd ["cell"] []) (T:Txt ce K mg):KFn P w K mg base 1 "_law_pen_of" 1 z1f :=
 z15 (np:=[]) (fb:=z35) F hm hb sc__law_pen_of (fun c cdv A outer s H E hr hnp=>by
  have hq:=z1C hr
  refine (z03 ?_ ?_)
  ·exact (@z0k _ _ _ _ _ _ ([]) (1) _ hnp sc__law_pen_of.nd rfl (Or.inl rfl) (zfh rfl rfl T.z_max (z04 (pv 0)) (z0S z3N z3O z01 (z0i (pv 0))) (by rfl) (by rfl) (by rfl)) rfl (Or.inl rfl))
  refine (z0f ?_)
  refine (z0y ?_)
  exact (z1z (z07 (z04 (pv 1)) (z07 (z5z rfl T.z_int (z05 (z6T zg0 z4y (pv 1) (z05 (z0S z53 z55 z01 (z05 z01))) (z0Q _))) (by rfl)) (z07 (z0M z5L z5Q (pv 1) (z05 z01)) z0J (by rfl)) (by rfl)) (by rfl)) (by decide))) fun ss y h=>z0E h
def z4i:DS:=(dSeq (dAsg (eOp pMod (eOpF pAdd 0 (bOf (eD (.int 7919)))) (bOf (eD (.int 2147483647)))) (gNm [] 0)) (dRet (eOp pMod (eOp pAdd (eOp pAdd (eOpF z1a 0 (bVar 0)) (bOf (eOp z1a (eD (.int 48271)) (bVar 0)))) (bOf (eD (.int 12345)))) (bOf (eD (.int 2147483629))))))
def z1H:DF:=gOf [] 1 z4i
theorem z3o:z1t z1H:=z0o
theorem sc__law_next:FnScope ["seed"] ["seed"] (z06 z41):=⟨rfl,rfl,rfl,by decide +kernel,rfl,by decide +kernel,by decide +kernel⟩
theorem z7M {K:W3} (F:Fun K "_law_next" "_law_next" z41 f fd) (hm:mg "_law_next" = some (.ref f)) (hb:Binds K fd ["seed"] []) (T:Txt ce K mg):KFn P w K mg base 1 "_law_next" 1 z1H :=
 z15 (np:=[]) (fb:=z4i) F hm hb sc__law_next (fun c cdv A outer s H E hr hnp=>by
  have hq:=z1C hr
  refine (z03 ?_ ?_)
  ·exact (@z0k _ _ _ _ _ _ ([]) (0) _ hnp sc__law_next.nd rfl (Or.inl rfl) (z0S z5L z5Q (z0M z0v z0P (pv 0) (z05 z01)) (z05 z01)) rfl (Or.inl rfl))
  refine (z0f ?_)
  refine (z0y ?_)
  exact (z0S z5L z5Q (z0S z0v z0P (z0S z0v z0P (z0M z1N z1O (pv 0) (z0i (pv 0))) (z05 (z0S z1N z1O z01 (z0i (pv 0))))) (z05 z01)) (z05 z01))) fun ss y h=>z0E h
def z4j:DS:=(dSeq (dIf (dTr (eOp pEq (eOpF pIx 0 (bOf (eD (.int 1)))) (bOf (eD (.int 1))))) (dSeq (dAsg (eOp pMod (eOpF pIx 0 (bOf (eD (.int 0)))) (bVar 1)) (gNm [0] 2)) (dSeq (z85 0 (eD (.int 0)) (eOp pDiv (eOpF pIx 0 (bOf (eD (.int 0)))) (bVar 1))) (dRet (eVar 2)))) z1n) (dSeq (z85 0 (eD (.int 2)) (z09 z1H [.val (eOp pAdd (z09 z1H [.val (eOpF pIx 0 (bOf (eD (.int 2))))]) (bOf (eD (.int 7))))])) (dRet (eOp pMod (eOp pDiv (eOpF pIx 0 (bOf (eD (.int 2)))) (bOf (eD (.int 64)))) (bVar 1)))))
def z0a:DF:=gOf [0] 3 z4j
theorem z0l:z1t z0a:=z0o
theorem sc__law_draw:FnScope ["pen","many","found"] ["pen","many"] (z06 z42):=⟨rfl,rfl,rfl,by decide +kernel,rfl,by decide +kernel,by decide +kernel⟩
theorem z7N {K:W3} (F:Fun K "_law_draw" "_law_draw" z42 f fd) (hm:mg "_law_draw" = some (.ref f)) (hb:Binds K fd ["pen","many"] []) (T:Txt ce K mg) (k__law_next:KFn P w K mg base 1 "_law_next" 1 z1H):KFn P w K mg base 2 "_law_draw" 2 z0a :=
 z15 (np:=[0]) (fb:=z4j) F hm hb sc__law_draw (fun c cdv A outer s H E hr hnp=>by
  have hq:=z1C hr
  refine (z03 ?_ ?_)
  ·refine (z2O ?_ ?_ ?_)
   ·exact (z25 (z2p hq) z46 (z0h z0b z0q (pv 0) (z05 z01) (fun _ _=>rfl)) (z05 z01) (z0Q _))
   ·refine (z03 ?_ ?_)
    ·exact (@z0k _ _ _ _ _ _ ([0]) (2) _ hnp sc__law_draw.nd rfl (Or.inl rfl) (z0S z5L z5Q (z0h z0b z0q (pv 0) (z05 z01) (fun _ _=>rfl)) (z0i (pv 1))) rfl (Or.inl rfl))
    refine (z03 ?_ ?_)
    ·exact (z8n (pv 0) z01 (z0S z44 z5R (z0h z0b z0q (pv 0) (z05 z01) (fun _ _=>rfl)) (z0i (pv 1))) (by intro _; rfl) (by rfl) (by rfl) (by rfl))
    refine (z0f ?_)
    refine (z0y ?_)
    exact (z04 (pv 2))
   ·exact z1K
  refine (z03 ?_ ?_)
  ·exact (z8n (pv 0) z01 (@z0j _ _ _ _ _ (1) _ _ _ _ _ k__law_next z3o (hr.mono (by decide)) rfl (z00 (z0S z0v z0P (@z0j _ _ _ _ _ (1) _ _ _ _ _ k__law_next z3o (hr.mono (by decide)) rfl (z00 (z0h z0b z0q (pv 0) (z05 z01) (fun _ _=>rfl)) z0n (by rfl)) rfl (by decide) (by rfl) (by rfl)) (z05 z01)) z0n (by rfl)) rfl (by decide) (by rfl) (by rfl)) (by intro _; rfl) (by rfl) (by rfl) (by rfl))
  refine (z0f ?_)
  refine (z0y ?_)
  exact (z0S z5L z5Q (z0S z44 z5R (z0h z0b z0q (pv 0) (z05 z01) (fun _ _=>rfl)) (z05 z01)) (z0i (pv 1)))) fun ss y h=>z0E h
def z23:DS:=(dSeq (dAsg (eD (.str [97,98,99,100,101,102,103,104,105,106,107,108,109,110,111,112,113,114,115,116,117,118,119,120,121,122])) (gNm [0] 2)) (dSeq (dAsg (eOp pIx (z3K [.tup [.int 2,.int 2],.tup [.int 1,.int 2],.tup [.int 2,.int 1],.tup [.int 2,.int 2],.tup [.int 1,.int 3],.tup [.int 2,.int 3],.tup [.int 3,.int 1],.tup [.int 3,.int 2],.tup [.int 4,.int 4],.tup [.int 2,.int 2]]) (bOf (z09 z0a [.io 0,.val (eD (.int 10))]))) (gTp 2 (z0u (gNm [0] 3) (z0u (gNm [0] 4) z2c)))) (dSeq (dAsg (z09 z0a [.io 0,.val (eOp pSub (eD (.int 27)) (bVar 1))]) (gNm [0] 5)) (dSeq (dAsg (eSlN 2 (z18 (eVar 5)) (z18 (eOp pAdd (eOpF pAdd 5 (bOf (eD (.int 1)))) (bOf (z09 z0a [.io 0,.val (eVar 1)]))))) (gNm [0] 6)) (dSeq (dAsg (eOp pAdd (eD (.int 1)) (bOf (z09 z0a [.io 0,.val (eD (.int 3))]))) (gNm [0] 7)) (dSeq (dAsg (eLst aNil) (gNm [0] 8)) (dSeq (dFor (iSq (eVar 6)) (gNm [0] 9) (dSeq (dAsg (eLst aNil) (gNm [0] 10)) (dSeq (dFor (z0K (eVar 3)) (gNm [0] 11) (dSeq (dAsg (z2s [14] (z0K (eVar 4)) (gNm [0] 14) dYes (eOpF pIx 6 (bOf (eOp pDiv (z09 z0a [.io 0,.val (eC1 pLen (bVar 6))]) (bVar 7))))) (gNm [0] 12)) (z0A 10 (eC1 (z3k []) (bVar 12))))) (z0A 8 (eTup (z0c (eVar 9) (z0c (eC1 z1k (bVar 10)) aNil))))))) (dSeq (dIf (dTr (eOp pEq (z09 z0a [.io 0,.val (eD (.int 2))]) (bOf (eD (.int 0))))) (dSeq (dAsg (eOpF pIx 8 (bOf (eD (.int 0)))) (gTp 2 (z0u (gNm [0] 9) (z0u (gNm [0] 13) z2c)))) (z85 8 (eD (.int 0)) (eTup (z0c (eVar 9) (z0c (eOp pAdd (eTup (z0c (eOpF pAdd 9 (bOf (eSl (eOpF pIx 13 (bOf (eD (.int 0)))) (z18 (eD (.int 1))) z4x))) aNil)) (bOf (eSlN 13 (z18 (eD (.int 1))) z4x))) aNil))))) z1n) (dRet (eTup (z0c (eVar 3) (z0c (eVar 4) (z0c (eC1 z1k (bVar 8)) aNil)))))))))))))
def z0T:DF:=gOf [0] 15 z23
theorem z4D:z1t z0T:=z0o
theorem sc__law_rule_by:FnScope ["pen","most","letters","high","wide","start","tiles","alike","blocks","tile","rows","row","signs","block","column"] ["pen","most"] (z06 z2G):=⟨rfl,rfl,rfl,by decide +kernel,rfl,by decide +kernel,by decide +kernel⟩
theorem z5O {K:W3} (F:Fun K "_law_rule_by" "_law_rule_by" z2G f fd) (hm:mg "_law_rule_by" = some (.ref f)) (hb:Binds K fd ["pen","most"] []) (T:Txt ce K mg) (k__law_draw:KFn P w K mg base 2 "_law_draw" 2 z0a):KFn P w K mg base 3 "_law_rule_by" 2 z0T :=
 z15 (np:=[0]) (fb:=z23) F hm hb sc__law_rule_by (fun c cdv A outer s H E hr hnp=>by
  have hq:=z1C hr
  refine (@z03 _ _ _ _ _ _ ?_ ?_)
  ·exact (@z0k _ _ _ _ _ _ ([0]) (2) _ hnp sc__law_rule_by.nd rfl (Or.inl rfl) (@z39 _ _ _ _ _ [97,98,99,100,101,102,103,104,105,106,107,108,109,110,111,112,113,114,115,116,117,118,119,120,121,122] (by decide +kernel)) rfl (Or.inl rfl))
  refine (@z03 _ _ _ _ _ _ ?_ ?_)
  ·refine (@z6v _ _ _ _ _ _ _ ?_ ?_ (by rfl) (by rfl) (by rfl))
   ·exact (@z4q _ _ _ _ _ _ _ _ _ z0b z0q (@z3d _ _ _ _ _ (by rfl) (by decide)) (@z05 _ _ _ _ (@z0j _ _ _ _ _ (2) _ _ _ _ _ k__law_draw z0l (hr.mono (by decide)) rfl (@z1o _ _ _ _ _ _ (pv 0) (@z00 _ _ _ _ _ _ (@z01 _ _ _ _ _) (@z0n _ _) (by rfl)) (by rfl)) rfl (by decide) (by rfl) (by rfl))) (fun _ _=>rfl))
   ·exact (@z5y _ _ _ _ _ _ _ rfl (@z10 _ _ _ _ _ _ (@z0w _ _ _ ([0]) (3) _ hnp sc__law_rule_by.nd rfl (Or.inl rfl) (Or.inl rfl)) (@z10 _ _ _ _ _ _ (@z0w _ _ _ ([0]) (4) _ hnp sc__law_rule_by.nd rfl (Or.inl rfl) (Or.inl rfl)) (@z3U _ _) (by rfl)) (by rfl)) (by rfl) (by rfl))
  refine (@z03 _ _ _ _ _ _ ?_ ?_)
  ·exact (@z0k _ _ _ _ _ _ ([0]) (5) _ hnp sc__law_rule_by.nd rfl (Or.inl rfl) (@z0j _ _ _ _ _ (2) _ _ _ _ _ k__law_draw z0l (hr.mono (by decide)) rfl (@z1o _ _ _ _ _ _ (pv 0) (@z00 _ _ _ _ _ _ (@z0S _ _ _ _ _ _ _ _ _ _ z3N z3O (@z01 _ _ _ _ _) (@z0i _ _ _ _ (pv 1))) (@z0n _ _) (by rfl)) (by rfl)) rfl (by decide) (by rfl) (by rfl)) rfl (Or.inl rfl))
  refine (@z03 _ _ _ _ _ _ ?_ ?_)
  ·exact (@z0k _ _ _ _ _ _ ([0]) (6) _ hnp sc__law_rule_by.nd rfl (Or.inr rfl) (@z4o _ _ _ _ _ _ _ _ _ _ (pv 2) (@z1F _ _ _ _ (@z04 _ _ _ _ (pv 5))) (@z1F _ _ _ _ (@z0S _ _ _ _ _ _ _ _ _ _ z0v z0P (@z0M _ _ _ _ _ _ _ _ _ _ z0v z0P (pv 5) (@z05 _ _ _ _ (@z01 _ _ _ _ _))) (@z05 _ _ _ _ (@z0j _ _ _ _ _ (2) _ _ _ _ _ k__law_draw z0l (hr.mono (by decide)) rfl (@z1o _ _ _ _ _ _ (pv 0) (@z00 _ _ _ _ _ _ (@z04 _ _ _ _ (pv 1)) (@z0n _ _) (by rfl)) (by rfl)) rfl (by decide) (by rfl) (by rfl)))))) rfl (Or.inl rfl))
  refine (@z03 _ _ _ _ _ _ ?_ ?_)
  ·exact (@z0k _ _ _ _ _ _ ([0]) (7) _ hnp sc__law_rule_by.nd rfl (Or.inr rfl) (@z0S _ _ _ _ _ _ _ _ _ _ z0v z0P (@z01 _ _ _ _ _) (@z05 _ _ _ _ (@z0j _ _ _ _ _ (2) _ _ _ _ _ k__law_draw z0l (hr.mono (by decide)) rfl (@z1o _ _ _ _ _ _ (pv 0) (@z00 _ _ _ _ _ _ (@z01 _ _ _ _ _) (@z0n _ _) (by rfl)) (by rfl)) rfl (by decide) (by rfl) (by rfl)))) rfl (Or.inl rfl))
  refine (@z03 _ _ _ _ _ _ ?_ ?_)
  ·exact (@z0k _ _ _ _ _ _ ([0]) (8) _ hnp sc__law_rule_by.nd rfl (Or.inl rfl) (@z1z _ _ _ _ _ (@z0J _ _) (by decide)) rfl (Or.inl rfl))
  refine (@z03 _ _ _ _ _ _ ?_ ?_)
  ·refine (@z1L _ _ _ _ _ _ _ _ _ PassesOwn.never rfl ?_ ?_ ?_ (by intro _; rfl))
   ·exact (@z3T _ _ _ _ _ (@z04 _ _ _ _ (pv 6)))
   ·exact (@z0w _ _ _ ([0]) (9) _ hnp sc__law_rule_by.nd rfl (Or.inl rfl) (Or.inl rfl))
   ·refine (@z03 _ _ _ _ _ _ ?_ ?_)
    ·exact (@z0k _ _ _ _ _ _ ([0]) (10) _ hnp sc__law_rule_by.nd rfl (Or.inl rfl) (@z1z _ _ _ _ _ (@z0J _ _) (by decide)) rfl (Or.inl rfl))
    refine (@z03 _ _ _ _ _ _ ?_ ?_)
    ·refine (@z1L _ _ _ _ _ _ _ _ _ PassesOwn.never rfl ?_ ?_ ?_ (by intro _; rfl))
     ·exact (@z1j _ _ _ _ _ _ _ rfl T.z_range (@z04 _ _ _ _ (pv 3)) (by rfl))
     ·exact (@z0w _ _ _ ([0]) (11) _ hnp sc__law_rule_by.nd rfl (Or.inl rfl) (Or.inl rfl))
     ·refine (@z03 _ _ _ _ _ _ ?_ ?_)
      ·exact (@z4M _ _ ([14]) _ _ _ _ _ _ _ _ _ _ ([0]) (12) _ _ _ hnp rfl (@z1D _ _ _ rfl rfl) sc__law_rule_by.nd rfl rfl (@z1j _ _ _ _ _ _ _ rfl T.z_range (@z04 _ _ _ _ (pv 4)) (by rfl)) (fun l s0 H0 ex=>(@z1y _ _ _ _ ([0]) (14) _ hnp sc__law_rule_by.nd rfl (Or.inl rfl) (Or.inr rfl) (by decide))) (fun l s0 H0 ex=>(@z3R _ _)) (fun l s0 H0 ex=>(@z0h _ _ _ _ _ _ _ _ _ z0b z0q (pv 6) (@z05 _ _ _ _ (@z0S _ _ _ _ _ _ _ _ _ _ z44 z5R (@z0j _ _ _ _ _ (2) _ _ _ _ _ k__law_draw z0l (hr.mono (by decide)) rfl (@z1o _ _ _ _ _ _ (pv 0) (@z00 _ _ _ _ _ _ (@z3L _ _ _ _ _ _ rfl T.z_len (@z0i _ _ _ _ (pv 6)) (by rfl)) (@z0n _ _) (by rfl)) (by rfl)) rfl (by decide) (by rfl) (by rfl)) (@z0i _ _ _ _ (pv 7)))) (fun _ _=>rfl))) (z3P hnp rfl) (by rfl) (by intro _; rfl))
      refine (@z0f _ _ _ _ ?_)
      exact (@z1x _ _ _ _ _ _ _ _ _ (pv 10) (@z8q _ _ _ _ _ _ _ _ _ [] (@z0i _ _ _ _ (pv 12)) (by decide +kernel) (by rfl) (by rfl) (by rfl) (by rfl)) (by rfl) (by rfl) (by rfl) (by rfl) (by rfl))
    refine (@z0f _ _ _ _ ?_)
    exact (@z1x _ _ _ _ _ _ _ _ _ (pv 8) (@z1U _ _ _ _ _ _ (@z07 _ _ _ _ _ _ (@z04 _ _ _ _ (pv 9)) (@z07 _ _ _ _ _ _ (@z2V _ _ _ _ _ _ rfl T.z_tuple (@z0i _ _ _ _ (pv 10)) (by rfl)) (@z0J _ _) (by rfl)) (by rfl)) (by decide)) (by rfl) (by rfl) (by rfl) (by rfl) (by rfl))
  refine (@z03 _ _ _ _ _ _ ?_ ?_)
  ·refine (@z2O _ _ _ _ _ _ _ _ _ ?_ ?_ ?_)
   ·exact (@z25 _ _ _ _ _ _ _ _ _ _ (z2p hq) z46 (@z0j _ _ _ _ _ (2) _ _ _ _ _ k__law_draw z0l (hr.mono (by decide)) rfl (@z1o _ _ _ _ _ _ (pv 0) (@z00 _ _ _ _ _ _ (@z01 _ _ _ _ _) (@z0n _ _) (by rfl)) (by rfl)) rfl (by decide) (by rfl) (by rfl)) (@z05 _ _ _ _ (@z01 _ _ _ _ _)) (z0Q _))
   ·refine (@z03 _ _ _ _ _ _ ?_ ?_)
    ·refine (@z6v _ _ _ _ _ _ _ ?_ ?_ (by rfl) (by rfl) (by rfl))
     ·exact (@z0h _ _ _ _ _ _ _ _ _ z0b z0q (pv 8) (@z05 _ _ _ _ (@z01 _ _ _ _ _)) (fun _ _=>rfl))
     ·exact (@z5y _ _ _ _ _ _ _ rfl (@z10 _ _ _ _ _ _ (@z0w _ _ _ ([0]) (9) _ hnp sc__law_rule_by.nd rfl (Or.inl rfl) (Or.inl rfl)) (@z10 _ _ _ _ _ _ (@z0w _ _ _ ([0]) (13) _ hnp sc__law_rule_by.nd rfl (Or.inl rfl) (Or.inl rfl)) (@z3U _ _) (by rfl)) (by rfl)) (by rfl) (by rfl))
    refine (@z0f _ _ _ _ ?_)
    exact (@z8n _ _ _ _ _ _ _ _ _ _ (pv 8) (@z01 _ _ _ _ _) (@z1U _ _ _ _ _ _ (@z07 _ _ _ _ _ _ (@z04 _ _ _ _ (pv 9)) (@z07 _ _ _ _ _ _ (@z0S _ _ _ _ _ _ _ _ _ _ z0v z0P (@z1U _ _ _ _ _ _ (@z07 _ _ _ _ _ _ (@z0M _ _ _ _ _ _ _ _ _ _ z0v z0P (pv 9) (@z05 _ _ _ _ (@zfe _ _ _ _ _ _ _ _ _ _ (@z0h _ _ _ _ _ _ _ _ _ z0b z0q (pv 13) (@z05 _ _ _ _ (@z01 _ _ _ _ _)) (fun _ _=>rfl)) (@z1F _ _ _ _ (@z01 _ _ _ _ _)) (@z3S _ _)))) (@z0J _ _) (by rfl)) (by decide)) (@z05 _ _ _ _ (@z4o _ _ _ _ _ _ _ _ _ _ (pv 13) (@z1F _ _ _ _ (@z01 _ _ _ _ _)) (@z3S _ _)))) (@z0J _ _) (by rfl)) (by rfl)) (by decide)) (by intro _; rfl) (by rfl) (by rfl) (by rfl))
   ·exact z1K
  refine (@z0f _ _ _ _ ?_)
  refine (@z0y _ _ _ _ _ ?_)
  exact (@z1U _ _ _ _ _ _ (@z07 _ _ _ _ _ _ (@z04 _ _ _ _ (pv 3)) (@z07 _ _ _ _ _ _ (@z04 _ _ _ _ (pv 4)) (@z07 _ _ _ _ _ _ (@z2V _ _ _ _ _ _ rfl T.z_tuple (@z0i _ _ _ _ (pv 8)) (by rfl)) (@z0J _ _) (by rfl)) (by rfl)) (by rfl)) (by decide))) fun ss y h=>z0E h
abbrev B11_:DS:=dSeq (dAsg (eOpF pIx 4 (bOf (eD (.int 0)))) (gTp 2 (z0u (gNm [0] 5) (z0u (gNm [0] 6) z2c)))) (dSeq (dAsg (eOp pAdd (eTup (z0c (eTup (z0c (eVar 5) (z0c (eOp pAdd (eTup (z0c (eOpF pAdd 5 (bOf (eSl (eOpF pIx 6 (bOf (eD (.int 0)))) (z18 (eD (.int 1))) z4x))) aNil)) (bOf (eSlN 6 (z18 (eD (.int 1))) z4x))) aNil))) aNil)) (bOf (eSlN 4 (z18 (eD (.int 1))) z4x))) (gNm [0] 4)) (dRet (eTup (z0c (eTup (z0c (eVar 2) (z0c (eVar 3) (z0c (eVar 4) aNil)))) (z0c (eVar 5) aNil)))))
def z3A:DS:=(dSeq (dAsg (z09 z0T [.io 0,.val (eVar 1)]) (gTp 3 (z0u (gNm [0] 2) (z0u (gNm [0] 3) (z0u (gNm [0] 4) z2c))))) (B11_))
def z1v:DF:=gOf [0] 7 z3A
theorem z5h:z1t z1v:=z0o
theorem sc__law_still:FnScope ["pen","most","high","wide","blocks","tile","block"] ["pen","most"] (z06 z3h):=⟨rfl,rfl,rfl,by decide +kernel,rfl,by decide +kernel,by decide +kernel⟩
theorem z75 {K:W3} (F:Fun K "_law_still" "_law_still" z3h f fd) (hm:mg "_law_still" = some (.ref f)) (hb:Binds K fd ["pen","most"] []) (T:Txt ce K mg) (k__law_rule_by:KFn P w K mg base 3 "_law_rule_by" 2 z0T):KFn P w K mg base 4 "_law_still" 2 z1v :=
 z15 (np:=[0]) (fb:=z3A) F hm hb sc__law_still (fun c cdv A outer s H E hr hnp=>by
  have hq:=z1C hr
  refine (z03 ?_ ?_)
  ·refine (z6v ?_ ?_ (by rfl) (by rfl) (by rfl))
   ·exact (@z0j _ _ _ _ _ (3) _ _ _ _ _ k__law_rule_by z4D (hr.mono (by decide)) rfl (z1o (pv 0) (z00 (z04 (pv 1)) z0n (by rfl)) (by rfl)) rfl (by decide) (by rfl) (by rfl))
   ·exact (z5y rfl (z10 (@z0w _ _ _ ([0]) (2) _ hnp sc__law_still.nd rfl (Or.inl rfl) (Or.inl rfl)) (z10 (@z0w _ _ _ ([0]) (3) _ hnp sc__law_still.nd rfl (Or.inl rfl) (Or.inl rfl)) (z10 (@z0w _ _ _ ([0]) (4) _ hnp sc__law_still.nd rfl (Or.inl rfl) (Or.inl rfl)) z3U (by rfl)) (by rfl)) (by rfl)) (by rfl) (by rfl))
  refine (z03 ?_ ?_)
  ·refine (z6v ?_ ?_ (by rfl) (by rfl) (by rfl))
   ·exact (z0h z0b z0q (pv 4) (z05 z01) (fun _ _=>rfl))
   ·exact (z5y rfl (z10 (@z0w _ _ _ ([0]) (5) _ hnp sc__law_still.nd rfl (Or.inl rfl) (Or.inl rfl)) (z10 (@z0w _ _ _ ([0]) (6) _ hnp sc__law_still.nd rfl (Or.inl rfl) (Or.inl rfl)) z3U (by rfl)) (by rfl)) (by rfl) (by rfl))
  refine (z03 ?_ ?_)
  ·exact (@z0k _ _ _ _ _ _ ([0]) (4) _ hnp sc__law_still.nd rfl (Or.inl rfl) (z0S z0v z0P (z1U (z07 (z1U (z07 (z04 (pv 5)) (z07 (z0S z0v z0P (z1U (z07 (z0M z0v z0P (pv 5) (z05 (zfe (z0h z0b z0q (pv 6) (z05 z01) (fun _ _=>rfl)) (z1F z01) z3S))) z0J (by rfl)) (by decide)) (z05 (z4o (pv 6) (z1F z01) z3S))) z0J (by rfl)) (by rfl)) (by decide)) z0J (by rfl)) (by decide)) (z05 (z4o (pv 4) (z1F z01) z3S))) rfl (Or.inl rfl))
  refine (z0f ?_)
  refine (z0y ?_)
  exact (z1U (z07 (z1U (z07 (z04 (pv 2)) (z07 (z04 (pv 3)) (z07 (z04 (pv 4)) z0J (by rfl)) (by rfl)) (by rfl)) (by decide)) (z07 (z04 (pv 5)) z0J (by rfl)) (by rfl)) (by decide))) fun ss y h=>z0E h
def z38:DS:=(dSeq (dIf (dTr (eOpF pEq 1 (bOf (eD (.int 1))))) (dRet (eD (.int 0))) z1n) (dSeq (dAsg (z09 z0a [.io 0,.val (eD (.int 5))]) (gNm [0] 2)) (dSeq (dIf (dTr (eOpF pEq 2 (bOf (eD (.int 0))))) (dRet (eOp pSub (eOp pPow (eD (.int 10)) (bOf (eD (.int 40)))) (bOf (eD (.int 1))))) z1n) (dSeq (dAsg (eD (.int 0)) (gNm [0] 3)) (dSeq (dFor (z0K (eOp pIx (z3K [.int 3,.int 8,.int 40]) (bOf (z09 z0a [.io 0,.val (eD (.int 3))])))) (gNm [0] 4) (dAsg (eOp pAdd (eOpF z1a 3 (bOf (eD (.int 10)))) (bOf (z09 z0a [.io 0,.val (eD (.int 10))]))) (gNm [0] 3))) (dRet (eVar 3)))))))
def z12:DF:=gOf [0] 5 z38
theorem z2T:z1t z12:=z0o
theorem sc__law_far_of:FnScope ["pen","side","way","found","turn"] ["pen","side"] (z06 z30):=⟨rfl,rfl,rfl,by decide +kernel,rfl,by decide +kernel,by decide +kernel⟩
theorem z6k {K:W3} (F:Fun K "_law_far_of" "_law_far_of" z30 f fd) (hm:mg "_law_far_of" = some (.ref f)) (hb:Binds K fd ["pen","side"] []) (T:Txt ce K mg) (k__law_draw:KFn P w K mg base 2 "_law_draw" 2 z0a):KFn P w K mg base 3 "_law_far_of" 2 z12 :=
 z15 (np:=[0]) (fb:=z38) F hm hb sc__law_far_of (fun c cdv A outer s H E hr hnp=>by
  have hq:=z1C hr
  refine (z03 ?_ ?_)
  ·refine (z2O ?_ ?_ ?_)
   ·exact (z2D (z2p hq) z46 (pv 1) (z05 z01) (z0Q _))
   ·refine (z0f ?_)
    refine (z0y ?_)
    exact z01
   ·exact z1K
  refine (z03 ?_ ?_)
  ·exact (@z0k _ _ _ _ _ _ ([0]) (2) _ hnp sc__law_far_of.nd rfl (Or.inl rfl) (@z0j _ _ _ _ _ (2) _ _ _ _ _ k__law_draw z0l (hr.mono (by decide)) rfl (z1o (pv 0) (z00 z01 z0n (by rfl)) (by rfl)) rfl (by decide) (by rfl) (by rfl)) rfl (Or.inl rfl))
  refine (z03 ?_ ?_)
  ·refine (z2O ?_ ?_ ?_)
   ·exact (z2D (z2p hq) z46 (pv 2) (z05 z01) (z0Q _))
   ·refine (z0f ?_)
    refine (z0y ?_)
    exact (z0S z3N z3O (z0S z53 z55 z01 (z05 z01)) (z05 z01))
   ·exact z1K
  refine (z03 ?_ ?_)
  ·exact (@z0k _ _ _ _ _ _ ([0]) (3) _ hnp sc__law_far_of.nd rfl (Or.inl rfl) z01 rfl (Or.inl rfl))
  refine (z03 ?_ ?_)
  ·refine (z1L PassesOwn.never rfl ?_ ?_ ?_ (by intro _; rfl))
   ·exact (z1j rfl T.z_range (z4q z0b z0q (z3d (by rfl) (by decide)) (z05 (@z0j _ _ _ _ _ (2) _ _ _ _ _ k__law_draw z0l (hr.mono (by decide)) rfl (z1o (pv 0) (z00 z01 z0n (by rfl)) (by rfl)) rfl (by decide) (by rfl) (by rfl))) (fun _ _=>rfl)) (by rfl))
   ·exact (@z0w _ _ _ ([0]) (4) _ hnp sc__law_far_of.nd rfl (Or.inl rfl) (Or.inl rfl))
   ·refine (z0f ?_)
    exact (@z0k _ _ _ _ _ _ ([0]) (3) _ hnp sc__law_far_of.nd rfl (Or.inl rfl) (z0S z0v z0P (z0M z1N z1O (pv 3) (z05 z01)) (z05 (@z0j _ _ _ _ _ (2) _ _ _ _ _ k__law_draw z0l (hr.mono (by decide)) rfl (z1o (pv 0) (z00 z01 z0n (by rfl)) (by rfl)) rfl (by decide) (by rfl) (by rfl)))) rfl (Or.inl rfl))
  refine (z0f ?_)
  refine (z0y ?_)
  exact (z04 (pv 3))) fun ss y h=>z0E h
def z34:DS:=(dRet (z2s [1,2] (iSq (eOpF pIx 0 (bOf (eD (.int 2))))) (gTp 2 (z0u (gNm [] 1) (z0u (gNm [] 2) z2c))) (dTr (eOp pEq (eOp pIx (eOpF pIx 2 (bOf (eD (.int 0)))) (bOf (eD (.int 0)))) (bVar 1))) (eVar 1)))
def z1e:DF:=gOf [] 3 z34
theorem z4U:z1t z1e:=z0o
theorem sc_still_tiles:FnScope ["rule","tile","block"] ["rule"] (z06 z2W):=⟨rfl,rfl,rfl,by decide +kernel,rfl,by decide +kernel,by decide +kernel⟩
theorem z6g {K:W3} (F:Fun K "still_tiles" "still_tiles" z2W f fd) (hm:mg "still_tiles" = some (.ref f)) (hb:Binds K fd ["rule"] []) (T:Txt ce K mg):KFn P w K mg base 1 "still_tiles" 1 z1e :=
 z15 (np:=[]) (fb:=z34) F hm hb sc_still_tiles (fun c cdv A outer s H E hr hnp=>by
  have hq:=z1C hr
  refine (z0f ?_)
  refine (z0y ?_)
  exact (@z3V _ _ ([1,2]) _ _ _ _ _ _ _ _ _ _ rfl (z1D rfl rfl) (z3T (z0h z0b z0q (pv 0) (z05 z01) (fun _ _=>rfl))) (fun l s0 H0 ex=>(z8p rfl (z2Q (@z1y _ _ _ _ ([]) (1) _ hnp sc_still_tiles.nd rfl (Or.inl rfl) (Or.inr rfl) (by decide)) (z2Q (@z1y _ _ _ _ ([]) (2) _ hnp sc_still_tiles.nd rfl (Or.inl rfl) (Or.inr rfl) (by decide)) z6S (by rfl)) (by rfl)) (by rfl) (by rfl))) (fun l s0 H0 ex=>(z8l (z25 (z2p hq) z46 (z4q z0b z0q (z0h z0b z0q (pv 2) (z05 z01) (fun _ _=>rfl)) (z05 z01) (fun _ _=>rfl)) (z0i (pv 1)) (z0Q _)))) (fun l s0 H0 ex=>(z04 (pv 1))) (z3P hnp rfl) (by intro _; rfl))) fun ss y h=>z0E h
def z1R:DS:=(dIf (dTr (eOp (pInO true) (eVar 1) (bOf (z09 z1e [.val (eVar 0)])))) (z51 [78,111,84,105,108,101] (eVar 1)) z1n)
def z0r:DX:=gOfX [] 2 z1R
theorem z3c:z57 z0r:=z4Z
theorem z3W:FnScope ["rule","thing"] ["rule","thing"] (z06 z1M):=⟨rfl,rfl,rfl,by decide +kernel,rfl,by decide +kernel,by decide +kernel⟩
theorem z45 {K:W3} (F:Fun K "refuse_not_still" "refuse_not_still" z1M f fd) (hm:mg "refuse_not_still" = some (.ref f)) (hb:Binds K fd ["rule","thing"] []) (T:Txt ce K mg) (k_still_tiles:KFn P w K mg base 1 "still_tiles" 1 z1e) (n_f:IniK P w K mg base (ce [78,111,84,105,108,101]) "tile"):KFnX P w K mg base 3 "refuse_not_still" 2 z0r :=
 z8O (np:=[]) (fb:=z1R) F hm hb z3W (fun c cdv A outer s H E hr hnp hxo hxr=>by
  have hq:=z1C hr
  refine (z0f ?_)
  refine (z2O ?_ ?_ ?_)
  ·exact (z25 (zbh hq) (zg3 true) (z04 (pv 1)) (z05 (@z0j _ _ _ _ _ (1) _ _ _ _ _ k_still_tiles z4U (hr.mono (by decide)) rfl (z00 (z04 (pv 0)) z0n (by rfl)) rfl (by decide) (by rfl) (by rfl))) rfl)
  ·refine (z0f ?_)
   exact (zaB [78,111,84,105,108,101] n_f (hr.mono (by decide)) rfl rfl T.c_f (z04 (pv 1)) hxr (by decide +kernel) (by decide) (by rfl) (by rfl))
  ·exact z1K) fun ss y h=>z5r h
def z3x:DS:=(dRet (eAnd (eIsi "int" (bVar 0)) (eAnd (eNot (eIsi "bool" (bVar 0))) (eOpF pLe 1 (bVar 0)))))
def z1J:DF:=gOf [] 2 z3x
theorem z5f:z1t z1J:=z0o
theorem z6U:FnScope ["thing","least"] ["thing","least"] (z06 z3e):=⟨rfl,rfl,rfl,by decide +kernel,rfl,by decide +kernel,by decide +kernel⟩
theorem z72 {K:W3} (F:Fun K "whole_from" "whole_from" z3e f fd) (hm:mg "whole_from" = some (.ref f)) (hb:Binds K fd ["thing","least"] []) (T:Txt ce K mg):KFn P w K mg base 1 "whole_from" 2 z1J :=
 z15 (np:=[]) (fb:=z3x) F hm hb z6U (fun c cdv A outer s H E hr hnp=>by
  have hq:=z1C hr
  refine (z0f ?_)
  refine (z0y ?_)
  exact (z99 (z7s T.ty_int rfl T.z_isinstance rfl T.z_int boot_int (z0i (pv 0)) (by decide) (by decide) (by rfl) (by rfl)) (z99 (zff (z7s T.ty_bool rfl T.z_isinstance rfl T.z_bool boot_bool (z0i (pv 0)) (by decide) (by decide) (by rfl) (by rfl))) (zaK (z6T zbk z4y (pv 1) (z0i (pv 0)) (z0Q _)))))) fun ss y h=>z0E h
def z2K:DS:=(dRet (eAnd (z09 z1J [.val (eVar 0),.val (eVar 1)]) (eOpF pLe 0 (bVar 2))))
def z1l:DF:=gOf [] 3 z2K
theorem z4B:z1t z1l:=z0o
theorem z5C:FnScope ["thing","least","most"] ["thing","least","most"] (z06 z2E):=⟨rfl,rfl,rfl,by decide +kernel,rfl,by decide +kernel,by decide +kernel⟩
theorem z5M {K:W3} (F:Fun K "whole_within" "whole_within" z2E f fd) (hm:mg "whole_within" = some (.ref f)) (hb:Binds K fd ["thing","least","most"] []) (T:Txt ce K mg) (k_whole_from:KFn P w K mg base 1 "whole_from" 2 z1J):KFn P w K mg base 2 "whole_within" 3 z1l :=
 z15 (np:=[]) (fb:=z2K) F hm hb z5C (fun c cdv A outer s H E hr hnp=>by
  have hq:=z1C hr
  refine (z0f ?_)
  refine (z0y ?_)
  exact (z99 (@z0j _ _ _ _ _ (1) _ _ _ _ _ k_whole_from z5f (hr.mono (by decide)) rfl (z00 (z04 (pv 0)) (z00 (z04 (pv 1)) z0n (by rfl)) (by rfl)) rfl (by decide) (by rfl) (by rfl)) (zaK (z6T zbk z4y (pv 0) (z0i (pv 2)) (z0Q _))))) fun ss y h=>z0E h
def z4g:DS:=(dRet (z09 z1l [.val (eVar 1),.val (eD (.int 0)),.val (eIf (dTr (eOpF pEq 0 (bOf (eD (.int 1))))) (eD (.int 0)) (eOp pSub (eOp pPow (eD (.int 10)) (bOf (eD (.int 40)))) (bOf (eD (.int 1)))))]))
def z0V:DF:=gOf [] 2 z4g
theorem z3n:z1t z0V:=z0o
theorem z7v:FnScope ["factor","thing"] ["factor","thing"] (z06 z3Y):=⟨rfl,rfl,rfl,by decide +kernel,rfl,by decide +kernel,by decide +kernel⟩
theorem z7J {K:W3} (F:Fun K "line_good" "line_good" z3Y f fd) (hm:mg "line_good" = some (.ref f)) (hb:Binds K fd ["factor","thing"] []) (T:Txt ce K mg) (k_whole_within:KFn P w K mg base 2 "whole_within" 3 z1l):KFn P w K mg base 3 "line_good" 2 z0V :=
 z15 (np:=[]) (fb:=z4g) F hm hb z7v (fun c cdv A outer s H E hr hnp=>by
  have hq:=z1C hr
  refine (z0f ?_)
  refine (z0y ?_)
  exact (@z0j _ _ _ _ _ (2) _ _ _ _ _ k_whole_within z4B (hr.mono (by decide)) rfl (z00 (z04 (pv 1)) (z00 z01 (z00 (se_if (z2D (z2p hq) z46 (pv 0) (z05 z01) (z0Q _)) z01 (z0S z3N z3O (z0S z53 z55 z01 (z05 z01)) (z05 z01))) z0n (by rfl)) (by rfl)) (by rfl)) rfl (by decide) (by rfl) (by rfl))) fun ss y h=>z0E h
def z3z:DS:=(dSeq (dFor (z0K (eVar 2)) (gNm [] 3) (dAsg (eOpF z1a 0 (bVar 1)) (gNm [] 0))) (dRet (eVar 0)))
def z19:DF:=gOf [] 4 z3z
theorem z3b:z1t z19:=z0o
theorem sc_grown_size:FnScope ["size","factor","often","growing"] ["size","factor","often"] (z06 z3g):=⟨rfl,rfl,rfl,by decide +kernel,rfl,by decide +kernel,by decide +kernel⟩
theorem z74 {K:W3} (F:Fun K "grown_size" "grown_size" z3g f fd) (hm:mg "grown_size" = some (.ref f)) (hb:Binds K fd ["size","factor","often"] []) (T:Txt ce K mg):KFn P w K mg base 1 "grown_size" 3 z19 :=
 z15 (np:=[]) (fb:=z3z) F hm hb sc_grown_size (fun c cdv A outer s H E hr hnp=>by
  have hq:=z1C hr
  refine (z03 ?_ ?_)
  ·refine (z1L PassesOwn.never rfl ?_ ?_ ?_ (by intro _; rfl))
   ·exact (z1j rfl T.z_range (z04 (pv 2)) (by rfl))
   ·exact (@z0w _ _ _ ([]) (3) _ hnp sc_grown_size.nd rfl (Or.inl rfl) (Or.inl rfl))
   ·refine (z0f ?_)
    exact (@z0k _ _ _ _ _ _ ([]) (0) _ hnp sc_grown_size.nd rfl (Or.inl rfl) (z0M z1N z1O (pv 0) (z0i (pv 1))) rfl (Or.inl rfl))
  refine (z0f ?_)
  refine (z0y ?_)
  exact (z04 (pv 0))) fun ss y h=>z0E h
abbrev B13_:DS:=dFor (z0K (eVar 1)) (gNm [] 5) (z0A 3 (eC1 (z3k []) (bOf (z2s [6] (iSq (eVar 4)) (gNm [] 6) dYes (eOp pIx (eOpF pIxX 0 (bVar 6)) (bVar 5))))))
def z3y:DS:=(dSeq (dAsg (eLst aNil) (gNm [] 3)) (dSeq (dFor (iSq (eVar 2)) (gNm [] 4) (B13_)) (dRet (eC1 z1k (bVar 3)))))
def z1u:DF:=gOf [] 7 z3y
theorem z5g:z1t z1u:=z0o
theorem sc_laid_floor:FnScope ["block_of","high","floor","rows","row","line","tile"] ["block_of","high","floor"] (z06 z3f):=⟨rfl,rfl,rfl,by decide +kernel,rfl,by decide +kernel,by decide +kernel⟩
theorem z73 {K:W3} (F:Fun K "laid_floor" "laid_floor" z3f f fd) (hm:mg "laid_floor" = some (.ref f)) (hb:Binds K fd ["block_of","high","floor"] []) (T:Txt ce K mg):KFn P w K mg base 1 "laid_floor" 3 z1u :=
 z15 (np:=[]) (fb:=z3y) F hm hb sc_laid_floor (fun c cdv A outer s H E hr hnp=>by
  have hq:=z1C hr
  refine (z03 ?_ ?_)
  ·exact (@z0k _ _ _ _ _ _ ([]) (3) _ hnp sc_laid_floor.nd rfl (Or.inl rfl) (z1z z0J (by decide)) rfl (Or.inl rfl))
  refine (z03 ?_ ?_)
  ·refine (z1L PassesOwn.never rfl ?_ ?_ ?_ (by intro _; rfl))
   ·exact (z3T (z04 (pv 2)))
   ·exact (@z0w _ _ _ ([]) (4) _ hnp sc_laid_floor.nd rfl (Or.inl rfl) (Or.inl rfl))
   ·refine (z0f ?_)
    refine (z1L PassesOwn.never rfl ?_ ?_ ?_ (by intro _; rfl))
    ·exact (z1j rfl T.z_range (z04 (pv 1)) (by rfl))
    ·exact (@z0w _ _ _ ([]) (5) _ hnp sc_laid_floor.nd rfl (Or.inr rfl) (Or.inl rfl))
    ·refine (z0f ?_)
     exact (z1x (pv 3) (z8q [] (z05 (@z3V _ _ ([6]) _ _ _ _ _ _ _ _ _ _ rfl (z1D rfl rfl) (z3T (z04 (pv 4))) (fun l s0 H0 ex=>(@z1y _ _ _ _ ([]) (6) _ hnp sc_laid_floor.nd rfl (Or.inl rfl) (Or.inr rfl) (by decide))) (fun l s0 H0 ex=>z3R) (fun l s0 H0 ex=>(z4q z0b z0q (z0h (ix_X hq) zbm (pv 0) (z0i (pv 6)) (fun _ _=>rfl)) (z0i (pv 5)) (fun _ _=>rfl))) (z3P hnp rfl) (by intro _; rfl))) (by decide +kernel) (by rfl) (by rfl) (by rfl) (by rfl)) (by rfl) (by rfl) (by rfl) (by rfl) (by rfl))
  refine (z0f ?_)
  refine (z0y ?_)
  exact (z2V rfl T.z_tuple (z0i (pv 3)) (by rfl))) fun ss y h=>z0E h
def z4h:DS:=(dRet (eC1 z1k (bOf (z2s [5] (iSq (eSlN 0 (z18 (eVar 1)) (z18 (eOpF pAdd 1 (bVar 3))))) (gNm [] 5) dYes (eSlN 5 (z18 (eVar 2)) (z18 (eOpF pAdd 2 (bVar 4))))))))
def z1G:DF:=gOf [] 6 z4h
theorem z5V:z1t z1G:=z0o
theorem sc_cut_floor:FnScope ["floor","row","column","rows","columns","tiles"] ["floor","row","column","rows","columns"] (z06 z3Z):=⟨rfl,rfl,rfl,by decide +kernel,rfl,by decide +kernel,by decide +kernel⟩
theorem z7K {K:W3} (F:Fun K "cut_floor" "cut_floor" z3Z f fd) (hm:mg "cut_floor" = some (.ref f)) (hb:Binds K fd ["floor","row","column","rows","columns"] []) (T:Txt ce K mg):KFn P w K mg base 1 "cut_floor" 5 z1G :=
 z15 (np:=[]) (fb:=z4h) F hm hb sc_cut_floor (fun c cdv A outer s H E hr hnp=>by
  have hq:=z1C hr
  refine (z0f ?_)
  refine (z0y ?_)
  exact (z2V rfl T.z_tuple (z05 (@z3V _ _ ([5]) _ _ _ _ _ _ _ _ _ _ rfl (z1D rfl rfl) (z3T (z4o (pv 0) (z1F (z04 (pv 1))) (z1F (z0M z0v z0P (pv 1) (z0i (pv 3)))))) (fun l s0 H0 ex=>(@z1y _ _ _ _ ([]) (5) _ hnp sc_cut_floor.nd rfl (Or.inl rfl) (Or.inr rfl) (by decide))) (fun l s0 H0 ex=>z3R) (fun l s0 H0 ex=>(z4o (pv 5) (z1F (z04 (pv 2))) (z1F (z0M z0v z0P (pv 2) (z0i (pv 4)))))) (z3P hnp rfl) (by intro _; rfl))) (by rfl))) fun ss y h=>z0E h
def z52:DS:=(dSeq (dAsg (eVar 3) (gTp 4 (z0u (gNm [] 4) (z0u (gNm [] 5) (z0u (gNm [] 6) (z0u (gNm [] 7) z2c)))))) (dSeq (dAsg (eC1 z2o (bOf (eOpF pIx 0 (bOf (eD (.int 2)))))) (gNm [] 8)) (dSeq (dAsg (z09 z19 [.val (eD (.int 1)),.val (eOpF pIx 0 (bOf (eD (.int 0)))),.val (eVar 2)]) (gNm [] 9)) (dSeq (dAsg (z09 z19 [.val (eD (.int 1)),.val (eOpF pIx 0 (bOf (eD (.int 1)))),.val (eVar 2)]) (gNm [] 10)) (dSeq (dAsg (eTup (z0c (eVar 1) aNil)) (gNm [] 11)) (dSeq (dAsg (eD (.int 0)) (gNm [] 12)) (dSeq (dAsg (eD (.int 0)) (gNm [] 13)) (dSeq (dFor (z0K (eVar 2)) (gNm [] 14) (dSeq (dAsg (eOpF pDiv 9 (bOf (eOpF pIx 0 (bOf (eD (.int 0)))))) (gNm [] 9)) (dSeq (dAsg (eOpF pDiv 10 (bOf (eOpF pIx 0 (bOf (eD (.int 1)))))) (gNm [] 10)) (dSeq (dAsg (eOpF z5I 4 (bVar 9)) (gNm [] 15)) (dSeq (dAsg (eOpF z5I 5 (bVar 10)) (gNm [] 16)) (dSeq (dAsg (eOp pAdd (eOp pSub (eOp z5I (eOp pSub (eOpF pAdd 4 (bVar 6)) (bOf (eD (.int 1)))) (bVar 9)) (bVar 15)) (bOf (eD (.int 1)))) (gNm [] 17)) (dSeq (dAsg (eOp pAdd (eOp pSub (eOp z5I (eOp pSub (eOpF pAdd 5 (bVar 7)) (bOf (eD (.int 1)))) (bVar 10)) (bVar 16)) (bOf (eD (.int 1)))) (gNm [] 18)) (dSeq (dAsg (z09 z1u [.val (eVar 8),.val (eOpF pIx 0 (bOf (eD (.int 0)))),.val (eVar 11)]) (gNm [] 19)) (dSeq (dAsg (z09 z1G [.val (eVar 19),.val (eOpF pSub 15 (bOf (eOpF z1a 12 (bOf (eOpF pIx 0 (bOf (eD (.int 0)))))))),.val (eOpF pSub 16 (bOf (eOpF z1a 13 (bOf (eOpF pIx 0 (bOf (eD (.int 1)))))))),.val (eVar 17),.val (eVar 18)]) (gNm [] 11)) (dSeq (dAsg (eVar 15) (gNm [] 12)) (dAsg (eVar 16) (gNm [] 13)))))))))))) (dRet (eVar 11))))))))))
def z1m:DF:=gOf [] 20 z52
theorem z6m:z1t z1m:=z0o
theorem sc_laid_cut:FnScope ["rule","tile","growings","cut","row","column","high","wide","block_of","tall","broad","kept","top","left","growing","first","start","rows","columns","grown"] ["rule","tile","growings","cut"] (z06 z4P):=⟨rfl,rfl,rfl,by decide +kernel,rfl,by decide +kernel,by decide +kernel⟩
theorem z8E {K:W3} (F:Fun K "laid_cut" "laid_cut" z4P f fd) (hm:mg "laid_cut" = some (.ref f)) (hb:Binds K fd ["rule","tile","growings","cut"] []) (T:Txt ce K mg) (k_grown_size:KFn P w K mg base 1 "grown_size" 3 z19) (k_laid_floor:KFn P w K mg base 1 "laid_floor" 3 z1u) (k_cut_floor:KFn P w K mg base 1 "cut_floor" 5 z1G):KFn P w K mg base 2 "laid_cut" 4 z1m :=
 z15 (np:=[]) (fb:=z52) F hm hb sc_laid_cut (fun c cdv A outer s H E hr hnp=>by
  have hq:=z1C hr
  refine (z03 ?_ ?_)
  ·refine (z6v ?_ ?_ (by rfl) (by rfl) (by rfl))
   ·exact (z04 (pv 3))
   ·exact (z5y rfl (z10 (@z0w _ _ _ ([]) (4) _ hnp sc_laid_cut.nd rfl (Or.inl rfl) (Or.inl rfl)) (z10 (@z0w _ _ _ ([]) (5) _ hnp sc_laid_cut.nd rfl (Or.inl rfl) (Or.inl rfl)) (z10 (@z0w _ _ _ ([]) (6) _ hnp sc_laid_cut.nd rfl (Or.inl rfl) (Or.inl rfl)) (z10 (@z0w _ _ _ ([]) (7) _ hnp sc_laid_cut.nd rfl (Or.inl rfl) (Or.inl rfl)) z3U (by rfl)) (by rfl)) (by rfl)) (by rfl)) (by rfl) (by rfl))
  refine (z03 ?_ ?_)
  ·exact (@z0k _ _ _ _ _ _ ([]) (8) _ hnp sc_laid_cut.nd rfl (Or.inl rfl) (z5A rfl rfl T.z_dict (z05 (z0h z0b z0q (pv 0) (z05 z01) (fun _ _=>rfl))) (by rfl)) rfl (Or.inl rfl))
  refine (z03 ?_ ?_)
  ·exact (@z0k _ _ _ _ _ _ ([]) (9) _ hnp sc_laid_cut.nd rfl (Or.inl rfl) (@z0j _ _ _ _ _ (1) _ _ _ _ _ k_grown_size z3b (hr.mono (by decide)) rfl (z00 z01 (z00 (z0h z0b z0q (pv 0) (z05 z01) (fun _ _=>rfl)) (z00 (z04 (pv 2)) z0n (by rfl)) (by rfl)) (by rfl)) rfl (by decide) (by rfl) (by rfl)) rfl (Or.inl rfl))
  refine (z03 ?_ ?_)
  ·exact (@z0k _ _ _ _ _ _ ([]) (10) _ hnp sc_laid_cut.nd rfl (Or.inl rfl) (@z0j _ _ _ _ _ (1) _ _ _ _ _ k_grown_size z3b (hr.mono (by decide)) rfl (z00 z01 (z00 (z0h z0b z0q (pv 0) (z05 z01) (fun _ _=>rfl)) (z00 (z04 (pv 2)) z0n (by rfl)) (by rfl)) (by rfl)) rfl (by decide) (by rfl) (by rfl)) rfl (Or.inl rfl))
  refine (z03 ?_ ?_)
  ·exact (@z0k _ _ _ _ _ _ ([]) (11) _ hnp sc_laid_cut.nd rfl (Or.inl rfl) (z1U (z07 (z04 (pv 1)) z0J (by rfl)) (by decide)) rfl (Or.inl rfl))
  refine (z03 ?_ ?_)
  ·exact (@z0k _ _ _ _ _ _ ([]) (12) _ hnp sc_laid_cut.nd rfl (Or.inl rfl) z01 rfl (Or.inl rfl))
  refine (z03 ?_ ?_)
  ·exact (@z0k _ _ _ _ _ _ ([]) (13) _ hnp sc_laid_cut.nd rfl (Or.inl rfl) z01 rfl (Or.inl rfl))
  refine (z03 ?_ ?_)
  ·refine (z1L PassesOwn.never rfl ?_ ?_ ?_ (by intro _; rfl))
   ·exact (z1j rfl T.z_range (z04 (pv 2)) (by rfl))
   ·exact (@z0w _ _ _ ([]) (14) _ hnp sc_laid_cut.nd rfl (Or.inl rfl) (Or.inl rfl))
   ·refine (z03 ?_ ?_)
    ·exact (@z0k _ _ _ _ _ _ ([]) (9) _ hnp sc_laid_cut.nd rfl (Or.inl rfl) (z0M z44 z5R (pv 9) (z05 (z0h z0b z0q (pv 0) (z05 z01) (fun _ _=>rfl)))) rfl (Or.inl rfl))
    refine (z03 ?_ ?_)
    ·exact (@z0k _ _ _ _ _ _ ([]) (10) _ hnp sc_laid_cut.nd rfl (Or.inl rfl) (z0M z44 z5R (pv 10) (z05 (z0h z0b z0q (pv 0) (z05 z01) (fun _ _=>rfl)))) rfl (Or.inl rfl))
    refine (z03 ?_ ?_)
    ·exact (@z0k _ _ _ _ _ _ ([]) (15) _ hnp sc_laid_cut.nd rfl (Or.inl rfl) (z0M z5o z77 (pv 4) (z0i (pv 9))) rfl (Or.inl rfl))
    refine (z03 ?_ ?_)
    ·exact (@z0k _ _ _ _ _ _ ([]) (16) _ hnp sc_laid_cut.nd rfl (Or.inl rfl) (z0M z5o z77 (pv 5) (z0i (pv 10))) rfl (Or.inl rfl))
    refine (z03 ?_ ?_)
    ·exact (@z0k _ _ _ _ _ _ ([]) (17) _ hnp sc_laid_cut.nd rfl (Or.inl rfl) (z0S z0v z0P (z0S z3N z3O (z0S z5o z77 (z0S z3N z3O (z0M z0v z0P (pv 4) (z0i (pv 6))) (z05 z01)) (z0i (pv 9))) (z0i (pv 15))) (z05 z01)) rfl (Or.inl rfl))
    refine (z03 ?_ ?_)
    ·exact (@z0k _ _ _ _ _ _ ([]) (18) _ hnp sc_laid_cut.nd rfl (Or.inl rfl) (z0S z0v z0P (z0S z3N z3O (z0S z5o z77 (z0S z3N z3O (z0M z0v z0P (pv 5) (z0i (pv 7))) (z05 z01)) (z0i (pv 10))) (z0i (pv 16))) (z05 z01)) rfl (Or.inl rfl))
    refine (z03 ?_ ?_)
    ·exact (@z0k _ _ _ _ _ _ ([]) (19) _ hnp sc_laid_cut.nd rfl (Or.inl rfl) (@z0j _ _ _ _ _ (1) _ _ _ _ _ k_laid_floor z5g (hr.mono (by decide)) rfl (z00 (z04 (pv 8)) (z00 (z0h z0b z0q (pv 0) (z05 z01) (fun _ _=>rfl)) (z00 (z04 (pv 11)) z0n (by rfl)) (by rfl)) (by rfl)) rfl (by decide) (by rfl) (by rfl)) rfl (Or.inl rfl))
    refine (z03 ?_ ?_)
    ·exact (@z0k _ _ _ _ _ _ ([]) (11) _ hnp sc_laid_cut.nd rfl (Or.inl rfl) (@z0j _ _ _ _ _ (1) _ _ _ _ _ k_cut_floor z5V (hr.mono (by decide)) rfl (z00 (z04 (pv 19)) (z00 (z0M z3N z3O (pv 15) (z05 (z0M z1N z1O (pv 12) (z05 (z0h z0b z0q (pv 0) (z05 z01) (fun _ _=>rfl)))))) (z00 (z0M z3N z3O (pv 16) (z05 (z0M z1N z1O (pv 13) (z05 (z0h z0b z0q (pv 0) (z05 z01) (fun _ _=>rfl)))))) (z00 (z04 (pv 17)) (z00 (z04 (pv 18)) z0n (by rfl)) (by rfl)) (by rfl)) (by rfl)) (by rfl)) rfl (by decide) (by rfl) (by rfl)) rfl (Or.inl rfl))
    refine (z03 ?_ ?_)
    ·exact (@z0k _ _ _ _ _ _ ([]) (12) _ hnp sc_laid_cut.nd rfl (Or.inl rfl) (z04 (pv 15)) rfl (Or.inl rfl))
    refine (z0f ?_)
    exact (@z0k _ _ _ _ _ _ ([]) (13) _ hnp sc_laid_cut.nd rfl (Or.inl rfl) (z04 (pv 16)) rfl (Or.inl rfl))
  refine (z0f ?_)
  refine (z0y ?_)
  exact (z04 (pv 11))) fun ss y h=>z0E h
abbrev B15_:DS:=dSeq (dAsg (eOpF z1a 4 (bOf (eOpF pIx 0 (bOf (eD (.int 0)))))) (gNm [] 4)) (dSeq (dAsg (eOpF z1a 5 (bOf (eOpF pIx 0 (bOf (eD (.int 1)))))) (gNm [] 5)) (dAsg (eOpF pAdd 3 (bOf (eD (.int 1)))) (gNm [] 3)))
abbrev B7_:DS:=dSeq (dAsg (eD (.int 0)) (gNm [] 3)) (dSeq (dAsg (eD (.int 1)) (gNm [] 4)) (dSeq (dAsg (eD (.int 1)) (gNm [] 5)) (dSeq (z1T (dOr (dTr (eOpF pLt 4 (bVar 1))) (dTr (eOpF pLt 5 (bVar 2)))) (B15_) 1000000) (dRet (eVar 3)))))
def z2L:DS:=(B7_)
def z0I:DF:=gOf [] 6 z2L
theorem z4C:z1t z0I:=z0o
theorem sc_growings_for:FnScope ["rule","rows","columns","growings","tall","broad"] ["rule","rows","columns"] (z06 z2F):=⟨rfl,rfl,rfl,by decide +kernel,rfl,by decide +kernel,by decide +kernel⟩
theorem z5N {K:W3} (F:Fun K "growings_for" "growings_for" z2F f fd) (hm:mg "growings_for" = some (.ref f)) (hb:Binds K fd ["rule","rows","columns"] []) (T:Txt ce K mg):KFn P w K mg base 1 "growings_for" 3 z0I :=
 z15 (np:=[]) (fb:=z2L) F hm hb sc_growings_for (fun c cdv A outer s H E hr hnp=>by
  have hq:=z1C hr
  refine (z03 ?_ ?_)
  ·exact (@z0k _ _ _ _ _ _ ([]) (3) _ hnp sc_growings_for.nd rfl (Or.inl rfl) z01 rfl (Or.inl rfl))
  refine (z03 ?_ ?_)
  ·exact (@z0k _ _ _ _ _ _ ([]) (4) _ hnp sc_growings_for.nd rfl (Or.inl rfl) z01 rfl (Or.inl rfl))
  refine (z03 ?_ ?_)
  ·exact (@z0k _ _ _ _ _ _ ([]) (5) _ hnp sc_growings_for.nd rfl (Or.inl rfl) z01 rfl (Or.inl rfl))
  refine (z03 ?_ ?_)
  ·refine (z95 1000000 (fun h1 h2=>z9g PassesOwn.never h1 h2) ?_ ?_)
   ·exact (z6e (z8j (z2D z9m zcQ (pv 4) (z0i (pv 1)) (z0Q _)) (z5w (z2D z9m zcQ (pv 5) (z0i (pv 2)) (z0Q _)))))
   ·refine (z03 ?_ ?_)
    ·exact (@z0k _ _ _ _ _ _ ([]) (4) _ hnp sc_growings_for.nd rfl (Or.inl rfl) (z0M z1N z1O (pv 4) (z05 (z0h z0b z0q (pv 0) (z05 z01) (fun _ _=>rfl)))) rfl (Or.inl rfl))
    refine (z03 ?_ ?_)
    ·exact (@z0k _ _ _ _ _ _ ([]) (5) _ hnp sc_growings_for.nd rfl (Or.inl rfl) (z0M z1N z1O (pv 5) (z05 (z0h z0b z0q (pv 0) (z05 z01) (fun _ _=>rfl)))) rfl (Or.inl rfl))
    refine (z0f ?_)
    exact (@z0k _ _ _ _ _ _ ([]) (3) _ hnp sc_growings_for.nd rfl (Or.inl rfl) (z0M z0v z0P (pv 3) (z05 z01)) rfl (Or.inl rfl))
  refine (z0f ?_)
  refine (z0y ?_)
  exact (z04 (pv 3))) fun ss y h=>z0E h
abbrev B18_:DS:=dIf (dOr (dAnd (dTr (eOp pEq (eOpF pIx 0 (bOf (eD (.int 0)))) (bOf (eD (.int 1))))) (dTr (eOpF pGt 4 (bOf (eD (.int 1)))))) (dAnd (dTr (eOp pEq (eOpF pIx 0 (bOf (eD (.int 1)))) (bOf (eD (.int 1))))) (dTr (eOpF pGt 5 (bOf (eD (.int 1))))))) (z63 [78,111,80,108,97,99,101]) z1n
def z20:DS:=(dSeq (z6q (z1r z0r [.val (eVar 0),.val (eVar 1)])) (dSeq (dIf (dOr (dNot (dTr (z09 z0V [.val (eOpF pIx 0 (bOf (eD (.int 0)))),.val (eVar 2)]))) (dNot (dTr (z09 z0V [.val (eOpF pIx 0 (bOf (eD (.int 1)))),.val (eVar 3)])))) (z63 [78,111,80,108,97,99,101]) z1n) (dSeq (B18_) (dRet (z09 z1m [.val (eVar 0),.val (eVar 1),.val (z09 z0I [.val (eVar 0),.val (eOpF pAdd 2 (bVar 4)),.val (eOpF pAdd 3 (bVar 5))]),.val (eTup (z0c (eVar 2) (z0c (eVar 3) (z0c (eVar 4) (z0c (eVar 5) aNil)))))])))))
def z0d:DX:=gOfX [] 6 z20
theorem z1P:z57 z0d:=z4Z
theorem z7u:FnScope ["rule","tile","row","column","high","wide"] ["rule","tile","row","column","high","wide"] (z06 z3X):=⟨rfl,rfl,rfl,by decide +kernel,rfl,by decide +kernel,by decide +kernel⟩
theorem z7I {K:W3} (F:Fun K "still_cut" "still_cut" z3X f fd) (hm:mg "still_cut" = some (.ref f)) (hb:Binds K fd ["rule","tile","row","column","high","wide"] []) (T:Txt ce K mg) (k_refuse_not_still:KFnX P w K mg base 3 "refuse_not_still" 2 z0r) (k_line_good:KFn P w K mg base 3 "line_good" 2 z0V) (k_laid_cut:KFn P w K mg base 2 "laid_cut" 4 z1m) (k_growings_for:KFn P w K mg base 1 "growings_for" 3 z0I):KFnX P w K mg base 4 "still_cut" 6 z0d :=
 z8O (np:=[]) (fb:=z20) F hm hb z7u (fun c cdv A outer s H E hr hnp hxo hxr=>by
  have hq:=z1C hr
  refine (z03 ?_ ?_)
  ·exact (z6Q (@z5l _ _ _ _ _ (3) _ _ _ _ _ k_refuse_not_still z3c (hr.mono (by decide)) rfl hxo rfl (z00 (z04 (pv 0)) (z00 (z04 (pv 1)) z0n (by rfl)) (by rfl)) rfl (by decide) (by rfl) (by rfl)) (by rfl))
  refine (z03 ?_ ?_)
  ·refine (z2O ?_ ?_ ?_)
   ·exact (z6e (z8j (z4n (z4m (@z0j _ _ _ _ _ (3) _ _ _ _ _ k_line_good z3n (hr.mono (by decide)) rfl (z00 (z0h z0b z0q (pv 0) (z05 z01) (fun _ _=>rfl)) (z00 (z04 (pv 2)) z0n (by rfl)) (by rfl)) rfl (by decide) (by rfl) (by rfl)) (by intro _; rfl))) (z5w (z4n (z4m (@z0j _ _ _ _ _ (3) _ _ _ _ _ k_line_good z3n (hr.mono (by decide)) rfl (z00 (z0h z0b z0q (pv 0) (z05 z01) (fun _ _=>rfl)) (z00 (z04 (pv 3)) z0n (by rfl)) (by rfl)) rfl (by decide) (by rfl) (by rfl)) (by intro _; rfl))))))
   ·refine (z0f ?_)
    exact (z96 [78,111,80,108,97,99,101] T.q_b rfl rfl T.c_b hxr (by decide +kernel) (by decide) (by rfl))
   ·exact z1K
  refine (z03 ?_ ?_)
  ·refine (z2O ?_ ?_ ?_)
   ·exact (z6e (z8j (z6e (zax (z25 (z2p hq) z46 (z0h z0b z0q (pv 0) (z05 z01) (fun _ _=>rfl)) (z05 z01) (z0Q _)) (z8k (z2D z9n z4y (pv 4) (z05 z01) (z0Q _))))) (z5w (z6e (zax (z25 (z2p hq) z46 (z0h z0b z0q (pv 0) (z05 z01) (fun _ _=>rfl)) (z05 z01) (z0Q _)) (z8k (z2D z9n z4y (pv 5) (z05 z01) (z0Q _))))))))
   ·refine (z0f ?_)
    exact (z96 [78,111,80,108,97,99,101] T.q_b rfl rfl T.c_b hxr (by decide +kernel) (by decide) (by rfl))
   ·exact z1K
  refine (z0f ?_)
  refine (z0y ?_)
  exact (@z0j _ _ _ _ _ (2) _ _ _ _ _ k_laid_cut z6m (hr.mono (by decide)) rfl (z00 (z04 (pv 0)) (z00 (z04 (pv 1)) (z00 (@z0j _ _ _ _ _ (1) _ _ _ _ _ k_growings_for z4C (hr.mono (by decide)) rfl (z00 (z04 (pv 0)) (z00 (z0M z0v z0P (pv 2) (z0i (pv 4))) (z00 (z0M z0v z0P (pv 3) (z0i (pv 5))) z0n (by rfl)) (by rfl)) (by rfl)) rfl (by decide) (by rfl) (by rfl)) (z00 (z1U (z07 (z04 (pv 2)) (z07 (z04 (pv 3)) (z07 (z04 (pv 4)) (z07 (z04 (pv 5)) z0J (by rfl)) (by rfl)) (by rfl)) (by rfl)) (by decide)) z0n (by rfl)) (by rfl)) (by rfl)) (by rfl)) rfl (by decide) (by rfl) (by rfl))) fun ss y h=>z5r h
def z2U:DS:=(dRet (eOp pIx (z1r z0d [.val (eVar 0),.val (eVar 1),.val (eVar 2),.val (eVar 3),.val (eD (.int 1)),.val (eD (.int 1))]) (bOf (eD (.int 0)))))
def z0t:DX:=gOfX [] 4 z2U
theorem z2J:z57 z0t:=z4Z
theorem z8r:FnScope ["rule","tile","row","column"] ["rule","tile","row","column"] (z06 z4O):=⟨rfl,rfl,rfl,by decide +kernel,rfl,by decide +kernel,by decide +kernel⟩
theorem z8D {K:W3} (F:Fun K "still_at" "still_at" z4O f fd) (hm:mg "still_at" = some (.ref f)) (hb:Binds K fd ["rule","tile","row","column"] []) (T:Txt ce K mg) (k_still_cut:KFnX P w K mg base 4 "still_cut" 6 z0d):KFnX P w K mg base 5 "still_at" 4 z0t :=
 z8O (np:=[]) (fb:=z2U) F hm hb z8r (fun c cdv A outer s H E hr hnp hxo hxr=>by
  have hq:=z1C hr
  refine (z0f ?_)
  refine (z0y ?_)
  exact (z4q z0b z0q (@z5l _ _ _ _ _ (4) _ _ _ _ _ k_still_cut z1P (hr.mono (by decide)) rfl hxo rfl (z00 (z04 (pv 0)) (z00 (z04 (pv 1)) (z00 (z04 (pv 2)) (z00 (z04 (pv 3)) (z00 z01 (z00 z01 z0n (by rfl)) (by rfl)) (by rfl)) (by rfl)) (by rfl)) (by rfl)) rfl (by decide) (by rfl) (by rfl)) (z05 z01) (fun _ _=>rfl))) fun ss y h=>z5r h
abbrev B17_:DS:=dSeq (z0A 6 (eTup (z0c (eOpF pMod 3 (bOf (eOpF pIx 0 (bOf (eD (.int 0)))))) (z0c (eOpF pMod 4 (bOf (eOpF pIx 0 (bOf (eD (.int 1)))))) aNil)))) (dSeq (dAsg (eOpF pDiv 3 (bOf (eOpF pIx 0 (bOf (eD (.int 0)))))) (gNm [] 3)) (dAsg (eOpF pDiv 4 (bOf (eOpF pIx 0 (bOf (eD (.int 1)))))) (gNm [] 4)))
abbrev B9_:DS:=dSeq (dAsg (eC1 z2o (bOf (eOpF pIx 0 (bOf (eD (.int 2)))))) (gNm [] 5)) (dSeq (dAsg (eLst aNil) (gNm [] 6)) (dSeq (dFor (z0K (eVar 2)) (gNm [] 7) (B17_)) (dSeq (dAsg (eLst (z0c (eVar 1) aNil)) (gNm [] 8)) (dSeq (dFor (iSq (eC1 z8z (bVar 6))) (gTp 2 (z0u (gNm [] 9) (z0u (gNm [] 10) z2c))) (z0A 8 (eOp pIx (eOp pIx (eOpF pIxX 5 (bOf (eOpF pIx 8 (bOf (eC1 pNeg (bOf (eD (.int 1)))))))) (bVar 9)) (bVar 10)))) (z8S [] 8)))))
def z2x:DS:=(B9_)
def z0Y:DF:=gOf [] 11 z2x
theorem z4c:z1t z0Y:=z0o
theorem sc__law_line_due:FnScope ["rule","tile","growings","row","column","blocks","digits","turn","found","i","j"] ["rule","tile","growings","row","column"] (z06 z2m):=⟨rfl,rfl,rfl,by decide +kernel,rfl,by decide +kernel,by decide +kernel⟩
theorem z5c {K:W3} (F:Fun K "_law_line_due" "_law_line_due" z2m f fd) (hm:mg "_law_line_due" = some (.ref f)) (hb:Binds K fd ["rule","tile","growings","row","column"] []) (T:Txt ce K mg):KFn P w K mg base 1 "_law_line_due" 5 z0Y :=
 z15 (np:=[]) (fb:=z2x) F hm hb sc__law_line_due (fun c cdv A outer s H E hr hnp=>by
  have hq:=z1C hr
  refine (z03 ?_ ?_)
  ·exact (@z0k _ _ _ _ _ _ ([]) (5) _ hnp sc__law_line_due.nd rfl (Or.inl rfl) (z5A rfl rfl T.z_dict (z05 (z0h z0b z0q (pv 0) (z05 z01) (fun _ _=>rfl))) (by rfl)) rfl (Or.inl rfl))
  refine (z03 ?_ ?_)
  ·exact (@z0k _ _ _ _ _ _ ([]) (6) _ hnp sc__law_line_due.nd rfl (Or.inl rfl) (z1z z0J (by decide)) rfl (Or.inl rfl))
  refine (z03 ?_ ?_)
  ·refine (z1L PassesOwn.never rfl ?_ ?_ ?_ (by intro _; rfl))
   ·exact (z1j rfl T.z_range (z04 (pv 2)) (by rfl))
   ·exact (@z0w _ _ _ ([]) (7) _ hnp sc__law_line_due.nd rfl (Or.inl rfl) (Or.inl rfl))
   ·refine (z03 ?_ ?_)
    ·exact (z1x (pv 6) (z1U (z07 (z0M z5L z5Q (pv 3) (z05 (z0h z0b z0q (pv 0) (z05 z01) (fun _ _=>rfl)))) (z07 (z0M z5L z5Q (pv 4) (z05 (z0h z0b z0q (pv 0) (z05 z01) (fun _ _=>rfl)))) z0J (by rfl)) (by rfl)) (by decide)) (by rfl) (by rfl) (by rfl) (by rfl) (by rfl))
    refine (z03 ?_ ?_)
    ·exact (@z0k _ _ _ _ _ _ ([]) (3) _ hnp sc__law_line_due.nd rfl (Or.inl rfl) (z0M z44 z5R (pv 3) (z05 (z0h z0b z0q (pv 0) (z05 z01) (fun _ _=>rfl)))) rfl (Or.inl rfl))
    refine (z0f ?_)
    exact (@z0k _ _ _ _ _ _ ([]) (4) _ hnp sc__law_line_due.nd rfl (Or.inl rfl) (z0M z44 z5R (pv 4) (z05 (z0h z0b z0q (pv 0) (z05 z01) (fun _ _=>rfl)))) rfl (Or.inl rfl))
  refine (z03 ?_ ?_)
  ·exact (@z0k _ _ _ _ _ _ ([]) (8) _ hnp sc__law_line_due.nd rfl (Or.inl rfl) (z1z (z07 (z04 (pv 1)) z0J (by rfl)) (by decide)) rfl (Or.inl rfl))
  refine (z03 ?_ ?_)
  ·refine (z1L PassesOwn.never rfl ?_ ?_ ?_ (by intro _; rfl))
   ·exact (z3T (ze0 (z0i (pv 6)) zbq))
   ·exact (z5y rfl (z10 (@z0w _ _ _ ([]) (9) _ hnp sc__law_line_due.nd rfl (Or.inl rfl) (Or.inl rfl)) (z10 (@z0w _ _ _ ([]) (10) _ hnp sc__law_line_due.nd rfl (Or.inl rfl) (Or.inl rfl)) z3U (by rfl)) (by rfl)) (by rfl) (by rfl))
   ·refine (z0f ?_)
    exact (z1x (pv 8) (z4q z0b z0q (z4q z0b z0q (z0h (ix_X hq) zbm (pv 5) (z05 (z0h z0b z0q (pv 8) (z05 (z4p (z05 z01))) (fun _ _=>rfl))) (fun _ _=>rfl)) (z0i (pv 9)) (fun _ _=>rfl)) (z0i (pv 10)) (fun _ _=>rfl)) (by rfl) (by rfl) (by rfl) (by rfl) (by rfl))
  refine (z0f ?_)
  exact (zaA hnp (pv 8))) fun ss y h=>z0E h
def z6a:DS:=(dRet (eOp pIx (z09 z0Y [.val (eVar 0),.val (eVar 1),.val (eD (.int 140)),.val (eVar 2),.val (eVar 3)]) (bOf (eC1 pNeg (bOf (eD (.int 1)))))))
def z2a:DF:=gOf [] 4 z6a
theorem z4G:z1t z2a:=z0o
theorem z9S:FnScope ["rule","tile","row","column"] ["rule","tile","row","column"] (z06 z5F):=⟨rfl,rfl,rfl,by decide +kernel,rfl,by decide +kernel,by decide +kernel⟩
theorem za7 {K:W3} (F:Fun K "_law_at" "_law_at" z5F f fd) (hm:mg "_law_at" = some (.ref f)) (hb:Binds K fd ["rule","tile","row","column"] []) (T:Txt ce K mg) (k__law_line_due:KFn P w K mg base 1 "_law_line_due" 5 z0Y):KFn P w K mg base 2 "_law_at" 4 z2a :=
 z15 (np:=[]) (fb:=z6a) F hm hb z9S (fun c cdv A outer s H E hr hnp=>by
  have hq:=z1C hr
  refine (z0f ?_)
  refine (z0y ?_)
  exact (z4q z0b z0q (@z0j _ _ _ _ _ (1) _ _ _ _ _ k__law_line_due z4c (hr.mono (by decide)) rfl (z00 (z04 (pv 0)) (z00 (z04 (pv 1)) (z00 z01 (z00 (z04 (pv 2)) (z00 (z04 (pv 3)) z0n (by rfl)) (by rfl)) (by rfl)) (by rfl)) (by rfl)) rfl (by decide) (by rfl) (by rfl)) (z05 (z4p (z05 z01))) (fun _ _=>rfl))) fun ss y h=>z0E h
def z36:DS:=(dRet (eAnd (eIsi "str" (bVar 0)) (eOp pEq (eC1 pLen (bVar 0)) (bOf (eD (.int 1))))))
def z1g:DF:=gOf [] 1 z36
theorem z4W:z1t z1g:=z0o
theorem z6f:FnScope ["found"] ["found"] (z06 z2Y):=⟨rfl,rfl,rfl,by decide +kernel,rfl,by decide +kernel,by decide +kernel⟩
theorem z6i {K:W3} (F:Fun K "_law_letter" "_law_letter" z2Y f fd) (hm:mg "_law_letter" = some (.ref f)) (hb:Binds K fd ["found"] []) (T:Txt ce K mg):KFn P w K mg base 1 "_law_letter" 1 z1g :=
 z15 (np:=[]) (fb:=z36) F hm hb z6f (fun c cdv A outer s H E hr hnp=>by
  have hq:=z1C hr
  refine (z0f ?_)
  refine (z0y ?_)
  exact (z99 (z7s T.ty_str rfl T.z_isinstance rfl T.z_str boot_str (z0i (pv 0)) (by decide) (by decide) (by rfl) (by rfl)) (zaK (z6A (z2p hq) z46 (z3L rfl T.z_len (z0i (pv 0)) (by rfl)) (z05 z01) (z0Q _))))) fun ss y h=>z0E h
def z2y:DS:=(dSeq (dIf (dOr (dNot (dTr (eIsi "tuple" (bVar 0)))) (dNot (dTr (eC1 pAll (bOf (z2s [2] (iSq (eVar 0)) (gNm [] 2) dYes (eIsi "str" (bVar 2)))))))) (dRet (eD (.bl false))) z1n) (dRet (eOpF pEq 0 (bVar 1))))
def z0C:DF:=gOf [] 3 z2y
theorem z2q:z1t z0C:=z0o
theorem sc__law_floor_is:FnScope ["found","due","row"] ["found","due"] (z06 z2n):=⟨rfl,rfl,rfl,by decide +kernel,rfl,by decide +kernel,by decide +kernel⟩
theorem z5d {K:W3} (F:Fun K "_law_floor_is" "_law_floor_is" z2n f fd) (hm:mg "_law_floor_is" = some (.ref f)) (hb:Binds K fd ["found","due"] []) (T:Txt ce K mg):KFn P w K mg base 1 "_law_floor_is" 2 z0C :=
 z15 (np:=[]) (fb:=z2y) F hm hb sc__law_floor_is (fun c cdv A outer s H E hr hnp=>by
  have hq:=z1C hr
  refine (z03 ?_ ?_)
  ·refine (z2O ?_ ?_ ?_)
   ·exact (z6e (z8j (z4n (z4m (z7s T.ty_tuple rfl T.z_isinstance rfl T.z_tuple boot_tuple (z0i (pv 0)) (by decide) (by decide) (by rfl) (by rfl)) (by intro _; rfl))) (z5w (z4n (z4m (zfj rfl rfl T.z_all (z05 (@z3V _ _ ([2]) _ _ _ _ _ _ _ _ _ _ rfl (z1D rfl rfl) (z3T (z04 (pv 0))) (fun l s0 H0 ex=>(@z1y _ _ _ _ ([]) (2) _ hnp sc__law_floor_is.nd rfl (Or.inl rfl) (Or.inr rfl) (by decide))) (fun l s0 H0 ex=>z3R) (fun l s0 H0 ex=>(z7s T.ty_str rfl T.z_isinstance rfl T.z_str boot_str (z0i (pv 2)) (by decide) (by decide) (by rfl) (by rfl))) (z3P hnp rfl) (by intro _; rfl))) (by rfl)) (by intro _; rfl))))))
   ·refine (z0f ?_)
    refine (z0y ?_)
    exact z4N
   ·exact z1K
  refine (z0f ?_)
  refine (z0y ?_)
  exact (z6T (z2p hq) z46 (pv 0) (z0i (pv 1)) (z0Q _))) fun ss y h=>z0E h
def z22:DS:=(dSeq (dAsg (z09 z12 [.io 0,.val (eOpF pIx 1 (bOf (eD (.int 0))))]) (gNm [0] 3)) (dSeq (dAsg (z09 z12 [.io 0,.val (eOpF pIx 1 (bOf (eD (.int 1))))]) (gNm [0] 4)) (dSeq (dAsg (eOp pAdd (eD (.int 1)) (bOf (eOp z1a (z09 z0a [.io 0,.val (eD (.int 5))]) (bOf (eC1 pInt (bOf (eOp pGt (eOpF pIx 1 (bOf (eD (.int 0)))) (bOf (eD (.int 1)))))))))) (gNm [0] 5)) (dSeq (dAsg (eOp pAdd (eD (.int 1)) (bOf (eOp z1a (z09 z0a [.io 0,.val (eD (.int 5))]) (bOf (eC1 pInt (bOf (eOp pGt (eOpF pIx 1 (bOf (eD (.int 1)))) (bOf (eD (.int 1)))))))))) (gNm [0] 6)) (dSeq (dAsg (z2t z0t [.val (eVar 1),.val (eVar 2),.val (eVar 3),.val (eVar 4)]) (gNm [0] 7)) (dSeq (dIf (dOr (dNot (dTr (z09 z1g [.val (eVar 7)]))) (dTr (eOpF pNe 7 (bOf (z09 z2a [.val (eVar 1),.val (eVar 2),.val (eVar 3),.val (eVar 4)]))))) (dRet (eD (.bl false))) z1n) (dSeq (dAsg (eLst aNil) (gNm [0] 8)) (dSeq (dFor (z2g (eVar 3) (eOpF pAdd 3 (bVar 5))) (gNm [0] 9) (z0A 8 (eC1 (z3k []) (bOf (z2s [10] (z2g (eVar 4) (eOpF pAdd 4 (bVar 6))) (gNm [0] 10) dYes (z09 z2a [.val (eVar 1),.val (eVar 2),.val (eVar 9),.val (eVar 10)])))))) (dRet (z09 z0C [.val (z2t z0d [.val (eVar 1),.val (eVar 2),.val (eVar 3),.val (eVar 4),.val (eVar 5),.val (eVar 6)]),.val (eC1 z1k (bVar 8))]))))))))))
def z0O:DF:=gOf [0] 11 z22
theorem z3q:z1t z0O:=z0o
theorem sc__law_cuts_right:FnScope ["pen","rule","tile","row","column","high","wide","found","due","line","spot"] ["pen","rule","tile"] (z06 z1X):=⟨rfl,rfl,rfl,by decide +kernel,rfl,by decide +kernel,by decide +kernel⟩
theorem z4v {K:W3} (F:Fun K "_law_cuts_right" "_law_cuts_right" z1X f fd) (hm:mg "_law_cuts_right" = some (.ref f)) (hb:Binds K fd ["pen","rule","tile"] []) (T:Txt ce K mg) (k__law_draw:KFn P w K mg base 2 "_law_draw" 2 z0a) (k__law_far_of:KFn P w K mg base 3 "_law_far_of" 2 z12) (k_still_cut:KFnX P w K mg base 4 "still_cut" 6 z0d) (k_still_at:KFnX P w K mg base 5 "still_at" 4 z0t) (k__law_at:KFn P w K mg base 2 "_law_at" 4 z2a) (k__law_letter:KFn P w K mg base 1 "_law_letter" 1 z1g) (k__law_floor_is:KFn P w K mg base 1 "_law_floor_is" 2 z0C):KFn P w K mg base 6 "_law_cuts_right" 3 z0O :=
 z15 (np:=[0]) (fb:=z22) F hm hb sc__law_cuts_right (fun c cdv A outer s H E hr hnp=>by
  have hq:=z1C hr
  refine (z03 ?_ ?_)
  ·exact (@z0k _ _ _ _ _ _ ([0]) (3) _ hnp sc__law_cuts_right.nd rfl (Or.inl rfl) (@z0j _ _ _ _ _ (3) _ _ _ _ _ k__law_far_of z2T (hr.mono (by decide)) rfl (z1o (pv 0) (z00 (z0h z0b z0q (pv 1) (z05 z01) (fun _ _=>rfl)) z0n (by rfl)) (by rfl)) rfl (by decide) (by rfl) (by rfl)) rfl (Or.inl rfl))
  refine (z03 ?_ ?_)
  ·exact (@z0k _ _ _ _ _ _ ([0]) (4) _ hnp sc__law_cuts_right.nd rfl (Or.inl rfl) (@z0j _ _ _ _ _ (3) _ _ _ _ _ k__law_far_of z2T (hr.mono (by decide)) rfl (z1o (pv 0) (z00 (z0h z0b z0q (pv 1) (z05 z01) (fun _ _=>rfl)) z0n (by rfl)) (by rfl)) rfl (by decide) (by rfl) (by rfl)) rfl (Or.inl rfl))
  refine (z03 ?_ ?_)
  ·exact (@z0k _ _ _ _ _ _ ([0]) (5) _ hnp sc__law_cuts_right.nd rfl (Or.inl rfl) (z0S z0v z0P z01 (z05 (z0S z1N z1O (@z0j _ _ _ _ _ (2) _ _ _ _ _ k__law_draw z0l (hr.mono (by decide)) rfl (z1o (pv 0) (z00 z01 z0n (by rfl)) (by rfl)) rfl (by decide) (by rfl) (by rfl)) (z05 (z5z rfl T.z_int (z05 (z6A z9n z4y (z0h z0b z0q (pv 1) (z05 z01) (fun _ _=>rfl)) (z05 z01) (z0Q _))) (by rfl)))))) rfl (Or.inl rfl))
  refine (z03 ?_ ?_)
  ·exact (@z0k _ _ _ _ _ _ ([0]) (6) _ hnp sc__law_cuts_right.nd rfl (Or.inl rfl) (z0S z0v z0P z01 (z05 (z0S z1N z1O (@z0j _ _ _ _ _ (2) _ _ _ _ _ k__law_draw z0l (hr.mono (by decide)) rfl (z1o (pv 0) (z00 z01 z0n (by rfl)) (by rfl)) rfl (by decide) (by rfl) (by rfl)) (z05 (z5z rfl T.z_int (z05 (z6A z9n z4y (z0h z0b z0q (pv 1) (z05 z01) (fun _ _=>rfl)) (z05 z01) (z0Q _))) (by rfl)))))) rfl (Or.inl rfl))
  refine (z03 ?_ ?_)
  ·exact (@z0k _ _ _ _ _ _ ([0]) (7) _ hnp sc__law_cuts_right.nd rfl (Or.inl rfl) (@z5m _ _ _ _ _ (5) _ _ _ _ _ k_still_at z2J (hr.mono (by decide)) rfl rfl (z00 (z04 (pv 1)) (z00 (z04 (pv 2)) (z00 (z04 (pv 3)) (z00 (z04 (pv 4)) z0n (by rfl)) (by rfl)) (by rfl)) (by rfl)) rfl (by decide) (by rfl) (by rfl)) rfl (Or.inl rfl))
  refine (z03 ?_ ?_)
  ·refine (z2O ?_ ?_ ?_)
   ·exact (z6e (z8j (z4n (z4m (@z0j _ _ _ _ _ (1) _ _ _ _ _ k__law_letter z4W (hr.mono (by decide)) rfl (z00 (z04 (pv 7)) z0n (by rfl)) rfl (by decide) (by rfl) (by rfl)) (by intro _; rfl))) (z5w (z2D (z54 hq) z7O (pv 7) (z05 (@z0j _ _ _ _ _ (2) _ _ _ _ _ k__law_at z4G (hr.mono (by decide)) rfl (z00 (z04 (pv 1)) (z00 (z04 (pv 2)) (z00 (z04 (pv 3)) (z00 (z04 (pv 4)) z0n (by rfl)) (by rfl)) (by rfl)) (by rfl)) rfl (by decide) (by rfl) (by rfl))) (z0Q _)))))
   ·refine (z0f ?_)
    refine (z0y ?_)
    exact z4N
   ·exact z1K
  refine (z03 ?_ ?_)
  ·exact (@z0k _ _ _ _ _ _ ([0]) (8) _ hnp sc__law_cuts_right.nd rfl (Or.inl rfl) (z1z z0J (by decide)) rfl (Or.inl rfl))
  refine (z03 ?_ ?_)
  ·refine (z1L PassesOwn.never rfl ?_ ?_ ?_ (by intro _; rfl))
   ·exact (z6z rfl T.z_range (z04 (pv 3)) (z0M z0v z0P (pv 3) (z0i (pv 5))) (by rfl) (by rfl) (by rfl))
   ·exact (@z0w _ _ _ ([0]) (9) _ hnp sc__law_cuts_right.nd rfl (Or.inr rfl) (Or.inl rfl))
   ·refine (z0f ?_)
    exact (z1x (pv 8) (z8q [] (z05 (@z3V _ _ ([10]) _ _ _ _ _ _ _ _ _ _ rfl (z1D rfl rfl) (z6z rfl T.z_range (z04 (pv 4)) (z0M z0v z0P (pv 4) (z0i (pv 6))) (by rfl) (by rfl) (by rfl)) (fun l s0 H0 ex=>(@z1y _ _ _ _ ([0]) (10) _ hnp sc__law_cuts_right.nd rfl (Or.inl rfl) (Or.inr rfl) (by decide))) (fun l s0 H0 ex=>z3R) (fun l s0 H0 ex=>(@z0j _ _ _ _ _ (2) _ _ _ _ _ k__law_at z4G (hr.mono (by decide)) rfl (z00 (z04 (pv 1)) (z00 (z04 (pv 2)) (z00 (z04 (pv 9)) (z00 (z04 (pv 10)) z0n (by rfl)) (by rfl)) (by rfl)) (by rfl)) rfl (by decide) (by rfl) (by rfl))) (z3P hnp rfl) (by intro _; rfl))) (by decide +kernel) (by rfl) (by rfl) (by rfl) (by rfl)) (by rfl) (by rfl) (by rfl) (by rfl) (by rfl))
  refine (z0f ?_)
  refine (z0y ?_)
  exact (@z0j _ _ _ _ _ (1) _ _ _ _ _ k__law_floor_is z2q (hr.mono (by decide)) rfl (z00 (@z5m _ _ _ _ _ (4) _ _ _ _ _ k_still_cut z1P (hr.mono (by decide)) rfl rfl (z00 (z04 (pv 1)) (z00 (z04 (pv 2)) (z00 (z04 (pv 3)) (z00 (z04 (pv 4)) (z00 (z04 (pv 5)) (z00 (z04 (pv 6)) z0n (by rfl)) (by rfl)) (by rfl)) (by rfl)) (by rfl)) (by rfl)) rfl (by decide) (by rfl) (by rfl)) (z00 (z2V rfl T.z_tuple (z0i (pv 8)) (by rfl)) z0n (by rfl)) (by rfl)) rfl (by decide) (by rfl) (by rfl))) fun ss y h=>z0E h
def z2v:DS:=(dRet (z2s [1,2] (iSq (eOpF pIx 0 (bOf (eD (.int 2))))) (gTp 2 (z0u (gNm [] 1) (z0u (gNm [] 2) z2c))) dYes (eVar 1)))
def z0W:DF:=gOf [] 3 z2v
theorem z4a:z1t z0W:=z0o
theorem sc__law_tiles_of:FnScope ["rule","tile","block"] ["rule"] (z06 z2k):=⟨rfl,rfl,rfl,by decide +kernel,rfl,by decide +kernel,by decide +kernel⟩
theorem z5a {K:W3} (F:Fun K "_law_tiles_of" "_law_tiles_of" z2k f fd) (hm:mg "_law_tiles_of" = some (.ref f)) (hb:Binds K fd ["rule"] []) (T:Txt ce K mg):KFn P w K mg base 1 "_law_tiles_of" 1 z0W :=
 z15 (np:=[]) (fb:=z2v) F hm hb sc__law_tiles_of (fun c cdv A outer s H E hr hnp=>by
  have hq:=z1C hr
  refine (z0f ?_)
  refine (z0y ?_)
  exact (@z3V _ _ ([1,2]) _ _ _ _ _ _ _ _ _ _ rfl (z1D rfl rfl) (z3T (z0h z0b z0q (pv 0) (z05 z01) (fun _ _=>rfl))) (fun l s0 H0 ex=>(z8p rfl (z2Q (@z1y _ _ _ _ ([]) (1) _ hnp sc__law_tiles_of.nd rfl (Or.inl rfl) (Or.inr rfl) (by decide)) (z2Q (@z1y _ _ _ _ ([]) (2) _ hnp sc__law_tiles_of.nd rfl (Or.inl rfl) (Or.inr rfl) (by decide)) z6S (by rfl)) (by rfl)) (by rfl) (by rfl))) (fun l s0 H0 ex=>z3R) (fun l s0 H0 ex=>(z04 (pv 1))) (z3P hnp rfl) (by intro _; rfl))) fun ss y h=>z0E h
abbrev B16_:DS:=dAsg (eOpF pAdd 4 (bOf (eLst (z0c (eLst (z0c (eOpF pIx 2 (bOf (eD (.int 0)))) aNil)) (z0c (eTup (z0c (eOpF pIx 2 (bOf (eD (.int 0)))) aNil)) (z0c zbR (z0c (eOpF pIx 3 (bOf (eD (.int 0)))) (z0c (eOpF pIx 3 (bOf (eC1 pNeg (bOf (eD (.int 1)))))) (z0c (eD (.str [49])) aNil))))))))) (gNm [0] 4)
abbrev B21_:DS:=dAsg (z2s [5] (iSq (eD (.str [97,98,99,100,101,102,103,104,105,106,107,108,109,110,111,112,113,114,115,116,117,118,119,120,121,122]))) (gNm [0] 5) (dTr (eOp (pIn true) (eVar 5) (bVar 2))) (eVar 5)) (gNm [0] 3)
def z2w:DS:=(dSeq (dAsg (z09 z0W [.val (eVar 1)]) (gNm [0] 2)) (dSeq (B21_) (dSeq (dAsg (eLst (z0c (eD .non) (z0c (eD (.int 0)) (z0c (eD (.bl true)) (z0c (eD (.str [])) (z0c (eOp z1a (eOpF pIx 2 (bOf (eD (.int 0)))) (bOf (eD (.int 2)))) (z0c (eC1 z6F (bOf (eOpF pIx 2 (bOf (eD (.int 0)))))) aNil))))))) (gNm [0] 4)) (dSeq (B16_) (dRet (eOpF pIx 4 (bOf (z09 z0a [.io 0,.val (eD (.int 12))]))))))))
def z0X:DF:=gOf [0] 6 z2w
theorem z4b:z1t z0X:=z0o
theorem sc__law_odd_tile:FnScope ["pen","rule","tiles","some","odd","sign"] ["pen","rule"] (z06 z2l):=⟨rfl,rfl,rfl,by decide +kernel,rfl,by decide +kernel,by decide +kernel⟩
theorem z5b {K:W3} (F:Fun K "_law_odd_tile" "_law_odd_tile" z2l f fd) (hm:mg "_law_odd_tile" = some (.ref f)) (hb:Binds K fd ["pen","rule"] []) (T:Txt ce K mg) (k__law_draw:KFn P w K mg base 2 "_law_draw" 2 z0a) (k__law_tiles_of:KFn P w K mg base 1 "_law_tiles_of" 1 z0W):KFn P w K mg base 3 "_law_odd_tile" 2 z0X :=
 z15 (np:=[0]) (fb:=z2w) F hm hb sc__law_odd_tile (fun c cdv A outer s H E hr hnp=>by
  have hq:=z1C hr
  refine (z03 ?_ ?_)
  ·exact (@z0k _ _ _ _ _ _ ([0]) (2) _ hnp sc__law_odd_tile.nd rfl (Or.inr rfl) (@z0j _ _ _ _ _ (1) _ _ _ _ _ k__law_tiles_of z4a (hr.mono (by decide)) rfl (z00 (z04 (pv 1)) z0n (by rfl)) rfl (by decide) (by rfl) (by rfl)) rfl (Or.inl rfl))
  refine (z03 ?_ ?_)
  ·exact (@z4M _ _ ([5]) _ _ _ _ _ _ _ _ _ _ ([0]) (3) _ _ _ hnp rfl (z1D rfl rfl) sc__law_odd_tile.nd rfl rfl (z3T (z39 [97,98,99,100,101,102,103,104,105,106,107,108,109,110,111,112,113,114,115,116,117,118,119,120,121,122] (by decide +kernel))) (fun l s0 H0 ex=>(@z1y _ _ _ _ ([0]) (5) _ hnp sc__law_odd_tile.nd rfl (Or.inl rfl) (Or.inr rfl) (by decide))) (fun l s0 H0 ex=>(z8l (z25 (z8C hq) (zcR true) (z04 (pv 5)) (z0i (pv 2)) rfl))) (fun l s0 H0 ex=>(z04 (pv 5))) (z3P hnp rfl) (by rfl) (by intro _; rfl))
  refine (z03 ?_ ?_)
  ·exact (@z0k _ _ _ _ _ _ ([0]) (4) _ hnp sc__law_odd_tile.nd rfl (Or.inl rfl) (z1z (z07 z97 (z07 z01 (z07 z4N (z07 (z39 [] (by decide +kernel)) (z07 (z0S z1N z1O (z0h z0b z0q (pv 2) (z05 z01) (fun _ _=>rfl)) (z05 z01)) (z07 (zcm (z05 (z0h z0b z0q (pv 2) (z05 z01) (fun _ _=>rfl))) (by rfl) (by rfl)) z0J (by rfl)) (by rfl)) (by rfl)) (by rfl)) (by rfl)) (by rfl)) (by decide)) rfl (Or.inl rfl))
  refine (z03 ?_ ?_)
  ·exact (@z0k _ _ _ _ _ _ ([0]) (4) _ hnp sc__law_odd_tile.nd rfl (Or.inl rfl) (z0M z0v z0P (pv 4) (z05 (z1z (z07 (z1z (z07 (z0h z0b z0q (pv 2) (z05 z01) (fun _ _=>rfl)) z0J (by rfl)) (by decide)) (z07 (z1U (z07 (z0h z0b z0q (pv 2) (z05 z01) (fun _ _=>rfl)) z0J (by rfl)) (by decide)) (z07 zco (z07 (z0h z0b z0q (pv 3) (z05 z01) (fun _ _=>rfl)) (z07 (z0h z0b z0q (pv 3) (z05 (z4p (z05 z01))) (fun _ _=>rfl)) (z07 (z39 [49] (by decide +kernel)) z0J (by rfl)) (by rfl)) (by rfl)) (by rfl)) (by rfl)) (by rfl)) (by decide)))) rfl (Or.inl rfl))
  refine (z0f ?_)
  refine (z0y ?_)
  exact (z0h z0b z0q (pv 4) (z05 (@z0j _ _ _ _ _ (2) _ _ _ _ _ k__law_draw z0l (hr.mono (by decide)) rfl (z1o (pv 0) (z00 z01 z0n (by rfl)) (by rfl)) rfl (by decide) (by rfl) (by rfl))) (fun _ _=>rfl))) fun ss y h=>z0E h
def z24 (ce:Tx→Nat):DS:=(dSeq (dAsg (eLst (z0c (eIsC ce ys (fun z=>z == [78,111,70,108,111,111,114]) (bVar 0)) (z0c (eIsC ce ys (fun z=>z == [78,111,80,108,97,99,101]) (bVar 0)) aNil))) (gNm [] 1)) (dSeq (dAsg (eOpF pAdd 1 (bOf (eLst (z0c (eIsC ce ys (fun z=>z == [78,111,78,117,109,98,101,114]) (bVar 0)) (z0c (eIsC ce ys (fun z=>z == [78,111,82,111,119]) (bVar 0)) aNil))))) (gNm [] 1)) (dSeq (dAsg (eOpF pAdd 1 (bOf (eLst (z0c (eIsC ce ys (fun z=>z == [85,110,108,105,107,101]) (bVar 0)) (z0c (eIsC ce ys (fun z=>z == [78,111,84,105,108,101]) (bVar 0)) aNil))))) (gNm [] 1)) (dSeq (dAsg (eOpF pAdd 1 (bOf (eLst (z0c (eIsC ce ys (fun z=>z == [78,111,82,117,108,101]) (bVar 0)) (z0c (eIsC ce ys (fun z=>z == [78,111,84,101,120,116]) (bVar 0)) aNil))))) (gNm [] 1)) (dSeq (z0A 1 (eIsC ce ys (fun z=>z == [84,111,111,71,114,101,97,116]) (bVar 0))) (dSeq (dIf (dOr (dNot (dTr (eIsC ce ys (fun _=>true) (bVar 0)))) (dTr (eOp pNe (eC1 z5J (bVar 1)) (bOf (eD (.int 1)))))) (dRet (eD (.str [111,116,104,101,114]))) z1n) (dSeq (dAsg (z3K [.str [102,108,111,111,114],.str [112,108,97,99,101],.str [110,117,109,98,101,114],.str [114,111,119],.str [117,110,108,105,107,101],.str [116,105,108,101],.str [114,117,108,101],.str [116,101,120,116],.str [103,114,101,97,116]]) (gNm [] 2)) (dRet (eOpF pIx 2 (bOf (eC1 z43 (bVar 1))))))))))))
def z0p (ce:Tx→Nat):DF:=gOf [] 3 (z24 ce)
theorem z4E {ce:Tx→Nat}:z1t (z0p ce):=z0o
theorem sc__law_kind_of:FnScope ["e","marks","words"] ["e"] (z06 z2H):=⟨rfl,rfl,rfl,by decide +kernel,rfl,by decide +kernel,by decide +kernel⟩
theorem z59 {K:W3} (F:Fun K "_law_kind_of" "_law_kind_of" z2H f fd) (hm:mg "_law_kind_of" = some (.ref f)) (hb:Binds K fd ["e"] []) (T:Txt ce K mg):KFnH P w K mg base 1 "_law_kind_of" 1 (z0p ce) :=
 zeK (np:=[]) (fb:=(z24 ce)) F hm hb sc__law_kind_of (fun c cdv A outer s H E hr hnp=>by
  have hq:=zgo hr
  refine (z03 ?_ ?_)
  ·exact (@z0k _ _ _ _ _ _ ([]) (1) _ hnp sc__law_kind_of.nd rfl (Or.inl rfl) (z1z (z07 (z4r T.i_a rfl T.z_isinstance rfl T.c_a (z0i (pv 0)) (by decide) (by rfl) (by rfl)) (z07 (z4r T.i_b rfl T.z_isinstance rfl T.c_b (z0i (pv 0)) (by decide) (by rfl) (by rfl)) z0J (by rfl)) (by rfl)) (by decide)) rfl (Or.inl rfl))
  refine (z03 ?_ ?_)
  ·exact (@z0k _ _ _ _ _ _ ([]) (1) _ hnp sc__law_kind_of.nd rfl (Or.inl rfl) (z0M z0v z0P (pv 1) (z05 (z1z (z07 (z4r T.i_c rfl T.z_isinstance rfl T.c_c (z0i (pv 0)) (by decide) (by rfl) (by rfl)) (z07 (z4r T.i_d rfl T.z_isinstance rfl T.c_d (z0i (pv 0)) (by decide) (by rfl) (by rfl)) z0J (by rfl)) (by rfl)) (by decide)))) rfl (Or.inl rfl))
  refine (z03 ?_ ?_)
  ·exact (@z0k _ _ _ _ _ _ ([]) (1) _ hnp sc__law_kind_of.nd rfl (Or.inl rfl) (z0M z0v z0P (pv 1) (z05 (z1z (z07 (z4r T.i_e rfl T.z_isinstance rfl T.c_e (z0i (pv 0)) (by decide) (by rfl) (by rfl)) (z07 (z4r T.i_f rfl T.z_isinstance rfl T.c_f (z0i (pv 0)) (by decide) (by rfl) (by rfl)) z0J (by rfl)) (by rfl)) (by decide)))) rfl (Or.inl rfl))
  refine (z03 ?_ ?_)
  ·exact (@z0k _ _ _ _ _ _ ([]) (1) _ hnp sc__law_kind_of.nd rfl (Or.inl rfl) (z0M z0v z0P (pv 1) (z05 (z1z (z07 (z4r T.i_g rfl T.z_isinstance rfl T.c_g (z0i (pv 0)) (by decide) (by rfl) (by rfl)) (z07 (z4r T.i_h rfl T.z_isinstance rfl T.c_h (z0i (pv 0)) (by decide) (by rfl) (by rfl)) z0J (by rfl)) (by rfl)) (by decide)))) rfl (Or.inl rfl))
  refine (z03 ?_ ?_)
  ·exact (z1x (pv 1) (z4r T.i_i rfl T.z_isinstance rfl T.c_i (z0i (pv 0)) (by decide) (by rfl) (by rfl)) (by rfl) (by rfl) (by rfl) (by rfl) (by rfl))
  refine (z03 ?_ ?_)
  ·refine (z2O ?_ ?_ ?_)
   ·exact (z6e (z8j (z4n (z4m (zfi T.i_ValueError rfl T.z_isinstance rfl T.z_ValueError z69 (z0i (pv 0)) (by decide) (by decide) (by rfl) (by rfl)) (by intro _; rfl))) (z5w (z25 (z54 hq) z7O (zcp (z0i (pv 1)) (by rfl) (by rfl) (by rfl) (by rfl)) (z05 z01) (z0Q _)))))
   ·refine (z0f ?_)
    refine (z0y ?_)
    exact (z39 [111,116,104,101,114] (by decide +kernel))
   ·exact z1K
  refine (z03 ?_ ?_)
  ·exact (@z0k _ _ _ _ _ _ ([]) (2) _ hnp sc__law_kind_of.nd rfl (Or.inl rfl) (z3d (by rfl) (by decide)) rfl (Or.inl rfl))
  refine (z0f ?_)
  refine (z0y ?_)
  exact (z0h z0b z0q (pv 2) (z05 (zcn (z0i (pv 1)) (by rfl) (by rfl) (by rfl) (by rfl))) (fun _ _=>rfl))) fun ss y h=>z0E h
def z2u (ce:Tx→Nat):DS:=(dSeq (dTry ce ys 5 (dIf (dTr (eOpF pEq 0 (bOf (eD (.int 0))))) (z6q (z1r z0t [.val (eVar 1),.val (eVar 2),.val (eOpF pIx 3 (bOf (eD (.int 0)))),.val (eOpF pIx 3 (bOf (eD (.int 1))))])) (z6q (z1r z0d [.val (eVar 1),.val (eVar 2),.val (eOpF pIx 3 (bOf (eD (.int 0)))),.val (eOpF pIx 3 (bOf (eD (.int 1)))),.val (eOpF pIx 4 (bOf (eD (.int 0)))),.val (eOpF pIx 4 (bOf (eD (.int 1))))]))) (dRet (z09 (z0p ce) [.val (eVar 5)]))) (dRet (eD (.str [116,111,108,100]))))
def z0F (ce:Tx→Nat):DF:=gOf [] 6 (z2u ce)
theorem z1q {ce:Tx→Nat}:z1t (z0F ce):=z0o
theorem sc__law_told:FnScope ["way","rule","tile","place","sizes","e"] ["way","rule","tile","place","sizes"] (z06 z40):=⟨rfl,rfl,rfl,by decide +kernel,rfl,by decide +kernel,by decide +kernel⟩
theorem z7L {K:W3} (F:Fun K "_law_told" "_law_told" z40 f fd) (hm:mg "_law_told" = some (.ref f)) (hb:Binds K fd ["way","rule","tile","place","sizes"] []) (T:Txt ce K mg) (k_still_cut:KFnX P w K mg base 4 "still_cut" 6 z0d) (k_still_at:KFnX P w K mg base 5 "still_at" 4 z0t) (h__law_kind_of:KFnH P w K mg base 1 "_law_kind_of" 1 (z0p ce)):KFn P w K mg base 6 "_law_told" 5 (z0F ce) :=
 z15 (np:=[]) (fb:=(z2u ce)) F hm hb sc__law_told (fun c cdv A outer s H E hr hnp=>by
  have hq:=z1C hr
  refine (z03 ?_ ?_)
  ·refine zfc (ce:=ce) (ys:=ys) (i:=5) hnp rfl rfl sc__law_told.nd rfl rfl rfl T.c_j T.q_j (fun y hy=>T.m_j y hy) ?_ ?_
   ·intro c pn xe hnp hxo
    refine (z0f ?_)
    refine (z2O ?_ ?_ ?_)
    ·exact (z2D (z2p hq) z46 (pv 0) (z05 z01) (z0Q _))
    ·refine (z0f ?_)
     exact (z6Q (@z5l _ _ _ _ _ (5) _ _ _ _ _ k_still_at z2J (hr.mono (by decide)) rfl hxo rfl (z00 (z04 (pv 1)) (z00 (z04 (pv 2)) (z00 (z0h z0b z0q (pv 3) (z05 z01) (fun _ _=>rfl)) (z00 (z0h z0b z0q (pv 3) (z05 z01) (fun _ _=>rfl)) z0n (by rfl)) (by rfl)) (by rfl)) (by rfl)) rfl (by decide) (by rfl) (by rfl)) (by rfl))
    ·refine (z0f ?_)
     exact (z6Q (@z5l _ _ _ _ _ (4) _ _ _ _ _ k_still_cut z1P (hr.mono (by decide)) rfl hxo rfl (z00 (z04 (pv 1)) (z00 (z04 (pv 2)) (z00 (z0h z0b z0q (pv 3) (z05 z01) (fun _ _=>rfl)) (z00 (z0h z0b z0q (pv 3) (z05 z01) (fun _ _=>rfl)) (z00 (z0h z0b z0q (pv 4) (z05 z01) (fun _ _=>rfl)) (z00 (z0h z0b z0q (pv 4) (z05 z01) (fun _ _=>rfl)) z0n (by rfl)) (by rfl)) (by rfl)) (by rfl)) (by rfl)) (by rfl)) rfl (by decide) (by rfl) (by rfl)) (by rfl))
   ·intro ea
    refine (z0f ?_)
    refine (z0y ?_)
    exact (@zcq _ _ _ _ _ (1) _ _ _ _ _ h__law_kind_of z4E ((hr.h.mono (by decide)).mark _) rfl (z00 (z04 (pv 5)) z0n (by rfl)) rfl (by decide) (by rfl) (by rfl))
  refine (z0f ?_)
  refine (z0y ?_)
  exact (z39 [116,111,108,100] (by decide +kernel))) fun ss y h=>z0E h
abbrev B12_:DS:=dAsg (z2s [10,11] (iSq (eOpF pIx 1 (bOf (eD (.int 2))))) (gTp 2 (z0u (gNm [0] 10) (z0u (gNm [0] 11) z2c))) (dTr (eOp pNe (eOp pIx (eOpF pIx 11 (bOf (eD (.int 0)))) (bOf (eD (.int 0)))) (bVar 10))) (eVar 10)) (gNm [0] 4)
def z1B (ce:Tx→Nat):DS:=(dSeq (dAsg (z09 z0X [.io 0,.val (eVar 1)]) (gNm [0] 3)) (dSeq (B12_) (dSeq (dAsg (eLst (z0c (eC1 pNeg (bOf (eD (.int 1)))) (z0c (eOp pPow (eD (.int 10)) (bOf (eD (.int 40)))) (z0c (eOp pAdd (eOp pPow (eD (.int 10)) (bOf (eD (.int 40)))) (bOf (z09 z0a [.io 0,.val (eOp pPow (eD (.int 10)) (bOf (eD (.int 9))))]))) (z0c (eD (.bl true)) (z0c (eD .non) (z0c (eD (.str [48])) (z0c (eD (.tup [.int 0])) (z0c (z3K [.int 0]) aNil))))))))) (gNm [0] 5)) (dSeq (dIf (dTr (eOp pEq (eOpF pIx 1 (bOf (eD (.int 0)))) (bOf (eD (.int 1))))) (dAsg (eOpF pAdd 5 (bOf (eLst (z0c (eD (.int 1)) (z0c (eOp pAdd (eD (.int 2)) (bOf (z09 z0a [.io 0,.val (eOp pPow (eD (.int 10)) (bOf (eD (.int 9))))]))) aNil))))) (gNm [0] 5)) z1n) (dSeq (dAsg (eOpF pIx 5 (bOf (z09 z0a [.io 0,.val (eC1 pLen (bVar 5))]))) (gNm [0] 6)) (dSeq (dFor (z0K (eD (.int 2))) (gNm [0] 7) (dSeq (dFor (iSq (eOp pAdd (eLst (z0c (eVar 3) aNil)) (bOf (eSlN 4 z4x (z18 (eD (.int 1))))))) (gNm [0] 8) (dIf (dTr (eOp pNe (z09 (z0F ce) [.val (eVar 7),.val (eVar 1),.val (eVar 8),.val (eTup (z0c (eVar 6) (z0c (eD (.int 0)) aNil))),.val (eD (.tup [.int 1,.int 1]))]) (bOf (eD (.str [116,105,108,101]))))) (dRet (eD (.bl false))) z1n)) (dSeq (dIf (dTr (eOp pNe (z09 (z0F ce) [.val (eVar 7),.val (eVar 1),.val (eVar 2),.val (eTup (z0c (eVar 6) (z0c (eD (.int 0)) aNil))),.val (eD (.tup [.int 1,.int 1]))]) (bOf (eD (.str [112,108,97,99,101]))))) (dRet (eD (.bl false))) z1n) (dIf (dTr (eOp pNe (z09 (z0F ce) [.val (eVar 7),.val (eVar 1),.val (eVar 2),.val (eTup (z0c (eD (.int 0)) (z0c (eOp pIx (eLst (z0c (eC1 pNeg (bOf (eD (.int 1)))) (z0c (eOp pPow (eD (.int 10)) (bOf (eD (.int 40)))) (z0c (eD .non) aNil)))) (bOf (z09 z0a [.io 0,.val (eD (.int 3))]))) aNil))),.val (eD (.tup [.int 1,.int 1]))]) (bOf (eD (.str [112,108,97,99,101]))))) (dRet (eD (.bl false))) z1n)))) (dSeq (dAsg (z3K [.str [116,111,108,100],.str [112,108,97,99,101]]) (gNm [0] 9)) (dSeq (dIf (dTr (eOp pNe (z09 (z0F ce) [.val (eD (.int 1)),.val (eVar 1),.val (eVar 2),.val (eD (.tup [.int 0,.int 0])),.val (eD (.tup [.int 2,.int 1]))]) (bOf (eOpF pIx 9 (bOf (eC1 pInt (bOf (eOp pEq (eOpF pIx 1 (bOf (eD (.int 0)))) (bOf (eD (.int 1))))))))))) (dRet (eD (.bl false))) z1n) (dRet (eOp pEq (z09 (z0F ce) [.val (eD (.int 1)),.val (eVar 1),.val (eVar 2),.val (eD (.tup [.int 0,.int 0])),.val (eD (.tup [.int 1,.int 2]))]) (bOf (eOpF pIx 9 (bOf (eC1 pInt (bOf (eOp pEq (eOpF pIx 1 (bOf (eD (.int 1)))) (bOf (eD (.int 1)))))))))))))))))))
def z0B (ce:Tx→Nat):DF:=gOf [0] 12 (z1B ce)
theorem z2S {ce:Tx→Nat}:z1t (z0B ce):=z0o
theorem sc__law_refused_right:FnScope ["pen","rule","tile","bad","others","odd","far","way","one","due","other","block"] ["pen","rule","tile"] (z06 z1A):=⟨rfl,rfl,rfl,by decide +kernel,rfl,by decide +kernel,by decide +kernel⟩
theorem z3l {K:W3} (F:Fun K "_law_refused_right" "_law_refused_right" z1A f fd) (hm:mg "_law_refused_right" = some (.ref f)) (hb:Binds K fd ["pen","rule","tile"] []) (T:Txt ce K mg) (k__law_draw:KFn P w K mg base 2 "_law_draw" 2 z0a) (k__law_odd_tile:KFn P w K mg base 3 "_law_odd_tile" 2 z0X) (k__law_told:KFn P w K mg base 6 "_law_told" 5 (z0F ce)):KFn P w K mg base 7 "_law_refused_right" 3 (z0B ce) :=
 z15 (np:=[0]) (fb:=(z1B ce)) F hm hb sc__law_refused_right (fun c cdv A outer s H E hr hnp=>by
  have hq:=z1C hr
  refine (z03 ?_ ?_)
  ·exact (@z0k _ _ _ _ _ _ ([0]) (3) _ hnp sc__law_refused_right.nd rfl (Or.inl rfl) (@z0j _ _ _ _ _ (3) _ _ _ _ _ k__law_odd_tile z4b (hr.mono (by decide)) rfl (z1o (pv 0) (z00 (z04 (pv 1)) z0n (by rfl)) (by rfl)) rfl (by decide) (by rfl) (by rfl)) rfl (Or.inl rfl))
  refine (z03 ?_ ?_)
  ·exact (@z4M _ _ ([10,11]) _ _ _ _ _ _ _ _ _ _ ([0]) (4) _ _ _ hnp rfl (z1D rfl rfl) sc__law_refused_right.nd rfl rfl (z3T (z0h z0b z0q (pv 1) (z05 z01) (fun _ _=>rfl))) (fun l s0 H0 ex=>(z8p rfl (z2Q (@z1y _ _ _ _ ([0]) (10) _ hnp sc__law_refused_right.nd rfl (Or.inl rfl) (Or.inr rfl) (by decide)) (z2Q (@z1y _ _ _ _ ([0]) (11) _ hnp sc__law_refused_right.nd rfl (Or.inl rfl) (Or.inr rfl) (by decide)) z6S (by rfl)) (by rfl)) (by rfl) (by rfl))) (fun l s0 H0 ex=>(z8l (z25 (z54 hq) z7O (z4q z0b z0q (z0h z0b z0q (pv 11) (z05 z01) (fun _ _=>rfl)) (z05 z01) (fun _ _=>rfl)) (z0i (pv 10)) (z0Q _)))) (fun l s0 H0 ex=>(z04 (pv 10))) (z3P hnp rfl) (by rfl) (by intro _; rfl))
  refine (z03 ?_ ?_)
  ·exact (@z0k _ _ _ _ _ _ ([0]) (5) _ hnp sc__law_refused_right.nd rfl (Or.inl rfl) (z1z (z07 (z4p (z05 z01)) (z07 (z0S z53 z55 z01 (z05 z01)) (z07 (z0S z0v z0P (z0S z53 z55 z01 (z05 z01)) (z05 (@z0j _ _ _ _ _ (2) _ _ _ _ _ k__law_draw z0l (hr.mono (by decide)) rfl (z1o (pv 0) (z00 (z0S z53 z55 z01 (z05 z01)) z0n (by rfl)) (by rfl)) rfl (by decide) (by rfl) (by rfl)))) (z07 z4N (z07 z97 (z07 (z39 [48] (by decide +kernel)) (z07 (z2A (by rfl)) (z07 (z3d (by rfl) (by decide)) z0J (by rfl)) (by rfl)) (by rfl)) (by rfl)) (by rfl)) (by rfl)) (by rfl)) (by rfl)) (by decide)) rfl (Or.inl rfl))
  refine (z03 ?_ ?_)
  ·refine (z2O ?_ ?_ ?_)
   ·exact (z25 (z2p hq) z46 (z0h z0b z0q (pv 1) (z05 z01) (fun _ _=>rfl)) (z05 z01) (z0Q _))
   ·refine (z0f ?_)
    exact (@z0k _ _ _ _ _ _ ([0]) (5) _ hnp sc__law_refused_right.nd rfl (Or.inl rfl) (z0M z0v z0P (pv 5) (z05 (z1z (z07 z01 (z07 (z0S z0v z0P z01 (z05 (@z0j _ _ _ _ _ (2) _ _ _ _ _ k__law_draw z0l (hr.mono (by decide)) rfl (z1o (pv 0) (z00 (z0S z53 z55 z01 (z05 z01)) z0n (by rfl)) (by rfl)) rfl (by decide) (by rfl) (by rfl)))) z0J (by rfl)) (by rfl)) (by decide)))) rfl (Or.inl rfl))
   ·exact z1K
  refine (z03 ?_ ?_)
  ·exact (@z0k _ _ _ _ _ _ ([0]) (6) _ hnp sc__law_refused_right.nd rfl (Or.inl rfl) (z0h z0b z0q (pv 5) (z05 (@z0j _ _ _ _ _ (2) _ _ _ _ _ k__law_draw z0l (hr.mono (by decide)) rfl (z1o (pv 0) (z00 (z3L rfl T.z_len (z0i (pv 5)) (by rfl)) z0n (by rfl)) (by rfl)) rfl (by decide) (by rfl) (by rfl))) (fun _ _=>rfl)) rfl (Or.inl rfl))
  refine (z03 ?_ ?_)
  ·refine (z1L PassesOwn.never rfl ?_ ?_ ?_ (by intro _; rfl))
   ·exact (z1j rfl T.z_range z01 (by rfl))
   ·exact (@z0w _ _ _ ([0]) (7) _ hnp sc__law_refused_right.nd rfl (Or.inl rfl) (Or.inl rfl))
   ·refine (z03 ?_ ?_)
    ·refine (z1L PassesOwn.never rfl ?_ ?_ ?_ (by intro _; rfl))
     ·exact (z3T (z0S z0v z0P (z1z (z07 (z04 (pv 3)) z0J (by rfl)) (by decide)) (z05 (z4o (pv 4) z3S (z1F z01)))))
     ·exact (@z0w _ _ _ ([0]) (8) _ hnp sc__law_refused_right.nd rfl (Or.inl rfl) (Or.inl rfl))
     ·refine (z0f ?_)
      refine (z2O ?_ ?_ ?_)
      ·exact (z25 (z54 hq) z7O (@z0j _ _ _ _ _ (6) _ _ _ _ _ k__law_told z1q (hr.mono (by decide)) rfl (z00 (z04 (pv 7)) (z00 (z04 (pv 1)) (z00 (z04 (pv 8)) (z00 (z1U (z07 (z04 (pv 6)) (z07 z01 z0J (by rfl)) (by rfl)) (by decide)) (z00 (z2A (by rfl)) z0n (by rfl)) (by rfl)) (by rfl)) (by rfl)) (by rfl)) rfl (by decide) (by rfl) (by rfl)) (z05 (z39 [116,105,108,101] (by decide +kernel))) (z0Q _))
      ·refine (z0f ?_)
       refine (z0y ?_)
       exact z4N
      ·exact z1K
    refine (z03 ?_ ?_)
    ·refine (z2O ?_ ?_ ?_)
     ·exact (z25 (z54 hq) z7O (@z0j _ _ _ _ _ (6) _ _ _ _ _ k__law_told z1q (hr.mono (by decide)) rfl (z00 (z04 (pv 7)) (z00 (z04 (pv 1)) (z00 (z04 (pv 2)) (z00 (z1U (z07 (z04 (pv 6)) (z07 z01 z0J (by rfl)) (by rfl)) (by decide)) (z00 (z2A (by rfl)) z0n (by rfl)) (by rfl)) (by rfl)) (by rfl)) (by rfl)) rfl (by decide) (by rfl) (by rfl)) (z05 (z39 [112,108,97,99,101] (by decide +kernel))) (z0Q _))
     ·refine (z0f ?_)
      refine (z0y ?_)
      exact z4N
     ·exact z1K
    refine (z0f ?_)
    refine (z2O ?_ ?_ ?_)
    ·exact (z25 (z54 hq) z7O (@z0j _ _ _ _ _ (6) _ _ _ _ _ k__law_told z1q (hr.mono (by decide)) rfl (z00 (z04 (pv 7)) (z00 (z04 (pv 1)) (z00 (z04 (pv 2)) (z00 (z1U (z07 z01 (z07 (z4q z0b z0q (z1z (z07 (z4p (z05 z01)) (z07 (z0S z53 z55 z01 (z05 z01)) (z07 z97 z0J (by rfl)) (by rfl)) (by rfl)) (by decide)) (z05 (@z0j _ _ _ _ _ (2) _ _ _ _ _ k__law_draw z0l (hr.mono (by decide)) rfl (z1o (pv 0) (z00 z01 z0n (by rfl)) (by rfl)) rfl (by decide) (by rfl) (by rfl))) (fun _ _=>rfl)) z0J (by rfl)) (by rfl)) (by decide)) (z00 (z2A (by rfl)) z0n (by rfl)) (by rfl)) (by rfl)) (by rfl)) (by rfl)) rfl (by decide) (by rfl) (by rfl)) (z05 (z39 [112,108,97,99,101] (by decide +kernel))) (z0Q _))
    ·refine (z0f ?_)
     refine (z0y ?_)
     exact z4N
    ·exact z1K
  refine (z03 ?_ ?_)
  ·exact (@z0k _ _ _ _ _ _ ([0]) (9) _ hnp sc__law_refused_right.nd rfl (Or.inl rfl) (z3d (by rfl) (by decide)) rfl (Or.inl rfl))
  refine (z03 ?_ ?_)
  ·refine (z2O ?_ ?_ ?_)
   ·exact (z25 (z54 hq) z7O (@z0j _ _ _ _ _ (6) _ _ _ _ _ k__law_told z1q (hr.mono (by decide)) rfl (z00 z01 (z00 (z04 (pv 1)) (z00 (z04 (pv 2)) (z00 (z2A (by rfl)) (z00 (z2A (by rfl)) z0n (by rfl)) (by rfl)) (by rfl)) (by rfl)) (by rfl)) rfl (by decide) (by rfl) (by rfl)) (z05 (z0h z0b z0q (pv 9) (z05 (z5z rfl T.z_int (z05 (z6A (z2p hq) z46 (z0h z0b z0q (pv 1) (z05 z01) (fun _ _=>rfl)) (z05 z01) (z0Q _))) (by rfl))) (fun _ _=>rfl))) (z0Q _))
   ·refine (z0f ?_)
    refine (z0y ?_)
    exact z4N
   ·exact z1K
  refine (z0f ?_)
  refine (z0y ?_)
  exact (z6A (z2p hq) z46 (@z0j _ _ _ _ _ (6) _ _ _ _ _ k__law_told z1q (hr.mono (by decide)) rfl (z00 z01 (z00 (z04 (pv 1)) (z00 (z04 (pv 2)) (z00 (z2A (by rfl)) (z00 (z2A (by rfl)) z0n (by rfl)) (by rfl)) (by rfl)) (by rfl)) (by rfl)) rfl (by decide) (by rfl) (by rfl)) (z05 (z0h z0b z0q (pv 9) (z05 (z5z rfl T.z_int (z05 (z6A (z2p hq) z46 (z0h z0b z0q (pv 1) (z05 z01) (fun _ _=>rfl)) (z05 z01) (z0Q _))) (by rfl))) (fun _ _=>rfl))) (z0Q _))) fun ss y h=>z0E h
abbrev B6_:DS:=dSeq (dAsg (eD (.str [])) (gNm [] 6)) (dSeq (dFor (iSq (eVar 4)) (gNm [] 7) (dAsg (eOpF pAdd 6 (bOf (eOp pIx (eOpF pIxX 2 (bVar 7)) (bVar 5)))) (gNm [] 6))) (z0A 3 (eVar 6)))
abbrev B19_:DS:=dSeq (dAsg (eC1 z2o (bOf (eOpF pIx 0 (bOf (eD (.int 2)))))) (gNm [] 2)) (dSeq (dAsg (eLst aNil) (gNm [] 3)) (dSeq (dFor (iSq (eVar 1)) (gNm [] 4) (dFor (z0K (eOpF pIx 0 (bOf (eD (.int 0))))) (gNm [] 5) (B6_))) (dRet (eC1 z1k (bVar 3)))))
def z3B:DS:=(B19_)
def z1w:DF:=gOf [] 8 z3B
theorem z5i:z1t z1w:=z0o
theorem sc__law_grown:FnScope ["rule","floor","blocks","found","row","line","signs","tile"] ["rule","floor"] (z06 z3i):=⟨rfl,rfl,rfl,by decide +kernel,rfl,by decide +kernel,by decide +kernel⟩
theorem z76 {K:W3} (F:Fun K "_law_grown" "_law_grown" z3i f fd) (hm:mg "_law_grown" = some (.ref f)) (hb:Binds K fd ["rule","floor"] []) (T:Txt ce K mg):KFn P w K mg base 1 "_law_grown" 2 z1w :=
 z15 (np:=[]) (fb:=z3B) F hm hb sc__law_grown (fun c cdv A outer s H E hr hnp=>by
  have hq:=z1C hr
  refine (z03 ?_ ?_)
  ·exact (@z0k _ _ _ _ _ _ ([]) (2) _ hnp sc__law_grown.nd rfl (Or.inl rfl) (z5A rfl rfl T.z_dict (z05 (z0h z0b z0q (pv 0) (z05 z01) (fun _ _=>rfl))) (by rfl)) rfl (Or.inl rfl))
  refine (z03 ?_ ?_)
  ·exact (@z0k _ _ _ _ _ _ ([]) (3) _ hnp sc__law_grown.nd rfl (Or.inl rfl) (z1z z0J (by decide)) rfl (Or.inl rfl))
  refine (z03 ?_ ?_)
  ·refine (z1L PassesOwn.never rfl ?_ ?_ ?_ (by intro _; rfl))
   ·exact (z3T (z04 (pv 1)))
   ·exact (@z0w _ _ _ ([]) (4) _ hnp sc__law_grown.nd rfl (Or.inl rfl) (Or.inl rfl))
   ·refine (z0f ?_)
    refine (z1L PassesOwn.never rfl ?_ ?_ ?_ (by intro _; rfl))
    ·exact (z1j rfl T.z_range (z0h z0b z0q (pv 0) (z05 z01) (fun _ _=>rfl)) (by rfl))
    ·exact (@z0w _ _ _ ([]) (5) _ hnp sc__law_grown.nd rfl (Or.inl rfl) (Or.inl rfl))
    ·refine (z03 ?_ ?_)
     ·exact (@z0k _ _ _ _ _ _ ([]) (6) _ hnp sc__law_grown.nd rfl (Or.inl rfl) (z39 [] (by decide +kernel)) rfl (Or.inl rfl))
     refine (z03 ?_ ?_)
     ·refine (z1L PassesOwn.never rfl ?_ ?_ ?_ (by intro _; rfl))
      ·exact (z3T (z04 (pv 4)))
      ·exact (@z0w _ _ _ ([]) (7) _ hnp sc__law_grown.nd rfl (Or.inl rfl) (Or.inl rfl))
      ·refine (z0f ?_)
       exact (@z0k _ _ _ _ _ _ ([]) (6) _ hnp sc__law_grown.nd rfl (Or.inl rfl) (z0M z0v z0P (pv 6) (z05 (z4q z0b z0q (z0h (ix_X hq) zbm (pv 2) (z0i (pv 7)) (fun _ _=>rfl)) (z0i (pv 5)) (fun _ _=>rfl)))) rfl (Or.inl rfl))
     refine (z0f ?_)
     exact (z1x (pv 3) (z04 (pv 6)) (by rfl) (by rfl) (by rfl) (by rfl) (by rfl))
  refine (z0f ?_)
  refine (z0y ?_)
  exact (z2V rfl T.z_tuple (z0i (pv 3)) (by rfl))) fun ss y h=>z0E h
def z37:DS:=(dSeq (dAsg (eLst (z0c (eTup (z0c (eVar 1) aNil)) aNil)) (gNm [] 3)) (dSeq (z1T (dAnd (dTr (eOp pLe (eOp z1a (eOp z1a (eOp z1a (eC1 pLen (bOf (eOpF pIx 3 (bOf (eC1 pNeg (bOf (eD (.int 1)))))))) (bOf (eOpF pIx 0 (bOf (eD (.int 0)))))) (bOf (eC1 pLen (bOf (eOp pIx (eOpF pIx 3 (bOf (eC1 pNeg (bOf (eD (.int 1)))))) (bOf (eD (.int 0)))))))) (bOf (eOpF pIx 0 (bOf (eD (.int 1)))))) (bVar 2))) (dTr (eOp pLt (eC1 pLen (bVar 3)) (bOf (eD (.int 8)))))) (z0A 3 (z09 z1w [.val (eVar 0),.val (eOpF pIx 3 (bOf (eC1 pNeg (bOf (eD (.int 1))))))])) 1000000) (z8S [] 3)))
def z1h:DF:=gOf [] 4 z37
theorem z4X:z1t z1h:=z0o
theorem sc__law_floors:FnScope ["rule","tile","most","found"] ["rule","tile","most"] (z06 z2Z):=⟨rfl,rfl,rfl,by decide +kernel,rfl,by decide +kernel,by decide +kernel⟩
theorem z6j {K:W3} (F:Fun K "_law_floors" "_law_floors" z2Z f fd) (hm:mg "_law_floors" = some (.ref f)) (hb:Binds K fd ["rule","tile","most"] []) (T:Txt ce K mg) (k__law_grown:KFn P w K mg base 1 "_law_grown" 2 z1w):KFn P w K mg base 2 "_law_floors" 3 z1h :=
 z15 (np:=[]) (fb:=z37) F hm hb sc__law_floors (fun c cdv A outer s H E hr hnp=>by
  have hq:=z1C hr
  refine (z03 ?_ ?_)
  ·exact (@z0k _ _ _ _ _ _ ([]) (3) _ hnp sc__law_floors.nd rfl (Or.inl rfl) (z1z (z07 (z1U (z07 (z04 (pv 1)) z0J (by rfl)) (by decide)) z0J (by rfl)) (by decide)) rfl (Or.inl rfl))
  refine (z03 ?_ ?_)
  ·refine (z95 1000000 (fun h1 h2=>z9g PassesOwn.never h1 h2) ?_ ?_)
   ·exact (z6e (zax (z25 zbk z4y (z0S z1N z1O (z0S z1N z1O (z0S z1N z1O (z3L rfl T.z_len (z05 (z0h z0b z0q (pv 3) (z05 (z4p (z05 z01))) (fun _ _=>rfl))) (by rfl)) (z05 (z0h z0b z0q (pv 0) (z05 z01) (fun _ _=>rfl)))) (z05 (z3L rfl T.z_len (z05 (z4q z0b z0q (z0h z0b z0q (pv 3) (z05 (z4p (z05 z01))) (fun _ _=>rfl)) (z05 z01) (fun _ _=>rfl))) (by rfl)))) (z05 (z0h z0b z0q (pv 0) (z05 z01) (fun _ _=>rfl)))) (z0i (pv 2)) (z0Q _)) (z8k (z25 z9m zcQ (z3L rfl T.z_len (z0i (pv 3)) (by rfl)) (z05 z01) (z0Q _)))))
   ·refine (z0f ?_)
    exact (z1x (pv 3) (@z0j _ _ _ _ _ (1) _ _ _ _ _ k__law_grown z5i (hr.mono (by decide)) rfl (z00 (z04 (pv 0)) (z00 (z0h z0b z0q (pv 3) (z05 (z4p (z05 z01))) (fun _ _=>rfl)) z0n (by rfl)) (by rfl)) rfl (by decide) (by rfl) (by rfl)) (by rfl) (by rfl) (by rfl) (by rfl) (by rfl))
  refine (z0f ?_)
  exact (zaA hnp (pv 3))) fun ss y h=>z0E h
def z21:DS:=(dSeq (dAsg (eOp pIx (z09 z1h [.val (eVar 0),.val (eVar 1),.val (eD (.int 200))]) (bOf (eC1 pNeg (bOf (eD (.int 1)))))) (gNm [] 2)) (dSeq (dFor (z0K (eC1 pLen (bVar 2))) (gNm [] 3) (dFor (z0K (eC1 pLen (bOf (eOpF pIx 2 (bOf (eD (.int 0))))))) (gNm [] 4) (dIf (dTr (eOp pNe (z2t z0t [.val (eVar 0),.val (eVar 1),.val (eVar 3),.val (eVar 4)]) (bOf (eOp pIx (eOpF pIx 2 (bVar 3)) (bVar 4))))) (dRet (eD (.bl false))) z1n))) (dRet (z09 z0C [.val (z2t z0d [.val (eVar 0),.val (eVar 1),.val (eD (.int 0)),.val (eD (.int 0)),.val (eMin (eD (.int 64)) (eC1 pLen (bVar 2))),.val (eD (.int 1))]),.val (eC1 z1k (bOf (z2s [5] (iSq (eSlN 2 z4x (z18 (eD (.int 64))))) (gNm [] 5) dYes (eOpF pIx 5 (bOf (eD (.int 0)))))))]))))
def z0N:DF:=gOf [] 6 z21
theorem z3p:z1t z0N:=z0o
theorem sc__law_near_right:FnScope ["rule","tile","floor","row","column","line"] ["rule","tile"] (z06 z1W):=⟨rfl,rfl,rfl,by decide +kernel,rfl,by decide +kernel,by decide +kernel⟩
theorem z4u {K:W3} (F:Fun K "_law_near_right" "_law_near_right" z1W f fd) (hm:mg "_law_near_right" = some (.ref f)) (hb:Binds K fd ["rule","tile"] []) (T:Txt ce K mg) (k_still_cut:KFnX P w K mg base 4 "still_cut" 6 z0d) (k_still_at:KFnX P w K mg base 5 "still_at" 4 z0t) (k__law_floor_is:KFn P w K mg base 1 "_law_floor_is" 2 z0C) (k__law_floors:KFn P w K mg base 2 "_law_floors" 3 z1h):KFn P w K mg base 6 "_law_near_right" 2 z0N :=
 z15 (np:=[]) (fb:=z21) F hm hb sc__law_near_right (fun c cdv A outer s H E hr hnp=>by
  have hq:=z1C hr
  refine (z03 ?_ ?_)
  ·exact (@z0k _ _ _ _ _ _ ([]) (2) _ hnp sc__law_near_right.nd rfl (Or.inl rfl) (z4q z0b z0q (@z0j _ _ _ _ _ (2) _ _ _ _ _ k__law_floors z4X (hr.mono (by decide)) rfl (z00 (z04 (pv 0)) (z00 (z04 (pv 1)) (z00 z01 z0n (by rfl)) (by rfl)) (by rfl)) rfl (by decide) (by rfl) (by rfl)) (z05 (z4p (z05 z01))) (fun _ _=>rfl)) rfl (Or.inl rfl))
  refine (z03 ?_ ?_)
  ·refine (z1L PassesOwn.never rfl ?_ ?_ ?_ (by intro _; rfl))
   ·exact (z1j rfl T.z_range (z3L rfl T.z_len (z0i (pv 2)) (by rfl)) (by rfl))
   ·exact (@z0w _ _ _ ([]) (3) _ hnp sc__law_near_right.nd rfl (Or.inl rfl) (Or.inl rfl))
   ·refine (z0f ?_)
    refine (z1L PassesOwn.never rfl ?_ ?_ ?_ (by intro _; rfl))
    ·exact (z1j rfl T.z_range (z3L rfl T.z_len (z05 (z0h z0b z0q (pv 2) (z05 z01) (fun _ _=>rfl))) (by rfl)) (by rfl))
    ·exact (@z0w _ _ _ ([]) (4) _ hnp sc__law_near_right.nd rfl (Or.inl rfl) (Or.inl rfl))
    ·refine (z0f ?_)
     refine (z2O ?_ ?_ ?_)
     ·exact (z25 (z54 hq) z7O (@z5m _ _ _ _ _ (5) _ _ _ _ _ k_still_at z2J (hr.mono (by decide)) rfl rfl (z00 (z04 (pv 0)) (z00 (z04 (pv 1)) (z00 (z04 (pv 3)) (z00 (z04 (pv 4)) z0n (by rfl)) (by rfl)) (by rfl)) (by rfl)) rfl (by decide) (by rfl) (by rfl)) (z05 (z4q z0b z0q (z0h z0b z0q (pv 2) (z0i (pv 3)) (fun _ _=>rfl)) (z0i (pv 4)) (fun _ _=>rfl))) (z0Q _))
     ·refine (z0f ?_)
      refine (z0y ?_)
      exact z4N
     ·exact z1K
  refine (z0f ?_)
  refine (z0y ?_)
  exact (@z0j _ _ _ _ _ (1) _ _ _ _ _ k__law_floor_is z2q (hr.mono (by decide)) rfl (z00 (@z5m _ _ _ _ _ (4) _ _ _ _ _ k_still_cut z1P (hr.mono (by decide)) rfl rfl (z00 (z04 (pv 0)) (z00 (z04 (pv 1)) (z00 z01 (z00 z01 (z00 (zfg rfl rfl T.z_min z01 (z3L rfl T.z_len (z0i (pv 2)) (by rfl)) (by rfl) (by rfl) (by rfl)) (z00 z01 z0n (by rfl)) (by rfl)) (by rfl)) (by rfl)) (by rfl)) (by rfl)) rfl (by decide) (by rfl) (by rfl)) (z00 (z2V rfl T.z_tuple (z05 (@z3V _ _ ([5]) _ _ _ _ _ _ _ _ _ _ rfl (z1D rfl rfl) (z3T (z4o (pv 2) z3S (z1F z01))) (fun l s0 H0 ex=>(@z1y _ _ _ _ ([]) (5) _ hnp sc__law_near_right.nd rfl (Or.inl rfl) (Or.inr rfl) (by decide))) (fun l s0 H0 ex=>z3R) (fun l s0 H0 ex=>(z0h z0b z0q (pv 5) (z05 z01) (fun _ _=>rfl))) (z3P hnp rfl) (by intro _; rfl))) (by rfl)) z0n (by rfl)) (by rfl)) rfl (by decide) (by rfl) (by rfl))) fun ss y h=>z0E h
def zeZ (ce:Tx→Nat):DS:=(dSeq (dFor (iSq (eOp pAdd (eLst (z0c (z09 z14 [.val (eVar 0),.val (eD (.int 0))]) aNil)) (bOf (eSlN 0 (z18 (eD (.int 1))) (z18 (eD (.int 4))))))) (gNm [] 1) (dSeq (dAsg (z09 z1f [.val (eVar 1)]) (gNm [] 2)) (dSeq (dAsg (z09 z1v [.io 2,.val (eD (.int 5))]) (gTp 2 (z0u (gNm [] 3) (z0u (gNm [] 4) z2c)))) (dSeq (dFor (z0K (eD (.int 2))) (gNm [] 5) (dIf (dNot (dTr (z09 z0O [.io 2,.val (eVar 3),.val (eVar 4)]))) (dRet (eD (.bl false))) z1n)) (dIf (dOr (dNot (dTr (z09 z0N [.val (eVar 3),.val (eVar 4)]))) (dNot (dTr (z09 (z0B ce) [.io 2,.val (eVar 3),.val (eVar 4)])))) (dRet (eD (.bl false))) z1n))))) (dRet (eD (.bl true))))
def zao (ce:Tx→Nat):DF:=gOf [] 6 (zeZ ce)
theorem zgh {ce:Tx→Nat}:z1t (zao ce):=z0o
theorem sc_law:FnScope ["script","cell","pen","rule","tile","turn"] ["script"] (z06 z6V):=⟨rfl,rfl,rfl,by decide +kernel,rfl,by decide +kernel,by decide +kernel⟩
theorem zg1 {K:W3} (F:Fun K "law" "law" z6V f fd) (T:Txt ce K mg) (k__law_cell_at:KFn P w K mg base 1 "_law_cell_at" 2 z14) (k__law_pen_of:KFn P w K mg base 1 "_law_pen_of" 1 z1f) (k__law_still:KFn P w K mg base 4 "_law_still" 2 z1v) (k__law_cuts_right:KFn P w K mg base 6 "_law_cuts_right" 3 z0O) (k__law_refused_right:KFn P w K mg base 7 "_law_refused_right" 3 (z0B ce)) (k__law_near_right:KFn P w K mg base 6 "_law_near_right" 2 z0N) {Gt:DF} (hGt:∀ ss y,Gt ss=some y→zao ce ss=some y):FnOk P w K mg base CX0 8 f fd ["script"] (spD 1 Gt) :=
 zgq (np:=[]) (fb:=(zeZ ce)) F sc_law (fun c cdv A outer s H E hr hnp=>by
  have hq:=z1C hr
  refine (z03 ?_ ?_)
  ·refine (z1L PassesOwn.never rfl ?_ ?_ ?_ (by intro _; rfl))
   ·exact (z3T (z0S z0v z0P (z1z (z07 (@z0j _ _ _ _ _ (1) _ _ _ _ _ k__law_cell_at z4F (hr.mono (by decide)) rfl (z00 (z04 (pv 0)) (z00 z01 z0n (by rfl)) (by rfl)) rfl (by decide) (by rfl) (by rfl)) z0J (by rfl)) (by decide)) (z05 (z4o (pv 0) (z1F z01) (z1F z01)))))
   ·exact (@z0w _ _ _ ([]) (1) _ hnp sc_law.nd rfl (Or.inl rfl) (Or.inl rfl))
   ·refine (z03 ?_ ?_)
    ·exact (@z0k _ _ _ _ _ _ ([]) (2) _ hnp sc_law.nd rfl (Or.inl rfl) (@z0j _ _ _ _ _ (1) _ _ _ _ _ k__law_pen_of z4V (hr.mono (by decide)) rfl (z00 (z04 (pv 1)) z0n (by rfl)) rfl (by decide) (by rfl) (by rfl)) rfl (Or.inl rfl))
    refine (z03 ?_ ?_)
    ·refine (z6v ?_ ?_ (by rfl) (by rfl) (by rfl))
     ·exact (@z0j _ _ _ _ _ (4) _ _ _ _ _ k__law_still z5h (hr.mono (by decide)) rfl (z1o (pv 2) (z00 z01 z0n (by rfl)) (by rfl)) rfl (by decide) (by rfl) (by rfl))
     ·exact (z5y rfl (z10 (@z0w _ _ _ ([]) (3) _ hnp sc_law.nd rfl (Or.inl rfl) (Or.inl rfl)) (z10 (@z0w _ _ _ ([]) (4) _ hnp sc_law.nd rfl (Or.inl rfl) (Or.inl rfl)) z3U (by rfl)) (by rfl)) (by rfl) (by rfl))
    refine (z03 ?_ ?_)
    ·refine (z1L PassesOwn.never rfl ?_ ?_ ?_ (by intro _; rfl))
     ·exact (z1j rfl T.z_range z01 (by rfl))
     ·exact (@z0w _ _ _ ([]) (5) _ hnp sc_law.nd rfl (Or.inl rfl) (Or.inl rfl))
     ·refine (z0f ?_)
      refine (z2O ?_ ?_ ?_)
      ·exact (z4n (z4m (@z0j _ _ _ _ _ (6) _ _ _ _ _ k__law_cuts_right z3q (hr.mono (by decide)) rfl (z1o (pv 2) (z00 (z04 (pv 3)) (z00 (z04 (pv 4)) z0n (by rfl)) (by rfl)) (by rfl)) rfl (by decide) (by rfl) (by rfl)) (by intro _; rfl)))
      ·refine (z0f ?_)
       refine (z0y ?_)
       exact z4N
      ·exact z1K
    refine (z0f ?_)
    refine (z2O ?_ ?_ ?_)
    ·exact (z6e (z8j (z4n (z4m (@z0j _ _ _ _ _ (6) _ _ _ _ _ k__law_near_right z3p (hr.mono (by decide)) rfl (z00 (z04 (pv 3)) (z00 (z04 (pv 4)) z0n (by rfl)) (by rfl)) rfl (by decide) (by rfl) (by rfl)) (by intro _; rfl))) (z5w (z4n (z4m (@z0j _ _ _ _ _ (7) _ _ _ _ _ k__law_refused_right z2S (hr.mono (by decide)) rfl (z1o (pv 2) (z00 (z04 (pv 3)) (z00 (z04 (pv 4)) z0n (by rfl)) (by rfl)) (by rfl)) rfl (by decide) (by rfl) (by rfl)) (by intro _; rfl))))))
    ·refine (z0f ?_)
     refine (z0y ?_)
     exact z4N
    ·exact z1K
  refine (z0f ?_)
  refine (z0y ?_)
  exact z4N) fun ss y h=>z0E (hGt ss y h)
theorem all_mk {l:PySem.W.OpenLaw} {w:Ws} {K:W3} {h:Heap} {mg:Str→Option Value} {fa:Addr} {Gt:DF} (hGt:∀ ce,InjC ce→∀ ss y,Gt ss=some y→zao ce ss=some y) (X:K.In h) (G:h.Ns Wp mg) (hfa:mg "law" = some (.ref fa))
  (d0:FnH K "_law_cell_at" z2I)
  (d1:FnH K "_law_pen_of" z2X)
  (d2:FnH K "_law_next" z41)
  (d3:FnH K "_law_draw" z42)
  (d4:FnH K "_law_rule_by" z2G)
  (d5:FnH K "_law_still" z3h)
  (d6:FnH K "_law_far_of" z30)
  (d7:FnH K "still_tiles" z2W)
  (d8:FnH K "refuse_not_still" z1M)
  (d9:FnH K "whole_from" z3e)
  (d10:FnH K "whole_within" z2E)
  (d11:FnH K "line_good" z3Y)
  (d12:FnH K "grown_size" z3g)
  (d13:FnH K "laid_floor" z3f)
  (d14:FnH K "cut_floor" z3Z)
  (d15:FnH K "laid_cut" z4P)
  (d16:FnH K "growings_for" z2F)
  (d17:FnH K "still_cut" z3X)
  (d18:FnH K "still_at" z4O)
  (d19:FnH K "_law_line_due" z2m)
  (d20:FnH K "_law_at" z5F)
  (d21:FnH K "_law_letter" z2Y)
  (d22:FnH K "_law_floor_is" z2n)
  (d23:FnH K "_law_cuts_right" z1X)
  (d24:FnH K "_law_tiles_of" z2k)
  (d25:FnH K "_law_odd_tile" z2l)
  (d26:FnH K "_law_kind_of" z2H)
  (d27:FnH K "_law_told" z40)
  (d28:FnH K "_law_refused_right" z1A)
  (d29:FnH K "_law_grown" z3i)
  (d30:FnH K "_law_floors" z2Z)
  (d31:FnH K "_law_near_right" z1W)
  (a32:nsIn K Wp "law" = some (some (.ref f32)))
  (l32:K.lookup f32=some ⟨oc32,od32,.func (Qp "law" "law" (z32 z6V) (z1s z6V) (z06 z6V) .none kV32 dc32 pm32 an32 cd32 ct32),sl32⟩)
  (c32:codeIn K cd32 "law" = true)
  (k32:keepIn K (.ref f32)=true)
  (z_ValueError:nsIn K Wp "ValueError" = some none)
  (z_all:nsIn K Wp "all" = some none)
  (z_bool:nsIn K Wp "bool" = some none)
  (z_dict:nsIn K Wp "dict" = some none)
  (z_int:nsIn K Wp "int" = some none)
  (z_isinstance:nsIn K Wp "isinstance" = some none)
  (z_len:nsIn K Wp "len" = some none)
  (z_max:nsIn K Wp "max" = some none)
  (z_min:nsIn K Wp "min" = some none)
  (z_range:nsIn K Wp "range" = some none)
  (z_str:nsIn K Wp "str" = some none)
  (z_tuple:nsIn K Wp "tuple" = some none)
  (ac_j:nsIn K Wp "FloorError" = some (some (.ref C_j)))
  (ac_a:nsIn K Wp "NoFloor" = some (some (.ref C_a)))
  (ac_b:nsIn K Wp "NoPlace" = some (some (.ref C_b)))
  (ac_c:nsIn K Wp "NoNumber" = some (some (.ref C_c)))
  (ac_d:nsIn K Wp "NoRow" = some (some (.ref C_d)))
  (ac_e:nsIn K Wp "Unlike" = some (some (.ref C_e)))
  (ac_f:nsIn K Wp "NoTile" = some (some (.ref C_f)))
  (ac_g:nsIn K Wp "NoRule" = some (some (.ref C_g)))
  (ac_h:nsIn K Wp "NoText" = some (some (.ref C_h)))
  (ac_i:nsIn K Wp "TooGreat" = some (some (.ref C_i)))
  (ia_f:J3 K (.ref C_f) "__init__" = some (some (.ref fi_f)))
  (li_f:K.lookup fi_f=some ⟨oci_f,odi_f,.func (Qp "__init__" "NoTile.__init__" (z32 si_f) (z1s si_f) (z06 si_f) .none kVi_f dci_f pmi_f ani_f cdi_f cti_f),sli_f⟩)
  (cci_f:codeIn K cdi_f "NoTile.__init__" = true)
  (kfi_f:keepIn K (.ref fi_f)=true)
  (qi_f:excI K C_f fi_f=true)
  (fni_f:PySem.W.isFn K (.ref fi_f)=true)
  (kci_f:keepIn K (.ref C_f)=true)
  (sai_f:J3 K (.ref C_f) "__setattr__" = some (some (.builtin "object.__setattr__")))
  (ovi_f:z9l K C_f=true)
  (hdi_f:PySem.W.hasDictIn K C_f=true)
  (tki_f:PySem.W.takerIn K C_f "tile" = some none)
  (qc_j:PySem.W.excIn K C_j vErr "ValueError.__new__" = true)
  (qc_b:PySem.W.excIn K C_b vErr "ValueError.__new__" = true)
  (spc:PySem.W.specialIn K (.builtin "object.__class__") "__get__" = some (some (.builtin "getset_descriptor.__get__")))
  (tkc:PySem.W.takesIn K (.builtin "object.__class__")=some true)
  (ga_b:J3 K (.ref C_b) "__getattribute__" = some (some (.builtin "BaseException.__getattribute__")))
  (gt_b:J3 K (.ref C_b) "__getattr__" = some none)
  (cl_b:J3 K (.ref C_b) "__class__" = some (some (.builtin "object.__class__")))
  (mo_b:mroIn K C_b (.type "object")=some true)
  (mb_b:mroIn K C_b (.type "BaseException")=some true)
  (ci_b:PySem.W.isClsIn K C_b=true)
  (kv_b:Qr K (.ref C_b) (.type "ValueError")=some true)
  (ki_b_a:Qr K (.ref C_b) (.ref C_a)=some false)
  (ki_b_b:Qr K (.ref C_b) (.ref C_b)=some true)
  (ki_b_c:Qr K (.ref C_b) (.ref C_c)=some false)
  (ki_b_d:Qr K (.ref C_b) (.ref C_d)=some false)
  (ki_b_e:Qr K (.ref C_b) (.ref C_e)=some false)
  (ki_b_f:Qr K (.ref C_b) (.ref C_f)=some false)
  (ki_b_g:Qr K (.ref C_b) (.ref C_g)=some false)
  (ki_b_h:Qr K (.ref C_b) (.ref C_h)=some false)
  (ki_b_i:Qr K (.ref C_b) (.ref C_i)=some false)
  (mr_b_j:mroIn K C_b (.ref C_j)=some true)
  (ga_f:J3 K (.ref C_f) "__getattribute__" = some (some (.builtin "BaseException.__getattribute__")))
  (gt_f:J3 K (.ref C_f) "__getattr__" = some none)
  (cl_f:J3 K (.ref C_f) "__class__" = some (some (.builtin "object.__class__")))
  (mo_f:mroIn K C_f (.type "object")=some true)
  (mb_f:mroIn K C_f (.type "BaseException")=some true)
  (ci_f:PySem.W.isClsIn K C_f=true)
  (kv_f:Qr K (.ref C_f) (.type "ValueError")=some true)
  (ki_f_a:Qr K (.ref C_f) (.ref C_a)=some false)
  (ki_f_b:Qr K (.ref C_f) (.ref C_b)=some false)
  (ki_f_c:Qr K (.ref C_f) (.ref C_c)=some false)
  (ki_f_d:Qr K (.ref C_f) (.ref C_d)=some false)
  (ki_f_e:Qr K (.ref C_f) (.ref C_e)=some false)
  (ki_f_f:Qr K (.ref C_f) (.ref C_f)=some true)
  (ki_f_g:Qr K (.ref C_f) (.ref C_g)=some false)
  (ki_f_h:Qr K (.ref C_f) (.ref C_h)=some false)
  (ki_f_i:Qr K (.ref C_f) (.ref C_i)=some false)
  (mr_f_j:mroIn K C_f (.ref C_j)=some true)
  : ∃ fd:WC,(∀ (s:W5) (v:Value),BindsTo s fd ⟨[v],[]⟩ [("script",v)])∧∀ base:Heap,K.In base→base.Ns Wp mg→FnOk l.prog w K mg base CX0 8 fa fd ["script"] (spD 1 Gt):=by
 have e:=hfa.symm.trans (mg_of X G a32)
 cases e
 have E_b:ExcK K C_b:=⟨ga_b,gt_b,cl_b,spc,tkc,mo_b,mb_b⟩
 have E_f:ExcK K C_f:=⟨ga_f,gt_f,cl_f,spc,tkc,mo_f,mb_f⟩
 have T:Txt (ceOf [([70,108,111,111,114,69,114,114,111,114],C_j),([78,111,70,108,111,111,114],C_a),([78,111,80,108,97,99,101],C_b),([78,111,78,117,109,98,101,114],C_c),([78,111,82,111,119],C_d),([85,110,108,105,107,101],C_e),([78,111,84,105,108,101],C_f),([78,111,82,117,108,101],C_g),([78,111,84,101,120,116],C_h),([84,111,111,71,114,101,97,116],C_i)]) K mg:=⟨WI X G z_ValueError,WI X G z_all,WI X G z_bool,WI X G z_dict,WI X G z_int,WI X G z_isinstance,WI X G z_len,WI X G z_max,WI X G z_min,WI X G z_range,WI X G z_str,WI X G z_tuple,zci,zdN,zdM,zas,mg_of X G ac_j,mg_of X G ac_a,mg_of X G ac_b,mg_of X G ac_c,mg_of X G ac_d,mg_of X G ac_e,mg_of X G ac_f,mg_of X G ac_g,mg_of X G ac_h,mg_of X G ac_i,qc_j,qc_b,⟨(fm2 E_b E_f),(fm2 ci_b ci_f),(fm2 ki_b_a ki_f_a)⟩,⟨(fm2 E_b E_f),(fm2 ci_b ci_f),(fm2 ki_b_b ki_f_b)⟩,⟨(fm2 E_b E_f),(fm2 ci_b ci_f),(fm2 ki_b_c ki_f_c)⟩,⟨(fm2 E_b E_f),(fm2 ci_b ci_f),(fm2 ki_b_d ki_f_d)⟩,⟨(fm2 E_b E_f),(fm2 ci_b ci_f),(fm2 ki_b_e ki_f_e)⟩,⟨(fm2 E_b E_f),(fm2 ci_b ci_f),(fm2 ki_b_f ki_f_f)⟩,⟨(fm2 E_b E_f),(fm2 ci_b ci_f),(fm2 ki_b_g ki_f_g)⟩,⟨(fm2 E_b E_f),(fm2 ci_b ci_f),(fm2 ki_b_h ki_f_h)⟩,⟨(fm2 E_b E_f),(fm2 ci_b ci_f),(fm2 ki_b_i ki_f_i)⟩,⟨(fm2 E_b E_f),(fm2 ci_b ci_f),(fm2 kv_b kv_f)⟩,(fm2 ⟨(by rw [show toS [78,111,80,108,97,99,101]=("NoPlace" : Str) from by decide +kernel]; exact mg_of X G ac_b),mr_b_j⟩ ⟨(by rw [show toS [78,111,84,105,108,101]=("NoTile" : Str) from by decide +kernel]; exact mg_of X G ac_f),mr_f_j⟩)⟩
 have ne_b_f:C_b≠C_f:=fun q=>by rw [q] at ki_b_f; cases ki_b_f.symm.trans ki_f_f
 have ne_f_b:C_f≠C_b:=fun q=>by rw [q] at ki_f_b; cases ki_f_b.symm.trans ki_b_b
 have hinj:InjC (ceOf [([70,108,111,111,114,69,114,114,111,114],C_j),([78,111,70,108,111,111,114],C_a),([78,111,80,108,97,99,101],C_b),([78,111,78,117,109,98,101,114],C_c),([78,111,82,111,119],C_d),([85,110,108,105,107,101],C_e),([78,111,84,105,108,101],C_f),([78,111,82,117,108,101],C_g),([78,111,84,101,120,116],C_h),([84,111,111,71,114,101,97,116],C_i)]):=by
  intro x hx y hy e
  simp only [ys,Wj,Jb,or_false] at hx hy
  rcases hx with rfl | rfl <;> rcases hy with rfl | rfl <;> first | rfl | exact absurd e ne_b_f | exact absurd e ne_f_b
 obtain ⟨f0,fd0,F0,m0⟩:=fnH X G d0
 obtain ⟨f1,fd1,F1,m1⟩:=fnH X G d1
 obtain ⟨f2,fd2,F2,m2⟩:=fnH X G d2
 obtain ⟨f3,fd3,F3,m3⟩:=fnH X G d3
 obtain ⟨f4,fd4,F4,m4⟩:=fnH X G d4
 obtain ⟨f5,fd5,F5,m5⟩:=fnH X G d5
 obtain ⟨f6,fd6,F6,m6⟩:=fnH X G d6
 obtain ⟨f7,fd7,F7,m7⟩:=fnH X G d7
 obtain ⟨f8,fd8,F8,m8⟩:=fnH X G d8
 obtain ⟨f9,fd9,F9,m9⟩:=fnH X G d9
 obtain ⟨f10,fd10,F10,m10⟩:=fnH X G d10
 obtain ⟨f11,fd11,F11,m11⟩:=fnH X G d11
 obtain ⟨f12,fd12,F12,m12⟩:=fnH X G d12
 obtain ⟨f13,fd13,F13,m13⟩:=fnH X G d13
 obtain ⟨f14,fd14,F14,m14⟩:=fnH X G d14
 obtain ⟨f15,fd15,F15,m15⟩:=fnH X G d15
 obtain ⟨f16,fd16,F16,m16⟩:=fnH X G d16
 obtain ⟨f17,fd17,F17,m17⟩:=fnH X G d17
 obtain ⟨f18,fd18,F18,m18⟩:=fnH X G d18
 obtain ⟨f19,fd19,F19,m19⟩:=fnH X G d19
 obtain ⟨f20,fd20,F20,m20⟩:=fnH X G d20
 obtain ⟨f21,fd21,F21,m21⟩:=fnH X G d21
 obtain ⟨f22,fd22,F22,m22⟩:=fnH X G d22
 obtain ⟨f23,fd23,F23,m23⟩:=fnH X G d23
 obtain ⟨f24,fd24,F24,m24⟩:=fnH X G d24
 obtain ⟨f25,fd25,F25,m25⟩:=fnH X G d25
 obtain ⟨f26,fd26,F26,m26⟩:=fnH X G d26
 obtain ⟨f27,fd27,F27,m27⟩:=fnH X G d27
 obtain ⟨f28,fd28,F28,m28⟩:=fnH X G d28
 obtain ⟨f29,fd29,F29,m29⟩:=fnH X G d29
 obtain ⟨f30,fd30,F30,m30⟩:=fnH X G d30
 obtain ⟨f31,fd31,F31,m31⟩:=fnH X G d31
 have F32:=zbH (st:=z6V) l32 c32 k32
 have Fi_f:=zbH (st:=si_f) li_f cci_f kfi_f
 have bi_f:Binds K _ ["self","tile"] []:=bd2 Fi_f fun _ _ _ _ _ _ _ _=>rfl
 refine ⟨Qp "law" "law" (z32 z6V) (z1s z6V) (z06 z6V) .none kV32 dc32 pm32 an32 cd32 ct32,fun s v=>.of_eq rfl,fun base _ _=>?_⟩
 have n_f:IniK l.prog w K mg base C_f "tile":=⟨fi_f,_,["self","tile"],qi_f,fni_f,kci_f,⟨sai_f,ovi_f,hdi_f,tki_f⟩,bi_f,zd5 Fi_f sci_f rfl (fun vs h=>by unfold L2.start; simp [h]) fun cdv A outer s H E hr=>zb1 (zeh (pv 0) (pv 1) rfl)⟩
 have k__law_cell_at:=z5P (P:=l.prog) (w:=w) (base:=base) F0 m0 (bd2 F0 fun _ _ _ _ _ _ _ _=>rfl) T
 have k__law_pen_of:=z6h (P:=l.prog) (w:=w) (base:=base) F1 m1 (bd1 F1 fun _ _ _ _ _ _ _=>rfl) T
 have k__law_next:=z7M (P:=l.prog) (w:=w) (base:=base) F2 m2 (bd1 F2 fun _ _ _ _ _ _ _=>rfl) T
 have k__law_draw:=z7N F3 m3 (bd2 F3 fun _ _ _ _ _ _ _ _=>rfl) T k__law_next
 have k__law_rule_by:=z5O F4 m4 (bd2 F4 fun _ _ _ _ _ _ _ _=>rfl) T k__law_draw
 have k__law_still:=z75 F5 m5 (bd2 F5 fun _ _ _ _ _ _ _ _=>rfl) T k__law_rule_by
 have k__law_far_of:=z6k F6 m6 (bd2 F6 fun _ _ _ _ _ _ _ _=>rfl) T k__law_draw
 have k_still_tiles:=z6g (P:=l.prog) (w:=w) (base:=base) F7 m7 (bd1 F7 fun _ _ _ _ _ _ _=>rfl) T
 have k_refuse_not_still:=z45 F8 m8 (bd2 F8 fun _ _ _ _ _ _ _ _=>rfl) T k_still_tiles n_f
 have k_whole_from:=z72 (P:=l.prog) (w:=w) (base:=base) F9 m9 (bd2 F9 fun _ _ _ _ _ _ _ _=>rfl) T
 have k_whole_within:=z5M F10 m10 (bd3 F10 fun _ _ _ _ _ _ _ _ _=>rfl) T k_whole_from
 have k_line_good:=z7J F11 m11 (bd2 F11 fun _ _ _ _ _ _ _ _=>rfl) T k_whole_within
 have k_grown_size:=z74 (P:=l.prog) (w:=w) (base:=base) F12 m12 (bd3 F12 fun _ _ _ _ _ _ _ _ _=>rfl) T
 have k_laid_floor:=z73 (P:=l.prog) (w:=w) (base:=base) F13 m13 (bd3 F13 fun _ _ _ _ _ _ _ _ _=>rfl) T
 have k_cut_floor:=z7K (P:=l.prog) (w:=w) (base:=base) F14 m14 (bd5 F14 fun _ _ _ _ _ _ _ _ _ _ _=>rfl) T
 have k_laid_cut:=z8E F15 m15 (bd4 F15 fun _ _ _ _ _ _ _ _ _ _=>rfl) T k_grown_size k_laid_floor k_cut_floor
 have k_growings_for:=z5N (P:=l.prog) (w:=w) (base:=base) F16 m16 (bd3 F16 fun _ _ _ _ _ _ _ _ _=>rfl) T
 have k_still_cut:=z7I F17 m17 (bd6 F17 fun _ _ _ _ _ _ _ _ _ _ _ _=>rfl) T k_refuse_not_still k_line_good k_laid_cut k_growings_for
 have k_still_at:=z8D F18 m18 (bd4 F18 fun _ _ _ _ _ _ _ _ _ _=>rfl) T k_still_cut
 have k__law_line_due:=z5c (P:=l.prog) (w:=w) (base:=base) F19 m19 (bd5 F19 fun _ _ _ _ _ _ _ _ _ _ _=>rfl) T
 have k__law_at:=za7 F20 m20 (bd4 F20 fun _ _ _ _ _ _ _ _ _ _=>rfl) T k__law_line_due
 have k__law_letter:=z6i (P:=l.prog) (w:=w) (base:=base) F21 m21 (bd1 F21 fun _ _ _ _ _ _ _=>rfl) T
 have k__law_floor_is:=z5d (P:=l.prog) (w:=w) (base:=base) F22 m22 (bd2 F22 fun _ _ _ _ _ _ _ _=>rfl) T
 have k__law_cuts_right:=z4v F23 m23 (bd3 F23 fun _ _ _ _ _ _ _ _ _=>rfl) T k__law_draw k__law_far_of k_still_cut k_still_at k__law_at k__law_letter k__law_floor_is
 have k__law_tiles_of:=z5a (P:=l.prog) (w:=w) (base:=base) F24 m24 (bd1 F24 fun _ _ _ _ _ _ _=>rfl) T
 have k__law_odd_tile:=z5b F25 m25 (bd2 F25 fun _ _ _ _ _ _ _ _=>rfl) T k__law_draw k__law_tiles_of
 have h__law_kind_of:=z59 (P:=l.prog) (w:=w) (base:=base) F26 m26 (bd1 F26 fun _ _ _ _ _ _ _=>rfl) T
 have k__law_told:=z7L F27 m27 (bd5 F27 fun _ _ _ _ _ _ _ _ _ _ _=>rfl) T k_still_cut k_still_at h__law_kind_of
 have k__law_refused_right:=z3l F28 m28 (bd3 F28 fun _ _ _ _ _ _ _ _ _=>rfl) T k__law_draw k__law_odd_tile k__law_told
 have k__law_grown:=z76 (P:=l.prog) (w:=w) (base:=base) F29 m29 (bd2 F29 fun _ _ _ _ _ _ _ _=>rfl) T
 have k__law_floors:=z6j F30 m30 (bd3 F30 fun _ _ _ _ _ _ _ _ _=>rfl) T k__law_grown
 have k__law_near_right:=z4u F31 m31 (bd2 F31 fun _ _ _ _ _ _ _ _=>rfl) T k_still_cut k_still_at k__law_floor_is k__law_floors
 exact zg1 F32 T k__law_cell_at k__law_pen_of k__law_still k__law_cuts_right k__law_refused_right k__law_near_right (hGt _ hinj)
open PySem (sizeLine)
theorem z3r (f:DE) (δ:Dl):iSq f δ=(f δ).bind fun r δ1=>match r.d with
 | .lst ds=>.ok ds δ1
 | .tup ds=>.ok ds δ1
 | .str x=>.ok (x.map fun n=>.str [n]) δ1
 | _=>.stuck:=id rfl
theorem z28 (f F:A→D) (p:A→Bool) (δ:Dl):∀ (as:List A) (acc:List D),acc.length + as.length≤W6 →
  (∀ a ∈ as,∃ δ1 δ2 x δ3,g (.pure (f a)) δ=some δ1∧t δ1 = .ok (p a) δ2∧clrD cs δ2=δ∧el δ2 = .ok x δ3∧clrD cs δ3=δ∧x.d=F a)→z1Z cs g t el (as.map f) δ acc = .ok (acc ++ (as.filter p).map F) δ
 | [],acc,_,_=>by simp [z1Z]
 | a :: r,acc,hl,hs=>by
  obtain ⟨δ1,δ2,x,δ3,e1,e2,e2',e3,e4,e5⟩:=hs a Wi
  have hl':acc.length < W6:=by simp at hl; omega
  rw [Ww]
  unfold z1Z
  rw [e1]
  cases hp:p a with
  | true =>
   have ih:=z28 (cs:=cs) (g:=g) (t:=t) (el:=el) f F p δ r (acc ++ [x.d]) (by simp at hl ⊢; omega) (fun a ha=>hs a (Wg _ ha))
   rw [e5] at ih
   rw [hp] at e2
   simp only [e2,z0Z,if_true,e3,if_pos hl',e4,e5,ih,JE,hp]
   simp
  | false =>
   have ih:=z28 (cs:=cs) (g:=g) (t:=t) (el:=el) f F p δ r acc (by simp at hl ⊢; omega) (fun a ha=>hs a (Wg _ ha))
   rw [hp] at e2
   simp only [e2,z0Z,e2',ih,JE,hp]
   simp
def nx (s:Int):Int:=(((s + 7919) % 2147483647) * ((s + 7919) % 2147483647) + 48271 * ((s + 7919) % 2147483647) + 12345) % 2147483629
theorem zfs (s:Int):z1H [.pure (.int s)]=some (.pure (.int (nx s)),[.pure (.int s)]):=by
 unfold z1H gOf z4i runD
 have h1:=Int.emod_nonneg (s + 7919) (b:=2147483647) (by decide)
 have h2:=Int.emod_lt_of_pos (s + 7919) (b:=2147483647) (by decide)
 have c1:cMul ((s + 7919) % 2147483647) ((s + 7919) % 2147483647)=true:=by unfold cMul; simp; omega
 have c2:cMul 48271 ((s + 7919) % 2147483647)=true:=by unfold cMul; simp
 simp [ioOk,z0g,dAsg,eOpF,eOpN,bVar,pAdd,pMod,pII,z1a,pMul,c1,c2,z0H,z0e]
 rfl
def Pen (d:D):Prop:=∃ l f s:Int,d = .lst [.int l,.int f,.int s]∧0≤l
theorem z9d (hp:Pen d) (m:Nat) (h0:0 < m) (h1:m < 1073741824):∃ (r:Nat) (d':D),z0a [.own d,.pure (.int m)]=some (.pure (.int r),[.own d',.pure (.int m)])∧r < m∧Pen d':=by
 obtain ⟨l,f,s,rfl,hl⟩:=hp
 have hm:(0:Int) < (m:Int):=by omega
 have hd:cDiv l m=true:=by unfold cDiv; simp; omega
 unfold z0a gOf z4j runD
 by_cases hf:f=1
 ·subst hf
  have e1:=Int.emod_nonneg l (b:=(m:Int)) (by omega)
  have e2:=Int.emod_lt_of_pos l hm
  refine ⟨(l % (m:Int)).toNat,.lst [.int (l / m),.int 1,.int s],?_,by omega,⟨_,_,_,rfl,Int.ediv_nonneg hl (by omega)⟩⟩
  simp [ioOk,z0g,dAsg,eOpF,eOpN,bVar,eVar,pIx,pEq,eqD,flat,z1d,z7l,z8U,dTr,pMod,pDiv,pII,h0,hd,z85,z1V,putL,z0H,z0e,ixN]
  omega
 ·have e1:=Int.emod_nonneg (nx (nx s + 7) / 64) (b:=(m:Int)) (by omega)
  have e2:=Int.emod_lt_of_pos (nx (nx s + 7) / 64) hm
  refine ⟨(nx (nx s + 7) / 64 % (m:Int)).toNat,.lst [.int l,.int f,.int (nx (nx s + 7))],?_,by omega,⟨_,_,_,rfl,hl⟩⟩
  simp [ioOk,z0g,dAsg,eOpF,eOpN,bVar,eVar,pIx,pEq,eqD,flat,z1d,z7l,z8U,dTr,pMod,pDiv,pII,h0,hd,z85,z1V,putL,z0H,z0e,ixN,hf,z09,ios,z0s,ndup,evX,mkA,zfs,pAdd,putA,cDiv]
  omega
theorem r_pen (c:Int):∃ d,z1f [.pure (.int c)]=some (.own d,[.pure (.int c)])∧Pen d:=by
 unfold z1f gOf z35 runD
 refine ⟨.lst [.int (if 0 - c > c then 0 - c else c),.int (if decide (1000000000000000000≤(if 0 - c > c then 0 - c else c)) then 1 else 0),.int ((if 0 - c > c then 0 - c else c) % 1000003)],?_,⟨_,_,_,rfl,by split <;> omega⟩⟩
 simp [ioOk,z0g,dAsg,eOpF,eOpN,bVar,eVar,pMax,pSub,pII,pInt,pGe,pCmp,pPow,cPow,pMod,z0H,z0e]
theorem z8v (ns:List Int):∃ c:Int,z14 [.pure (.lst (ns.map .int)),.pure (.int 0)]=some (.pure (.int c),[.pure (.lst (ns.map .int)),.pure (.int 0)]):=by
 unfold z14 gOf z2M runD
 cases ns with
 | nil=>exact ⟨0,by simp [ioOk,z0g,eOpF,eOpN,bVar,pLt,pCmp,dTr,pLen,z0H,z0e]⟩
 | cons n r=>exact ⟨n,by
   have:(0:Int) < (r.length:Int) + 1:=by omega
   simp [ioOk,z0g,eOpF,eOpN,bVar,pLt,pCmp,dTr,pLen,z0H,z0e,pIx,z1d,this]⟩
theorem z6X (hp:Pen d) (m:Nat) (i:Int) (hi:i=m) (h0:0 < m) (h1:m < 1073741824):∃ (r:Nat) (d':D),z0a [.own d,.pure (.int i)]=some (.pure (.int r),[.own d',.pure (.int i)])∧r < m∧Pen d':=by
 subst hi
 exact z9d hp m h0 h1
def lettersT:Tx:=[97,98,99,100,101,102,103,104,105,106,107,108,109,110,111,112,113,114,115,116,117,118,119,120,121,122]
def tsOf (s n:Nat):Tx:=(Wb n).map fun k=>97 + s + k
theorem z8J:∀ s,s < 26→∀ r,r < 26→s + 1 + r≤26→(lettersT.drop s).take (1 + r)=tsOf s (1 + r):=by decide
theorem z7T {s r:Nat} (h:s + 1 + r≤26):cutL lettersT (some (s:Int)) (some ((s:Int) + 1 + (r:Int)))=tsOf s (1 + r):=by
 rw [← z8J s (by omega) r (by omega) h]
 have h1:¬ (s:Int) < 0:=by omega
 have h2:¬ (s:Int) + 1 + (r:Int) < 0:=by omega
 have h3:((s:Int) + 1 + (r:Int)).toNat=s + 1 + r:=by omega
 have hl:lettersT.length=26:=rfl
 unfold cutL HT.sIx
 simp only [h1,h2,if_false,h3,hl]
 have e1:min ((s:Int).toNat) 26=s:=by omega
 have e2:min (s + 1 + r) 26 - min ((s:Int).toNat) 26=1 + r:=by omega
 rw [e1] at e2 ⊢
 rw [e2]
theorem zf7 (s n:Nat):(tsOf s n).length=n:=by simp [tsOf]
theorem ts_up (s n:Nat):(tsOf s n).Pairwise (· < ·):=by
 unfold tsOf
 rw [List.pairwise_map]
 exact (List.pairwise_lt_range (n:=n)).imp fun h=>by omega
theorem zf6 (h:s + n≤26) (ht:t ∈ tsOf s n):97≤t∧t≤122:=by
 simp [tsOf] at ht
 obtain ⟨k,hk,rfl⟩:=ht
 omega
def rb2 (pd:D) (m h w s:Nat) (ts:Tx) (al:Nat) (blocks:List D) (o9 o10 o11 o12 o13:Option S):Dl :=
 [some (.own pd),some (.pure (.int m)),some (.pure (.str lettersT)),some (.pure (.int h)),some (.pure (.int w)),some (.pure (.int s)),some (.pure (.str ts)),some (.pure (.int (1 + (al:Int)))),some (.own (.lst blocks)),o9,o10,o11,o12,o13,none]
abbrev z9I:DE:=eOpF pIx 6 (bOf (eOp pDiv (z09 z0a [.io 0,.val (eC1 pLen (bVar 6))]) (bVar 7)))
theorem ze7 (hts0:0 < ts.length) (hts:ts.length≤26) (hal:al < 3) (hw:w≤4) (hpd:Pen pd) (blocks:List D) (o9 o10 o11 o12 o13:Option S) :
  ∃ (x:Tx) (pd':D),z1Z [14] (gNm [0] 14) dYes z9I (z0z 0 w) (rb2 pd m h w s ts al blocks o9 o10 o11 o12 o13) [] = .ok (x.map fun n=>.str [n]) (rb2 pd' m h w s ts al blocks o9 o10 o11 o12 o13)∧x.length=w∧(∀ n ∈ x,n ∈ ts)∧Pen pd':=by
 obtain ⟨xs,δ',e,⟨pd',hpd',rfl⟩,hn,hf⟩:=z66 (cs:=[14]) (g:=gNm [0] 14) (t:=dYes) (el:=z9I) (fun δ=>∃ pd,Pen pd∧δ=rb2 pd m h w s ts al blocks o9 o10 o11 o12 o13)
  (fun _ x=>∃ n,n ∈ ts∧x = .str [n]) (z0z 0 w) _ [] ⟨pd,hpd,rfl⟩ (by rw [z1b]; simp; omega) (fun d hd δ ⟨pd,hpd,e⟩=>by
   subst e
   obtain ⟨i,hi,rfl⟩:=z80 hd
   obtain ⟨r,d',e,l,p⟩:=z9d hpd ts.length hts0 (by omega)
   have hd:pDiv (.int r) (.int (1 + (al:Int)))=some (.pure (.int ((r / (1 + al):Nat):Int))):=by
    have hc:cDiv (r:Int) (1 + (al:Int))=true:=by unfold cDiv; simp; omega
    show (if cDiv (r:Int) (1 + (al:Int)) then _ else _)=_
    rw [if_pos hc]
    simp
   have hlt:r / (1 + al) < ts.length:=Nat.lt_of_le_of_lt (Nat.div_le_self _ _) l
   refine ⟨_,_,.pure (.str [ts.getD (r / (1 + al)) 0]),(rb2 d' m h w s ts al blocks o9 o10 o11 o12 o13).set 14 (some (.pure (.int i))),rfl,rfl,?_,⟨d',p,rfl⟩,⟨_,?_,rfl⟩⟩
   ·have hx:=z83 ts (r / (1 + al)) hlt (by omega)
    simp only [rb2,z9I,eOpF,eOpN,zdF,zgu,List.set_cons_succ,List.set_cons_zero,List.getElem?_cons_succ,QT,z09,ios,ndup,Jc,List.all_nil,z0s,Bool.and_true,if_true,evX,zgv,bVar,z0Z,ev_p1,zgw,zag ts (by omega),List.contains_nil,Bool.not_false,mkA,WL,e,putA,zgt,hd,hx]
   ·simp [hlt])
 obtain ⟨x,rfl,hx⟩:=zaI (P:=fun n=>n ∈ ts) (ze5 hn hf fun d x _ h=>h)
 exact ⟨x,pd',by simpa using e,by simpa using hn,hx,hpd'⟩
abbrev bRow:DS:=(dSeq (dAsg (z2s [14] (z0K (eVar 4)) (gNm [0] 14) dYes z9I) (gNm [0] 12)) (z0A 10 (eC1 (z3k []) (bVar 12))))
theorem zfr (hts0:0 < ts.length) (hts:ts.length≤26) (hal:al < 3) (hw:w≤4) (hh:h≤4) (hpd:Pen pd) (blocks:List D) (o9 o11 o12 o13:Option S) :
  ∃ (fl:List Tx) (pd':D) (o11' o12':Option S),forL (gNm [0] 11) bRow (z0z 0 h) (rb2 pd m h w s ts al blocks o9 (some (.own (.lst []))) o11 o12 o13) = .ok .next (rb2 pd' m h w s ts al blocks o9 (some (.own (.lst (fl.map .str)))) o11' o12' o13)∧fl.length=h∧(∀ r ∈ fl,r.length=w∧∀ n ∈ r,n ∈ ts)∧Pen pd':=by
 obtain ⟨δ',e3,pd',fl,o11',o12',hpd',hfl,hall,rfl⟩:=z16 (g:=gNm [0] 11) (b:=bRow) (fun k δ=>∃ (pd:D) (fl:List Tx) (o11 o12:Option S),Pen pd∧fl.length=k∧(∀ r ∈ fl,r.length=w∧∀ n ∈ r,n ∈ ts)∧δ=rb2 pd m h w s ts al blocks o9 (some (.own (.lst (fl.map .str)))) o11 o12 o13)
  (z0z 0 h) 0 _ ⟨pd,[],o11,o12,hpd,rfl,by simp,rfl⟩ (fun i d δ hd ⟨pd,fl,o11,o12,hpd,hfl,hall,e⟩=>by
   subst e
   obtain ⟨hi,rfl⟩:=z11 hd
   obtain ⟨x,pd',e,hx,hxt,hpd'⟩:=ze7 (m:=m) (h:=h) (s:=s) hts0 hts hal hw hpd blocks o9 (some (.own (.lst (fl.map .str)))) (some (.pure (.int i))) o12 o13
   have hz:fl.length < W6:=by rw [z1b]; omega
   have ej:=z9H x (by omega)
   refine ⟨_,rb2 pd' m h w s ts al blocks o9 (some (.own (.lst ((fl ++ [x]).map .str)))) (some (.pure (.int i))) (some (.own (.lst (x.map fun n=>.str [n])))) o13,rfl,?_,⟨pd',fl ++ [x],_,_,hpd',by simp [hfl],?_,rfl⟩⟩
   ·unfold rb2 at e ⊢
    simp [bRow,dAsg,eVar,z3a w (by omega),z0s,clrD]
    rw [e]
    simp [z1S,z0A,z1V,bVar,ej,putL,hz]
   ·intro r hr
    rcases Qt.mp hr with hr | hr
    ·exact hall r hr
    ·simp at hr; subst hr; exact ⟨hx,hxt⟩)
 exact ⟨fl,pd',o11',o12',e3,by simpa using hfl,hall,hpd'⟩
abbrev zf0:DS:=(dSeq (dAsg (eLst aNil) (gNm [0] 10)) (dSeq (dFor (z0K (eVar 3)) (gNm [0] 11) bRow) (z0A 8 (eTup (z0c (eVar 9) (z0c (eC1 z1k (bVar 10)) aNil))))))
theorem zcx (hts0:0 < ts.length) (hts:ts.length≤26) (hal:al < 3) (hw:w≤4) (hh:h≤4) (hpd:Pen pd) :
  ∃ (bs:List (Nat×List Tx)) (pd':D) (o9 o10 o11 o12:Option S),forL (gNm [0] 9) zf0 (ts.map fun n=>.str [n]) (rb2 pd m h w s ts al [] none none none none none) = .ok .next (rb2 pd' m h w s ts al (bs.map blD) o9 o10 o11 o12 none)∧bs.map (·.1)=ts∧(∀ b ∈ bs,b.2.length=h∧∀ r ∈ b.2,r.length=w∧∀ n ∈ r,n ∈ ts)∧Pen pd':=by
 obtain ⟨δ',e3,pd',bs,o9,o10,o11,o12,hpd',hbs,hall,rfl⟩:=z16 (g:=gNm [0] 9) (b:=zf0) (fun k δ=>∃ (pd:D) (bs:List (Nat×List Tx)) (o9 o10 o11 o12:Option S),Pen pd∧bs.map (·.1)=ts.take k∧(∀ b ∈ bs,b.2.length=h∧∀ r ∈ b.2,r.length=w∧∀ n ∈ r,n ∈ ts)∧δ=rb2 pd m h w s ts al (bs.map blD) o9 o10 o11 o12 none)
  (ts.map fun n=>D.str [n]) 0 _ ⟨pd,[],none,none,none,none,hpd,rfl,by simp,rfl⟩ (fun i d δ hd ⟨pd,bs,o9,o10,o11,o12,hpd,hbs,hall,e⟩=>by
   subst e
   rw [WR,J0] at hd
   obtain ⟨n,hn,rfl⟩:=hd
   have hi:i < ts.length:=(Wf.mp hn).1
   rw [Wy] at hbs
   have hbl:bs.length=i:=by have:=congrArg Jd hbs; simp at this; omega
   obtain ⟨fl,pd',o11',o12',e,hfl,hflt,hpd'⟩:=zfr (m:=m) (h:=h) (s:=s) hts0 hts hal hw hh hpd (bs.map blD) (some (.pure (.str [n]))) o11 o12 none
   have hz:bs.length < W6:=by rw [z1b]; omega
   refine ⟨_,rb2 pd' m h w s ts al ((bs ++ [(n,fl)]).map blD) (some (.pure (.str [n]))) (some (.own (.lst (fl.map .str)))) o11' o12' none,rfl,?_,⟨pd',bs ++ [(n,fl)],_,_,_,_,hpd',?_,?_,rfl⟩⟩
   ·unfold rb2 at e ⊢
    simp [zf0,dAsg,eVar,z3a h (by omega)]
    rw [e]
    simp [z0A,z1V,eVar,bVar,z1k,putL,hz,blD]
   ·rw [Wy,Jl,hbs,JB,hn]
    simp
   ·intro b hb
    rcases Qt.mp hb with hb | hb
    ·exact hall b hb
    ·simp at hb; subst hb; exact ⟨hfl,hflt⟩)
 refine ⟨bs,pd',o9,o10,o11,o12,e3,?_,hall,hpd'⟩
 rw [hbs,List.take_of_length_le]
 simp
theorem zck:∀ r:Nat,r < 10→∃ h w:Nat,pIx (.lst [.tup [.int 2,.int 2],.tup [.int 1,.int 2],.tup [.int 2,.int 1],.tup [.int 2,.int 2],.tup [.int 1,.int 3],.tup [.int 2,.int 3],.tup [.int 3,.int 1],.tup [.int 3,.int 2],.tup [.int 4,.int 4],.tup [.int 2,.int 2]]) (.int r)=some (.pure (.tup [.int h,.int w]))∧0 < h∧h≤4∧0 < w∧w≤4∧2 < h + w:=by
 intro r hr
 have:r=0∨r=1∨r=2∨r=3∨r=4∨r=5∨r=6∨r=7∨r=8∨r=9:=by omega
 rcases this with rfl | rfl | rfl | rfl | rfl | rfl | rfl | rfl | rfl | rfl
 ·exact ⟨2,2,rfl,by decide⟩
 ·exact ⟨1,2,rfl,by decide⟩
 ·exact ⟨2,1,rfl,by decide⟩
 ·exact ⟨2,2,rfl,by decide⟩
 ·exact ⟨1,3,rfl,by decide⟩
 ·exact ⟨2,3,rfl,by decide⟩
 ·exact ⟨3,1,rfl,by decide⟩
 ·exact ⟨3,2,rfl,by decide⟩
 ·exact ⟨4,4,rfl,by decide⟩
 ·exact ⟨2,2,rfl,by decide⟩
theorem sub_int (i j:Int):pSub (.int i) (.int j)=some (.pure (.int (i - j))):=rfl
theorem zaG (x:Tx) (h:x.length≤1000):pSl (some 1) none (.str x)=some (.pure (.str x.tail)):=by
 unfold pSl
 have hz:W6=16777216:=rfl
 simp only
 rw [if_pos (by omega)]
 have:cutL x (some 1) none=x.tail:=by
  unfold cutL HT.sIx
  simp
  cases x with
  | nil=>simp
  | cons a r=>simp
 rw [this]
theorem z8o (ds:List D):pSl (some 1) none (.tup ds)=some (.pure (.tup ds.tail)):=by
 have:cutL ds (some 1) none=ds.tail:=by
  unfold cutL HT.sIx
  simp
  cases ds with
  | nil=>simp
  | cons a r=>simp
 show some (S.pure (.tup (cutL ds (some 1) none)))=_
 rw [this]
theorem add_str (x y:Tx) (h:x.length + y.length≤1000):pAdd (.str x) (.str y)=some (.pure (.str (x ++ y))):=by
 have hz:W6=16777216:=rfl
 simp only [pAdd]
 rw [if_pos (by omega)]
theorem z8W (x y:List D) (h:x.length + y.length≤1000):pAdd (.tup x) (.tup y)=some (.pure (.tup (x ++ y))):=by
 have hz:W6=16777216:=rfl
 simp only [pAdd]
 rw [if_pos (by omega)]
def fixB:List (Nat×List Tx)→List (Nat×List Tx)
 | (n,r :: q) :: bs=>(n,(n :: r.tail) :: q) :: bs
 | bs=>bs
theorem zbJ (bs:List (Nat×List Tx)):(fixB bs).map (·.1)=bs.map (·.1):=by
 match bs with
 | []=>rfl
 | (n,[]) :: bs=>rfl
 | (n,r :: q) :: bs=>rfl
theorem zbI (R:Rul h w bs):Rul h w (fixB bs):=by
 have hf:=zbJ bs
 have hl:(fixB bs).length=bs.length:=by have:=congrArg Jd hf; simpa using this
 refine ⟨R.h0,R.h1,R.w0,R.w1,R.hw,by rw [hl]; exact R.n0,by rw [hl]; exact R.n1,by rw [hf]; exact R.up,fun b hb=>?_,fun b hb=>?_⟩
 ·have:b.1 ∈ (fixB bs).map (·.1):=WM hb
  rw [hf] at this
  obtain ⟨b',hb',e⟩:=WE.mp this
  rw [← e]; exact R.let' b' hb'
 ·rw [hf]
  match bs,R,hb with
  | [],R,hb=>have:=R.n0; simp at this
  | (n,[]) :: bs,R,hb=>exact R.blk b hb
  | (n,r :: q) :: bs,R,hb =>
   rcases Wj.mp hb with e | hb
   ·subst e
    have:=R.blk _ Wi
    refine ⟨this.1,fun x hx=>?_⟩
    rcases Wj.mp hx with e | hx
    ·subst e
     have h1:=this.2 r Wi
     refine ⟨by have:=R.w0; simp; omega,fun k hk=>?_⟩
     rcases Wj.mp hk with e | hk
     ·subst e; simp
     ·exact h1.2 k (List.mem_of_mem_tail hk)
    ·exact this.2 x (Wg _ hx)
   ·exact R.blk b (Wg _ hb)
theorem zaW (hp:Pen d) (m:Nat) (hm0:0 < m) (hm1:m≤26):∃ (h w:Nat) (bs:List (Nat×List Tx)) (d':D),
  z0T [.own d,.pure (.int m)]=some (.pure (ruD h w bs),[.own d',.pure (.int m)])∧Rul h w bs∧bs.length≤m∧Pen d':=by
 obtain ⟨r1,d1,e1,l1,p1⟩:=z6X hp 10 10 rfl (by decide) (by decide)
 obtain ⟨h,w,hx,h0,h1,w0,w1,hw⟩:=zck r1 l1
 obtain ⟨s,d2,e2,l2,p2⟩:=z6X p1 (27 - m) (27 - (m:Int)) (by omega) (by omega) (by omega)
 obtain ⟨r3,d3,e3,l3,p3⟩:=z9d p2 m hm0 (by omega)
 obtain ⟨al,d4,e4,l4,p4⟩:=z6X p3 3 3 rfl (by decide) (by decide)
 have hc:=z7T (s:=s) (r:=r3) (by omega)
 have hlen:=zf7 s (1 + r3)
 have hup:=ts_up s (1 + r3)
 have hlet:∀ t ∈ tsOf s (1 + r3),97≤t∧t≤122:=fun t ht=>zf6 (by omega) ht
 generalize tsOf s (1 + r3)=ts at hc hlen hup hlet
 obtain ⟨bs,d5,o9,o10,o11,o12,e5,hfst,hall,p5⟩:=zcx (m:=m) (h:=h) (w:=w) (s:=s) (ts:=ts) (al:=al) (by omega) (by omega) l4 w1 h1 p4
 obtain ⟨r6,d6,e6,l6,p6⟩:=z6X p5 2 2 rfl (by decide) (by decide)
 have hbl:bs.length=1 + r3:=by have:=congrArg Jd hfst; simp at this; omega
 have R:Rul h w bs:=⟨h0,h1,w0,w1,hw,by omega,by omega,by rw [hfst]; exact hup,fun b hb=>hlet _ (by rw [← hfst]; exact WM hb),fun b hb=>by rw [hfst]; exact hall b hb⟩
 have hsl:pSl (some (s:Int)) (some ((s:Int) + 1 + (r3:Int))) (.str lettersT)=some (.pure (.str ts)):=by rw [← hc]; rfl
 have hsz:[some (S.own d4),some (.pure (.int m)),some (.pure (.str lettersT)),some (.pure (.int h)),some (.pure (.int w)),some (.pure (.int s)),some (.pure (.str ts)),some (.pure (.int (1 + (al:Int)))),some (.own (.lst [])),none,none,none,none,none,none]=rb2 d4 m h w s ts al [] none none none none none:=rfl
 have hlT:D.str [97,98,99,100,101,102,103,104,105,106,107,108,109,110,111,112,113,114,115,116,117,118,119,120,121,122] = .str lettersT:=rfl
 by_cases hr6:r6=0
 ·-- the first block is changed
  match bs,R,hbl,e5,hall with
  | [],R,hbl,e5,hall=>simp at hbl; omega
  | (n,[]) :: q,R,hbl,e5,hall=>have:=(R.blk _ Wi).1; simp at this; omega
  | (n,x :: fl) :: q,R,hbl,e5,hall =>
   have hxl:=(R.blk _ Wi).2 x Wi
   have hfl:=(R.blk _ Wi).1
   simp only at hxl hfl
   refine ⟨h,w,fixB ((n,x :: fl) :: q),d6,?_,zbI R,?_,p6⟩
   ·have a1:pAdd (.str [n]) (.str x.tail)=some (.pure (.str (n :: x.tail))):=add_str [n] x.tail (by simp; omega)
    have a2:pAdd (.tup [.str (n :: x.tail)]) (.tup (fl.map .str))=some (.pure (.tup (.str (n :: x.tail) :: fl.map .str))):=z8W [.str (n :: x.tail)] (fl.map .str) (by simp at hfl ⊢; omega)
    have s1:=zaG x (by omega)
    have s2:pSl (some 1) none (flD (x :: fl))=some (.pure (.tup (fl.map .str))):=z8o ((x :: fl).map D.str)
    unfold z0T gOf z23 runD
    rw [hlT]
    generalize lettersT=LT at *
    generalize [D.tup [.int 2,.int 2],.tup [.int 1,.int 2],.tup [.int 2,.int 1],.tup [.int 2,.int 2],.tup [.int 1,.int 3],.tup [.int 2,.int 3],.tup [.int 3,.int 1],.tup [.int 3,.int 2],.tup [.int 4,.int 4],.tup [.int 2,.int 2]]=SZ at *
    simp [ioOk,z0g,dAsg,z09,ios,ndup,z0s,evX,mkA,e1,putA,hx,gTp,z0u,z2c,sub_int,bVar,e2,eSlN,z18,eVar,eOpF,eOpN,pAdd,e3,hsl,e4,z3r]
    simp only [hsz]
    rw [e5]
    simp [rb2,dTr,z09,ios,ndup,z0s,evX,mkA,e6,putA,hr6,pEq,flat,eqD,eOpF,eOpN,bVar,pIx,z1d,gTp,z0u,z2c,z85,z1V,eVar,eSlN,z18,s1,a1,s2,a2,ixN,putL,blD,z1k,z0H,z0e,fixB]
   ·have:=congrArg Jd (zbJ ((n,x :: fl) :: q))
    simp at this hbl ⊢
    omega
 ·refine ⟨h,w,bs,d6,?_,R,by omega,p6⟩
  unfold z0T gOf z23 runD
  rw [hlT]
  generalize lettersT=LT at *
  generalize [D.tup [.int 2,.int 2],.tup [.int 1,.int 2],.tup [.int 2,.int 1],.tup [.int 2,.int 2],.tup [.int 1,.int 3],.tup [.int 2,.int 3],.tup [.int 3,.int 1],.tup [.int 3,.int 2],.tup [.int 4,.int 4],.tup [.int 2,.int 2]]=SZ at *
  simp [ioOk,z0g,dAsg,z09,ios,ndup,z0s,evX,mkA,e1,putA,hx,gTp,z0u,z2c,sub_int,bVar,e2,eSlN,z18,eVar,eOpF,eOpN,pAdd,e3,hsl,e4,z3r]
  simp only [hsz]
  rw [e5]
  simp [rb2,dTr,z09,ios,ndup,z0s,evX,mkA,e6,putA,hr6,pEq,flat,eqD,bVar,z1k,z0H,z0e,eVar]
theorem z7Y (emb:A→D) (mk:B→J→Dl) (f:B→A→B) (P:B→Prop) (Q:A→Prop) (hf:∀ x a,P x→Q a→P (f x a)) (step:∀ x j a,P x→Q a→∃ δ1 j',g (.pure (emb a)) (mk x j)=some δ1∧b δ1 = .ok .next (mk (f x a) j')) :
  ∀ (as:List A) (x:B) (j:J),P x→(∀ a ∈ as,Q a)→∃ j',forL g b (as.map emb) (mk x j) = .ok .next (mk (as.foldl f x) j')∧P (as.foldl f x)
 | [],x,j,hp,_=>⟨j,rfl,hp⟩
 | a :: r,x,j,hp,hq=>by
  obtain ⟨δ1,j',e1,e2⟩:=step x j a hp (hq a Wi)
  obtain ⟨j'',e3,h3⟩:=z7Y emb mk f P Q hf step r (f x a) j' (hf x a hp (hq a Wi)) fun b hb=>hq b (Wg _ hb)
  refine ⟨j'',?_,h3⟩
  rw [Ww]
  unfold forL
  rw [e1]
  simp only [e2,z0Z,e3]
  rfl
theorem z7y (n:Nat):z0z 0 n=(Wb n).map fun k:Nat=>D.int (k:Int):=by simp [z0z]
theorem mul_int (i j:Int) (h0:0≤j) (h1:j≤1000):z1a (.int i) (.int j)=some (.pure (.int (i * j))):=by
 unfold z1a pMul pII
 have:cMul i j=true:=by unfold cMul; simp; omega
 simp only [this,if_true]
theorem zbp (r h:Nat) (h0:0 < h) (h1:h≤1000):pMod (.int r) (.int h)=some (.pure (.int ((r % h:Nat):Int))):=by
 simp only [pMod,pII]
 rw [if_pos (by simp; omega)]
 simp
theorem z7f (r h:Nat) (h0:0 < h) (h1:h≤1000):pDiv (.int r) (.int h)=some (.pure (.int ((r / h:Nat):Int))):=by
 have hc:cDiv (r:Int) (h:Int)=true:=by unfold cDiv; simp; omega
 show (if cDiv (r:Int) (h:Int) then _ else _)=_
 rw [if_pos hc]
 simp
theorem le_int (i j:Int):pLe (.int i) (.int j)=some (.pure (.bl (decide (i≤j)))):=rfl
theorem gt_int (i j:Int):pGt (.int i) (.int j)=some (.pure (.bl (decide (j < i)))):=rfl
theorem z3t (i j:Int):pEq (.int i) (.int j)=some (.pure (.bl (i == j))):=rfl
theorem add_int (i j:Int):pAdd (.int i) (.int j)=some (.pure (.int (i + j))):=rfl
theorem z0L (np:List Nat) (n:Nat) (b:DS) (ss:List S):gOf np n b ss=if ioOk np 0 ss then (match b (z0g n ss) with
 | .ok fl δ=>(z0H fl).bind fun r=>(z0e 0 ss δ).map fun outs=>(r,outs)
 | _=>none) else none:=rfl
def dcD (bs:List (Nat×List Tx)):D:=.dct (bs.map fun b=>(Sum.inr [b.1],flD b.2))
theorem z9k:∀ bs:List (Nat×List Tx),z3M (bs.map blD)=some (bs.map fun b=>(Sum.inr [b.1],flD b.2))
 | []=>rfl
 | b :: r=>by
  have:=z9k r
  simp only [Ww]
  simp [z3M,keyD,this]
theorem z7D:∀ (kps acc:List (DKey×D)),((acc ++ kps).map (·.1)).Nodup→z8x kps acc=acc ++ kps
 | [],acc,_=>by simp [z8x]
 | p :: r,acc,h=>by
  have hn:(acc.any fun kv=>decide (kv.1=p.1))=false:=by
   rw [Jy]
   intro kv hkv
   simp only [decide_eq_true_eq]
   intro e
   rw [Jl,List.nodup_append] at h
   exact h.2.2 kv.1 (WM hkv) p.1 (WM Wi) e
  have hp:putD acc p.1 p.2=acc ++ [p]:=by
   unfold putD
   rw [hn]
   simp
  show z8x r (putD acc p.1 p.2)=_
  rw [hp,z7D r (acc ++ [p]) (by simpa using h)]
  simp
theorem z8R (R:Rul h w bs):z2o (.tup (bs.map blD))=some (.own (dcD bs)):=by
 unfold z2o
 simp only [z9k,WD,Qd]
 have hz:W6=16777216:=rfl
 rw [if_pos (by have:=R.n1; omega),z7D]
 ·rfl
 ·simp only [Q0,Qg]
  rw [List.nodup_iff_pairwise_ne,List.pairwise_map]
  have:=R.up
  rw [List.pairwise_map] at this
  exact this.imp fun {a b} hab=>by simp; omega
def blk (bs:List (Nat×List Tx)) (n:Nat):List Tx:=((bs.find? fun b=>decide (b.1=n)).map (·.2)).getD []
theorem z7j (h:n ∈ bs.map (·.1)):∃ b ∈ bs,b.1=n∧(bs.find? fun b=>decide (b.1=n))=some b∧blk bs n=b.2:=by
 cases e:bs.find? fun b=>decide (b.1=n) with
 | none =>
  obtain ⟨b,hb,rfl⟩:=WE.mp h
  have:=List.find?_eq_none.mp e b hb
  simp at this
 | some b =>
  have h1:=List.mem_of_find?_eq_some e
  have h2:=List.find?_some e
  refine ⟨b,h1,by simpa using h2,rfl,?_⟩
  unfold blk
  rw [e]
  rfl
theorem zf5 (bs:List (Nat×List Tx)) (n:Nat):valD (bs.map fun b=>((Sum.inr [b.1]:DKey),flD b.2)) (.inr [n])=(bs.find? fun b=>decide (b.1=n)).map fun b=>flD b.2:=by
 unfold valD
 rw [List.find?_map]
 simp [Function.comp_def]
theorem zeE (h:n ∈ bs.map (·.1)):pIxX (dcD bs) (.str [n])=some (.pure (flD (blk bs n))):=by
 obtain ⟨b,hb,_,e,e2⟩:=z7j h
 show ((keyD (.str [n])).bind fun k=>(valD (bs.map fun b=>((Sum.inr [b.1]:DKey),flD b.2)) k).map S.pure)=_
 simp only [keyD,WD,zf5,e,WL,e2]
def NX:D→Prop
 | .exc _=>False
 | _=>True
def isI:D→Bool
 | .int _=>true
 | _=>false
def wi (m:Int):D→Bool
 | .int i=>decide (0≤i) && decide (i≤m)
 | _=>false
theorem ze9 (d:D) (hd:NX d):z1J [.pure d,.pure (.int 0)]=some (.pure (.bl (match d with | .int i=>decide (0≤i) | _=>false)),[.pure d,.pure (.int 0)]):=by
 rw [z1J,z0L,z3x]
 cases d <;> first | exact hd.elim | simp [ioOk,z0g,eAnd,eNot,eIsi,isTy,bVar,eVar,eOpF,eOpN,le_int,z0H,z0e]
theorem zaV (d:D) (m:Int) (hd:NX d):z1l [.pure d,.pure (.int 0),.pure (.int m)]=some (.pure (.bl (wi m d)),[.pure d,.pure (.int 0),.pure (.int m)]):=by
 have e:=ze9 d hd
 rw [z1l,z0L,z2K]
 cases d with
 | int i =>
  simp only at e
  by_cases h:0≤i
  ·simp [h] at e
   simp [ioOk,z0g,eAnd,z09,ios,ndup,z0s,evX,mkA,e,putA,bVar,eVar,eOpF,eOpN,le_int,z0H,z0e,wi,h]
  ·simp [h] at e
   simp [ioOk,z0g,eAnd,z09,ios,ndup,z0s,evX,mkA,e,putA,bVar,eVar,eOpF,eOpN,le_int,z0H,z0e,wi,h]
 | exc n=>exact hd.elim
 | _ =>
  simp only at e
  simp [ioOk,z0g,eAnd,z09,ios,ndup,z0s,evX,mkA,e,putA,bVar,eVar,eOpF,eOpN,le_int,z0H,z0e,wi]
theorem z9A (h:Nat):∀ (as:List Nat) (x:Nat),as.foldl (fun x _=>x * h) x=x * h ^ as.length
 | [],x=>by simp
 | a :: r,x=>by rw [Qn,z9A h r,WN,Qi,Nat.mul_assoc,Q8 h]
theorem zaX (h t:Nat) (h1:h≤1000) (t1:t≤1000):z19 [.pure (.int 1),.pure (.int h),.pure (.int t)]=some (.pure (.int ((h ^ t:Nat):Int)),[.pure (.int 1),.pure (.int h),.pure (.int t)]):=by
 rw [z19,z0L,z3z]
 obtain ⟨j',e,_⟩:=z7Y (g:=gNm [] 3) (b:=dAsg (eOpF z1a 0 (bVar 1)) (gNm [] 0)) (fun k:Nat=>D.int (k:Int)) (fun (x:Nat) (j:Option S)=>[some (.pure (.int (x:Int))),some (.pure (.int h)),some (.pure (.int t)),j]) (fun x _=>x * h) (fun _=>True) (fun _=>True) (fun _ _ _ _=>trivial) (fun x j a _ _=>⟨_,some (.pure (.int a)),rfl,by
  have:=mul_int x h (by omega) (by omega)
  simp [dAsg,eOpF,eOpN,bVar,this]⟩) (Wb t) 1 none trivial (fun _ _=>trivial)
 rw [z9A,Jz,Nat.one_mul,← z7y] at e
 simp [ioOk,z0g,eVar,z3a t (by omega)]
 simp only [Int.natCast_one] at e
 rw [e]
 simp [eVar,z0H,z0e]
def nt (bs:List (Nat×List Tx)) (n i j:Nat):Nat:=((blk bs n).getD i []).getD j 0
theorem zev (R:Rul h w bs) (hn:n ∈ bs.map (·.1)) (hi:i < h) (hj:j < w) :
  nt bs n i j ∈ bs.map (·.1)∧pIx (flD (blk bs n)) (.int i)=some (.pure (.str ((blk bs n).getD i [])))∧pIx (.str ((blk bs n).getD i [])) (.int j)=some (.pure (.str [nt bs n i j])):=by
 obtain ⟨b,hb,_,_,e2⟩:=z7j hn
 have hB:=R.blk b hb
 have h1:=R.h1
 have w1:=R.w1
 have hi':i < b.2.length:=by omega
 have hm:b.2.getD i [] ∈ b.2:=by
  rw [List.getD_eq_getElem?_getD,WA hi']
  exact QD hi'
 have hr:=hB.2 _ hm
 unfold nt
 rw [e2]
 refine ⟨hr.2 _ ?_,?_,?_⟩
 ·have hj':j < (b.2.getD i []).length:=by omega
  generalize b.2.getD i []=row at hj'
  rw [List.getD_eq_getElem?_getD,WA hj']
  exact QD hj'
 ·simp [pIx,z2h,hi']
 ·exact z83 _ j (by omega) (by omega)
theorem z2f (h w:Nat) (bs:List (Nat×List Tx)):pIx (ruD h w bs) (.int 0)=some (.pure (.int h))∧pIx (ruD h w bs) (.int 1)=some (.pure (.int w))∧pIx (ruD h w bs) (.int 2)=some (.pure (.tup (bs.map blD))):=by
 refine ⟨?_,?_,?_⟩
 ·simp [pIx,z1d]
 ·simp [pIx,z7l]
 ·simp [pIx,z8U]
theorem z3J (emb:A→D) (mk:B→J→Dl) (f:B→A→B) (P:Nat→B→Prop) (Q:A→Prop) (N:Nat) (step:∀ k x j a,k < N→P k x→Q a→P (k + 1) (f x a)∧∃ δ1 j',g (.pure (emb a)) (mk x j)=some δ1∧b δ1 = .ok .next (mk (f x a) j')) :
  ∀ (as:List A) (k:Nat) (x:B) (j:J),k + as.length≤N→P k x→(∀ a ∈ as,Q a)→∃ j',forL g b (as.map emb) (mk x j) = .ok .next (mk (as.foldl f x) j')∧P (k + as.length) (as.foldl f x)
 | [],k,x,j,_,hp,_=>⟨j,rfl,hp⟩
 | a :: r,k,x,j,hN,hp,hq=>by
  simp only [WN] at hN
  obtain ⟨hp',δ1,j',e1,e2⟩:=step k x j a (by omega) hp (hq a Wi)
  obtain ⟨j'',e3,h3⟩:=z3J emb mk f P Q N step r (k + 1) (f x a) j' (by omega) hp' fun b hb=>hq b (Wg _ hb)
  refine ⟨j'',?_,by rw [WN,show k + (r.length + 1)=k + 1 + r.length by omega]; exact h3⟩
  rw [Ww]
  unfold forL
  rw [e1]
  simp only [e2,z0Z,e3]
  rfl
abbrev Pr:=Nat×Nat
abbrev prD (p:Pr):D:=.tup [.int p.1,.int p.2]
abbrev t1D (n:Nat):D:=.str [n]
theorem zdi (ds:List D):pAll (.lst (ds.map fun _=>D.bl true))=some (.pure (.bl true)):=by
 have e:(ds.map fun _=>D.bl true)=(ds.map fun _=>true).map D.bl:=by simp
 unfold pAll
 simp only [e,zd7,WL]
 simp
theorem zbX (δ:Dl) (ds:List D) (hl:ds.length≤1000) (step:∀ d ∈ ds,∃ δ1 δ3,g (.pure d) δ=some δ1∧el δ1 = .ok (.pure (.bl true)) δ3∧clrD cs δ3=δ):z1Z cs g dYes el ds δ [] = .ok (ds.map fun _=>.bl true) δ:=by
 have:=zbY (cs:=cs) (g:=g) (t:=dYes) (el:=el) (fun _=>.bl true) δ ds [] (by rw [z1b]; simp; omega) (fun d hd=>by
  obtain ⟨δ1,δ3,e1,e2,e3⟩:=step d hd
  exact ⟨δ1,δ1,.pure (.bl true),δ3,e1,rfl,e2,e3,rfl⟩)
 simpa using this
def z4K (GD:DF):Prop:=∀ (d:D) (m:Nat),Pen d→0 < m→m < 1073741824→∃ (r:Nat) (d':D),GD [.own d,.pure (.int m)]=some (.pure (.int r),[.own d',.pure (.int m)])∧r < m∧Pen d'
theorem z7e:z4K z0a:=fun d m hp h0 h1=>z9d hp m h0 h1
theorem zg9 (n:Nat):pNe (.str [n]) (.str [n])=some (.pure (.bl false)):=by simp [pNe,flat,eqD]
theorem z9U (R:Rul h w bs):z0W [.pure (ruD h w bs)]=some (.own (.lst ((bs.map (·.1)).map t1D)),[.pure (ruD h w bs)]):=by
 have x2:=(z2f h w bs).2.2
 have hn:=R.n1
 generalize ruD h w bs=ru at *
 have e:=z2i (cs:=[1,2]) (g:=(gTp 2 (z0u (gNm [] 1) (z0u (gNm [] 2) z2c)))) (t:=dYes) (el:=eVar 1) blD (fun b:Nat×List Tx=>t1D b.1) [some (.pure ru),none,none] bs [] (by rw [z1b]; simp; omega) (fun b hb=>⟨_,_,.pure (t1D b.1),[some (.pure ru),some (.pure (t1D b.1)),some (.pure (flD b.2))],rfl,rfl,rfl,rfl,rfl⟩)
 rw [z0W,z0L,z2v]
 simp [ioOk,z0g,eOpF,eOpN,bVar,x2,z3r,z0s,clrD]
 rw [e]
 simp [z1S,z0H,z0e,Function.comp_def]
def lay1 (bs:List (Nat×List Tx)) (l:Nat) (row:Tx):Tx:=(row.map fun n=>(blk bs n).getD l []).flatten
def layR (h:Nat) (bs:List (Nat×List Tx)) (row:Tx):List Tx:=(Wb h).map fun l=>lay1 bs l row
def lay (h:Nat) (bs:List (Nat×List Tx)) (fl:List Tx):List Tx:=fl.flatMap (layR h bs)
structure Fl2 (bs:List (Nat×List Tx)) (R C:Nat) (fl:List Tx):Prop where
 rows:fl.length=R
 cols:∀ r ∈ fl,r.length=C
 tl:∀ r ∈ fl,∀ n ∈ r,n ∈ bs.map (·.1)
theorem z7w (R:Rul h w bs) (hn:n ∈ bs.map (·.1)) (hl:l < h):((blk bs n).getD l []).length=w∧(∀ k ∈ (blk bs n).getD l [],k ∈ bs.map (·.1))∧pIx (flD (blk bs n)) (.int l)=some (.pure (.str ((blk bs n).getD l []))):=by
 obtain ⟨b,hb,_,_,e2⟩:=z7j hn
 have hB:=R.blk b hb
 have hi':l < b.2.length:=by omega
 have hm:b.2.getD l [] ∈ b.2:=by
  rw [List.getD_eq_getElem?_getD,WA hi']
  exact QD hi'
 have hr:=hB.2 _ hm
 rw [e2]
 exact ⟨hr.1,hr.2,by simp [pIx,z2h,hi']⟩
theorem z8M (R:Rul h w bs) (hl:l < h):∀ row:Tx,(∀ n ∈ row,n ∈ bs.map (·.1))→(lay1 bs l row).length=row.length * w∧∀ k ∈ lay1 bs l row,k ∈ bs.map (·.1)
 | [],_=>by simp [lay1]
 | n :: r,h'=>by
  have ih:=z8M R hl r fun k hk=>h' k (Wg _ hk)
  have h1:=z7w R (h' n Wi) hl
  have e:lay1 bs l (n :: r)=(blk bs n).getD l [] ++ lay1 bs l r:=rfl
  rw [e]
  refine ⟨by rw [Q2,h1.1,ih.1,WN,J1,QR],fun k hk=>?_⟩
  rcases Qt.mp hk with hk | hk
  ·exact h1.2.1 k hk
  ·exact ih.2 k hk
theorem zdB (R:Rul h w bs) (F:Fl2 bs A C fl):Fl2 bs (A * h) (C * w) (lay h bs fl):=by
 refine ⟨?_,fun r hr=>?_,fun r hr=>?_⟩
 ·rw [← F.rows]
  clear F
  induction fl with
  | nil=>simp [lay]
  | cons x q ih =>
   have e:lay h bs (x :: q)=layR h bs x ++ lay h bs q:=rfl
   rw [e,Q2,ih,WN,J1]
   simp [layR,QR]
 ·simp only [lay,List.mem_flatMap,layR,WE,List.mem_range] at hr
  obtain ⟨x,hx,l,hl,rfl⟩:=hr
  rw [(z8M R hl x (F.tl x hx)).1,F.cols x hx]
 ·simp only [lay,List.mem_flatMap,layR,WE,List.mem_range] at hr
  obtain ⟨x,hx,l,hl,rfl⟩:=hr
  exact (z8M R hl x (F.tl x hx)).2
theorem zbv (xs:List Tx) (m:Nat) (h:∀ x ∈ xs,x.length≤m):z3m xs≤xs.length * m:=by
 induction xs with
 | nil=>simp [z3m]
 | cons x r ih =>
  have h1:=h x Wi
  have h2:=ih fun y hy=>h y (Wg _ hy)
  have e:z3m (x :: r)=x.length + z3m r:=by simp [z3m]
  rw [e,WN,J1]
  omega
theorem zae (xs:List Tx) (h:z3m xs≤16777216):z3k [] (.lst (xs.map .str))=some (.pure (.str xs.flatten)):=by
 unfold z3k
 simp only [z9G,z3s]
 rw [if_pos (by simpa using h)]
theorem zfE (R:Rul h w bs) (F:Fl2 bs A C fl) (hA:A≤1000) (hC:C≤1000) :
  gOf [] 7 (dSeq (dAsg (eLst aNil) (gNm [] 3)) (dSeq (dFor (iSq (eVar 2)) (gNm [] 4) (B13_)) (dRet (eC1 z1k (bVar 3))))) [.pure (dcD bs),.pure (.int h),.pure (flD fl)]=some (.pure (flD (lay h bs fl)),[.pure (dcD bs),.pure (.int h),.pure (flD fl)]):=by
 have h1:=R.h1
 have w1:=R.w1
 -- one new row
 have comp:∀ (acc:List Tx) (row:Tx) (l:Nat),row ∈ fl→l < h→z1Z [6] (gNm [] 6) dYes (eOp pIx (eOpF pIxX 0 (bVar 6)) (bVar 5)) (row.map fun n=>.str [n]) [some (.pure (dcD bs)),some (.pure (.int h)),some (.pure (flD fl)),some (.own (.lst (acc.map .str))),some (.pure (.str row)),some (.pure (.int l)),none] [] = .ok ((row.map fun n=>(blk bs n).getD l []).map .str) [some (.pure (dcD bs)),some (.pure (.int h)),some (.pure (flD fl)),some (.own (.lst (acc.map .str))),some (.pure (.str row)),some (.pure (.int l)),none]:=fun acc row l hrow hl=>by
  have e:=z2i (cs:=[6]) (g:=gNm [] 6) (t:=dYes) (el:=(eOp pIx (eOpF pIxX 0 (bVar 6)) (bVar 5))) (fun n:Nat=>D.str [n]) (fun n=>.str ((blk bs n).getD l [])) [some (.pure (dcD bs)),some (.pure (.int h)),some (.pure (flD fl)),some (.own (.lst (acc.map .str))),some (.pure (.str row)),some (.pure (.int l)),none] row [] (by rw [z1b,F.cols row hrow]; simp; omega) (fun n hn=>by
   have hm:=F.tl row hrow n hn
   have y1:=zeE hm
   have y2:=(z7w R hm hl).2.2
   refine ⟨_,_,.pure (.str ((blk bs n).getD l [])),[some (.pure (dcD bs)),some (.pure (.int h)),some (.pure (flD fl)),some (.own (.lst (acc.map .str))),some (.pure (.str row)),some (.pure (.int l)),some (.pure (.str [n]))],rfl,rfl,?_,rfl,rfl⟩
   generalize D.str ((blk bs n).getD l [])=dr at *
   generalize flD (blk bs n)=db at *
   generalize flD fl=df at *
   generalize dcD bs=dd at *
   generalize acc.map D.str=ad at *
   simp [eOpF,eOpN,bVar,y1,y2])
  rw [e]
  simp [Function.comp_def]
 -- the rows of one row
 have inner:∀ (acc:List Tx) (row:Tx) (o:Option S),row ∈ fl→acc.length≤100000→∃ o',forL (gNm [] 5) (z0A 3 (eC1 (z3k []) (bOf (z2s [6] (iSq (eVar 4)) (gNm [] 6) dYes (eOp pIx (eOpF pIxX 0 (bVar 6)) (bVar 5)))))) (z0z 0 h) [some (.pure (dcD bs)),some (.pure (.int h)),some (.pure (flD fl)),some (.own (.lst (acc.map .str))),some (.pure (.str row)),o,none]
   = .ok .next [some (.pure (dcD bs)),some (.pure (.int h)),some (.pure (flD fl)),some (.own (.lst ((acc ++ layR h bs row).map .str))),some (.pure (.str row)),o',none]:=fun acc row o hrow hacc=>by
  obtain ⟨δ',e,o',rfl⟩:=z16 (g:=gNm [] 5) (b:=(z0A 3 (eC1 (z3k []) (bOf (z2s [6] (iSq (eVar 4)) (gNm [] 6) dYes (eOp pIx (eOpF pIxX 0 (bVar 6)) (bVar 5))))))) (fun k δ=>∃ o,δ=[some (.pure (dcD bs)),some (.pure (.int h)),some (.pure (flD fl)),some (.own (.lst ((acc ++ layR k bs row).map .str))),some (.pure (.str row)),o,none]) (z0z 0 h) 0 [some (.pure (dcD bs)),some (.pure (.int h)),some (.pure (flD fl)),some (.own (.lst (acc.map .str))),some (.pure (.str row)),o,none] ⟨o,by simp [layR]⟩ (fun i d δ hd ⟨o,e⟩=>by
   subst e
   obtain ⟨hi,rfl⟩:=z11 hd
   rw [Wy]
   have hc:=comp (acc ++ layR i bs row) row i hrow hi
   have hj:z3k [] (.lst ((row.map fun n=>(blk bs n).getD i []).map .str))=some (.pure (.str (lay1 bs i row))):=zae _ (by
    have hs:=zbv (row.map fun n=>(blk bs n).getD i []) w (fun x hx=>by
     obtain ⟨n,hn,rfl⟩:=WE.mp hx
     rw [(z7w R (F.tl row hrow n hn) hi).1]
     exact Wh _)
    rw [Qd,F.cols row hrow] at hs
    have:C * w≤1000 * 4:=Jx hC w1
    omega)
   have hz:((acc ++ layR i bs row).map D.str).length < W6:=by
    rw [z1b]
    simp [layR]
    omega
   have hE:(acc ++ layR (i + 1) bs row).map D.str=(acc ++ layR i bs row).map D.str ++ [.str (lay1 bs i row)]:=by
    simp [layR,Qf]
   refine ⟨_,[some (.pure (dcD bs)),some (.pure (.int h)),some (.pure (flD fl)),some (.own (.lst ((acc ++ layR (i + 1) bs row).map .str))),some (.pure (.str row)),some (.pure (.int i)),none],rfl,?_,_,rfl⟩
   rw [hE]
   generalize lay1 bs i row=nr at *
   generalize (row.map fun n=>(blk bs n).getD i []).map D.str=XS at *
   generalize (acc ++ layR i bs row).map D.str=AD at *
   generalize flD fl=df at *
   generalize dcD bs=dd at *
   simp [z0A,z1V,z3r,eVar,z0s,clrD]
   rw [hc]
   simp [z1S,hj,putL,hz])
  rw [Wy,z2B] at e
  exact ⟨o',e⟩
 have outer:∃ o4 o5,forL (gNm [] 4) (B13_) (fl.map .str) [some (.pure (dcD bs)),some (.pure (.int h)),some (.pure (flD fl)),some (.own (.lst [])),none,none,none]
   = .ok .next [some (.pure (dcD bs)),some (.pure (.int h)),some (.pure (flD fl)),some (.own (.lst ((lay h bs fl).map .str))),o4,o5,none]:=by
  obtain ⟨δ',e,o4,o5,rfl⟩:=z16 (g:=gNm [] 4) (b:=(B13_)) (fun k δ=>∃ o4 o5,δ=[some (.pure (dcD bs)),some (.pure (.int h)),some (.pure (flD fl)),some (.own (.lst ((lay h bs (fl.take k)).map .str))),o4,o5,none]) (fl.map D.str) 0 [some (.pure (dcD bs)),some (.pure (.int h)),some (.pure (flD fl)),some (.own (.lst [])),none,none,none] ⟨none,none,by simp [lay]⟩ (fun i d δ hd ⟨o4,o5,e⟩=>by
   subst e
   rw [WR,J0] at hd
   obtain ⟨row,hrow,rfl⟩:=hd
   rw [Wy]
   have hi:i < fl.length:=(Wf.mp hrow).1
   have hlen:(lay h bs (fl.take i)).length≤100000:=by
    have F':Fl2 bs (fl.take i).length C (fl.take i):=⟨rfl,fun r hr=>F.cols r (Qx hr),fun r hr=>F.tl r (Qx hr)⟩
    have:=(zdB R F').rows
    rw [this]
    have h2:(fl.take i).length≤1000:=by have:=F.rows; rw [QP]; omega
    have:(fl.take i).length * h≤1000 * 4:=Jx h2 h1
    omega
   obtain ⟨o',e⟩:=inner (lay h bs (fl.take i)) row o5 (WB hrow) hlen
   have hE:lay h bs (fl.take (i + 1))=lay h bs (fl.take i) ++ layR h bs row:=by
    rw [JB,hrow]
    simp [lay]
   refine ⟨_,[some (.pure (dcD bs)),some (.pure (.int h)),some (.pure (flD fl)),some (.own (.lst ((lay h bs (fl.take (i + 1))).map .str))),some (.pure (.str row)),o',none],rfl,?_,_,_,rfl⟩
   rw [hE]
   generalize (lay h bs (fl.take i) ++ layR h bs row).map D.str=AD at *
   generalize (lay h bs (fl.take i)).map D.str=AE at *
   generalize flD fl=df at *
   generalize dcD bs=dd at *
   simp only [z8P,z81,eVar,List.set_cons_succ,List.set_cons_zero,List.getElem?_cons_succ,QT,z0Z,z3a h (by omega:h≤1000000)]
   exact e)
  refine ⟨o4,o5,?_⟩
  rw [e]
  simp
 obtain ⟨o4,o5,e⟩:=outer
 have hsq:∀ δ:Dl,δ[2]? = some (some (.pure (flD fl)))→iSq (eVar 2) δ = .ok (fl.map .str) δ:=fun δ hδ=>by
  simp [z3r,eVar,hδ]
 rw [z0L]
 generalize hAD:(lay h bs fl).map D.str=AD at *
 generalize dcD bs=dd at *
 simp [ioOk,z0g,dAsg,z3r,eVar]
 rw [e]
 simp [bVar,z1k,z0H,z0e]
 exact hAD.symm
theorem zfu (R:Rul h w bs) (F:Fl2 bs A C fl) (hA:A≤1000) (hC:C≤1000):z1u [.pure (dcD bs),.pure (.int h),.pure (flD fl)]=some (.pure (flD (lay h bs fl)),[.pure (dcD bs),.pure (.int h),.pure (flD fl)]):=by
 rw [z1u,z3y]
 exact zfE R F hA hC
def far (h w:Nat) (bs:List (Nat×List Tx)) (n:Nat):Nat→Nat→Nat→Nat
 | 0,_,_=>n
 | t + 1,r,c=>nt bs (far h w bs n t (r / h) (c / w)) (r % h) (c % w)
theorem z61 (R:Rul h w bs) (hn:n ∈ bs.map (·.1)):∀ t r c,far h w bs n t r c ∈ bs.map (·.1)
 | 0,_,_=>hn
 | t + 1,r,c=>(zev R (z61 R hn t _ _) (JI _ R.h0) (JI _ R.w0)).1
def grid (f:Nat→Nat→Nat) (A C:Nat):List Tx:=(Wb A).map fun i=>(Wb C).map (f i)
theorem z4Y (h:∀ i,i < A→∀ j,j < C→f i j=g i j):grid f A C=grid g A C:=by
 unfold grid
 refine WY fun i hi=>?_
 refine WY fun j hj=>?_
 exact h i (by simpa using hi) j (by simpa using hj)
theorem z7z (a:Nat):∀ b,Wb (a + b)=Wb a ++ (Wb b).map (a + ·)
 | 0=>by simp
 | b + 1=>by
  rw [← Nat.add_assoc,Qf,z7z a b,Qf]
  simp
theorem z4Q (φ:Nat→Nat→α) (w0:0 < w):∀ C,(Wb C).flatMap (fun j=>(Wb w).map (φ j))=(Wb (C * w)).map fun b=>φ (b / w) (b % w)
 | 0=>by simp
 | C + 1=>by
  rw [Qf,List.flatMap_append,z4Q φ w0 C,J1,z7z,Jl]
  congr 1
  simp only [List.flatMap_cons,List.flatMap_nil,WP,Qg]
  refine WY fun m hm=>?_
  have hm':m < w:=by simpa using hm
  simp only [Function.comp_def]
  rw [show (C * w + m) / w=C by rw [QR,Nat.add_mul_div_right _ _ w0,JF hm',Wy],show (C * w + m) % w=m by rw [QR,Nat.add_mul_mod_self_right,Nat.mod_eq_of_lt hm']]
theorem zaR (R:Rul h w bs) (hx:x ∈ bs.map (·.1)) (hl:l < h):(blk bs x).getD l []=(Wb w).map (nt bs x l):=by
 have h1:=(z7w R hx hl).1
 apply List.ext_getElem
 ·simpa using h1
 ·intro j h2 h3
  rw [List.getElem_map,List.getElem_range]
  unfold nt
  generalize (blk bs x).getD l []=row at *
  simp [h2]
theorem z9p (R:Rul h w bs) (f:Nat→Nat→Nat) (A C:Nat) (hf:∀ i j,f i j ∈ bs.map (·.1)):lay h bs (grid f A C)=grid (fun a b=>nt bs (f (a / h) (b / w)) (a % h) (b % w)) (A * h) (C * w):=by
 have e1:∀ i l,l < h→lay1 bs l ((Wb C).map (f i))=(Wb (C * w)).map fun b=>nt bs (f i (b / w)) l (b % w):=fun i l hl=>by
  unfold lay1
  rw [Qg]
  have:(Wb C).map ((fun n=>(blk bs n).getD l []) ∘ f i)=(Wb C).map fun j=>(Wb w).map (nt bs (f i j) l):=WY fun j _=>zaR R (hf i j) hl
  rw [this,← List.flatMap_def,z4Q (fun j m=>nt bs (f i j) l m) R.w0 C]
 have e2:∀ i,layR h bs ((Wb C).map (f i))=(Wb h).map fun l=>(Wb (C * w)).map fun b=>nt bs (f i (b / w)) l (b % w):=fun i=>by
  unfold layR
  exact WY fun l hl=>e1 i l (by simpa using hl)
 unfold lay grid
 rw [List.flatMap_map]
 have e3:(Wb A).flatMap (fun i=>layR h bs ((Wb C).map (f i)))=(Wb A).flatMap fun i=>(Wb h).map fun l=>(Wb (C * w)).map fun b=>nt bs (f i (b / w)) l (b % w):=by
  rw [List.flatMap_def,List.flatMap_def]
  congr 1
  exact WY fun i _=>e2 i
 rw [e3,z4Q (fun i l=>(Wb (C * w)).map fun b=>nt bs (f i (b / w)) l (b % w)) R.h0 A]
theorem z9y (A C:Nat) (hf:∀ i j,f i j ∈ bs.map (·.1)):Fl2 bs A C (grid f A C):=by
 refine ⟨by simp [grid],fun r hr=>?_,fun r hr x hx=>?_⟩
 ·simp [grid] at hr; obtain ⟨i,_,rfl⟩:=hr; simp
 ·simp only [grid,WE] at hr; obtain ⟨i,_,rfl⟩:=hr
  obtain ⟨j,_,rfl⟩:=WE.mp hx
  exact hf i j
theorem z4H (f:α→β) (xs:List α) (lo hi:Option Int):cutL (xs.map f) lo hi=(cutL xs lo hi).map f:=by
 unfold cutL
 simp [List.map_drop,List.map_take]
theorem z6I {A r k:Nat} (h:r + k≤A):cutL (Wb A) (some (r:Int)) (some ((r:Int) + (k:Int)))=(Wb k).map (r + ·):=by
 have h1:¬ (r:Int) < 0:=by omega
 have h2:¬ (r:Int) + (k:Int) < 0:=by omega
 have h3:((r:Int) + (k:Int)).toNat=r + k:=by omega
 unfold cutL HT.sIx
 simp only [h1,h2,if_false,h3,Jz,Int.toNat_natCast]
 rw [show min r A=r by omega,show min (r + k) A - r=k by omega]
 apply List.ext_getElem
 ·simp; omega
 ·intro i h4 h5
  simp
def cut (fl:List Tx) (r c h w:Int):List Tx:=(cutL fl (some r) (some (r + h))).map fun t=>cutL t (some c) (some (c + w))
theorem zdb (f:Nat→Nat→Nat) {A C r c k m:Nat} (h1:r + k≤A) (h2:c + m≤C):cut (grid f A C) r c k m=grid (fun i j=>f (r + i) (c + j)) k m:=by
 unfold cut grid
 rw [z4H,z6I h1,Qg,Qg]
 refine WY fun i _=>?_
 simp only [Function.comp_def]
 rw [z4H,z6I h2,Qg]
 rfl
theorem sl_tup (ds:List D) (lo hi:Option Int):pSl lo hi (.tup ds)=some (.pure (.tup (cutL ds lo hi))):=rfl
theorem sl_str (x:Tx) (h:x.length≤100000) (lo hi:Option Int):pSl lo hi (.str x)=some (.pure (.str (cutL x lo hi))):=by
 unfold pSl
 have:W6=16777216:=rfl
 simp only
 rw [if_pos (by omega)]
theorem zdc (h1:fl.length≤100000) (h2:∀ r ∈ fl,r.length≤100000) (c w:Int) (lo hi:Option Int) (δ:Dl) (step:∀ t:Tx,t.length≤100000→∃ δ1 δ3,g (.pure (.str t)) δ=some δ1∧el δ1 = .ok (.pure (.str (cutL t (some c) (some (c + w))))) δ3∧clrD cs δ3=δ) :
  z1Z cs g dYes el (cutL (fl.map .str) lo hi) δ [] = .ok (((cutL fl lo hi).map fun t=>cutL t (some c) (some (c + w))).map .str) δ:=by
 rw [z4H]
 have hl:(cutL fl lo hi).length≤100000:=by have:=z9K fl lo hi; omega
 have:=z2i (cs:=cs) (g:=g) (t:=dYes) (el:=el) D.str (fun t=>.str (cutL t (some c) (some (c + w)))) δ (cutL fl lo hi) [] (by rw [z1b]; simp; omega) (fun t ht=>by
  obtain ⟨δ1,δ3,e1,e2,e3⟩:=step t (h2 t (List.mem_of_mem_drop (Qx ht)))
  exact ⟨δ1,δ1,.pure (.str (cutL t (some c) (some (c + w)))),δ3,e1,rfl,e2,e3,rfl⟩)
 rw [this]
 simp [Function.comp_def]
theorem q_cut (h1:fl.length≤100000) (h2:∀ r ∈ fl,r.length≤100000) (r c h w:Int):gOf [] 6 (dRet (eC1 z1k (bOf (z2s [5] (iSq (eSlN 0 (z18 (eVar 1)) (z18 (eOpF pAdd 1 (bVar 3))))) (gNm [] 5) dYes (eSlN 5 (z18 (eVar 2)) (z18 (eOpF pAdd 2 (bVar 4)))))))) [.pure (flD fl),.pure (.int r),.pure (.int c),.pure (.int h),.pure (.int w)]=some (.pure (flD (cut fl r c h w)),[.pure (flD fl),.pure (.int r),.pure (.int c),.pure (.int h),.pure (.int w)]):=by
 have e:=zdc h1 h2 (cs:=[5]) (g:=gNm [] 5) (el:=eSlN 5 (z18 (eVar 2)) (z18 (eOpF pAdd 2 (bVar 4)))) c w (some r) (some (r + h)) [some (.pure (flD fl)),some (.pure (.int r)),some (.pure (.int c)),some (.pure (.int h)),some (.pure (.int w)),none] (fun t ht=>by
  refine ⟨_,[some (.pure (flD fl)),some (.pure (.int r)),some (.pure (.int c)),some (.pure (.int h)),some (.pure (.int w)),some (.pure (.str t))],rfl,?_,rfl⟩
  simp [eSlN,z18,eVar,eOpF,eOpN,bVar,pAdd,sl_str t (by omega)])
 rw [z0L]
 simp [ioOk,z0g,z3r,eSlN,z18,eVar,eOpF,eOpN,bVar,pAdd,sl_tup,z0s,clrD]
 rw [e]
 simp [z1S,z1k,z0H,z0e,cut]
theorem z3H (f:Nat→Nat→Nat) (A C:Nat):(grid f A C).length=A∧∀ r ∈ grid f A C,r.length=C:=by
 refine ⟨by simp [grid],fun r hr=>?_⟩
 simp [grid] at hr; obtain ⟨i,_,rfl⟩:=hr; simp
theorem z8u (f:Nat→Nat→Nat) {A C r c k m:Nat} (hA:A≤100000) (hC:C≤100000) (h1:r + k≤A) (h2:c + m≤C):z1G [.pure (flD (grid f A C)),.pure (.int r),.pure (.int c),.pure (.int k),.pure (.int m)]=some (.pure (flD (grid (fun i j=>f (r + i) (c + j)) k m)),[.pure (flD (grid f A C)),.pure (.int r),.pure (.int c),.pure (.int k),.pure (.int m)]):=by
 rw [← zdb f h1 h2,z1G,z4h]
 exact q_cut (by rw [(z3H f A C).1]; exact hA) (fun r hr=>by rw [(z3H f A C).2 r hr]; exact hC) _ _ _ _
theorem zeH (f:Nat→Nat→Nat) (hr:r < A) (hc:c < C) (hC:C≤1000):∃ d,pIx (flD (grid f A C)) (.int r)=some (.pure d)∧pIx d (.int c)=some (.pure (.str [f r c])):=by
 refine ⟨.str ((Wb C).map (f r)),?_,?_⟩
 ·simp [pIx,z2h,grid,hr]
 ·have hz:W6=16777216:=rfl
  simp [pIx,z2h,hc]
  omega
theorem z9x (f:Nat→Nat→Nat) (hA:0 < A) (hC:C≤1000):∃ d,pIx (flD (grid f A C)) (.int 0)=some (.pure d)∧pLen d=some (.pure (.int C)):=by
 refine ⟨.str ((Wb C).map (f 0)),?_,?_⟩
 ·have:=WA (l:=Wb A) (i:=0) (by simpa using hA)
  simp [pIx,z1d,grid,this]
 ·have hz:W6=16777216:=rfl
  simp [pLen]
  omega
theorem z7g (a b:Nat) (x:Int) (hx:x=a) (h0:0 < b) (h1:b < 2 ^ 400):z5I (.int x) (.int b)=some (.pure (.int ((a / b:Nat):Int))):=by
 subst hx
 rw [zcL _ _ (by omega) (by
  unfold bigB
  have e:((2 ^ 400:Nat):Int)≤(2:Int) ^ 1000:=by
   have:((2 ^ 400:Nat):Int)≤((2 ^ 1000:Nat):Int):=Int.ofNat_le.mpr (Qy (by decide) (by decide))
   rw [Int.natCast_pow 2 1000] at this
   exact this
  exact Int.lt_of_lt_of_le (Int.ofNat_lt.mpr h1) e)]
 rfl
abbrev B4_ (GC:DF) (GL:DF):DS:=dSeq (dAsg (eOpF pDiv 9 (bOf (eOpF pIx 0 (bOf (eD (.int 0)))))) (gNm [] 9)) (dSeq (dAsg (eOpF pDiv 10 (bOf (eOpF pIx 0 (bOf (eD (.int 1)))))) (gNm [] 10)) (dSeq (dAsg (eOpF z5I 4 (bVar 9)) (gNm [] 15)) (dSeq (dAsg (eOpF z5I 5 (bVar 10)) (gNm [] 16)) (dSeq (dAsg (eOp pAdd (eOp pSub (eOp z5I (eOp pSub (eOpF pAdd 4 (bVar 6)) (bOf (eD (.int 1)))) (bVar 9)) (bVar 15)) (bOf (eD (.int 1)))) (gNm [] 17)) (dSeq (dAsg (eOp pAdd (eOp pSub (eOp z5I (eOp pSub (eOpF pAdd 5 (bVar 7)) (bOf (eD (.int 1)))) (bVar 10)) (bVar 16)) (bOf (eD (.int 1)))) (gNm [] 18)) (dSeq (dAsg (z09 GL [.val (eVar 8),.val (eOpF pIx 0 (bOf (eD (.int 0)))),.val (eVar 11)]) (gNm [] 19)) (dSeq (dAsg (z09 GC [.val (eVar 19),.val (eOpF pSub 15 (bOf (eOpF z1a 12 (bOf (eOpF pIx 0 (bOf (eD (.int 0)))))))),.val (eOpF pSub 16 (bOf (eOpF z1a 13 (bOf (eOpF pIx 0 (bOf (eD (.int 1)))))))),.val (eVar 17),.val (eVar 18)]) (gNm [] 11)) (dSeq (dAsg (eVar 15) (gNm [] 12)) (dAsg (eVar 16) (gNm [] 13))))))))))
theorem za1 (GG GL GC:DF) (ru bl dd:D) (KP GW:Nat→List Tx) (h w t n r c HH WW:Nat) (h0:0 < h) (h1:h≤4) (w0:0 < w) (w1:w≤4) (ht:t≤150) (hH:0 < HH) (hW:0 < WW) (p q FT SL LT MT RT CT OF OG:Nat→Nat)
  (hp1:∀ k,k < t→p (t - k) / h=p (t - (k + 1))) (hp2:∀ k,k≤t→0 < p k∧p k < 2 ^ 400) (hq1:∀ k,k < t→q (t - k) / w=q (t - (k + 1))) (hq2:∀ k,k≤t→0 < q k∧q k < 2 ^ 400)
  (hF:∀ k,k < t→r / p (t - (k + 1))=FT (k + 1)) (hS:∀ k,k < t→c / q (t - (k + 1))=SL (k + 1)) (hL:∀ k,k < t→(r + HH - 1) / p (t - (k + 1))=LT (k + 1)) (hM:∀ k,k < t→(c + WW - 1) / q (t - (k + 1))=MT (k + 1))
  (hR:∀ k,k < t→(LT (k + 1):Int) - (FT (k + 1):Int) + 1=(RT (k + 1):Int)) (hC:∀ k,k < t→(MT (k + 1):Int) - (SL (k + 1):Int) + 1=(CT (k + 1):Int)) (hO:∀ k,k < t→(FT (k + 1):Int) - (FT k:Int) * (h:Int)=(OF k:Int)) (hP:∀ k,k < t→(SL (k + 1):Int) - (SL k:Int) * (w:Int)=(OG k:Int))
  (hF0:FT 0=0) (hS0:SL 0=0) (hf0:KP 0=[[n]]) (x0:pIx ru (.int 0)=some (.pure (.int h))) (x1:pIx ru (.int 1)=some (.pure (.int w))) (x2:pIx ru (.int 2)=some (.pure bl)) (hdc:z2o bl=some (.own dd))
  (g1:GG [.pure (.int 1),.pure (.int h),.pure (.int t)]=some (.pure (.int (p t)),[.pure (.int 1),.pure (.int h),.pure (.int t)])) (g2:GG [.pure (.int 1),.pure (.int w),.pure (.int t)]=some (.pure (.int (q t)),[.pure (.int 1),.pure (.int w),.pure (.int t)]))
  (gl:∀ k,k < t→GL [.pure dd,.pure (.int h),.pure (flD (KP k))]=some (.pure (flD (GW k)),[.pure dd,.pure (.int h),.pure (flD (KP k))]))
  (gc:∀ k,k < t→GC [.pure (flD (GW k)),.pure (.int (OF k)),.pure (.int (OG k)),.pure (.int (RT (k + 1))),.pure (.int (CT (k + 1)))]=some (.pure (flD (KP (k + 1))),[.pure (flD (GW k)),.pure (.int (OF k)),.pure (.int (OG k)),.pure (.int (RT (k + 1))),.pure (.int (CT (k + 1)))])) :
  gOf [] 20 (dSeq (dAsg (eVar 3) (gTp 4 (z0u (gNm [] 4) (z0u (gNm [] 5) (z0u (gNm [] 6) (z0u (gNm [] 7) z2c)))))) (dSeq (dAsg (eC1 z2o (bOf (eOpF pIx 0 (bOf (eD (.int 2)))))) (gNm [] 8)) (dSeq (dAsg (z09 GG [.val (eD (.int 1)),.val (eOpF pIx 0 (bOf (eD (.int 0)))),.val (eVar 2)]) (gNm [] 9)) (dSeq (dAsg (z09 GG [.val (eD (.int 1)),.val (eOpF pIx 0 (bOf (eD (.int 1)))),.val (eVar 2)]) (gNm [] 10)) (dSeq (dAsg (eTup (z0c (eVar 1) aNil)) (gNm [] 11)) (dSeq (dAsg (eD (.int 0)) (gNm [] 12)) (dSeq (dAsg (eD (.int 0)) (gNm [] 13)) (dSeq (dFor (z0K (eVar 2)) (gNm [] 14) (B4_ GC GL)) (dRet (eVar 11)))))))))) [.pure ru,.pure (.str [n]),.pure (.int t),.pure (.tup [.int r,.int c,.int HH,.int WW])]=some (.pure (flD (KP t)),[.pure ru,.pure (.str [n]),.pure (.int t),.pure (.tup [.int r,.int c,.int HH,.int WW])]):=by
 obtain ⟨δ',e,s8,o14,o15,o16,o17,o18,o19,h8,rfl⟩:=z16 (g:=(gNm [] 14)) (b:=(B4_ GC GL)) (fun k δ=>∃ (s8:S) (o14 o15 o16 o17 o18 o19:Option S),(s8 = .own dd∨s8 = .pure dd)∧δ=[some (.pure ru),some (.pure (.str [n])),some (.pure (.int t)),some (.pure (.tup [.int r,.int c,.int HH,.int WW])),some (.pure (.int r)),some (.pure (.int c)),some (.pure (.int HH)),some (.pure (.int WW)),some s8,some (.pure (.int (p (t - k)))),some (.pure (.int (q (t - k)))),some (.pure (flD (KP k))),some (.pure (.int (FT k))),some (.pure (.int (SL k))),o14,o15,o16,o17,o18,o19]) (z0z 0 t) 0 [some (.pure ru),some (.pure (.str [n])),some (.pure (.int t)),some (.pure (.tup [.int r,.int c,.int HH,.int WW])),some (.pure (.int r)),some (.pure (.int c)),some (.pure (.int HH)),some (.pure (.int WW)),some (.own dd),some (.pure (.int (p (t - 0)))),some (.pure (.int (q (t - 0)))),some (.pure (flD (KP 0))),some (.pure (.int (FT 0))),some (.pure (.int (SL 0))),none,none,none,none,none,none] ⟨.own dd,none,none,none,none,none,none,.inl rfl,rfl⟩ (fun i d δ hd ⟨s8,o14,o15,o16,o17,o18,o19,h8,e⟩=>by
  subst e
  obtain ⟨hi,rfl⟩:=z11 hd
  rw [Wy]
  have a1:=hp2 (t - i) (by omega)
  have a2:=hp2 (t - (i + 1)) (by omega)
  have b1:=hq2 (t - i) (by omega)
  have b2:=hq2 (t - (i + 1)) (by omega)
  have m1:=z7f (p (t - i)) h h0 (by omega)
  rw [hp1 i hi] at m1
  have m2:=z7f (q (t - i)) w w0 (by omega)
  rw [hq1 i hi] at m2
  have m3:=z7g r (p (t - (i + 1))) (r:Int) rfl a2.1 a2.2
  rw [hF i hi] at m3
  have m4:=z7g c (q (t - (i + 1))) (c:Int) rfl b2.1 b2.2
  rw [hS i hi] at m4
  have m5:=z7g (r + HH - 1) (p (t - (i + 1))) ((r:Int) + (HH:Int) - 1) (by omega) a2.1 a2.2
  rw [hL i hi] at m5
  have m6:=z7g (c + WW - 1) (q (t - (i + 1))) ((c:Int) + (WW:Int) - 1) (by omega) b2.1 b2.2
  rw [hM i hi] at m6
  have u1:pAdd (.int r) (.int HH)=some (.pure (.int ((r:Int) + (HH:Int)))):=rfl
  have u2:pAdd (.int c) (.int WW)=some (.pure (.int ((c:Int) + (WW:Int)))):=rfl
  have u3:pSub (.int ((r:Int) + (HH:Int))) (.int 1)=some (.pure (.int ((r:Int) + (HH:Int) - 1))):=rfl
  have u4:pSub (.int ((c:Int) + (WW:Int))) (.int 1)=some (.pure (.int ((c:Int) + (WW:Int) - 1))):=rfl
  have u5:pSub (.int (LT (i + 1))) (.int (FT (i + 1)))=some (.pure (.int ((LT (i + 1):Int) - (FT (i + 1):Int)))):=rfl
  have u6:pSub (.int (MT (i + 1))) (.int (SL (i + 1)))=some (.pure (.int ((MT (i + 1):Int) - (SL (i + 1):Int)))):=rfl
  have u7:pAdd (.int ((LT (i + 1):Int) - (FT (i + 1):Int))) (.int 1)=some (.pure (.int (RT (i + 1)))):=by rw [← hR i hi]; rfl
  have u8:pAdd (.int ((MT (i + 1):Int) - (SL (i + 1):Int))) (.int 1)=some (.pure (.int (CT (i + 1)))):=by rw [← hC i hi]; rfl
  have n1:=mul_int (FT i) h (by omega) (by omega)
  have n2:=mul_int (SL i) w (by omega) (by omega)
  have n3:pSub (.int (FT (i + 1))) (.int ((FT i:Int) * (h:Int)))=some (.pure (.int (OF i))):=by rw [← hO i hi]; rfl
  have n4:pSub (.int (SL (i + 1))) (.int ((SL i:Int) * (w:Int)))=some (.pure (.int (OG i))):=by rw [← hP i hi]; rfl
  have k1:=gl i hi
  have k2:=gc i hi
  generalize D.int ((r:Int) + (HH:Int) - 1)=e1 at *
  generalize D.int ((c:Int) + (WW:Int) - 1)=e2 at *
  generalize D.int ((r:Int) + (HH:Int))=e3 at *
  generalize D.int ((c:Int) + (WW:Int))=e4 at *
  generalize D.int ((LT (i + 1):Int) - (FT (i + 1):Int))=e5 at *
  generalize D.int ((MT (i + 1):Int) - (SL (i + 1):Int))=e6 at *
  generalize D.int (LT (i + 1):Int)=e7 at *
  generalize D.int (MT (i + 1):Int)=e8 at *
  generalize D.int ((FT i:Int) * (h:Int))=e9 at *
  generalize D.int ((SL i:Int) * (w:Int))=e10 at *
  generalize D.int (FT (i + 1):Int)=f1 at *
  generalize D.int (SL (i + 1):Int)=f2 at *
  generalize D.int (p (t - (i + 1)):Int)=f3 at *
  generalize D.int (q (t - (i + 1)):Int)=f4 at *
  generalize D.int (p (t - i):Int)=f5 at *
  generalize D.int (q (t - i):Int)=f6 at *
  generalize D.int (RT (i + 1):Int)=f9 at *
  generalize D.int (CT (i + 1):Int)=f10 at *
  generalize D.int (OF i:Int)=f11 at *
  generalize D.int (OG i:Int)=f12 at *
  generalize hcut:D.tup [.int r,.int c,.int HH,.int WW]=ct at *
  generalize flD (KP (i + 1))=fb at *
  generalize flD (GW i)=fw at *
  generalize flD (KP i)=fa at *
  generalize D.int (FT i:Int)=f13 at *
  generalize D.int (SL i:Int)=f14 at *
  refine ⟨_,[some (.pure ru),some (.pure (.str [n])),some (.pure (.int t)),some (.pure ct),some (.pure (.int r)),some (.pure (.int c)),some (.pure (.int HH)),some (.pure (.int WW)),some (.pure dd),some (.pure f3),some (.pure f4),some (.pure fb),some (.pure f1),some (.pure f2),some (.pure (.int i)),some (.pure f1),some (.pure f2),some (.pure f9),some (.pure f10),some (.pure fw)],rfl,?_,.pure dd,_,_,_,_,_,_,.inr rfl,rfl⟩
  rcases h8 with rfl | rfl
  ·simp [dAsg,eOpF,eOpN,bVar,x0,x1,m1,m2,m3,m4,u1,u2,u3,u4,m5,m6,u5,u6,u7,u8,z09,ios,ndup,z0s,evX,eVar,mkA,k1,putA,n1,n2,n3,n4,k2]
  ·simp [dAsg,eOpF,eOpN,bVar,x0,x1,m1,m2,m3,m4,u1,u2,u3,u4,m5,m6,u5,u6,u7,u8,z09,ios,ndup,z0s,evX,eVar,mkA,k1,putA,n1,n2,n3,n4,k2])
 rw [Wy,z2B] at e
 clear gl gc hp1 hp2 hq1 hq2 hF hS hL hM hR hC hO hP
 rw [JH,hF0,hS0] at e
 rw [z0L]
 have hn:D.tup [.str [n]]=flD (KP 0):=by rw [hf0]; rfl
 have z0:D.int ((0:Nat):Int) = .int 0:=rfl
 rw [z0] at e
 generalize D.int (p (t - t):Int)=z1 at *
 generalize D.int (q (t - t):Int)=z2 at *
 generalize D.int (p t:Int)=f7 at *
 generalize D.int (q t:Int)=f8 at *
 generalize D.int (FT t:Int)=z3 at *
 generalize D.int (SL t:Int)=z4 at *
 generalize flD (KP t)=ft at *
 generalize flD (KP 0)=f0 at *
 simp [ioOk,z0g,dAsg,eVar,gTp,z0u,z2c,eOpF,eOpN,bVar,x0,x1,x2,hdc,z09,ios,ndup,z0s,evX,mkA,g1,g2,putA,hn,z3a t (by omega)]
 rw [e]
 simp [eVar,z0H,z0e]
theorem z7q (h0:0 < h) (hH:0 < HH) (hr:r + HH≤h ^ t) (hT:h ^ t < 2 ^ 400) :
  (∀ k,k < t→h ^ (t - k) / h=h ^ (t - (k + 1)))∧(∀ k,k≤t→0 < h ^ k∧h ^ k < 2 ^ 400)∧r / h ^ (t - 0)=0∧(r + HH - 1) / h ^ (t - 0) - r / h ^ (t - 0) + 1=1 ∧
  (∀ k,k < t→r / h ^ (t - k)=r / h ^ (t - (k + 1)) / h∧(r + HH - 1) / h ^ (t - k)=(r + HH - 1) / h ^ (t - (k + 1)) / h)∧(∀ k,k≤t→r / h ^ (t - k)≤(r + HH - 1) / h ^ (t - k)∧(r + HH - 1) / h ^ (t - k) - r / h ^ (t - k) + 1≤HH + 1):=by
 refine ⟨fun k hk=>?_,fun k hk=>⟨Jh h0,Nat.lt_of_le_of_lt (Qy h0 hk) hT⟩,?_,?_,fun k hk=>?_,fun k hk=>?_⟩
 ·have:t - k=(t - (k + 1)) + 1:=by omega
  rw [this,Qi,Nat.mul_div_cancel _ h0]
 ·rw [JH,JF (by omega)]
 ·rw [JH,JF (by omega),JF (by omega)]
 ·have:t - k=(t - (k + 1)) + 1:=by omega
  rw [this,Qi,Nat.div_div_eq_div_mul,Nat.div_div_eq_div_mul]
  exact ⟨rfl,rfl⟩
 ·have hT0:0 < h ^ (t - k):=Jh h0
  generalize h ^ (t - k)=T at *
  have l1:r / T≤(r + HH - 1) / T:=Nat.div_le_div_right (by omega)
  refine ⟨l1,?_⟩
  have l2:(r + HH - 1) / T≤r / T + HH:=by
   have e:r=T * (r / T) + r % T:=(QY r T).symm
   have hm:=JI r hT0
   have:(r + HH - 1) / T < r / T + HH + 1:=by
    rw [Nat.div_lt_iff_lt_mul hT0]
    have e2:(r / T + HH + 1) * T=T * (r / T) + (HH + 1) * T:=by rw [Nat.add_assoc,Nat.add_mul,Q8 T]
    have e3:(HH + 1) * T=HH * T + T:=J1 HH T
    have e4:HH≤HH * T:=QU HH hT0
    omega
   omega
  omega
theorem zb6 (h1:h≤4) (ht:t≤150):h ^ t < 2 ^ 400:=by
 have a:h ^ t≤4 ^ t:=Nat.pow_le_pow_left h1 t
 have b:(4:Nat) ^ t≤4 ^ 150:=Qy (by decide) ht
 have c:(4:Nat) ^ 60 < 2 ^ 400:=by decide +kernel
 omega
theorem zaz (h0:0 < h):(F + a) / h=F / h + (F % h + a) / h∧(F + a) % h=(F % h + a) % h:=by
 have e:F + a=h * (F / h) + (F % h + a):=by rw [← Nat.add_assoc,QY]
 constructor
 ·conv=>lhs; rw [e]
  rw [Q8,QR,Nat.add_mul_div_right _ _ h0,QR]
 ·conv=>lhs; rw [e]
  rw [Q8,QR,Nat.add_mul_mod_self_right]
theorem fit (h0:0 < h) (hFL:F≤L):F % h + (L - F + 1)≤(L / h - F / h + 1) * h:=by
 have e1:=QY F h
 have e2:=QY L h
 have e3:=JI L h0
 have e4:F / h≤L / h:=Nat.div_le_div_right hFL
 have e5:(L / h - F / h + 1) * h + h * (F / h)=h * (L / h) + h:=by
  have:L / h - F / h + 1 + F / h=L / h + 1:=by omega
  rw [Q8 h (F / h),← Nat.add_mul,this,Nat.add_mul,Nat.one_mul,Q8]
 omega
theorem z9X {h w t n r c HH WW:Nat} {bs:List (Nat×List Tx)} (R:Rul h w bs) (hn:n ∈ bs.map (·.1)) (ht:t≤150) (hH:0 < HH) (hW:0 < WW) (hr:r + HH≤h ^ t) (hc:c + WW≤w ^ t) (hT:HH≤64) (wT:WW≤64) :
  z1m [.pure (ruD h w bs),.pure (.str [n]),.pure (.int t),.pure (.tup [.int r,.int c,.int HH,.int WW])]=some (.pure (flD (grid (fun i j=>far h w bs n t (r + i) (c + j)) HH WW)),[.pure (ruD h w bs),.pure (.str [n]),.pure (.int t),.pure (.tup [.int r,.int c,.int HH,.int WW])]):=by
 have h1:=R.h1
 have w1:=R.w1
 have h0:=R.h0
 have w0:=R.w0
 obtain ⟨p1,p2,p3,p4,p5,p6⟩:=z7q h0 hH hr (zb6 h1 ht)
 obtain ⟨q1,q2,q3,q4,q5,q6⟩:=z7q w0 hW hc (zb6 w1 ht)
 let FT:=fun k=>r / h ^ (t - k)
 let SL:=fun k=>c / w ^ (t - k)
 let LT:=fun k=>(r + HH - 1) / h ^ (t - k)
 let MT:=fun k=>(c + WW - 1) / w ^ (t - k)
 let RT:=fun k=>LT k - FT k + 1
 let CT:=fun k=>MT k - SL k + 1
 let KP:=fun k=>grid (fun i j=>far h w bs n k (FT k + i) (SL k + j)) (RT k) (CT k)
 have key:=za1 z19 z1u z1G (ruD h w bs) _ (dcD bs) KP (fun k=>lay h bs (KP k)) h w t n r c HH WW h0 h1 w0 w1 ht hH hW (fun k=>h ^ k) (fun k=>w ^ k) FT SL LT MT RT CT (fun k=>FT (k + 1) % h) (fun k=>SL (k + 1) % w) p1 p2 q1 q2 (fun k hk=>rfl) (fun k hk=>rfl) (fun k hk=>rfl) (fun k hk=>rfl)
  (fun k hk=>by have:=(p6 (k + 1) (by omega)).1; show ((LT (k + 1):Nat):Int) - ((FT (k + 1):Nat):Int) + 1=((LT (k + 1) - FT (k + 1) + 1:Nat):Int); have h':FT (k + 1)≤LT (k + 1):=this; omega)
  (fun k hk=>by have:=(q6 (k + 1) (by omega)).1; show ((MT (k + 1):Nat):Int) - ((SL (k + 1):Nat):Int) + 1=((MT (k + 1) - SL (k + 1) + 1:Nat):Int); have h':SL (k + 1)≤MT (k + 1):=this; omega)
  (fun k hk=>by
   have e:FT k=FT (k + 1) / h:=(p5 k hk).1
   have e2:=QY (FT (k + 1)) h
   rw [e]
   generalize FT (k + 1)=F at *
   rw [← QX,Q8]
   omega)
  (fun k hk=>by
   have e:SL k=SL (k + 1) / w:=(q5 k hk).1
   have e2:=QY (SL (k + 1)) w
   rw [e]
   generalize SL (k + 1)=F at *
   rw [← QX,Q8]
   omega)
  p3 q3 (by
   have a1:RT 0=1:=p4
   have a2:CT 0=1:=q4
   show grid _ (RT 0) (CT 0)=_
   rw [a1,a2]
   simp [grid,far]) (z2f h w bs).1 (z2f h w bs).2.1 (z2f h w bs).2.2 (z8R R) (zaX h t (by omega) (by omega)) (zaX w t (by omega) (by omega))
  (fun k hk=>zfu R (z9y (RT k) (CT k) fun i j=>z61 R hn k _ _) (by have:=(p6 k (by omega)).2; show LT k - FT k + 1≤1000; have h':LT k - FT k + 1≤HH + 1:=this; omega) (by have:=(q6 k (by omega)).2; show MT k - SL k + 1≤1000; have h':MT k - SL k + 1≤WW + 1:=this; omega))
  (fun k hk=>by
   have e1:FT k=FT (k + 1) / h:=(p5 k hk).1
   have e2:LT k=LT (k + 1) / h:=(p5 k hk).2
   have e3:SL k=SL (k + 1) / w:=(q5 k hk).1
   have e4:MT k=MT (k + 1) / w:=(q5 k hk).2
   have l1:FT (k + 1)≤LT (k + 1):=(p6 (k + 1) (by omega)).1
   have l2:SL (k + 1)≤MT (k + 1):=(q6 (k + 1) (by omega)).1
   have l3:LT k - FT k + 1≤HH + 1:=(p6 k (by omega)).2
   have l4:MT k - SL k + 1≤WW + 1:=(q6 k (by omega)).2
   have f1:FT (k + 1) % h + RT (k + 1)≤RT k * h:=by
    have:=fit h0 l1
    rw [← e1,← e2] at this
    exact this
   have f2:SL (k + 1) % w + CT (k + 1)≤CT k * w:=by
    have:=fit w0 l2
    rw [← e3,← e4] at this
    exact this
   have b1:RT k * h≤1000 * 4:=Jx (by show LT k - FT k + 1≤1000; omega) h1
   have b2:CT k * w≤1000 * 4:=Jx (by show MT k - SL k + 1≤1000; omega) w1
   have hlay:=z9p R (fun i j=>far h w bs n k (FT k + i) (SL k + j)) (RT k) (CT k) (fun i j=>z61 R hn k _ _)
   have hcut:=z8u (fun a b=>nt bs (far h w bs n k (FT k + a / h) (SL k + b / w)) (a % h) (b % w)) (A:=RT k * h) (C:=CT k * w) (r:=FT (k + 1) % h) (c:=SL (k + 1) % w) (k:=RT (k + 1)) (m:=CT (k + 1)) (by omega) (by omega) f1 f2
   have hres:grid (fun i j=>nt bs (far h w bs n k (FT k + (FT (k + 1) % h + i) / h) (SL k + (SL (k + 1) % w + j) / w)) ((FT (k + 1) % h + i) % h) ((SL (k + 1) % w + j) % w)) (RT (k + 1)) (CT (k + 1))=KP (k + 1):=by
    refine z4Y fun i _ j _=>?_
    have s1:=zaz (F:=FT (k + 1)) (a:=i) h0
    have s2:=zaz (F:=SL (k + 1)) (a:=j) w0
    show _=far h w bs n (k + 1) (FT (k + 1) + i) (SL (k + 1) + j)
    rw [far,s1.1,s1.2,s2.1,s2.2,← e1,← e3]
   rw [hres,← hlay] at hcut
   exact hcut)
 have z1:FT t=r:=by show r / h ^ (t - t)=r; rw [Nat.sub_self,J4,JD]
 have z2:SL t=c:=by show c / w ^ (t - t)=c; rw [Nat.sub_self,J4,JD]
 have z3:RT t=HH:=by show (r + HH - 1) / h ^ (t - t) - r / h ^ (t - t) + 1=HH; rw [Nat.sub_self,J4,JD,JD]; omega
 have z4:CT t=WW:=by show (c + WW - 1) / w ^ (t - t) - c / w ^ (t - t) + 1=WW; rw [Nat.sub_self,J4,JD,JD]; omega
 have zk:KP t=grid (fun i j=>far h w bs n t (r + i) (c + j)) HH WW:=by
  show grid (fun i j=>far h w bs n t (FT t + i) (SL t + j)) (RT t) (CT t)=_
  rw [z1,z2,z3,z4]
 rw [zk] at key
 rw [z1m,z52]
 exact key
theorem z6r (h1:t δ = .ok true δ1) (h2:b δ1 = .ok .next δ2):z1T t b (n + 1) δ=z1T t b n δ2:=by
 simp only [z1T,h1,z0Z,if_true,h2]
theorem z4k (h1:t δ = .ok false δ1):z1T t b (n + 1) δ = .ok .next δ1:=by
 simp [z1T,h1]
theorem z0m (h:a δ = .ok .next δ1) (h2:b δ1=x):dSeq a b δ=x:=by
 rw [zbP,h]
 simpa using h2
theorem lt_int (i j:Int):pLt (.int i) (.int j)=some (.pure (.bl (decide (i < j)))):=rfl
abbrev gfSt (ru r c t x y:D):Dl:=[some (.pure ru),some (.pure r),some (.pure c),some (.pure t),some (.pure x),some (.pure y)]
theorem zeI (ru:D) {h w:Nat} (h1:h≤4) (w1:w≤4) (x0:pIx ru (.int 0)=some (.pure (.int h))) (x1:pIx ru (.int 1)=some (.pure (.int w))) (r c:Nat) (hr:r≤h ^ 140) (hc:c≤w ^ 140) :
  ∀ (m t n:Nat),m + t=140→m < n→∃ t':Nat,t'≤140∧r≤h ^ t'∧c≤w ^ t'∧z1T (dOr (dTr (eOpF pLt 4 (bVar 1))) (dTr (eOpF pLt 5 (bVar 2)))) (B15_) n (gfSt ru (.int (r:Int)) (.int (c:Int)) (.int ((t:Nat):Int)) (.int ((h ^ t:Nat):Int)) (.int ((w ^ t:Nat):Int))) = .ok .next (gfSt ru (.int (r:Int)) (.int (c:Int)) (.int ((t':Nat):Int)) (.int ((h ^ t':Nat):Int)) (.int ((w ^ t':Nat):Int))):=by
 intro m
 induction m with
 | zero =>
  intro t n e hn
  have e:t=140:=by omega
  subst e
  obtain ⟨k,rfl⟩:∃ k,n=k + 1:=⟨n - 1,by omega⟩
  refine ⟨140,Wh _,hr,hc,z4k ?_⟩
  have a:=lt_int ((h ^ 140:Nat):Int) (r:Int)
  rw [decide_eq_false (by omega)] at a
  have b:=lt_int ((w ^ 140:Nat):Int) (c:Int)
  rw [decide_eq_false (by omega)] at b
  generalize D.int ((h ^ 140:Nat):Int)=d1 at *
  generalize D.int ((w ^ 140:Nat):Int)=d2 at *
  generalize D.int (r:Int)=d3 at *
  generalize D.int (c:Int)=d4 at *
  simp [dTr,eOpF,eOpN,bVar,a,b]
 | succ m ih =>
  intro t n e hn
  obtain ⟨k,rfl⟩:∃ k,n=k + 1:=⟨n - 1,by omega⟩
  have a:=lt_int ((h ^ t:Nat):Int) (r:Int)
  have b:=lt_int ((w ^ t:Nat):Int) (c:Int)
  by_cases hd:r≤h ^ t∧c≤w ^ t
  ·refine ⟨t,by omega,hd.1,hd.2,z4k ?_⟩
   rw [decide_eq_false (by omega)] at a b
   generalize D.int ((h ^ t:Nat):Int)=d1 at *
   generalize D.int ((w ^ t:Nat):Int)=d2 at *
   generalize D.int (r:Int)=d3 at *
   generalize D.int (c:Int)=d4 at *
   simp [dTr,eOpF,eOpN,bVar,a,b]
  ·obtain ⟨t',a1,a2,a3,a4⟩:=ih (t + 1) k (by omega) (by omega)
   refine ⟨t',a1,a2,a3,?_⟩
   have hT:(dOr (dTr (eOpF pLt 4 (bVar 1))) (dTr (eOpF pLt 5 (bVar 2)))) (gfSt ru (.int (r:Int)) (.int (c:Int)) (.int ((t:Nat):Int)) (.int ((h ^ t:Nat):Int)) (.int ((w ^ t:Nat):Int))) = .ok true (gfSt ru (.int (r:Int)) (.int (c:Int)) (.int ((t:Nat):Int)) (.int ((h ^ t:Nat):Int)) (.int ((w ^ t:Nat):Int))):=by
    by_cases h3:r≤h ^ t
    ·rw [decide_eq_false (by omega)] at a
     rw [decide_eq_true (by omega)] at b
     generalize D.int ((h ^ t:Nat):Int)=d1 at *
     generalize D.int ((w ^ t:Nat):Int)=d2 at *
     generalize D.int (r:Int)=d3 at *
     generalize D.int (c:Int)=d4 at *
     simp [dTr,eOpF,eOpN,bVar,a,b]
    ·rw [decide_eq_true (by omega)] at a
     generalize D.int ((h ^ t:Nat):Int)=d1 at *
     generalize D.int ((w ^ t:Nat):Int)=d2 at *
     generalize D.int (r:Int)=d3 at *
     generalize D.int (c:Int)=d4 at *
     simp [dTr,eOpF,eOpN,bVar,a]
   have m1:=mul_int ((h ^ t:Nat):Int) h (by omega) (by omega)
   have m2:=mul_int ((w ^ t:Nat):Int) w (by omega) (by omega)
   have s1:((h ^ t:Nat):Int) * (h:Int)=((h ^ (t + 1):Nat):Int):=by rw [Qi,QX]
   have s2:((w ^ t:Nat):Int) * (w:Int)=((w ^ (t + 1):Nat):Int):=by rw [Qi,QX]
   rw [s1] at m1
   rw [s2] at m2
   have m3:pAdd (.int (t:Int)) (.int 1)=some (.pure (.int ((t + 1:Nat):Int))):=rfl
   have hB:(B15_) (gfSt ru (.int (r:Int)) (.int (c:Int)) (.int ((t:Nat):Int)) (.int ((h ^ t:Nat):Int)) (.int ((w ^ t:Nat):Int))) = .ok .next (gfSt ru (.int (r:Int)) (.int (c:Int)) (.int (((t + 1):Nat):Int)) (.int ((h ^ (t + 1):Nat):Int)) (.int ((w ^ (t + 1):Nat):Int))):=by
    clear a4 hT a b
    generalize D.int ((h ^ t:Nat):Int)=d1 at *
    generalize D.int ((w ^ t:Nat):Int)=d2 at *
    generalize D.int ((h ^ (t + 1):Nat):Int)=d5 at *
    generalize D.int ((w ^ (t + 1):Nat):Int)=d6 at *
    generalize D.int (r:Int)=d3 at *
    generalize D.int (c:Int)=d4 at *
    generalize D.int ((t + 1:Nat):Int)=d7 at *
    simp [dAsg,eOpF,eOpN,bVar,x0,x1,m1,m2,m3]
   rw [z6r hT hB]
   exact a4
theorem za2 (ru:D) {h w:Nat} (h1:h≤4) (w1:w≤4) (x0:pIx ru (.int 0)=some (.pure (.int h))) (x1:pIx ru (.int 1)=some (.pure (.int w))) (r c:Nat) (hr:r≤h ^ 140) (hc:c≤w ^ 140) :
  ∃ t:Nat,t≤140∧r≤h ^ t∧c≤w ^ t∧gOf [] 6 (B7_) [.pure ru,.pure (.int (r:Int)),.pure (.int (c:Int))]=some (.pure (.int (t:Int)),[.pure ru,.pure (.int (r:Int)),.pure (.int (c:Int))]):=by
 obtain ⟨t,a1,a2,a3,e⟩:=zeI ru h1 w1 x0 x1 r c hr hc 140 0 1000000 (by omega) (by omega)
 refine ⟨t,a1,a2,a3,?_⟩
 rw [J4,J4] at e
 have K:(B7_) (z0g 6 [.pure ru,.pure (.int (r:Int)),.pure (.int (c:Int))]) = .ok (.ret (.pure (.int (t:Int)))) (gfSt ru (.int (r:Int)) (.int (c:Int)) (.int ((t:Nat):Int)) (.int ((h ^ t:Nat):Int)) (.int ((w ^ t:Nat):Int))):=by
  refine z0m (δ1:=[some (.pure ru),some (.pure (.int (r:Int))),some (.pure (.int (c:Int))),some (.pure (.int 0)),none,none]) (by simp [z0g,dAsg]) ?_
  refine z0m (δ1:=[some (.pure ru),some (.pure (.int (r:Int))),some (.pure (.int (c:Int))),some (.pure (.int 0)),some (.pure (.int 1)),none]) (by simp [dAsg]) ?_
  refine z0m (δ1:=gfSt ru (.int (r:Int)) (.int (c:Int)) (.int 0) (.int 1) (.int 1)) (by simp [dAsg]) ?_
  refine z0m e ?_
  simp [eVar]
 rw [z0L,K]
 simp [ioOk,z0H,z0e]
theorem z9Y {h w:Nat} {bs:List (Nat×List Tx)} (R:Rul h w bs) (r c:Nat) (hr:r≤h ^ 140) (hc:c≤w ^ 140) :
  ∃ t:Nat,t≤140∧r≤h ^ t∧c≤w ^ t∧z0I [.pure (ruD h w bs),.pure (.int (r:Int)),.pure (.int (c:Int))]=some (.pure (.int (t:Int)),[.pure (ruD h w bs),.pure (.int (r:Int)),.pure (.int (c:Int))]):=by
 obtain ⟨x0,x1,x2⟩:=z2f h w bs
 rw [z0I,z2L]
 exact za2 (ruD h w bs) R.h1 R.w1 x0 x1 r c hr hc
def lim (h:Nat):Int:=if h=1 then 0 else 10 ^ 40 - 1
theorem z1Y (h:Nat) (d:D) (hd:NX d):z0V [.pure (.int (h:Int)),.pure d]=some (.pure (.bl (wi (lim h) d)),[.pure (.int (h:Int)),.pure d]):=by
 have e:=zaV d (lim h) hd
 have p:pPow (.int 10) (.int 40)=some (.pure (.int (10 ^ 40))):=by
  show (if cPow 10 40 then some (S.pure (.int (10 ^ (40:Int).toNat))) else none)=_
  rw [if_pos (by decide)]
  rfl
 have s:=sub_int (10 ^ 40) 1
 have q:=z3t (h:Int) 1
 rw [z0V,z0L,z4g]
 unfold lim at e ⊢
 by_cases hh:h=1
 ·rw [if_pos hh] at e ⊢
  have:((h:Int) == 1)=true:=by simp; omega
  rw [this] at q
  generalize D.int (h:Int)=dh at *
  generalize wi 0 d=b at *
  simp [ioOk,z0g,z09,ios,ndup,z0s,evX,mkA,putA,eVar,bVar,eOpF,eOpN,dTr,q,e,z0H,z0e]
 ·rw [if_neg hh] at e ⊢
  have:((h:Int) == 1)=false:=by simp; omega
  rw [this] at q
  generalize D.int (h:Int)=dh at *
  generalize hb:wi (10 ^ 40 - 1) d=b at *
  generalize (10:Int) ^ 40 - 1=big at *
  generalize (10:Int) ^ 40=big1 at *
  simp [ioOk,z0g,z09,ios,ndup,z0s,evX,mkA,putA,eVar,bVar,eOpF,eOpN,dTr,q,p,s,e,z0H,z0e]
theorem big40:(10:Nat) ^ 40 + 64≤2 ^ 140:=by decide +kernel
theorem zcf {h r:Nat} (hr:r < 10 ^ 40) (hh:h=1→r=0):wi (lim h) (.int (r:Int))=true:=by
 unfold wi lim
 by_cases h1:h=1
 ·simp [h1,hh h1]
 ·simp only [if_neg h1,Wk,decide_eq_true_eq]
  have:((10 ^ 40:Nat):Int)=10 ^ 40:=by decide +kernel
  generalize (10:Int) ^ 40=B at *
  generalize (10:Nat) ^ 40=b at *
  omega
theorem zdu (h0:0 < h) (hr:r < 10 ^ 40) (hk:k≤64) (hh:h=1→r=0∧k=1):r + k≤h ^ 140:=by
 by_cases h1:h=1
 ·subst h1
  rw [(hh rfl).1,(hh rfl).2,Nat.one_pow]
  decide
 ·have a:2 ^ 140≤h ^ 140:=Nat.pow_le_pow_left (by omega) 140
  have b:=big40
  generalize (10:Nat) ^ 40=x at *
  generalize (2:Nat) ^ 140=y at *
  generalize h ^ 140=z at *
  omega
theorem z9D (h0:0 < h) (w0:0 < w) (hs:nt bs n 0 0=n):∀ t r c,r < h ^ t→c < w ^ t→far h w bs n (t + 1) r c=far h w bs n t r c
 | 0,r,c,hr,hc=>by
  rw [J4] at hr hc
  obtain rfl:r=0:=by omega
  obtain rfl:c=0:=by omega
  show nt bs (far h w bs n 0 _ _) (0 % h) (0 % w)=n
  rw [Nat.zero_mod,Nat.zero_mod]
  exact hs
 | t + 1,r,c,hr,hc=>by
  show nt bs (far h w bs n (t + 1) (r / h) (c / w)) (r % h) (c % w)=nt bs (far h w bs n t (r / h) (c / w)) (r % h) (c % w)
  rw [z9D h0 w0 hs t (r / h) (c / w) (Nat.div_lt_of_lt_mul (by rw [Q8,← Qi]; exact hr)) (Nat.div_lt_of_lt_mul (by rw [Q8,← Qi]; exact hc))]
theorem z60 (h0:0 < h) (w0:0 < w) (hs:nt bs n 0 0=n) (hr:r < h ^ t) (hc:c < w ^ t):∀ k,far h w bs n (t + k) r c=far h w bs n t r c
 | 0=>rfl
 | k + 1=>by
  rw [← z60 h0 w0 hs hr hc k]
  exact z9D h0 w0 hs (t + k) r c (Wt hr (Qy h0 (Nat.le_add_right _ _))) (Wt hc (Qy w0 (Nat.le_add_right _ _)))
def fst (b:Nat×List Tx):Nat:=(b.2.headD []).headD 0
theorem eq_s1 (a b:Nat):pEq (.str [a]) (.str [b])=some (.pure (.bl (decide (a=b)))):=by
 by_cases h:a=b
 ·subst h; simp [pEq,flat,eqD]
 ·simp [pEq,flat,eqD,h]
theorem zdD (R:Rul h w bs) (hb:b ∈ bs):∃ d,pIx (flD b.2) (.int 0)=some (.pure d)∧pIx d (.int 0)=some (.pure (.str [fst b])):=by
 have hB:=R.blk b hb
 have h0:=R.h0
 have w0:=R.w0
 have w1:=R.w1
 obtain ⟨n,fl⟩:=b
 cases fl with
 | nil=>simp at hB; omega
 | cons r q =>
  have hr:=(hB.2 r (by simp)).1
  cases r with
  | nil=>simp at hr; omega
  | cons x y =>
   have hz:W6=16777216:=rfl
   have hl:(x :: y).length≤W6:=by rw [hr]; omega
   refine ⟨.str (x :: y),by simp [pIx,z1d],?_⟩
   show (if (x :: y).length≤W6 then (atI (x :: y) 0).map fun n=>S.pure (.str [n]) else none)=_
   rw [if_pos hl,z1d]
   rfl
theorem z3I (np:List Nat) (n:Nat) (b:DS) (ss:List S):gOfX np n b ss=if ioOk np 0 ss then (match b (z0g n ss) with
 | .ok fl δ=>(z0H fl).bind fun r=>(z0e 0 ss δ).map fun outs=>.inl (r,outs)
 | .exc x δ=>if x.flds.isEmpty then (z0e 0 ss δ).map fun outs=>.inr (x.cls,outs) else none
 | .stuck=>none) else none:=rfl
theorem z2C (x:Xc) (δ:Dl) (f:α→Dl→Rs β):(Rs.exc x δ:Rs α).bind f = .exc x δ:=rfl
abbrev z47:Tx:=[78,111,84,105,108,101]
abbrev z2e:Tx:=[78,111,80,108,97,99,101]
def stl (bs:List (Nat×List Tx)):List Nat:=(bs.filter fun b=>decide (fst b=b.1)).map (·.1)
theorem tx_ts (ts:List Nat):z2N (ts.map t1D)=some (ts.map fun n=>[n]):=by
 induction ts with
 | nil=>rfl
 | cons a r ih=>simp [z2N] at ih ⊢; exact ih
def sgd (bs:List (Nat×List Tx)):D→Bool
 | .str x=>((stl bs).map fun n=>[n]).contains x
 | _=>false
theorem zgm (bs:List (Nat×List Tx)) (d:D) (hd:NX d):pInO true d (.lst ((stl bs).map t1D))=some (.pure (.bl (!sgd bs d))):=by
 have e:=tx_ts (stl bs)
 cases d with
 | exc n=>exact hd.elim
 | str x=>simp only [pInO,e,sgd]; rfl
 | _=>simp only [pInO,e,sgd]; rfl
theorem z6W (R:Rul h w bs):z1e [.pure (ruD h w bs)]=some (.own (.lst ((stl bs).map t1D)),[.pure (ruD h w bs)]):=by
 have x2:=(z2f h w bs).2.2
 have n1:=R.n1
 have e:=z28 (cs:=[1,2]) (g:=(gTp 2 (z0u (gNm [] 1) (z0u (gNm [] 2) z2c)))) (t:=(dTr (eOp pEq (eOp pIx (eOpF pIx 2 (bOf (eD (.int 0)))) (bOf (eD (.int 0)))) (bVar 1)))) (el:=eVar 1) blD (fun b:Nat×List Tx=>t1D b.1) (fun b=>decide (fst b=b.1)) [some (.pure (ruD h w bs)),none,none] bs [] (by rw [z1b]; simp; omega) (fun b hb=>by
   obtain ⟨d,d1,d2⟩:=zdD R hb
   have d3:=eq_s1 (fst b) b.1
   refine ⟨_,[some (.pure (ruD h w bs)),some (.pure (t1D b.1)),some (.pure (flD b.2))],.pure (t1D b.1),[some (.pure (ruD h w bs)),some (.pure (t1D b.1)),some (.pure (flD b.2))],rfl,?_,rfl,rfl,rfl,rfl⟩
   generalize decide (fst b=b.1)=z at *
   generalize flD b.2=fb at *
   generalize D.str [fst b]=d5 at *
   generalize ruD h w bs=ru at *
   simp [dTr,eOpF,eOpN,bVar,d1,d2,d3])
 rw [z1e,z0L,z34]
 generalize ruD h w bs=ru at *
 simp [ioOk,z0g,eOpF,eOpN,bVar,x2,z3r,z0s,clrD]
 rw [e]
 simp [z1S,z0H,z0e,Function.comp_def,stl]
theorem zcz (GS:DF) (ru d L:D) (z:Bool) (e:GS [.pure ru]=some (.own L,[.pure ru])) (i:pInO true d L=some (.pure (.bl (!z)))):gOfX [] 2 (dIf (dTr (eOp (pInO true) (eVar 1) (bOf (z09 GS [.val (eVar 0)])))) (z51 [78,111,84,105,108,101] (eVar 1)) z1n) [.pure ru,.pure d]=some (if z then .inl (.pure .non,[.pure ru,.pure d]) else .inr (z47,[.pure ru,.pure d])):=by
 rw [z3I]
 cases z <;> simp [ioOk,z0g,dTr,z09,ios,ndup,z0s,evX,mkA,putA,eVar,bVar,e,i,z51,z2C,z0H,z0e]
theorem z5n (R:Rul h w bs) (d:D) (hd:NX d):z0r [.pure (ruD h w bs),.pure d]=some (if sgd bs d then .inl (.pure .non,[.pure (ruD h w bs),.pure d]) else .inr (z47,[.pure (ruD h w bs),.pure d])):=by
 rw [z0r,z1R]
 exact zcz z1e _ d _ _ (z6W R) (zgm bs d hd)
abbrev Stil (bs:List (Nat×List Tx)) (n:Nat):Prop:=∃ b ∈ bs,b.1=n∧fst b=n
theorem zaJ (hn:Stil bs n):sgd bs (.str [n])=true:=by
 obtain ⟨b,hb,e,f⟩:=hn
 show ((stl bs).map fun n=>[n]).contains [n]=true
 simp only [List.contains_iff_mem,WE]
 exact ⟨n,List.mem_map.mpr ⟨b,List.mem_filter.mpr ⟨hb,by simp [e,f]⟩,e⟩,rfl⟩
theorem z8N:∀ {bs:List (Nat×List Tx)},(bs.map (·.1)).Pairwise (· < ·)→∀ {a b:Nat×List Tx},a ∈ bs→b ∈ bs→a.1=b.1→a=b
 | [],_,_,_,ha,_,_=>by cases ha
 | x :: r,h,a,b,ha,hb,e=>by
  rw [Ww,List.pairwise_cons] at h
  rcases Wj.mp ha with ha | ha
  ·rcases Wj.mp hb with hb | hb
   ·rw [ha,hb]
   ·have:=h.1 b.1 (WM hb)
    rw [ha] at e
    omega
  ·rcases Wj.mp hb with hb | hb
   ·have:=h.1 a.1 (WM ha)
    rw [hb] at e
    omega
   ·exact z8N h.2 ha hb e
theorem zfd (R:Rul h w bs) (hb:b ∈ bs) (hf:fst b≠b.1):sgd bs (.str [b.1])=false:=by
 cases e:sgd bs (.str [b.1]) with
 | false=>rfl
 | true =>
  have e:((stl bs).map fun n=>[n]).contains [b.1]=true:=e
  simp only [List.contains_iff_mem,WE] at e
  obtain ⟨m,hm,em⟩:=e
  obtain ⟨b',hb',e'⟩:=WE.mp hm
  have h1:=Jj.mp hb'
  have h2:fst b'=b'.1:=by simpa using h1.2
  have h3:m=b.1:=by simpa using em
  have:=z8N R.up h1.1 hb (e'.trans h3)
  subst this
  exact absurd h2 hf
theorem z9o (R:Rul h w bs) (hn:Stil bs n):nt bs n 0 0=n:=by
 obtain ⟨b,hb,e,f⟩:=hn
 obtain ⟨b',hb',e',_,k⟩:=z7j (bs:=bs) (n:=n) (by rw [← e]; exact WM hb)
 have:=z8N R.up hb' hb (e'.trans e.symm)
 subst this
 unfold nt
 rw [k]
 have f':(b'.2.headD []).headD 0=n:=f
 generalize b'.2=L at *
 cases L with
 | nil=>simpa using f'
 | cons x y =>
  cases x with
  | nil=>simpa using f'
  | cons p q=>simpa using f'
theorem z6P (hn:Stil bs n):n ∈ bs.map (·.1):=by
 obtain ⟨b,hb,rfl,_⟩:=hn
 exact WM hb
abbrev B2_ (GC:DF) (GF:DF) (GL:DF) (GR:DX):DS:=dSeq (z6q (z1r GR [.val (eVar 0),.val (eVar 1)])) (dSeq (dIf (dOr (dNot (dTr (z09 GL [.val (eOpF pIx 0 (bOf (eD (.int 0)))),.val (eVar 2)]))) (dNot (dTr (z09 GL [.val (eOpF pIx 0 (bOf (eD (.int 1)))),.val (eVar 3)])))) (z63 [78,111,80,108,97,99,101]) z1n) (dSeq (B18_) (dRet (z09 GC [.val (eVar 0),.val (eVar 1),.val (z09 GF [.val (eVar 0),.val (eOpF pAdd 2 (bVar 4)),.val (eOpF pAdd 3 (bVar 5))]),.val (eTup (z0c (eVar 2) (z0c (eVar 3) (z0c (eVar 4) (z0c (eVar 5) aNil)))))]))))
theorem zaZ (GR:DX) (GL GC GF:DF) (ru tl r c H W:D) (x:Tx) (g:GR [.pure ru,.pure tl]=some (.inr (x,[.pure ru,.pure tl]))):gOfX [] 6 (B2_ GC GF GL GR) [.pure ru,.pure tl,.pure r,.pure c,.pure H,.pure W]=some (.inr (x,[.pure ru,.pure tl,.pure r,.pure c,.pure H,.pure W])):=by
 rw [z3I]
 simp [ioOk,z0g,z1r,ios,ndup,z0s,evX,mkA,putA,eVar,g,z2C,z0e]
theorem zeb (GR:DX) (GL GC GF:DF) (ru tl r c H W dh dw:D) (z1 z2:Bool) (g:GR [.pure ru,.pure tl]=some (.inl (.pure .non,[.pure ru,.pure tl]))) (x0:pIx ru (.int 0)=some (.pure dh)) (x1:pIx ru (.int 1)=some (.pure dw))
  (e1:GL [.pure dh,.pure r]=some (.pure (.bl z1),[.pure dh,.pure r])) (e2:GL [.pure dw,.pure c]=some (.pure (.bl z2),[.pure dw,.pure c])) (hz:(z1 && z2)=false):gOfX [] 6 (B2_ GC GF GL GR) [.pure ru,.pure tl,.pure r,.pure c,.pure H,.pure W]=some (.inr (z2e,[.pure ru,.pure tl,.pure r,.pure c,.pure H,.pure W])):=by
 rw [z3I]
 cases z1
 ·simp [ioOk,z0g,dTr,z1r,z09,ios,ndup,z0s,evX,mkA,putA,eVar,bVar,eOpF,eOpN,g,x0,x1,e1,e2,z63,z2C,z0H,z0e]
 ·cases z2
  ·simp [ioOk,z0g,dTr,z1r,z09,ios,ndup,z0s,evX,mkA,putA,eVar,bVar,eOpF,eOpN,g,x0,x1,e1,e2,z63,z2C,z0H,z0e]
  ·cases hz
theorem z9e (GR:DX) (GL GC GF:DF) (ru tl r c H W dh dw rH cW dt F:D) (z1 z2 y1 y2:Bool) (g:GR [.pure ru,.pure tl]=some (.inl (.pure .non,[.pure ru,.pure tl]))) (x0:pIx ru (.int 0)=some (.pure dh)) (x1:pIx ru (.int 1)=some (.pure dw))
  (e1:GL [.pure dh,.pure r]=some (.pure (.bl true),[.pure dh,.pure r])) (e2:GL [.pure dw,.pure c]=some (.pure (.bl true),[.pure dw,.pure c])) (q1:pEq dh (.int 1)=some (.pure (.bl z1))) (q2:pEq dw (.int 1)=some (.pure (.bl z2))) (k1:pGt H (.int 1)=some (.pure (.bl y1))) (k2:pGt W (.int 1)=some (.pure (.bl y2)))
  (hl:(z1 && y1 || z2 && y2)=false→pAdd r H=some (.pure rH)∧pAdd c W=some (.pure cW)∧GF [.pure ru,.pure rH,.pure cW]=some (.pure dt,[.pure ru,.pure rH,.pure cW])∧GC [.pure ru,.pure tl,.pure dt,.pure (.tup [r,c,H,W])]=some (.pure F,[.pure ru,.pure tl,.pure dt,.pure (.tup [r,c,H,W])])) :
  gOfX [] 6 (B2_ GC GF GL GR) [.pure ru,.pure tl,.pure r,.pure c,.pure H,.pure W]=some (if z1 && y1 || z2 && y2 then .inr (z2e,[.pure ru,.pure tl,.pure r,.pure c,.pure H,.pure W]) else .inl (.pure F,[.pure ru,.pure tl,.pure r,.pure c,.pure H,.pure W])):=by
 rw [z3I]
 cases hb:(z1 && y1 || z2 && y2) with
 | false =>
  obtain ⟨a1,a2,l1,l2⟩:=hl hb
  cases z1 <;> cases y1 <;> cases z2 <;> cases y2 <;> first | (cases hb; done) | simp [ioOk,z0g,dAsg,dTr,z1r,z09,ios,ndup,z0s,evX,mkA,putA,eVar,bVar,eOpF,eOpN,g,x0,x1,e1,e2,q1,q2,k1,k2,a1,a2,l1,l2,z0H,z0e]
 | true =>
  cases z1 <;> cases y1 <;> cases z2 <;> cases y2 <;> first | (cases hb; done) | simp [ioOk,z0g,dAsg,dTr,z1r,z09,ios,ndup,z0s,evX,mkA,putA,eVar,bVar,eOpF,eOpN,g,x0,x1,e1,e2,q1,q2,k1,k2,z63,z2C,z0H,z0e]
section
variable {h w n:Nat} {bs:List (Nat×List Tx)}
theorem zaM (R:Rul h w bs) (tl r c H W:D) (hd:NX tl) (hz:sgd bs tl=false):z0d [.pure (ruD h w bs),.pure tl,.pure r,.pure c,.pure H,.pure W]=some (.inr (z47,[.pure (ruD h w bs),.pure tl,.pure r,.pure c,.pure H,.pure W])):=by
 have e:=z5n R tl hd
 rw [hz] at e
 rw [z0d,z20]
 exact zaZ z0r z0V z1m z0I _ tl r c H W z47 e
theorem zfk (R:Rul h w bs) (hn:Stil bs n) (r c H W:D) (hr:NX r) (hc:NX c) (hz:(wi (lim h) r && wi (lim w) c)=false):z0d [.pure (ruD h w bs),.pure (.str [n]),.pure r,.pure c,.pure H,.pure W]=some (.inr (z2e,[.pure (ruD h w bs),.pure (.str [n]),.pure r,.pure c,.pure H,.pure W])):=by
 have e:=z5n R (.str [n]) trivial
 rw [zaJ hn] at e
 rw [z0d,z20]
 exact zeb z0r z0V z1m z0I _ (.str [n]) r c H W _ _ _ _ e (z2f h w bs).1 (z2f h w bs).2.1 (z1Y h r hr) (z1Y w c hc) hz
theorem ze1 (R:Rul h w bs) (hn:Stil bs n) {r c H W:Nat} (hr:r < 10 ^ 40) (hh:h=1→r=0) (hc:c < 10 ^ 40) (hw:w=1→c=0) (hz:h=1∧1 < H∨w=1∧1 < W):z0d [.pure (ruD h w bs),.pure (.str [n]),.pure (.int (r:Int)),.pure (.int (c:Int)),.pure (.int (H:Int)),.pure (.int (W:Int))]=some (.inr (z2e,[.pure (ruD h w bs),.pure (.str [n]),.pure (.int (r:Int)),.pure (.int (c:Int)),.pure (.int (H:Int)),.pure (.int (W:Int))])):=by
 have e:=z5n R (.str [n]) trivial
 rw [zaJ hn] at e
 have e2:=z1Y h (.int (r:Int)) trivial
 rw [zcf hr hh] at e2
 have e3:=z1Y w (.int (c:Int)) trivial
 rw [zcf hc hw] at e3
 have hb:(((h:Int) == 1) && decide ((1:Int) < (H:Int)) || ((w:Int) == 1) && decide ((1:Int) < (W:Int)))=true:=by
  rcases hz with ⟨a,b⟩ | ⟨a,b⟩
  ·subst a
   rw [decide_eq_true (show (1:Int) < (H:Int) by omega)]
   rfl
  ·subst a
   rw [decide_eq_true (show (1:Int) < (W:Int) by omega)]
   exact Bool.or_true _
 rw [z0d,z20]
 have q:=z9e z0r z0V z1m z0I (ruD h w bs) (.str [n]) (.int (r:Int)) (.int (c:Int)) (.int (H:Int)) (.int (W:Int)) _ _ .non .non .non .non _ _ _ _ e (z2f h w bs).1 (z2f h w bs).2.1 e2 e3 (z3t (h:Int) 1) (z3t (w:Int) 1) (gt_int (H:Int) 1) (gt_int (W:Int) 1) (fun hf=>by rw [hb] at hf; cases hf)
 rw [hb] at q
 exact q
theorem zcr (R:Rul h w bs) (hn:Stil bs n) {r c H W:Nat} (hr:r < 10 ^ 40) (hh:h=1→r=0∧H=1) (hc:c < 10 ^ 40) (hw:w=1→c=0∧W=1) (H0:0 < H) (W0:0 < W) (H1:H≤64) (W1:W≤64):z0d [.pure (ruD h w bs),.pure (.str [n]),.pure (.int (r:Int)),.pure (.int (c:Int)),.pure (.int (H:Int)),.pure (.int (W:Int))]=some (.inl (.pure (flD (grid (fun i j=>far h w bs n 140 (r + i) (c + j)) H W)),[.pure (ruD h w bs),.pure (.str [n]),.pure (.int (r:Int)),.pure (.int (c:Int)),.pure (.int (H:Int)),.pure (.int (W:Int))])):=by
 have e:=z5n R (.str [n]) trivial
 rw [zaJ hn] at e
 have e2:=z1Y h (.int (r:Int)) trivial
 rw [zcf hr (fun z=>(hh z).1)] at e2
 have e3:=z1Y w (.int (c:Int)) trivial
 rw [zcf hc (fun z=>(hw z).1)] at e3
 obtain ⟨t,ht,t1,t2,e4⟩:=z9Y R (r + H) (c + W) (zdu R.h0 hr H1 hh) (zdu R.w0 hc W1 hw)
 have e5:=z9X R (z6P hn) (t:=t) (r:=r) (c:=c) (HH:=H) (WW:=W) (by omega) H0 W0 t1 t2 H1 W1
 have hg:grid (fun i j=>far h w bs n t (r + i) (c + j)) H W=grid (fun i j=>far h w bs n 140 (r + i) (c + j)) H W:=z4Y fun i hi j hj=>by
  have:=z60 R.h0 R.w0 (z9o R hn) (t:=t) (r:=r + i) (c:=c + j) (by omega) (by omega) (140 - t)
  rw [show t + (140 - t)=140 by omega] at this
  exact this.symm
 rw [hg] at e5
 have hb:(((h:Int) == 1) && decide ((1:Int) < (H:Int)) || ((w:Int) == 1) && decide ((1:Int) < (W:Int)))=false:=by
  have a:(((h:Int) == 1) && decide ((1:Int) < (H:Int)))=false:=by
   by_cases z:h=1
   ·rw [(hh z).2]; exact QN _
   ·rw [show ((h:Int) == 1)=false by simp; omega]; rfl
  have b:(((w:Int) == 1) && decide ((1:Int) < (W:Int)))=false:=by
   by_cases z:w=1
   ·rw [(hw z).2]; exact QN _
   ·rw [show ((w:Int) == 1)=false by simp; omega]; rfl
  rw [a,b]
  rfl
 rw [z0d,z20]
 have q:=z9e z0r z0V z1m z0I (ruD h w bs) (.str [n]) (.int (r:Int)) (.int (c:Int)) (.int (H:Int)) (.int (W:Int)) _ _ (.int ((r + H:Nat):Int)) (.int ((c + W:Nat):Int)) (.int (t:Int)) _ _ _ _ _ e (z2f h w bs).1 (z2f h w bs).2.1 e2 e3 (z3t (h:Int) 1) (z3t (w:Int) 1) (gt_int (H:Int) 1) (gt_int (W:Int) 1) (fun _=>⟨rfl,rfl,e4,e5⟩)
 rw [hb] at q
 exact q
end
theorem z9f (GC:DX) (ru tl r c:D) (x:Tx) (g:GC [.pure ru,.pure tl,.pure r,.pure c,.pure (.int 1),.pure (.int 1)]=some (.inr (x,[.pure ru,.pure tl,.pure r,.pure c,.pure (.int 1),.pure (.int 1)]))):gOfX [] 4 (dRet (eOp pIx (z1r GC [.val (eVar 0),.val (eVar 1),.val (eVar 2),.val (eVar 3),.val (eD (.int 1)),.val (eD (.int 1))]) (bOf (eD (.int 0))))) [.pure ru,.pure tl,.pure r,.pure c]=some (.inr (x,[.pure ru,.pure tl,.pure r,.pure c])):=by
 rw [z3I]
 simp [ioOk,z0g,z1r,ios,ndup,z0s,evX,mkA,putA,eVar,g,z2C,z0e]
theorem zec (GC:DX) (ru tl r c L y:D) (g:GC [.pure ru,.pure tl,.pure r,.pure c,.pure (.int 1),.pure (.int 1)]=some (.inl (.pure L,[.pure ru,.pure tl,.pure r,.pure c,.pure (.int 1),.pure (.int 1)]))) (i:pIx L (.int 0)=some (.pure y)):gOfX [] 4 (dRet (eOp pIx (z1r GC [.val (eVar 0),.val (eVar 1),.val (eVar 2),.val (eVar 3),.val (eD (.int 1)),.val (eD (.int 1))]) (bOf (eD (.int 0))))) [.pure ru,.pure tl,.pure r,.pure c]=some (.inl (.pure y,[.pure ru,.pure tl,.pure r,.pure c])):=by
 rw [z3I]
 simp [ioOk,z0g,z1r,ios,ndup,z0s,evX,mkA,putA,eVar,bVar,g,i,z0H,z0e]
section
variable {h w n:Nat} {bs:List (Nat×List Tx)}
theorem ze2 (R:Rul h w bs) (tl r c:D) (hd:NX tl) (hz:sgd bs tl=false):z0t [.pure (ruD h w bs),.pure tl,.pure r,.pure c]=some (.inr (z47,[.pure (ruD h w bs),.pure tl,.pure r,.pure c])):=by
 rw [z0t,z2U]
 exact z9f z0d _ tl r c z47 (zaM R tl r c _ _ hd hz)
theorem sa_pl (R:Rul h w bs) (hn:Stil bs n) (r c:D) (hr:NX r) (hc:NX c) (hz:(wi (lim h) r && wi (lim w) c)=false):z0t [.pure (ruD h w bs),.pure (.str [n]),.pure r,.pure c]=some (.inr (z2e,[.pure (ruD h w bs),.pure (.str [n]),.pure r,.pure c])):=by
 rw [z0t,z2U]
 exact z9f z0d _ (.str [n]) r c z2e (zfk R hn r c _ _ hr hc hz)
theorem zfl (R:Rul h w bs) (hn:Stil bs n) {r c:Nat} (hr:r < 10 ^ 40) (hh:h=1→r=0) (hc:c < 10 ^ 40) (hw:w=1→c=0):z0t [.pure (ruD h w bs),.pure (.str [n]),.pure (.int (r:Int)),.pure (.int (c:Int))]=some (.inl (.pure (.str [far h w bs n 140 r c]),[.pure (ruD h w bs),.pure (.str [n]),.pure (.int (r:Int)),.pure (.int (c:Int))])):=by
 have e:=zcr R hn (r:=r) (c:=c) (H:=1) (W:=1) hr (fun z=>⟨hh z,rfl⟩) hc (fun z=>⟨hw z,rfl⟩) (by decide) (by decide) (by decide) (by decide)
 have i:pIx (flD (grid (fun i j=>far h w bs n 140 (r + i) (c + j)) 1 1)) (.int 0)=some (.pure (.str [far h w bs n 140 r c])):=by
  generalize far h w bs n 140=f at *
  simp [grid,Qf,pIx,z1d]
 rw [z0t,z2U]
 exact zec z0d _ (.str [n]) _ _ _ _ e i
end
def lo (h w:Nat):Nat→Nat→Nat→List Pr
 | 0,_,_=>[]
 | t + 1,r,c=>(r % h,c % w) :: lo h w t (r / h) (c / w)
theorem zbs (h w:Nat):∀ t r c,(lo h w t r c).length=t
 | 0,_,_=>rfl
 | t + 1,r,c=>by simp [lo,zbs h w t]
theorem zeA (h0:0 < h) (w0:0 < w):∀ t r c,∀ p ∈ lo h w t r c,p.1 < h∧p.2 < w
 | 0,_,_=>by simp [lo]
 | t + 1,r,c=>fun p hp=>by
  rcases Wj.mp hp with e | hp
  ·subst e; exact ⟨JI _ h0,JI _ w0⟩
  ·exact zeA h0 w0 t _ _ p hp
abbrev St3:=List Pr×Nat×Nat
def stp (h w:Nat) (x:St3) (_:Nat):St3:=(x.1 ++ [(x.2.1 % h,x.2.2 % w)],x.2.1 / h,x.2.2 / w)
theorem z93 (h w:Nat):∀ (as:List Nat) (x:St3),(as.foldl (stp h w) x).1=x.1 ++ lo h w as.length x.2.1 x.2.2
 | [],x=>by simp [lo]
 | a :: r,x=>by rw [Qn,z93 h w r]; simp [stp,lo]
def lnS (bs:List (Nat×List Tx)) (acc:List Nat) (p:Pr):List Nat:=acc ++ [nt bs (acc.getLastD 0) p.1 p.2]
def line (bs:List (Nat×List Tx)) (n:Nat) (ds:List Pr):List Nat:=ds.foldl (lnS bs) [n]
theorem zbA (acc:List Nat) (h:0 < acc.length):pIx (.lst (acc.map t1D)) (.int (-1))=some (.pure (.str [acc.getLastD 0])):=by
 have:atI (acc.map t1D) (-1)=some (.str [acc.getLastD 0]):=by
  unfold atI ixN
  rw [if_neg (by omega),if_pos (by simp; omega)]
  have e:(-1 + ((acc.map t1D).length:Int)).toNat=acc.length - 1:=by simp; omega
  simp only [WD,e,WR,List.getLastD_eq_getLast?,List.getLast?_eq_getElem?]
  cases hh:acc[acc.length - 1]? with
  | none=>rw [List.getElem?_eq_none_iff] at hh; omega
  | some v=>rfl
 simp [pIx,this]
theorem z9q {bs:List (Nat×List Tx)} {acc:List Nat} (h:0 < acc.length) (ha:∀ n ∈ acc,n ∈ bs.map (·.1)):acc.getLastD 0 ∈ bs.map (·.1):=by
 apply ha
 rw [List.getLastD_eq_getLast?]
 cases hh:acc.getLast? with
 | none=>simp at hh; subst hh; simp at h
 | some v=>exact List.mem_of_getLast? hh
abbrev LP (bs:List (Nat×List Tx)) (k:Nat) (acc:List Nat):Prop:=acc.length=k + 1∧∀ n ∈ acc,n ∈ bs.map (·.1)
theorem z7S {h w:Nat} {bs:List (Nat×List Tx)} (R:Rul h w bs) {k:Nat} {acc:List Nat} {p:Pr} (hp:LP bs k acc) (hq:p.1 < h∧p.2 < w):LP bs (k + 1) (lnS bs acc p):=by
 refine ⟨by simp [lnS,hp.1],fun n hn=>?_⟩
 rcases Qt.mp hn with hn | hn
 ·exact hp.2 n hn
 ·rw [List.mem_singleton] at hn; subst hn
  exact (zev R (z9q (by omega) hp.2) hq.1 hq.2).1
theorem zbu (R:Rul h w bs):∀ (ds:List Pr) (k:Nat) (acc:List Nat),LP bs k acc→(∀ p ∈ ds,p.1 < h∧p.2 < w)→LP bs (k + ds.length) (ds.foldl (lnS bs) acc)
 | [],k,acc,hp,_=>hp
 | p :: r,k,acc,hp,hq=>by
  have:=zbu R r (k + 1) (lnS bs acc p) (z7S R hp (hq p Wi)) fun b hb=>hq b (Wg _ hb)
  rw [WN,show k + (r.length + 1)=k + 1 + r.length by omega]
  exact this
theorem zbt {h w:Nat} {bs:List (Nat×List Tx)} (R:Rul h w bs) {k:Nat} {acc:List Nat} {p:Pr} (hp:LP bs k acc) (hq:p.1 < h∧p.2 < w) :
  pIx (.lst (acc.map t1D)) (.int (-1))=some (.pure (.str [acc.getLastD 0]))∧pIxX (dcD bs) (.str [acc.getLastD 0])=some (.pure (flD (blk bs (acc.getLastD 0))))∧pIx (flD (blk bs (acc.getLastD 0))) (.int p.1)=some (.pure (.str ((blk bs (acc.getLastD 0)).getD p.1 [])))∧pIx (.str ((blk bs (acc.getLastD 0)).getD p.1 [])) (.int p.2)=some (.pure (.str [nt bs (acc.getLastD 0) p.1 p.2])):=by
 have hl:0 < acc.length:=by have:=hp.1; omega
 have hm:=z9q hl hp.2
 have hn:=zev R hm hq.1 hq.2
 exact ⟨zbA acc hl,zeE hm,hn.2.1,hn.2.2⟩
theorem za0 {h w t r c n:Nat} {bs:List (Nat×List Tx)} (ru:D) (R:Rul h w bs) (hn:n ∈ bs.map (·.1)) (ht:t≤150) (x0:pIx ru (.int 0)=some (.pure (.int h))) (x1:pIx ru (.int 1)=some (.pure (.int w))) (x2:pIx ru (.int 2)=some (.pure (.tup (bs.map blD)))) :
  gOf [] 11 (B9_) [.pure ru,.pure (.str [n]),.pure (.int t),.pure (.int r),.pure (.int c)]=some (.own (.lst ((line bs n (lo h w t r c).reverse).map t1D)),[.pure ru,.pure (.str [n]),.pure (.int t),.pure (.int r),.pure (.int c)]):=by
 have hd:=z8R R
 have h0:=R.h0
 have h1:=R.h1
 have w0:=R.w0
 have w1:=R.w1
 obtain ⟨j1,e1,_⟩:=z3J (g:=gNm [] 7) (b:=(B17_)) (fun k:Nat=>D.int (k:Int))
  (fun (x:St3) (j:Option S)=>[some (.pure ru),some (.pure (.str [n])),some (.pure (.int t)),some (.pure (.int (x.2.1:Int))),some (.pure (.int (x.2.2:Int))),some (.own (dcD bs)),some (.own (.lst (x.1.map prD))),j,none,none,none]) (stp h w) (fun k x=>x.1.length=k) (fun _=>True) 1000
  (fun k x j a hk hp _=>⟨by simp [stp,hp],_,some (.pure (.int a)),rfl,by
   have m1:=zbp x.2.1 h h0 (by omega)
   have m2:=zbp x.2.2 w w0 (by omega)
   have m3:=z7f x.2.1 h h0 (by omega)
   have m4:=z7f x.2.2 w w0 (by omega)
   have hz:x.1.length < W6:=by rw [z1b]; omega
   simp only [stp]
   generalize dcD bs=dd at *
   simp [z0A,z1V,eOpF,eOpN,bVar,x0,x1,m1,m2,putL,hz,dAsg,m3,m4]⟩) (Wb t) 0 ([],r,c) none (by simp; omega) rfl (fun _ _=>trivial)
 have hx:=z93 h w (Wb t) ([],r,c)
 rw [Jz,Q0] at hx
 generalize hf:(Wb t).foldl (stp h w) ([],r,c)=z at *
 obtain ⟨z1,z2,z3⟩:=z
 simp only at hx
 subst hx
 rw [← z7y] at e1
 have hll:=zbs h w t r c
 have hlt:=zeA h0 w0 t r c
 clear hf
 generalize (lo h w t r c)=L at *
 obtain ⟨j',e,_⟩:=z3J (g:=(gTp 2 (z0u (gNm [] 9) (z0u (gNm [] 10) z2c)))) (b:=(z0A 8 (eOp pIx (eOp pIx (eOpF pIxX 5 (bOf (eOpF pIx 8 (bOf (eC1 pNeg (bOf (eD (.int 1)))))))) (bVar 9)) (bVar 10)))) prD
  (fun (x:List Nat) (j:Option S×Option S)=>[some (.pure ru),some (.pure (.str [n])),some (.pure (.int t)),some (.pure (.int (z2:Int))),some (.pure (.int (z3:Int))),some (.own (dcD bs)),some (.own (.lst (L.map prD))),j1,some (.own (.lst (x.map t1D))),j.1,j.2]) (lnS bs) (LP bs) (fun p=>p.1 < h∧p.2 < w) 1000
  (fun k x j p hk hp hq=>⟨z7S R hp hq,_,(some (.pure (.int p.1)),some (.pure (.int p.2))),rfl,by
   obtain ⟨y1,y2,y3,y4⟩:=zbt R hp hq
   have hz:x.length < W6:=by rw [z1b]; have:=hp.1; omega
   simp only [lnS]
   generalize nt bs (x.getLastD 0) p.1 p.2=nx at *
   generalize D.str ((blk bs (x.getLastD 0)).getD p.1 [])=dr at *
   generalize flD (blk bs (x.getLastD 0))=db at *
   generalize x.getLastD 0=xl at *
   generalize dcD bs=dd at *
   generalize L.map prD=LD at *
   simp [z0A,z1V,eOpF,eOpN,bVar,pNeg,y1,y2,y3,y4,putL,hz]⟩) L.reverse 0 [n] (none,none) (by simp; omega) ⟨rfl,by simpa using hn⟩ (fun p hp=>hlt p (List.mem_reverse.mp hp))
 have hL:L.reverse.foldl (lnS bs) [n]=line bs n L.reverse:=rfl
 rw [hL] at e
 generalize line bs n L.reverse=LL at *
 generalize hdd:dcD bs=dd at *
 rw [z0L]
 simp [ioOk,z0g,dAsg,eVar,eOpF,eOpN,bVar,x2,hd,z3a t (by omega)]
 simp only [List.map_nil] at e1
 rw [e1]
 rw [List.map_reverse] at e
 simp [eVar,z3r,bVar,z8z,pRev]
 simp only [Ww,List.map_nil] at e
 rw [e]
 simp [z8S,z0H,z0e]
theorem z9W {h w t r c n:Nat} {bs:List (Nat×List Tx)} (R:Rul h w bs) (hn:n ∈ bs.map (·.1)) (ht:t≤150):z0Y [.pure (ruD h w bs),.pure (.str [n]),.pure (.int t),.pure (.int r),.pure (.int c)]=some (.own (.lst ((line bs n (lo h w t r c).reverse).map t1D)),[.pure (ruD h w bs),.pure (.str [n]),.pure (.int t),.pure (.int r),.pure (.int c)]):=by
 rw [z0Y,z2x]
 exact za0 _ R hn ht (z2f h w bs).1 (z2f h w bs).2.1 (z2f h w bs).2.2
theorem z9E (h w:Nat) (bs:List (Nat×List Tx)) (n:Nat):∀ t r c,(line bs n (lo h w t r c).reverse).getLastD 0=far h w bs n t r c
 | 0,r,c=>by simp [lo,line,far]
 | t + 1,r,c=>by
  have ih:=z9E h w bs n t (r / h) (c / w)
  unfold line at ih ⊢
  rw [lo,List.reverse_cons,List.foldl_append]
  have hl:∀ (X:List Nat) (p:Pr),(lnS bs X p).getLastD 0=nt bs (X.getLastD 0) p.1 p.2:=fun X p=>by unfold lnS; simp
  show (lnS bs _ _).getLastD 0=_
  rw [hl,ih]
  rfl
theorem q_at (GL:DF) (ru tl r c L y:D) (g:GL [.pure ru,.pure tl,.pure (.int 140),.pure r,.pure c]=some (.own L,[.pure ru,.pure tl,.pure (.int 140),.pure r,.pure c])) (i:pIx L (.int (-1))=some (.pure y)):gOf [] 4 (dRet (eOp pIx (z09 GL [.val (eVar 0),.val (eVar 1),.val (eD (.int 140)),.val (eVar 2),.val (eVar 3)]) (bOf (eC1 pNeg (bOf (eD (.int 1))))))) [.pure ru,.pure tl,.pure r,.pure c]=some (.pure y,[.pure ru,.pure tl,.pure r,.pure c]):=by
 rw [z0L]
 simp [ioOk,z0g,z09,ios,ndup,z0s,evX,mkA,putA,eVar,bVar,pNeg,g,i,z0H,z0e]
theorem r_at {h w n:Nat} {bs:List (Nat×List Tx)} (R:Rul h w bs) (hn:n ∈ bs.map (·.1)) (r c:Nat):z2a [.pure (ruD h w bs),.pure (.str [n]),.pure (.int (r:Int)),.pure (.int (c:Int))]=some (.pure (.str [far h w bs n 140 r c]),[.pure (ruD h w bs),.pure (.str [n]),.pure (.int (r:Int)),.pure (.int (c:Int))]):=by
 have e:=z9W (t:=140) (r:=r) (c:=c) R hn (by decide)
 have ll:(line bs n (lo h w 140 r c).reverse).length=140 + 1:=by
  have hl:=zbu R (lo h w 140 r c).reverse 0 [n] ⟨rfl,by simpa using hn⟩ (fun q hq=>zeA R.h0 R.w0 140 _ _ q (List.mem_reverse.mp hq))
  have:=hl.1
  rw [Ji,zbs,Wy] at this
  exact this
 have i:=zbA (line bs n (lo h w 140 r c).reverse) (by rw [ll]; decide)
 rw [z9E] at i
 rw [z2a,z6a]
 exact q_at z0Y _ (.str [n]) _ _ _ _ e i
theorem zdj (x y:Tx) (h:x.length + y.length≤100000):pAdd (.str x) (.str y)=some (.pure (.str (x ++ y))):=by
 have hz:W6=16777216:=rfl
 simp only [pAdd]
 rw [if_pos (by omega)]
theorem z9B (bs:List (Nat×List Tx)) (l:Nat):∀ (row:Tx) (s:Tx),row.foldl (fun s n=>s ++ (blk bs n).getD l []) s=s ++ lay1 bs l row
 | [],s=>by simp [lay1]
 | n :: r,s=>by rw [Qn,z9B bs l r]; simp [lay1]
theorem z8w (R:Rul h w bs) (ru:D) (x0:pIx ru (.int 0)=some (.pure (.int h))) (x2:pIx ru (.int 2)=some (.pure (.tup (bs.map blD)))) (F:Fl2 bs A C fl) (hA:A≤1000) (hC:C≤1000) :
  gOf [] 8 (B19_) [.pure ru,.pure (flD fl)]=some (.pure (flD (lay h bs fl)),[.pure ru,.pure (flD fl)]):=by
 have h1:=R.h1
 have w1:=R.w1
 have hdc:=z8R R
 -- one new row,sign by sign
 have signs:∀ (acc:List Tx) (row:Tx) (l:Nat) (o7:Option S),row ∈ fl→l < h→∃ o7',forL (gNm [] 7) (dAsg (eOpF pAdd 6 (bOf (eOp pIx (eOpF pIxX 2 (bVar 7)) (bVar 5)))) (gNm [] 6)) (row.map fun n=>.str [n]) [some (.pure ru),some (.pure (flD fl)),some (.own (dcD bs)),some (.own (.lst (acc.map .str))),some (.pure (.str row)),some (.pure (.int l)),some (.pure (.str [])),o7]
   = .ok .next [some (.pure ru),some (.pure (flD fl)),some (.own (dcD bs)),some (.own (.lst (acc.map .str))),some (.pure (.str row)),some (.pure (.int l)),some (.pure (.str (lay1 bs l row))),o7']:=fun acc row l o7 hrow hl=>by
  obtain ⟨j',e,_⟩:=z3J (g:=gNm [] 7) (b:=(dAsg (eOpF pAdd 6 (bOf (eOp pIx (eOpF pIxX 2 (bVar 7)) (bVar 5)))) (gNm [] 6))) (fun n:Nat=>D.str [n]) (fun (s:Tx) (j:Option S)=>[some (.pure ru),some (.pure (flD fl)),some (.own (dcD bs)),some (.own (.lst (acc.map .str))),some (.pure (.str row)),some (.pure (.int l)),some (.pure (.str s)),j]) (fun s n=>s ++ (blk bs n).getD l []) (fun k s=>s.length≤k * 4) (fun n=>n ∈ bs.map (·.1)) 1000 (fun k s j n hk hp hq=>by
   have y1:=zeE hq
   obtain ⟨z1,_,y2⟩:=z7w R hq hl
   have ha:=zdj s ((blk bs n).getD l []) (by omega)
   refine ⟨by rw [Q2,z1,J1]; omega,_,some (.pure (.str [n])),rfl,?_⟩
   generalize s ++ (blk bs n).getD l []=ns at *
   generalize D.str ((blk bs n).getD l [])=dr at *
   generalize flD (blk bs n)=db at *
   generalize flD fl=df at *
   generalize dcD bs=dd at *
   generalize acc.map D.str=ad at *
   simp [dAsg,eOpF,eOpN,bVar,y1,y2,ha]) row 0 [] o7 (by rw [Wy,F.cols row hrow]; exact hC) (by simp) (F.tl row hrow)
  rw [z9B,Q0] at e
  exact ⟨j',e⟩
 have inner:∀ (acc:List Tx) (row:Tx) (o5 o6 o7:Option S),row ∈ fl→acc.length≤100000→∃ o5' o6' o7',forL (gNm [] 5) (B6_) (z0z 0 h) [some (.pure ru),some (.pure (flD fl)),some (.own (dcD bs)),some (.own (.lst (acc.map .str))),some (.pure (.str row)),o5,o6,o7]
   = .ok .next [some (.pure ru),some (.pure (flD fl)),some (.own (dcD bs)),some (.own (.lst ((acc ++ layR h bs row).map .str))),some (.pure (.str row)),o5',o6',o7']:=fun acc row o5 o6 o7 hrow hacc=>by
  obtain ⟨δ',e,o5',o6',o7',rfl⟩:=z16 (g:=gNm [] 5) (b:=(B6_)) (fun k δ=>∃ o5 o6 o7,δ=[some (.pure ru),some (.pure (flD fl)),some (.own (dcD bs)),some (.own (.lst ((acc ++ layR k bs row).map .str))),some (.pure (.str row)),o5,o6,o7]) (z0z 0 h) 0 [some (.pure ru),some (.pure (flD fl)),some (.own (dcD bs)),some (.own (.lst (acc.map .str))),some (.pure (.str row)),o5,o6,o7] ⟨o5,o6,o7,by simp [layR]⟩ (fun i d δ hd ⟨o5,o6,o7,e⟩=>by
   subst e
   obtain ⟨hi,rfl⟩:=z11 hd
   rw [Wy]
   obtain ⟨o7',hs⟩:=signs (acc ++ layR i bs row) row i o7 hrow hi
   have hz:((acc ++ layR i bs row).map D.str).length < W6:=by
    rw [z1b]
    simp [layR]
    omega
   have hE:(acc ++ layR (i + 1) bs row).map D.str=(acc ++ layR i bs row).map D.str ++ [.str (lay1 bs i row)]:=by
    simp [layR,Qf]
   refine ⟨_,[some (.pure ru),some (.pure (flD fl)),some (.own (dcD bs)),some (.own (.lst ((acc ++ layR (i + 1) bs row).map .str))),some (.pure (.str row)),some (.pure (.int i)),some (.pure (.str (lay1 bs i row))),o7'],rfl,?_,_,_,_,rfl⟩
   rw [hE]
   generalize lay1 bs i row=nr at *
   generalize (acc ++ layR i bs row).map D.str=AD at *
   generalize flD fl=df at *
   generalize dcD bs=dd at *
   simp [dAsg,z3r,eVar]
   rw [hs]
   simp [z0A,z1V,eVar,putL,hz])
  rw [Wy,z2B] at e
  exact ⟨o5',o6',o7',e⟩
 have outer:∃ o4 o5 o6 o7,forL (gNm [] 4) (dFor (z0K (eOpF pIx 0 (bOf (eD (.int 0))))) (gNm [] 5) (B6_)) (fl.map .str) [some (.pure ru),some (.pure (flD fl)),some (.own (dcD bs)),some (.own (.lst [])),none,none,none,none]
   = .ok .next [some (.pure ru),some (.pure (flD fl)),some (.own (dcD bs)),some (.own (.lst ((lay h bs fl).map .str))),o4,o5,o6,o7]:=by
  obtain ⟨δ',e,o4,o5,o6,o7,rfl⟩:=z16 (g:=gNm [] 4) (b:=(dFor (z0K (eOpF pIx 0 (bOf (eD (.int 0))))) (gNm [] 5) (B6_))) (fun k δ=>∃ o4 o5 o6 o7,δ=[some (.pure ru),some (.pure (flD fl)),some (.own (dcD bs)),some (.own (.lst ((lay h bs (fl.take k)).map .str))),o4,o5,o6,o7]) (fl.map D.str) 0 [some (.pure ru),some (.pure (flD fl)),some (.own (dcD bs)),some (.own (.lst [])),none,none,none,none] ⟨none,none,none,none,by simp [lay]⟩ (fun i d δ hd ⟨o4,o5,o6,o7,e⟩=>by
   subst e
   rw [WR,J0] at hd
   obtain ⟨row,hrow,rfl⟩:=hd
   rw [Wy]
   have hi:i < fl.length:=(Wf.mp hrow).1
   have hlen:(lay h bs (fl.take i)).length≤100000:=by
    have F':Fl2 bs (fl.take i).length C (fl.take i):=⟨rfl,fun r hr=>F.cols r (Qx hr),fun r hr=>F.tl r (Qx hr)⟩
    have:=(zdB R F').rows
    rw [this]
    have h2:(fl.take i).length≤1000:=by have:=F.rows; rw [QP]; omega
    have:(fl.take i).length * h≤1000 * 4:=Jx h2 h1
    omega
   obtain ⟨o5',o6',o7',e⟩:=inner (lay h bs (fl.take i)) row o5 o6 o7 (WB hrow) hlen
   have hE:lay h bs (fl.take (i + 1))=lay h bs (fl.take i) ++ layR h bs row:=by
    rw [JB,hrow]
    simp [lay]
   refine ⟨_,[some (.pure ru),some (.pure (flD fl)),some (.own (dcD bs)),some (.own (.lst ((lay h bs (fl.take (i + 1))).map .str))),some (.pure (.str row)),o5',o6',o7'],rfl,?_,_,_,_,_,rfl⟩
   rw [hE]
   generalize (lay h bs (fl.take i) ++ layR h bs row).map D.str=AD at *
   generalize (lay h bs (fl.take i)).map D.str=AE at *
   generalize flD fl=df at *
   generalize dcD bs=dd at *
   simp only [z8P,z81,eOpF,eOpN,zdF,ev_eD,bVar,zgt,zgw,x0,List.set_cons_succ,List.set_cons_zero,List.getElem?_cons_succ,QT,z0Z,z3a h (by omega:h≤1000000)]
   exact e)
  refine ⟨o4,o5,o6,o7,?_⟩
  rw [e]
  simp
 obtain ⟨o4,o5,o6,o7,e⟩:=outer
 rw [z0L]
 clear signs inner
 generalize hAD:(lay h bs fl).map D.str=AD at *
 generalize dcD bs=dd at *
 generalize D.tup (bs.map blD)=bl at *
 simp [ioOk,z0g,dAsg,eOpF,eOpN,bVar,x2,hdc,z3r,eVar]
 rw [e]
 simp [bVar,z1k,z0H,z0e]
 exact hAD.symm
theorem z8t (R:Rul h w bs) (F:Fl2 bs A C fl) (hA:A≤1000) (hC:C≤1000):z1w [.pure (ruD h w bs),.pure (flD fl)]=some (.pure (flD (lay h bs fl)),[.pure (ruD h w bs),.pure (flD fl)]):=by
 rw [z1w,z3B]
 exact z8w R _ (z2f h w bs).1 (z2f h w bs).2.2 F hA hC
theorem zbw (ds:List D):pLen (.lst ds)=some (.pure (.int ds.length)):=rfl
theorem z9t (ds:List D) (d:D):pIx (.lst (ds ++ [d])) (.int (-1))=some (.pure d):=by
 have:atI (ds ++ [d]) (-1)=some d:=by
  unfold atI ixN
  rw [if_neg (by omega),if_pos (by simp; omega)]
  have e:(-1 + ((ds ++ [d]).length:Int)).toNat=ds.length:=by simp; omega
  simp only [WD,e]
  simp
 simp [pIx,this]
def FLD (F:Nat→List Tx) (m:Nat):List D:=(Wb (m + 1)).map fun k=>flD (F k)
theorem zdk (F:Nat→List Tx) (m:Nat):FLD F (m + 1)=FLD F m ++ [flD (F (m + 1))]:=by
 unfold FLD
 rw [Qf]
 simp
theorem z7p (F:Nat→List Tx) (m:Nat):pIx (.lst (FLD F m)) (.int (-1))=some (.pure (flD (F m))):=by
 unfold FLD
 rw [Qf,Jl]
 exact z9t _ _
theorem z8Y (F:Nat→List Tx) (m:Nat):(FLD F m).length=m + 1:=by simp [FLD]
theorem zcA (GG:DF) (ru:D) (n h w:Nat) (h1:h≤4) (w1:w≤4) (F:Nat→List Tx) (A B:Nat→Nat) (hA:∀ k,A (k + 1)=A k * h) (hB:∀ k,B (k + 1)=B k * w) (hA0:A 0=1) (hB0:B 0=1) (hAp:∀ k,0 < A k) (hBp:∀ k,0 < B k) (hF0:flD (F 0) = .tup [.str [n]]) (x0:pIx ru (.int 0)=some (.pure (.int h))) (x1:pIx ru (.int 1)=some (.pure (.int w)))
  (ln:∀ k,pLen (flD (F k))=some (.pure (.int (A k)))) (rw0:∀ k,B k≤1000→∃ d,pIx (flD (F k)) (.int 0)=some (.pure d)∧pLen d=some (.pure (.int (B k))))
  (gg:∀ k,A k≤1000→B k≤1000→GG [.pure ru,.pure (flD (F k))]=some (.pure (flD (F (k + 1))),[.pure ru,.pure (flD (F k))])) :
  ∃ m,m≤7∧(∀ k,k≤m→A k * B k≤200)∧gOf [] 4 (dSeq (dAsg (eLst (z0c (eTup (z0c (eVar 1) aNil)) aNil)) (gNm [] 3)) (dSeq (z1T (dAnd (dTr (eOp pLe (eOp z1a (eOp z1a (eOp z1a (eC1 pLen (bOf (eOpF pIx 3 (bOf (eC1 pNeg (bOf (eD (.int 1)))))))) (bOf (eOpF pIx 0 (bOf (eD (.int 0)))))) (bOf (eC1 pLen (bOf (eOp pIx (eOpF pIx 3 (bOf (eC1 pNeg (bOf (eD (.int 1)))))) (bOf (eD (.int 0)))))))) (bOf (eOpF pIx 0 (bOf (eD (.int 1)))))) (bVar 2))) (dTr (eOp pLt (eC1 pLen (bVar 3)) (bOf (eD (.int 8)))))) (z0A 3 (z09 GG [.val (eVar 0),.val (eOpF pIx 3 (bOf (eC1 pNeg (bOf (eD (.int 1))))))])) 1000000) (z8S [] 3))) [.pure ru,.pure (.str [n]),.pure (.int 200)]=some (.own (.lst (FLD F m)),[.pure ru,.pure (.str [n]),.pure (.int 200)]):=by
 have loop:∀ (j M m:Nat),j=7 - m→m≤7→j < M→(∀ k,k≤m→A k * B k≤200)→∃ m',m'≤7∧(∀ k,k≤m'→A k * B k≤200)∧z1T (dAnd (dTr (eOp pLe (eOp z1a (eOp z1a (eOp z1a (eC1 pLen (bOf (eOpF pIx 3 (bOf (eC1 pNeg (bOf (eD (.int 1)))))))) (bOf (eOpF pIx 0 (bOf (eD (.int 0)))))) (bOf (eC1 pLen (bOf (eOp pIx (eOpF pIx 3 (bOf (eC1 pNeg (bOf (eD (.int 1)))))) (bOf (eD (.int 0)))))))) (bOf (eOpF pIx 0 (bOf (eD (.int 1)))))) (bVar 2))) (dTr (eOp pLt (eC1 pLen (bVar 3)) (bOf (eD (.int 8)))))) (z0A 3 (z09 GG [.val (eVar 0),.val (eOpF pIx 3 (bOf (eC1 pNeg (bOf (eD (.int 1))))))])) M [some (.pure ru),some (.pure (.str [n])),some (.pure (.int 200)),some (.own (.lst (FLD F m)))] = .ok .next [some (.pure ru),some (.pure (.str [n])),some (.pure (.int 200)),some (.own (.lst (FLD F m')))]:=by
  intro j
  induction j with
  | zero =>
   intro M m hj hm hM hk
   have hm7:m=7:=by omega
   subst hm7
   obtain ⟨M,rfl⟩:∃ M',M=M' + 1:=⟨M - 1,by omega⟩
   have b7:=hk 7 (Wh _)
   have bA:A 7≤200:=WG (QU _ (hBp 7)) b7
   have bB:B 7≤200:=WG (Nat.le_mul_of_pos_left _ (hAp 7)) b7
   obtain ⟨d,y1,y2⟩:=rw0 7 (by omega)
   have y0:=z7p F 7
   have y3:=ln 7
   have m1:=mul_int (A 7) h (by omega) (by omega)
   have m2:=mul_int ((A 7:Int) * h) (B 7) (by omega) (by omega)
   have m3:=mul_int ((A 7:Int) * h * B 7) w (by omega) (by omega)
   have hl:¬ ((FLD F 7).length:Int) < 8:=by rw [z8Y]; omega
   refine ⟨7,hm,hk,z4k ?_⟩
   generalize FLD F 7=L at *
   generalize flD (F 7)=df at *
   by_cases c:(A 7:Int) * h * B 7 * w≤200
   ·simp [dTr,eOpF,eOpN,bVar,pNeg,y0,y3,x0,x1,m1,y1,y2,m2,m3,le_int,c,zbw,lt_int,hl]
   ·simp [dTr,eOpF,eOpN,bVar,pNeg,y0,y3,x0,x1,m1,y1,y2,m2,m3,le_int,c]
  | succ j ih =>
   intro M m hj hm hM hk
   obtain ⟨M,rfl⟩:∃ M',M=M' + 1:=⟨M - 1,by omega⟩
   have b7:=hk m (Wh _)
   have bA:A m≤200:=WG (QU _ (hBp m)) b7
   have bB:B m≤200:=WG (Nat.le_mul_of_pos_left _ (hAp m)) b7
   obtain ⟨d,y1,y2⟩:=rw0 m (by omega)
   have y0:=z7p F m
   have y3:=ln m
   have m1:=mul_int (A m) h (by omega) (by omega)
   have m2:=mul_int ((A m:Int) * h) (B m) (by omega) (by omega)
   have m3:=mul_int ((A m:Int) * h * B m) w (by omega) (by omega)
   have hl:((FLD F m).length:Int) < 8:=by rw [z8Y]; omega
   by_cases c:(A m:Int) * h * B m * w≤200
   ·have hz:(FLD F m).length < W6:=by rw [z8Y,z1b]; omega
    have g:=gg m (by omega) (by omega)
    have hT:(dAnd (dTr (eOp pLe (eOp z1a (eOp z1a (eOp z1a (eC1 pLen (bOf (eOpF pIx 3 (bOf (eC1 pNeg (bOf (eD (.int 1)))))))) (bOf (eOpF pIx 0 (bOf (eD (.int 0)))))) (bOf (eC1 pLen (bOf (eOp pIx (eOpF pIx 3 (bOf (eC1 pNeg (bOf (eD (.int 1)))))) (bOf (eD (.int 0)))))))) (bOf (eOpF pIx 0 (bOf (eD (.int 1)))))) (bVar 2))) (dTr (eOp pLt (eC1 pLen (bVar 3)) (bOf (eD (.int 8)))))) [some (.pure ru),some (.pure (.str [n])),some (.pure (.int 200)),some (.own (.lst (FLD F m)))] = .ok true [some (.pure ru),some (.pure (.str [n])),some (.pure (.int 200)),some (.own (.lst (FLD F m)))]:=by
     generalize FLD F m=L at *
     generalize flD (F m)=df at *
     simp [dTr,eOpF,eOpN,bVar,pNeg,y0,y3,x0,x1,m1,y1,y2,m2,m3,le_int,c,zbw,lt_int,hl]
    have hB':(z0A 3 (z09 GG [.val (eVar 0),.val (eOpF pIx 3 (bOf (eC1 pNeg (bOf (eD (.int 1))))))])) [some (.pure ru),some (.pure (.str [n])),some (.pure (.int 200)),some (.own (.lst (FLD F m)))] = .ok .next [some (.pure ru),some (.pure (.str [n])),some (.pure (.int 200)),some (.own (.lst (FLD F (m + 1))))]:=by
     rw [zdk]
     generalize FLD F m=L at *
     generalize flD (F (m + 1))=dg at *
     generalize flD (F m)=df at *
     simp [z0A,z1V,z09,ios,ndup,z0s,evX,eVar,eOpF,eOpN,bVar,pNeg,y0,mkA,g,putA,putL,hz]
    have hk':∀ k,k≤m + 1→A k * B k≤200:=fun k hk2=>by
     by_cases hkm:k≤m
     ·exact hk k hkm
     ·have:k=m + 1:=by omega
      subst this
      rw [hA,hB]
      have e:(A m * h * (B m * w):Nat)=A m * h * B m * w:=by rw [Nat.mul_assoc (A m * h)]
      rw [e]
      have e2:((A m * h * B m * w:Nat):Int)=(A m:Int) * h * B m * w:=by simp
      omega
    obtain ⟨m',h1',h2',h3'⟩:=ih M (m + 1) (by omega) (by omega) (by omega) hk'
    exact ⟨m',h1',h2',by rw [z6r hT hB']; exact h3'⟩
   ·refine ⟨m,hm,hk,z4k ?_⟩
    generalize FLD F m=L at *
    generalize flD (F m)=df at *
    simp [dTr,eOpF,eOpN,bVar,pNeg,y0,y3,x0,x1,m1,y1,y2,m2,m3,le_int,c]
 have k0:∀ k,k≤0→A k * B k≤200:=fun k hk=>by
  have:k=0:=by omega
  subst this
  rw [hA0,hB0]
  decide
 obtain ⟨m,a1,a2,a3⟩:=loop 7 1000000 0 (by omega) (by omega) (by omega) k0
 refine ⟨m,a1,a2,?_⟩
 have h0:FLD F 0=[.tup [.str [n]]]:=by rw [← hF0]; rfl
 rw [h0] at a3
 clear loop a2
 rw [z0L]
 generalize 1000000=MM at *
 generalize FLD F m=L at *
 simp only [zbP,dAsg,zeR,zd9,zeQ,zeS,z0Z,z0g]
 simp [ioOk,eVar]
 rw [a3]
 simp [z8S,z0H,z0e]
abbrev farF (h w:Nat) (bs:List (Nat×List Tx)) (n k:Nat):List Tx:=grid (far h w bs n k) (h ^ k) (w ^ k)
theorem zcv (R:Rul h w bs) (hn:n ∈ bs.map (·.1)):∃ m,m≤7∧(∀ k,k≤m→h ^ k * w ^ k≤200)∧z1h [.pure (ruD h w bs),.pure (.str [n]),.pure (.int 200)]=some (.own (.lst (FLD (farF h w bs n) m)),[.pure (ruD h w bs),.pure (.str [n]),.pure (.int 200)]):=by
 rw [z1h,z37]
 refine zcA z1w (ruD h w bs) n h w R.h1 R.w1 (farF h w bs n) (fun k=>h ^ k) (fun k=>w ^ k) (fun k=>Qi h k) (fun k=>Qi w k) rfl rfl (fun k=>Jh R.h0) (fun k=>Jh R.w0) rfl (z2f h w bs).1 (z2f h w bs).2.1 (fun k=>by rw [z82,(z3H _ _ _).1]) (fun k hk=>z9x _ (Jh R.h0) hk) (fun k hA hB=>?_)
 have e:=z8t R (z9y (h ^ k) (w ^ k) (z61 R hn k)) hA hB
 rw [z9p R _ _ _ (z61 R hn k)] at e
 have e2:farF h w bs n (k + 1)=grid (fun a b=>nt bs (far h w bs n k (a / h) (b / w)) (a % h) (b % w)) (h ^ k * h) (w ^ k * w):=by
  show grid _ (h ^ (k + 1)) (w ^ (k + 1))=_
  rw [Qi,Qi]
  rfl
 rw [e2]
 exact e
theorem zcu (n:Nat):z1g [.pure (.str [n])]=some (.pure (.bl true),[.pure (.str [n])]):=by
 rw [z1g,z0L,z36]
 simp [ioOk,z0g,eAnd,eIsi,isTy,bVar,pLen,z1b,z3t,z0H,z0e]
theorem zgx (fl:List Tx):pEq (flD fl) (flD fl)=some (.pure (.bl true)):=by
 have hf:=zeL 49 fl
 unfold pEq
 rw [hf,z5u hf]
 rfl
theorem z6D (fl:List Tx) (hl:fl.length≤1000):z0C [.pure (flD fl),.pure (flD fl)]=some (.pure (.bl true),[.pure (flD fl),.pure (flD fl)]):=by
 have e:=zbX (cs:=[2]) (g:=gNm [] 2) (el:=eIsi "str" (bVar 2)) [some (.pure (flD fl)),some (.pure (flD fl)),none] (fl.map D.str) (by simpa using hl) (fun d hd=>by
  obtain ⟨x,hx,rfl⟩:=WE.mp hd
  refine ⟨_,[some (.pure (flD fl)),some (.pure (flD fl)),some (.pure (.str x))],rfl,?_,rfl⟩
  generalize flD fl=df at *
  simp [eIsi,isTy,bVar])
 have ha:=zdi (fl.map D.str)
 have he:=zgx fl
 rw [z0C,z0L,z2y]
 simp [ioOk,z0g,dTr,eIsi,isTy,bVar,z3r,eVar,z0s,clrD]
 rw [e]
 simp only [List.map_const'] at ha ⊢
 simp at ha
 simp [z1S,ha,eOpF,eOpN,bVar,he,z0H,z0e]
theorem z6H (f g:DE) (δ:Dl):z2g f g δ=(f δ).bind fun r δ1=>(g δ1).bind fun s δ2=>match r,s with
 | .pure (.int i),.pure (.int j)=>.ok (z0z i (j - i).toNat) δ2
 | _,_=>.stuck:=rfl
theorem z56 (h1:it δ = .ok ds δ1) (h2:forL g b ds δ1 = .ok fl δ2):dFor it g b δ = .ok fl δ2:=by
 rw [z8P,h1]
 exact h2
theorem zgD (h:f δ = .ok (.pure v) δ1) (hg:gNm [0] i (.pure v) δ1=some δ2):dAsg f (gNm [0] i) δ = .ok .next δ2:=by
 unfold dAsg
 rw [h]
 show (match gNm [0] i (.pure v) δ1 with | some δ'=>Rs.ok Fl.next δ' | none=>.stuck)=_
 rw [hg]
theorem zcF:∀ r:Nat,r < 3→∃ m:Nat,pIx (.lst [.int 3,.int 8,.int 40]) (.int (r:Int))=some (.pure (.int (m:Int)))∧m≤40:=by
 intro r hr
 have:r=0∨r=1∨r=2:=by omega
 rcases this with rfl | rfl | rfl
 ·exact ⟨3,rfl,by omega⟩
 ·exact ⟨8,rfl,by omega⟩
 ·exact ⟨40,rfl,by omega⟩
theorem zei:pPow (.int 10) (.int 40)=some (.pure (.int (10 ^ 40))):=by
 show (if cPow 10 40 then some (S.pure (.int (10 ^ (40:Int).toNat))) else none)=_
 rw [if_pos (by decide)]
 rfl
theorem zgC:((10:Int) ^ 40 - 1)=((10 ^ 40 - 1:Nat):Int):=by decide +kernel
abbrev foSt (pd:D) (h y x:Nat) (o4:Option S):Dl:=[some (.own pd),some (.pure (.int (h:Int))),some (.pure (.int (y:Int))),some (.pure (.int (x:Int))),o4]
abbrev B22_ (GD:DF):DS:=dAsg (eOp pAdd (eOpF z1a 3 (bOf (eD (.int 10)))) (bOf (z09 GD [.io 0,.val (eD (.int 10))]))) (gNm [0] 3)
theorem zeJ (GD:DF) (hd:z4K GD) (hpd:Pen pd) (h y m:Nat):∃ (x:Nat) (pd':D) (o4:Option S),x < 10 ^ m∧Pen pd'∧forL (gNm [0] 4) (B22_ GD) (z0z 0 m) (foSt pd h y 0 none) = .ok .next (foSt pd' h y x o4):=by
 obtain ⟨δ',e,x,pd',o4,hx,hp,rfl⟩:=z16 (g:=gNm [0] 4) (b:=(B22_ GD)) (fun k δ=>∃ (x:Nat) (pd:D) (o4:Option S),x < 10 ^ k∧Pen pd∧δ=foSt pd h y x o4) (z0z 0 m) 0 (foSt pd h y 0 none) ⟨0,pd,none,by decide,hpd,rfl⟩ (fun i d δ hdd ⟨x,pd,o4,hx,hp,e⟩=>by
  subst e
  obtain ⟨hi,rfl⟩:=z11 hdd
  obtain ⟨r,pd1,e1,l1,p1⟩:=hd pd 10 hp (by omega) (by omega)
  have e1':GD [.own pd,.pure (.int 10)]=some (.pure (.int (r:Int)),[.own pd1,.pure (.int 10)]):=e1
  have m1:=mul_int (x:Int) 10 (by omega) (by omega)
  have a1:pAdd (.int ((x:Int) * 10)) (.int (r:Int))=some (.pure (.int ((x * 10 + r:Nat):Int))):=rfl
  refine ⟨foSt pd h y x (some (.pure (.int (i:Int)))),foSt pd1 h y (x * 10 + r) (some (.pure (.int (i:Int)))),rfl,?_,x * 10 + r,pd1,_,?_,p1,rfl⟩
  ·simp only [foSt]
   generalize D.int ((x * 10 + r:Nat):Int)=d4 at *
   generalize D.int ((x:Int) * 10)=d3 at *
   generalize D.int (x:Int)=d2 at *
   generalize D.int (r:Int)=d1 at *
   generalize D.int (h:Int)=d5 at *
   generalize D.int (y:Int)=d6 at *
   generalize D.int (i:Int)=d7 at *
   simp [dAsg,eOpF,eOpN,z09,ios,ndup,z0s,evX,mkA,putA,eVar,bVar,e1',m1,a1]
  ·rw [Wy,Qi]
   rw [Wy] at hx
   generalize 10 ^ i=P at *
   omega)
 rw [Wy,z2B] at hx
 exact ⟨x,pd',o4,hx,hp,e⟩
abbrev B10_ (GD:DF):DS:=dSeq (dIf (dTr (eOpF pEq 1 (bOf (eD (.int 1))))) (dRet (eD (.int 0))) z1n) (dSeq (dAsg (z09 GD [.io 0,.val (eD (.int 5))]) (gNm [0] 2)) (dSeq (dIf (dTr (eOpF pEq 2 (bOf (eD (.int 0))))) (dRet (eOp pSub (eOp pPow (eD (.int 10)) (bOf (eD (.int 40)))) (bOf (eD (.int 1))))) z1n) (dSeq (dAsg (eD (.int 0)) (gNm [0] 3)) (dSeq (dFor (z0K (eOp pIx (z3K [.int 3,.int 8,.int 40]) (bOf (z09 GD [.io 0,.val (eD (.int 3))])))) (gNm [0] 4) (B22_ GD)) (dRet (eVar 3))))))
theorem zcB (GD:DF) (hd:z4K GD) (hpd:Pen pd) (h:Nat):∃ (r:Nat) (pd':D),r < 10 ^ 40∧(h=1→r=0)∧Pen pd'∧gOf [0] 5 (B10_ GD) [.own pd,.pure (.int (h:Int))]=some (.pure (.int (r:Int)),[.own pd',.pure (.int (h:Int))]):=by
 have q:=z3t (h:Int) 1
 by_cases h1:h=1
 ·have:((h:Int) == 1)=true:=by simp; omega
  rw [this] at q
  refine ⟨0,pd,by decide +kernel,fun _=>rfl,hpd,?_⟩
  rw [z0L]
  show _=some (S.pure (.int 0),_)
  generalize D.int (h:Int)=dh at *
  simp [ioOk,z0g,dTr,eOpF,eOpN,bVar,q,z0H,z0e]
 ·have:((h:Int) == 1)=false:=by simp; omega
  rw [this] at q
  obtain ⟨y,pd1,e1,l1,p1⟩:=hd pd 5 hpd (by omega) (by omega)
  have e1':GD [.own pd,.pure (.int 5)]=some (.pure (.int (y:Int)),[.own pd1,.pure (.int 5)]):=e1
  have q2:=z3t (y:Int) 0
  by_cases y0:y=0
  ·have:((y:Int) == 0)=true:=by simp; omega
   rw [this] at q2
   have s:=sub_int (10 ^ 40) 1
   refine ⟨10 ^ 40 - 1,pd1,by decide +kernel,fun z=>absurd z h1,p1,?_⟩
   rw [← zgC]
   rw [z0L]
   have p:=zei
   generalize (10:Int) ^ 40 - 1=big at *
   generalize (10:Int) ^ 40=big1 at *
   generalize D.int (h:Int)=dh at *
   generalize D.int (y:Int)=dy at *
   simp [ioOk,z0g,dAsg,dTr,eOpF,eOpN,z09,ios,ndup,z0s,evX,mkA,putA,eVar,bVar,q,e1',q2,p,s,z0H,z0e]
  ·have:((y:Int) == 0)=false:=by simp; omega
   rw [this] at q2
   obtain ⟨u,pd2,e2,l2,p2⟩:=hd pd1 3 p1 (by omega) (by omega)
   have e2':GD [.own pd1,.pure (.int 3)]=some (.pure (.int (u:Int)),[.own pd2,.pure (.int 3)]):=e2
   obtain ⟨m,em,m1⟩:=zcF u l2
   obtain ⟨x,pd3,o4,hx,p3,e3⟩:=zeJ GD hd p2 h y m
   refine ⟨x,pd3,Wt hx (Qy (by decide) m1),fun z=>absurd z h1,p3,?_⟩
   have K:(B10_ GD) (z0g 5 [.own pd,.pure (.int (h:Int))]) = .ok (.ret (.pure (.int (x:Int)))) (foSt pd3 h y x o4):=by
    refine z0m (δ1:=[some (.own pd),some (.pure (.int (h:Int))),none,none,none]) ?_ ?_
    ·generalize D.int (h:Int)=dh at *
     simp [z0g,dTr,eOpF,eOpN,bVar,q]
    refine z0m (δ1:=[some (.own pd1),some (.pure (.int (h:Int))),some (.pure (.int (y:Int))),none,none]) ?_ ?_
    ·generalize D.int (h:Int)=dh at *
     generalize D.int (y:Int)=dy at *
     simp [dAsg,z09,ios,ndup,z0s,evX,mkA,putA,e1']
    refine z0m (δ1:=[some (.own pd1),some (.pure (.int (h:Int))),some (.pure (.int (y:Int))),none,none]) ?_ ?_
    ·generalize D.int (h:Int)=dh at *
     generalize D.int (y:Int)=dy at *
     simp [dTr,eOpF,eOpN,bVar,q2]
    refine z0m (δ1:=foSt pd1 h y 0 none) rfl ?_
    refine z0m (δ1:=foSt pd3 h y x o4) ?_ ?_
    ·refine z56 (δ1:=foSt pd2 h y 0 none) (ds:=z0z 0 m) ?_ e3
     have hr:=z3a m (by omega) (foSt pd2 h y 0 none)
     generalize D.int (m:Int)=dm at *
     generalize D.int (u:Int)=du at *
     simp [z3K,z09,ios,ndup,z0s,evX,mkA,putA,e2',em]
     exact hr
    ·rfl
   rw [z0L,K]
   simp [ioOk,z0H,z0e]
theorem zcw (hpd:Pen pd) (h:Nat):∃ (r:Nat) (pd':D),r < 10 ^ 40∧(h=1→r=0)∧Pen pd'∧z12 [.own pd,.pure (.int (h:Int))]=some (.pure (.int (r:Int)),[.own pd',.pure (.int (h:Int))]):=by
 rw [z12,z38]
 exact zcB z0a z7e hpd h
theorem zaH (GD:DF) (hd:z4K GD) (ru:D) (k:Int) (h:Nat) (x0:pIx ru (.int k)=some (.pure (.int (h:Int)))) (hpd:Pen pd) (o2 o3 o4 o5 o6 o7 o8 o9 o10:Option S) :
  ∃ (H:Nat) (pd':D),0 < H∧H≤5∧(h=1→H=1)∧Pen pd'∧(eOp pAdd (eD (.int 1)) (bOf (eOp z1a (z09 GD [.io 0,.val (eD (.int 5))]) (bOf (eC1 pInt (bOf (eOp pGt (eOpF pIx 1 (bOf (eD (.int k)))) (bOf (eD (.int 1)))))))))) [some (.own pd),some (.pure ru),o2,o3,o4,o5,o6,o7,o8,o9,o10] = .ok (.pure (.int (H:Int))) [some (.own pd'),some (.pure ru),o2,o3,o4,o5,o6,o7,o8,o9,o10]:=by
 obtain ⟨s,pd1,e1,l1,p1⟩:=hd pd 5 hpd (by omega) (by omega)
 have e1':GD [.own pd,.pure (.int 5)]=some (.pure (.int (s:Int)),[.own pd1,.pure (.int 5)]):=e1
 have g:=gt_int (h:Int) 1
 by_cases h1:1 < h
 ·rw [decide_eq_true (by omega)] at g
  have pi:pInt (.bl true)=some (.pure (.int 1)):=rfl
  have mu:=mul_int (s:Int) 1 (by omega) (by omega)
  rw [Int.mul_one] at mu
  have ad:pAdd (.int 1) (.int (s:Int))=some (.pure (.int ((1 + s:Nat):Int))):=by rw [add_int]; congr 3
  refine ⟨1 + s,pd1,by omega,by omega,fun z=>by omega,p1,?_⟩
  generalize D.int ((1 + s:Nat):Int)=d1s at *
  generalize D.int (s:Int)=ds at *
  generalize D.int (h:Int)=dh at *
  simp [eVar,bVar,eOpF,eOpN,z09,ios,ndup,z0s,evX,mkA,putA,e1',x0,g,pi,mu,ad]
 ·rw [decide_eq_false (by omega)] at g
  have pi:pInt (.bl false)=some (.pure (.int 0)):=rfl
  have mu:=mul_int (s:Int) 0 (by omega) (by omega)
  rw [Int.mul_zero] at mu
  have ad:pAdd (.int 1) (.int 0)=some (.pure (.int 1)):=rfl
  refine ⟨1,pd1,by omega,by omega,fun z=>rfl,p1,?_⟩
  show _=Rs.ok (S.pure (.int 1)) _
  generalize D.int (s:Int)=ds at *
  generalize D.int (h:Int)=dh at *
  simp [eVar,bVar,eOpF,eOpN,z09,ios,ndup,z0s,evX,mkA,putA,e1',x0,g,pi,mu,ad]
abbrev crSt (pd ru:D) (n r c HH WW:Nat) (f7:D) (L:List D) (o9:Option S):Dl:=[some (.own pd),some (.pure ru),some (.pure (.str [n])),some (.pure (.int (r:Int))),some (.pure (.int (c:Int))),some (.pure (.int (HH:Int))),some (.pure (.int (WW:Int))),some (.pure f7),some (.own (.lst L)),o9,none]
theorem zda (GA:DF) (ru:D) (n r c HH WW:Nat) (hW:WW≤1000) (hH:HH≤1000) (F:Nat→Nat→Nat)
  (ga:∀ i j:Nat,GA [.pure ru,.pure (.str [n]),.pure (.int ((r:Int) + (i:Nat))),.pure (.int ((c:Int) + (j:Nat)))]=some (.pure (.str [F i j]),[.pure ru,.pure (.str [n]),.pure (.int ((r:Int) + (i:Nat))),.pure (.int ((c:Int) + (j:Nat)))])) (pd f7:D) :
  ∃ o9,forL (gNm [0] 9) (z0A 8 (eC1 (z3k []) (bOf (z2s [10] (z2g (eVar 4) (eOpF pAdd 4 (bVar 6))) (gNm [0] 10) dYes (z09 GA [.val (eVar 1),.val (eVar 2),.val (eVar 9),.val (eVar 10)]))))) (z0z r HH) (crSt pd ru n r c HH WW f7 [] none) = .ok .next (crSt pd ru n r c HH WW f7 ((grid F HH WW).map .str) o9):=by
 obtain ⟨δ',e,o9,rfl⟩:=z16 (g:=gNm [0] 9) (b:=(z0A 8 (eC1 (z3k []) (bOf (z2s [10] (z2g (eVar 4) (eOpF pAdd 4 (bVar 6))) (gNm [0] 10) dYes (z09 GA [.val (eVar 1),.val (eVar 2),.val (eVar 9),.val (eVar 10)])))))) (fun k δ=>∃ o9,δ=crSt pd ru n r c HH WW f7 ((grid F k WW).map .str) o9) (z0z r HH) 0 (crSt pd ru n r c HH WW f7 [] none) ⟨none,by simp [grid]⟩ (fun i d δ hd ⟨o9,e⟩=>by
  subst e
  obtain ⟨hi,rfl⟩:=z6C hd
  rw [Wy]
  have hc:=z2i (cs:=[10]) (g:=gNm [0] 10) (t:=dYes) (el:=(z09 GA [.val (eVar 1),.val (eVar 2),.val (eVar 9),.val (eVar 10)])) (fun k:Nat=>D.int ((c:Int) + (k:Nat))) (fun j=>.str [F i j]) (crSt pd ru n r c HH WW f7 ((grid F i WW).map .str) (some (.pure (.int ((r:Int) + (i:Nat)))))) (Wb WW) [] (by rw [z1b]; simp; omega) (fun j hj=>by
   have g1:=ga i j
   refine ⟨_,_,.pure (.str [F i j]),[some (.own pd),some (.pure ru),some (.pure (.str [n])),some (.pure (.int (r:Int))),some (.pure (.int (c:Int))),some (.pure (.int (HH:Int))),some (.pure (.int (WW:Int))),some (.pure f7),some (.own (.lst ((grid F i WW).map .str))),some (.pure (.int ((r:Int) + (i:Nat)))),some (.pure (.int ((c:Int) + (j:Nat))))],rfl,rfl,?_,rfl,rfl⟩
   generalize (grid F i WW).map D.str=GD at *
   generalize D.int ((r:Int) + (i:Nat))=z1 at *
   generalize D.int ((c:Int) + (j:Nat))=z2 at *
   simp [crSt,z09,ios,ndup,z0s,evX,eVar,mkA,g1,putA])
  have hm:(Wb WW).map (fun j=>D.str [F i j])=((Wb WW).map (F i)).map fun n=>D.str [n]:=by simp
  rw [Q0,hm] at hc
  have hj:=z9H ((Wb WW).map (F i)) (by simp; omega)
  have hz:((grid F i WW).map D.str).length < W6:=by rw [z1b]; simp [grid]; omega
  have hE:(grid F (i + 1) WW).map D.str=(grid F i WW).map D.str ++ [.str ((Wb WW).map (F i))]:=by simp [grid,Qf]
  have hw:((c:Int) + (WW:Int) - (c:Int)).toNat=WW:=by omega
  have hrd:(Wb WW).map (fun k:Nat=>D.int ((c:Int) + (k:Nat)))=z0z c WW:=rfl
  rw [hrd] at hc
  refine ⟨_,crSt pd ru n r c HH WW f7 ((grid F (i + 1) WW).map .str) (some (.pure (.int ((r:Int) + (i:Nat))))),rfl,?_,_,rfl⟩
  rw [hE]
  generalize (Wb WW).map (F i)=rw1 at *
  generalize hq:rw1.map (fun n=>D.str [n])=rq at *
  generalize (grid F i WW).map D.str=GD at *
  generalize D.int ((r:Int) + (i:Nat))=z1 at *
  simp [crSt] at hc
  simp [crSt,z0A,z1V,z6H,eVar,eOpF,eOpN,bVar,add_int,hw,z0s,clrD]
  rw [hc]
  simp [z1S,z1V,bVar,hj,putL,hz])
 rw [Wy] at e
 have hl:(z0z r HH).length=HH:=by simp [z0z]
 rw [hl] at e
 exact ⟨o9,e⟩
abbrev B3_ (GA:DF) (GC:DX) (GD:DF) (GF:DF) (GI:DF) (GL:DF) (GS:DX):DS:=dSeq (dAsg (z09 GF [.io 0,.val (eOpF pIx 1 (bOf (eD (.int 0))))]) (gNm [0] 3)) (dSeq (dAsg (z09 GF [.io 0,.val (eOpF pIx 1 (bOf (eD (.int 1))))]) (gNm [0] 4)) (dSeq (dAsg (eOp pAdd (eD (.int 1)) (bOf (eOp z1a (z09 GD [.io 0,.val (eD (.int 5))]) (bOf (eC1 pInt (bOf (eOp pGt (eOpF pIx 1 (bOf (eD (.int 0)))) (bOf (eD (.int 1)))))))))) (gNm [0] 5)) (dSeq (dAsg (eOp pAdd (eD (.int 1)) (bOf (eOp z1a (z09 GD [.io 0,.val (eD (.int 5))]) (bOf (eC1 pInt (bOf (eOp pGt (eOpF pIx 1 (bOf (eD (.int 1)))) (bOf (eD (.int 1)))))))))) (gNm [0] 6)) (dSeq (dAsg (z2t GS [.val (eVar 1),.val (eVar 2),.val (eVar 3),.val (eVar 4)]) (gNm [0] 7)) (dSeq (dIf (dOr (dNot (dTr (z09 GL [.val (eVar 7)]))) (dTr (eOpF pNe 7 (bOf (z09 GA [.val (eVar 1),.val (eVar 2),.val (eVar 3),.val (eVar 4)]))))) (dRet (eD (.bl false))) z1n) (dSeq (dAsg (eLst aNil) (gNm [0] 8)) (dSeq (dFor (z2g (eVar 3) (eOpF pAdd 3 (bVar 5))) (gNm [0] 9) (z0A 8 (eC1 (z3k []) (bOf (z2s [10] (z2g (eVar 4) (eOpF pAdd 4 (bVar 6))) (gNm [0] 10) dYes (z09 GA [.val (eVar 1),.val (eVar 2),.val (eVar 9),.val (eVar 10)])))))) (dRet (z09 GI [.val (z2t GC [.val (eVar 1),.val (eVar 2),.val (eVar 3),.val (eVar 4),.val (eVar 5),.val (eVar 6)]),.val (eC1 z1k (bVar 8))])))))))))
theorem z7B (GF GD GL GA GI:DF) (GS GC:DX) (hd:z4K GD) (ru:D) (n h w:Nat) (x0:pIx ru (.int 0)=some (.pure (.int (h:Int)))) (x1:pIx ru (.int 1)=some (.pure (.int (w:Int))))
  (gf:∀ pd,Pen pd→∀ h:Nat,∃ (r:Nat) (pd':D),r < 10 ^ 40∧(h=1→r=0)∧Pen pd'∧GF [.own pd,.pure (.int (h:Int))]=some (.pure (.int (r:Int)),[.own pd',.pure (.int (h:Int))])) (f:Nat→Nat→Nat)
  (ga:∀ r c:Nat,GA [.pure ru,.pure (.str [n]),.pure (.int (r:Int)),.pure (.int (c:Int))]=some (.pure (.str [f r c]),[.pure ru,.pure (.str [n]),.pure (.int (r:Int)),.pure (.int (c:Int))]))
  (gs:∀ r c:Nat,r < 10 ^ 40→(h=1→r=0)→c < 10 ^ 40→(w=1→c=0)→GS [.pure ru,.pure (.str [n]),.pure (.int (r:Int)),.pure (.int (c:Int))]=some (.inl (.pure (.str [f r c]),[.pure ru,.pure (.str [n]),.pure (.int (r:Int)),.pure (.int (c:Int))])))
  (gc:∀ r c H W:Nat,r < 10 ^ 40→(h=1→r=0∧H=1)→c < 10 ^ 40→(w=1→c=0∧W=1)→0 < H→0 < W→H≤64→W≤64→GC [.pure ru,.pure (.str [n]),.pure (.int (r:Int)),.pure (.int (c:Int)),.pure (.int (H:Int)),.pure (.int (W:Int))]=some (.inl (.pure (flD (grid (fun i j=>f (r + i) (c + j)) H W)),[.pure ru,.pure (.str [n]),.pure (.int (r:Int)),.pure (.int (c:Int)),.pure (.int (H:Int)),.pure (.int (W:Int))])))
  (gl:∀ x:Nat,GL [.pure (.str [x])]=some (.pure (.bl true),[.pure (.str [x])])) (gi:∀ fl:List Tx,fl.length≤1000→GI [.pure (flD fl),.pure (flD fl)]=some (.pure (.bl true),[.pure (flD fl),.pure (flD fl)])) (hpd:Pen pd) :
  ∃ pd',Pen pd'∧gOf [0] 11 (B3_ GA GC GD GF GI GL GS) [.own pd,.pure ru,.pure (.str [n])]=some (.pure (.bl true),[.own pd',.pure ru,.pure (.str [n])]):=by
 obtain ⟨r,pd1,r1,r2,p1,e1⟩:=gf pd hpd h
 obtain ⟨c,pd2,c1,c2,p2,e2⟩:=gf pd1 p1 w
 obtain ⟨H,pd3,H0,H1,H2,p3,e3⟩:=zaH GD hd ru 0 h x0 p2 (some (.pure (.str [n]))) (some (.pure (.int (r:Int)))) (some (.pure (.int (c:Int)))) none none none none none none
 obtain ⟨W,pd4,W0,W1,W2,p4,e4⟩:=zaH GD hd ru 1 w x1 p3 (some (.pure (.str [n]))) (some (.pure (.int (r:Int)))) (some (.pure (.int (c:Int)))) (some (.pure (.int (H:Int)))) none none none none none
 have g1:=gs r c r1 r2 c1 c2
 have g2:=ga r c
 have g3:=gl (f r c)
 have g4:=zg9 (f r c)
 have g5:=gc r c H W r1 (fun z=>⟨r2 z,H2 z⟩) c1 (fun z=>⟨c2 z,W2 z⟩) H0 W0 (by omega) (by omega)
 have g6:=gi (grid (fun i j=>f (r + i) (c + j)) H W) (by rw [(z3H _ _ _).1]; omega)
 obtain ⟨o9,e5⟩:=zda GA ru n r c H W (by omega) (by omega) (fun i j=>f (r + i) (c + j)) (fun i j=>by
  have:=ga (r + i) (c + j)
  rw [Int.natCast_add,Int.natCast_add] at this
  exact this) pd4 (.str [f r c])
 have hw:((r:Int) + (H:Int) - (r:Int)).toNat=H:=by omega
 have tp:z1k (.lst ((grid (fun i j=>f (r + i) (c + j)) H W).map .str))=some (.pure (flD (grid (fun i j=>f (r + i) (c + j)) H W))):=rfl
 refine ⟨pd4,p4,?_⟩
 have K:(B3_ GA GC GD GF GI GL GS) (z0g 11 [.own pd,.pure ru,.pure (.str [n])]) = .ok (.ret (.pure (.bl true))) (crSt pd4 ru n r c H W (.str [f r c]) ((grid (fun i j=>f (r + i) (c + j)) H W).map .str) o9):=by
  refine z0m (δ1:=[some (.own pd1),some (.pure ru),some (.pure (.str [n])),some (.pure (.int (r:Int))),none,none,none,none,none,none,none]) ?_ ?_
  ·generalize D.int (h:Int)=dh at *
   generalize D.int (r:Int)=dr at *
   simp [z0g,dAsg,z09,ios,ndup,z0s,evX,mkA,putA,eOpF,eOpN,bVar,x0,e1]
  refine z0m (δ1:=[some (.own pd2),some (.pure ru),some (.pure (.str [n])),some (.pure (.int (r:Int))),some (.pure (.int (c:Int))),none,none,none,none,none,none]) ?_ ?_
  ·generalize D.int (w:Int)=dh at *
   generalize D.int (c:Int)=dc at *
   generalize D.int (r:Int)=dr at *
   simp [dAsg,z09,ios,ndup,z0s,evX,mkA,putA,eOpF,eOpN,bVar,x1,e2]
  refine z0m (zgD e3 rfl) ?_
  refine z0m (zgD e4 rfl) ?_
  refine z0m (δ1:=[some (.own pd4),some (.pure ru),some (.pure (.str [n])),some (.pure (.int (r:Int))),some (.pure (.int (c:Int))),some (.pure (.int (H:Int))),some (.pure (.int (W:Int))),some (.pure (.str [f r c])),none,none,none]) ?_ ?_
  ·generalize D.int (c:Int)=dc at *
   generalize D.int (r:Int)=dr at *
   generalize D.int (H:Int)=dH at *
   generalize D.int (W:Int)=dW at *
   generalize D.str [f r c]=df at *
   simp [dAsg,z2t,ios,ndup,z0s,evX,mkA,putA,eVar,g1]
  refine z0m (δ1:=[some (.own pd4),some (.pure ru),some (.pure (.str [n])),some (.pure (.int (r:Int))),some (.pure (.int (c:Int))),some (.pure (.int (H:Int))),some (.pure (.int (W:Int))),some (.pure (.str [f r c])),none,none,none]) ?_ ?_
  ·generalize D.int (c:Int)=dc at *
   generalize D.int (r:Int)=dr at *
   generalize D.int (H:Int)=dH at *
   generalize D.int (W:Int)=dW at *
   generalize D.str [f r c]=df at *
   simp [dTr,z09,ios,ndup,z0s,evX,mkA,putA,eVar,bVar,eOpF,eOpN,g2,g3,g4]
  refine z0m (δ1:=crSt pd4 ru n r c H W (.str [f r c]) [] none) rfl ?_
  refine z0m (z56 (ds:=z0z r H) (δ1:=crSt pd4 ru n r c H W (.str [f r c]) [] none) ?_ e5) ?_
  ·simp [crSt,z6H,eVar,eOpF,eOpN,bVar,add_int,hw]
  ·clear e5
   simp only [crSt]
   generalize (grid (fun i j=>f (r + i) (c + j)) H W).map D.str=L at *
   generalize flD (grid (fun i j=>f (r + i) (c + j)) H W)=FL at *
   generalize D.int (c:Int)=dc at *
   generalize D.int (r:Int)=dr at *
   generalize D.int (H:Int)=dH at *
   generalize D.int (W:Int)=dW at *
   simp [crSt,z2t,z09,ios,ndup,z0s,evX,mkA,putA,eVar,bVar,g5,g6,tp]
 rw [z0L,K]
 simp [ioOk,z0H,z0e]
theorem z7A (R:Rul h w bs) (hn:Stil bs n) (hpd:Pen pd):∃ pd',Pen pd'∧z0O [.own pd,.pure (ruD h w bs),.pure (.str [n])]=some (.pure (.bl true),[.own pd',.pure (ruD h w bs),.pure (.str [n])]):=by
 rw [z0O,z22]
 exact z7B z12 z0a z1g z2a z0C z0t z0d z7e (ruD h w bs) n h w (z2f h w bs).1 (z2f h w bs).2.1 (fun pd hp h=>zcw hp h) (far h w bs n 140) (r_at R (z6P hn)) (fun r c a b c' d=>zfl R hn a b c' d)
  (fun r c H W a b c' d e f g k=>zcr R hn a b c' d e f g k) zcu z6D hpd
theorem zez (a b:Nat):pMin (.int a) (.int b)=some (.pure (.int ((min a b:Nat):Int))):=by
 show some (S.pure (.int (if (b:Int) < a then (b:Int) else a)))=_
 congr 2
 split <;> congr 1 <;> omega
theorem cut64 (A:Nat):cutL (Wb A) none (some 64)=Wb (min 64 A):=by
 have e:cutL (Wb A) none (some ((64:Nat):Int))=(Wb A).take (min 64 A):=by
  unfold cutL
  simp [HT.sIx]
 have:(some 64:Option Int)=some ((64:Nat):Int):=rfl
 rw [this,e]
 apply List.ext_getElem
 ·simp
 ·intro i h4 h5
  simp
abbrev nrSt (ru:D) (n:Nat) (FL:D) (o3 o4:Option S):Dl:=[some (.pure ru),some (.pure (.str [n])),some (.pure FL),o3,o4,none]
abbrev B8_ (GS:DX):DS:=dIf (dTr (eOp pNe (z2t GS [.val (eVar 0),.val (eVar 1),.val (eVar 3),.val (eVar 4)]) (bOf (eOp pIx (eOpF pIx 2 (bVar 3)) (bVar 4))))) (dRet (eD (.bl false))) z1n
theorem zex (GS:DX) (ru:D) (n A B:Nat) (FL d0:D) (f:Nat→Nat→Nat) (hA:A≤1000) (hB:B≤1000) (ln:pLen FL=some (.pure (.int (A:Int)))) (r0:pIx FL (.int 0)=some (.pure d0)) (l0:pLen d0=some (.pure (.int (B:Int))))
  (ix:∀ r c:Nat,r < A→c < B→∃ d,pIx FL (.int (r:Int))=some (.pure d)∧pIx d (.int (c:Int))=some (.pure (.str [f r c])))
  (gs:∀ r c:Nat,r < A→c < B→GS [.pure ru,.pure (.str [n]),.pure (.int (r:Int)),.pure (.int (c:Int))]=some (.inl (.pure (.str [f r c]),[.pure ru,.pure (.str [n]),.pure (.int (r:Int)),.pure (.int (c:Int))]))) :
  ∃ o3 o4,(dFor (z0K (eC1 pLen (bVar 2))) (gNm [] 3) (dFor (z0K (eC1 pLen (bOf (eOpF pIx 2 (bOf (eD (.int 0))))))) (gNm [] 4) (B8_ GS))) (nrSt ru n FL none none) = .ok .next (nrSt ru n FL o3 o4):=by
 have inner:∀ (r:Nat) (o4:Option S),r < A→∃ o4',forL (gNm [] 4) (B8_ GS) (z0z 0 B) (nrSt ru n FL (some (.pure (.int (r:Int)))) o4) = .ok .next (nrSt ru n FL (some (.pure (.int (r:Int)))) o4'):=fun r o4 hr=>by
  obtain ⟨δ',e,o4',rfl⟩:=z16 (g:=gNm [] 4) (b:=(B8_ GS)) (fun _ δ=>∃ o4,δ=nrSt ru n FL (some (.pure (.int (r:Int)))) o4) (z0z 0 B) 0 (nrSt ru n FL (some (.pure (.int (r:Int)))) o4) ⟨o4,rfl⟩ (fun i d δ hd ⟨o4,e⟩=>by
   subst e
   obtain ⟨hi,rfl⟩:=z11 hd
   obtain ⟨d,y1,y2⟩:=ix r i hr hi
   have y3:=gs r i hr hi
   have y5:=zg9 (f r i)
   refine ⟨_,nrSt ru n FL (some (.pure (.int (r:Int)))) (some (.pure (.int (i:Int)))),rfl,?_,_,rfl⟩
   generalize D.str [f r i]=x at *
   generalize D.int (r:Int)=dr at *
   generalize D.int (i:Int)=di at *
   simp [nrSt,z2t,ios,ndup,z0s,evX,eVar,mkA,y3,putA,dTr,eOpF,eOpN,bVar,y1,y2,y5])
  exact ⟨o4',e⟩
 obtain ⟨δ',e,o3,o4,rfl⟩:=z16 (g:=gNm [] 3) (b:=(dFor (z0K (eC1 pLen (bOf (eOpF pIx 2 (bOf (eD (.int 0))))))) (gNm [] 4) (B8_ GS))) (fun _ δ=>∃ o3 o4,δ=nrSt ru n FL o3 o4) (z0z 0 A) 0 (nrSt ru n FL none none) ⟨none,none,rfl⟩ (fun i d δ hd ⟨o3,o4,e⟩=>by
  subst e
  obtain ⟨hi,rfl⟩:=z11 hd
  obtain ⟨o4',hin⟩:=inner i o4 hi
  refine ⟨nrSt ru n FL (some (.pure (.int (i:Int)))) o4,nrSt ru n FL (some (.pure (.int (i:Int)))) o4',rfl,z56 (ds:=z0z 0 B) ?_ hin,_,_,rfl⟩
  have hr:=z3a B (by omega) (nrSt ru n FL (some (.pure (.int (i:Int)))) o4)
  generalize D.int (B:Int)=dB at *
  generalize D.int (i:Int)=di at *
  simp [nrSt,eOpF,eOpN,bVar,r0,l0] at hr ⊢
  exact hr)
 refine ⟨o3,o4,z56 (ds:=z0z 0 A) ?_ e⟩
 have hr:=z3a A (by omega) (nrSt ru n FL none none)
 generalize D.int (A:Int)=dA at *
 simp [nrSt,bVar,ln] at hr ⊢
 exact hr
abbrev B14_ (GC:DX) (GI:DF) (GS:DX):DS:=dSeq (dFor (z0K (eC1 pLen (bVar 2))) (gNm [] 3) (dFor (z0K (eC1 pLen (bOf (eOpF pIx 2 (bOf (eD (.int 0))))))) (gNm [] 4) (B8_ GS))) (dRet (z09 GI [.val (z2t GC [.val (eVar 0),.val (eVar 1),.val (eD (.int 0)),.val (eD (.int 0)),.val (eMin (eD (.int 64)) (eC1 pLen (bVar 2))),.val (eD (.int 1))]),.val (eC1 z1k (bOf (z2s [5] (iSq (eSlN 2 z4x (z18 (eD (.int 64))))) (gNm [] 5) dYes (eOpF pIx 5 (bOf (eD (.int 0)))))))]))
theorem zfD (GF GI:DF) (GS GC:DX) (ru:D) (n A B:Nat) (FS:List D) (f:Nat→Nat→Nat) (hA0:0 < A) (hB0:0 < B) (hA:A≤1000) (hB:B≤1000) (gf:GF [.pure ru,.pure (.str [n]),.pure (.int 200)]=some (.own (.lst FS),[.pure ru,.pure (.str [n]),.pure (.int 200)])) (il:pIx (.lst FS) (.int (-1))=some (.pure (flD (grid f A B))))
  (gs:∀ r c:Nat,r < A→c < B→GS [.pure ru,.pure (.str [n]),.pure (.int (r:Int)),.pure (.int (c:Int))]=some (.inl (.pure (.str [f r c]),[.pure ru,.pure (.str [n]),.pure (.int (r:Int)),.pure (.int (c:Int))])))
  (gc:GC [.pure ru,.pure (.str [n]),.pure (.int 0),.pure (.int 0),.pure (.int ((min 64 A:Nat):Int)),.pure (.int 1)]=some (.inl (.pure (flD (grid f (min 64 A) 1)),[.pure ru,.pure (.str [n]),.pure (.int 0),.pure (.int 0),.pure (.int ((min 64 A:Nat):Int)),.pure (.int 1)])))
  (gi:∀ fl:List Tx,fl.length≤1000→GI [.pure (flD fl),.pure (flD fl)]=some (.pure (.bl true),[.pure (flD fl),.pure (flD fl)])) :
  gOf [] 6 (dSeq (dAsg (eOp pIx (z09 GF [.val (eVar 0),.val (eVar 1),.val (eD (.int 200))]) (bOf (eC1 pNeg (bOf (eD (.int 1)))))) (gNm [] 2)) (B14_ GC GI GS)) [.pure ru,.pure (.str [n])]=some (.pure (.bl true),[.pure ru,.pure (.str [n])]):=by
 obtain ⟨d0,r0,l0⟩:=z9x f hA0 hB
 have ln:pLen (flD (grid f A B))=some (.pure (.int (A:Int))):=by rw [z82,(z3H _ _ _).1]
 obtain ⟨o3,o4,e⟩:=zex GS ru n A B (flD (grid f A B)) d0 f hA hB ln r0 l0 (fun r c hr hc=>zeH f hr hc hB) gs
 have g6:=gi (grid f (min 64 A) 1) (by rw [(z3H _ _ _).1]; omega)
 have mn:pMin (.int 64) (.int (A:Int))=some (.pure (.int ((min 64 A:Nat):Int))):=zez 64 A
 have sl:pSl none (some 64) (flD (grid f A B))=some (.pure (.tup ((Wb (min 64 A)).map fun i=>D.str ((Wb B).map (f i))))):=by
  show some (S.pure (.tup (cutL ((grid f A B).map D.str) none (some 64))))=_
  unfold grid
  rw [Qg,z4H,cut64]
  rfl
 have hc:=z2i (cs:=[5]) (g:=gNm [] 5) (t:=dYes) (el:=(eOpF pIx 5 (bOf (eD (.int 0))))) (fun i:Nat=>D.str ((Wb B).map (f i))) (fun i=>D.str [f i 0]) (nrSt ru n (flD (grid f A B)) o3 o4) (Wb (min 64 A)) [] (by rw [z1b]; simp; omega) (fun i hi=>by
  have hz:W6=16777216:=rfl
  have y:pIx (.str ((Wb B).map (f i))) (.int 0)=some (.pure (.str [f i 0])):=by
   have e:atI ((Wb B).map (f i)) 0=some (f i 0):=by
    rw [z1d]
    simp [List.getElem?_range hB0]
   simp [pIx,e]
   omega
  refine ⟨_,_,.pure (.str [f i 0]),[some (.pure ru),some (.pure (.str [n])),some (.pure (flD (grid f A B))),o3,o4,some (.pure (.str ((Wb B).map (f i))))],rfl,rfl,?_,rfl,rfl⟩
  generalize D.str ((Wb B).map (f i))=dr at *
  generalize flD (grid f A B)=FL at *
  simp [nrSt,eOpF,eOpN,bVar,y])
 rw [Q0] at hc
 have tp:z1k (.lst ((Wb (min 64 A)).map fun i=>D.str [f i 0]))=some (.pure (flD (grid f (min 64 A) 1))):=by
  have hq:((Wb (min 64 A)).map fun i=>D.str [f i 0])=(grid f (min 64 A) 1).map D.str:=by
   unfold grid
   rw [Qg]
   exact WY fun i _=>by simp [Qf]
  rw [hq]
  rfl
 have K:(dSeq (dAsg (eOp pIx (z09 GF [.val (eVar 0),.val (eVar 1),.val (eD (.int 200))]) (bOf (eC1 pNeg (bOf (eD (.int 1)))))) (gNm [] 2)) (B14_ GC GI GS)) (z0g 6 [.pure ru,.pure (.str [n])]) = .ok (.ret (.pure (.bl true))) (nrSt ru n (flD (grid f A B)) o3 o4):=by
  refine z0m (δ1:=nrSt ru n (flD (grid f A B)) none none) ?_ ?_
  ·clear e hc g6 gc tp
   generalize flD (grid f A B)=FL at *
   simp [z0g,dAsg,z09,ios,ndup,z0s,evX,mkA,putA,eVar,bVar,pNeg,gf,il]
  refine z0m e ?_
  clear e gf il
  generalize (Wb (min 64 A)).map (fun i=>D.str [f i 0])=L1 at *
  generalize (Wb (min 64 A)).map (fun i=>D.str ((Wb B).map (f i)))=L2 at *
  generalize flD (grid f (min 64 A) 1)=F2 at *
  generalize flD (grid f A B)=FL at *
  generalize D.int ((min 64 A:Nat):Int)=dm at *
  generalize D.int (A:Int)=dA at *
  simp [nrSt] at hc
  simp [nrSt,z2t,z09,ios,ndup,z0s,evX,mkA,putA,eVar,bVar,eMin,ln,mn,gc,eSlN,z4x,z18,sl,z3r,clrD]
  rw [hc]
  simp [z1S,tp,g6,mkA,putA]
 rw [z0L,K]
 simp [ioOk,z0H,z0e]
theorem zft (R:Rul h w bs) (hn:Stil bs n):z0N [.pure (ruD h w bs),.pure (.str [n])]=some (.pure (.bl true),[.pure (ruD h w bs),.pure (.str [n])]):=by
 obtain ⟨m,m7,hm,e⟩:=zcv R (z6P hn)
 have hb:=hm m (Wh _)
 have hA0:0 < h ^ m:=Jh R.h0
 have hB0:0 < w ^ m:=Jh R.w0
 have bA:h ^ m≤200:=WG (QU _ hB0) hb
 have bB:w ^ m≤200:=WG (Nat.le_mul_of_pos_left _ hA0) hb
 have b40:200 < 10 ^ 40:=by decide +kernel
 have one:∀ {k:Nat},k=1→k ^ m=1:=fun z=>by rw [z,Nat.one_pow]
 have hs:∀ r c:Nat,r < h ^ m→c < w ^ m→far h w bs n 140 r c=far h w bs n m r c:=fun r c hr hc=>by
  have:=z60 R.h0 R.w0 (z9o R hn) hr hc (140 - m)
  rw [show m + (140 - m)=140 by omega] at this
  exact this
 rw [z0N,z21]
 refine zfD z1h z0C z0t z0d (ruD h w bs) n (h ^ m) (w ^ m) _ (far h w bs n m) hA0 hB0 (by omega) (by omega) e (z7p _ m) (fun r c hr hc=>?_) ?_ z6D
 ·rw [← hs r c hr hc]
  exact zfl R hn (by omega) (fun z=>by have:=one z; omega) (by omega) (fun z=>by have:=one z; omega)
 ·have q:=zcr R hn (r:=0) (c:=0) (H:=min 64 (h ^ m)) (W:=1) (by omega) (fun z=>⟨rfl,by rw [one z]; rfl⟩) (by omega) (fun z=>⟨rfl,rfl⟩) (by omega) (by decide) (by omega) (by decide)
  have hg:grid (fun i j=>far h w bs n 140 (0 + i) (0 + j)) (min 64 (h ^ m)) 1=grid (far h w bs n m) (min 64 (h ^ m)) 1:=z4Y fun i hi j hj=>by
   rw [Wy,Wy]
   exact hs i j (by omega) (by omega)
  rw [hg] at q
  exact q
theorem zdo (ds:List D) (lo hi:Option Int):pSl lo hi (.lst ds)=some (.own (.lst (cutL ds lo hi))):=rfl
theorem zdC (L:List D) (r:Nat) (h:r < L.length):∃ e ∈ L,pIx (.lst L) (.int r)=some (.pure e):=⟨L[r],QD h,by simp [pIx,z2h,h]⟩
theorem z7n (xs ys:List D) (h:xs.length + ys.length≤100000):pAdd (.lst xs) (.lst ys)=some (.own (.lst (xs ++ ys))):=by
 have hz:W6=16777216:=rfl
 show (if xs.length + ys.length≤W6 then some (S.own (.lst (xs ++ ys))) else none)=_
 rw [if_pos (by omega)]
theorem z8G:pNeg (.int 1)=some (.pure (.int (-1))):=rfl
def tgd (bs:List (Nat×List Tx)):D→Bool
 | .str x=>bs.any fun b=>decide ([b.1]=x)
 | _=>false
theorem zay:∀ (xs l:List Nat),xs.Nodup→(∀ x ∈ xs,x ∈ l)→xs.length≤l.length
 | [],l,_,_=>QM _
 | x :: xs,l,hn,hs=>by
  have hx:=hs x (by simp)
  have hn':=QG.mp hn
  have:=zay xs (l.erase x) hn'.2 (fun y hy=>(List.mem_erase_of_ne (fun e:y=x=>hn'.1 (e ▸ hy))).mpr (hs y (by simp [hy])))
  rw [List.length_erase_of_mem hx] at this
  have:0 < l.length:=List.length_pos_of_mem hx
  simp
  omega
theorem zgl (ts:List Nat) (n:Nat):pIn true (.str [n]) (.lst (ts.map t1D))=some (.pure (.bl (!ts.contains n))):=by
 have e:z2N (ts.map t1D)=some (ts.map fun n=>[n]):=by
  induction ts with
  | nil=>rfl
  | cons a r ih=>simp [z2N] at ih ⊢; exact ih
 have c:(ts.map fun n=>[n]).contains [n]=ts.contains n:=by
  induction ts with
  | nil=>rfl
  | cons a r ih=>simp at ih ⊢
 unfold pIn
 simp only [e]
 rw [← c]
 rfl
theorem z9Z (GT GD:DF) (hd:z4K GD) (R:Rul h w bs) (h6:bs.length≤25) (ru:D) (gt:GT [.pure ru]=some (.own (.lst ((bs.map (·.1)).map t1D)),[.pure ru])) (hpd:Pen pd) :
  ∃ (d pd':D),NX d∧tgd bs d=false∧Pen pd'∧gOf [0] 6 (dSeq (dAsg (z09 GT [.val (eVar 1)]) (gNm [0] 2)) (dSeq (B21_) (dSeq (dAsg (eLst (z0c (eD .non) (z0c (eD (.int 0)) (z0c (eD (.bl true)) (z0c (eD (.str [])) (z0c (eOp z1a (eOpF pIx 2 (bOf (eD (.int 0)))) (bOf (eD (.int 2)))) (z0c (eC1 z6F (bOf (eOpF pIx 2 (bOf (eD (.int 0)))))) aNil))))))) (gNm [0] 4)) (dSeq (B16_) (dRet (eOpF pIx 4 (bOf (z09 GD [.io 0,.val (eD (.int 12))])))))))) [.own pd,.pure ru]=some (.pure d,[.own pd',.pure ru]):=by
 have hlet:∀ n ∈ bs.map (·.1),97≤n∧n≤122:=fun n hn=>by
  obtain ⟨b,hb,rfl⟩:=WE.mp hn
  exact R.let' b hb
 have hno:∀ x:Tx,(∀ n ∈ bs.map (·.1),[n]≠x)→tgd bs (.str x)=false:=fun x hx=>by
  show (bs.any fun b=>decide ([b.1]=x))=false
  rw [Jy]
  intro b hb
  simpa using hx b.1 (WM hb)
 have n0:=R.n0
 have hln:(bs.map (·.1)).length≤25:=by simpa using h6
 obtain ⟨n,rest,hts⟩:∃ n rest,bs.map (·.1)=n :: rest:=by
  cases e:bs.map (·.1) with
  | nil=>have:=congrArg Jd e; simp at this; subst this; simp at n0
  | cons n rest=>exact ⟨n,rest,rfl⟩
 have hn:=hlet n (by rw [hts]; simp)
 -- the letters that are none of them
 have hsome:([97,98,99,100,101,102,103,104,105,106,107,108,109,110,111,112,113,114,115,116,117,118,119,120,121,122]:List Nat).filter (fun m=>!(bs.map (·.1)).contains m)≠[]:=fun e=>by
  have hall:∀ m ∈ ([97,98,99,100,101,102,103,104,105,106,107,108,109,110,111,112,113,114,115,116,117,118,119,120,121,122]:List Nat),m ∈ bs.map (·.1):=fun m hm=>by
   have:=List.filter_eq_nil_iff.mp e m hm
   simpa using this
  have:=zay [97,98,99,100,101,102,103,104,105,106,107,108,109,110,111,112,113,114,115,116,117,118,119,120,121,122] (bs.map (·.1)) (by decide) hall
  have e26:([97,98,99,100,101,102,103,104,105,106,107,108,109,110,111,112,113,114,115,116,117,118,119,120,121,122]:List Nat).length=26:=rfl
  omega
 obtain ⟨d3,pd3,e3,l3,p3⟩:=hd pd 12 hpd (by omega) (by omega)
 have e3':GD [.own pd,.pure (.int 12)]=some (.pure (.int (d3:Int)),[.own pd3,.pure (.int 12)]):=e3
 have hin:=zgl (bs.map (·.1))
 have ec:=z28 (cs:=[5]) (g:=gNm [0] 5) (t:=(dTr (eOp (pIn true) (eVar 5) (bVar 2)))) (el:=eVar 5) (fun m:Nat=>D.str [m]) t1D (fun m=>!(bs.map (·.1)).contains m) [some (.own pd),some (.pure ru),some (.own (.lst ((bs.map (·.1)).map t1D))),none,none,none] [97,98,99,100,101,102,103,104,105,106,107,108,109,110,111,112,113,114,115,116,117,118,119,120,121,122] [] (by rw [z1b]; simp) (fun m hm=>by
  have i:=hin m
  refine ⟨_,[some (.own pd),some (.pure ru),some (.own (.lst ((bs.map (·.1)).map t1D))),none,none,some (.pure (.str [m]))],.pure (t1D m),[some (.own pd),some (.pure ru),some (.own (.lst ((bs.map (·.1)).map t1D))),none,none,some (.pure (.str [m]))],rfl,?_,rfl,rfl,rfl,rfl⟩
  generalize (!(bs.map (·.1)).contains m)=z at *
  generalize D.lst ((bs.map (·.1)).map t1D)=LT at *
  generalize D.str [m]=dm at *
  simp [dTr,eVar,bVar,i])
 have hmem:∀ m ∈ ([97,98,99,100,101,102,103,104,105,106,107,108,109,110,111,112,113,114,115,116,117,118,119,120,121,122]:List Nat).filter (fun m=>!(bs.map (·.1)).contains m),tgd bs (.str [m])=false:=fun m hm=>by
  have:=(Jj.mp hm).2
  refine hno [m] fun k hk e=>?_
  cases e
  rw [List.contains_iff_mem.mpr hk] at this
  cases this
 rw [Q0] at ec
 generalize ([97,98,99,100,101,102,103,104,105,106,107,108,109,110,111,112,113,114,115,116,117,118,119,120,121,122]:List Nat).filter (fun m=>!(bs.map (·.1)).contains m)=S' at *
 obtain ⟨m0,r0,q0⟩:∃ m0 r0,S'=m0 :: r0:=by
  cases S' with
  | nil=>exact absurd rfl hsome
  | cons a b=>exact ⟨a,b,rfl⟩
 obtain ⟨s1,m1,q1⟩:∃ s1 m1,S'=s1 ++ [m1]:=⟨S'.dropLast,S'.getLast hsome,(List.dropLast_concat_getLast hsome).symm⟩
 have t0:=hmem m0 (by rw [q0]; simp)
 have t1:=hmem m1 (by rw [q1]; simp)
 have i0:pIx (.lst (S'.map t1D)) (.int 0)=some (.pure (.str [m0])):=by rw [q0]; simp [pIx,z1d]
 have i1:pIx (.lst (S'.map t1D)) (.int (-1))=some (.pure (.str [m1])):=by
  rw [q1,Jl]
  exact z9t (s1.map t1D) (t1D m1)
 have it:pIx (.lst ((bs.map (·.1)).map t1D)) (.int 0)=some (.pure (.str [n])):=by rw [hts]; simp [pIx,z1d]
 have mu:z1a (.str [n]) (.int 2)=some (.pure (.str [n,n])):=rfl
 have up:z6F (.str [n])=some (.pure (.str [n - 32])):=if_pos hn
 obtain ⟨d,hm,ix⟩:=zdC ([.non,.int 0,.bl true,.str [],.str [n,n],.str [n - 32]] ++ [.lst [.str [n]],.tup [.str [n]],.dct [],.str [m0],.str [m1],.str [49]]) d3 (by simpa using l3)
 have ad:=z7n [.non,.int 0,.bl true,.str [],.str [n,n],.str [n - 32]] [.lst [.str [n]],.tup [.str [n]],.dct [],.str [m0],.str [m1],.str [49]] (by simp)
 have hz:NX d∧tgd bs d=false:=by
  simp only [List.mem_append,Wj,Jb,or_false] at hm
  rcases hm with (rfl | rfl | rfl | rfl | rfl | rfl) | (rfl | rfl | rfl | rfl | rfl | rfl)
  ·exact ⟨trivial,rfl⟩
  ·exact ⟨trivial,rfl⟩
  ·exact ⟨trivial,rfl⟩
  ·exact ⟨trivial,hno _ fun k hk e=>by cases e⟩
  ·exact ⟨trivial,hno _ fun k hk e=>by cases e⟩
  ·exact ⟨trivial,hno _ fun k hk e=>by have:=hlet k hk; injection e; omega⟩
  ·exact ⟨trivial,rfl⟩
  ·exact ⟨trivial,rfl⟩
  ·exact ⟨trivial,rfl⟩
  ·exact ⟨trivial,t0⟩
  ·exact ⟨trivial,t1⟩
  ·exact ⟨trivial,hno _ fun k hk e=>by have:=hlet k hk; injection e; omega⟩
 refine ⟨d,pd3,hz.1,hz.2,p3,?_⟩
 rw [z0L]; unfold B21_ B16_
 clear hz hm t0 t1 hmem hno hlet hsome
 generalize ([.non,.int 0,.bl true,.str [],.str [n,n],.str [n - 32]]:List D) ++ [.lst [.str [n]],.tup [.str [n]],.dct [],.str [m0],.str [m1],.str [49]]=LL at *
 generalize D.str [n,n]=x1 at *
 generalize D.str [n - 32]=x2 at *
 generalize D.str [m0]=x3 at *
 generalize D.str [m1]=x4 at *
 generalize hx5:D.str [n]=x5 at *
 generalize D.lst ((bs.map (·.1)).map t1D)=LT at *
 generalize hS:S'.map t1D=SS at *
 generalize ([97,98,99,100,101,102,103,104,105,106,107,108,109,110,111,112,113,114,115,116,117,118,119,120,121,122]:List Nat)=LE at *
 simp [ioOk,z0g,dAsg,z09,ios,ndup,z0s,evX,mkA,putA,eVar,bVar,gt,z3r,clrD]
 rw [ec]
 simp [z1S,dAsg,zbR,z09,ios,ndup,z0s,evX,mkA,putA,eVar,bVar,eOpF,eOpN,it,mu,up,i0,i1,z8G,ad,e3',ix,z0H,z0e]
theorem z9V (R:Rul h w bs) (h6:bs.length≤25) (hpd:Pen pd):∃ (d pd':D),NX d∧tgd bs d=false∧Pen pd'∧z0X [.own pd,.pure (ruD h w bs)]=some (.pure d,[.own pd',.pure (ruD h w bs)]):=by
 rw [z0X,z2w]
 exact z9Z z0W z0a z7e R h6 _ (z9U R) hpd
theorem zdY (h:tgd bs d=false):sgd bs d=false:=by
 cases d with
 | str x =>
  cases e:sgd bs (.str x) with
  | false=>rfl
  | true =>
   have e:((stl bs).map fun n=>[n]).contains x=true:=e
   simp only [List.contains_iff_mem,WE] at e
   obtain ⟨m,hm,em⟩:=e
   obtain ⟨b,hb,e'⟩:=WE.mp hm
   have h:(bs.any fun b=>decide ([b.1]=x))=false:=h
   rw [Jy] at h
   have:=h b (Jj.mp hb).1
   rw [← em,← e'] at this
   simp at this
 | _=>rfl
theorem zbK (ce:Tx→Nat) (hi:InjC ce) (x:Tx) (hx:x ∈ ys):(ys.find? fun z=>ce z == ce x)=some x:=by
 cases e:ys.find? fun z=>ce z == ce x with
 | none =>
  have:=List.find?_eq_none.mp e x hx
  simp at this
 | some z =>
  have h1:=List.mem_of_find?_eq_some e
  have h2:=List.find?_some e
  rw [hi z h1 x hx (by simpa using h2)]
theorem isC_b (ce:Tx→Nat) (hi:InjC ce) (tab:Tx→Bool) (o1 o2:Option S):eIsC ce ys tab (bVar 0) [some (.pure (.exc (ce z2e))),o1,o2] = .ok (.pure (.bl (tab z2e))) [some (.pure (.exc (ce z2e))),o1,o2]:=by
 have f:=zbK ce hi z2e (by simp [ys])
 generalize ys=YS at *
 simp [eIsC,bVar,f]
theorem zgc (ce:Tx→Nat) (hi:InjC ce):z0p ce [.pure (.exc (ce z2e))]=some (.pure (.str [112,108,97,99,101]),[.pure (.exc (ce z2e))]):=by
 have p1:pAdd (.lst [.bl false,.bl true]) (.lst [.bl false,.bl false])=some (.own (.lst [.bl false,.bl true,.bl false,.bl false])):=rfl
 have p2:pAdd (.lst [.bl false,.bl true,.bl false,.bl false]) (.lst [.bl false,.bl false])=some (.own (.lst [.bl false,.bl true,.bl false,.bl false,.bl false,.bl false])):=rfl
 have p3:pAdd (.lst [.bl false,.bl true,.bl false,.bl false,.bl false,.bl false]) (.lst [.bl false,.bl false])=some (.own (.lst [.bl false,.bl true,.bl false,.bl false,.bl false,.bl false,.bl false,.bl false])):=rfl
 have p4:z5J (.lst [.bl false,.bl true,.bl false,.bl false,.bl false,.bl false,.bl false,.bl false,.bl false])=some (.pure (.int 1)):=rfl
 have p5:z43 (.lst [.bl false,.bl true,.bl false,.bl false,.bl false,.bl false,.bl false,.bl false,.bl false])=some (.pure (.int 1)):=rfl
 have p6:pNe (.int 1) (.int 1)=some (.pure (.bl false)):=rfl
 have p7:pIx (.lst [.str [102,108,111,111,114],.str [112,108,97,99,101],.str [110,117,109,98,101,114],.str [114,111,119],.str [117,110,108,105,107,101],.str [116,105,108,101],.str [114,117,108,101],.str [116,101,120,116],.str [103,114,101,97,116]]) (.int 1)=some (.pure (.str [112,108,97,99,101])):=rfl
 have hz:W6=16777216:=rfl
 rw [z0p,z0L,z24]
 simp [ioOk,z0g,dAsg,isC_b ce hi,eOpF,eOpN,bVar,dTr,p1,p2,p3,z0A,z1V,putL,hz,p4,p5,p6,z3K,p7,z0H,z0e]
theorem isC_f (ce:Tx→Nat) (hi:InjC ce) (tab:Tx→Bool) (o1 o2:Option S):eIsC ce ys tab (bVar 0) [some (.pure (.exc (ce z47))),o1,o2] = .ok (.pure (.bl (tab z47))) [some (.pure (.exc (ce z47))),o1,o2]:=by
 have f:=zbK ce hi z47 (by simp [ys])
 generalize ys=YS at *
 simp [eIsC,bVar,f]
theorem zgb (ce:Tx→Nat) (hi:InjC ce):z0p ce [.pure (.exc (ce z47))]=some (.pure (.str [116,105,108,101]),[.pure (.exc (ce z47))]):=by
 have p1:pAdd (.lst [.bl false,.bl false]) (.lst [.bl false,.bl false])=some (.own (.lst [.bl false,.bl false,.bl false,.bl false])):=rfl
 have p2:pAdd (.lst [.bl false,.bl false,.bl false,.bl false]) (.lst [.bl false,.bl true])=some (.own (.lst [.bl false,.bl false,.bl false,.bl false,.bl false,.bl true])):=rfl
 have p3:pAdd (.lst [.bl false,.bl false,.bl false,.bl false,.bl false,.bl true]) (.lst [.bl false,.bl false])=some (.own (.lst [.bl false,.bl false,.bl false,.bl false,.bl false,.bl true,.bl false,.bl false])):=rfl
 have p4:z5J (.lst [.bl false,.bl false,.bl false,.bl false,.bl false,.bl true,.bl false,.bl false,.bl false])=some (.pure (.int 1)):=rfl
 have p5:z43 (.lst [.bl false,.bl false,.bl false,.bl false,.bl false,.bl true,.bl false,.bl false,.bl false])=some (.pure (.int 5)):=rfl
 have p6:pNe (.int 1) (.int 1)=some (.pure (.bl false)):=rfl
 have p7:pIx (.lst [.str [102,108,111,111,114],.str [112,108,97,99,101],.str [110,117,109,98,101,114],.str [114,111,119],.str [117,110,108,105,107,101],.str [116,105,108,101],.str [114,117,108,101],.str [116,101,120,116],.str [103,114,101,97,116]]) (.int 5)=some (.pure (.str [116,105,108,101])):=rfl
 have hz:W6=16777216:=rfl
 rw [z0p,z0L,z24]
 simp [ioOk,z0g,dAsg,isC_f ce hi,eOpF,eOpN,bVar,dTr,p1,p2,p3,z0A,z1V,putL,hz,p4,p5,p6,z3K,p7,z0H,z0e]
def zar (x:Tx):Tx:=if x=z2e then [112,108,97,99,101] else [116,105,108,101]
theorem z3G (ce:Tx→Nat) (hi:InjC ce) (x:Tx) (hx:x ∈ ys):z0p ce [.pure (.exc (ce x))]=some (.pure (.str (zar x)),[.pure (.exc (ce x))]):=by
 simp only [ys,Wj,Jb,or_false] at hx
 rcases hx with rfl | rfl
 ·exact zgc ce hi
 ·exact zgb ce hi
def told:(S×List S) ⊕ (Tx×List S)→Tx
 | .inl _=>[116,111,108,100]
 | .inr (x,_)=>zar x
theorem ix20 (a b:D):pIx (.tup [a,b]) (.int 0)=some (.pure a):=by simp [pIx,z1d]
theorem ix21 (a b:D):pIx (.tup [a,b]) (.int 1)=some (.pure b):=by simp [pIx,z7l]
theorem z6E (ce:Tx→Nat) (GS GC:DX) (GK:DF) (gk:∀ x ∈ ys,GK [.pure (.exc (ce x))]=some (.pure (.str (zar x)),[.pure (.exc (ce x))])) (way:Nat) (hw:way < 2) (ru tl r c H W:D) (y:(S×List S) ⊕ (Tx×List S))
  (h0:way=0→GS [.pure ru,.pure tl,.pure r,.pure c]=some y∧(match y with | .inl (_,o)=>o | .inr (_,o)=>o)=[.pure ru,.pure tl,.pure r,.pure c]) (h1:way=1→GC [.pure ru,.pure tl,.pure r,.pure c,.pure H,.pure W]=some y∧(match y with | .inl (_,o)=>o | .inr (_,o)=>o)=[.pure ru,.pure tl,.pure r,.pure c,.pure H,.pure W])
  (hy:∀ x o,y = .inr (x,o)→x ∈ ys):gOf [] 6 (dSeq (dTry ce ys 5 (dIf (dTr (eOpF pEq 0 (bOf (eD (.int 0))))) (z6q (z1r GS [.val (eVar 1),.val (eVar 2),.val (eOpF pIx 3 (bOf (eD (.int 0)))),.val (eOpF pIx 3 (bOf (eD (.int 1))))])) (z6q (z1r GC [.val (eVar 1),.val (eVar 2),.val (eOpF pIx 3 (bOf (eD (.int 0)))),.val (eOpF pIx 3 (bOf (eD (.int 1)))),.val (eOpF pIx 4 (bOf (eD (.int 0)))),.val (eOpF pIx 4 (bOf (eD (.int 1))))]))) (dRet (z09 GK [.val (eVar 5)]))) (dRet (eD (.str [116,111,108,100])))) [.pure (.int (way:Int)),.pure ru,.pure tl,.pure (.tup [r,c]),.pure (.tup [H,W])]=some (.pure (.str (told y)),[.pure (.int (way:Int)),.pure ru,.pure tl,.pure (.tup [r,c]),.pure (.tup [H,W])]):=by
 rw [z0L]
 have t0:=ix20 r c
 have t1:=ix21 r c
 have t2:=ix20 H W
 have t3:=ix21 H W
 have e00:pEq (.int 0) (.int 0)=some (.pure (.bl true)):=rfl
 have e10:pEq (.int 1) (.int 0)=some (.pure (.bl false)):=rfl
 have hc:way=0∨way=1:=by omega
 generalize D.tup [r,c]=RC at *
 generalize D.tup [H,W]=HW at *
 rcases hc with rfl | rfl
 ·obtain ⟨g,o⟩:=h0 rfl
  cases y with
  | inl y =>
   obtain ⟨s,os⟩:=y
   simp only at o
   subst o
   simp [ioOk,z0g,dTry,za8,dTr,eOpF,eOpN,z1r,z09,ios,ndup,z0s,evX,mkA,putA,eVar,bVar,e00,t0,t1,t2,t3,g,told,z0H,z0e]
  | inr y =>
   obtain ⟨x,os⟩:=y
   simp only at o
   subst o
   have hx:=hy x _ rfl
   have k:=gk x hx
   generalize ys=YS at *
   simp [ioOk,z0g,dTry,za8,dTr,eOpF,eOpN,z1r,z09,ios,ndup,z0s,evX,mkA,putA,eVar,bVar,unset,e00,t0,t1,t2,t3,g,hx,z2C,k,told,z0H,z0e]
 ·obtain ⟨g,o⟩:=h1 rfl
  cases y with
  | inl y =>
   obtain ⟨s,os⟩:=y
   simp only at o
   subst o
   simp [ioOk,z0g,dTry,za8,dTr,eOpF,eOpN,z1r,z09,ios,ndup,z0s,evX,mkA,putA,eVar,bVar,e10,t0,t1,t2,t3,g,told,z0H,z0e]
  | inr y =>
   obtain ⟨x,os⟩:=y
   simp only at o
   subst o
   have hx:=hy x _ rfl
   have k:=gk x hx
   generalize ys=YS at *
   simp [ioOk,z0g,dTry,za8,dTr,eOpF,eOpN,z1r,z09,ios,ndup,z0s,evX,mkA,putA,eVar,bVar,unset,e10,t0,t1,t2,t3,g,hx,z2C,k,told,z0H,z0e]
section
variable (ce:Tx→Nat) (hi:InjC ce) {h w n:Nat} {bs:List (Nat×List Tx)}
theorem zap:z47 ∈ ys:=by simp [ys]
theorem z6M:z2e ∈ ys:=by simp [ys]
include hi in
theorem zdP (R:Rul h w bs) (way:Nat) (hw:way < 2) (tl r c H W:D) (hd:NX tl) (hz:sgd bs tl=false):z0F ce [.pure (.int (way:Int)),.pure (ruD h w bs),.pure tl,.pure (.tup [r,c]),.pure (.tup [H,W])]=some (.pure (.str [116,105,108,101]),[.pure (.int (way:Int)),.pure (ruD h w bs),.pure tl,.pure (.tup [r,c]),.pure (.tup [H,W])]):=by
 rw [z0F,z2u]
 by_cases hc:way=0
 ·exact z6E ce z0t z0d (z0p ce) (z3G ce hi) way hw _ tl r c H W (.inr (z47,[.pure (ruD h w bs),.pure tl,.pure r,.pure c])) (fun _=>⟨ze2 R tl r c hd hz,rfl⟩) (fun z=>by omega) (fun x o e=>by cases e; exact zap)
 ·exact z6E ce z0t z0d (z0p ce) (z3G ce hi) way hw _ tl r c H W (.inr (z47,[.pure (ruD h w bs),.pure tl,.pure r,.pure c,.pure H,.pure W])) (fun z=>absurd z hc) (fun _=>⟨zaM R tl r c H W hd hz,rfl⟩) (fun x o e=>by cases e; exact zap)
include hi in
theorem z92 (R:Rul h w bs) (hn:Stil bs n) (way:Nat) (hw:way < 2) (r c H W:D) (hr:NX r) (hc:NX c) (hz:(wi (lim h) r && wi (lim w) c)=false):z0F ce [.pure (.int (way:Int)),.pure (ruD h w bs),.pure (.str [n]),.pure (.tup [r,c]),.pure (.tup [H,W])]=some (.pure (.str [112,108,97,99,101]),[.pure (.int (way:Int)),.pure (ruD h w bs),.pure (.str [n]),.pure (.tup [r,c]),.pure (.tup [H,W])]):=by
 rw [z0F,z2u]
 by_cases hc':way=0
 ·exact z6E ce z0t z0d (z0p ce) (z3G ce hi) way hw _ (.str [n]) r c H W (.inr (z2e,[.pure (ruD h w bs),.pure (.str [n]),.pure r,.pure c])) (fun _=>⟨sa_pl R hn r c hr hc hz,rfl⟩) (fun z=>by omega) (fun x o e=>by cases e; exact z6M)
 ·exact z6E ce z0t z0d (z0p ce) (z3G ce hi) way hw _ (.str [n]) r c H W (.inr (z2e,[.pure (ruD h w bs),.pure (.str [n]),.pure r,.pure c,.pure H,.pure W])) (fun z=>absurd z hc') (fun _=>⟨zfk R hn r c H W hr hc hz,rfl⟩) (fun x o e=>by cases e; exact z6M)
def dueT (z:Bool):Tx:=if z then [112,108,97,99,101] else [116,111,108,100]
include hi in
theorem zaw (R:Rul h w bs) (hn:Stil bs n) (H W:Nat) (H0:0 < H) (W0:0 < W) (H1:H≤64) (W1:W≤64) (z:Bool) (hz:if z then (h=1∧1 < H∨w=1∧1 < W) else ((h=1→H=1)∧(w=1→W=1))):z0F ce [.pure (.int 1),.pure (ruD h w bs),.pure (.str [n]),.pure (.tup [.int 0,.int 0]),.pure (.tup [.int (H:Int),.int (W:Int)])]=some (.pure (.str (dueT z)),[.pure (.int 1),.pure (ruD h w bs),.pure (.str [n]),.pure (.tup [.int 0,.int 0]),.pure (.tup [.int (H:Int),.int (W:Int)])]):=by
 have b40:0 < 10 ^ 40:=by decide +kernel
 rw [z0F,z2u]
 cases z with
 | true =>
  have e:=ze1 R hn (r:=0) (c:=0) (H:=H) (W:=W) b40 (fun _=>rfl) b40 (fun _=>rfl) (by simpa using hz)
  exact z6E ce z0t z0d (z0p ce) (z3G ce hi) 1 (by decide) _ (.str [n]) (.int 0) (.int 0) (.int (H:Int)) (.int (W:Int)) _ (fun z=>by cases z) (fun _=>⟨e,rfl⟩) (fun x o e=>by cases e; exact z6M)
 | false =>
  have hz:(h=1→H=1)∧(w=1→W=1):=by simpa using hz
  have e:=zcr R hn (r:=0) (c:=0) (H:=H) (W:=W) b40 (fun z=>⟨rfl,hz.1 z⟩) b40 (fun z=>⟨rfl,hz.2 z⟩) H0 W0 H1 W1
  exact z6E ce z0t z0d (z0p ce) (z3G ce hi) 1 (by decide) _ (.str [n]) (.int 0) (.int 0) (.int (H:Int)) (.int (W:Int)) _ (fun z=>by cases z) (fun _=>⟨e,rfl⟩) (fun x o e=>by cases e)
end
theorem cutm {α:Type} {xs:List α} {lo hi:Option Int} {x:α} (h:x ∈ cutL xs lo hi):x ∈ xs:=List.mem_of_mem_drop (Qx h)
theorem cutl (xs:List α) (lo hi:Option Int):(cutL xs lo hi).length≤xs.length:=by
 unfold cutL
 simp
 omega
theorem ne_s2 (a b:Nat):pNe (.str [a]) (.str [b])=some (.pure (.bl (decide (a≠b)))):=by
 by_cases h:a=b
 ·subst h; simp [pNe,flat,eqD]
 ·simp [pNe,flat,eqD,h]
abbrev rrSt (pd ru tl bad:D) (o4 o5 o6 o7 o8 o9:Option S):Dl:=[some (.own pd),some (.pure ru),some (.pure tl),some (.pure bad),o4,o5,o6,o7,o8,o9,none,none]
theorem zaQ (R:Rul h w bs) (ru:D) (x2:pIx ru (.int 2)=some (.pure (.tup (bs.map blD)))) (pd tl bad:D):(B12_) (rrSt pd ru tl bad none none none none none none) = .ok .next (rrSt pd ru tl bad (some (.own (.lst (((bs.filter fun b=>decide (fst b≠b.1)).map (·.1)).map t1D)))) none none none none none):=by
 have n1:=R.n1
 have e:=z28 (cs:=[10,11]) (g:=(gTp 2 (z0u (gNm [0] 10) (z0u (gNm [0] 11) z2c)))) (t:=(dTr (eOp pNe (eOp pIx (eOpF pIx 11 (bOf (eD (.int 0)))) (bOf (eD (.int 0)))) (bVar 10)))) (el:=eVar 10) blD (fun b:Nat×List Tx=>t1D b.1) (fun b=>decide (fst b≠b.1)) (rrSt pd ru tl bad none none none none none none) bs [] (by rw [z1b]; simp; omega) (fun b hb=>by
  obtain ⟨d,d1,d2⟩:=zdD R hb
  have d3:=ne_s2 (fst b) b.1
  refine ⟨_,[some (.own pd),some (.pure ru),some (.pure tl),some (.pure bad),none,none,none,none,none,none,some (.pure (t1D b.1)),some (.pure (flD b.2))],.pure (t1D b.1),[some (.own pd),some (.pure ru),some (.pure tl),some (.pure bad),none,none,none,none,none,none,some (.pure (t1D b.1)),some (.pure (flD b.2))],rfl,?_,rfl,rfl,rfl,rfl⟩
  generalize decide (fst b≠b.1)=z at *
  generalize flD b.2=fb at *
  generalize D.str [fst b]=d5 at *
  simp [dTr,eOpF,eOpN,bVar,d1,d2,d3])
 rw [Q0] at e
 rw [Qg]
 have hf:((t1D ∘ fun x:Nat×List Tx=>x.1):Nat×List Tx→D)=fun b=>t1D b.1:=rfl
 rw [hf]
 generalize (bs.filter fun b=>decide (fst b≠b.1)).map (fun b:Nat×List Tx=>t1D b.1)=OT at *
 generalize hBD:bs.map blD=BD at *
 simp only [rrSt] at e ⊢
 simp [dAsg,eOpF,eOpN,bVar,x2,z3r,z0s,clrD]
 rw [e]
 simp [z1S]
abbrev Bad (h:Nat) (d:D):Prop:=NX d∧wi (lim h) d=false
theorem zdA (h:Nat):lim h < 10 ^ 40:=by
 unfold lim
 by_cases z:h=1
 ·rw [if_pos z]; decide +kernel
 ·rw [if_neg z]
  generalize (10:Int) ^ 40=B
  omega
theorem zca (h:Nat):Bad h (.int (-1)):=⟨trivial,by simp [wi]⟩
theorem zeY (h s:Nat):Bad h (.int (10 ^ 40 + (s:Int))):=⟨trivial,by
 have:=zdA h
 generalize (10:Int) ^ 40=B at *
 show (decide (0≤B + (s:Int)) && decide (B + (s:Int)≤lim h))=false
 rw [decide_eq_false (show ¬ B + (s:Int)≤lim h by omega),QN]⟩
theorem z9O (h:Nat):Bad h (.int (10 ^ 40)):=⟨trivial,by
 have:=zdA h
 generalize (10:Int) ^ 40=B at *
 show (decide (0≤B) && decide (B≤lim h))=false
 rw [decide_eq_false (show ¬ B≤lim h by omega),QN]⟩
theorem zc9 (hh:h=1) (s:Nat) (hs:0 < s):Bad h (.int (s:Int)):=⟨trivial,by
 show (decide (0≤(s:Int)) && decide ((s:Int)≤lim h))=false
 unfold lim
 rw [if_pos hh,decide_eq_false (show ¬ (s:Int)≤0 by omega),QN]⟩
abbrev odd8 (B:Int) (s:Nat):List D:=[.int (-1),.int B,.int (B + (s:Int)),.bl true,.non,.str [48],.tup [.int 0],.lst [.int 0]]
theorem zcP (h s:Nat):∀ d ∈ odd8 (10 ^ 40) s,Bad h d:=fun d hm=>by
 simp only [odd8,Wj,Jb,or_false] at hm
 rcases hm with rfl | rfl | rfl | rfl | rfl | rfl | rfl | rfl
 ·exact zca h
 ·exact z9O h
 ·exact zeY h s
 ·exact ⟨trivial,rfl⟩
 ·exact ⟨trivial,rfl⟩
 ·exact ⟨trivial,rfl⟩
 ·exact ⟨trivial,rfl⟩
 ·exact ⟨trivial,rfl⟩
theorem zfo (GD:DF) (hd:z4K GD) (hpd:Pen pd) (ru tl bad:D) (o4:Option S) (h:Nat) (x0:pIx ru (.int 0)=some (.pure (.int (h:Int)))) :
  ∃ (s:Nat) (pd1:D),Pen pd1∧(dAsg (eLst (z0c (eC1 pNeg (bOf (eD (.int 1)))) (z0c (eOp pPow (eD (.int 10)) (bOf (eD (.int 40)))) (z0c (eOp pAdd (eOp pPow (eD (.int 10)) (bOf (eD (.int 40)))) (bOf (z09 GD [.io 0,.val (eOp pPow (eD (.int 10)) (bOf (eD (.int 9))))]))) (z0c (eD (.bl true)) (z0c (eD .non) (z0c (eD (.str [48])) (z0c (eD (.tup [.int 0])) (z0c (z3K [.int 0]) aNil))))))))) (gNm [0] 5)) (rrSt pd ru tl bad o4 none none none none none) = .ok .next (rrSt pd1 ru tl bad o4 (some (.own (.lst (odd8 (10 ^ 40) s)))) none none none none) ∧
  ∃ (OD:List D) (pd2:D),Pen pd2∧0 < OD.length∧OD.length≤10∧(∀ d ∈ OD,Bad h d)∧(dIf (dTr (eOp pEq (eOpF pIx 1 (bOf (eD (.int 0)))) (bOf (eD (.int 1))))) (dAsg (eOpF pAdd 5 (bOf (eLst (z0c (eD (.int 1)) (z0c (eOp pAdd (eD (.int 2)) (bOf (z09 GD [.io 0,.val (eOp pPow (eD (.int 10)) (bOf (eD (.int 9))))]))) aNil))))) (gNm [0] 5)) z1n) (rrSt pd1 ru tl bad o4 (some (.own (.lst (odd8 (10 ^ 40) s)))) none none none none) = .ok .next (rrSt pd2 ru tl bad o4 (some (.own (.lst OD))) none none none none):=by
 have p9:pPow (.int 10) (.int 9)=some (.pure (.int 1000000000)):=rfl
 have p40:=zei
 obtain ⟨s,pd1,e1,l1,q1⟩:=hd pd 1000000000 hpd (by omega) (by omega)
 have e1':GD [.own pd,.pure (.int 1000000000)]=some (.pure (.int (s:Int)),[.own pd1,.pure (.int 1000000000)]):=e1
 have ad:=add_int (10 ^ 40) (s:Int)
 have hb:=zcP h s
 generalize (10:Int) ^ 40=B at *
 refine ⟨s,pd1,q1,?_,?_⟩
 ·simp only [odd8]
  generalize D.int (B + (s:Int))=dBs at *
  generalize D.int B=dB at *
  generalize D.int (s:Int)=ds at *
  generalize D.int 1000000000=d9 at *
  simp [rrSt,dAsg,z09,ios,ndup,z0s,evX,mkA,putA,eVar,bVar,z8G,p40,p9,e1',ad,z3K]
 ·have q:=z3t (h:Int) 1
  by_cases h1:h=1
  ·have:((h:Int) == 1)=true:=by simp; omega
   rw [this] at q
   obtain ⟨u,pd2,e2,l2,q2⟩:=hd pd1 1000000000 q1 (by omega) (by omega)
   have e2':GD [.own pd1,.pure (.int 1000000000)]=some (.pure (.int (u:Int)),[.own pd2,.pure (.int 1000000000)]):=e2
   have a2:pAdd (.int 2) (.int (u:Int))=some (.pure (.int ((2 + u:Nat):Int))):=by rw [add_int]; congr 3
   have al:=z7n (odd8 B s) [.int 1,.int ((2 + u:Nat):Int)] (by simp)
   refine ⟨odd8 B s ++ [.int 1,.int ((2 + u:Nat):Int)],pd2,q2,by simp,by simp,fun d hm=>?_,?_⟩
   ·rcases Qt.mp hm with hm | hm
    ·exact hb d hm
    ·simp only [Wj,Jb,or_false] at hm
     rcases hm with rfl | rfl
     ·exact zc9 h1 1 (by decide)
     ·exact zc9 h1 (2 + u) (by omega)
   ·clear hb
    generalize odd8 B s ++ [.int 1,.int ((2 + u:Nat):Int)]=L2 at *
    generalize odd8 B s=L1 at *
    generalize D.int ((2 + u:Nat):Int)=d2u at *
    generalize D.int (u:Int)=du at *
    generalize D.int (h:Int)=dh at *
    generalize D.int 1000000000=d9 at *
    simp [rrSt,dAsg,dTr,z09,ios,ndup,z0s,evX,mkA,putA,eVar,bVar,eOpF,eOpN,x0,q,p9,e2',a2,al]
  ·have:((h:Int) == 1)=false:=by simp; omega
   rw [this] at q
   refine ⟨odd8 B s,pd1,q1,by simp,by simp,hb,?_⟩
   clear hb
   generalize odd8 B s=L1 at *
   generalize D.int (h:Int)=dh at *
   simp [rrSt,dTr,eOpF,eOpN,bVar,x0,q]
theorem zfL (w:Nat):∀ r:Nat,r < 3→∃ d,Bad w d∧pIx (.lst [.int (-1),.int (10 ^ 40),.non]) (.int (r:Int))=some (.pure d):=by
 intro r hr
 have:r=0∨r=1∨r=2:=by omega
 rcases this with rfl | rfl | rfl
 ·exact ⟨_,zca w,rfl⟩
 ·exact ⟨_,z9O w,by generalize (10:Int) ^ 40=B; rfl⟩
 ·exact ⟨.non,⟨trivial,rfl⟩,rfl⟩
abbrev B20_ (GT:DF):DS:=dIf (dTr (eOp pNe (z09 GT [.val (eVar 7),.val (eVar 1),.val (eVar 8),.val (eTup (z0c (eVar 6) (z0c (eD (.int 0)) aNil))),.val (eD (.tup [.int 1,.int 1]))]) (bOf (eD (.str [116,105,108,101]))))) (dRet (eD (.bl false))) z1n
abbrev B0_ (GD:DF) (GT:DF):DS:=dSeq (dFor (iSq (eOp pAdd (eLst (z0c (eVar 3) aNil)) (bOf (eSlN 4 z4x (z18 (eD (.int 1))))))) (gNm [0] 8) (B20_ GT)) (dSeq (dIf (dTr (eOp pNe (z09 GT [.val (eVar 7),.val (eVar 1),.val (eVar 2),.val (eTup (z0c (eVar 6) (z0c (eD (.int 0)) aNil))),.val (eD (.tup [.int 1,.int 1]))]) (bOf (eD (.str [112,108,97,99,101]))))) (dRet (eD (.bl false))) z1n) (dIf (dTr (eOp pNe (z09 GT [.val (eVar 7),.val (eVar 1),.val (eVar 2),.val (eTup (z0c (eD (.int 0)) (z0c (eOp pIx (eLst (z0c (eC1 pNeg (bOf (eD (.int 1)))) (z0c (eOp pPow (eD (.int 10)) (bOf (eD (.int 40)))) (z0c (eD .non) aNil)))) (bOf (z09 GD [.io 0,.val (eD (.int 3))]))) aNil))),.val (eD (.tup [.int 1,.int 1]))]) (bOf (eD (.str [112,108,97,99,101]))))) (dRet (eD (.bl false))) z1n))
theorem ze4 (GD GT:DF) (hd:z4K GD) (ru tl bad fr:D) (OT OD:List D) (h w:Nat) (bs:List (Nat×List Tx)) (hbad:NX bad∧sgd bs bad=false) (hOT:∀ d ∈ OT,NX d∧sgd bs d=false) (lOT:OT.length≤1000) (hfr:Bad h fr)
  (g1:∀ way:Nat,way < 2→∀ one:D,NX one∧sgd bs one=false→GT [.pure (.int (way:Int)),.pure ru,.pure one,.pure (.tup [fr,.int 0]),.pure (.tup [.int 1,.int 1])]=some (.pure (.str [116,105,108,101]),[.pure (.int (way:Int)),.pure ru,.pure one,.pure (.tup [fr,.int 0]),.pure (.tup [.int 1,.int 1])]))
  (g2:∀ way:Nat,way < 2→GT [.pure (.int (way:Int)),.pure ru,.pure tl,.pure (.tup [fr,.int 0]),.pure (.tup [.int 1,.int 1])]=some (.pure (.str [112,108,97,99,101]),[.pure (.int (way:Int)),.pure ru,.pure tl,.pure (.tup [fr,.int 0]),.pure (.tup [.int 1,.int 1])]))
  (g3:∀ way:Nat,way < 2→∀ c:D,Bad w c→GT [.pure (.int (way:Int)),.pure ru,.pure tl,.pure (.tup [.int 0,c]),.pure (.tup [.int 1,.int 1])]=some (.pure (.str [112,108,97,99,101]),[.pure (.int (way:Int)),.pure ru,.pure tl,.pure (.tup [.int 0,c]),.pure (.tup [.int 1,.int 1])]))
  (hpd:Pen pd):∃ (pd':D) (o7 o8:Option S),Pen pd'∧(dFor (z0K (eD (.int 2))) (gNm [0] 7) (B0_ GD GT)) (rrSt pd ru tl bad (some (.own (.lst OT))) (some (.own (.lst OD))) (some (.pure fr)) none none none) = .ok .next (rrSt pd' ru tl bad (some (.own (.lst OT))) (some (.own (.lst OD))) (some (.pure fr)) o7 o8 none):=by
 have k1:pNe (.str [116,105,108,101]) (.str [116,105,108,101])=some (.pure (.bl false)):=rfl
 have k2:pNe (.str [112,108,97,99,101]) (.str [112,108,97,99,101])=some (.pure (.bl false)):=rfl
 have p40:=zei
 obtain ⟨δ',e,pd',o7,o8,hp,rfl⟩:=z16 (g:=gNm [0] 7) (b:=(B0_ GD GT)) (fun _ δ=>∃ (pd:D) (o7 o8:Option S),Pen pd∧δ=rrSt pd ru tl bad (some (.own (.lst OT))) (some (.own (.lst OD))) (some (.pure fr)) o7 o8 none) (z0z 0 2) 0 (rrSt pd ru tl bad (some (.own (.lst OT))) (some (.own (.lst OD))) (some (.pure fr)) none none none) ⟨pd,none,none,hpd,rfl⟩ (fun i d δ hdd ⟨pd,o7,o8,hp,e⟩=>by
  subst e
  obtain ⟨hi,rfl⟩:=z11 hdd
  obtain ⟨u,pd1,e1,l1,q1⟩:=hd pd 3 hp (by omega) (by omega)
  have e1':GD [.own pd,.pure (.int 3)]=some (.pure (.int (u:Int)),[.own pd1,.pure (.int 3)]):=e1
  obtain ⟨c,hc,ec⟩:=zfL w u l1
  have t2:=g2 i hi
  have t3:=g3 i hi c hc
  have t1:=g1 i hi
  -- the inner loop
  obtain ⟨δ',e,o8',rfl⟩:=z16 (g:=gNm [0] 8) (b:=(B20_ GT)) (fun _ δ=>∃ o8:Option S,δ=rrSt pd ru tl bad (some (.own (.lst OT))) (some (.own (.lst OD))) (some (.pure fr)) (some (.pure (.int (i:Int)))) o8 none) (bad :: cutL OT none (some 1)) 0 (rrSt pd ru tl bad (some (.own (.lst OT))) (some (.own (.lst OD))) (some (.pure fr)) (some (.pure (.int (i:Int)))) o8 none) ⟨o8,rfl⟩ (fun j d δ hdd ⟨o8,e⟩=>by
   subst e
   have hdm:=WB hdd
   have hk:NX d∧sgd bs d=false:=by
    rcases Wj.mp hdm with rfl | hm
    ·exact hbad
    ·exact hOT d (cutm hm)
   have t:=t1 d hk
   refine ⟨_,rrSt pd ru tl bad (some (.own (.lst OT))) (some (.own (.lst OD))) (some (.pure fr)) (some (.pure (.int (i:Int)))) (some (.pure d)) none,rfl,?_,_,rfl⟩
   unfold B20_
   generalize D.int (i:Int)=di at *
   generalize D.str [116,105,108,101]=dt at *
   simp [rrSt,dTr,z09,ios,ndup,z0s,evX,mkA,putA,eVar,bVar,t,k1])
  refine ⟨rrSt pd ru tl bad (some (.own (.lst OT))) (some (.own (.lst OD))) (some (.pure fr)) (some (.pure (.int (i:Int)))) o8 none,rrSt pd1 ru tl bad (some (.own (.lst OT))) (some (.own (.lst OD))) (some (.pure fr)) (some (.pure (.int (i:Int)))) o8' none,rfl,?_,pd1,_,_,q1,rfl⟩
  have sl:=zdo OT none (some 1)
  have hle:=cutl OT none (some 1)
  have al:=z7n [bad] (cutL OT none (some 1)) (by simp; omega)
  rw [List.singleton_append] at al
  refine z0m (z56 (ds:=bad :: cutL OT none (some 1)) ?_ e) ?_
  ·clear e
   generalize bad :: cutL OT none (some 1)=L3 at *
   generalize cutL OT none (some 1)=L4 at *
   generalize D.int (i:Int)=di at *
   simp [rrSt,z3r,eSlN,z4x,z18,eVar,bVar,sl,al]
  ·clear e t1 g1 g2 g3 sl al
   generalize D.int (i:Int)=di at *
   generalize D.str [112,108,97,99,101]=dp at *
   generalize (10:Int) ^ 40=B at *
   generalize D.int (u:Int)=du at *
   refine z0m (δ1:=rrSt pd ru tl bad (some (.own (.lst OT))) (some (.own (.lst OD))) (some (.pure fr)) (some (.pure di)) o8' none) ?_ ?_
   ·simp [rrSt,dTr,z09,ios,ndup,z0s,evX,mkA,putA,eVar,bVar,t2,k2]
   ·simp [rrSt,dTr,z09,ios,ndup,z0s,evX,mkA,putA,eVar,bVar,z8G,p40,e1',ec,t3,k2])
 refine ⟨pd',o7,o8,hp,z56 (ds:=z0z 0 2) ?_ e⟩
 have hr:=z3a 2 (by omega) (rrSt pd ru tl bad (some (.own (.lst OT))) (some (.own (.lst OD))) (some (.pure fr)) none none none)
 simpa using hr
abbrev B1_ (GD:DF) (GO:DF) (GT:DF):DS:=dSeq (dAsg (z09 GO [.io 0,.val (eVar 1)]) (gNm [0] 3)) (dSeq (B12_) (dSeq (dAsg (eLst (z0c (eC1 pNeg (bOf (eD (.int 1)))) (z0c (eOp pPow (eD (.int 10)) (bOf (eD (.int 40)))) (z0c (eOp pAdd (eOp pPow (eD (.int 10)) (bOf (eD (.int 40)))) (bOf (z09 GD [.io 0,.val (eOp pPow (eD (.int 10)) (bOf (eD (.int 9))))]))) (z0c (eD (.bl true)) (z0c (eD .non) (z0c (eD (.str [48])) (z0c (eD (.tup [.int 0])) (z0c (z3K [.int 0]) aNil))))))))) (gNm [0] 5)) (dSeq (dIf (dTr (eOp pEq (eOpF pIx 1 (bOf (eD (.int 0)))) (bOf (eD (.int 1))))) (dAsg (eOpF pAdd 5 (bOf (eLst (z0c (eD (.int 1)) (z0c (eOp pAdd (eD (.int 2)) (bOf (z09 GD [.io 0,.val (eOp pPow (eD (.int 10)) (bOf (eD (.int 9))))]))) aNil))))) (gNm [0] 5)) z1n) (dSeq (dAsg (eOpF pIx 5 (bOf (z09 GD [.io 0,.val (eC1 pLen (bVar 5))]))) (gNm [0] 6)) (dSeq (dFor (z0K (eD (.int 2))) (gNm [0] 7) (B0_ GD GT)) (dSeq (dAsg (z3K [.str [116,111,108,100],.str [112,108,97,99,101]]) (gNm [0] 9)) (dSeq (dIf (dTr (eOp pNe (z09 GT [.val (eD (.int 1)),.val (eVar 1),.val (eVar 2),.val (eD (.tup [.int 0,.int 0])),.val (eD (.tup [.int 2,.int 1]))]) (bOf (eOpF pIx 9 (bOf (eC1 pInt (bOf (eOp pEq (eOpF pIx 1 (bOf (eD (.int 0)))) (bOf (eD (.int 1))))))))))) (dRet (eD (.bl false))) z1n) (dRet (eOp pEq (z09 GT [.val (eD (.int 1)),.val (eVar 1),.val (eVar 2),.val (eD (.tup [.int 0,.int 0])),.val (eD (.tup [.int 1,.int 2]))]) (bOf (eOpF pIx 9 (bOf (eC1 pInt (bOf (eOp pEq (eOpF pIx 1 (bOf (eD (.int 1)))) (bOf (eD (.int 1))))))))))))))))))
theorem z5H (GO GD GT:DF) (hd:z4K GD) (ru:D) (n h w:Nat) (bs:List (Nat×List Tx)) (R:Rul h w bs) (x0:pIx ru (.int 0)=some (.pure (.int (h:Int)))) (x1:pIx ru (.int 1)=some (.pure (.int (w:Int)))) (x2:pIx ru (.int 2)=some (.pure (.tup (bs.map blD))))
  (go:∀ pd,Pen pd→∃ (d pd':D),NX d∧sgd bs d=false∧Pen pd'∧GO [.own pd,.pure ru]=some (.pure d,[.own pd',.pure ru]))
  (g1:∀ fr:D,∀ way:Nat,way < 2→∀ one:D,NX one∧sgd bs one=false→GT [.pure (.int (way:Int)),.pure ru,.pure one,.pure (.tup [fr,.int 0]),.pure (.tup [.int 1,.int 1])]=some (.pure (.str [116,105,108,101]),[.pure (.int (way:Int)),.pure ru,.pure one,.pure (.tup [fr,.int 0]),.pure (.tup [.int 1,.int 1])]))
  (g2:∀ fr:D,Bad h fr→∀ way:Nat,way < 2→GT [.pure (.int (way:Int)),.pure ru,.pure (.str [n]),.pure (.tup [fr,.int 0]),.pure (.tup [.int 1,.int 1])]=some (.pure (.str [112,108,97,99,101]),[.pure (.int (way:Int)),.pure ru,.pure (.str [n]),.pure (.tup [fr,.int 0]),.pure (.tup [.int 1,.int 1])]))
  (g3:∀ way:Nat,way < 2→∀ c:D,Bad w c→GT [.pure (.int (way:Int)),.pure ru,.pure (.str [n]),.pure (.tup [.int 0,c]),.pure (.tup [.int 1,.int 1])]=some (.pure (.str [112,108,97,99,101]),[.pure (.int (way:Int)),.pure ru,.pure (.str [n]),.pure (.tup [.int 0,c]),.pure (.tup [.int 1,.int 1])]))
  (g4:GT [.pure (.int 1),.pure ru,.pure (.str [n]),.pure (.tup [.int 0,.int 0]),.pure (.tup [.int 2,.int 1])]=some (.pure (.str (dueT ((h:Int) == 1))),[.pure (.int 1),.pure ru,.pure (.str [n]),.pure (.tup [.int 0,.int 0]),.pure (.tup [.int 2,.int 1])]))
  (g5:GT [.pure (.int 1),.pure ru,.pure (.str [n]),.pure (.tup [.int 0,.int 0]),.pure (.tup [.int 1,.int 2])]=some (.pure (.str (dueT ((w:Int) == 1))),[.pure (.int 1),.pure ru,.pure (.str [n]),.pure (.tup [.int 0,.int 0]),.pure (.tup [.int 1,.int 2])]))
  (hpd:Pen pd):∃ pd',Pen pd'∧gOf [0] 12 (B1_ GD GO GT) [.own pd,.pure ru,.pure (.str [n])]=some (.pure (.bl true),[.own pd',.pure ru,.pure (.str [n])]):=by
 have n1:=R.n1
 obtain ⟨bad,pd1,b1,b2,q1,e1⟩:=go pd hpd
 have hOT:∀ d ∈ ((bs.filter fun b=>decide (fst b≠b.1)).map (·.1)).map t1D,NX d∧sgd bs d=false:=fun d hm=>by
  obtain ⟨m,hm1,rfl⟩:=WE.mp hm
  obtain ⟨b,hb,rfl⟩:=WE.mp hm1
  have hf:=Jj.mp hb
  exact ⟨trivial,zfd R hf.1 (by simpa using hf.2)⟩
 have lOT:(((bs.filter fun b=>decide (fst b≠b.1)).map (·.1)).map t1D).length≤1000:=by
  have:=List.length_filter_le (fun b:Nat×List Tx=>decide (fst b≠b.1)) bs
  simp only [Qd]
  omega
 have f1:=zaQ R ru x2 pd1 (.str [n]) bad
 generalize ((bs.filter fun b=>decide (fst b≠b.1)).map (·.1)).map t1D=OT at *
 obtain ⟨s,pd2,q2,f2,OD,pd3,q3,o0,o1,o2,f3⟩:=zfo GD hd q1 ru (.str [n]) bad (some (.own (.lst OT))) h x0
 obtain ⟨u,pd4,e4,l4,q4⟩:=hd pd3 OD.length q3 o0 (by omega)
 obtain ⟨fr,hfr,ix⟩:=zdC OD u l4
 have hbf:=o2 fr hfr
 obtain ⟨pd5,o7,o8,q5,f5⟩:=ze4 GD GT hd ru (.str [n]) bad fr OT OD h w bs ⟨b1,b2⟩ hOT lOT hbf (g1 fr) (g2 fr hbf) g3 q4
 have ll:pLen (.lst OD)=some (.pure (.int (OD.length:Int))):=rfl
 have r0:=z3t (h:Int) 1
 have r1:=z3t (w:Int) 1
 have i0:pInt (.bl false)=some (.pure (.int 0)):=rfl
 have i1:pInt (.bl true)=some (.pure (.int 1)):=rfl
 have v0:pIx (.lst [.str [116,111,108,100],.str [112,108,97,99,101]]) (.int 0)=some (.pure (.str [116,111,108,100])):=rfl
 have v1:pIx (.lst [.str [116,111,108,100],.str [112,108,97,99,101]]) (.int 1)=some (.pure (.str [112,108,97,99,101])):=rfl
 have w0:pNe (.str [116,111,108,100]) (.str [116,111,108,100])=some (.pure (.bl false)):=rfl
 have w1:pNe (.str [112,108,97,99,101]) (.str [112,108,97,99,101])=some (.pure (.bl false)):=rfl
 have y0:pEq (.str [116,111,108,100]) (.str [116,111,108,100])=some (.pure (.bl true)):=rfl
 have y1:pEq (.str [112,108,97,99,101]) (.str [112,108,97,99,101])=some (.pure (.bl true)):=rfl
 refine ⟨pd5,q5,?_⟩
 have K:(B1_ GD GO GT) (z0g 12 [.own pd,.pure ru,.pure (.str [n])]) = .ok (.ret (.pure (.bl true))) (rrSt pd5 ru (.str [n]) bad (some (.own (.lst OT))) (some (.own (.lst OD))) (some (.pure fr)) o7 o8 (some (.own (.lst [.str [116,111,108,100],.str [112,108,97,99,101]])))):=by
  refine z0m (δ1:=rrSt pd1 ru (.str [n]) bad none none none none none none) ?_ ?_
  ·simp [z0g,rrSt,dAsg,z09,ios,ndup,z0s,evX,mkA,putA,eVar,e1]
  refine z0m f1 ?_
  refine z0m f2 ?_
  refine z0m f3 ?_
  refine z0m (δ1:=rrSt pd4 ru (.str [n]) bad (some (.own (.lst OT))) (some (.own (.lst OD))) (some (.pure fr)) none none none) ?_ ?_
  ·generalize D.int (OD.length:Int)=dl at *
   generalize D.int (u:Int)=du at *
   simp [rrSt,dAsg,z09,ios,ndup,z0s,evX,mkA,putA,eVar,bVar,eOpF,eOpN,ll,e4,ix]
  refine z0m f5 ?_
  refine z0m (δ1:=rrSt pd5 ru (.str [n]) bad (some (.own (.lst OT))) (some (.own (.lst OD))) (some (.pure fr)) o7 o8 (some (.own (.lst [.str [116,111,108,100],.str [112,108,97,99,101]])))) ?_ ?_
  ·simp [rrSt,dAsg,z3K]
  clear f1 f2 f3 f5 g1 g2 g3 hOT hbf hfr o2 ix
  unfold dueT at g4 g5
  generalize ((h:Int) == 1)=z1 at *
  generalize ((w:Int) == 1)=z2 at *
  generalize D.int (h:Int)=dh at *
  generalize D.int (w:Int)=dw at *
  generalize D.lst [.str [116,111,108,100],.str [112,108,97,99,101]]=DL at *
  generalize D.tup [.int 0,.int 0]=d00 at *
  generalize D.tup [.int 2,.int 1]=d21 at *
  generalize D.tup [.int 1,.int 2]=d12 at *
  cases z1 <;> cases z2 <;> simp at g4 g5 <;> simp [rrSt,dTr,z09,ios,ndup,z0s,evX,mkA,putA,eVar,bVar,eOpF,eOpN,x0,x1,r0,r1,i0,i1,v0,v1,w0,w1,y0,y1,g4,g5]
 rw [z0L,K]
 simp [ioOk,z0H,z0e]
theorem z5G (ce:Tx→Nat) (hi:InjC ce) (R:Rul h w bs) (h6:bs.length≤25) (hn:Stil bs n) (hpd:Pen pd):∃ pd',Pen pd'∧z0B ce [.own pd,.pure (ruD h w bs),.pure (.str [n])]=some (.pure (.bl true),[.own pd',.pure (ruD h w bs),.pure (.str [n])]):=by
 have c2:(((2:Nat):Int))=2:=rfl
 have c1:(((1:Nat):Int))=1:=rfl
 rw [z0B,z1B]
 refine z5H z0X z0a (z0F ce) z7e (ruD h w bs) n h w bs R (z2f h w bs).1 (z2f h w bs).2.1 (z2f h w bs).2.2 (fun pd hp=>?_) (fun fr way hw one ho=>zdP ce hi R way hw one fr (.int 0) (.int 1) (.int 1) ho.1 ho.2)
  (fun fr hf way hw=>z92 ce hi R hn way hw fr (.int 0) (.int 1) (.int 1) hf.1 trivial (by rw [hf.2]; rfl)) (fun way hw c hc=>z92 ce hi R hn way hw (.int 0) c (.int 1) (.int 1) trivial hc.1 (by rw [hc.2]; exact QN _)) ?_ ?_ hpd
 ·obtain ⟨d,pd',a,b,c,e⟩:=z9V R h6 hp
  exact ⟨d,pd',a,zdY b,c,e⟩
 ·refine zaw ce hi R hn 2 1 (by decide) (by decide) (by decide) (by decide) ((h:Int) == 1) ?_
  by_cases z:h=1
  ·rw [show ((h:Int) == 1)=true by simp; omega]
   exact .inl ⟨z,by decide⟩
  ·rw [show ((h:Int) == 1)=false by simp; omega]
   exact ⟨fun y=>absurd y z,fun _=>rfl⟩
 ·refine zaw ce hi R hn 1 2 (by decide) (by decide) (by decide) (by decide) ((w:Int) == 1) ?_
  by_cases z:w=1
  ·rw [show ((w:Int) == 1)=true by simp; omega]
   exact .inr ⟨z,by decide⟩
  ·rw [show ((w:Int) == 1)=false by simp; omega]
   exact ⟨fun _=>rfl,fun y=>absurd y z⟩
theorem zea (GR:DF) (m:Nat) (R:Rul h w bs) (gr:GR [.own pd,.pure (.int m)]=some (.pure (ruD h w bs),[.own pd',.pure (.int m)])) :
  ∃ n bs',Rul h w bs'∧(∃ b ∈ bs',b.1=n∧fst b=n)∧bs'.length=bs.length∧gOf [0] 7 (dSeq (dAsg (z09 GR [.io 0,.val (eVar 1)]) (gTp 3 (z0u (gNm [0] 2) (z0u (gNm [0] 3) (z0u (gNm [0] 4) z2c))))) (B11_)) [.own pd,.pure (.int m)]=some (.pure (.tup [ruD h w bs',.str [n]]),[.own pd',.pure (.int m)]):=by
 have h1:=R.h1
 have n1:=R.n1
 have w1:=R.w1
 match bs,R,n1,gr with
 | [],R,n1,gr=>have:=R.n0; simp at this
 | (n,[]) :: q,R,n1,gr=>have z:=(R.blk _ Wi).1; have z0:=R.h0; simp at z; omega
 | (n,x :: fl) :: q,R,n1,gr =>
  have hxl:=(R.blk _ Wi).2 x Wi
  have hfl:=(R.blk _ Wi).1
  simp only at hxl hfl
  have i0:pIx (.tup (((n,x :: fl) :: q).map blD)) (.int 0)=some (.pure (blD (n,x :: fl))):=by simp [pIx,z1d]
  have i1:pIx (flD (x :: fl)) (.int 0)=some (.pure (.str x)):=by simp [pIx,z1d]
  have s1:=zaG x (by omega)
  have a1:pAdd (.str [n]) (.str x.tail)=some (.pure (.str (n :: x.tail))):=add_str [n] x.tail (by simp; omega)
  have s2:pSl (some 1) none (flD (x :: fl))=some (.pure (.tup (fl.map .str))):=z8o ((x :: fl).map D.str)
  have a2:pAdd (.tup [.str (n :: x.tail)]) (.tup (fl.map .str))=some (.pure (flD ((n :: x.tail) :: fl))):=z8W [.str (n :: x.tail)] (fl.map .str) (by simp at hfl ⊢; omega)
  have s3:pSl (some 1) none (.tup (((n,x :: fl) :: q).map blD))=some (.pure (.tup (q.map blD))):=z8o (((n,x :: fl) :: q).map blD)
  have a3:pAdd (.tup [.tup [.str [n],flD ((n :: x.tail) :: fl)]]) (.tup (q.map blD))=some (.pure (.tup ((fixB ((n,x :: fl) :: q)).map blD))):=z8W [.tup [.str [n],flD ((n :: x.tail) :: fl)]] (q.map blD) (by simp at n1 ⊢; omega)
  refine ⟨n,fixB ((n,x :: fl) :: q),zbI R,⟨(n,(n :: x.tail) :: fl),by simp [fixB],rfl,rfl⟩,by simp [fixB],?_⟩
  rw [z0L]
  unfold ruD at gr ⊢
  unfold blD at i0
  generalize D.tup ((fixB ((n,x :: fl) :: q)).map blD)=RB at *
  generalize D.tup (((n,x :: fl) :: q).map blD)=BD at *
  generalize flD ((n :: x.tail) :: fl)=F2 at *
  generalize flD (x :: fl)=F1 at *
  generalize D.tup (q.map blD)=QB at *
  generalize D.str (n :: x.tail)=nx at *
  generalize D.str x.tail=xt at *
  generalize D.str x=dx at *
  generalize D.str [n]=dn at *
  generalize D.tup (fl.map .str)=fD at *
  generalize D.int (h:Int)=dh at *
  generalize D.int (w:Int)=dw at *
  generalize D.int (m:Int)=dm at *
  simp [ioOk,z0g,dAsg,z09,ios,ndup,z0s,evX,mkA,putA,eVar,bVar,gr,gTp,z0u,z2c,eOpF,eOpN,i0,i1,eSl,eSlN,z18,z4x,s1,a1,s2,a2,s3,a3,z0H,z0e]
theorem ze6 (hp:Pen pd):∃ (h w n:Nat) (bs:List (Nat×List Tx)) (pd':D),Rul h w bs∧bs.length≤5∧(∃ b ∈ bs,b.1=n∧fst b=n)∧Pen pd'∧z1v [.own pd,.pure (.int 5)]=some (.pure (.tup [ruD h w bs,.str [n]]),[.own pd',.pure (.int 5)]):=by
 obtain ⟨h,w,bs,d',e,R,l,p⟩:=zaW hp 5 (by decide) (by decide)
 obtain ⟨n,bs',R',f,l',e'⟩:=zea z0T 5 R e
 refine ⟨h,w,n,bs',d',R',by omega,f,p,?_⟩
 rw [z1v,z3A]
 exact e'
abbrev B5_ (GN:DF) (GP:DF) (GR:DF) (GS:DF) (GX:DF):DS:=dSeq (dAsg (z09 GP [.val (eVar 1)]) (gNm [] 2)) (dSeq (dAsg (z09 GS [.io 2,.val (eD (.int 5))]) (gTp 2 (z0u (gNm [] 3) (z0u (gNm [] 4) z2c)))) (dSeq (dFor (z0K (eD (.int 2))) (gNm [] 5) (dIf (dNot (dTr (z09 GR [.io 2,.val (eVar 3),.val (eVar 4)]))) (dRet (eD (.bl false))) z1n)) (dIf (dOr (dNot (dTr (z09 GN [.val (eVar 3),.val (eVar 4)]))) (dNot (dTr (z09 GX [.io 2,.val (eVar 3),.val (eVar 4)])))) (dRet (eD (.bl false))) z1n)))
theorem q_law (GC GP GS GR GN GX:DF) (gp:∀ c:Int,∃ d,GP [.pure (.int c)]=some (.own d,[.pure (.int c)])∧Pen d)
  (gs:∀ pd,Pen pd→∃ (h w n:Nat) (bs:List (Nat×List Tx)) (pd':D),Rul h w bs∧bs.length≤5∧Stil bs n∧Pen pd'∧GS [.own pd,.pure (.int 5)]=some (.pure (.tup [ruD h w bs,.str [n]]),[.own pd',.pure (.int 5)]))
  (gr:∀ (h w n:Nat) bs d,Rul h w bs→Stil bs n→Pen d→∃ pd',Pen pd'∧GR [.own d,.pure (ruD h w bs),.pure (.str [n])]=some (.pure (.bl true),[.own pd',.pure (ruD h w bs),.pure (.str [n])]))
  (gn:∀ (h w n:Nat) bs,Rul h w bs→Stil bs n→GN [.pure (ruD h w bs),.pure (.str [n])]=some (.pure (.bl true),[.pure (ruD h w bs),.pure (.str [n])]))
  (gx:∀ (h w n:Nat) bs d,Rul h w bs→bs.length≤25→Stil bs n→Pen d→∃ pd',Pen pd'∧GX [.own d,.pure (ruD h w bs),.pure (.str [n])]=some (.pure (.bl true),[.own pd',.pure (ruD h w bs),.pure (.str [n])]))
  (ns:List Int) (hn:ns.length≤63) (gc:∃ c:Int,GC [.pure (.lst (ns.map .int)),.pure (.int 0)]=some (.pure (.int c),[.pure (.lst (ns.map .int)),.pure (.int 0)])) :
  gOf [] 6 (dSeq (dFor (iSq (eOp pAdd (eLst (z0c (z09 GC [.val (eVar 0),.val (eD (.int 0))]) aNil)) (bOf (eSlN 0 (z18 (eD (.int 1))) (z18 (eD (.int 4))))))) (gNm [] 1) (B5_ GN GP GR GS GX)) (dRet (eD (.bl true)))) [.pure (.lst (ns.map .int))]=some (.pure (.bl true),[.pure (.lst (ns.map .int))]):=by
 obtain ⟨c0,e0⟩:=gc
 have hcut:cutL (ns.map D.int) (some 1) (some 4)=(cutL ns (some 1) (some 4)).map .int:=z4H _ _ _ _
 have hsl:=zdo (ns.map D.int) (some 1) (some 4)
 rw [hcut] at hsl
 have hle:=cutl ns (some 1) (some 4)
 have ha:=z7n [.int c0] ((cutL ns (some 1) (some 4)).map .int) (by simp; omega)
 generalize hscr:D.lst (ns.map .int)=scr at *
 have hcells:∀ d ∈ [D.int c0] ++ (cutL ns (some 1) (some 4)).map .int,∃ c:Int,d = .int c:=fun d hm=>by
  rcases Qt.mp hm with hm | hm
  ·simp at hm; exact ⟨_,hm⟩
  ·obtain ⟨c,_,rfl⟩:=WE.mp hm
   exact ⟨_,rfl⟩
 generalize [D.int c0] ++ (cutL ns (some 1) (some 4)).map .int=CS at *
 obtain ⟨δ',e,o1,o2,o3,o4,o5,rfl⟩:=z16 (g:=gNm [] 1) (b:=(B5_ GN GP GR GS GX)) (fun _ δ=>∃ (o1 o2 o3 o4 o5:Option S),δ=[some (.pure scr),o1,o2,o3,o4,o5]) CS 0 [some (.pure scr),none,none,none,none,none] ⟨_,_,_,_,_,rfl⟩ (fun i d δ hdd ⟨o1,o2,o3,o4,o5,e⟩=>by
  subst e
  obtain ⟨c,rfl⟩:=hcells d (WB hdd)
  obtain ⟨pd1,e1,p1⟩:=gp c
  obtain ⟨h,w,n,bs,pd2,R,h5,hs,p2,e2⟩:=gs pd1 p1
  have tr:=fun d hp=>gr h w n bs d R hs hp
  have e4:=gn h w n bs R hs
  have tx:=fun d hp=>gx h w n bs d R (by omega) hs hp
  generalize ruD h w bs=ru at *
  generalize D.str [n]=tl at *
  -- the two turns
  obtain ⟨δ',e3,pd3,o5',p3,rfl⟩:=z16 (g:=gNm [] 5) (b:=(dIf (dNot (dTr (z09 GR [.io 2,.val (eVar 3),.val (eVar 4)]))) (dRet (eD (.bl false))) z1n)) (fun _ δ=>∃ (pd:D) (o5:Option S),Pen pd∧δ=[some (.pure scr),some (.pure (.int c)),some (.own pd),some (.pure ru),some (.pure tl),o5]) (z0z 0 2) 0 [some (.pure scr),some (.pure (.int c)),some (.own pd2),some (.pure ru),some (.pure tl),o5] ⟨pd2,o5,p2,rfl⟩ (fun j d δ hdd ⟨pd,o5,hp,e⟩=>by
   subst e
   obtain ⟨pd',hp',et⟩:=tr pd hp
   refine ⟨[some (.pure scr),some (.pure (.int c)),some (.own pd),some (.pure ru),some (.pure tl),some (.pure d)],[some (.pure scr),some (.pure (.int c)),some (.own pd'),some (.pure ru),some (.pure tl),some (.pure d)],rfl,?_,pd',_,hp',rfl⟩
   simp [dTr,z09,ios,ndup,z0s,evX,mkA,putA,eVar,et])
  obtain ⟨pd4,p4,e5⟩:=tx pd3 p3
  refine ⟨_,[some (.pure scr),some (.pure (.int c)),some (.own pd4),some (.pure ru),some (.pure tl),o5'],rfl,?_,_,_,_,_,_,rfl⟩
  refine z0m (δ1:=[some (.pure scr),some (.pure (.int c)),some (.own pd1),o3,o4,o5]) ?_ ?_
  ·simp [dAsg,z09,ios,ndup,z0s,evX,mkA,putA,eVar,e1]
  refine z0m (δ1:=[some (.pure scr),some (.pure (.int c)),some (.own pd2),some (.pure ru),some (.pure tl),o5]) ?_ ?_
  ·simp [dAsg,z09,ios,ndup,z0s,evX,mkA,putA,eVar,e2,gTp,z0u,z2c]
  refine z0m (z56 (ds:=z0z 0 2) ?_ e3) ?_
  ·have hr:=z3a 2 (by omega) [some (.pure scr),some (.pure (.int c)),some (.own pd2),some (.pure ru),some (.pure tl),o5]
   simpa using hr
  ·simp [dTr,z09,ios,ndup,z0s,evX,mkA,putA,eVar,e4,e5])
 have K:(dSeq (dFor (iSq (eOp pAdd (eLst (z0c (z09 GC [.val (eVar 0),.val (eD (.int 0))]) aNil)) (bOf (eSlN 0 (z18 (eD (.int 1))) (z18 (eD (.int 4))))))) (gNm [] 1) (B5_ GN GP GR GS GX)) (dRet (eD (.bl true)))) (z0g 6 [.pure scr]) = .ok (.ret (.pure (.bl true))) [some (.pure scr),o1,o2,o3,o4,o5]:=by
  refine z0m (δ1:=[some (.pure scr),o1,o2,o3,o4,o5]) ?_ ?_
  ·have hs:(iSq (eOp pAdd (eLst (z0c (z09 GC [.val (eVar 0),.val (eD (.int 0))]) aNil)) (bOf (eSlN 0 (z18 (eD (.int 1))) (z18 (eD (.int 4))))))) (z0g 6 [.pure scr]) = .ok CS [some (.pure scr),none,none,none,none,none]:=by
    simp [z0g,z3r,z09,ios,ndup,z0s,evX,mkA,putA,eVar,bVar,e0,eSlN,z18,hsl,ha]
   exact z56 hs e
  ·simp
 rw [z0L,K]
 simp [ioOk,z0H,z0e]
set_option maxHeartbeats 4000000 in
theorem ze8 (ce:Tx→Nat) (hi:InjC ce) (ns:List Int) (hn:ns.length≤63):zao ce [.pure (.lst (ns.map .int))]=some (.pure (.bl true),[.pure (.lst (ns.map .int))]):=by
 rw [zao,zeZ]
 exact q_law z14 z1f z1v z0O z0N (z0B ce) r_pen (fun d hp=>ze6 hp) (fun h w n bs d R hs hp=>z7A R hs hp) (fun h w n bs R hs=>zft R hs)
  (fun h w n bs d R h6 hs hp=>z5G ce hi R h6 hs hp) ns hn (z8v ns)
def Gt:DF:=fun ss=>match ss with
 | [.pure (.lst ds)]=>match z6n ds with
  | some ns=>if ns.length≤63 then some (.pure (.bl true),ss) else none
  | none=>none
 | _=>none
theorem r_law (ns:List Int) (h:ns.length≤63):∃ outs,Gt [.pure (.lst (ns.map .int))]=some (.pure (.bl true),outs):=by
 unfold Gt
 simp only [DV.ints_map,h,if_true]
 exact ⟨_,rfl⟩
theorem zbD:∀ {ds:List D} {ns:List Int},z6n ds=some ns→ds=ns.map .int
 | [],ns,h=>by simp [z6n] at h; subst h; rfl
 | d :: r,ns,h=>by
  cases d with
  | int i =>
   simp only [z6n] at h
   cases e:z6n r with
   | none=>rw [e] at h; cases h
   | some m =>
    rw [e] at h
    cases h
    rw [zbD e]
    rfl
  | _=>simp [z6n] at h
theorem law_all:∀ ce,InjC ce→∀ ss y,Gt ss=some y→zao ce ss=some y:=by
 intro ce hj ss y h
 unfold Gt at h
 split at h
 ·rename_i ds
  cases hi:z6n ds with
  | none=>rw [hi] at h; cases h
  | some ns =>
   rw [hi] at h
   by_cases hn:ns.length≤63
   ·simp only [hn,if_true] at h
    cases h
    have e:=zbD hi
    subst e
    exact ze8 ce hj ns hn
   ·simp only [hn,if_false] at h
    cases h
 ·cases h
end K57
open PySem PySem.W PyProof.Rows
def PySem.W.Fast.tw10340416128087227946:Nat:=0
def PySem.W.Fast.tw3437146091965532862:Nat:=0
def PySem.W.Fast.tw6844425670277431067:Nat:=0
def PySem.W.Fast.tw16871557475335615042:Nat:=0
def PySem.W.Fast.tw15023010421748222787:Nat:=0
def PySem.W.Fast.tw12733619617729497421:Nat:=0
def PySem.W.Fast.tw17146227074700568102:Nat:=0
def PySem.W.Fast.tw2512504273713894358:Nat:=0
def PySem.W.Fast.tw4420624822875172188:Nat:=0
def PySem.W.Fast.tw5485628854983876116:Nat:=0
def PySem.W.Fast.tw7470935000611455595:Nat:=0
def PySem.W.Fast.tw12038035844161705603:Nat:=0
def PySem.W.Fast.tw15187648126024392275:Nat:=0
set_option maxRecDepth 100000 in
set_option maxHeartbeats 0 in
theorem PySem.Challenge.cw_tilegrow_k57_still_floors_holds : PySem.Challenge.rw_tilegrow_k57_still_floors.Holds := by
 w_on; o_law; k_head; (case hw=>w_witness2)
 k_fill
 refine DV.walkD (l:=PySem.Challenge.rw_tilegrow_k57_still_floors) (k:=8) (G:=K57.Gt) rfl rfl ⟨rfl,by decide,by decide⟩ (fun w h Y=>PySem.W.kIn_of Y) ?L K57.r_law ?F
 case L=>intro p; exact Eq.refl true
 case F =>
  intro w mg fa h KX G hmg
  refine' K57.all_mk K57.law_all KX G hmg ?d0 ?d1 ?d2 ?d3 ?d4 ?d5 ?d6 ?d7 ?d8 ?d9 ?d10 ?d11 ?d12 ?d13 ?d14 ?d15 ?d16 ?d17 ?d18 ?d19 ?d20 ?d21 ?d22 ?d23 ?d24 ?d25 ?d26 ?d27 ?d28 ?d29 ?d30 ?d31 ?a32 ?l32 ?c32 ?k32 ?z_ValueError ?z_all ?z_bool ?z_dict ?z_int ?z_isinstance ?z_len ?z_max ?z_min ?z_range ?z_str ?z_tuple ?ac_j ?ac_a ?ac_b ?ac_c ?ac_d ?ac_e ?ac_f ?ac_g ?ac_h ?ac_i ?ia_f ?li_f ?cci_f ?kfi_f ?qi_f ?fni_f ?kci_f ?sai_f ?ovi_f ?hdi_f ?tki_f ?qc_j ?qc_b ?spc ?tkc ?ga_b ?gt_b ?cl_b ?mo_b ?mb_b ?ci_b ?kv_b ?ki_b_a ?ki_b_b ?ki_b_c ?ki_b_d ?ki_b_e ?ki_b_f ?ki_b_g ?ki_b_h ?ki_b_i ?mr_b_j ?ga_f ?gt_f ?cl_f ?mo_f ?mb_f ?ci_f ?kv_f ?ki_f_a ?ki_f_b ?ki_f_c ?ki_f_d ?ki_f_e ?ki_f_f ?ki_f_g ?ki_f_h ?ki_f_i ?mr_f_j
  (case d0=>exact ⟨_,_,_,_,_,_,_,_,_,_,by k_is,by k_is,by k_is,by k_is⟩); (case d1=>exact ⟨_,_,_,_,_,_,_,_,_,_,by k_is,by k_is,by k_is,by k_is⟩); (case d2=>exact ⟨_,_,_,_,_,_,_,_,_,_,by k_is,by k_is,by k_is,by k_is⟩); (case d3=>exact ⟨_,_,_,_,_,_,_,_,_,_,by k_is,by k_is,by k_is,by k_is⟩); (case d4=>exact ⟨_,_,_,_,_,_,_,_,_,_,by k_is,by k_is,by k_is,by k_is⟩); (case d5=>exact ⟨_,_,_,_,_,_,_,_,_,_,by k_is,by k_is,by k_is,by k_is⟩); (case d6=>exact ⟨_,_,_,_,_,_,_,_,_,_,by k_is,by k_is,by k_is,by k_is⟩); (case d7=>exact ⟨_,_,_,_,_,_,_,_,_,_,by k_is,by k_is,by k_is,by k_is⟩)
  (case d8=>exact ⟨_,_,_,_,_,_,_,_,_,_,by k_is,by k_is,by k_is,by k_is⟩); (case d9=>exact ⟨_,_,_,_,_,_,_,_,_,_,by k_is,by k_is,by k_is,by k_is⟩); (case d10=>exact ⟨_,_,_,_,_,_,_,_,_,_,by k_is,by k_is,by k_is,by k_is⟩); (case d11=>exact ⟨_,_,_,_,_,_,_,_,_,_,by k_is,by k_is,by k_is,by k_is⟩); (case d12=>exact ⟨_,_,_,_,_,_,_,_,_,_,by k_is,by k_is,by k_is,by k_is⟩); (case d13=>exact ⟨_,_,_,_,_,_,_,_,_,_,by k_is,by k_is,by k_is,by k_is⟩); (case d14=>exact ⟨_,_,_,_,_,_,_,_,_,_,by k_is,by k_is,by k_is,by k_is⟩); (case d15=>exact ⟨_,_,_,_,_,_,_,_,_,_,by k_is,by k_is,by k_is,by k_is⟩)
  (case d16=>exact ⟨_,_,_,_,_,_,_,_,_,_,by k_is,by k_is,by k_is,by k_is⟩); (case d17=>exact ⟨_,_,_,_,_,_,_,_,_,_,by k_is,by k_is,by k_is,by k_is⟩); (case d18=>exact ⟨_,_,_,_,_,_,_,_,_,_,by k_is,by k_is,by k_is,by k_is⟩); (case d19=>exact ⟨_,_,_,_,_,_,_,_,_,_,by k_is,by k_is,by k_is,by k_is⟩); (case d20=>exact ⟨_,_,_,_,_,_,_,_,_,_,by k_is,by k_is,by k_is,by k_is⟩); (case d21=>exact ⟨_,_,_,_,_,_,_,_,_,_,by k_is,by k_is,by k_is,by k_is⟩); (case d22=>exact ⟨_,_,_,_,_,_,_,_,_,_,by k_is,by k_is,by k_is,by k_is⟩); (case d23=>exact ⟨_,_,_,_,_,_,_,_,_,_,by k_is,by k_is,by k_is,by k_is⟩)
  (case d24=>exact ⟨_,_,_,_,_,_,_,_,_,_,by k_is,by k_is,by k_is,by k_is⟩); (case d25=>exact ⟨_,_,_,_,_,_,_,_,_,_,by k_is,by k_is,by k_is,by k_is⟩); (case d26=>exact ⟨_,_,_,_,_,_,_,_,_,_,by k_is,by k_is,by k_is,by k_is⟩); (case d27=>exact ⟨_,_,_,_,_,_,_,_,_,_,by k_is,by k_is,by k_is,by k_is⟩); (case d28=>exact ⟨_,_,_,_,_,_,_,_,_,_,by k_is,by k_is,by k_is,by k_is⟩); (case d29=>exact ⟨_,_,_,_,_,_,_,_,_,_,by k_is,by k_is,by k_is,by k_is⟩); (case d30=>exact ⟨_,_,_,_,_,_,_,_,_,_,by k_is,by k_is,by k_is,by k_is⟩); (case d31=>exact ⟨_,_,_,_,_,_,_,_,_,_,by k_is,by k_is,by k_is,by k_is⟩)
  (case a32=>k_is); (case l32=>k_is); (case c32=>k_is); (case k32=>k_is); (case z_ValueError=>k_is); (case z_all=>k_is); (case z_bool=>k_is); (case z_dict=>k_is)
  (case z_int=>k_is); (case z_isinstance=>k_is); (case z_len=>k_is); (case z_max=>k_is); (case z_min=>k_is); (case z_range=>k_is); (case z_str=>k_is); (case z_tuple=>k_is)
  (case ac_j=>k_is); (case ac_a=>k_is); (case ac_b=>k_is); (case ac_c=>k_is); (case ac_d=>k_is); (case ac_e=>k_is); (case ac_f=>k_is); (case ac_g=>k_is)
  (case ac_h=>k_is); (case ac_i=>k_is); (case ia_f=>k_is); (case li_f=>k_is); (case cci_f=>k_is); (case kfi_f=>k_is); (case qi_f=>kernel_rfl); (case fni_f=>k_is)
  (case kci_f=>k_is); (case sai_f=>k_is); (case ovi_f=>kernel_rfl); (case hdi_f=>k_is); (case tki_f=>k_is); (case qc_j=>kernel_rfl); (case qc_b=>kernel_rfl); (case spc=>k_is)
  (case tkc=>k_is); (case ga_b=>k_is); (case gt_b=>k_is); (case cl_b=>k_is); (case mo_b=>k_is); (case mb_b=>k_is); (case ci_b=>k_is); (case kv_b=>kit_is)
  (case ki_b_a=>kit_is); (case ki_b_b=>kit_is); (case ki_b_c=>kit_is); (case ki_b_d=>kit_is); (case ki_b_e=>kit_is); (case ki_b_f=>kit_is); (case ki_b_g=>kit_is); (case ki_b_h=>kit_is)
  (case ki_b_i=>kit_is); (case mr_b_j=>k_is); (case ga_f=>k_is); (case gt_f=>k_is); (case cl_f=>k_is); (case mo_f=>k_is); (case mb_f=>k_is); (case ci_f=>k_is)
  (case kv_f=>kit_is); (case ki_f_a=>kit_is); (case ki_f_b=>kit_is); (case ki_f_c=>kit_is); (case ki_f_d=>kit_is); (case ki_f_e=>kit_is); (case ki_f_f=>kit_is); (case ki_f_g=>kit_is)
  (case ki_f_h=>kit_is); (case ki_f_i=>kit_is); (case mr_f_j=>k_is)
