import PyProof.Rows.All
import Wide.All
import OpenK.AllK
import Wide.FinOn
import Lean
import PyProof.EqAt
import PyProof.EqKinds
import PyProof.TupleCall
import PyProof.NeKinds
import PyProof.StrWalks
import PyProof.ListStr
import PyProof.StrOps2
import PyProof.StrLawsIn
import KE.KDictOf
import PyProof.AttrMissHeap
import PyProof.Draws
import PyProof.EnumMake
import PyProof.Rows.EnumRows
import PyProof.LongRange
import PyProof.NoPylong
import PyProof.SeqI3
import PyProof.Rows.SeqCalls
import PyProof.StrLawsChain
import PyProof.StrCalls2
import KE.KIntText
import PyProof.Rows.CallKwBuiltin
import OpenK.KOwn
import OpenK.KRaise
import PyProof.ExcBaseAll.ValueError
import PyProof.Rows.CatchOwn
import KE.KIsAll
import PyProof.ExcArgsOwn
import PyProof.ExcAttrAll.ValueError
import PyProof.Rows.SeqMore2
import PyProof.ListMulAny
import PyProof.ListMulRoad
import PyProof.ZipIter
import PyProof.Rows.FactsT2
import PyProof.ExcInit
import PyProof.InstStoreFacts
import PyProof.StrCalls
import PyProof.FactsAll.dict_1
import PyProof.FactsAll.subtypes_3
import PyProof.FactsAll.subtypes_4
import PyProof.Dict
import PyProof.MinMaxWalk
import PyProof.WalkInts
import PyProof.WalksMore
import PyProof.FactsAll.tuple_2
import KE.KSortTup
import PyProof.Rows.SortWalk
import PyProof.Rows.SetFrom
import PyProof.DictKinds
import PyProof.DictStraight
import PyProof.SetRoads
import PyProof.CollectWalk
import PyProof.CollectStr
import PyProof.DictIter
import PyProof.Rows.SortShell
import KE.KItemsList
import PyProof.Rows.SortStr
import PyProof.DictItemsLoops
import PyProof.ListNew
import PyProof.Rows.SumAny
import KE.IntBitsLaws
import KE.KLam
import KE.KDictList
import KE.KNestM
import PySem.Challenge.RW_tilegrow_k49_what_comes_of_a_tile
open PySem renaming wpAny_bind→W0,Shared→W2,wpAny_pure→W4,starEach→W5,wpAny→W6,sizeLine→Wa,Spec→Wc,Program→Wg,Around→Wl,World→Wm,mainGlobals→Wn,mem_of_lookup→Wv,FuncData→Wy,wpAny_mono→WC,wpAny_newObj_type→WL,backTo→WN,compareOp→WO,wpAny_holding→WU,rawInt→WY,wpAny_callSpecial?_slot→Q2,codeAny→Q4,bootBuiltins→Q9,wpAny_loadPart'→Qa,codeAny_builtin→Qb,assignEach→Qc,wpAny_call_entry→Qd,wpAny_loadPart_at→Qf,binaryOp→Qh,cLine→Qi,codeAny_mono→Qk,wpAny_Call_Name_kw→Ql,cellsFrom→Qm,behindInMarks→Qp,attributeBase→Qq,wpAny_field→Qr,wpAny_setField→Qs,pyNext→Qt,wpAny_truthy_bool→Qv,sizeLine_eq→QC,foldedSetIterable→QF,plainId_quiet→QH,wpAny_setEntries_of→QK,wpAny_rule→QN,swapsWith→QO,wpAny_typeOf→QQ,wpAny_passesOwn→QR,wpAny_setState_of→QX,sysModules→QY,codeAny_call_builtin→J3,keywordEach→J4,wpAny_askSetting→Jc,tupleKind_room_in1→Jf,wpAny_pyIter_tuple→Jg,builtinLookup_eq_fast→Jm,wpAny_call→Jp,sliceBounds→Jt,wpAny_execs_nil→Jx,wpAny_ite_split→Jz,wpAny_updateSeq→JB,backToKw→JE,pushCells→JF,noteFrame→JG,getattributeRaised→JH,scanBound→JK,typeIs_int→JL,call_meets→JM,wpAny_pyIter_enum→JQ
open PySem.W renaming Frag→W1,mg_none_of→WH,fnOf→WR,keepIn→WZ,kia_one→Q5,kitOne→Qz,cellsFrom_some→QM,codeHdIn→Jd,findIn→Jl,envX→Jn,findIn→Jr,kla_obj→JC,callWith_K→JD,looks_findIn→JJ,hasDictIn→JN,OpenLaw→JW
open PySem.Heap renaming get?_push_of_some→W3,lt_size→Wf,get?_push_size→Wi,get?_update_self→Wz,get?_update_other→WD,size_push→QL,SameBut→J5,get?_none_of_le→Jo
open List renaming getElem?_set_ne→W7,replicate→W8,mem_cons_of_mem→Wd,getElem?_eq_some_iff→We,mem_cons→Wh,mem_cons_self→Wj,getElem?_set_self→Wk,map_cons→Wo,range→Wp,size_toArray→Wr,getElem?_eq_getElem→Wt,length_map→Wx,map_map→WA,length_cons→WE,getElem?_map→WF,replicate_succ→WI,mem_map_of_mem→WJ,append_nil→WK,getElem?_set→WM,mem_append_right→WP,mem_map→WS,lookup_cons→WT,getElem?_eq_none→WV,mem_of_getElem?→WW,nodup_cons→Q0,nil_append→Q1,length_append→Q6,find?_cons→Q7,mem_range→Q8,length_set→Qj,pairwise_cons→Qn,all_eq_true→Qo,map_append→QE,flatten_cons→QG,eq_nil_of_length_eq_zero→QI,foldl_cons→QS,any_cons→QT,append_assoc→QW,mem_append_left→QZ,getElem?_cons_succ→Je,range_succ_eq_map→Ji,pairwise_map→Jj,getElem_mem→Jq,length→Js,map_congr_left→Jv,mem_append→Jw,of_mem_zip→Jy,range_succ→JA,contains_cons→JI,ext_getElem?→JO,nodup_append→JR,all_cons→JS,length_take→JT,length_nil→JV
open Option.some renaming injEq→W9,inj→WB
open Nat renaming le_refl→Wb,ne_of_lt→Wq,lt_of_lt_of_le→Ww,le_trans→WQ,lt_irrefl→Q3,lt_succ_of_lt→Qe,zero_le→Qy,ne_of_gt→QD,zero_add→Jb,le_of_lt→Jk,le_succ→Ju,lt_succ_self→JU,mod_lt→JY
open Bool renaming and_eq_true→Ws,false_ne_true→WX,false_eq_true→Jh,not_eq_true'→JP
open Option renaming bind_some→Wu,map_some→WG,isSome_iff_exists→J9
open Array renaming length_toList→Qg,getElem?_eq_some_iff→QV
open PyProof.Rows renaming envOfC→Qu,slot_tuple_getitem→QB,callWith_type1→QP
open Int renaming toNat_natCast→Qw
open PySem.Builtin.Str renaming strSliceIndices→Qx
open PySem.F renaming plain_extend_loop→QA,slot_tuple_iterator_next→QU
open PySem.Heap.SameBut renaming update→QJ
open PySem.Builtin.Slice renaming slicePlaces→J0
open PySem.Builtin.SmallTypes renaming nextOf→J1
open PySem.Builtin.Tuple renaming tupleExact→Ja
open List.cons renaming injEq→JX
set_option Elab.async false
set_option linter.all false
set_option maxRecDepth 100000
namespace L2
open PySem PySem.Spec PyProof.Rows
abbrev Key:=Sum Int Str
def lG:Key->Value->Bool
 | .inl k,v=>Value.isInt k v
 | .inr x,v=>Value.isStrOf x v
def Fh(w:Wm):Key->Int
 | .inl k=>hashInt k
 | .inr x=>hashStr w x
theorem jf:∀ {k:Key} {v:Value},lG k v=true->(∃ i t,k=Sum.inl i/\v=Value.int i t)\/(∃ x t,k=Sum.inr x/\v=Value.str x t)
 | .inl i,v,h=>by
  obtain⟨t,e⟩:=Value.isInt_shape (k:=i) (v:=v) h;exact .inl ⟨i,t,rfl,e⟩
 | .inr x,v,h=>by
  obtain⟨t,e⟩:=Value.isStrOf_shape (x:=x) (v:=v) h;exact .inr ⟨x,t,rfl,e⟩
theorem Fi(i:Int)(t:Tok):lG (.inl i) (.int i t)=true:=by simp[lG,Value.isInt]
theorem Fj(x:Str)(t:Tok):lG (.inr x) (.str x t)=true:=by simp[lG,Value.isStrOf]
theorem Fm(a b:Int):decide ((Sum.inl a:Key)=Sum.inl b)=(a == b):=by
 by_cases e:a=b
 ·subst e; simp
 ·have h:¬ (Sum.inl a:Key)=Sum.inl b:=λq=>e (Sum.inl.inj q)
  rw[decide_eq_false h];exact(beq_eq_false_iff_ne.mpr e).symm
theorem Fo(a b:Str):decide ((Sum.inr a:Key)=Sum.inr b)=decide (a=b):=by
 by_cases e:a=b
 ·subst e; simp
 ·have h:¬ (Sum.inr a:Key)=Sum.inr b:=λq=>e (Sum.inr.inj q)
  rw[decide_eq_false h,decide_eq_false e]
theorem Fp(a:Int)(b:Str):decide ((Sum.inl a:Key)=Sum.inr b)=false:=decide_eq_false (λq=>nomatch q)
theorem Fq(a:Str)(b:Int):decide ((Sum.inr a:Key)=Sum.inl b)=false:=decide_eq_false (λq=>nomatch q)
def dQ(prog:Wg)(w:Wm):PySem.KeyKind prog w Key where
 is:=lG
 hash:=Fh w
 inj:=λv a b ha hb=>by
  rcases jf ha with ⟨i,t,rfl,rfl⟩ | ⟨x,t,rfl,rfl⟩
  ·rcases jf hb with ⟨j,u,rfl,e⟩ | ⟨y,u,rfl,e⟩
   ·injection e with e1 _; rw[e1]
   ·exact nomatch e
  ·rcases jf hb with ⟨j,u,rfl,e⟩ | ⟨y,u,rfl,e⟩
   ·exact nomatch e
   ·injection e with e1 _; rw[e1]
 byValue:=λk v h=>by
  rcases jf h with ⟨i,t,rfl,rfl⟩ | ⟨x,t,rfl,rfl⟩ <;> rfl
 pyHash:=λhv h=>by
  rcases jf hv with ⟨i,t,rfl,rfl⟩ | ⟨x,t,rfl,rfl⟩
  ·exact wpAny_pyHash_int h
  ·exact wpAny_pyHash_str h
 eqBool:=λhu hv h=>by
  rcases jf hu with ⟨i,t,rfl,rfl⟩ | ⟨x,t,rfl,rfl⟩
  ·rcases jf hv with ⟨j,u,rfl,rfl⟩ | ⟨y,u,rfl,rfl⟩
   ·rw[Fm] at h; exact wpAny_eqBool_int h
   ·rw[Fp] at h; exact SeqAt.EqAt.int_str i t y u _ _ _ _ h
  ·rcases jf hv with ⟨j,u,rfl,rfl⟩ | ⟨y,u,rfl,rfl⟩
   ·rw[Fq] at h; exact SeqAt.EqAt.str_int x t j u _ _ _ _ h
   ·rw[Fo] at h; exact wpAny_eqBool_str h
 «strs»:=λk x t v h=>by
  rcases jf h with ⟨i,u,rfl,e⟩ | ⟨y,u,rfl,e⟩
  ·exact nomatch e
  ·injection e with e1 _
   subst e1
   cases v <;> rfl
theorem Fs(prog:Wg)(w:Wm)(k:Key)(v:Value):(dQ prog w).is k v=lG k v:=rfl
theorem Ft(prog:Wg)(w:Wm)(i:Int)(t:Tok):(dQ prog w).is (.inl i) (.int i t)=true:=Fi i t
theorem Fu(prog:Wg)(w:Wm)(x:Str)(t:Tok):(dQ prog w).is (.inr x) (.str x t)=true:=Fj x t
inductive V where
 | aq | bl (b:Bool) | int (i:Int) | str (x:Str) | byt (b:Array UInt8) | flt (b:UInt64) | ref (a:Addr) | ty (n:String)
 deriving DecidableEq
def RelV:V->Value->Prop
 | .aq,u=>u=Value.none
 | .bl b,u=>u=Value.bool b
 | .int i,u=>∃ t,u=Value.int i t
 | .str x,u=>∃ t,u=Value.str x t
 | .byt b,u=>∃ t,u=Value.bytes b t
 | .flt b,u=>∃ t,u=Value.float b t
 | .ref a,u=>u=Value.ref a
 | .ty n,u=>u=Value.type n
abbrev Vals:List V->List Value->Prop:=Paired RelV
theorem Vals.length(r:Vals xs us):xs.length=us.length:=Paired.length r
theorem Vals.get:∀ {xs:List V} {us:List Value} {i:Nat} {x:V},Vals xs us->xs[i]? = some x->∃ u,us[i]? = some u/\RelV x u
 | _,_,_,_,.nil,e=>by simp at e
 | _,_,0,_,.cons r _,e=>by simp at e; subst e; exact⟨_,rfl,r⟩
 | _,_,i + 1,x,.cons _ t,e=>by
  obtain⟨u,h1,h2⟩:=Vals.get (i:=i) (x:=x) t (by simpa using e);exact⟨u,by simpa using h1,h2⟩
theorem Vals.set(r:RelV x u):∀ {xs:List V} {us:List Value} (i:Nat),Vals xs us->Vals (xs.set i x) (us.set i u)
 | _,_,_,.nil=>.nil
 | _,_,0,.cons _ t=>.cons r t
 | _,_,i + 1,.cons q t=>.cons q (Vals.set r i t)
theorem Vals.append:∀ {xs ys:List V} {us ws:List Value},Vals xs us->Vals ys ws->Vals (xs ++ ys) (us ++ ws)
 | _,_,_,_,.nil,s=>s
 | _,_,_,_,.cons r t,s=>.cons r (Vals.append t s)
theorem Vals.take:∀ {xs:List V} {us:List Value} (n:Nat),Vals xs us->Vals (xs.take n) (us.take n)
 | _,_,0,_=>.nil
 | _,_,_ + 1,.nil=>.nil
 | _,_,n + 1,.cons r t=>.cons r (Vals.take n t)
theorem Vals.drop:∀ {xs:List V} {us:List Value} (n:Nat),Vals xs us->Vals (xs.drop n) (us.drop n)
 | _,_,0,r=>r
 | _,_,_ + 1,.nil=>.nil
 | _,_,n + 1,.cons _ t=>Vals.drop n t
def dG:Option V->Option Value->Prop
 | some v,some u=>RelV v u
 | none,none=>True
 | _,_=>False
def KV{κ:Type}:List (κ×V)->List (κ×Value)->Prop:=Paired λ(p:κ×V) (q:κ×Value)=>p.1=q.1/\RelV p.2 q.2
def kV:Key->V
 | .inl i=>.int i
 | .inr x=>.str x
inductive HO where
  | lst (xs:List V)
  | tup (xs:List V)
  | dK (kvs:List (Key×V)) | dT (kvs:List (List Key×V))
  | set (S:Int->Bool) (n:Nat)
  | ins (C dx:Addr) (fs:List (Str×V))
  | own (x:Addr)
  | xd (fs:List (Str×V))
  | met (f x:Addr)
  | jg (lo hi:Int)
  | frz (o:Obj) (u:HO)
  | tbl (ps:Array Value)
  | ctab (pos:Pos) (q:Str)
  | ext (φ:Heap->Prop)
abbrev Hp:=Addr->Option HO
def upd(H:Hp)(a:Addr)(o:HO):Hp:=λb=>if b=a then some o else H b
theorem b7:upd H a o a=some o:=by unfold upd; rw[if_pos rfl]
theorem aQ(h:b≠a):upd H a o b=H b:=by unfold upd; rw[if_neg h]
theorem Fv:upd (upd H a o) a u=upd H a u:=by
 funext b; unfold upd; split <;> rfl
theorem Fw{H:Hp}{a b:Addr}{o u:HO}(h:H a=some o)(h':H b=some u)(d:o≠u):a≠b:=by
 intro e; subst e; rw[h] at h'; exact d (WB h')
theorem fD{H:Hp}{a b:Addr}{o:HO}(h:H a=some o)(h':H b=none):a≠b:=by
 intro e; subst e; rw[h] at h'; cases h'
def gR (h:Heap) (a:Addr) (aa:Array Value):Prop:=∃ n,h.get? a=some { cls:=.type "tuple",dict:=none,data:=.seq aa n,slots:=#[] }
theorem gR.tup(x:gR h a aa):IsTup h a aa:=let ⟨n,e⟩:=x; ⟨_,e,rfl,n,rfl⟩
theorem gR.new (h:Heap) (aa:Array Value):gR (h.push { cls:=.type "tuple",data:=.seq aa }) h.objs.size aa:=⟨_,Wi _ rfl⟩
theorem gR.lt(x:gR h a aa):a < h.objs.size:=let ⟨_,e⟩:=x; Wf e
section
variable (P:Wg) (w:Wm)
def bq(H:Hp)(h:Heap)(a:Addr):HO->Prop
 | .lst xs=>xs.length<=Wa/\∃ (aa:List Value) (n:Nat),Vals xs aa/\h.get? a=some { cls:=.type "list",data:=.seq aa.toArray n }
 | .tup xs=>xs.length<=Wa/\∃ aa:List Value,Vals xs aa/\gR h a aa.toArray
 | .dK kvs=>kvs.length<=Wa/\(a == QY)=false/\∃ vs,KV kvs vs/\h.DictOf (dQ P w) a vs
 | .dT kvs=>kvs.length<=Wa/\(a == QY)=false/\∃ xs:List (List Key×Addr×Value),
   Paired (λ(p:List Key×V) (q:List Key×Addr×Value)=>p.1=q.1/\H q.2.1=some (.tup (p.1.map kV))/\RelV p.2 q.2.2) kvs xs /\
   ∃ o es ep,h.get? a=some o/\o.ExactDict/\o.data = .dict es ep/\es.toList=xs.map (entryOfKey (tupleKind (dQ P w)))/\(xs.map (·.1)).Nodup
 | .set S n=>h.SetOf (intKind P w) a S n
 | .ins C dx fs=>H dx=some (.own a)/\fs.length<=1000/\dx≠a/\h.get? a=some (PySem.W.instObj C dx) /\
   ∃ mA,h.Ns1 dx mA/\(∀ f,dG (fs.lookup f) (mA f))/\PySem.Within mA (fs.map (·.1))
 | .own _=>∃ o,h.get? a=some o
 | .xd fs=>∃ mA,h.Ns1 a mA/\∀ f,dG (fs.lookup f) (mA f)
 | .jg lo hi=>∃ t u v,h.get? a=some { cls:=.type "range",data:=.fields #[.int lo t,.int hi u,.int 1 v] }
 | .frz o u=>h.get? a=some o/\bq H h a u
 | .tbl ps=>h.get? a=some { cls:=.none,data:=.fields ps }
 | .ctab pos q=>∃ ps,h.get? a=some { cls:=.none,data:=.fields ps }/\TriplesOk ps.toList/\∀ cv,codeAmong pos ps.toList=some cv->∃ c' oc,cv = .ref c'/\H c'=some (.frz oc (.ext λ_=>True))/\∃ vs tq,oc.data = .fields vs/\vs[1]? = some (.str q tq)
 | .met f x=>h.get? a=some (PySem.W.methodObj (.ref f) (.ref x))
 | .ext φ=>φ h/\(∃ o,h.get? a=some o)/\∀ h1 h2:Heap,φ h1->(∀ o,h1.get? a=some o->h2.get? a=some o)->φ h2
def b8(H:Hp)(h:Heap):Prop:=∀ a o,H a=some o->bq P w H h a o
end
section
variable {P:Wg} {w:Wm} {H H':Hp} {h h':Heap} {a:Addr} {o:HO}
theorem bq.lt(x:bq P w H h a o):a < h.objs.size:=by
 cases o with
 | lst xs=>obtain⟨_,_,_,_,e⟩:=x; exact Wf e
 | tup xs=>obtain⟨_,_,_,p⟩:=x; exact p.lt
 | dK kvs=>obtain⟨_,_,_,_,o,_,_,e,_⟩:=x; exact Wf e
 | dT kvs=>obtain⟨_,_,_,_,o,_,_,e,_⟩:=x; exact Wf e
 | set S n=>obtain⟨o,_,_,_,e,_⟩:=x; exact Wf e
 | ins C dx fs=>obtain⟨_,_,_,e,_⟩:=x; exact Wf e
 | own y=>obtain⟨_,e⟩:=x; exact Wf e
 | xd fs=>obtain⟨_,⟨_,_,_,e,_⟩,_⟩:=x; exact Wf e
 | jg lo hi=>obtain⟨_,_,_,e⟩:=x; exact Wf e
 | frz ob u=>obtain⟨e,_⟩:=x; exact Wf e
 | tbl ps=>exact Wf (show h.get? a=some _ from x)
 | ctab pos q=>obtain⟨_,e,_⟩:=x; exact Wf e
 | met f y=>exact Wf (show h.get? a=some _ from x)
 | ext φ=>obtain⟨_,⟨_,e⟩,_⟩:=x; exact Wf e
theorem Paired.qw:∀ {l₁:List α} {l₂:List β},Paired F l₁ l₂->(∀ a b,F a b->G a b)->Paired G l₁ l₂
 | _,_,.nil,_=>.nil
 | _,_,.cons r t,f=>.cons (f _ _ r) (Paired.qw t f)
theorem bq.jh(x:bq P w H h a o)(k:∀ b u,(b=a\/H b=some (.own a))->h.get? b=some u->h'.get? b=some u)
  (ho:∀ b,H b=some (.own a)->H' b=some (.own a)) (ht:∀ b xs,H b=some (.tup xs)->H' b=some (.tup xs)) (hf:∀ b o u,H b=some (.frz o u)->H' b=some (.frz o u)):bq P w H' h' a o:=by
 induction o with
 | lst xs=>obtain⟨z,aa,n,r,e⟩:=x; exact⟨z,aa,n,r,k _ _ (.inl rfl) e⟩
 | tup xs=>obtain⟨z,aa,r,n,e⟩:=x; exact⟨z,aa,r,n,k _ _ (.inl rfl) e⟩
 | dK kvs=>obtain⟨z,y,vs,r,ob,es,ep,e,c⟩:=x; exact⟨z,y,vs,r,ob,es,ep,k _ _ (.inl rfl) e,c⟩
 | dT kvs =>
  obtain⟨z,y,xs,r,ob,es,ep,e,c⟩:=x;exact⟨z,y,xs,Paired.qw r λp q z=>⟨z.1,ht _ _ z.2.1,z.2.2⟩,ob,es,ep,k _ _ (.inl rfl) e,c⟩
 | set S n=>obtain⟨ob,es,ep,t,e,c⟩:=x; exact⟨ob,es,ep,t,k _ _ (.inl rfl) e,c⟩
 | ins C dx fs =>
  obtain⟨d,z,ne,e,mA,⟨od,es,ep,e2,c⟩,r⟩:=x;exact⟨ho _ d,z,ne,k _ _ (.inl rfl) e,mA,⟨od,es,ep,k _ _ (.inr d) e2,c⟩,r⟩
 | own y=>obtain⟨ob,e⟩:=x; exact⟨ob,k _ _ (.inl rfl) e⟩
 | xd fs=>obtain⟨mA,⟨od,es,ep,e,c⟩,r⟩:=x; exact⟨mA,⟨od,es,ep,k _ _ (.inl rfl) e,c⟩,r⟩
 | jg lo hi=>obtain⟨t,u,v,e⟩:=x; exact⟨t,u,v,k _ _ (.inl rfl) e⟩
 | frz ob u ih=>obtain⟨e,q⟩:=x; exact⟨k _ _ (.inl rfl) e,ih q⟩
 | ctab pos q=>obtain⟨ps,e,t,r⟩:=x; exact⟨ps,k _ _ (.inl rfl) e,t,λcv z=>let ⟨c',oc,z1,z2,z3⟩:=r cv z; ⟨c',oc,z1,hf _ _ _ z2,z3⟩⟩
 | tbl ps =>
  have e:h.get? a=some { cls:=.none,data:=.fields ps }:=x;show h'.get? a=some { cls:=.none,data:=.fields ps };exact k a _ (.inl rfl) e
 | met f y =>
  have e:h.get? a=some (PySem.W.methodObj (.ref f) (.ref y)):=x;show h'.get? a=some (PySem.W.methodObj (.ref f) (.ref y));exact k a _ (.inl rfl) e
 | ext φ=>obtain⟨p,⟨o,e⟩,st⟩:=x; exact⟨st _ _ p λo q=>k _ _ (.inl rfl) q,⟨o,k _ _ (.inl rfl) e⟩,st⟩
theorem b8.lt(x:b8 P w H h)(e:H a=some o):a < h.objs.size:=(x a o e).lt
theorem b8.fresh(x:b8 P w H h)(e:h.objs.size<=a):H a=none:=by
 cases q:H a with
 | none=>rfl
 | some u=>exact absurd (Ww (x.lt q) e) (Q3 _)
theorem b8.kept(x:b8 P w H h)(k:∀ b u,h.get? b=some u->h'.get? b=some u):b8 P w H h':=λa o e =>
 (x a o e).jh (λb u _ q=>k b u q) (λ_ q=>q) (λ_ _ q=>q) λ_ _ _ q=>q
theorem b8.laid(x:b8 P w H h)(k:∀ b u,h.get? b=some u->h'.get? b=some u)(hp:h.objs.size<=a)(new:bq P w (upd H a o) h' a o):b8 P w (upd H a o) h':=λb u e=>by
 have hn:=x.fresh hp;by_cases hb:b=a
 ·subst hb; rw[b7] at e; cases e; exact new
 ·rw[aQ hb] at e;exact(x b u e).jh (λc v _ q=>k c v q) (λc q=>by rw[aQ (fD q hn)]; exact q) (λc xs q=>by rw[aQ (fD q hn)]; exact q) λc o u q=>by rw[aQ (fD q hn)]; exact q
end
def Rd(H:Hp)(a:Addr)(u:HO):Prop:=H a=some u\/∃ o,H a=some (.frz o u)
theorem Rd.of(h:H a=some u):Rd H a u:=.inl h
theorem Rd.ok(r:Rd H a u)(x:b8 P w H h):bq P w H h a u:=by
 rcases r with r | ⟨o,r⟩
 ·exact x a u r
 ·obtain⟨_,q⟩:=x a _ r;exact q
def ou:Option HO->Prop
 | some (.lst _)=>True
 | some (.dK _)=>True
 | some (.dT _)=>True
 | some (.set _ _)=>True
 | some (.ins _ _ _)=>True
 | some (.ext _)=>True
 | _=>False
section
variable {P:Wg} {w:Wm} {H:Hp} {h h':Heap} {x e:Addr} {o':HO}
theorem b8.write(ok:b8 P w H h)(mu:ou (H x))(he:e=x\/H e=some (.own x))(k:∀ b u,b≠e->h.get? b=some u->h'.get? b=some u)(mI:∃ u,h'.get? e=some u)
  (new:bq P w (upd H x o') h' x o'):b8 P w (upd H x o') h':=λb u q=>by
 have gz:∀ c y,H c=some (.own y)->c≠x:=λc y r z=>by subst z; rw[r] at mu; exact mu
 have Fx:∀ c xs,H c=some (.tup xs)->c≠x:=λc xs r z=>by subst z; rw[r] at mu; exact mu
 have Fy:∀ c o u,H c=some (.frz o u)->c≠x:=λc o u r z=>by subst z; rw[r] at mu; exact mu
 by_cases hb:b=x
 ·subst hb; rw[b7] at q; cases q; exact new
 ·rw[aQ hb] at q;by_cases hbe:b=e
  ·have q':H b=some (.own x):=by
    rcases he with z | z
    ·exact absurd (hbe.trans z) hb
    ·rw[hbe]; exact z
   rw[q] at q'; cases q'
   obtain⟨v,hv⟩:=mI;exact⟨v,by rw[hbe]; exact hv⟩
  ·refine(ok b u q).jh (λc v hc r=>k c v ?_ r) (λc r=>by rw[aQ (gz c b r)]; exact r) (λc xs r=>by rw[aQ (Fx c xs r)]; exact r) λc o u r=>by rw[aQ (Fy c o u r)]; exact r
   rcases hc with rfl | hc
   ·exact hbe
   ·rintro rfl;rcases he with z | z
    ·exact gz c b hc z
    ·rw[hc] at z; cases z; exact hb rfl
end
structure Un(fs ex:List Addr)(H H':Hp)(h h':Heap):Prop where
 keep:∀ b o,h.get? b=some o->H b=none->b ∉ fs->b ∉ ex->h'.get? b=some o
 slot:∀ b o,h.get? b=some o->H b=none->b ∈ fs->b ∉ ex->∃ sl,h'.get? b=some { o with slots:=sl }
 free:∀ b o,h.get? b=some o->H b=none->b ∉ ex->H' b=none
 there:∀ b o,h.get? b=some o->b ∉ ex->∃ o',h'.get? b=some o'
 gU:∀ b xs,H b=some (.tup xs)->H' b=some (.tup xs)
 fN:∀ b o u,H b=some (.frz o u)->H' b=some (.frz o u)
 gW:∀ b ps,H b=some (.tbl ps)->∃ more,H' b=some (.tbl (ps ++ more))
section
variable {fs Fz ex Ti:List Addr} {H H1 H2:Hp} {h h1 h2 h':Heap} {a x e:Addr} {o:HO}
theorem Un.any(u:Un fs ex H H1 h h1)(q:h.get? b=some ob)(n:H b=none)(hx:b ∉ ex):∃ sl,h1.get? b=some { ob with slots:=sl }:=by
 by_cases hb:b ∈ fs
 ·exact u.slot b ob q n hb hx
 ·exact⟨ob.slots,u.keep b ob q n hb hx⟩
theorem Un.kept(k:∀ b u,h.get? b=some u->h'.get? b=some u):Un fs ex H H h h' :=
 ⟨λb ob q _ _ _=>k b ob q,λb ob q _ _ _=>⟨ob.slots,k b ob q⟩,λ_ _ _ n _=>n,λb ob q _=>⟨ob,k b ob q⟩,λ_ _ q=>q,λ_ _ _ q=>q,λ_ ps q=>⟨#[],by rw[q]; simp⟩⟩
theorem Un.refl:Un fs ex H H h h:=Un.kept λ_ _ q=>q
theorem Un.laid(k:∀ b u,h.get? b=some u->h'.get? b=some u)(hp:h.objs.size<=a)(hn:H a=none):Un fs ex H (upd H a o) h h' where
 keep:=λb u q _ _ _=>k b u q
 slot:=λb u q _ _ _=>⟨u.slots,k b u q⟩
 free:=λb u q n _=>by rw[aQ (Wq (Ww (Wf q) hp))]; exact n
 there:=λb u q _=>⟨u,k b u q⟩
 gU:=λb xs q=>by rw[aQ (fD q hn)]; exact q
 fN:=λb u xs q=>by rw[aQ (fD q hn)]; exact q
 gW:=λb ps q=>⟨#[],by rw[aQ (fD q hn),q]; simp⟩
theorem Un.write(mu:ou (H x))(he:e=x\/H e=some (.own x))(k:∀ b u,b≠e->h.get? b=some u->h'.get? b=some u)(mI:∃ u,h'.get? e=some u):Un fs ex H (upd H x o) h h':=by
 have hx:∀ b,H b=none->b≠x:=λb n z=>by subst z; rw[n] at mu; exact mu
 have hb:∀ b,H b=none->b≠e:=λb n z=>by
  subst z;rcases he with r | r
  ·exact hx b n r
  ·rw[n] at r; cases r
 have hm:∀ b u,H b=some u->¬ ou (some u)->b≠x:=λb u q nm z=>by subst z; rw[q] at mu; exact nm mu
 refine⟨λb u q n _ _=>k b u (hb b n) q,λb u q n _ _=>⟨u.slots,k b u (hb b n) q⟩,λb u q n _=>by rw[aQ (hx b n)]; exact n,λb u q _=>?_,
  λb xs q=>by rw[aQ (hm b _ q λz=>z)]; exact q,λb u xs q=>by rw[aQ (hm b _ q λz=>z)]; exact q,λb ps q=>⟨#[],by rw[aQ (hm b _ q λz=>z),q]; simp⟩⟩
 by_cases hbe:b=e
 ·subst hbe; exact mI
 ·exact⟨u,k b u hbe q⟩
end
def qx(h:Heap)(H:Hp):List Addr:=(Wp h.objs.size).filter λa=>(H a).isSome
def fO(h:Heap)(H:Hp):Heap:=PySem.W.hideAll h (qx h H)
theorem zJ(h:Heap)(H:Hp):(fO h H).objs.size=h.objs.size:=PySem.W.hideAll_size _ _
theorem zK(e:h.get? b=some o)(n:H b=none):(fO h H).get? b=some o :=
 PySem.W.hideAll_get _ e λhm=>by
  have q:(H b).isSome=true:=(List.mem_filter.mp hm).2;rw[n] at q; simp at q
theorem zL(e:(fO h H).get? b=some o):h.get? b=some o/\H b=none:=by
 have e':h.get? b=some o:=PySem.W.of_hideAll (qx h H) e;refine⟨e',?_⟩
 cases q:H b with
 | none=>rfl
 | some x =>
  have hm:b ∈ qx h H:=List.mem_filter.mpr ⟨Q8.mpr (Wf e'),by simp[q]⟩;have z:(fO h H).get? b=none:=PySem.W.hideAll_none (qx h H) hm;rw[z] at e; cases e
def FA(g h:Heap)(L:Addr):List (Addr×Obj):=(Wp h.objs.size).filterMap λa=>if a=L\/(g.get? a).isSome=true then none else(h.get? a).map λo=>(a,o)
def rest(g h:Heap)(L d:Addr):List (Addr×Obj):=(FA g h L).filter λp=>decide (p.1≠d)
structure Mod(K:W1)(mg:Str->Option Value)(base:Heap):Prop where
 jL:K.In base
 glob:base.Ns Wn mg
 blt:∃ mb,base.Ns builtinsNs mb/\∀ x:Str,x≠"__name__"->mb x=Q9 x
 nolimit:base.NoLimit
structure Cx where
 prog:Wg
 w:Wm
 K:W1
 mg:Str->Option Value
 base:Heap
 A:Wl
 N:List Str
 s₀:W2
 H₀:Hp
 env:Env
 outer:List Env
 stack:List Env
 ex:List Addr
 fn:Str->Bool
 calm:Bool
 pn:List (Addr×Obj)
 xe:Value->W2->Prop
def dq(l:List Env):List Addr:=l.filterMap (·.frame)
abbrev Cx.fs(X:Cx):List Addr:=dq X.outer
def qy(sc:Scope)(x:Str):Prop:=sc.names.lookup x=some .local\/sc.names.lookup x=some .cell\/sc.names.lookup x=some .free
def Loc(sc:Scope)(x:Str):Prop:=sc.names.lookup x=some .local\/sc.names.lookup x=some .cell
def Look(env:Env)(h:Heap)(m:Str->Option Value)(x:Str)(u:Value):Prop :=
 (env.kindOf x=some .local/\m x=some u)\/((env.kindOf x=some .cell\/env.kindOf x=some .free)/\∃ c,env.cells.lookup x=some c/\h.IsCell c (some u))
structure Cx.Ok(X:Cx):Prop where
 mod:Mod X.K X.mg X.base
 kind:X.env.scope.kind = .function
 glob:X.env.globals=Wn
 blt:X.env.builtins=builtinsNs
 above:X.s₀.heap.objs.size<=X.env.locals
 inj:∀ x y c,X.env.cells.lookup x=some c->X.env.cells.lookup y=some c->x=y
 has:∀ x,(X.env.kindOf x=some .cell\/X.env.kindOf x=some .free)->∃ c,X.env.cells.lookup x=some c
 jM:∀ x c,X.fn x=true->X.env.cells.lookup x=some c->X.s₀.heap.objs.size<=c
 hd:X.calm=true->X.A.handled=none
 frames:X.A.frames=some X.stack
 lH:X.stack=X.outer\/(X.stack=X.env :: X.outer/\X.env.frame=some X.env.locals)
 lJ:∀ b ∈ X.ex,b≠X.env.locals/\∀ x c,X.env.cells.lookup x=some c->c≠b
 bs:∀ b o,X.base.get? b=some o->X.s₀.heap.get? b=some o/\X.H₀ b=none
 gc:X.base.objs.size<=X.s₀.heap.objs.size
 kC:∀ b o,X.base.get? b=some o->b ∉ X.ex
 kD:∀ b ∈ X.ex,b ∉ X.fs
 eT:X.s₀.heap.FunFrames X.base X.outer
 gX:∀ b ∈ X.fs,X.H₀ b=none
structure Inv(X:Cx)(pins:List (Addr×Obj))(σ:List (Option V))(H:Hp)(s:W2):Prop where
 ok:X.Ok
 os:s.os=X.s₀.os
 bare:AllBare s.gens
 base:Un X.fs X.ex X.H₀ H X.s₀.heap s.heap
 loc:∃ m,s.heap.Ns X.env.locals m/\∀ (i:Nat) (x:Str) (v:V),X.N[i]? = some x->σ[i]? = some (some v)->qy X.env.scope x->∃ u,RelV v u/\Look X.env s.heap m x u
 cell:∀ x c,X.env.cells.lookup x=some c->∃ v,s.heap.IsCell c v
 free:H X.env.locals=none
 du:∀ x c,X.env.cells.lookup x=some c->H c=none
 pin:∀ p ∈ X.pn ++ pins,s.heap.get? p.1=some p.2/\H p.1=none/\p.1≠X.env.locals/\p.1 ∉ X.fs/\∀ v,p.2.data≠.cell v
 ag:b8 X.prog X.w H s.heap
 len:σ.length=X.N.length
section
variable {X:Cx} {pins:List (Addr×Obj)} {σ:List (Option V)} {H H':Hp} {s:W2} {h':Heap}
theorem Cx.Ok.FC(ok:X.Ok)(e:X.base.get? b=some o):b ∉ X.fs:=λhb=>by
 have:=(ok.eT.mem hb).1;rw[e] at this; cases this
theorem Inv.bs(I:Inv X pins σ H s):∀ b o,X.base.get? b=some o->s.heap.get? b=some o/\H b=none:=λb o e =>
 ⟨I.base.keep b o (I.ok.bs b o e).1 (I.ok.bs b o e).2 (I.ok.FC e) (I.ok.kC b o e),I.base.free b o (I.ok.bs b o e).1 (I.ok.bs b o e).2 (I.ok.kC b o e)⟩
theorem Inv.bk(I:Inv X pins σ H s):∀ b o,X.base.get? b=some o->s.heap.get? b=some o:=λb o e=>(I.bs b o e).1
theorem Inv.mod(I:Inv X pins σ H s):Mod X.K X.mg X.base:=I.ok.mod
theorem Inv.cn(I:Inv X pins σ H s):X.K.In s.heap:=I.ok.mod.jL.keeps I.bk
theorem Inv.fr(I:Inv X pins σ H s):∃ m,Fr X.base X.env.locals s.heap m :=
 let ⟨m,hn,_⟩:=I.loc
 ⟨m,hn,I.bk,WQ I.ok.gc I.ok.above⟩
theorem Inv.lt(I:Inv X pins σ H s):X.env.locals < s.heap.objs.size:=let ⟨_,hn,_⟩:=I.loc; hn.lt
theorem Inv.sz(I:Inv X pins σ H s):X.s₀.heap.objs.size<=s.heap.objs.size:=WQ I.ok.above (Jk I.lt)
theorem Inv.zM(I:Inv X pins σ H s)(h:s.heap.objs.size<=a):a ∉ X.fs:=λhb=>by
 obtain⟨_,o,ho,_⟩:=I.ok.eT.mem hb;exact absurd (Ww (Wf ho) (WQ I.sz h)) (Q3 _)
theorem Inv.gY(I:Inv X pins σ H s):∀ x c,X.env.cells.lookup x=some c->c≠X.env.locals:=λx c e z=>by
 obtain⟨v,o,ho,hd⟩:=I.cell x c e;obtain⟨m,⟨o',es,ep,ho',hd',_⟩,_⟩:=I.loc;rw[z,ho'] at ho; cases ho; rw[hd'] at hd; cases hd
theorem Inv.eT(I:Inv X pins σ H s):s.heap.FunFrames X.base X.outer:=by
 have all:∀ (l:List Env),(∀ b ∈ dq l,b ∈ X.fs)->X.s₀.heap.FunFrames X.base l->s.heap.FunFrames X.base l:=by
  intro l;induction l with
  | nil=>intro _ _; trivial
  | cons env r ih =>
   intro hs hl;obtain⟨hk,⟨L,o,hf,hn,ho,hd⟩,hr⟩:=hl;have hL:L ∈ X.fs:=hs L (by unfold dq; rw[List.filterMap_cons,hf]; exact Wj);obtain⟨sl,e⟩:=I.base.slot L o ho (I.ok.gX L hL) hL λz=>I.ok.kD L z hL
   exact⟨hk,⟨L,_,hf,hn,e,hd⟩,ih (λb hb=>hs b (by unfold dq; rw[List.filterMap_cons,hf]; exact Wd _ hb)) hr⟩
 exact all X.outer (λ_ hb=>hb) I.ok.eT
theorem Inv.stack(I:Inv X pins σ H s):s.heap.FunFrames X.base X.stack:=by
 rcases I.ok.lH with e | ⟨e,hf⟩
 ·rw[e]; exact I.eT
 ·rw[e];obtain⟨m,hn,_⟩:=I.loc;refine .cons (by rw[I.ok.kind]; decide) hf hn ?_ I.eT;exact Jo (WQ I.ok.gc I.ok.above)
theorem Inv.mJ(I:Inv X pins σ H s):∀ b ∈ dq X.stack,b ∈ X.env.locals :: X.fs:=λb hb=>by
 rcases I.ok.lH with e | ⟨e,hf⟩
 ·rw[e] at hb; exact Wd _ hb
 ·rw[e] at hb;unfold dq at hb;rw[List.filterMap_cons,hf] at hb;exact hb
theorem Inv.qz(I:Inv X pins σ H s):∀ b ∈ dq X.stack,H b=none:=λb hb=>by
 rcases Wh.mp (I.mJ b hb) with e | hb
 ·rw[e]; exact I.free
 ·obtain⟨_,o,ho,_⟩:=I.ok.eT.mem hb;exact I.base.free b o ho (I.ok.gX b hb) λz=>I.ok.kD b z hb
theorem Inv.step{g':Array GenState}{t':Nat}{d':Drawn}{ch:List Addr}(I:Inv X pins σ H s)
  (ji:∀ b ∈ ch,(b ∈ X.ex\/X.s₀.heap.objs.size<=b)/\b≠X.env.locals/\(∀ x c,X.env.cells.lookup x=some c->c≠b)/\∀ p ∈ X.pn ++ pins,p.1≠b)
  (keep:∀ b o,b≠X.env.locals->b ∉ X.fs->b ∉ ch->s.heap.get? b=some o->H b=none->h'.get? b=some o)
  (slot:∀ b o,b≠X.env.locals->b ∈ X.fs->b ∉ ch->s.heap.get? b=some o->H b=none->∃ sl,h'.get? b=some { o with slots:=sl }) (free:∀ b o,b ∉ ch->s.heap.get? b=some o->H b=none->H' b=none)
  (there:∀ b o,b ∉ ch->s.heap.get? b=some o->∃ o',h'.get? b=some o')
  (gU:∀ b xs,H b=some (.tup xs)->H' b=some (.tup xs)) (fN:∀ b o u,H b=some (.frz o u)->H' b=some (.frz o u)) (gW:∀ b ps,H b=some (.tbl ps)->∃ more,H' b=some (.tbl (ps ++ more)))
  (ns:∀ m,s.heap.Ns X.env.locals m->h'.Ns X.env.locals m) (ag:b8 X.prog X.w H' h') (hg:AllBare g') :
  Inv X pins σ H' { s with heap:=h',gens:=g',drawn:=d',toks:=t' }:=by
 have lK:∀ b o,X.s₀.heap.get? b=some o->b≠X.env.locals:=λb o e=>Wq (Ww (Wf e) I.ok.above)
 have qA:∀ b o,X.s₀.heap.get? b=some o->b ∉ X.ex->b ∉ ch:=λb o e hx hb=>by
  rcases (ji b hb).1 with z | z
  ·exact hx z
  ·exact absurd (Ww (Wf e) z) (Q3 _)
 have cellK:∀ x c,X.env.cells.lookup x=some c->∀ v,s.heap.IsCell c v->h'.IsCell c v:=λx c e v ⟨o,ho,hd⟩=>by
  have oy:c ∉ ch:=λz=>(ji c z).2.2.1 x c e rfl
  by_cases hc:c ∈ X.fs
  ·obtain⟨sl,q⟩:=slot c o (I.gY x c e) hc oy ho (I.du x c e);exact⟨_,q,hd⟩
  ·exact⟨o,keep c o (I.gY x c e) hc oy ho (I.du x c e),hd⟩
 refine⟨I.ok,I.os,hg,⟨λb o e n hb hx=>?_,λb o e n hb hx=>?_,λb o e n hx=>?_,λb o e hx=>?_,λb xs e=>gU b xs (I.base.gU b xs e),λb o xs e=>fN b o xs (I.base.fN b o xs e),λb ps e=>?_⟩,?_,λx c e=>?_,?_,λx c e=>?_,λp hp=>?_,ag,I.len⟩
 ·exact keep b o (lK b o e) hb (qA b o e hx) (I.base.keep b o e n hb hx) (I.base.free b o e n hx)
 ·obtain⟨sl,e1⟩:=I.base.slot b o e n hb hx;obtain⟨sl',e2⟩:=slot b _ (lK b o e) hb (qA b o e hx) e1 (I.base.free b o e n hx);exact⟨sl',e2⟩
 ·obtain⟨o',e1⟩:=I.base.there b o e hx;exact free b o' (qA b o e hx) e1 (I.base.free b o e n hx)
 ·obtain⟨o',e1⟩:=I.base.there b o e hx;exact there b o' (qA b o e hx) e1
 ·obtain⟨m1,e1⟩:=I.base.gW b ps e;obtain⟨m2,e2⟩:=gW b _ e1;exact⟨m1 ++ m2,by rw[e2,Array.append_assoc]⟩
 ·obtain⟨m,hn,hl⟩:=I.loc;refine⟨m,ns m hn,λi x v e1 e2 e3=>?_⟩;obtain⟨u,r,l⟩:=hl i x v e1 e2 e3;refine⟨u,r,?_⟩;rcases l with l | ⟨k,c,e,z⟩
  ·exact .inl l
  ·exact .inr ⟨k,c,e,cellK x c e _ z⟩
 ·obtain⟨v,z⟩:=I.cell x c e;exact⟨v,cellK x c e v z⟩
 ·obtain⟨m,⟨o,_,_,ho,_⟩,_⟩:=I.loc;exact free _ o (λz=>(ji _ z).2.1 rfl) ho I.free
 ·obtain⟨v,o,ho,hd⟩:=I.cell x c e;exact free c o (λz=>(ji c z).2.2.1 x c e rfl) ho (I.du x c e)
 ·obtain⟨e,n,ne,nf,d⟩:=I.pin p hp;have oy:p.1 ∉ ch:=λz=>(ji p.1 z).2.2.2 p hp rfl
  exact⟨keep p.1 p.2 ne nf oy e n,free p.1 p.2 oy e n,ne,nf,d⟩
theorem Inv.un{t':Nat}(I:Inv X pins σ H s)(u:Un X.fs [] H H' s.heap h')(ag:b8 X.prog X.w H' h'):Inv X pins σ H' { s with heap:=h',toks:=t' }:=by
 obtain⟨m,⟨o,es,ep,ho,r⟩,_⟩:=id I.loc;obtain⟨sl,hL⟩:=u.any ho I.free (by simp);exact I.step (g':=s.gens) (d':=s.drawn) (ch:=[]) (λ_ z=>nomatch z) (λb o _ hb _ e n=>u.keep b o e n hb (by simp)) (λb o _ hb _ e n=>u.slot b o e n hb (by simp)) (λb o _ e n=>u.free b o e n (by simp)) (λb o _ e=>u.there b o e (by simp)) u.gU u.fN u.gW (λm' hm=>by
  obtain⟨o',es',ep',ho',r'⟩:=hm;rw[ho] at ho'; cases ho'
  exact⟨_,es',ep',hL,r'⟩) ag I.bare
theorem Inv.call{g':Array GenState}{t':Nat}{d':Drawn}{ch:List Addr}(I:Inv X pins σ H s)(u:Un (dq X.stack) ch H H' s.heap h')(ag:b8 X.prog X.w H' h')(hg:AllBare g')
  (ji:∀ b ∈ ch,(b ∈ X.ex\/X.s₀.heap.objs.size<=b)/\b≠X.env.locals/\(∀ x c,X.env.cells.lookup x=some c->c≠b)/\∀ p ∈ X.pn ++ pins,p.1≠b) :
  Inv X pins σ H' { s with heap:=h',gens:=g',drawn:=d',toks:=t' }:=by
 obtain⟨m,⟨o,es,ep,ho,r⟩,_⟩:=id I.loc;obtain⟨sl,hL⟩:=u.any ho I.free λz=>(ji _ z).2.1 rfl
 exact I.step (ch:=ch) ji (λb o hL hb hc e n=>u.keep b o e n (λz=>(Wh.mp (I.mJ b z)).elim hL hb) hc) (λb o _ _ hc e n=>u.any e n hc) (λb o hc e n=>u.free b o e n hc) (λb o hc e=>u.there b o e hc) u.gU u.fN u.gW (λm' hm=>by
  obtain⟨o',es',ep',ho',r'⟩:=hm;rw[ho] at ho'; cases ho'
  exact⟨_,es',ep',hL,r'⟩) ag hg
theorem Inv.turned{t':Nat}{it:Addr}(I:Inv X pins σ H s)(k:∀ b o,b≠it->s.heap.get? b=some o->h'.get? b=some o)(hn:H it=none)(hL:it≠X.env.locals)
  (h1:it ∈ X.ex\/X.s₀.heap.objs.size<=it) (h2:∀ x c,X.env.cells.lookup x=some c->c≠it) (h3:∀ p ∈ X.pn ++ pins,p.1≠it):Inv X pins σ H { s with heap:=h',toks:=t' }:=by
 have kE:∀ b u,H b=some u->b≠it:=λb u e z=>by rw[z,hn] at e; cases e
 refine I.step (g':=s.gens) (d':=s.drawn) (ch:=[it]) (λb hb=>?_) (λb o _ _ hc e _=>k b o (λz=>hc (by simp[z])) e) (λb o _ _ hc e _=>⟨o.slots,k b o (λz=>hc (by simp[z])) e⟩) (λ_ _ _ _ n=>n)
  (λb o hc e=>⟨o,k b o (λz=>hc (by simp[z])) e⟩) (λ_ _ e=>e) (λ_ _ _ e=>e) (λb ps e=>⟨#[],by rw[e]; simp⟩) (λm hm=>?_) (λb u e=>?_) I.bare
 ·have e:b=it:=by simpa using hb
  subst e;exact⟨h1,hL,h2,h3⟩
 ·obtain⟨o,es,ep,ho,r⟩:=hm;exact⟨o,es,ep,k _ o (Ne.symm hL) ho,r⟩
 ·refine(I.ag b u e).jh (λc v hc q=>k c v ?_ q) (λ_ q=>q) (λ_ _ q=>q) λ_ _ _ q=>q
  rcases hc with z | z
  ·rw[z]; exact kE b u e
  ·exact kE c _ z
theorem Inv.tok(I:Inv X pins σ H s)(t:Nat):Inv X pins σ H { s with toks:=t }:=I.un (h':=s.heap) (t':=t) Un.refl I.ag
theorem Inv.kept(I:Inv X pins σ H s)(k:∀ b u,s.heap.get? b=some u->h'.get? b=some u):Inv X pins σ H { s with heap:=h',toks:=t' }:=I.un (Un.kept k) (I.ag.kept k)
theorem Inv.laid(I:Inv X pins σ H s)(k:∀ b u,s.heap.get? b=some u->h'.get? b=some u)(hp:s.heap.objs.size<=a)(new:bq X.prog X.w (upd H a o) h' a o) :
  Inv X pins σ (upd H a o) { s with heap:=h',toks:=t' }:=I.un (Un.laid k hp (I.ag.fresh hp)) (I.ag.laid k hp new)
theorem Inv.write(I:Inv X pins σ H s)(mu:ou (H x))(he:e=x\/H e=some (.own x))(k:∀ b u,b≠e->s.heap.get? b=some u->h'.get? b=some u)(mI:∃ u,h'.get? e=some u)
  (new:bq X.prog X.w (upd H x o) h' x o):Inv X pins σ (upd H x o) { s with heap:=h',toks:=t' }:=I.un (Un.write mu he k mI) (I.ag.write mu he k mI new)
theorem Inv.weak(I:Inv X pins σ H s)(hl:σ'.length=σ.length)(w:∀ (i:Nat) v,σ'[i]? = some (some v)->σ[i]? = some (some v)):Inv X pins σ' H s :=
 ⟨I.ok,I.os,I.bare,I.base,let ⟨m,hn,jN⟩:=I.loc; ⟨m,hn,λi x v e1 e2 e3=>jN i x v e1 (w i v e2) e3⟩,I.cell,I.free,I.du,I.pin,I.ag,hl.trans I.len⟩
theorem Inv.zN(I:Inv X pins σ H s)(h:∀ p ∈ pins',s.heap.get? p.1=some p.2/\H p.1=none/\p.1≠X.env.locals/\p.1 ∉ X.fs/\∀ v,p.2.data≠.cell v):Inv X pins' σ H s :=
 ⟨I.ok,I.os,I.bare,I.base,I.loc,I.cell,I.free,I.du,λp hp=>(Jw.mp hp).elim (λz=>I.pin p (QZ _ z)) (h p),I.ag,I.len⟩
theorem tV{N:List Str}(hN:N.Nodup){i j:Nat}{x:Str}(a:N[i]? = some x)(b:N[j]? = some x):i=j:=by
 obtain⟨h1,e1⟩:=We.mp a;obtain⟨h2,e2⟩:=We.mp b;exact(List.getElem_inj hN).mp (e1.trans e2.symm)
theorem qC{M:Model}{A:Wl}{E:Value->W2->Prop}{i:Nat}{x:Str}{v:V}{u:Value}{Q:Unit->W2->Prop}(I:Inv X pins σ H s)(hN:X.N.Nodup)(hi:X.N[i]? = some x)(hx:Loc X.env.scope x)(r:RelV v u)
  (h:∀ s',Inv X pins (σ.set i (some v)) H s'->(∃ a,J5 a s.heap s'.heap/\(a=X.env.locals\/X.env.cells.lookup x=some a))->Q () s') (hf:X.fn x=true\/X.env.scope.names.lookup x=some .local:=by first | exact .inl rfl | exact .inr rfl | assumption):W6 M A (storeName X.env x u) Q E s:=by
 obtain⟨m,hn,hl⟩:=id I.loc;have FD:(X.env.scope.kind == .class || (X.env.scope.kind == .module && X.env.locals != X.env.globals))=false:=by rw[I.ok.kind]; rfl
 have oz:i < σ.length:=by rw[I.len]; exact(We.mp hi).1
 have gY:=I.gY;have tracked:∀ {a:Addr} {h':Heap},(∃ o,s.heap.get? a=some o/\H a=none)->J5 a s.heap h'->b8 X.prog X.w H h':=λ{a h'} ha hs b ob e=>by
  obtain⟨_,_,lL⟩:=ha;refine(I.ag b ob e).jh (λc w' hc q=>(hs.2 c ?_).trans q) (λ_ q=>q) (λ_ _ q=>q) λ_ _ _ q=>q
  rintro rfl;rcases hc with rfl | hc
  ·rw[lL] at e; cases e
  ·rw[lL] at hc; cases hc
 rcases hx with hk | hk
 ·refine wpAny_storeName_local hk hn (λh' kF hs=>?_) FD;obtain⟨oL,_,_,hoL,_⟩:=id hn;refine h _ ⟨I.ok,I.os,I.bare,⟨λb o e n hb hx=>?_,λb o e n hb hx=>?_,I.base.free,λb o e hx=>?_,I.base.gU,I.base.fN,I.base.gW⟩,⟨_,kF,λj y v' e1 e2 e3=>?_⟩,λy c e=>?_,I.free,I.du,λp hp=>?_,tracked ⟨oL,hoL,I.free⟩ hs,by simpa using I.len⟩ ⟨_,hs,.inl rfl⟩
  ·exact(hs.2 b (Wq (Ww (Wf e) I.ok.above))).trans (I.base.keep b o e n hb hx)
  ·obtain⟨sl,e1⟩:=I.base.slot b o e n hb hx;exact⟨sl,(hs.2 b (Wq (Ww (Wf e) I.ok.above))).trans e1⟩
  ·obtain⟨o',e1⟩:=I.base.there b o e hx;exact⟨o',(hs.2 b (Wq (Ww (Wf e) I.ok.above))).trans e1⟩
  ·by_cases hj:j=i
   ·subst hj;rw[hi] at e1; cases e1
    rw[Wk oz] at e2
    cases e2;exact⟨u,r,.inl ⟨hk,by simp⟩⟩
   ·rw[W7 (Ne.symm hj)] at e2;obtain⟨u',r',q⟩:=hl j y v' e1 e2 e3;refine⟨u',r',?_⟩;rcases q with ⟨k,e⟩ | ⟨k,c,e,z⟩
    ·refine .inl ⟨k,?_⟩;have:y≠x:=λe=>hj (tV hN e1 (e ▸ hi))
     simp[this,e]
    ·exact .inr ⟨k,c,e,z.sameBut hs (gY y c e)⟩
  ·obtain⟨w',z⟩:=I.cell y c e;exact⟨w',z.sameBut hs (gY y c e)⟩
  ·obtain⟨e,n,ne,nf,d⟩:=I.pin p hp;exact⟨(hs.2 p.1 ne).trans e,n,ne,nf,d⟩
 ·have e_:X.fn x=true:=by
   rcases hf with z | z
   ·exact z
   ·rw[z] at hk; cases hk
  obtain⟨c,hc⟩:=I.ok.has x (.inl hk);obtain⟨w',z⟩:=I.cell x c hc;refine wpAny_storeName_cell I.ok.kind hk hc z (λh' gA hs=>?_);obtain⟨oc,hoc,hocd⟩:=id z;refine h { s with heap:=h' } ⟨I.ok,I.os,I.bare,⟨λb o e n hb hx=>?_,λb o e n hb hx=>?_,I.base.free,λb o e hx=>?_,I.base.gU,I.base.fN,I.base.gW⟩,⟨m,hn.sameBut hs (Ne.symm (gY x c hc)),λj y v' e1 e2 e3=>?_⟩,λy c' e=>?_,I.free,I.du,λp hp=>?_,tracked ⟨oc,hoc,I.du x c hc⟩ hs,by simpa using I.len⟩ ⟨c,hs,.inr hc⟩
  ·exact(hs.2 b (Wq (Ww (Wf e) (I.ok.jM x c e_ hc)))).trans (I.base.keep b o e n hb hx)
  ·obtain⟨sl,e1⟩:=I.base.slot b o e n hb hx;exact⟨sl,(hs.2 b (Wq (Ww (Wf e) (I.ok.jM x c e_ hc)))).trans e1⟩
  ·obtain⟨o',e1⟩:=I.base.there b o e hx;exact⟨o',(hs.2 b (Wq (Ww (Wf e) (I.ok.jM x c e_ hc)))).trans e1⟩
  ·by_cases hj:j=i
   ·subst hj;rw[hi] at e1; cases e1
    rw[Wk oz] at e2
    cases e2;exact⟨u,r,.inr ⟨.inl hk,c,hc,gA⟩⟩
   ·rw[W7 (Ne.symm hj)] at e2;obtain⟨u',r',q⟩:=hl j y v' e1 e2 e3;refine⟨u',r',?_⟩;rcases q with q | ⟨k,c',e,z'⟩
    ·exact .inl q
    ·refine .inr ⟨k,c',e,z'.sameBut hs ?_⟩;rintro rfl;exact hj (tV hN e1 (I.ok.inj _ _ _ e hc ▸ hi))
  ·by_cases hcc:c'=c
   ·subst hcc; exact⟨_,gA⟩
   ·obtain⟨w2,z2⟩:=I.cell y c' e;exact⟨w2,z2.sameBut hs hcc⟩
  ·obtain⟨e,n,ne,nf,d⟩:=I.pin p hp;refine⟨(hs.2 p.1 ?_).trans e,n,ne,nf,d⟩;intro q;rw[q,hoc] at e;have q':oc=p.2:=WB e;exact d w' (by rw[<- q']; exact hocd)
theorem zO(I:Inv X pins σ H s)(hN:X.N.Nodup)(hi:X.N[i]? = some x)(hx:Loc X.env.scope x)(r:RelV v u)
  (h:∀ s',Inv X pins (σ.set i (some v)) H s'->Q () s') (hf:X.fn x=true\/X.env.scope.names.lookup x=some .local:=by first | exact .inl rfl | exact .inr rfl | assumption):W6 M A (storeName X.env x u) Q E s :=
 qC I hN hi hx r (λs' I' _=>h s' I') hf
theorem Inv.zP(I:Inv X pins σ H s)(ho:s'.os=s.os)(u:Un (dq X.stack) ch H H' s.heap s'.heap)(ag:b8 X.prog X.w H' s'.heap)(hg:AllBare s'.gens)
  (ji:∀ b ∈ ch,(b ∈ X.ex\/X.s₀.heap.objs.size<=b)/\b≠X.env.locals/\(∀ x c,X.env.cells.lookup x=some c->c≠b)/\∀ p ∈ X.pn ++ pins,p.1≠b):Inv X pins σ H' s':=by
 obtain⟨h',g',d',t',o'⟩:=s';have e:o'=s.os:=ho;subst e;exact I.call (g':=g') (t':=t') (d':=d') u ag hg ji
end
abbrev XK:=Value->Option Addr->Hp->Prop
abbrev St:=List (Option V)
abbrev VK:=V->Hp->Prop
abbrev TE:=St->Hp->VK->Prop
abbrev TT:=St->Hp->(Bool->Hp->Prop)->Prop
abbrev TA:=St->Hp->(List V->Hp->Prop)->Prop
structure Ends where
 nx:St->Hp->Prop
 rt:VK
 bk:St->Hp->Prop:=λ_ _=>False
 ct:St->Hp->Prop:=λ_ _=>False
abbrev TS:=Ends->St->Hp->Prop
def EP(X:Cx)(pins:List (Addr×Obj))(σ:St)(Q:VK)(u:Value)(s':W2):Prop:=∃ v H',Inv X pins σ H' s'/\RelV v u/\Q v H'
def TP(X:Cx)(pins:List (Addr×Obj))(σ:St)(Q:Bool->Hp->Prop)(b:Bool)(s':W2):Prop:=∃ H',Inv X pins σ H' s'/\Q b H'
def AP(X:Cx)(pins:List (Addr×Obj))(σ:St)(Q:List V->Hp->Prop)(us:List Value)(s':W2):Prop:=∃ vs H',Inv X pins σ H' s'/\Vals vs us/\Q vs H'
def SP(X:Cx)(pins:List (Addr×Obj))(D:Ends)(f:Flow)(s':W2):Prop :=
 match f with
 | .next=>∃ σ' H',Inv X pins σ' H' s'/\D.nx σ' H'
 | .brk=>∃ σ' H',Inv X pins σ' H' s'/\D.bk σ' H'
 | .cont=>∃ σ' H',Inv X pins σ' H' s'/\D.ct σ' H'
 | .ret u=>∃ v σ' H',Inv X pins σ' H' s'/\RelV v u/\D.rt v H'
def PE(X:Cx)(e:Expr)(t:TE):Prop :=
 ∀ (pins:List (Addr×Obj)) (s:W2) (σ:St) (H:Hp) (Q:VK),Inv X pins σ H s->t σ H Q->W6 (model X.prog X.w) X.A (eval e X.env) (EP X pins σ Q) X.xe s
def PT(X:Cx)(e:Expr)(t:TT):Prop :=
 ∀ (pins:List (Addr×Obj)) (s:W2) (σ:St) (H:Hp) (Q:Bool->Hp->Prop),Inv X pins σ H s->t σ H Q->W6 (model X.prog X.w) X.A (isTrue e X.env (eval e X.env)) (TP X pins σ Q) X.xe s
def PW(X:Cx)(e:Expr)(t:TT):Prop :=
 ∀ (whole:Sem Value) (pins:List (Addr×Obj)) (s:W2) (σ:St) (H:Hp) (Q:Bool->Hp->Prop),Inv X pins σ H s->t σ H Q->W6 (model X.prog X.w) X.A (isTrue e X.env whole) (TP X pins σ Q) X.xe s
theorem PW.pt(h:PW X e t):PT X e t:=h _
def PA(X:Cx)(es:List Expr)(t:TA):Prop :=
 ∀ (pos:Pos) (pins:List (Addr×Obj)) (s:W2) (σ:St) (H:Hp) (Q:List V->Hp->Prop),Inv X pins σ H s->t σ H Q->W6 (model X.prog X.w) X.A (spliced (WN pos (W5 es X.env))) (AP X pins σ Q) X.xe s
def PS(X:Cx)(st:Stmt)(t:TS):Prop :=
 ∀ (pins:List (Addr×Obj)) (s:W2) (σ:St) (H:Hp) (D:Ends),Inv X pins σ H s->t D σ H->W6 (model X.prog X.w) X.A (exec st X.env) (SP X pins D) X.xe s
def cX(X:Cx)(st:List Stmt)(t:TS):Prop :=
 ∀ (pins:List (Addr×Obj)) (s:W2) (σ:St) (H:Hp) (D:Ends),Inv X pins σ H s->t D σ H->W6 (model X.prog X.w) X.A (execs st X.env) (SP X pins D) X.xe s
theorem aH(h:W6 M A t Q E s)(hQ:∀ a s,Q a s->Q' a s):W6 M A t Q' E s:=WC h hQ λ_ _ x=>x
section
variable {X:Cx}
theorem bin{a b:Expr}{ta tb:TE}(ha:PE X a ta)(hb:PE X b tb){pins:List (Addr×Obj)}{s:W2}{σ:St}{H:Hp}{R:V->V->Hp->Prop}(I:Inv X pins σ H s)(h:ta σ H λx H1=>tb σ H1 λy H2=>R x y H2)
  {α:Type} {Q:α->W2->Prop} {f:Value->Value->Sem α}
  (hf:∀ v u s2 x y H2,Inv X pins σ H2 s2->RelV x v->RelV y u->R x y H2->W6 (model X.prog X.w) X.A (f v u) Q X.xe s2) :
  W6 (model X.prog X.w) X.A (eval a X.env) (λv s₁=>W6 (model X.prog X.w) X.A (eval b X.env) (λu s₂=>W6 (model X.prog X.w) X.A (f v u) Q X.xe s₂) X.xe s₁) X.xe s:=by
 refine aH (ha pins s σ H _ I h) λv s1 ⟨x,H1,I1,r1,q1⟩=>?_
 refine aH (hb pins s1 σ H1 _ I1 q1) λu s2 ⟨y,H2,I2,r2,q2⟩=>?_
 exact hf v u s2 x y H2 I2 r1 r2 q2
def cY(i:Nat):TE:=λσ H Q=>∃ v,σ[i]? = some (some v)/\Q v H
def tC(v:V):TE:=λ_ H Q=>Q v H
theorem FE (hN:X.N[i]? = some x) (hv:qy X.env.scope x) (hd:(x == ("__debug__" : Str))=false:=by decide) (cC:(x == ("__classdict__" : Str))=false:=by decide):PE X (.Name x pos) (cY i):=by
 intro pins s σ H Q I h;obtain⟨v,e,h⟩:=h;obtain⟨m,hn,hl⟩:=I.loc;obtain⟨u,r,l⟩:=hl i x v hN e hv;have fin:EP X pins σ Q u s:=⟨v,H,I,r,h⟩
 rcases l with ⟨hk,hm⟩ | ⟨hk,c,hc,hcell⟩
 ·exact wpAny_Name (wpAny_loadName_local I.ok.kind hk hn hm fin) hd
 ·rcases hk with hk | hk
  ·exact wpAny_Name (wpAny_loadName_cell I.ok.kind hk hc hcell fin) hd
  ·exact wpAny_Name (wpAny_loadName_free I.ok.kind hk hc hcell fin cC) hd
theorem FF{i j pos}:PE X (.Constant (.int i) j pos) (tC (.int i)):=λ_ _ _ H _ I h=>wpAny_Constant_int ⟨.int i,H,I.tok _,⟨_,rfl⟩,h⟩
theorem tW{b j pos}:PE X (.Constant (.bool b) j pos) (tC (.bl b)):=λ_ _ _ H _ I h=>Constant_bool ⟨.bl b,H,I,rfl,h⟩
theorem FG{j pos}:PE X (.Constant .none j pos) (tC .aq):=λ_ _ _ H _ I h=>Constant_none ⟨.aq,H,I,rfl,h⟩
theorem zQ{x j pos}:PE X (.Constant (.str x) j pos) (tC (.str x)):=λ_ _ _ H _ I h=>Calls.Constant_str ⟨.str x,H,I.tok _,⟨_,rfl⟩,h⟩
def Gl(X:Cx)(x:Str):Prop:=X.env.kindOf x=some .globalImplicit
theorem lM(I:Inv X pins σ H s)(hg:Gl X x)(hm:X.mg x=some u)(h:Q u s)
  (hd:(x == ("__debug__" : Str))=false:=by decide):W6 (model X.prog X.w) X.A (eval (.Name x pos) X.env) Q E s :=
 Calls.Name_function_global I.ok.kind hg (Calls.loadGlobal_global (by rw[I.ok.glob]; exact I.mod.glob.keeps I.bk) hm h) hd
theorem mK(I:Inv X pins σ H s)(hg:Gl X x)(hm:X.mg x=none)(hv:Q9 x=some u)(h:Q u s)
  (hn:x≠"__name__":=by decide) (hd:(x == ("__debug__" : Str))=false:=by decide):W6 (model X.prog X.w) X.A (eval (.Name x pos) X.env) Q E s:=by
 obtain⟨mb,h1,h2⟩:=I.mod.blt;exact Calls.Name_function_global I.ok.kind hg (Calls.loadGlobal_builtin (by rw[I.ok.glob]; exact I.mod.glob.keeps I.bk) hm (by rw[I.ok.blt]; exact h1.keeps I.bk) ((h2 x hn).trans hv) h) hd
theorem zR (hg:Gl X x) (hm:X.mg x=none) (hv:Q9 x=some u) (r:RelV v u) (hn:x≠"__name__":=by decide) (hd:(x == ("__debug__" : Str))=false:=by decide):PE X (.Name x pos) (tC v) :=
 λ_ _ _ H _ I h=>mK I hg hm hv ⟨v,H,I,r,h⟩ hn hd
variable {a b:Expr} {ta tb:TE} {pos:Pos}
def PC(X:Cx)(op:CmpOp)(a b:Expr)(t:TE):Prop :=
 ∀ (pins:List (Addr×Obj)) (s:W2) (σ:St) (H:Hp) (Q:VK),Inv X pins σ H s->t σ H Q ->
  W6 (model X.prog X.w) X.A (eval a X.env) (λv s₁=>W6 (model X.prog X.w) X.A (eval b X.env) (λu s₂=>W6 (model X.prog X.w) X.A (WO op v u) (EP X pins σ Q) X.xe s₂) X.xe s₁) X.xe s
theorem FH(b:Expr)(h:op≠.In)(h2:op≠.NotIn):Qp op b=false:=by
 have e1:(op == CmpOp.In)=false:=by cases op <;> first | rfl | exact absurd rfl h
 have e2:(op == CmpOp.NotIn)=false:=by cases op <;> first | rfl | exact absurd rfl h2
 cases b <;> simp[Qp,e1,e2]
def tB(t:TE):TT:=λσ H Q=>t σ H λx H1=>∃ c,x = .bl c/\Q c H1
theorem Tj(h:PC X op a b t)(h1:Qp op b=false:=by first | exact FH _ (by decide) (by decide) | rfl):PT X (.Compare a [op] [b] pos) (tB t):=by
 intro pins s σ H Q I hw;refine wpAny_isTrue_Compare1 (aH (h pins s σ H _ I hw) λv s1 h1=>aH h1 λu s2 h2=>aH h2 λc s3 ⟨x,H1,I1,r1,q1⟩=>?_) h1;obtain⟨d,rfl,q⟩:=q1
 cases r1;exact Qv ⟨H1,I1,q⟩
theorem FI(h:PE X e t)(he:∀ whole,isTrue e X.env whole=(do let v <- whole; standAt e.pos; holding [v] (truthy v)):=by intro _; rfl):PT X e (tB t):=by
 intro pins s σ H Q I hw;refine isTrue_plain (aH (h pins s σ H _ I hw) λv s1 ⟨x,H1,I1,r1,q1⟩=>?_) (he _);obtain⟨d,rfl,q⟩:=q1
 cases r1;exact Qv ⟨H1,I1,q⟩
variable {tA qD:TT} {rest:List Expr}
def FJ(t u:TT):TT:=λσ H Q=>t σ H λc H1=>if c=true then u σ H1 Q else Q false H1
def FK(t u:TT):TT:=λσ H Q=>t σ H λc H1=>if c=true then Q true H1 else u σ H1 Q
def FL(t:TT):TT:=λσ H Q=>t σ H λc H1=>Q (!c) H1
theorem FN(ha:PT X a tA):PW X (.BoolOp .And [a] pos) tA:=by
 intro wh pins s σ H Q I h;refine isTrue_and (aH (ha pins s σ H Q I h) λc s1 e=>?_)
 cases c with
 | true=>exact isTrue_and_nil e
 | false=>exact e
theorem FO(ha:PT X a tA):PW X (.BoolOp .Or [a] pos) tA:=by
 intro wh pins s σ H Q I h;refine isTrue_or (aH (ha pins s σ H Q I h) λc s1 e=>?_)
 cases c with
 | false=>exact isTrue_or_nil e
 | true=>exact e
theorem FP(ha:PT X a tA)(hb:PW X (.BoolOp .And (b :: rest) pos) qD):PW X (.BoolOp .And (a :: b :: rest) pos) (FJ tA qD):=by
 intro wh pins s σ H Q I h;refine isTrue_and (aH (ha pins s σ H _ I h) λc s1 ⟨H1,I1,q1⟩=>?_)
 cases c with
 | true=>exact hb wh pins s1 σ H1 Q I1 q1
 | false=>exact⟨H1,I1,q1⟩
theorem pw_or(ha:PT X a tA)(hb:PW X (.BoolOp .Or (b :: rest) pos) qD):PW X (.BoolOp .Or (a :: b :: rest) pos) (FK tA qD):=by
 intro wh pins s σ H Q I h;refine isTrue_or (aH (ha pins s σ H _ I h) λc s1 ⟨H1,I1,q1⟩=>?_)
 cases c with
 | true=>exact⟨H1,I1,q1⟩
 | false=>exact hb wh pins s1 σ H1 Q I1 q1
theorem FQ(ha:PT X a tA):PT X (.UnaryOp .Not a pos) (FL tA):=by
 intro pins s σ H Q I h;exact isTrue_not (ha pins s σ H (λc H1=>Q (!c) H1) I h)
def FR(ta tb:TE):TE:=λσ H Q=>ta σ H λx H1=>∃ c,x = .bl c/\if c=true then tb σ H1 Q else Q (.bl false) H1
def FU(ta tb:TE):TE:=λσ H Q=>ta σ H λx H1=>∃ c,x = .bl c/\if c=true then Q (.bl true) H1 else tb σ H1 Q
def FV(ta:TE):TE:=λσ H Q=>ta σ H λx H1=>∃ c,x = .bl c/\Q (.bl (!c)) H1
theorem FW{op}(h:PE X a t):PE X (.BoolOp op [a] pos) t:=λpins s σ H Q I hw=>BoolOp_one (h pins s σ H Q I hw)
theorem FX(ha:PE X a ta)(hb:PE X (.BoolOp .And (b :: rest) pos) tb):PE X (.BoolOp .And (a :: b :: rest) pos) (FR ta tb):=by
 intro pins s σ H Q I h;refine BoolOp_and (aH (ha pins s σ H _ I h) λv s1 ⟨x,H1,I1,r1,q1⟩=>?_);obtain⟨c,rfl,q1⟩:=q1
 cases r1;refine Qv ?_
 cases c with
 | true=>exact hb pins s1 σ H1 Q I1 q1
 | false=>exact⟨.bl false,H1,I1,rfl,q1⟩
theorem FY(ha:PE X a ta)(hb:PE X (.BoolOp .Or (b :: rest) pos) tb):PE X (.BoolOp .Or (a :: b :: rest) pos) (FU ta tb):=by
 intro pins s σ H Q I h;refine BoolOp_or (aH (ha pins s σ H _ I h) λv s1 ⟨x,H1,I1,r1,q1⟩=>?_);obtain⟨c,rfl,q1⟩:=q1
 cases r1;refine Qv ?_
 cases c with
 | false=>exact hb pins s1 σ H1 Q I1 q1
 | true=>exact⟨.bl true,H1,I1,rfl,q1⟩
theorem FZ(ha:PE X a ta):PE X (.UnaryOp .Not a pos) (FV ta):=by
 intro pins s σ H Q I h;refine UnaryOp_ (aH (ha pins s σ H _ I h) λv s1 ⟨x,H1,I1,r1,q1⟩=>?_);obtain⟨c,rfl,q1⟩:=q1
 cases r1;exact not_of (Qv ⟨.bl (!c),H1,I1,rfl,q1⟩)
end
def cg(K:W1)(H:Hp)(a:Addr)(xs:List V):Prop :=
 Rd H a (.lst xs) \/
  ∃ (o:Obj) (aa:Array Value) (n:Nat),K.lookup a=some o/\o.cls = .type "list"/\o.dict=none/\o.data = .seq aa n/\aa.size<=Wa/\Vals xs aa.toList
def cD(K:W1)(H:Hp)(a:Addr)(xs:List V):Prop :=
 Rd H a (.tup xs) \/
  ∃ (o:Obj) (aa:Array Value) (n:Nat),K.lookup a=some o/\o.cls = .type "tuple"/\o.data = .seq aa n/\aa.size<=Wa/\Vals xs aa.toList
def F_:Value->Option V
 | .none=>some .aq
 | .bool b=>some (.bl b)
 | .int i _=>some (.int i)
 | .str x _=>some (.str x)
 | .bytes b _=>some (.byt b)
 | .float b _=>some (.flt b)
 | .ref a=>some (.ref a)
 | .type n=>some (.ty n)
 | _=>none
theorem RelV.abs(r:RelV x u):F_ u=some x:=by
 cases x with
 | aq=>cases r; rfl
 | bl _=>cases r; rfl
 | int _=>obtain⟨t,rfl⟩:=r; rfl
 | str _=>obtain⟨t,rfl⟩:=r; rfl
 | byt _=>obtain⟨t,rfl⟩:=r; rfl
 | flt _=>obtain⟨t,rfl⟩:=r; rfl
 | ref _=>cases r; rfl
 | ty _=>cases r; rfl
theorem RelV.inj(r:RelV x u)(q:RelV y u):x=y:=WB (r.abs.symm.trans q.abs)
theorem Vals.inj:∀ {xs ys:List V} {us:List Value},Vals xs us->Vals ys us->xs=ys
 | _,_,_,.nil,.nil=>rfl
 | _,_,_,.cons r t,.cons r' t'=>by rw[r.inj r',Vals.inj t t']
section
variable {X:Cx} {pins:List (Addr×Obj)} {σ:St} {H:Hp} {s:W2} {a:Addr} {xs ys:List V}
theorem cg.of{K:W1}(h:H a=some (.lst xs)):cg K H a xs:=.inl (.inl h)
theorem cD.of{K:W1}(h:H a=some (.tup xs)):cD K H a xs:=.inl (.inl h)
theorem Inv.list(I:Inv X pins σ H s)(h:cg X.K H a xs):∃ aa:List Value,Vals xs aa/\PlainL s.heap a aa.toArray/\xs.length<=Wa:=by
 rcases h with h | ⟨o,aa,n,hk,hc,hd,hs,hz,r⟩
 ·obtain⟨z,aa,n,r,e⟩:=h.ok I.ag;exact⟨aa,r,⟨_,n,e,rfl,rfl,rfl⟩,z⟩
 ·refine⟨aa.toList,r,⟨o,n,I.cn a o hk,hc,hd,by simpa using hs⟩,?_⟩;have e:=r.length;simp only[Qg] at e;omega
theorem Inv.tuple(I:Inv X pins σ H s)(h:cD X.K H a xs):∃ aa:List Value,Vals xs aa/\IsTup s.heap a aa.toArray/\xs.length<=Wa:=by
 rcases h with h | ⟨o,aa,n,hk,hc,hs,hz,r⟩
 ·obtain⟨z,aa,r,p⟩:=h.ok I.ag;exact⟨aa,r,p.tup,z⟩
 ·refine⟨aa.toList,r,⟨o,I.cn a o hk,hc,n,by simpa using hs⟩,?_⟩;have e:=r.length;simp only[Qg] at e;omega
theorem Inv.zS(I:Inv X pins σ H s)(h:cg X.K H a xs)(h':cg X.K H a ys):xs=ys:=by
 obtain⟨aa,r,⟨o,n,e,_,_,d⟩,_⟩:=I.list h;obtain⟨its',r',⟨o',n',e',_,_,d'⟩,_⟩:=I.list h';rw[e] at e'; cases e'
 rw[d] at d';injection d' with d1 _
 have:aa=its':=by simpa using congrArg Array.toList d1
 subst this;exact r.inj r'
theorem Inv.zU(I:Inv X pins σ H s)(h:cD X.K H a xs)(h':cD X.K H a ys):xs=ys:=by
 obtain⟨aa,r,⟨o,e,_,n,d⟩,_⟩:=I.tuple h;obtain⟨its',r',⟨o',e',_,n',d'⟩,_⟩:=I.tuple h';rw[e] at e'; cases e'
 rw[d] at d';injection d' with d1 _
 have:aa=its':=by simpa using congrArg Array.toList d1
 subst this;exact r.inj r'
end
abbrev Cx.fP(X:Cx)(E:Value->W2->Prop):Cx:={ X with xe:=E }
abbrev Cx.dX(X:Cx):Cx:=X.fP λ_ _=>False
theorem Cx.Ok.fP{X:Cx}(ok:X.Ok)(E:Value->W2->Prop):(X.fP E).Ok :=
 ⟨ok.mod,ok.kind,ok.glob,ok.blt,ok.above,ok.inj,ok.has,ok.jM,ok.hd,ok.frames,ok.lH,ok.lJ,ok.bs,ok.gc,ok.kC,ok.kD,ok.eT,ok.gX⟩
theorem Cx.Ok.jO{X:Cx}{E:Value->W2->Prop}(ok:(X.fP E).Ok):X.Ok :=
 ⟨ok.mod,ok.kind,ok.glob,ok.blt,ok.above,ok.inj,ok.has,ok.jM,ok.hd,ok.frames,ok.lH,ok.lJ,ok.bs,ok.gc,ok.kC,ok.kD,ok.eT,ok.gX⟩
section
variable {X:Cx} {pins:List (Addr×Obj)} {σ:St} {H:Hp} {s:W2} {E:Value->W2->Prop}
theorem Inv.fP(I:Inv X pins σ H s)(E:Value->W2->Prop):Inv (X.fP E) pins σ H s:=⟨I.ok.fP E,I.os,I.bare,I.base,I.loc,I.cell,I.free,I.du,I.pin,I.ag,I.len⟩
theorem Inv.jO(I:Inv (X.fP E) pins σ H s):Inv X pins σ H s:=⟨I.ok.jO,I.os,I.bare,I.base,I.loc,I.cell,I.free,I.du,I.pin,I.ag,I.len⟩
theorem SP.jO(h:SP (X.fP E) pins D f s'):SP X pins D f s':=by
 cases f with
 | next=>obtain⟨σ',H',I,q⟩:=h; exact⟨σ',H',I.jO,q⟩
 | brk=>obtain⟨σ',H',I,q⟩:=h; exact⟨σ',H',I.jO,q⟩
 | cont=>obtain⟨σ',H',I,q⟩:=h; exact⟨σ',H',I.jO,q⟩
 | ret u=>obtain⟨v,σ',H',I,r,q⟩:=h; exact⟨v,σ',H',I.jO,r,q⟩
theorem cX.dX{st:List Stmt}{t:TS}(h:cX X.dX st t):cX X st t:=λpins s σ H D I hw =>
 WC (h pins s σ H D (I.fP _) hw) (λ_ _ q=>q.jO) λ_ _ z=>False.elim z
end
section
variable {X:Cx} {st:Stmt} {rest:List Stmt} {t u:TS} {e:Expr} {te:TE} {pos:Pos}
def Ga:TS:=λD σ H=>D.nx σ H
def Gb(t u:TS):TS:=λD σ H=>t { D with nx:=u D } σ H
theorem Gd:cX X [] Ga:=λ_ _ σ H _ I h=>Jx ⟨σ,H,I,h⟩
theorem Ge(h1:PS X st t)(h2:cX X rest u):cX X (st :: rest) (Gb t u):=by
 intro pins s σ H D I h;refine wpAny_execs_cons (aH (h1 pins s σ H { D with nx:=u D } I h) λf s1 q=>?_)
 cases f with
 | next =>
  obtain⟨σ',H',I',q⟩:=q;exact h2 pins s1 σ' H' D I' q
 | ret v=>exact q
 | brk=>exact q
 | cont=>exact q
theorem zV(h1:PS X st t):cX X [st] t:=by
 intro pins s σ H D I h;refine wpAny_execs_cons (aH (h1 pins s σ H D I h) λf s1 q=>?_)
 cases f with
 | next=>exact Jx q
 | ret v=>exact q
 | brk=>exact q
 | cont=>exact q
theorem Inv.quiet(I:Inv X pins σ H s):interactive X.env=false:=by simp[interactive,I.ok.kind]
def tY(te:TE):TS:=λD σ H=>te σ H λ_ H1=>D.nx σ H1
theorem tZ(he:PE X e te)(hs:QO e none pos.line X.env=pure false:=by rfl):PS X (.Expr e pos) (tY te):=by
 intro pins s σ H D I h;exact wpAny_Expr_any (aH (he pins s σ H _ I h) λv s1 ⟨x,H1,I1,r1,q1⟩=>⟨σ,H1,I1,q1⟩) I.quiet hs
def Gf(te:TE):TS:=λD σ H=>te σ H D.rt
theorem zW(he:PE X e te):PS X (.Return (some e) pos) (Gf te):=by
 intro pins s σ H D I h;exact wpAny_Return_some (aH (he pins s σ H _ I h) λv s1 ⟨x,H1,I1,r1,q1⟩=>⟨x,σ,H1,I1,r1,q1⟩)
def Gg(c:TT)(t u:TS):TS:=λD σ H=>c σ H λb H1=>if b=true then t D σ H1 else u D σ H1
theorem Gi(hc:PT X c tc)(ha:cX X a t)(hb:cX X b u):PS X (.If c a b pos) (Gg tc t u):=by
 intro pins s σ H D I h;refine wpAny_If (aH (hc pins s σ H _ I h) λd s1 ⟨H1,I1,q1⟩=>?_)
 cases d with
 | true=>exact ha pins s1 σ H1 D I1 q1
 | false=>exact hb pins s1 σ H1 D I1 q1
end
abbrev TG:=V->St->Hp->(St->Hp->Prop)->Prop
abbrev kG:=List V->St->Hp->(St->Hp->Prop)->Prop
def PG(X:Cx)(target:Expr)(t:TG):Prop :=
 ∀ (pins:List (Addr×Obj)) (s:W2) (σ:St) (H:Hp) (v:V) (u:Value) (Q:St->Hp->Prop),Inv X pins σ H s->RelV v u->t v σ H Q ->
  W6 (model X.prog X.w) X.A (assign target X.env u) (λ_ s'=>∃ σ' H',Inv X pins σ' H' s'/\Q σ' H') X.xe s
def gB(X:Cx)(ts:List Expr)(t:kG):Prop :=
 ∀ (pins:List (Addr×Obj)) (s:W2) (σ:St) (H:Hp) (vs:List V) (us:List Value) (Q:St->Hp->Prop),Inv X pins σ H s->Vals vs us->t vs σ H Q ->
  W6 (model X.prog X.w) X.A (assignInOrder ((Qc ts X.env).map (·.2)) us) (λ_ s'=>∃ σ' H',Inv X pins σ' H' s'/\Q σ' H') X.xe s
abbrev zX:=V->V->V->Hp->(Hp->Prop)->Prop
def zY(X:Cx)(t:zX):Prop :=
 ∀ (pins:List (Addr×Obj)) (s:W2) (σ:St) (H:Hp) (o i v:V) (ov iv u:Value) (Q:Hp->Prop),Inv X pins σ H s->RelV o ov->RelV i iv->RelV v u->t o i v H Q ->
  W6 (model X.prog X.w) X.A (setItem ov iv u) (λ_ s'=>∃ H',Inv X pins σ H' s'/\Q H') X.xe s
section
variable {X:Cx} {pos:Pos}
def qE(i:Nat):TG:=λv σ H Q=>Q (σ.set i (some v)) H
theorem zZ(hN:X.N.Nodup)(hi:X.N[i]? = some x)(hx:Loc X.env.scope x)(hf:X.fn x=true\/X.env.scope.names.lookup x=some .local:=by first | exact .inl rfl | exact .inr rfl | assumption):PG X (.Name x pos) (qE i):=by
 intro pins s σ H v u Q I r h;exact wpAny_assign_Name (zO I hN hi hx r (λs' I'=>⟨_,H,I',h⟩) hf)
def Gj:kG:=λvs σ H Q=>vs=[]/\Q σ H
def Gk(t:TG)(u:kG):kG:=λvs σ H Q=>∃ v r,vs=v :: r/\t v σ H λσ' H'=>u r σ' H' Q
theorem z5:gB X [] Gj:=by
 intro pins s σ H vs us Q I r h;obtain⟨e,h⟩:=h;subst e
 cases r;exact assignInOrder_nil ⟨σ,H,I,h⟩
theorem z6(h1:PG X e t)(h2:gB X es u)
  (hs:(Qc (e :: es) X.env).map (·.2)=assign e X.env :: (Qc es X.env).map (·.2):=by rfl):gB X (e :: es) (Gk t u):=by
 intro pins s σ H vs us Q I r h;obtain⟨v,vr,e1,h⟩:=h;subst e1
 cases r with
 | cons r rr =>
  rw[hs];refine assignInOrder_cons (aH (h1 pins s σ H _ _ _ I r h) λ_ s1 ⟨σ1,H1,I1,q1⟩=>?_);exact h2 pins s1 σ1 H1 _ _ Q I1 rr q1
def Gm(K:W1)(n:Nat)(t:kG):TG:=λv σ H Q=>∃ a xs,v = .ref a/\cD K H a xs/\xs.length=n/\t xs σ H Q
theorem z7(hc:X.calm=true)(h:gB X es t)
  (hn:(Qc es X.env).length=n:=by rfl) (bY:(Qc es X.env).findIdx? (·.1)=none:=by rfl):PG X (.Tuple es k pos) (Gm X.K n t):=by
 intro pins s σ H v u Q I r hw;obtain⟨a,xs,e1,hq,hl,hw⟩:=hw;subst e1
 cases r;obtain⟨aa,rv,ht,hz⟩:=I.tuple hq;refine assign_Tuple_tuple (I.ok.hd hc) ht (by simp[hn,<- hl,rv.length]) bY λh' hx=>?_
 have I1:Inv X pins σ H { s with heap:=h' }:=I.kept (t':=s.toks) λb o e=>hx b o (Wq (Wf e)) e
 exact h pins _ σ H xs _ Q I1 (by simpa using rv) hw
def Gn(to ti:TE)(t:zX):TG:=λv σ H Q=>to σ H λo H1=>ti σ H1 λi H2=>t o i v H2 λH3=>Q σ H3
theorem Gp(ho:PE X o to)(hi:PE X i ti)(hs:zY X t)
  (ha:∀ v,assign (.Subscript o i pos) X.env v=(do
   let ov <- holding [v] (eval o X.env)
   let iv <- holding [v,ov] (eval i X.env)
   standAt pos
   holding [v,ov,iv] (setItem ov iv v)
   release [v,ov,iv] []):=by intro _; rfl):PG X (.Subscript o i pos) (Gn to ti t):=by
 intro pins s σ H v u Q I r h;rw[ha];refine W0 (WU (aH (ho pins s σ H _ I h) λov s1 ⟨x,H1,I1,r1,q1⟩=>?_));refine W0 (WU (aH (hi pins s1 σ H1 _ I1 q1) λiv s2 ⟨y,H2,I2,r2,q2⟩=>?_));refine W0 (wpAny_standAt (W0 (WU (aH (hs pins s2 σ H2 x y v ov iv u _ I2 r1 r2 r q2) λ_ s3 ⟨H3,I3,q3⟩=>?_))));exact wpAny_release ⟨σ,H3,I3,q3⟩
def qF(te:TE)(g:TG):TS:=λD σ H=>te σ H λx H1=>g x σ H1 D.nx
theorem z8(he:PE X e te)(hg:PG X tg g)(hs:swapsWithSole [tg] e pos.line X.env=pure false:=by rfl)(hw:swappedStores [tg] e X.env=pure none:=by rfl)
  (h1:(Qc [tg] X.env).map (·.2)=[assign tg X.env]:=by rfl):PS X (.Assign [tg] e pos) (qF te g):=by
 intro pins s σ H D I h;refine wpAny_Assign_stores (aH (he pins s σ H _ I h) λv s1 ⟨x,H1,I1,r1,q1⟩=>?_) hs hw;rw[h1];exact aH (hg pins s1 σ H1 x v _ I1 r1 q1) λ_ s2 q=>q
theorem Gq(hN:X.N.Nodup)(hi:X.N[i]? = some x)(hx:Loc X.env.scope x)(he:PE X e te)(hs:QO e (some (.Name x pos')) pos.line X.env=pure false:=by rfl)(hf:X.fn x=true\/X.env.scope.names.lookup x=some .local:=by first | exact .inl rfl | exact .inr rfl | assumption) :
  PS X (.Assign [.Name x pos'] e pos) (qF te (qE i)):=by
 intro pins s σ H D I h;refine wpAny_Assign_Name (aH (he pins s σ H _ I h) λv s1 ⟨y,H1,I1,r1,q1⟩=>?_) hs;exact zO I1 hN hi hx r1 (λs2 I2=>⟨_,H1,I2,q1⟩) hf
end
section
variable {X:Cx} {pos:Pos}
def z9(c:TT)(tb:TS):TS:=λD σ H=>∃ W:Nat->St->Hp->Prop,(∃ m,W m σ H)/\∀ m σ H,W m σ H ->
 c σ H λb H1=>if b=true then ∃ N:St->Hp->Prop,(∀ σ' H',N σ' H'->∃ m',m' < m/\W m' σ' H')/\tb { D with nx:=N,ct:=N,bk:=D.nx } σ H1 else D.nx σ H1
theorem Gr(hp:PassesOwn (model X.prog X.w) X.A X.env X.xe)(hc:PT X c tc)(hb:cX X body tb):PS X (.While c body [] pos) (z9 tc tb):=by
 intro pins s σ H D I h;obtain⟨W,⟨m0,w0⟩,turn⟩:=h;refine wpAny_While (codeAny_whileLoop (λn s'=>∃ σ' H',Inv X pins σ' H' s'/\W n σ' H') ?_ m0 ⟨σ,H,I,w0⟩);rintro n s1 ⟨σ1,H1,I1,w1⟩;refine QR hp (aH (hc pins s1 σ1 H1 _ I1 (turn n σ1 H1 w1)) λb s2 ⟨H2,I2,q2⟩=>?_)
 cases b with
 | true =>
  obtain⟨N,hN,q2⟩:=q2;rw[if_pos rfl];refine QR hp (aH (hb pins s2 σ1 H2 _ I2 q2) λf s3 q3=>?_)
  cases f with
  | next =>
   obtain⟨σ3,H3,I3,n3⟩:=q3;obtain⟨m',hm,w3⟩:=hN σ3 H3 n3;exact⟨m',hm,σ3,H3,I3,w3⟩
  | cont =>
   obtain⟨σ3,H3,I3,n3⟩:=q3;obtain⟨m',hm,w3⟩:=hN σ3 H3 n3;exact⟨m',hm,σ3,H3,I3,w3⟩
  | brk=>exact q3
  | ret v=>exact q3
 | false =>
  rw[if_neg WX];exact Jx ⟨σ1,H2,I2,q2⟩
end
structure It where
 go:Nat->Hp->Prop
 oA:Nat->Hp->V->Hp->Prop
 stop:Nat->Hp->Prop
def fE(X:Cx)(pins:List (Addr×Obj))(H:Hp)(b:Addr):Prop :=
 H b=none/\b≠X.env.locals/\b ∉ X.fs/\(b ∈ X.ex\/X.s₀.heap.objs.size<=b)/\(∀ x c,X.env.cells.lookup x=some c->c≠b)/\∀ p ∈ X.pn ++ pins,p.1≠b
theorem Inv.jj(I:Inv X pins σ H s)(hb:s.heap.objs.size<=b)(hn:H' b=none):fE X pins H' b:=by
 refine⟨hn,QD (Ww I.lt hb),I.zM hb,.inr (WQ I.sz hb),λx c e z=>?_,λp hp z=>?_⟩
 ·obtain⟨v,q⟩:=I.cell x c e;exact absurd (Ww q.lt (by rw[z]; exact hb)) (Q3 _)
 ·exact absurd (Ww (Wf (I.pin p hp).1) (by rw[z]; exact hb)) (Q3 _)
structure Turn(P:Wg)(w:Wm)(K:W1)(tg:Expr)(J:It)(fp:List Addr)(it:Addr)(tn:Nat->Heap->Prop):Prop where
 mem:it ∈ fp
 obj:∀ i h,tn i h->∀ b ∈ fp,∃ o,h.get? b=some o/\∀ v,o.data≠.cell v
 keep:∀ i h h',tn i h->(∀ b ∈ fp,∀ o,h.get? b=some o->h'.get? b=some o)->tn i h'
 item:∀ (X:Cx),X.prog=P->X.w=w->X.K=K->X.calm=true->∀ (i:Nat) (pins:List (Addr×Obj)) (s:W2) (σ:St) (H:Hp) (E:Value->W2->Prop),Inv X pins σ H s->(∀ b ∈ fp,fE X pins H b)->tn i s.heap->J.go i H ->
  W6 (model P w) X.A (Qt (.ref it)) (λr s1=>∃ u,r=some u /\
   W6 (model P w) X.A (letOwnedTupleGo tg (.ref it) u) (λ_ s2=>∃ x H',Inv X pins σ H' s2/\RelV x u/\J.oA i H x H'/\tn (i + 1) s2.heap/\∀ b ∈ fp,H' b=none) E s1) E s
 done:∀ (X:Cx),X.prog=P->X.w=w->X.K=K->X.calm=true->∀ (i:Nat) (pins:List (Addr×Obj)) (s:W2) (σ:St) (H:Hp) (E:Value->W2->Prop),Inv X pins σ H s->(∀ b ∈ fp,fE X pins H b)->tn i s.heap->J.stop i H ->
  W6 (model P w) X.A (Qt (.ref it)) (λr s1=>r=none/\Inv X pins σ H s1) E s
 self:∀ (A:Wl) (i:Nat) (s:W2) (Q:Value->W2->Prop) (E:Value->W2->Prop),tn i s.heap->Q (.ref it) s->W6 (model P w) A (pyIter (.ref it)) Q E s
abbrev TI:=St->Hp->(It->Hp->Prop)->Prop
def t4(X:Cx)(pins:List (Addr×Obj))(σ:St)(tg:Expr)(R:It->Hp->Prop)(qG:Value)(s2:W2):Prop :=
 ∃ (it:Addr) (fp:List Addr) (tn:Nat->Heap->Prop) (J:It) (H':Hp),qG = .ref it/\Inv X pins σ H' s2/\Turn X.prog X.w X.K tg J fp it tn/\tn 0 s2.heap/\(∀ b ∈ fp,fE X pins H' b)/\R J H'
def PI(X:Cx)(tg iter:Expr)(wi:TI):Prop :=
 ∀ (pins:List (Addr×Obj)) (s:W2) (σ:St) (H:Hp) (R:It->Hp->Prop),Inv X pins σ H s->wi σ H R ->
  W6 (model X.prog X.w) X.A (eval iter X.env) (λv s1=>W6 (model X.prog X.w) X.A (pyIter v) (t4 X pins σ tg R) X.xe s1) X.xe s
theorem oB(ho:s.heap.get? it=some o)(hc:o.cls = .type n)(hd:o.data = .fields vs)
  (hn:["enumerate","zip","dict_itemiterator","dict_reverseitemiterator","odict_iterator","itertools.zip_longest","itertools.pairwise"].contains n=false) (hQ:Q () s):W6 M A (letOwnedTupleGo tg (.ref it) u) Q E s:=by
 unfold letOwnedTupleGo
 cases tg <;> first
  | exact W4 hQ
  | (cases u <;> first
    | exact W4 hQ
    | (refine W0 (wpAny_load ho ?_); rw[hc,hd]; show W6 M A (if (["enumerate","zip","dict_itemiterator","dict_reverseitemiterator","odict_iterator","itertools.zip_longest","itertools.pairwise"].contains n && vs[0]? == some (WY _))=true then _ else _) Q E s; rw[if_neg (by intro h; rw[hn,Bool.false_and] at h; cases h)]; exact W4 hQ))
def oC(K:W1)(a:Addr):It :=
 ⟨λi H=>∃ xs x,cg K H a xs/\xs[i]? = some x,λi H x H'=>H'=H/\∀ xs,cg K H a xs->xs[i]? = some x,λi H=>∃ xs,cg K H a xs/\xs.length<=i⟩
def qH(K:W1)(a:Addr):It :=
 ⟨λi H=>∃ xs x,cD K H a xs/\xs[i]? = some x,λi H x H'=>H'=H/\∀ xs,cD K H a xs->xs[i]? = some x,λi H=>∃ xs,cD K H a xs/\xs.length<=i⟩
def lN(lo:Int)(n:Nat):It:=⟨λi _=>i < n,λi H x H'=>H'=H/\x = .int (lo + i),λi _=>n<=i⟩
theorem Gs{P:Wg}{w:Wm}{K:W1}{tg:Expr}(a it:Addr):Turn P w K tg (oC K a) [it] it (λi h=>h.IsListIter it a i) where
 mem:=by simp
 obj:=λi h st b hb=>by
  have e:b=it:=by simpa using hb
  subst e;obtain⟨o,e,c,d⟩:=st;exact⟨o,e,λv z=>by rw[d] at z; cases z⟩
 keep:=λi h h' st k=>st.at λo e=>k it (by simp) o e
 item:=by
  intro X hP hw hK hc i pins s σ H E I hf st hg;subst hP hw hK;obtain⟨xs,x,hq,hx⟩:=hg;obtain⟨aa,rv,p,hz⟩:=I.list hq;obtain⟨u,hu,ru⟩:=rv.get hx;obtain⟨f0,f1,f2,f3,f4,f5⟩:=hf it (by simp);refine wpAny_pyNext_list_item st p.isList (x:=u) (by simpa using hu) λh' dw sb=>?_
  have I1:Inv X pins σ H { s with heap:=h' }:=I.turned (t':=s.toks) (λb o hb e=>(sb.2 b hb).trans e) f0 f1 f3 f4 f5;obtain⟨o,e,c,d⟩:=id dw;exact⟨u,rfl,oB (s:={ s with heap:=h' }) e c d (by decide) ⟨x,H,I1,ru,⟨rfl,λys hy=>by rw[I.zS hy hq]; exact hx⟩,dw,λb hb=>(hf b hb).1⟩⟩
 done:=by
  intro X hP hw hK hc i pins s σ H E I hf st hg;subst hP hw hK;obtain⟨xs,hq,hx⟩:=hg;obtain⟨aa,rv,p,hz⟩:=I.list hq;obtain⟨f0,f1,f2,f3,f4,f5⟩:=hf it (by simp);have hl:=rv.length;exact wpAny_pyNext_list_end (I.ok.hd hc) st p.isList (by simp; omega) λh' eb=>⟨rfl,I.turned (t':=s.toks) (λb o hb e=>eb b o hb e) f0 f1 f3 f4 f5⟩
 self:=λ_ _ _ _ _ st h=>wpAny_pyIter_listiter st h
theorem Gu{P:Wg}{w:Wm}{K:W1}{tg:Expr}(a it:Addr):Turn P w K tg (qH K a) [it] it (λi h=>h.IsTupleIter it a i) where
 mem:=by simp
 obj:=λi h st b hb=>by
  have e:b=it:=by simpa using hb
  subst e;obtain⟨o,e,c,d⟩:=st;exact⟨o,e,λv z=>by rw[d] at z; cases z⟩
 keep:=λi h h' st k=>st.at λo e=>k it (by simp) o e
 item:=by
  intro X hP hw hK hc i pins s σ H E I hf st hg;subst hP hw hK;obtain⟨xs,x,hq,hx⟩:=hg;obtain⟨aa,rv,p,hz⟩:=I.tuple hq;obtain⟨u,hu,ru⟩:=rv.get hx;obtain⟨f0,f1,f2,f3,f4,f5⟩:=hf it (by simp);refine wpAny_pyNext_tuple_item st (show s.heap.IsTuple a aa.toArray from p) (x:=u) (by simpa using hu) λh' dw sb=>?_
  have I1:Inv X pins σ H { s with heap:=h' }:=I.turned (t':=s.toks) (λb o hb e=>(sb.2 b hb).trans e) f0 f1 f3 f4 f5;obtain⟨o,e,c,d⟩:=id dw;exact⟨u,rfl,oB (s:={ s with heap:=h' }) e c d (by decide) ⟨x,H,I1,ru,⟨rfl,λys hy=>by rw[I.zU hy hq]; exact hx⟩,dw,λb hb=>(hf b hb).1⟩⟩
 done:=by
  intro X hP hw hK hc i pins s σ H E I hf st hg;subst hP hw hK;obtain⟨xs,hq,hx⟩:=hg;obtain⟨aa,rv,p,hz⟩:=I.tuple hq;obtain⟨f0,f1,f2,f3,f4,f5⟩:=hf it (by simp);have hl:=rv.length;exact wpAny_pyNext_tuple_end (I.ok.hd hc) st (show s.heap.IsTuple a aa.toArray from p) (by simp; omega) λh' eb=>⟨rfl,I.turned (t':=s.toks) (λb o hb e=>eb b o hb e) f0 f1 f3 f4 f5⟩
 self:=λ_ _ _ _ _ st h=>wpAny_pyIter_tupleiter st h
theorem z_{P:Wg}{w:Wm}{K:W1}{tg:Expr}(it:Addr)(lo:Int)(n:Nat):Turn P w K tg (lN lo n) [it] it (λi h=>IsRangeIter h it (lo + (i:Nat) * 1) ((n:Int) - (i:Nat)) 1) where
 mem:=by simp
 obj:=λi h st b hb=>by
  have e:b=it:=by simpa using hb
  subst e;exact⟨_,st,λv z=>by
   have z':Data.fields _=Data.cell v:=z
   cases z'⟩
 keep:=λi h h' st k=>k it (by simp) _ st
 item:=by
  intro X hP hw hK hc i pins s σ H E I hf st hg;subst hP hw hK;obtain⟨f0,f1,f2,f3,f4,f5⟩:=hf it (by simp);have W:=Walks.range (prog:=X.prog) (w:=X.w) (I.ok.hd hc) it lo 1 n;refine W.item i s _ _ hg st λv h' tk hv dw kk=>?_
  obtain⟨t,rfl⟩:=hv;have I1:Inv X pins σ H { s with heap:=h',toks:=tk }:=I.turned (λb o hb e=>kk b o (by simpa using hb) e) f0 f1 f3 f4 f5;refine⟨_,rfl,oB (s:={ s with heap:=h',toks:=tk }) (n:="range_iterator") dw rfl rfl (by decide) ⟨.int (lo + i),H,I1,⟨t,?_⟩,⟨rfl,rfl⟩,dw,λb hb=>(hf b hb).1⟩⟩;rw[Int.mul_one]
 done:=by
  intro X hP hw hK hc i pins s σ H E I hf st hg;subst hP hw hK;obtain⟨f0,f1,f2,f3,f4,f5⟩:=hf it (by simp);exact wpAny_pyNext_range_end (I.ok.hd hc) st (by have:n<=i:=hg; omega) λh' eb=>⟨rfl,I.turned (t':=s.toks) (λb o hb e=>eb b o hb e) f0 f1 f3 f4 f5⟩
 self:=λ_ _ _ _ _ st h=>wpAny_pyIter_rangeiter st h
section
variable {X:Cx} {tg:Expr}
theorem Gv{pins:List (Addr×Obj)}{σ:St}{H:Hp}{s:W2}{R:It->Hp->Prop}{E:Value->W2->Prop}{lo hi:Int}{t u v:Tok}{tk:Nat}(I:Inv X pins σ H s)(h1 : -(2 ^ 62)<=lo)(h2:lo < 2 ^ 62)(h3 : -(2 ^ 62)<=hi)(h4:hi < 2 ^ 62)
  (q:R (lN lo (hi - lo).toNat) H):W6 (model X.prog X.w) X.A (pyIter (.ref s.heap.objs.size)) (t4 X pins σ tg R) E { s with heap:=s.heap.push { cls:=.type "range",data:=.fields #[.int lo t,.int hi u,.int 1 v] },toks:=tk }:=by
 refine wpAny_pyIter_range (IsRange.new ..) (small_one h1 h2 h3 h4) ?_;have I1:Inv X pins σ H { s with heap:=s.heap.push { cls:=.type "range",data:=.fields #[.int lo t,.int hi u,.int 1 v] },toks:=tk }:=I.kept λb o e=>W3 _ e
 refine⟨(s.heap.push { cls:=.type "range",data:=.fields #[.int lo t,.int hi u,.int 1 v] }).objs.size,[(s.heap.push { cls:=.type "range",data:=.fields #[.int lo t,.int hi u,.int 1 v] }).objs.size],_,_,H,rfl,
  I1.kept (t':=tk) λb o e=>W3 _ e,z_ _ lo (hi - lo).toNat,?_,λb hb=>?_,q⟩
 ·have e1:lo + ((0:Nat):Int) * 1=lo:=by simp
  have e2:(((hi - lo).toNat:Nat):Int) - ((0:Nat):Int)=Builtin.Range.rangeSize lo hi 1:=by rw[rangeSize_one]; split <;> omega
  show IsRangeIter _ _ (lo + ((0:Nat):Int) * 1) ((((hi - lo).toNat:Nat):Int) - ((0:Nat):Int)) 1;rw[e1,e2];exact Wi _ rfl
 ·have e:b=(s.heap.push { cls:=.type "range",data:=.fields #[.int lo t,.int hi u,.int 1 v] }).objs.size:=by simpa using hb
  subst e;exact I1.jj (Wb _) (I1.ag.fresh (Wb _))
def Gw(ta:TA):TI:=λσ H R=>ta σ H λvs H1=>∃ j:Int,vs=[.int j]/\-(2 ^ 62)<=j/\j < 2 ^ 62/\R (lN 0 j.toNat) H1
theorem Gx {a:Expr} {ta:TA} {p pos:Pos} (hg:Gl X "range") (hm:X.mg "range" = none) (ha:PA X [a] ta) (hs:W5 [a] X.env=[(false,eval a X.env)]:=by rfl):PI X tg (.Call (.Name "range" p) [a] [] pos) (Gw ta):=by
 intro pins s σ H R I h;refine Call_ (mK I hg hm boot_range (QP (aH (ha pos pins s σ H _ I h) λus s1 ⟨vs,H1,I1,r1,q1⟩=>?_) hs rfl));obtain⟨j,e,q1,q2,q⟩:=q1;subst e
 cases r1 with
 | cons r rr =>
  cases rr;obtain⟨t,rfl⟩:=r;exact call_range_1 (Gv I1 (by omega) (by omega) q1 q2 (by simpa using q))
def Gy(wi:TI)(g:TG)(tb:TS):TS:=λD σ H=>wi σ H λJ H1=>∃ W:Nat->Nat->St->Hp->Prop,(∃ m,W 0 m σ H1)/\∀ i m σ H,W i m σ H ->
 (J.stop i H/\D.nx σ H)\/(J.go i H/\∃ N:St->Hp->Prop,(∀ σ' H',N σ' H'->∃ m',m' < m/\W (i + 1) m' σ' H')/\∀ x H',J.oA i H x H'->g x σ H' λσ2 H2=>tb { D with nx:=N,ct:=N,bk:=D.nx } σ2 H2)
def oE(fp:List Addr)(h:Heap):List (Addr×Obj):=fp.filterMap λb=>(h.get? b).map λo=>(b,o)
theorem qI(hb:b ∈ fp)(e:h.get? b=some o):(b,o) ∈ oE fp h:=List.mem_filterMap.mpr ⟨b,hb,by rw[e]; rfl⟩
theorem Gz(hp:p ∈ oE fp h):p.1 ∈ fp/\h.get? p.1=some p.2:=by
 obtain⟨b,hb,e⟩:=List.mem_filterMap.mp hp
 cases q:h.get? b with
 | none=>rw[q] at e; cases e
 | some o =>
  rw[q] at e;have e':(b,o)=p:=WB e;subst e';exact⟨hb,q⟩
theorem Inv.pinned(I:Inv X pins σ H s)(hf:∀ b ∈ fp,fE X pins H b)(ho:∀ b ∈ fp,∃ o,s.heap.get? b=some o/\∀ v,o.data≠.cell v):Inv X (pins ++ oE fp s.heap) σ H s :=
 I.zN λp hp=>(Jw.mp hp).elim (λz=>I.pin p (WP _ z)) λz=>by
  obtain⟨hb,e⟩:=Gz z;obtain⟨f0,f1,f2,_⟩:=hf p.1 hb;obtain⟨o,e',d⟩:=ho p.1 hb;rw[e] at e'; cases e'
  exact⟨e,f0,f1,f2,d⟩
theorem Inv.qJ(I:Inv X (pins ++ pl) σ H s):Inv X pins σ H s:=I.zN λp hp=>I.pin p (WP _ (QZ _ hp))
theorem GA(hp:PassesOwn (model X.prog X.w) X.A X.env X.xe)(hc:X.calm=true)(hi:PI X tg iter wi)(hg:PG X tg g)(hb:cX X body tb)
  (hs:∀ x,QF iter X.env x=pure x:=by intro _; rfl):PS X (.For tg iter body [] pos) (Gy wi g tb):=by
 intro pins s σ H D I h;refine wpAny_For (aH (hi pins s σ H _ I h) λv s1 h1=>aH h1 λqG s2 h2=>?_) hs;obtain⟨it,fp,tn,J,H2,e,I2,T,st2,f2,W,⟨m0,w0⟩,turn⟩:=h2;subst e;-- what stays true of the iterator's objects through the loop
 have t5:∀ {H':Hp},(∀ b ∈ fp,H' b=none)->∀ b ∈ fp,fE X pins H' b:=λhn b hb=>⟨hn b hb,(f2 b hb).2⟩
 refine codeAny_forLoop_any (λn s'=>∃ i σ' H',Inv X pins σ' H' s'/\tn i s'.heap/\(∀ b ∈ fp,H' b=none)/\W i n σ' H') ?_ m0 ⟨0,σ,H2,I2,st2,λb hb=>(f2 b hb).1,w0⟩;rintro n s3 ⟨i,σ3,H3,I3,kH,fr3,w3⟩;rcases turn i n σ3 H3 w3 with ⟨stop,qn⟩ | ⟨go,N,hN,step⟩
 ·refine QR hp (aH (T.done X rfl rfl rfl hc i pins s3 σ3 H3 X.xe I3 (t5 fr3) kH stop) λr s4 ⟨hr,I4⟩=>?_);subst hr;exact Jx ⟨σ3,H3,I4,qn⟩
 ·refine QR hp (aH (T.item X rfl rfl rfl hc i pins s3 σ3 H3 X.xe I3 (t5 fr3) kH go) λr s4 ⟨u,hr,h4⟩=>?_);subst hr;refine QR hp (aH h4 λ_ s5 ⟨x,H5,I5,r5,y5,st5,fr5⟩=>?_);have GB:=I5.pinned (t5 fr5) (T.obj _ _ st5);refine QR hp (aH (hg _ s5 σ3 H5 x u _ GB r5 (step x H5 y5)) λ_ s6 ⟨σ6,H6,I6,q6⟩=>?_);refine QR hp (aH (hb _ s6 σ6 H6 _ I6 q6) λf s7 q7=>?_);have again:∀ {σ7:St} {H7:Hp},Inv X (pins ++ oE fp s5.heap) σ7 H7 s7->N σ7 H7->∃ m,m < n/\∃ i σ' H',Inv X pins σ' H' s7/\tn i s7.heap/\(∀ b ∈ fp,H' b=none)/\W i m σ' H':=λ{σ7 H7} I7 n7=>by
   obtain⟨m',hm,w7⟩:=hN σ7 H7 n7;refine⟨m',hm,i + 1,σ7,H7,I7.qJ,T.keep _ _ _ st5 λb hb o e=>(I7.pin (b,o) (WP _ (WP _ (qI hb e)))).1,λb hb=>?_,w7⟩;obtain⟨o,e,d⟩:=T.obj _ _ st5 b hb;exact(I7.pin (b,o) (WP _ (WP _ (qI hb e)))).2.1
  cases f with
  | next=>obtain⟨σ7,H7,I7,n7⟩:=q7; exact again I7 n7
  | cont=>obtain⟨σ7,H7,I7,n7⟩:=q7; exact again I7 n7
  | brk=>obtain⟨σ7,H7,I7,q7⟩:=q7; exact⟨σ7,H7,I7.qJ,q7⟩
  | ret v=>obtain⟨x7,σ7,H7,I7,r7,q7⟩:=q7; exact⟨x7,σ7,H7,I7.qJ,r7,q7⟩
end
abbrev R2:=V->V->Hp->VK->Prop
def bD(X:Cx)(f:Value->Value->Sem Value)(r:R2):Prop :=
 ∀ (pins:List (Addr×Obj)) (s:W2) (σ:St) (H:Hp) (x y:V) (v u:Value) (Q:VK),Inv X pins σ H s->RelV x v->RelV y u->r x y H Q ->
  W6 (model X.prog X.w) X.A (f v u) (EP X pins σ Q) X.xe s
def dH(X:Cx)(f:Value)(r:List V->Hp->VK->Prop):Prop :=
 ∀ (pins:List (Addr×Obj)) (s:W2) (σ:St) (H:Hp) (xs:List V) (us:List Value) (Q:VK),Inv X pins σ H s->Vals xs us->r xs H Q ->
  W6 (model X.prog X.w) X.A (call f us) (EP X pins σ Q) X.xe s
def lO(r:R2)(ta tb:TE):TE:=λσ H Q=>ta σ H λx H1=>tb σ H1 λy H2=>r x y H2 Q
def GC(r:V->Hp->VK->Prop)(ta:TE):TE:=λσ H Q=>ta σ H λx H1=>r x H1 Q
def rI(C:Int->Int->Prop)(g:Int->Int->V):R2:=λx y H Q=>∃ i j,x = .int i/\y = .int j/\C i j/\Q (g i j) H
def iF(g:Int->Int->V):R2:=λx y H Q=>∃ i j,x = .int i/\y = .int j/\Q (g i j) H
section
variable {X:Cx} {a b c:Expr} {ta tb tc:TE} {pos:Pos}
theorem t6(ha:PE X a ta)(hb:PE X b tb){pins:List (Addr×Obj)}{s:W2}{σ:St}{H:Hp}{R:V->V->Hp->Prop}(I:Inv X pins σ H s)
  (h:ta σ H λx H1=>tb σ H1 λy H2=>R x y H2) {Q:Value->W2->Prop} {f:Value->Value->Sem Value}
  (hf:∀ v u s2 x y H2,Inv X pins σ H2 s2->RelV x v->RelV y u->R x y H2->W6 (model X.prog X.w) X.A (f v u) Q X.xe s2) :
  W6 (model X.prog X.w) X.A (eval a X.env) (λv s₁=>W6 (model X.prog X.w) X.A (eval b X.env) (λu s₂=>W6 (model X.prog X.w) X.A (f v u) Q X.xe s₂) X.xe s₁) X.xe s:=by
 refine aH (ha pins s σ H _ I h) λv s1 ⟨x,H1,I1,r1,q1⟩=>?_
 refine aH (hb pins s1 σ H1 _ I1 q1) λu s2 ⟨y,H2,I2,r2,q2⟩=>?_
 exact hf v u s2 x y H2 I2 r1 r2 q2
theorem Aa{op:Operator}{r:R2}(ho:bD X (Qh op) r)(ha:PE X a ta)(hb:PE X b tb):PE X (.BinOp a op b pos) (lO r ta tb):=by
 intro pins s σ H Q I h;exact wpAny_BinOp (t6 ha hb I h λv u s2 x y H2 I2 rx ry q=>ho pins s2 σ H2 x y v u Q I2 rx ry q)
theorem oF{f:Value->Value->Sem Value}{C:Int->Int->Prop}{g:Int->Int->Int}
  (rule:∀ (i j:Int) (t u:Tok) (s:W2) (Q:Value->W2->Prop) (E:Value->W2->Prop),C i j->Q (.int (g i j) s.toks) { s with toks:=s.toks + 1 }->W6 (model X.prog X.w) X.A (f (.int i t) (.int j u)) Q E s) :
  bD X f (rI C λi j=>.int (g i j)):=by
 intro pins s σ H x y v u Q I rx ry h;obtain⟨i,j,rfl,rfl,hc,q⟩:=h;obtain⟨t,rfl⟩:=rx;obtain⟨t',rfl⟩:=ry;exact rule i j t t' s _ _ hc ⟨.int (g i j),H,I.tok _,⟨_,rfl⟩,q⟩
theorem Ab{f:Value->Value->Sem Value}{g:Int->Int->Int}
  (rule:∀ (i j:Int) (t u:Tok) (s:W2) (Q:Value->W2->Prop) (E:Value->W2->Prop),Q (.int (g i j) s.toks) { s with toks:=s.toks + 1 }->W6 (model X.prog X.w) X.A (f (.int i t) (.int j u)) Q E s) :
  bD X f (iF λi j=>.int (g i j)):=by
 intro pins s σ H x y v u Q I rx ry h;obtain⟨i,j,rfl,rfl,q⟩:=h;obtain⟨t,rfl⟩:=rx;obtain⟨t',rfl⟩:=ry;exact rule i j t t' s _ _ ⟨.int (g i j),H,I.tok _,⟨_,rfl⟩,q⟩
theorem t7{f:Value->Value->Sem Value}{g:Int->Int->Bool}
  (rule:∀ (i j:Int) (t u:Tok) (s:W2) (Q:Value->W2->Prop) (E:Value->W2->Prop),Q (.bool (g i j)) s->W6 (model X.prog X.w) X.A (f (.int i t) (.int j u)) Q E s) :
  bD X f (iF λi j=>.bl (g i j)):=by
 intro pins s σ H x y v u Q I rx ry h;obtain⟨i,j,rfl,rfl,q⟩:=h;obtain⟨t,rfl⟩:=rx;obtain⟨t',rfl⟩:=ry;exact rule i j t t' s _ _ ⟨.bl (g i j),H,I,rfl,q⟩
def Ac(i j:Int):Prop:=0 < j/\j < 1073741824
def Ad(i j:Int):Prop:=0<=j/\j<=1000000/\i.natAbs < 2 ^ 64
def oG(i j:Int):Prop:=(-(2 ^ 64) < i/\i < 2 ^ 64)\/(-(2 ^ 64) < j/\j < 2 ^ 64)
theorem oG.ok(h:oG i j):IntMulOk i j:=by
 rcases h with ⟨h1,h2⟩ | ⟨h1,h2⟩
 ·exact .of_left (intBits_le_64 h1 h2)
 ·exact .of_right (intBits_le_64 h1 h2)
theorem GD:bD X (Qh .Add) (iF λi j=>.int (i + j)):=Ab λ_ _ _ _ _ _ _ q=>add_int q
theorem GF:bD X (Qh .Sub) (iF λi j=>.int (i - j)):=Ab λ_ _ _ _ _ _ _ q=>sub_int q
theorem GG:bD X (Qh .Mult) (rI oG λi j=>.int (i * j)):=oF λ_ _ _ _ _ _ _ hc q=>mul_int q hc.ok
theorem GH:bD X (Qh .FloorDiv) (rI Ac λi j=>.int (i / j)):=oF λi j _ _ _ _ _ hc q=>by
 have h1:(0:Int) < j:=hc.1;have h2:j < 1073741824:=hc.2;exact floordiv_int (by omega) (by rw[Int.fdiv_eq_ediv_of_nonneg i (by omega)]; exact q) (.inl (PyProof.noPylong_small (by omega)))
theorem kI:bD X (Qh .Mod) (rI (λ_ j=>0 < j) λi j=>.int (i % j)):=oF λi j _ _ _ _ _ hc q=>by
 have h1:(0:Int) < j:=hc;exact mod_int' (by omega) (by rw[Int.fmod_eq_emod_of_nonneg i (by omega)]; exact q)
theorem GI:bD X (Qh .Pow) (rI Ad λi j=>.int (i ^ j.toNat)):=oF λ_ _ _ _ _ _ _ hc q=>pow_int_small hc.1 hc.2.1 hc.2.2 q
end
section
variable {X:Cx} {a b c:Expr} {ta tb tc:TE} {pos:Pos}
theorem t8(I:Inv X pins σ H s)(q:Q (.bl k) H)(e:k=k'):EP X pins σ Q (.bool k') s:=by
 subst e;exact⟨.bl k,H,I,rfl,q⟩
theorem GJ:bD X (WO .Lt) (iF λi j=>.bl (decide (i < j))):=t7 λ_ _ _ _ _ _ _ q=>lt_int q
theorem GK:bD X (WO .Gt) (iF λi j=>.bl (decide (j < i))):=t7 λ_ _ _ _ _ _ _ q=>gt_int q
theorem GL:bD X (WO .GtE) (iF λi j=>.bl (decide (j<=i))):=t7 λ_ _ _ _ _ _ _ q=>ge_int q
theorem GN:bD X (WO .Lt) (λx y H Q=>∃ i j,x = .str i/\y = .str j/\Q (.bl (decide (i.cps.toList < j.cps.toList))) H):=by
 intro pins s σ H x y v u Q I rx ry h;obtain⟨i,j,rfl,rfl,q⟩:=h;obtain⟨t,rfl⟩:=rx;obtain⟨t',rfl⟩:=ry;exact lt_str (t8 I q rfl)
theorem GO:bD X (WO .Is) (λx y H Q=>y = .aq/\Q (.bl (decide (x = .aq))) H):=by
 intro pins s σ H x y v u Q I rx ry h;obtain⟨rfl,q⟩:=h
 cases ry;refine is_none_gen (t8 I q ?_)
 cases x <;> first
  | (cases rx; rfl)
  | (obtain⟨t,rfl⟩:=rx; rfl)
theorem GP:bD X (WO .NotIn) (λx y H Q=>∃ i j,x = .str i/\y = .str j/\Q (.bl (!(!(Builtin.Str.occurrences j i 0 j.length 1).isEmpty))) H):=by
 intro pins s σ H x y v u Q I rx ry h;obtain⟨i,j,rfl,rfl,q⟩:=h;obtain⟨t,rfl⟩:=rx;obtain⟨t',rfl⟩:=ry;exact notIn_str (t8 I q rfl)
theorem bD.or(h:bD X f r)(h':bD X f r'):bD X f (λx y H Q=>r x y H Q\/r' x y H Q):=by
 intro pins s σ H x y v u Q I rx ry q;rcases q with q | q
 ·exact h pins s σ H x y v u Q I rx ry q
 ·exact h' pins s σ H x y v u Q I rx ry q
theorem gf(b:Expr)(h:op≠.In:=by decide)(h2:op≠.NotIn:=by decide):Qp op b=false:=by
 have e1:(op == CmpOp.In)=false:=by cases op <;> first | rfl | exact absurd rfl h
 have e2:(op == CmpOp.NotIn)=false:=by cases op <;> first | rfl | exact absurd rfl h2
 cases b <;> simp[Qp,e1,e2]
theorem Ae{op:CmpOp}{r:R2}(ho:bD X (WO op) r)(ha:PE X a ta)(hb:PE X b tb)(hm:Qp op b=false):PE X (.Compare a [op] [b] pos) (lO r ta tb):=by
 intro pins s σ H Q I h;exact wpAny_Compare1 (t6 ha hb I h λv u s2 x y H2 I2 rx ry q=>ho pins s2 σ H2 x y v u Q I2 rx ry q) hm
def GQ(t:TE):TT:=λσ H Q=>t σ H λx H'=>∃ k,x = .bl k/\Q k H'
theorem Af(ho:bD X (WO op) r)(ha:PE X a ta)(hb:PE X b tb)(hm:Qp op b=false):PT X (.Compare a [op] [b] pos) (GQ (lO r ta tb)):=by
 intro pins s σ H Q I h;refine wpAny_isTrue_Compare1 (aH (ha pins s σ H _ I h) λv s1 ⟨x,H1,I1,r1,q1⟩=>aH (hb pins s1 σ H1 _ I1 q1) λu s2 ⟨y,H2,I2,r2,q2⟩ =>
  aH (ho pins s2 σ H2 x y v u _ I2 r1 r2 q2) λc s3 ⟨z,H3,I3,r3,k,e,q3⟩=>?_) hm
 subst e
 cases r3;exact Qv ⟨H3,I3,q3⟩
theorem mL:(Wa:Nat) < 2 ^ 63:=by rw[QC]; decide
theorem GR:bD X (Qh .Add) (λx y H Q=>∃ i j,x = .str i/\y = .str j/\i.length + j.length<=Wa/\Q (.str (i ++ j)) H):=by
 intro pins s σ H x y v u Q I rx ry h;obtain⟨i,j,rfl,rfl,hz,q⟩:=h;obtain⟨t,rfl⟩:=rx;obtain⟨t',rfl⟩:=ry;exact add_str (λt' tk=>⟨.str (i ++ j),H,I.tok _,⟨_,rfl⟩,q⟩) hz
theorem fQ(r:Vals [x] us):∃ u,us=[u]/\RelV x u:=by
 cases r with
 | cons r1 r2=>cases r2; exact⟨_,rfl,r1⟩
theorem t9(r:Vals [x,y] us):∃ u w',us=[u,w']/\RelV x u/\RelV y w':=by
 cases r with
 | cons r1 r2 =>
  cases r2 with
  | cons r3 r4=>cases r4; exact⟨_,_,rfl,r1,r3⟩
theorem GS (hc:X.calm=true):dH X (.builtin "max") (λxs H Q=>∃ i j,xs=[.int i,.int j]/\Q (.int (if j > i then j else i)) H):=by
 intro pins s σ H xs us Q I r h;obtain⟨i,j,rfl,q⟩:=h;obtain⟨u,w',rfl,⟨t,rfl⟩,⟨t',rfl⟩⟩:=t9 r;refine max_two_ints (I.ok.hd hc) λh' tk k=>⟨_,H,I.kept k,?_,q⟩
 by_cases hj:j > i
 ·rw[if_pos hj,if_pos hj]; exact⟨_,rfl⟩
 ·rw[if_neg hj,if_neg hj]; exact⟨_,rfl⟩
theorem GU:dH X (.type "int") (λxs H Q=>(∃ i,xs=[.int i]/\Q (.int i) H)\/∃ k,xs=[.bl k]/\Q (.int (if k then 1 else 0)) H):=by
 intro pins s σ H xs us Q I r h;rcases h with ⟨i,rfl,q⟩ | ⟨k,rfl,q⟩
 ·obtain⟨u,rfl,t,rfl⟩:=fQ r;exact call_int_int ⟨.int i,H,I,⟨_,rfl⟩,q⟩
 ·obtain⟨u,rfl,r1⟩:=fQ r
  cases r1;exact call_int_bool ⟨.int (if k then 1 else 0),H,I.tok _,⟨_,rfl⟩,q⟩
end
structure t_(h:Heap)(x dx C:Addr)(mA:Str->Option Value):Prop where
 obj:h.get? x=some (PySem.W.instObj C dx)
 ns:h.Ns1 dx mA
 ne:dx≠x
theorem Ag{h:Heap}{dx:Addr}{mA:Str->Option Value}(n:h.Ns1 dx mA):∃ od,h.get? dx=some od/\∀ name,PySem.W.lookIn name od=some (mA name):=by
 obtain⟨o,es,ep,ho,hd,hk,_,hm⟩:=n;refine⟨o,ho,λname=>?_⟩;have e:=hm name;unfold nsFind findBy at e;rw[<- Array.find?_toList] at e;unfold PySem.W.lookIn;rw[hd];dsimp only;split
 ·rename_i y q;rw[q] at e;exact congrArg some e
 ·rename_i q;rw[q] at e;have a:es.toList.any (·.refKey)=false:=by
   rw[List.any_eq_false];intro y hy;obtain⟨z,t,hkey⟩:=hk y (Array.mem_toList_iff.mp hy);simp[DictEntry.refKey,hkey]
  have a':¬ es.toList.any (·.refKey)=true:=by rw[a]; exact WX
  rw[if_neg a'];exact congrArg some e
theorem t_.look(I:t_ h x dx C mA):∃ od,PySem.W.InstAt h x (PySem.W.instObj C dx) C (some od)/\∀ name,PySem.W.lookIn name od=some (mA name) :=
 let ⟨od,ho,hl⟩:=Ag I.ns
 ⟨od,⟨I.obj,rfl,rfl,ho⟩,hl⟩
section
variable {prog:Wg} {w:Wm} {A:Wl} {E:Value->W2->Prop} {s:W2} {K:W1} {x dx C f:Addr} {mA:Str->Option Value} {name:Str} {v:Value}
end
theorem dG.some_of(r:dG (some v) o):∃ u,o=some u/\RelV v u:=by
 cases o with
 | none=>exact(show False from r).elim
 | some u=>exact⟨u,rfl,r⟩
theorem dG.none_of(r:dG none o):o=none:=by
 cases o with
 | none=>rfl
 | some u=>exact(show False from r).elim
theorem GV(r:RelV v u):PySem.W.handedIn u=true:=by
 cases v with
 | aq=>cases (show u=Value.none from r); rfl
 | bl b=>cases (show u=Value.bool b from r); rfl
 | int i=>obtain⟨t,e⟩:=(show ∃ t,u=Value.int i t from r); cases e; rfl
 | str x=>obtain⟨t,e⟩:=(show ∃ t,u=Value.str x t from r); cases e; rfl
 | byt b=>obtain⟨t,e⟩:=(show ∃ t,u=Value.bytes b t from r); cases e; rfl
 | flt b=>obtain⟨t,e⟩:=(show ∃ t,u=Value.float b t from r); cases e; rfl
 | ref a=>cases (show u=Value.ref a from r); rfl
 | ty n=>cases (show u=Value.type n from r); rfl
section
variable {P:Wg} {w:Wm} {H H':Hp} {h h':Heap} {a C dx:Addr} {fs Fz:List (Str×V)}
theorem GW(ag:b8 P w H h)(e:H a=some (.ins C dx fs)):∃ mA,t_ h a dx C mA/\(∀ f,dG (fs.lookup f) (mA f))/\PySem.Within mA (fs.map (·.1))/\fs.length<=1000/\H dx=some (.own a):=by
 obtain⟨d,z,ne,ob,mA,n,r,q⟩:=(show bq P w H h a (.ins C dx fs) from ag a _ e)
 exact⟨mA,⟨ob,n,ne⟩,r,q,z,d⟩
end
structure ua(K:W1)(C:Addr):Prop where
 pg:PySem.W.plainGet K C Str.empty=true
 hd:JN K C=true
 po:PySem.W.plainOver K C=true
 sa:Jl K (.ref C) "__setattr__" = some (some (.builtin "object.__setattr__"))
theorem ua.get{K:W1}{C:Addr}(c:ua K C)(f:Str):PySem.W.plainGet K C f=true:=c.pg
structure Tn(K:W1)(C:Addr)(f:Str)(v:V)(u:Value):Prop where
 at_:Jl K (.ref C) f=some (some u)
 rel:RelV v u
 get:PySem.W.specialIn K u "__get__" = some none
 cp:PySem.W.copiedNames.contains f=false
structure Meth(K:W1)(C:Addr)(m:Str)(f:Addr):Prop where
 at_:Jl K (.ref C) m=some (some (.ref f))
 fn:PySem.W.isFn K (.ref f)=true
 kp:WZ K (.ref f)=true
section
variable {X:Cx} {pins:List (Addr×Obj)} {σ:St} {H:Hp} {s:W2} {a C dx:Addr} {fs:List (Str×V)} {f:Str} {v:V} {A:Wl} {E:Value->W2->Prop}
theorem GX(hb:Qq e f env (eval e env)=eval e env)
  (h:W6 (model prog w) A (eval e env) (λo s₁=>W6 (model prog w) A (getAttr o f true) Q E s₁) E s):W6 (model prog w) A (eval (.Attribute e f pos) env) Q E s :=
 Attribute_any_ h (by rw[arm_eval_Attribute,hb])
end
section
variable {X:Cx} {o e value:Expr} {f:Str} {pos pos' tpos:Pos} {ta tv:TE}
end
section
variable {X:Cx} {pins:List (Addr×Obj)} {σ:St} {H:Hp} {s:W2} {A:Wl} {E:Value->W2->Prop} {Q:Value->W2->Prop} {c:Value} {b:Bool}
inductive gZ (K:W1) (H:Hp):V->Value->Prop where
 | aq:gZ K H .aq (.type "NoneType")
 | bl (x:Bool):gZ K H (.bl x) (.type "bool")
 | int (i:Int):gZ K H (.int i) (.type "int")
 | str (x:Str):gZ K H (.str x) (.type "str")
 | flt (x:UInt64):gZ K H (.flt x) (.type "float")
 | lst {a:Addr} {xs:List V} (e:H a=some (.lst xs)):gZ K H (.ref a) (.type "list")
 | frz {a:Addr} {o:Obj} {xs:List V} (e:H a=some (.frz o (.lst xs))):gZ K H (.ref a) (.type "list")
 | tup {a:Addr} {xs:List V} (e:H a=some (.tup xs)):gZ K H (.ref a) (.type "tuple")
 | dK {a:Addr} {kvs:List (Key×V)} (e:H a=some (.dK kvs)):gZ K H (.ref a) (.type "dict")
 | dT {a:Addr} {kvs:List (List Key×V)} (e:H a=some (.dT kvs)):gZ K H (.ref a) (.type "dict")
 | ins {a C dx:Addr} {fs:List (Str×V)} (e:H a=some (.ins C dx fs)) (cl:ua K C) (ha:Jl K (.ref C) "__class__" = some (some (.builtin "object.__class__")))
   (hn:PySem.W.specialIn K (.builtin "object.__class__") "__get__" = some (some (.builtin "getset_descriptor.__get__"))) (Ah:PySem.W.takesIn K (.builtin "object.__class__")=some true)
   (hm:PySem.W.mroIn K C (.type "object")=some true):gZ K H (.ref a) (.ref C)
theorem kJ(I:Inv X pins σ H s)(rx:RelV x u)(ty:gZ X.K H x t)(e:Qz X.K t c=some b)(h:∀ tk,Q (.bool b) { s with toks:=tk }) :
  W6 (model X.prog X.w) A (call (.builtin "isinstance") [u,c]) Q E s:=by
 cases ty with
 | aq=>cases (show u=Value.none from rx); exact Q5 PySem.W.kitx_none I.cn True.intro e (λz=>nomatch z) h
 | bl y=>cases (show u=Value.bool y from rx); exact Q5 PySem.W.kitx_bool I.cn True.intro e (λz=>nomatch z) h
 | int i=>obtain⟨t,q⟩:=(show ∃ t,u=Value.int i t from rx); cases q; exact Q5 PySem.W.kitx_int I.cn True.intro e (λz=>nomatch z) h
 | str y=>obtain⟨t,q⟩:=(show ∃ t,u=Value.str y t from rx); cases q; exact Q5 PySem.W.kitx_str I.cn True.intro e (λz=>nomatch z) h
 | flt y=>obtain⟨t,q⟩:=(show ∃ t,u=Value.float y t from rx); cases q; exact Q5 PySem.W.kitx_float I.cn True.intro e (λz=>nomatch z) h
 | @lst a xs ea =>
  cases (show u=Value.ref a from rx);obtain⟨_,_,n,_,h1⟩:=(show bq X.prog X.w H s.heap a (.lst xs) from I.ag a _ ea)
  exact Q5 PySem.W.kitx_list I.cn ⟨_,h1,rfl⟩ e (λz=>nomatch z) h
 | @frz a ob xs ea =>
  cases (show u=Value.ref a from rx);obtain⟨_,_,_,n,_,h1⟩:=(show bq X.prog X.w H s.heap a (.frz ob (.lst xs)) from I.ag a _ ea)
  exact Q5 PySem.W.kitx_list I.cn ⟨_,h1,rfl⟩ e (λz=>nomatch z) h
 | @tup a xs ea =>
  cases (show u=Value.ref a from rx);obtain⟨_,_,_,p⟩:=(show bq X.prog X.w H s.heap a (.tup xs) from I.ag a _ ea)
  obtain⟨o,h1,h2,_⟩:=p.tup;exact Q5 PySem.W.kitx_tuple I.cn ⟨o,h1,h2⟩ e (λz=>nomatch z) h
 | @dK a kvs ea =>
  cases (show u=Value.ref a from rx);obtain⟨_,_,vs,_,p⟩:=(show bq X.prog X.w H s.heap a (.dK kvs) from I.ag a _ ea)
  obtain⟨o,es,ep,h1,h2,_⟩:=p;exact Q5 PySem.W.kitx_dict I.cn ⟨o,h1,h2.1⟩ e (λz=>nomatch z) h
 | @dT a kvs ea =>
  cases (show u=Value.ref a from rx);obtain⟨_,_,xs,_,o,es,ep,h1,h2,_⟩:=(show bq X.prog X.w H s.heap a (.dT kvs) from I.ag a _ ea)
  exact Q5 PySem.W.kitx_dict I.cn ⟨o,h1,h2.1⟩ e (λz=>nomatch z) h
 | @ins a C dx fs ea cl ha hn Ah hm =>
  cases (show u=Value.ref a from rx);obtain⟨mA,O,_⟩:=GW I.ag ea;obtain⟨od,J,_⟩:=O.look;exact Q5 (PySem.W.kitx_own (cl.get _) cl.hd ha hn Ah hm) I.cn J e (λz=>nomatch z) h
end
structure bj(k:Nat)(A:Wl):Prop where
 hd:A.handled=none
 dp:A.depth + 3 * k + 5 < recursionLimit
 un:A.units + 16 * k + 200 < Qi
theorem bj.mono(r:bj k A)(h:j<=k):bj j A:=⟨r.hd,by have:=r.dp; omega,by have:=r.un; omega⟩
theorem bj.deeper(r:bj (k + 1) A)(env:Env):bj k (A.deeper env) :=
 ⟨r.hd,by have:=r.dp; show A.depth + 1 + 3 * k + 5 < _; omega,by have:=r.un; show A.units + 3 + 16 * k + 200 < _; omega⟩
theorem GY {A:Wl} {C:Addr} {us:List Value} {kw:List (Str×Value)}:(A.under (.builtin "type.__call__" ⟨.ref C :: us,kw⟩)).depth=A.depth + 1:=by
 first | rfl | simp[Around.under,Code.weight,Code.isCreation,Code.isGuard,Code.isCaller,Code.frames,Code.isFrame,guardIds]
theorem GZ {A:Wl} {C:Addr} {us:List Value} {kw:List (Str×Value)}:(A.under (.builtin "type.__call__" ⟨.ref C :: us,kw⟩)).units=A.units + 1:=by
 first | rfl | simp[Around.under,Code.cUnits,Code.frames,Code.isFrame]
theorem bj.make (r:bj (k + 1) A) (C:Addr) (us:List Value) (kw:List (Str×Value)):bj k (A.under (.builtin "type.__call__" ⟨.ref C :: us,kw⟩)) :=
 ⟨r.hd,by have:=r.dp; rw[GY]; omega,by have:=r.un; rw[GZ]; omega⟩
theorem bj.depth(r:bj k A):A.depth < recursionLimit:=by have:=r.dp; omega
def Ai:TA:=λ_ H Q=>Q [] H
def Aj(ta:TE)(tr:TA):TA:=λσ H Q=>ta σ H λx H1=>tr σ H1 λxs H2=>Q (x :: xs) H2
section
variable {X:Cx} {e:Expr} {es:List Expr} {te:TE} {t:TA} {pos:Pos}
theorem eU:PA X [] Ai:=λ_ _ _ _ H Q I h=>Calls.spliced_nil ⟨[],H,I,.nil,h⟩
theorem df(ha:PE X e te)(hr:PA X es t)(hs:W5 (e :: es) X.env=(false,eval e X.env) :: W5 es X.env:=by rfl):PA X (e :: es) (Aj te t):=by
 intro pos pins s σ H Q I h;rw[hs];show W6 _ _ (spliced ((false,eval e X.env) :: WN pos (W5 es X.env))) _ _ s;refine Calls.spliced_cons (aH (ha pins s σ H _ I h) λu s1 ⟨x,H1,I1,r1,q1⟩=>?_);exact aH (hr pos pins s1 σ H1 _ I1 q1) λus s2 ⟨xs,H2,I2,r2,q2⟩=>⟨x :: xs,H2,I2,.cons r1 r2,q2⟩
def G0(t:TA):TE:=λσ H Q=>t σ H λxs H1=>xs.length<=Wa/\∀ p,H1 p=none->Q (.ref p) (upd H1 p (.tup xs))
def G1(t:TA):TE:=λσ H Q=>t σ H λxs H1=>xs.length<=Wa/\∀ p,H1 p=none->Q (.ref p) (upd H1 p (.lst xs))
theorem G2{x1}(h:PA X es t):PE X (.Tuple es x1 pos) (G0 t):=by
 intro pins s σ H Q I hq;refine wpAny_Tuple_spliced (aH (h pos pins s σ H _ I hq) λus s1 ⟨xs,H1,I1,r,z,q⟩=>⟨by rw[<- r.length]; exact z,?_⟩);have hf:H1 s1.heap.objs.size=none:=I1.ag.fresh (Wb _);refine⟨.ref s1.heap.objs.size,upd H1 s1.heap.objs.size (.tup xs),I1.laid (t':=s1.toks) (λb u e=>W3 _ e) (Wb _) ?_,rfl,q _ hf⟩;exact⟨z,us,r,⟨_,Wi _ rfl⟩⟩
theorem G3(h:PA X es t):PE X (.List es pos) (G1 t):=by
 intro pins s σ H Q I hq;refine wpAny_List_spliced (aH (h pos pins s σ H _ I hq) λus s1 ⟨xs,H1,I1,r,z,q⟩=>⟨by rw[<- r.length]; exact z,?_⟩);have hf:H1 s1.heap.objs.size=none:=I1.ag.fresh (Wb _);refine⟨.ref s1.heap.objs.size,upd H1 s1.heap.objs.size (.lst xs),I1.laid (t':=s1.toks) (λb u e=>W3 _ e) (Wb _) ?_,rfl,q _ hf⟩;exact⟨z,us,0,r,Wi _ rfl⟩
end
abbrev Sp:=List V->Hp->VK->XK->Prop
abbrev g8:=List Env->Hp->W2->XK->Value->W2->Prop
structure iG(P:Wg)(w:Wm)(K:W1)(mg:Str->Option Value)(base:Heap)(A:Wl)(outer:List Env)(s:W2)(H:Hp):Prop where
 frames:A.frames=some outer
 mod:Mod K mg base
 bs:∀ b o,base.get? b=some o->s.heap.get? b=some o/\H b=none
 gc:base.objs.size<=s.heap.objs.size
 eT:s.heap.FunFrames base outer
 gX:∀ b ∈ dq outer,H b=none
 ag:b8 P w H s.heap
 bare:AllBare s.gens
def CE(outer:List Env)(P:Wg)(w:Wm)(H:Hp)(s:W2)(Q:VK)(u:Value)(s':W2):Prop :=
 ∃ v H',s'.os=s.os/\AllBare s'.gens/\Un (dq outer) [] H H' s.heap s'.heap/\b8 P w H' s'.heap/\RelV v u/\Q v H'
def CR(CX:g8)(outer:List Env)(P:Wg)(w:Wm)(H:Hp)(s:W2)(Q:VK)(E:XK)(r:Result)(s':W2):Prop :=
 match r with
 | .ok (.ret u)=>CE outer P w H s Q u s'
 | .ok _=>False
 | .error e=>CX outer H s E e s'
structure c8(P:Wg)(w:Wm)(K:W1)(mg:Str->Option Value)(base:Heap)(CX:g8)(k:Nat)(f:Addr)(fd:Wy)(ps:List Str)(sp:Sp):Prop where
 len:∀ vs H Q E,sp vs H Q E->vs.length=ps.length
 run:∀ (A:Wl) (outer:List Env) (s:W2) (H:Hp) (args:Args) (us:List Value) (vs:List V) (Q:VK) (E:XK),bj k A->iG P w K mg base A outer s H->BindsTo s fd args (ps.zip us)->Vals vs us->sp vs H Q E ->
  Q4 (model P w) A (.call (.ref f) args) (CR CX outer P w H s Q E) s
theorem iG.make{P:Wg}{w:Wm}{K:W1}{mg:Str->Option Value}{base:Heap}{A:Wl}{outer:List Env}{s:W2}{H:Hp}(e:iG P w K mg base A outer s H)(C:Addr)(us:List Value)(kw:List (Str×Value)) :
  iG P w K mg base (A.under (.builtin "type.__call__" ⟨.ref C :: us,kw⟩)) outer s H:=⟨by first | exact e.frames | (simpa[Around.under,Code.envs,Code.isFrame,pushEnvs] using e.frames),e.mod,e.bs,e.gc,e.eT,e.gX,e.ag,e.bare⟩
section
variable {X:Cx} {pins:List (Addr×Obj)} {σ:St} {H:Hp} {s s':W2}
theorem Inv.mM(I:Inv X pins σ H s):iG X.prog X.w X.K X.mg X.base X.A X.stack s H :=
 ⟨I.ok.frames,I.ok.mod,I.bs,WQ I.ok.gc I.sz,I.stack,I.qz,I.ag,I.bare⟩
theorem Inv.after(I:Inv X pins σ H s)(h:CE X.stack X.prog X.w H s Q u s'):EP X pins σ Q u s':=by
 obtain⟨v,H',os,bare,un,ag,r,q⟩:=h;obtain⟨hh,g,d,t,os'⟩:=s';obtain rfl:os'=s.os:=os;exact⟨v,H',I.call (h':=hh) (g':=g) (d':=d) (t':=t) (ch:=[]) un ag bare (λb z=>absurd z (by simp)),r,q⟩
end
def ub(sp:Sp)(kK:List V)(E:XK)(t:TA):TE:=λσ H Q=>t σ H λvs H1=>sp (vs ++ kK) H1 Q E
def Binds(K:W1)(fd:Wy)(ps:List Str)(ds:List Value):Prop :=
 ∀ (s:W2) (us:List Value),K.In s.heap->(us ++ ds).length=ps.length->BindsTo s fd ⟨us,[]⟩ (ps.zip (us ++ ds))
theorem Binds.all{K:W1}{fd:Wy}{ps:List Str}(h:∀ us:List Value,us.length=ps.length->bindArgs fd ⟨us,[]⟩=pure (ps.zip us)):Binds K fd ps []:=λs us _ hl=>by
 rw[WK] at hl ⊢;exact .of_eq (h us hl)
def uc(CX:g8)(X:Cx)(E:XK):Prop:=∀ (pins:List (Addr×Obj)) (σ:St) (H:Hp) (s:W2) (e:Value) (s':W2),Inv X pins σ H s->CX X.stack H s E e s'->X.xe e s'
section
variable {X:Cx} {CX:g8} {k:Nat} {f C:Addr} {fd:Wy} {ps:List Str} {sp:Sp} {kK:List V} {ds:List Value} {E:XK} {x m:Str} {p pos apos:Pos} {e o:Expr} {es:List Expr} {ta:TE} {t:TA}
theorem G4(F:c8 X.prog X.w X.K X.mg X.base CX k f fd ps sp)(hr:bj k X.A)(hb:Binds X.K fd ps ds)(hd:Vals kK ds)(hx:uc CX X E)
  (I:Inv X pins σ H s) (r:Vals vs us) (h:sp (vs ++ kK) H Q E):W6 (model X.prog X.w) X.A (call (.ref f) us) (EP X pins σ Q) X.xe s:=by
 have r2:Vals (vs ++ kK) (us ++ ds):=r.append hd;have hl:(us ++ ds).length=ps.length:=by rw[<- r2.length]; exact F.len _ _ _ _ h
 refine Jp (Qk (F.run X.A X.stack s H ⟨us,[]⟩ (us ++ ds) (vs ++ kK) Q E hr I.mM (hb s us I.cn hl) r2 h) λr s' hq=>?_)
 cases r with
 | error e=>exact hx pins σ H s e s' I hq
 | ok fl =>
  cases fl with
  | ret u=>exact I.after hq
  | next=>exact False.elim hq
  | brk=>exact False.elim hq
  | cont=>exact False.elim hq
theorem Al(F:c8 X.prog X.w X.K X.mg X.base CX k f fd ps sp)(hr:bj k X.A)(hg:Gl X x)(hm:X.mg x=some (.ref f))(hk:WZ X.K (.ref f)=true)(hb:Binds X.K fd ps ds)(hd:Vals kK ds)(hx:uc CX X E)
  (ha:PA X (e :: es) t) (cq:(x == ("__debug__" : Str))=false:=by decide) (he:W5 (e :: es) X.env=(false,eval e X.env) :: W5 es X.env:=by rfl) (bx:(WN pos (W5 es X.env)).any (·.1)=false:=by rfl) :
  PE X (.Call (.Name x p) (e :: es) [] pos) (ub sp kK E t):=by
 intro pins s σ H Q I h;refine Ql (lM I hg hm ?_ cq);refine JD (h₀:=X.base) I.ok.mod.jL hk (aH (ha pos pins s σ H _ I h) λus s1 ⟨vs,H1,I1,r,q⟩=>⟨I1.cn,?_⟩) he bx;exact G4 F hr hb hd hx I1 r q
structure Mk(K:W1)(C f:Addr):Prop where
 makes:PySem.W.makesIn K C=true
 init:Jl K (.ref C) "__init__" = some (some (.ref f))
 fn:PySem.W.isFn K (.ref f)=true
 kp:WZ K (.ref C)=true
end
def PK(X:Cx)(Am:List Keyword)(t:TA):Prop :=
 ∀ (pos:Pos) (pins:List (Addr×Obj)) (s:W2) (σ:St) (H:Hp) (Q:List V->Hp->Prop),Inv X pins σ H s->t σ H Q->W6 (model X.prog X.w) X.A (evalAll ((JE pos (J4 Am X.env)).map (·.2))) (AP X pins σ Q) X.xe s
section
variable {X:Cx} {CX:g8} {k:Nat} {f C:Addr} {fd:Wy} {ps ks:List Str} {sp:Sp} {E:XK} {x m:Str} {p pos apos To:Pos} {e o:Expr} {es:List Expr} {Am:List Keyword} {te ta:TE} {t tk:TA} {nm:Option Str}
structure Tp(K:W1)(fd:Wy)(ps ks:List Str)(g:List Value->List Value->List Value)(gV:List V->List V->List V):Prop where
 to:∀ (s:W2) (us ws:List Value),K.In s.heap->(g us ws).length=ps.length->BindsTo s fd ⟨us,ks.zip ws⟩ (ps.zip (g us ws))
 rel:∀ {vs:List V} {us:List Value} {zs:List V} {ws:List Value},Vals vs us->Vals zs ws->Vals (gV vs zs) (g us ws)
variable {g:List Value->List Value->List Value} {gV:List V->List V->List V}
end
structure bS(N P:List Str)(sc:Scope):Prop where
 kind:sc.kind = .function
 co:sc.isCoroutine=false
 gen:sc.isGenerator=false
 nd:N.Nodup
 pre:N.take P.length=P
 par:∀ x ∈ P,sc.names.lookup x=some .local\/sc.names.lookup x=some .cell
 ud:∀ y ∈ sc.names,y.2≠.free
theorem scc{N P:List Str}{sc:Scope}(kind:sc.kind = .function:=by rfl)(co:sc.isCoroutine=false:=by rfl)(gen:sc.isGenerator=false:=by rfl)(nd:N.Nodup:=by decide +kernel)(pre:N.take P.length=P:=by rfl)(par:∀ x ∈ P,sc.names.lookup x=some .local\/sc.names.lookup x=some .cell:=by decide +kernel)(ud:∀ y ∈ sc.names,y.2≠.free:=by decide +kernel):bS N P sc:=⟨kind,co,gen,nd,pre,par,ud⟩
theorem An{kindOf:Str->Option NameKind}{x:Str}:∀ {binds:List (Str×Value)} {m:Str->Option Value},(∀ v,(x,v) ∉ binds)->bindL kindOf binds m x=m x
 | [],_,_=>rfl
 | (n,v) :: r,m,h=>by
  unfold bindL;rw[An λw hw=>h w (Wd _ hw)];split
  ·have:x≠n:=by rintro rfl; exact h v Wj
   simp[this]
  ·rfl
theorem Ao{kindOf:Str->Option NameKind}{x:Str}:∀ {binds:List (Str×Value)} {m:Str->Option Value},(∀ v,(x,v) ∉ binds)->bindC kindOf binds m x=m x
 | [],_,_=>rfl
 | (n,v) :: r,m,h=>by
  unfold bindC;rw[Ao λw hw=>h w (Wd _ hw)];split
  ·rfl
  ·have:x≠n:=by rintro rfl; exact h v Wj
   simp[this]
theorem Ap{kindOf:Str->Option NameKind}{x:Str}{v:Value}:∀ {P:List Str} {vs:List Value} {i:Nat} {m:Str->Option Value},P.Nodup->P[i]? = some x->vs[i]? = some v->kindOf x=some .local ->
  bindL kindOf (P.zip vs) m x=some v
 | [],_,_,_,_,h,_,_=>by simp at h
 | _ :: _,[],_,_,_,_,h,_=>by simp at h
 | p :: P,w :: vs,0,m,nd,h1,h2,hk=>by
  simp at h1 h2; subst h1; subst h2
  show bindL kindOf ((p,w) :: P.zip vs) m p=_;unfold bindL;rw[An λv hv=>(Q0.mp nd).1 (Jy hv).1,if_pos hk];simp
 | p :: P,w :: vs,i + 1,m,nd,h1,h2,hk=>by
  show bindL kindOf ((p,w) :: P.zip vs) m x=_;unfold bindL;exact Ap (i:=i) (Q0.mp nd).2 (by simpa using h1) (by simpa using h2) hk
theorem Aq{kindOf:Str->Option NameKind}{x:Str}{v:Value}:∀ {P:List Str} {vs:List Value} {i:Nat} {m:Str->Option Value},P.Nodup->P[i]? = some x->vs[i]? = some v->kindOf x≠some .local ->
  bindC kindOf (P.zip vs) m x=some v
 | [],_,_,_,_,h,_,_=>by simp at h
 | _ :: _,[],_,_,_,_,h,_=>by simp at h
 | p :: P,w :: vs,0,m,nd,h1,h2,hk=>by
  simp at h1 h2; subst h1; subst h2
  show bindC kindOf ((p,w) :: P.zip vs) m p=_;unfold bindC;rw[Ao λv hv=>(Q0.mp nd).1 (Jy hv).1,if_neg hk];simp
 | p :: P,w :: vs,i + 1,m,nd,h1,h2,hk=>by
  show bindC kindOf ((p,w) :: P.zip vs) m x=_;unfold bindC;exact Aq (i:=i) (Q0.mp nd).2 (by simpa using h1) (by simpa using h2) hk
def start(N:List Str)(vs:List V):St:=vs.map some ++ W8 (N.length - vs.length) none
def cE(CX:g8)(P:Wg)(w:Wm)(K:W1)(mg:Str->Option Value)(base:Heap)(N:List Str)(qual:Str)(scope:Scope)(f:Addr)(cd:Value)(A:Wl)(outer:List Env)(s:W2)(H:Hp)(E:XK):Cx where
 prog:=P
 w:=w
 K:=K
 mg:=mg
 base:=base
 A:=A.deeper (Qu qual scope s.heap.objs.size f cd)
 N:=N
 s₀:=s
 H₀:=H
 env:=Qu qual scope s.heap.objs.size f cd
 outer:=outer
 stack:=Qu qual scope s.heap.objs.size f cd :: outer
 ex:=[]
 calm:=true
 fn:=λ_=>true
 pn:=[]
 xe:=λe s'=>W6 (model P w) (A.deeper (Qu qual scope s.heap.objs.size f cd)) (leaving (Qu qual scope s.heap.objs.size f cd) e) (λ_ iH=>CX outer H s E e iH) (λe' iH=>CX outer H s E e' iH) s'
theorem Ar{sc:Scope}{n:Nat}{x:Str}(h:sc.names.lookup x=some .cell):∃ c,(Qm n sc.names []).lookup x=some c:=by
 have q:=QM sc.names n [] (.inl h);exact J9.mp q
theorem ue{CX:g8}{P:Wg}{w:Wm}{K:W1}{mg:Str->Option Value}{base:Heap}{N ps:List Str}{qual:Str}{scope:Scope}{f:Addr}{cd:Value}{A:Wl}{outer:List Env}{s s1:W2}{H:Hp}{E:XK}{us:List Value}{vs:List V}
  (S:bS N ps scope) (hd:A.handled=none) (e0:iG P w K mg base A outer s H) (hl:vs.length=ps.length) (r:Vals vs us)
  (x:InCallC s s.heap.objs.size (bindL (Qu qual scope s.heap.objs.size f cd).kindOf (ps.zip us) λ_=>none) (Qm (s.heap.objs.size + 1) scope.names []) (bindC (Qu qual scope s.heap.objs.size f cd).kindOf (ps.zip us) λ_=>none) s1) :
  Inv (cE CX P w K mg base N qual scope f cd A outer s H E) [] (start N vs) H s1:=by
 have bx:ps.length<=N.length:=by have:=congrArg Js S.pre; rw[JT] at this; omega
 obtain⟨h1,tk,rfl,hk⟩:=x.done;have iI:∀ b:Addr,b ∉ (cE CX P w K mg base N qual scope f cd A outer s H E).ex:=λb z=>absurd (show b ∈ ([]:List Addr) from z) (by simp)
 refine⟨⟨e0.mod,S.kind,rfl,rfl,Wb _,λy z c h1 h2=>?_,λy hy=>?_,λy c _ h=>?_,λ_=>hd,Around.frames_deeper e0.frames,.inr ⟨rfl,rfl⟩,λb z=>absurd z (iI b),e0.bs,e0.gc,λb _ _=>iI b,λb z=>absurd z (iI b),e0.eT,e0.gX⟩,
  rfl,e0.bare,Un.kept hk,⟨_,x.toInCall.ns,λi y v h1 h2 h3=>?_⟩,λy c h=>⟨_,x.cell y c h⟩,e0.ag.fresh (Wb _),λy c h=>?_,λp hp=>absurd (show p ∈ ([]:List (Addr×Obj)) from hp) (by simp),e0.ag.kept hk,?_⟩
 ·exact name_of_addr x.apart (Wv h1) (Wv h2)
 ·have hy:scope.names.lookup y=some .cell\/scope.names.lookup y=some .free:=hy;rcases hy with hy | hy
  ·exact Ar hy
  ·exact absurd rfl (S.ud _ (Wv hy))
 ·exact Jk (x.above y c (Wv h))
 ·have hi:i < vs.length:=by
   unfold start at h2;by_cases hi:i < vs.length
   ·exact hi
   ·rw[List.getElem?_append_right (by simpa using hi)] at h2;rw[List.getElem?_replicate] at h2;split at h2 <;> cases h2
  have ha:vs[i]? = some v:=by
   unfold start at h2;rw[List.getElem?_append_left (by simpa using hi),WF] at h2
   cases e:vs[i]? with
   | none=>rw[e] at h2; cases h2
   | some a=>rw[e] at h2; cases h2; rfl
  obtain⟨u,hu,rv⟩:=r.get ha;have hp:ps[i]? = some y:=by
   rw[<- S.pre,List.getElem?_take_of_lt (by omega)]; exact h1
  have As:ps.Nodup:=by rw[<- S.pre]; exact S.nd.sublist (List.take_sublist _ _)
  refine⟨u,rv,?_⟩;rcases S.par y (WW hp) with k | k
  ·exact .inl ⟨k,Ap As hp hu k⟩
  ·obtain⟨c,e⟩:=Ar (n:=s.heap.objs.size + 1) k;refine .inr ⟨.inl k,c,e,?_⟩;have q:=x.cell y c e;rw[Aq As hp hu (by show scope.names.lookup y≠_; rw[k]; decide)] at q;exact q
 ·exact e0.ag.fresh (Jk (x.above y c (Wv h)))
 ·unfold start;show _=N.length;rw[Q6,Wx,List.length_replicate];omega
theorem qK{CX:g8}{P:Wg}{w:Wm}{K:W1}{mg:Str->Option Value}{base:Heap}{k:Nat}{f:Addr}{name qual:Str}{params:Arguments}{body:List Stmt}{scope:Scope}{dV kV doc pm aj ct oc:Value}{an od:Option Addr}
  {cK:Array (Option Value)} {N ps:List Str} {sp:Sp} (lk:K.lookup f=some ⟨oc,od,.func (WR name qual params body scope dV kV doc pm an aj ct),cK⟩) (cC:PySem.W.codeIn K aj qual=true) (S:bS N ps scope)
  (len:∀ vs H Q E,sp vs H Q E->vs.length=ps.length)
  (bU:∀ (A:Wl) (outer:List Env) (s:W2) (H:Hp) (vs:List V) (Q:VK) (E:XK),bj k (A.deeper (Qu qual scope s.heap.objs.size f aj))->sp vs H Q E ->
   ∃ t,cX (cE CX P w K mg base N qual scope f aj A outer s H E) body t/\t { nx:=λ_ H'=>Q .aq H',rt:=Q } (start N vs) H) :
  c8 P w K mg base CX (k + 1) f (WR name qual params body scope dV kV doc pm an aj ct) ps sp:=by
 refine⟨len,λA outer s H args us vs Q E hr e0 hb r gh=>?_⟩;have hl:=len _ _ _ _ gh;have KX:K.In s.heap:=e0.mod.jL.keeps λb o e=>(e0.bs b o e).1
 have lim:s.heap.NoLimit:=e0.mod.nolimit.keeps λb o e=>(e0.bs b o e).1
 have oH:∀ y ∈ ps.zip us,scope.names.lookup y.1=some .local\/(scope.names.lookup y.1=some .cell/\((Qm (s.heap.objs.size + 1) scope.names []).lookup y.1).isSome=true):=λ⟨n,v⟩ hy=>by
  rcases S.par n (Jy hy).1 with q | q
  ·exact .inl q
  ·exact .inr ⟨q,QM _ _ _ (.inl q)⟩
 refine codeAny_call_function hr.depth (KX _ _ lk) rfl S.co S.gen rfl (PySem.W.codeRec_of KX cC) (hb _ _ _ _ ?_);refine wpAny_newFunctionEnv_cells S.kind oH λenv he s1 x=>?_
 subst he;refine⟨lim.keeps x.toInCall.keep,codeAny_func ?_⟩;obtain⟨t,ht,hq⟩:=bU A outer s H vs Q E (hr.deeper _) gh;have I:Inv (cE CX P w K mg base N qual scope f aj A outer s H E) [] (start N vs) H s1:=ue S hr.hd e0 hl r x;refine WC (ht [] s1 (start N vs) H _ I hq) (λfl s' hs=>?_) λe s' hs=>hs
 have fin:∀ {σ':St} {H':Hp} {v:V} {u:Value},Inv (cE CX P w K mg base N qual scope f aj A outer s H E) [] σ' H' s'->RelV v u->Q v H'->CE outer P w H s Q u s' :=
  λ{σ' H' v u} J rv q=>⟨v,H',J.os,J.bare,J.base,J.ag,rv,q⟩
 cases fl with
 | ret u =>
  obtain⟨v,σ',H',J,rv,q⟩:=hs;exact fin J rv q
 | next =>
  obtain⟨σ',H',J,q⟩:=hs;exact fin (v:=V.aq) (u:=Value.none) J rfl q
 | brk =>
  obtain⟨_,_,_,q⟩:=hs;exact False.elim q
 | cont =>
  obtain⟨_,_,_,q⟩:=hs;exact False.elim q
section
variable {X:Cx} {x:Str} {p pos:Pos} {e:Expr} {es:List Expr} {t:TA} {id T:String} {r:List V->Hp->VK->Prop}
def Au(r:List V->Hp->VK->Prop)(t:TA):TE:=λσ H Q=>t σ H λvs H1=>r vs H1 Q
theorem mO (hc:dH X (.builtin id) r) (hg:Gl X x) (hm:X.mg x=none) (hv:Q9 x=some (.builtin id)) (ha:PA X (e :: es) t) (hn:x≠"__name__":=by decide) (cq:(x == ("__debug__" : Str))=false:=by decide)
  (he:W5 (e :: es) X.env=(false,eval e X.env) :: W5 es X.env:=by rfl) (bx:(WN pos (W5 es X.env)).any (·.1)=false:=by rfl):PE X (.Call (.Name x p) (e :: es) [] pos) (Au r t):=by
 intro pins s σ H Q I h;refine Ql (mK I hg hm hv ?_ hn cq);exact PyProof.Rows.callWith_builtin1 (aH (ha pos pins s σ H _ I h) λus s1 ⟨vs,H1,I1,r1,q1⟩=>hc pins s1 σ H1 vs us Q I1 r1 q1) he bx
theorem Aw (hc:dH X (.type T) r) (hg:Gl X x) (hm:X.mg x=none) (hv:Q9 x=some (.type T)) (ha:PA X (e :: es) t) (hn:x≠"__name__":=by decide) (cq:(x == ("__debug__" : Str))=false:=by decide)
  (he:W5 (e :: es) X.env=(false,eval e X.env) :: W5 es X.env:=by rfl) (bx:(WN pos (W5 es X.env)).any (·.1)=false:=by rfl):PE X (.Call (.Name x p) (e :: es) [] pos) (Au r t):=by
 intro pins s σ H Q I h;refine Ql (mK I hg hm hv ?_ hn cq);exact QP (aH (ha pos pins s σ H _ I h) λus s1 ⟨vs,H1,I1,r1,q1⟩=>hc pins s1 σ H1 vs us Q I1 r1 q1) he bx
end
end L2
namespace HT
open PySem PyProof.Rows
section
open PySem.SeqAt
open PySem.AutoSeq1 (wpAny_loadPart')
open PySem.MeetsSeq PySem.MeetsSeq2 PySem.MeetsSeq3
end
section
variable {prog:Wg} {w:Wm} {A:Wl} {E:Value->W2->Prop} {s:W2}
theorem G5(ht:IsTup s.heap t vs.toArray)(hb:IsTup s.heap b ws.toArray)(hv:vs≠[])
  (h1:ws=[]->Q (.ref t) s) (h2:ws≠[]->Q (.ref s.heap.objs.size) { s with heap:=s.heap.push { cls:=.type "tuple",data:=.seq (vs ++ ws).toArray } })
  (hsz:vs.length + ws.length<=Wa):W6 (model prog w) A (Qh .Add (.ref t) (.ref b)) Q E s:=by
 obtain⟨⟨cls,dd,data,sl⟩,ho,hc,n,hd⟩:=id ht;obtain⟨⟨cls2,lP,data2,kL⟩,ho2,hc2,n2,hd2⟩:=id hb;simp only at hc hd hc2 hd2;subst hc hd hc2 hd2;have e:vs.toArray ++ ws.toArray=(vs ++ ws).toArray:=by simp
 by_cases hw:ws=[]
 ·exact concat_meets ⟨_,ho,rfl⟩ ⟨_,ho2,rfl⟩ noFill_tuple_add seq_tuple_add PySem.F.slot_tuple_add PySem.F.entry_tuple_add (PySem.F.args_tuple_add_2 _ _)
   (tuple_addW1 t b vs.toArray ws.toArray n n2 dd lP sl kL (by simpa using hv) (by simp[hw])) ⟨ho,ho2,h1 hw⟩
 ·refine concat_meets ⟨_,ho,rfl⟩ ⟨_,ho2,rfl⟩ noFill_tuple_add seq_tuple_add PySem.F.slot_tuple_add PySem.F.entry_tuple_add (PySem.F.args_tuple_add_2 _ _)
   (tuple_addW2 t b vs.toArray ws.toArray n n2 dd lP sl kL (by simpa using hv) (by simpa using hw) (by rw[Wr,Wr]; exact hsz)) ⟨ho,ho2,?_⟩
  rw[e];exact h2 hw
def aP(n d:Nat):Option Int->Nat
 | none=>d
 | some v=>if v < 0 then(v + (n:Int)).toNat else min v.toNat n
theorem uf(n d:Nat)(hd:d<=n)(o:Option Int):aP n d o<=n:=by
 cases o with
 | none=>exact hd
 | some v =>
  show(if v < 0 then(v + (n:Int)).toNat else min v.toNat n)<=n;by_cases hv:v < 0
  ·rw[if_pos hv]; omega
  ·rw[if_neg hv]; exact Nat.min_le_right _ _
theorem Ax(v:Int)(n d:Nat):(if v < 0 then max (v + (n:Int)) 0 else min v (n:Int))=((aP n d (some v):Nat):Int):=by
 show(if v < 0 then max (v + (n:Int)) 0 else min v (n:Int))=(((if v < 0 then(v + (n:Int)).toNat else min v.toNat n):Nat):Int);by_cases hv:v < 0
 ·simp only[if_pos hv]; omega
 ·simp only[if_neg hv]; omega
theorem G6(lo hi:Option Int)(n:Nat):Builtin.Slice.sliceAdjust lo hi 1 (n:Int)=(((aP n 0 lo:Nat):Int),((aP n n hi:Nat):Int)):=by
 have h1:¬ ((1:Int) < 0):=by omega
 unfold Builtin.Slice.sliceAdjust;simp only[h1,if_false];refine Prod.ext ?_ ?_
 ·cases lo with
  | none=>rfl
  | some v=>exact Ax v n 0
 ·cases hi with
  | none=>rfl
  | some v=>exact Ax v n n
theorem G7(i j:Nat):J0 (i:Int) (j:Int) 1=j - i:=by
 unfold J0;have h1:(1:Int) > 0:=by omega
 simp only[h1,if_true,Int.ediv_one];split <;> omega
theorem Ay(p:IsPart v o)(h:Q o s):W6 (model prog w) A (Builtin.Slice.slicePartIndex v) Q E s:=by
 cases p with
 | none=>exact slicePart_none h
 | int i t=>exact slicePart_int h
theorem Az{sl:Addr}{vl vu:Value}{lo hi:Option Int}{n:Nat}{Q:Int×Int×Nat->W2->Prop}(hs:s.heap.IsSliceOf sl vl vu .none)(pl:IsPart vl lo)(pu:IsPart vu hi)
  (h:Q (((aP n 0 lo:Nat):Int),1,aP n n hi - aP n 0 lo) s):W6 (model prog w) A (Builtin.Slice.sliceApplied (.ref sl) (pure (n:Int))) Q E s:=by
 obtain⟨os,hos,hcs,hds⟩:=id hs;unfold Builtin.Slice.sliceApplied Builtin.Slice.sliceFields;refine W0 (W0 (Qr hos hds (x:=vl) rfl (W0 (Qr hos hds (x:=vu) rfl (W0 (Qr hos hds (x:=.none) rfl (W4 ?_)))))));refine W0 (slicePart_none ?_);show W6 _ _ (if ((1:Int) == 0)=true then _ else _) _ _ s;rw[if_neg (by decide)];refine W0 (Ay pl (W0 (Ay pu (W0 (W4 ?_)))));show W6 _ _ (match Builtin.Slice.sliceAdjust lo hi 1 (n:Int) with | (lo,hi)=>pure (lo,(1:Int),J0 lo hi 1)) _ _ s;rw[G6 lo hi n];show W6 _ _ (pure (((aP n 0 lo:Nat):Int),(1:Int),J0 ((aP n 0 lo:Nat):Int) ((aP n n hi:Nat):Int) 1)) _ _ s;rw[G7];exact W4 h
theorem G8(xs:Array Value)(i k:Nat):((Wp k).filterMap λ(m:Nat)=>xs[((i:Int) + (m:Int) * 1).toNat]?).toArray=((xs.toList.drop i).take k).toArray:=by
 have e:(λ(m:Nat)=>xs[((i:Int) + (m:Int) * 1).toNat]?)=λm=>xs[i + m]?:=by
  funext m
  have:((i:Int) + (m:Int) * 1).toNat=i + m:=by omega
  rw[this]
 rw[e];have:=pick_run xs i k;rw[List.filterMap_map] at this;have e2:((λx=>xs[x]?) ∘ λx=>i + x)=λm=>xs[i + m]?:=rfl
 rw[e2] at this;rw[this]
theorem G9{t sl:Addr}{items:Array Value}{vl vu:Value}{lo hi:Option Int}{Q:Value->W2->Prop}(ht:IsTup s.heap t items)(hs:s.heap.IsSliceOf sl vl vu .none)(pl:IsPart vl lo)(pu:IsPart vu hi)
  (hw:¬ (aP items.size 0 lo=0/\aP items.size items.size hi=items.size))
  (h:Q (.ref s.heap.objs.size) { s with heap:=s.heap.push { cls:=.type "tuple",data:=.seq ((items.toList.drop (aP items.size 0 lo)).take (aP items.size items.size hi - aP items.size 0 lo)).toArray } })
  (hsz:items.size<=Wa):W6 (model prog w) A (getItem (.ref t) (.ref sl)) Q E s:=by
 have qL:sizeOk (.seq ((items.toList.drop (aP items.size 0 lo)).take (aP items.size items.size hi - aP items.size 0 lo)).toArray):=by
  show((items.toList.drop (aP items.size 0 lo)).take (aP items.size items.size hi - aP items.size 0 lo)).toArray.size<=Wa;rw[Wr,JT,List.length_drop,Qg];omega
 have hj:aP items.size items.size hi<=items.size:=uf _ _ (Wb _) hi;obtain⟨os,hos,hcs,hds⟩:=id hs;have ug:s.TypeIs (.ref sl) "slice":=⟨os,hos,hcs⟩
 unfold getItem;try with_reducible refine WU ?_
 first | refine W0 (W4 ?_) | skip
 refine W0 (wpAny_sequenceKey ht.typeIs (by decide) ?_);refine W0 (Q2 (name:=Str.ofString "__getitem__") ht.typeIs QB
  (Qd QB ht.typeIs entry_tuple_getitem ?_ (args_tuple_getitem _ _)))
 show W6 _ _ (Builtin.Tuple.tupleItemsOf (.ref t) >>= _) _ _ s;refine W0 (tupleItemsOf_ ht ?_);refine W0 (QQ ug ?_);rw[if_pos (by decide)];refine W0 (Az hs pl pu ?_);have g9:¬ ((((aP items.size 0 lo:Nat):Int) == 0 && (1:Int) == 1 && (aP items.size items.size hi - aP items.size 0 lo) == items.size)=true):=by
  intro q;rw[Ws,Ws] at q;have q1:((aP items.size 0 lo:Nat):Int)=0:=eq_of_beq q.1.1;have q2:aP items.size items.size hi - aP items.size 0 lo=items.size:=eq_of_beq q.2;exact hw ⟨by omega,by omega⟩
 show W6 _ _ (if (((aP items.size 0 lo:Nat):Int) == 0 && (1:Int) == 1 && (aP items.size items.size hi - aP items.size 0 lo) == items.size)=true then _ else _) _ _ s;rw[if_neg g9,G8];first
  | exact W0 (m:=Ja _) (WL (W4 ⟨_,rfl,W4 h⟩) qL)
  | exact W0 (m:=Ja _) (WL (W0 (W4 (W4 ⟨_,rfl,W4 h⟩))) qL)
  | exact W0 (W0 (m:=Ja _) (WL (W4 (W4 ⟨_,rfl,W4 h⟩)) qL))
  | exact W0 (W0 (m:=Ja _) (WL (W4 ⟨_,rfl,W4 h⟩) qL))
end
end HT
namespace L2
open PySem PySem.Spec PyProof.Rows
abbrev TO:=St->Hp->(Option Int->Hp->Prop)->Prop
def PO(X:Cx)(e:Option Expr)(t:TO):Prop :=
 ∀ (pins:List (Addr×Obj)) (s:W2) (σ:St) (H:Hp) (Q:Option Int->Hp->Prop),Inv X pins σ H s->t σ H Q ->
  W6 (model X.prog X.w) X.A (evalPart e X.env) (λu s'=>∃ o H',Inv X pins σ H' s'/\IsPart u o/\Q o H') X.xe s
def G_(t:TE):TO:=λσ H Q=>t σ H λx H1=>∃ i,x = .int i/\Q (some i) H1
section
variable {X:Cx} {e:Expr} {te:TE} {lo hi:Option Expr} {tl th:TO} {pos p2:Pos}
theorem Hb(h:PE X e te):PO X (some e) (G_ te):=by
 intro pins s σ H Q I hw;rw[evalPart_some];refine aH (h pins s σ H _ I hw) λu s1 ⟨x,H1,I1,r1,q1⟩=>?_
 obtain⟨i,rfl,q⟩:=q1;obtain⟨t,rfl⟩:=r1;exact⟨some i,H1,I1,.int i t,q⟩
def jk(X:Cx)(r:V->Option Int->Option Int->Hp->VK->Prop):Prop :=
 ∀ (pins:List (Addr×Obj)) (s:W2) (σ:St) (H:Hp) (x:V) (v vl vu:Value) (lo hi:Option Int) (sl:Addr) (Q:VK),Inv X pins σ H s->RelV x v->s.heap.IsSliceOf sl vl vu .none->IsPart vl lo->IsPart vu hi->r x lo hi H Q ->
  ∃ T id,typeLookup (.type T) "__getitem__" = pure (some (.builtin id))/\s.TypeIs v T/\W6 (model X.prog X.w) X.A (getItem v (.ref sl)) (EP X pins σ Q) X.xe s
theorem jk.or(h:jk X r)(h':jk X r'):jk X (λx lo hi H Q=>r x lo hi H Q\/r' x lo hi H Q):=by
 intro pins s σ H x v vl vu lo hi sl Q I rx hs pl pu q;rcases q with q | q
 ·exact h pins s σ H x v vl vu lo hi sl Q I rx hs pl pu q
 ·exact h' pins s σ H x v vl vu lo hi sl Q I rx hs pl pu q
def Hc(r:V->Option Int->Option Int->Hp->VK->Prop)(te:TE)(tl th:TO):TE:=λσ H Q=>te σ H λx H1=>tl σ H1 λl H2=>th σ H2 λu H3=>r x l u H3 Q
theorem Hd(hr:jk X r)(he:PE X e te)(hl:PO X lo tl)(hu:PO X hi th):PE X (.Subscript e (.Slice lo hi none p2) pos) (Hc r te tl th):=by
 intro pins s σ H Q I h;refine Subscript_ (aH (he pins s σ H _ I h) λv s1 ⟨x,H1,I1,r1,q1⟩=>?_);refine wpAny_Slice (aH (hl pins s1 σ H1 _ I1 q1) λvl s2 ⟨l,H2,I2,pl,q2⟩=>aH (hu pins s2 σ H2 _ I2 q2) λvu s3 ⟨u,H3,I3,pu,q3⟩=>?_);rw[evalPart_none];refine W4 ?_;have I4:Inv X pins σ H3 { s3 with heap:=s3.heap.push { cls:=.type "slice",data:=.fields #[vl,vu,.none] } }:=I3.kept (t':=s3.toks) λb ob q=>W3 _ q
 obtain⟨T,id,hT,ht,hg⟩:=hr pins { s3 with heap:=s3.heap.push { cls:=.type "slice",data:=.fields #[vl,vu,.none] } } σ H3 x v vl vu l u s3.heap.objs.size Q I4 r1 (Heap.IsSliceOf.new ..) pl pu q3;show W6 (model X.prog X.w) X.A (subscriptTail e (.Slice lo hi none p2) v (.ref s3.heap.objs.size)) (EP X pins σ Q) X.xe { s3 with heap:=s3.heap.push { cls:=.type "slice",data:=.fields #[vl,vu,.none] } };exact tail_any (ops:=[.ref s3.heap.objs.size,v]) ht hT hg (by with_unfolding_all rfl)
def kM(xs:List V)(lo hi:Option Int):List V:=(xs.drop (HT.aP xs.length 0 lo)).take (HT.aP xs.length xs.length hi - HT.aP xs.length 0 lo)
theorem AA(xs:List V)(lo hi:Option Int):(kM xs lo hi).length<=xs.length:=by
 unfold kM;rw[JT,List.length_drop];omega
def He(K:W1):V->Option Int->Option Int->Hp->VK->Prop:=λx lo hi H Q=>∃ a xs,x = .ref a/\cD K H a xs /\
 ¬ (HT.aP xs.length 0 lo=0/\HT.aP xs.length xs.length hi=xs.length)/\∀ p,H p=none->Q (.ref p) (upd H p (.tup (kM xs lo hi)))
theorem Hf:jk X (He X.K):=by
 intro pins s σ H x v vl vu lo hi sl Q I rx hs pl pu h;obtain⟨a,xs,rfl,hx,hw,q⟩:=h
 cases rx;obtain⟨aa,r,ht,hz⟩:=I.tuple hx;have hlen:aa.toArray.size=xs.length:=by rw[Wr]; exact r.length.symm
 refine⟨"tuple",_,PyProof.Rows.slot_tuple_getitem.lookup,ht.typeIs,?_⟩;refine HT.G9 ht hs pl pu (by rw[hlen]; exact hw) ?_ (by rw[hlen]; exact hz);rw[hlen];refine⟨.ref s.heap.objs.size,_,I.laid (t':=s.toks) (o:=.tup (kM xs lo hi)) (λb ob q=>W3 _ q) (Wb _) ?_,rfl,q _ (I.ag.fresh (Wb _))⟩;exact⟨WQ (AA xs lo hi) hz,_,(r.drop (HT.aP xs.length 0 lo)).take (HT.aP xs.length xs.length hi - HT.aP xs.length 0 lo),gR.new _ _⟩
def AB(K:W1):R2:=λx y H Q=>∃ a b xs ys,x = .ref a/\y = .ref b/\cD K H a xs/\cD K H b ys/\xs≠[]/\xs.length + ys.length<=Wa /\
 (ys=[]->Q (.ref a) H)/\(ys≠[]->∀ p,H p=none->Q (.ref p) (upd H p (.tup (xs ++ ys))))
theorem Vals.qM(r:Vals xs us):us=[] ↔ xs=[]:=by
 cases r with
 | nil=>simp
 | cons _ _=>simp
theorem Hg:bD X (Qh .Add) (AB X.K):=by
 intro pins s σ H x y v u Q I rx ry h;obtain⟨a,b,xs,ys,rfl,rfl,ha,hb,hx,hz,q1,q2⟩:=h
 cases rx
 cases ry;obtain⟨aa,r1,p1,_⟩:=I.tuple ha;obtain⟨its2,r2,p2,_⟩:=I.tuple hb;refine HT.G5 p1 p2 (λz=>hx (r1.qM.mp z)) (λz=>⟨.ref a,H,I,rfl,q1 (r2.qM.mp z)⟩) (λz=>?_) (by rw[<- r1.length,<- r2.length]; exact hz);refine⟨.ref s.heap.objs.size,_,I.laid (t':=s.toks) (o:=.tup (xs ++ ys)) (λb ob q=>W3 _ q) (Wb _) ?_,rfl,q2 (λw=>z (r2.qM.mpr w)) _ (I.ag.fresh (Wb _))⟩;exact⟨by rw[Q6]; exact hz,_,r1.append r2,gR.new _ _⟩
end
def dR(n:Nat)(i:Int):Option Nat:=if 0<=i then(if i < n then some i.toNat else none) else if -(n:Int)<=i then some (i + n).toNat else none
def cL{α:Type}(xs:List α)(i:Int):Option α:=(dR xs.length i).bind λj=>xs[j]?
theorem AD(h:dR n i=some j):seqIndex? i n=some j/\j < n/\-(n:Int)<=i/\i < n:=by
 unfold dR at h;by_cases h0:0<=i
 ·rw[if_pos h0] at h;by_cases h1:i < n
  ·rw[if_pos h1] at h;have e:i.toNat=j:=WB h;exact⟨by rw[seqIndex_of h0 h1,e],by omega,by omega,h1⟩
  ·rw[if_neg h1] at h; cases h
 ·rw[if_neg h0] at h;by_cases h1 : -(n:Int)<=i
  ·rw[if_pos h1] at h;have e:(i + n).toNat=j:=WB h;exact⟨by rw[seqIndex_neg (by omega) h1,e],by omega,h1,by omega⟩
  ·rw[if_neg h1] at h; cases h
theorem uh(h:cL xs i=some v):∃ j,seqIndex? i xs.length=some j/\xs[j]? = some v/\j < xs.length/\-(xs.length:Int)<=i/\i < xs.length:=by
 unfold cL at h
 cases e:dR xs.length i with
 | none=>rw[e] at h; cases h
 | some j =>
  rw[e] at h;obtain⟨h1,h2,h3,h4⟩:=AD e;exact⟨j,h1,h,h2,h3,h4⟩
def ui(b:Expr):Prop:=∀ o i,subscripted b false o i=operate [o,i] (getItem o i)
def gC(X:Cx)(r:R2):Prop :=
 ∀ (value slice:Expr) (pins:List (Addr×Obj)) (s:W2) (σ:St) (H:Hp) (x y:V) (v u:Value) (Q:VK),Inv X pins σ H s->RelV x v->RelV y u->r x y H Q ->
  subscripted slice false v u=operate [v,u] (getItem v u)->W6 (model X.prog X.w) X.A (subscriptTail value slice v u) (EP X pins σ Q) X.xe s
def qN(X:Cx)(id:String)(r:V->List V->Hp->VK->Prop):Prop :=
 ∀ (pins:List (Addr×Obj)) (s:W2) (σ:St) (H:Hp) (x:V) (xs:List V) (v:Value) (us:List Value) (Q:VK),Inv X pins σ H s->RelV x v->Vals xs us->r x xs H Q ->
  W6 (model X.prog X.w) X.A (call (.builtin id) (v :: us)) (EP X pins σ Q) X.xe s
section
variable {X:Cx} {a b:Expr} {ta tb:TE} {pos:Pos}
theorem gC.or(h:gC X r)(h':gC X r'):gC X (λx y H Q=>r x y H Q\/r' x y H Q):=by
 intro value slice pins s σ H x y v u Q I rx ry q hs;rcases q with q | q
 ·exact h value slice pins s σ H x y v u Q I rx ry q hs
 ·exact h' value slice pins s σ H x y v u Q I rx ry q hs
theorem AE(hr:gC X r)(ha:PE X a ta)(hb:PE X b tb)(hs:ui b):PE X (.Subscript a b pos) (lO r ta tb):=by
 intro pins s σ H Q I h;exact Subscript_ (t6 ha hb I h λv u s2 x y H2 I2 rx ry q=>hr a b pins s2 σ H2 x y v u Q I2 rx ry q (hs _ _))
def AF(K:W1):R2:=λx y H Q=>∃ p xs i v,x = .ref p/\y = .int i/\cg K H p xs/\cL xs i=some v/\Q v H
def AG(K:W1):R2:=λx y H Q=>∃ p xs i v,x = .ref p/\y = .int i/\cD K H p xs/\cL xs i=some v/\Q v H
def AH:R2:=λx y H Q=>∃ z i c,x = .str z/\y = .int i/\z.length<=Wa/\cL z.cps.toList i=some c/\Q (.str ⟨#[c]⟩) H
theorem Hh:gC X (AF X.K):=by
 intro value slice pins s σ H x y v u Q I rx ry h hs;obtain⟨p,xs,i,z,rfl,rfl,hq,he,q⟩:=h
 cases rx;obtain⟨t,rfl⟩:=ry;obtain⟨aa,r,pl,hz⟩:=I.list hq;obtain⟨j,h1,h2,h3,h4,h5⟩:=uh he;obtain⟨w,ew,aD⟩:=r.get h2;have hl:=r.length;have hn:=mL;have fin:EP X pins σ Q w s:=⟨z,H,I,aD,q⟩
 by_cases h0:0<=i
 ·have hj:i.toNat=j:=by
   rw[seqIndex_of h0 h5] at h1;exact WB h1
  exact item_listR pl.isList h0 (by omega) (by rw[hj]; simpa using ew) fin hs
 ·have hj:(i + (aa.toArray.size:Int)).toNat=j:=by
   rw[seqIndex_neg (by omega) h4] at h1;rw[Wr,<- hl];exact WB h1
  exact subscriptTail_builtinR (x:=w) pl.isList.typeIs slot_list_getitem.lookup
   (wpAny_getItem_list_neg (Q:=λr s'=>r=w/\EP X pins σ Q r s') pl.isList (by omega) (by rw[Wr] <;> omega) (by omega) (by rw[hj]; simpa using ew) ⟨rfl,fin⟩) hs
theorem Hi:gC X (AG X.K):=by
 intro value slice pins s σ H x y v u Q I rx ry h hs;obtain⟨p,xs,i,z,rfl,rfl,hq,he,q⟩:=h
 cases rx;obtain⟨t,rfl⟩:=ry;obtain⟨aa,r,pl,hz⟩:=I.tuple hq;obtain⟨j,h1,h2,h3,h4,h5⟩:=uh he;obtain⟨w,ew,aD⟩:=r.get h2;have hl:=r.length;have hn:=mL;have fin:EP X pins σ Q w s:=⟨z,H,I,aD,q⟩
 exact subscriptTail_builtinR (x:=w) pl.typeIs slot_tuple_getitem.lookup
  (getItem_tuple (j:=j) (Q:=λr s'=>r=w/\EP X pins σ Q r s') pl (by omega) (by omega) (by rw[Wr,<- hl]; exact h1) (by simpa using ew) ⟨rfl,fin⟩) hs
theorem Hj:gC X AH:=by
 intro value slice pins s σ H x y v u Q I rx ry h hs;obtain⟨z,i,c,rfl,rfl,hz,he,q⟩:=h;obtain⟨t,rfl⟩:=rx;obtain⟨t',rfl⟩:=ry;obtain⟨j,h1,h2,h3,h4,h5⟩:=uh he;have hl:z.cps.toList.length=z.length:=by simp[Str.length]
 rw[hl] at h1 h4 h5;have hn:=mL;exact tail_any (typeIs_str s z t) slot_str_getitem.lookup (getItem_str (c:=c) (by
  have e1:decide (i < -(2 ^ 63:Int))=false:=decide_eq_false (by omega);have e2:decide (i ≥ 2 ^ 63)=false:=decide_eq_false (by omega);rw[e1,e2,Bool.or_false]) (by rw[h1]; simpa using h2) ⟨.str ⟨#[c]⟩,H,I.tok _,⟨_,rfl⟩,q⟩) hs
def qO(K:W1):R2:=λx y H Q=>AF K x y H Q\/AG K x y H Q\/AH x y H Q
theorem cF:gC X (qO X.K):=Hh.or (Hi.or Hj)
theorem Hk (aa:List Value) (n j:Nat) (u:Value):Obj.mapSeq (·.setIfInBounds j u) { cls:=.type "list",data:=.seq aa.toArray n } = { cls:=.type "list",data:=.seq (aa.set j u).toArray n }:=by
 simp[Obj.mapSeq]
theorem Inv.lst(I:Inv X pins σ H s)(h:H p=some (.lst xs)) :
  ∃ (aa:List Value) (n:Nat),Vals xs aa/\s.heap.get? p=some { cls:=.type "list",data:=.seq aa.toArray n }/\xs.length<=Wa:=by
 obtain⟨z,aa,n,r,e⟩:=I.ag p _ h;exact⟨aa,n,r,e,z⟩
theorem Inv.Hl{pins:List (Addr×Obj)}{σ:St}{H:Hp}{s:W2}{p:Addr}{xs ys:List V}{aa its':List Value}{n n':Nat}{f:Obj->Obj}(I:Inv X pins σ H s)(h:H p=some (.lst xs))
  (ho:s.heap.get? p=some { cls:=.type "list",data:=.seq aa.toArray n }) (hf:f { cls:=.type "list",data:=.seq aa.toArray n } = { cls:=.type "list",data:=.seq its'.toArray n' }) (r:Vals ys its') (hz:ys.length<=Wa) (t:Nat) :
  Inv X pins σ (upd H p (.lst ys)) { s with heap:=s.heap.update p f,toks:=t }:=by
 have e:(s.heap.update p f).get? p=some { cls:=.type "list",data:=.seq its'.toArray n' }:=by
  rw[Wz f ho (by rw[hf] <;> rfl),hf]
 refine I.write (x:=p) (e:=p) (by rw[h]; trivial) (.inl rfl) (λb u hb q=>(WD _ _ (Ne.symm hb)).trans q) ⟨_,e⟩ ?_;exact⟨hz,its',n',r,e⟩
def Hm:V->V->V->Hp->(Hp->Prop)->Prop:=λo i v H Q=>∃ p xs k j,o = .ref p/\i = .int k/\H p=some (.lst xs)/\dR xs.length k=some j/\Q (upd H p (.lst (xs.set j v)))
theorem Ho:zY X Hm:=by
 intro pins s σ H o i v ov iv u Q I ro ri rv h;obtain⟨p,xs,k,j,rfl,rfl,hp,hj,q⟩:=h
 cases ro;obtain⟨t,rfl⟩:=ri;obtain⟨aa,n,r,ho,hz⟩:=I.lst hp;obtain⟨h1,h2,h3,h4⟩:=AD hj;have hl:=r.length;have hn:=mL;have I':Inv X pins σ (upd H p (.lst (xs.set j v))) { s with heap:=s.heap.update p (Obj.mapSeq (·.setIfInBounds j u)) } :=
  I.Hl hp ho (Hk aa n j u) (r.set rv j) (by rw[Qj]; exact hz) s.toks
 by_cases h0:0<=k
 ·have hk:k.toNat=j:=by
   rw[seqIndex_of h0 h4] at h1;exact WB h1
  exact PySem.W.ki_setAt ho h0 (by omega) (by rw[Wr,<- hl]; exact h4) (by rw[hk]; exact⟨_,I',q⟩)
 ·have hk:(k + (aa.toArray.size:Int)).toNat=j:=by
   rw[seqIndex_neg (by omega) h3] at h1;rw[Wr,<- hl];exact WB h1
  exact PySem.W.ki_setBack ho (by omega) (by rw[Wr,<- hl]; exact h3) (by omega) (by rw[hk]; exact⟨_,I',q⟩)
theorem Hq(lo hi:Option Int)(n:Nat):(Jt lo hi none n).1=((HT.aP n 0 lo:Nat):Int)/\(Jt lo hi none n).2.1=((HT.aP n n hi:Nat):Int)/\(Jt lo hi none n).2.2=1:=by
 refine⟨?_,?_,rfl⟩
 ·cases lo with
  | none=>simp[Jt,HT.aP]
  | some i =>
   simp only[Jt,HT.aP,Option.getD_none,show(1:Int) > 0 by decide,if_true];by_cases h:i < 0
   ·simp only[h,if_true] <;> omega
   ·simp only[h,if_false] <;> omega
 ·cases hi with
  | none=>simp[Jt,HT.aP]
  | some i =>
   simp only[Jt,HT.aP,Option.getD_none,show(1:Int) > 0 by decide,if_true];by_cases h:i < 0
   ·simp only[h,if_true] <;> omega
   ·simp only[h,if_false] <;> omega
theorem Hr(aa:List Value)(lo hi:Option Int):slicePick aa.toArray lo hi none=((aa.drop (HT.aP aa.length 0 lo)).take (HT.aP aa.length aa.length hi - HT.aP aa.length 0 lo)).toArray:=by
 obtain⟨h1,h2,h3⟩:=Hq lo hi aa.toArray.size;unfold slicePick;rw[h1,h2,h3];simp only[sliceRange_one,pick_run,Wr] <;> rfl
def AI(K:W1):V->Option Int->Option Int->Hp->VK->Prop:=λx lo hi H Q=>∃ a xs,x = .ref a/\cg K H a xs/\∀ p,H p=none->Q (.ref p) (upd H p (.lst (kM xs lo hi)))
theorem Ht:jk X (AI X.K):=by
 intro pins s σ H x v vl vu lo hi sl Q I rx hs pl pu h;obtain⟨a,xs,rfl,hx,q⟩:=h
 cases rx;obtain⟨aa,r,ht,hz⟩:=I.list hx;have hlen:=r.length;refine⟨"list",_,slot_list_getitem.lookup,ht.isList.typeIs,?_⟩;refine wpAny_getItem_list_slice ht.isList hs pl pu .none (by simp) ?_ (by rw[Wr] <;> omega);rw[Hr,<- hlen];refine⟨.ref s.heap.objs.size,_,I.laid (t':=s.toks) (o:=.lst (kM xs lo hi)) (λb ob q=>W3 _ q) (Wb _) ?_,rfl,q _ (I.ag.fresh (Wb _))⟩;exact⟨WQ (AA xs lo hi) hz,_,0,(r.drop (HT.aP xs.length 0 lo)).take (HT.aP xs.length xs.length hi - HT.aP xs.length 0 lo),Wi _ rfl⟩
def jP:V->Bool
 | .aq=>true
 | .bl _=>true
 | .int _=>true
 | .str _=>true
 | _=>false
def kN:V->V->Bool
 | .aq,.aq=>true
 | .bl a,.bl b=>a == b
 | .bl a,.int b=>(if a then 1 else 0) == b
 | .int a,.bl b=>a == (if b then 1 else 0)
 | .int a,.int b=>a == b
 | .str a,.str b=>a == b
 | _,_=>false
theorem Hu(ry:RelV y u)(rx:RelV x v)(fy:jP y=true)(fx:jP x=true):SeqAt.EqAt A s u v (kN y x):=by
 cases y with
 | aq =>
  cases ry
  cases x with
  | aq=>cases rx; exact SeqAt.EqAt.same _
  | bl b=>cases rx; exact SeqAt.EqAt.none_bool b
  | int b=>obtain⟨t,rfl⟩:=rx; exact SeqAt.EqAt.none_int b t
  | str b=>obtain⟨t,rfl⟩:=rx; exact SeqAt.EqAt.none_str b t
  | _=>exact absurd (show false=true from fx) WX
 | bl a =>
  cases ry
  cases x with
  | aq=>cases rx; exact SeqAt.EqAt.bool_none a
  | bl b=>cases rx; exact SeqAt.EqAt.bool_bool a b
  | int b=>obtain⟨t,rfl⟩:=rx; exact SeqAt.EqAt.bool_int a b t
  | str b=>obtain⟨t,rfl⟩:=rx; exact SeqAt.EqAt.bool_str a b t
  | _=>exact absurd (show false=true from fx) WX
 | int a =>
  obtain⟨t',rfl⟩:=ry
  cases x with
  | aq=>cases rx; exact SeqAt.EqAt.int_none a t'
  | bl b=>cases rx; exact SeqAt.EqAt.int_bool a t' b
  | int b=>obtain⟨t,rfl⟩:=rx; exact SeqAt.EqAt.int_int a t' b t
  | str b=>obtain⟨t,rfl⟩:=rx; exact SeqAt.EqAt.int_str a t' b t
  | _=>exact absurd (show false=true from fx) WX
 | str a =>
  obtain⟨t',rfl⟩:=ry
  cases x with
  | aq=>cases rx; exact SeqAt.EqAt.str_none a t'
  | bl b=>cases rx; exact SeqAt.EqAt.str_bool a t' b
  | int b=>obtain⟨t,rfl⟩:=rx; exact SeqAt.EqAt.str_int a t' b t
  | str b=>obtain⟨t,rfl⟩:=rx; exact SeqAt.EqAt.str_str a t' b t
  | _=>exact absurd (show false=true from fx) WX
 | _=>exact absurd (show false=true from fy) WX
def jQ(x:V)(u:Value):Bool:=match u with
 | .none=>kN .aq x
 | .bool b=>kN (.bl b) x
 | .int i _=>kN (.int i) x
 | .str z _=>kN (.str z) x
 | _=>false
theorem AJ(r:RelV y u)(f:jP y=true):jQ x u=kN y x:=by
 cases y with
 | aq=>cases r; rfl
 | bl b=>cases r; rfl
 | int i=>obtain⟨t,rfl⟩:=r; rfl
 | str z=>obtain⟨t,rfl⟩:=r; rfl
 | _=>exact absurd (show false=true from f) WX
theorem uj:∀ {xs:List V} {us:List Value},Vals xs us->xs.all jP=true->us.any (jQ x)=xs.any λy=>kN y x
 | _,_,.nil,_=>rfl
 | y :: xs,u :: us,.cons r t,f=>by
  rw[JS,Ws] at f;rw[QT,QT,AJ r f.1,uj t f.2]
theorem uk(rx:RelV x v)(fx:jP x=true):∀ {xs:List V} {us:List Value},Vals xs us->xs.all jP=true->∀ u ∈ us,SeqAt.EqAt A s u v (jQ x u)
 | _,_,.nil,_=>λu hu=>by cases hu
 | y :: xs,u :: us,.cons r t,f=>λu' hu=>by
  rw[JS,Ws] at f;rcases Wh.mp hu with rfl | hu
  ·rw[AJ r f.1]; exact Hu r rx f.1 fx
  ·exact uk rx fx t f.2 u' hu
def qP(x:V)(xs:List V):Bool:=xs.any λy=>kN y x
def AK(K:W1)(neg:Bool):R2:=λx y H Q=>∃ p xs,y = .ref p/\(cg K H p xs\/cD K H p xs)/\jP x=true/\xs.all jP=true/\Q (.bl (if neg then !qP x xs else qP x xs)) H
theorem Hv:bD X (WO .NotIn) (AK X.K true):=by
 intro pins s σ H x y v u Q I rx ry h;obtain⟨p,xs,rfl,hq,fx,fs,q⟩:=h
 cases ry;rcases hq with hq | hq
 ·obtain⟨aa,r,pl,hz⟩:=I.list hq;refine SeqAt.notIn_listAt (jQ x) pl.isList (λw hw=>uk rx fx r fs w (by simpa using hw)) ⟨.bl _,H,I,rfl,?_⟩;rw[show aa.toArray.any (jQ x)=aa.any (jQ x) by simp,uj r fs];exact q
 ·obtain⟨aa,r,pl,hz⟩:=I.tuple hq;refine SeqAt.notIn_tupleAt (jQ x) pl (λw hw=>uk rx fx r fs w (by simpa using hw)) ⟨.bl _,H,I,rfl,?_⟩;rw[show aa.toArray.any (jQ x)=aa.any (jQ x) by simp,uj r fs];exact q
theorem Hw:dH X (.builtin "len") (λxs H Q=>∃ p ys,xs=[.ref p]/\(cg X.K H p ys\/cD X.K H p ys)/\Q (.int ys.length) H):=by
 intro pins s σ H xs us Q I r h;obtain⟨p,ys,rfl,hq,q⟩:=h;obtain⟨u,rfl,rx⟩:=fQ r
 cases rx;have hn:=mL;rcases hq with hq | hq
 ·obtain⟨aa,r',pl,hz⟩:=I.list hq;have hlen:=r'.length;exact Calls.call_len_list pl.isList (by simp only[Wr] <;> omega) ⟨.int ys.length,H,I.tok _,⟨s.toks + 1,by rw[Wr,hlen]⟩,q⟩
 ·obtain⟨aa,r',pl,hz⟩:=I.tuple hq;have hlen:=r'.length;exact len_tuple pl (by simp only[Wr] <;> omega) ⟨.int ys.length,H,I.tok _,⟨s.toks + 1,by rw[Wr,hlen]⟩,q⟩
theorem Hx:dH X (.builtin "len") (λxs H Q=>∃ z,xs=[.str z]/\z.length<=Wa/\Q (.int z.length) H):=by
 intro pins s σ H xs us Q I r h;obtain⟨z,rfl,hz,q⟩:=h;obtain⟨u,rfl,t,rfl⟩:=fQ r;have hn:=mL;exact len_str (by omega) ⟨.int z.length,H,I.tok _,⟨_,rfl⟩,q⟩
theorem dH.or(h:dH X f r)(h':dH X f r'):dH X f (λxs H Q=>r xs H Q\/r' xs H Q):=by
 intro pins s σ H xs us Q I rs q;rcases q with q | q
 ·exact h pins s σ H xs us Q I rs q
 ·exact h' pins s σ H xs us Q I rs q
theorem Hy:dH X (.type "tuple") (λxs H Q=>∃ p ys,xs=[.ref p]/\((cg X.K H p ys/\∀ l,H l=none->Q (.ref l) (upd H l (.tup ys)))\/(cD X.K H p ys/\Q (.ref p) H))):=by
 intro pins s σ H xs us Q I r h;obtain⟨p,ys,rfl,h⟩:=h;obtain⟨u,rfl,rx⟩:=fQ r
 cases rx;rcases h with ⟨hq,q⟩ | ⟨hq,q⟩
 ·obtain⟨aa,r',pl,hz⟩:=I.list hq;have hlen:=r'.length;refine call_tuple_list pl.isList (λh' kp=>?_) (by simp only[Wr] <;> omega);have I1:Inv X pins σ H { s with heap:=h' }:=I.kept (t':=s.toks) kp;have I2:Inv X pins σ (upd H h'.objs.size (.tup ys)) { s with heap:=h'.push { cls:=.type "tuple",data:=.seq aa.toArray } } :=
   I1.laid (t':=s.toks) (λb o e=>W3 _ e) (Wb _) (show bq X.prog X.w _ _ _ (.tup ys) from⟨hz,aa,r',gR.new _ _⟩)
  exact⟨.ref h'.objs.size,_,I2,rfl,q _ (I1.ag.fresh (Wb _))⟩
 ·obtain⟨aa,r',pl,hz⟩:=I.tuple hq;exact call_tuple_same pl ⟨.ref p,H,I,rfl,q⟩
def qQ(K:W1)(T:String)(x:V)(H:Hp):Prop:=match x with
 | .str _=>T = "str"
 | .int _=>T = "int"
 | .ref p=>(T = "list"/\∃ xs,cg K H p xs)\/(T = "tuple"/\∃ o,K.lookup p=some o/\o.cls = .type "tuple"/\o.dict=none) \/
   (T = "dict"/\((∃ kvs,H p=some (.dK kvs))\/∃ kvs,H p=some (.dT kvs)))\/(T = "set"/\∃ S n,H p=some (.set S n))
 | _=>False
theorem Hz(I:Inv X pins σ H s)(r:RelV x v)(ty:qQ X.K T x H) :
  s.TypeIs v T/\∀ a,v = .ref a->∃ ob,s.heap.get? a=some ob/\ob.dict=none:=by
 cases x with
 | str z =>
  obtain⟨t,rfl⟩:=r
  cases (show T = "str" from ty);exact⟨typeIs_str s z t,λ_ e=>nomatch e⟩
 | int i =>
  obtain⟨t,rfl⟩:=r
  cases (show T = "int" from ty);exact⟨JL s i t,λ_ e=>nomatch e⟩
 | ref p =>
  cases r;rcases ty with ⟨rfl,xs,hq⟩ | ⟨rfl,o,hk,hc,hd⟩ | ⟨rfl,hk⟩ | ⟨rfl,S,n,hk⟩
  ·obtain⟨aa,_,pl,_⟩:=I.list hq;refine⟨pl.isList.typeIs,λa e=>?_⟩
   cases e;obtain⟨o,n,e,c,hd,_⟩:=pl;exact⟨o,e,hd⟩
  ·refine⟨⟨o,I.cn p o hk,hc⟩,λa e=>?_⟩
   cases e;exact⟨o,I.cn _ o hk,hd⟩
  ·have z:∃ o,s.heap.get? p=some o/\o.ExactDict:=by
    rcases hk with ⟨kvs,hk⟩ | ⟨kvs,hk⟩
    ·obtain⟨_,_,_,_,o,_,_,e,ex,_⟩:=I.ag p _ hk;exact⟨o,e,ex⟩
    ·obtain⟨_,_,_,_,o,_,_,e,ex,_⟩:=I.ag p _ hk;exact⟨o,e,ex⟩
   obtain⟨o,e,ex⟩:=z;refine⟨⟨o,e,ex.1⟩,λa e2=>?_⟩
   cases e2;exact⟨o,e,ex.2.1⟩
  ·obtain⟨o,_,_,_,e,ex,_⟩:=I.ag p _ hk;refine⟨⟨o,e,ex.1⟩,λa e2=>?_⟩
   cases e2;exact⟨o,e,ex.2.1⟩
 | _=>exact False.elim ty
def AL(K:W1)(T:String)(r:V->List V->Hp->VK->Prop)(to:TE)(t:TA):TE:=λσ H Q=>to σ H λx H1=>qQ K T x H1/\t σ H1 λxs H2=>r x xs H2 Q
variable {o e:Expr} {es:List Expr} {to:TE} {t:TA} {name:Str} {apos aU:Pos} {T id:String} {r:V->List V->Hp->VK->Prop}
theorem qR (pa:PlainAttrs T) (slot:Slot T name id) (HA:typeOf (.builtin id)=pure (.type "method_descriptor")) (hm:qN X id r) (ho:PE X o to) (ha:PA X (e :: es) t)
  (jR:Qq o name X.env (eval o X.env)=eval o X.env:=by rfl)
  (jS:((WN aU (W5 (e :: es) X.env)).all (λx=>!x.1) && (JE aU (J4 [] X.env)).all (λx=>x.1.isSome)
   && decide ((e :: es).length + ([]:List Keyword).length + (if ([]:List Keyword).isEmpty then 0 else 1) < 30))=true:=by rfl)
  (fF:(apos.endLine == aU.line)=true:=by rfl) (hs:W5 (e :: es) X.env=(false,eval e X.env) :: W5 es X.env:=by rfl) (um:(WN aU (W5 es X.env)).any (·.1)=false:=by rfl) :
  PE X (.Call (.Attribute o name apos) (e :: es) [] aU) (AL X.K T r to t):=by
 intro pins s σ H Q I h;refine wpAny_Call_method_late jR jS fF rfl (aH (ho pins s σ H _ I h) λv s1 ⟨x,H1,I1,r1,ty,q1⟩=>?_);obtain⟨h1,h2⟩:=Hz I1 r1 ty;refine⟨T,id,pa,slot,HA,h1,h2,?_⟩;have hA:=ha aU pins s1 σ H1 _ I1 q1;rw[hs] at hA ⊢;refine Calls.callWith_builtin (by show(false || (WN aU (W5 es X.env)).any (·.1))=false; rw[um] <;> rfl) (Calls.evalArgs_plain ?_);exact aH hA λus s2 ⟨vs,H2,I2,r2,q2⟩=>hm pins s2 σ H2 x vs v us Q I2 r1 r2 q2
end
def HB(X:Cx)(id:String)(r:V->List V->Hp->VK->Prop):Prop :=
 ∀ (pins:List (Addr×Obj)) (s:W2) (σ:St) (H:Hp) (x:V) (xs:List V) (v:Value) (us:List Value) (Q:VK),Inv X pins σ H s->RelV x v->Vals xs us->r x xs H Q ->
  W6 (model X.prog X.w) X.A (call (.builtin id) (v :: us)) (EP X pins σ Q) X.xe s
theorem Vals.one:∀ {x:V} {us:List Value},Vals [x] us->∃ u,us=[u]/\RelV x u
 | _,_,.cons r .nil=>⟨_,rfl,r⟩
theorem Vals.two:∀ {x y:V} {us:List Value},Vals [x,y] us->∃ u v,us=[u,v]/\RelV x u/\RelV y v
 | _,_,_,.cons r (.cons q .nil)=>⟨_,_,rfl,r,q⟩
theorem Vals.rep(h:Vals xs us):∀ k:Nat,Vals (W8 k xs).flatten (W8 k us).flatten
 | 0=>.nil
 | k + 1=>by
  rw[WI,WI,QG,QG];exact Vals.append h (Vals.rep h k)
theorem AM(aa:List Value):∀ (k:Nat) (acc:List Value),
  List.foldl (λx1 x2=>x1 ++ x2) acc.toArray (W8 k aa.toArray)=(acc ++ (W8 k aa).flatten).toArray
 | 0,acc=>by simp
 | k + 1,acc=>by
  have e:acc.toArray ++ aa.toArray=(acc ++ aa).toArray:=by simp
  have e2:(acc ++ aa) ++ (W8 k aa).flatten=acc ++ (W8 (k + 1) aa).flatten:=by
   rw[WI,QG,QW]
  rw[<- e2,<- AM aa k (acc ++ aa),<- e,WI,QS]
section
variable {X:Cx} {pins:List (Addr×Obj)} {σ:St} {H:Hp} {s:W2} {l b:Addr} {xs ys zs:List V}
theorem Inv.HC{aa its':List Value}{n:Nat}{f:Array Value->Array Value}{t':Nat}(I:Inv X pins σ H s)(hH:H l=some (.lst xs))
  (e:s.heap.get? l=some { cls:=.type "list",data:=.seq aa.toArray n }) (hf:f aa.toArray=its'.toArray) (hv:Vals ys its') (hz:ys.length<=Wa) :
  Inv X pins σ (upd H l (.lst ys)) { s with heap:=s.heap.update l (Obj.mapSeq f),toks:=t' }:=by
 have q:=PySem.IsL.update e f;rw[hf] at q;refine I.write (x:=l) (e:=l) (by rw[hH]; exact trivial) (.inl rfl) (λb' u hb hu=>(WD s.heap (Obj.mapSeq f) (Ne.symm hb)).trans hu) ⟨_,q⟩ ?_;exact⟨hz,its',_,hv,q⟩
theorem Inv.HD(I:Inv X pins σ H s)(hv:Vals ys aa)(hz:ys.length<=Wa) :
  Inv X pins σ (upd H s.heap.objs.size (.lst ys)) { s with heap:=s.heap.push { cls:=.type "list",data:=.seq aa.toArray },toks:=t' } :=
 I.laid (λ_ _ q=>W3 _ q) (Wb _) ⟨hz,aa,0,hv,Wi _ rfl⟩
theorem Inv.fresh(I:Inv X pins σ H s):H s.heap.objs.size=none:=I.ag.fresh (Wb _)
theorem Inv.HE (I:Inv X pins σ H s) (hH:H l=some (.lst xs)):xs.length<=Wa/\∃ (aa:List Value) (n:Nat),Vals xs aa/\xs.length=aa.length/\s.heap.get? l=some { cls:=.type "list",data:=.seq aa.toArray n }:=by
 obtain⟨z,aa,n,r,e⟩:=I.ag l _ hH;exact⟨z,aa,n,r,r.length,e⟩
end
section
variable {X:Cx}
def AN:V->List V->Hp->VK->Prop:=λx vs H Q=>∃ l xs y,x = .ref l/\vs=[y]/\H l=some (.lst xs)/\xs.length < Wa/\Q .aq (upd H l (.lst (xs ++ [y])))
theorem AO:HB X "list.append" AN:=by
 intro pins s σ H x vs v us Q I rx rv h;obtain⟨l,xs,y,rfl,rfl,hH,hz,q⟩:=h
 cases rx;obtain⟨u,rfl,ru⟩:=rv.one;obtain⟨z,aa,n,r,hl,e⟩:=I.HE hH;refine JM F.slot_list_append ⟨_,e,rfl⟩ F.entry_list_append (F.args_list_append_2 _ _) (PySem.list_append l aa.toArray n u (by rw[Wr]; omega)) ⟨e,?_⟩;refine⟨.aq,_,I.HC (its':=aa ++ [u]) hH e (by simp) (r.append (.cons ru .nil)) ?_,rfl,q⟩;rw[Q6,List.length_singleton];omega
theorem uo(xs:List α)(k:Nat):(W8 k xs).flatten.length=k * xs.length:=by
 induction k with
 | zero=>simp
 | succ k ih=>rw[WI,QG,Q6,ih,Nat.succ_mul,Nat.add_comm]
end
section
variable {prog:Wg} {w:Wm} {A:Wl} {E:Value->W2->Prop} {s:W2}
set_option maxRecDepth 100000 in
end
section
variable {X:Cx}
end
section
variable {κ:Type} [DecidableEq κ]
def dg(kvs:List (κ×V))(k:κ):Option V:=(kvs.find? λkv=>decide (kv.1=k)).map (·.2)
def putK(kvs:List (κ×V))(k:κ)(v:V):List (κ×V) :=
 if (kvs.any λkv=>decide (kv.1=k))=true then kvs.map (λkv=>if kv.1=k then(kv.1,v) else kv) else kvs ++ [(k,v)]
theorem qS{p:κ×V}{r:List (κ×V)}{k:κ}(e:p.1=k):dg (p :: r) k=some p.2:=by simp[dg,Q7,e]
theorem qT{p:κ×V}{r:List (κ×V)}{k:κ}(e:¬ p.1=k):dg (p :: r) k=dg r k:=by simp[dg,Q7,e]
theorem AQ(k:κ):∀ kvs:List (κ×V),(kvs.any λkv=>decide (kv.1=k))=(dg kvs k).isSome
 | []=>rfl
 | p :: r=>by
  rw[QT];by_cases e:p.1=k
  ·simp only[qS e,decide_eq_true e,Bool.true_or,Option.isSome_some]
  ·rw[qT e,decide_eq_false e,Bool.false_or]; exact AQ k r
theorem mP(kvs:List (κ×V))(k:κ)(v:V):(putK kvs k v).length<=kvs.length + 1:=by
 unfold putK;split
 ·rw[Wx]; omega
 ·rw[Q6,WE,JV]; omega
theorem dG.oI(r:dG o u):o.isSome=u.isSome:=by
 cases o with
 | none=>cases u with
  | none=>rfl
  | some _=>exact(show False from r).elim
 | some _=>cases u with
  | none=>exact(show False from r).elim
  | some _=>rfl
theorem dG.getD(r:dG o u)(rd:RelV d d'):RelV (o.getD d) (u.getD d'):=by
 cases o with
 | none=>cases u with
  | none=>exact rd
  | some _=>exact(show False from r).elim
 | some _=>cases u with
  | none=>exact(show False from r).elim
  | some _=>exact r
theorem KV.val{kvs:List (κ×V)}{vs:List (κ×Value)}(r:KV kvs vs)(k:κ):dG (dg kvs k) (valueAt vs k):=by
 unfold KV at r;induction r with
 | nil=>exact True.intro
 | @cons p q ps qs h t ih =>
  obtain⟨h1,h2⟩:=h;by_cases e:p.1=k
  ·have e':q.1=k:=h1.symm.trans e;have b:valueAt (q :: qs) k=some q.2:=by simp[valueAt,Q7,e']
   rw[qS e,b]; exact h2
  ·have e':¬ q.1=k:=λz=>e (h1.trans z)
   have b:valueAt (q :: qs) k=valueAt qs k:=by simp[valueAt,Q7,e']
   rw[qT e,b]; exact ih
theorem KV.any(r:KV kvs vs)(k:κ):(kvs.any λkv=>decide (kv.1=k))=vs.any λkv=>decide (kv.1=k):=by
 unfold KV at r;induction r with
 | nil=>rfl
 | cons h t ih=>rw[QT,QT,ih,h.1]
theorem KV.uq(r:KV kvs vs)(k:κ)(ry:RelV y u) :
  KV (kvs.map λkv=>if kv.1=k then(kv.1,y) else kv) (vs.map λkv=>if kv.1=k then(kv.1,u) else kv):=by
 unfold KV at r ⊢;induction r with
 | nil=>exact .nil
 | @cons p q ps qs h t ih =>
  rw[Wo,Wo];refine .cons ?_ ih;obtain⟨h1,h2⟩:=h;by_cases e:p.1=k
  ·rw[if_pos e,if_pos (h1.symm.trans e)]; exact⟨h1,ry⟩
  ·rw[if_neg e,if_neg (λz=>e (h1.trans z))]; exact⟨h1,h2⟩
theorem KV.put(r:KV kvs vs)(k:κ)(ry:RelV y u):KV (putK kvs k y) (stored vs k u):=by
 unfold putK stored;rw[r.any k];by_cases e:(vs.any λkv=>decide (kv.1=k))=true
 ·rw[if_pos e,if_pos e]; exact r.uq k ry
 ·rw[if_neg e,if_neg e]; exact Paired.snoc r ⟨rfl,ry⟩
theorem KV.length(r:KV kvs vs):kvs.length=vs.length:=Paired.length r
end
theorem jT(r:RelV (kV k) u):(dQ P w).is k u=true:=by
 cases k with
 | inl i=>obtain⟨t,e⟩:=(show ∃ t,u=Value.int i t from r); subst e; exact Ft P w i t
 | inr x=>obtain⟨t,e⟩:=(show ∃ t,u=Value.str x t from r); subst e; exact Fu P w x t
theorem AR:∀ {ks:List Key} {us:List Value},Vals (ks.map kV) us->ItemsAre (dQ P w) ks us
 | [],_,r=>by rw[List.map_nil] at r; cases r; exact .nil
 | k :: ks,_,r=>by
  rw[Wo] at r
  cases r with
  | cons h t=>exact .cons (jT h) (AR t)
abbrev KT(H:Hp):List (List Key×V)->List (List Key×Addr×Value)->Prop:=Paired λp q=>p.1=q.1/\H q.2.1=some (.tup (p.1.map kV))/\RelV p.2 q.2.2
theorem KT.val{H:Hp}{kvs:List (List Key×V)}{xs:List (List Key×Addr×Value)}(r:KT H kvs xs)(k:List Key):dG (dg kvs k) ((atKey xs k).map (·.2)):=by
 induction r with
 | nil=>exact True.intro
 | @cons p q ps qs h t ih =>
  obtain⟨h1,_,h2⟩:=h;by_cases e:p.1=k
  ·have e':q.1=k:=h1.symm.trans e;have b:atKey (q :: qs) k=some q.2:=by simp[atKey,Q7,e']
   rw[qS e,b]; exact h2
  ·have e':¬ q.1=k:=λz=>e (h1.trans z)
   have b:atKey (q :: qs) k=atKey qs k:=by simp[atKey,Q7,e']
   rw[qT e,b]; exact ih
theorem KT.uq(r:KT H kvs xs)(k:List Key)(ry:RelV y u) :
  KT H (kvs.map λkv=>if kv.1=k then(kv.1,y) else kv) (xs.map (putAt k u)):=by
 induction r with
 | nil=>exact .nil
 | @cons p q ps qs h t ih =>
  rw[Wo,Wo];refine .cons ?_ ih;obtain⟨h1,h2,h3⟩:=h;unfold putAt;by_cases e:p.1=k
  ·rw[if_pos e,if_pos (h1.symm.trans e)]; exact⟨h1,h2,ry⟩
  ·rw[if_neg e,if_neg (λz=>e (h1.trans z))]; exact⟨h1,h2,h3⟩
theorem KT.put(r:KT H kvs xs)(k:List Key)(hb:H b=some (.tup (k.map kV)))(ry:RelV y u) :
  KT H (putK kvs k y) (storedH xs k b u):=by
 have e:(kvs.any λkv=>decide (kv.1=k))=(atKey xs k).isSome:=by
  rw[AQ,(r.val k).oI,Option.isSome_map]
 unfold putK storedH;rw[e];by_cases q:(atKey xs k).isSome=true
 ·rw[if_pos q,if_pos q]; exact r.uq k ry
 ·rw[if_neg q,if_neg q]; exact Paired.snoc r ⟨rfl,hb,ry⟩
theorem KT.keeps(r:KT H kvs xs)(ht:∀ b ys,H b=some (.tup ys)->H' b=some (.tup ys)):KT H' kvs xs :=
 Paired.qw r λ_ _ z=>⟨z.1,ht _ _ z.2.1,z.2.2⟩
section
variable {P:Wg} {w:Wm} {H:Hp} {h:Heap} {a:Addr}
theorem AS(ok:b8 P w H h)(e:Rd H a u):bq P w H h a u:=e.ok ok
theorem lQ(ok:b8 P w H h)(e:Rd H a (.dK kvs)):kvs.length<=Wa/\(a == QY)=false/\∃ vs,KV kvs vs/\h.DictOf (dQ P w) a vs :=
 show bq P w H h a (.dK kvs) from AS ok e
theorem oJ(ok:b8 P w H h)(e:H a=some (.dK kvs)):kvs.length<=Wa/\(a == QY)=false/\∃ vs,KV kvs vs/\h.DictOf (dQ P w) a vs:=lQ ok (.inl e)
theorem mQ(ok:b8 P w H h)(e:H a=some (.tup (ks.map kV))):(tupleKind (dQ P w)).is h ks a:=by
 obtain⟨_,aa,r,p⟩:=(show bq P w H h a (.tup (ks.map kV)) from ok a _ e)
 obtain⟨o,h1,h2,n,h3⟩:=p.tup;exact⟨o,aa.toArray,n,h1,h2,h3,by simpa using AR r⟩
theorem mR(ok:b8 P w H h)(e:Rd H a (.dT kvs)):kvs.length<=Wa/\(a == QY)=false /\
  ∃ xs,KT H kvs xs/\h.DictOfH (tupleKind (dQ P w)) a xs:=by
 obtain⟨z,y,xs,r,o,es,ep,h1,h2,h3,h4,h5⟩:=(show bq P w H h a (.dT kvs) from AS ok e)
 refine⟨z,y,xs,r,o,es,ep,h1,h2,h3,h4,λx hx=>?_,h5⟩;have all:∀ {l:List (List Key×V)} {m:List (List Key×Addr×Value)},KT H l m->∀ x ∈ m,(tupleKind (dQ P w)).is h x.1 x.2.1:=by
  intro l m q;induction q with
  | nil=>intro x hx; exact nomatch hx
  | @cons p q ps qs hq t ih =>
   intro x hx;rcases Wh.mp hx with e | hx
   ·subst e;exact mQ ok (by rw[<- hq.1]; exact hq.2.1)
   ·exact ih x hx
 exact all r x hx
theorem HF(ok:b8 P w H h)(e:H a=some (.dT kvs)):kvs.length<=Wa/\(a == QY)=false /\
  ∃ xs,KT H kvs xs/\h.DictOfH (tupleKind (dQ P w)) a xs:=mR ok (.inl e)
end
def jl(H:Hp)(a:Addr)(y:V)(r:Option V):Prop :=
 (∃ kvs k,Rd H a (.dK kvs)/\y=kV k/\r=dg kvs k)\/∃ kvs k b,Rd H a (.dT kvs)/\y = .ref b/\H b=some (.tup (k.map kV))/\r=dg kvs k
def oK(H:Hp)(a:Addr)(y v:V)(H':Hp):Prop :=
 (∃ kvs k,H a=some (.dK kvs)/\y=kV k/\kvs.length < Wa/\H'=upd H a (.dK (putK kvs k v))) \/
 ∃ kvs k b,H a=some (.dT kvs)/\y = .ref b/\H b=some (.tup (k.map kV))/\kvs.length < Wa/\H'=upd H a (.dT (putK kvs k v))
theorem jl.k{H:Hp}{a:Addr}{kvs:List (Key×V)}{k:Key}(e:H a=some (.dK kvs)):jl H a (kV k) (dg kvs k):=.inl ⟨kvs,k,.inl e,rfl,rfl⟩
theorem oK.k{H:Hp}{a:Addr}{kvs:List (Key×V)}{k:Key}{v:V}(e:H a=some (.dK kvs))(hl:kvs.length < Wa):oK H a (kV k) v (upd H a (.dK (putK kvs k v))):=.inl ⟨kvs,k,e,rfl,hl,rfl⟩
section
variable {X:Cx} {pins:List (Addr×Obj)} {σ:St} {H:Hp} {s:W2} {a:Addr} {y v:V} {u r:Value} {o:Option V} {A:Wl} {E:Value->W2->Prop}
theorem Inv.big(I:Inv X pins σ H s):QY < s.heap.objs.size:=by
 have h:Wn < s.heap.objs.size:=(I.mod.glob.keeps I.bk).lt;exact Nat.lt_trans (by decide) h
theorem HG(hu:A.units + 1 < Qi)(I:Inv X pins σ H s)(g:jl H a y (some v))(ry:RelV y u)(h:∀ w' s',Inv X pins σ H s'->RelV v w'->Q w' s') :
  W6 (model X.prog X.w) A (getItem (.ref a) u) Q E s:=by
 rcases g with ⟨kvs,k,e,ey,l⟩ | ⟨kvs,k,b,e,ey,eb,l⟩
 ·subst ey;obtain⟨z,hd,vs,rel,dd⟩:=lQ I.ag e;obtain⟨w',hw,aD⟩:=dG.some_of (v:=v) (o:=valueAt vs k) (by rw[l]; exact rel.val k);exact wpAny_getItem_of (jT ry) dd.mapOf hw (h w' _ (I.tok _) aD)
 ·subst ey
  cases (show u=Value.ref b from ry);obtain⟨z,hd,xs,rel,dd⟩:=mR I.ag e;obtain⟨w',hw,aD⟩:=dG.some_of (v:=v) (o:=(atKey xs k).map (·.2)) (by rw[l]; exact rel.val k);obtain⟨p,hp,ur⟩:=Option.map_eq_some_iff.mp hw;refine wpAny_getItem_heap (Jf hu) (mQ I.ag eb) dd hp ?_;rw[ur];exact h w' _ (I.tok _) aD
theorem HH(hu:A.units + 1 < Qi)(I:Inv X pins σ H s)(g:jl H a y o)(ry:RelV y u)(h:∀ s',Inv X pins σ H s'->Q (.bool o.isSome) s') :
  W6 (model X.prog X.w) A (WO .In u (.ref a)) Q E s:=by
 rcases g with ⟨kvs,k,e,ey,l⟩ | ⟨kvs,k,b,e,ey,eb,l⟩
 ·subst ey;obtain⟨z,hd,vs,rel,dd⟩:=lQ I.ag e;refine wpAny_in_of (jT ry) hd dd.mapOf ?_;rw[<- (rel.val k).oI,<- l];exact h _ (I.tok _)
 ·subst ey
  cases (show u=Value.ref b from ry);obtain⟨z,hd,xs,rel,dd⟩:=mR I.ag e;refine wpAny_in_heap (Jf hu) (mQ I.ag eb) hd dd ?_;have q:=(rel.val k).oI;rw[Option.isSome_map] at q;rw[<- q,<- l];exact h _ (I.tok _)
theorem HI(hu:A.units + 1 < Qi)(I:Inv X pins σ H s)(g:jl H a y o)(ry:RelV y u)(h:∀ s',Inv X pins σ H s'->Q (.bool (!o.isSome)) s') :
  W6 (model X.prog X.w) A (WO .NotIn u (.ref a)) Q E s:=by
 rcases g with ⟨kvs,k,e,ey,l⟩ | ⟨kvs,k,b,e,ey,eb,l⟩
 ·subst ey;obtain⟨z,hd,vs,rel,dd⟩:=lQ I.ag e;refine wpAny_notIn_of (jT ry) hd dd.mapOf ?_;rw[<- (rel.val k).oI,<- l];exact h _ (I.tok _)
 ·subst ey
  cases (show u=Value.ref b from ry);obtain⟨z,hd,xs,rel,dd⟩:=mR I.ag e;refine wpAny_notIn_heap (Jf hu) (mQ I.ag eb) hd dd ?_;have q:=(rel.val k).oI;rw[Option.isSome_map] at q;rw[<- q,<- l];exact h _ (I.tok _)
theorem oM(I:Inv X pins σ H s)(mu:ou (H a))(hs:J5 a s.heap h')(he:∃ q,h'.get? a=some q)(new:bq X.prog X.w (upd H a ob) h' a ob) :
  Inv X pins σ (upd H a ob) { s with heap:=h',toks:=t' } :=
 I.write (x:=a) (e:=a) mu (.inl rfl) (λb q hb z=>(hs.2 b hb).trans z) he new
theorem qU(z:kvs.length<=Wa)(hd:(a == QY)=false)(rel:KV kvs vs)(dd:h'.DictOf (dQ P w) a vs) :
  bq P w H' h' a (.dK kvs):=⟨z,hd,vs,rel,dd⟩
theorem HJ(hu:A.units + 1 < Qi)(I:Inv X pins σ H s)(g:oK H a y v H')(ry:RelV y u)(rv:RelV v r)(h:∀ s',Inv X pins σ H' s'->Q () s') :
  W6 (model X.prog X.w) A (setItem (.ref a) u r) Q E s:=by
 rcases g with ⟨kvs,k,e,ey,l,eH⟩ | ⟨kvs,k,b,e,ey,eb,l,eH⟩
 ·subst ey eH;obtain⟨z,hd,vs,rel,dd⟩:=oJ I.ag e;have hz:vs.length<=Wa:=by rw[<- rel.length]; exact z
  have hl:(putK kvs k v).length<=Wa:=by have:=mP kvs k v; omega
  refine wpAny_setItem_pairs (hsz:=hz) (jT ry) dd λh' gD hs=>h _ ?_
  have he:∃ q,h'.get? a=some q:=let ⟨q,_,_,hq,_⟩:=gD; ⟨q,hq⟩
  exact oM I (by rw[e]; exact True.intro) hs he (qU hl hd (rel.put k rv) gD)
 ·subst ey eH
  cases (show u=Value.ref b from ry);obtain⟨z,hd,xs,rel,dd⟩:=HF I.ag e;have hz:xs.length<=Wa:=by rw[<- Paired.length rel]; exact z
  have hl:(putK kvs k v).length<=Wa:=by have:=mP kvs k v; omega
  refine wpAny_setItem_heap (hsz:=hz) (Jf hu) (mQ I.ag eb) dd λh' gD hs=>h _ ?_
  obtain⟨q,es,ep,hq,h2,h3,h4,_,h5⟩:=gD;refine oM I (by rw[e]; exact True.intro) hs ⟨q,hq⟩ ⟨hl,hd,_,(rel.put k eb rv).keeps λc ys ec=>?_,q,es,ep,hq,h2,h3,h4,h5⟩;rw[aQ (Fw ec e (λz=>nomatch z))];exact ec
end
section
variable {X:Cx} {pins:List (Addr×Obj)} {σ:St} {H:Hp} {s:W2} {a:Addr} {kvs:List (Key×V)} {k:Key} {u:Value} {A:Wl} {E:Value->W2->Prop}
theorem HK (I:Inv X pins σ H s) (e:Rd H a (.dK kvs)) (h:∀ t s',Inv X pins σ H s'->Q (.int kvs.length t) s'):W6 (model X.prog X.w) A (call (.builtin "len") [.ref a]) Q E s:=by
 obtain⟨z,hd,vs,rel,dd⟩:=lQ I.ag e;refine call_len_dict hd dd (by rw[<- rel.length]; rw[QC] at z; omega) ?_;rw[<- rel.length];exact h _ _ (I.tok _)
end
def HL(td ty tv:TE):TS:=λD σ H=>tv σ H λv H1=>td σ H1 λx H2=>ty σ H2 λy H3=>∃ a H4,x = .ref a/\oK H3 a y v H4/\D.nx σ H4
section
variable {X:Cx} {o i e value:Expr} {pos pos' tpos:Pos} {td ty tv:TE}
theorem HM(hu:X.A.units + 1 < Qi)(ho:PE X o td)(hi:PE X i ty)(hv:PE X value tv)(hs:QO value (some (.Subscript o i pos')) pos.line X.env=pure false) :
  PS X (.Assign [.Subscript o i pos'] value pos) (HL td ty tv):=by
 intro pins s σ H D I h;refine wpAny_Assign_Subscript (aH (hv pins s σ H _ I h) λr s1 ⟨v,H1,I1,rv,q1⟩=>aH (ho pins s1 σ H1 _ I1 q1) λu s2 ⟨x,H2,I2,rx,q2⟩=>aH (hi pins s2 σ H2 _ I2 q2) λiv s3 ⟨y,H3,I3,ry,a,H4,ex,g,q3⟩=>?_) hs;subst ex;obtain rfl:u=Value.ref a:=rx;exact HJ hu I3 g ry rv λs4 I4=>⟨σ,H4,I4,q3⟩
end
theorem uu (h:Heap) (hb:QY < h.objs.size):bq P w H (h.push { cls:=.type "dict",data:=.dict #[] }) h.objs.size (.dK []) :=
 ⟨Qy _,beq_eq_false_iff_ne.mpr (Ne.symm (Wq hb)),[],.nil,Heap.DictOf.new h⟩
def HN:TE:=λ_ H Q=>∀ p,H p=none->Q (.ref p) (upd H p (.dK []))
section
variable {X:Cx} {pos:Pos}
theorem HP:PE X (.Dict [] [] pos) HN:=λpins s σ H Q I h =>
 wpAny_Dict_empty ⟨.ref s.heap.objs.size,_,I.laid (a:=s.heap.objs.size) (o:=.dK []) (t':=s.toks) (λ_ _ q=>W3 _ q) (Wb _) (uu s.heap I.big),rfl,h _ (I.ag.fresh (Wb _))⟩
end
def uv:List (TE×TE)->St->Hp->(List (V×V)->Hp->Prop)->Prop
 | [],_,H,Q=>Q [] H
 | (tk,tv) :: r,σ,H,Q=>tk σ H λx H1=>tv σ H1 λy H2=>uv r σ H2 λps H3=>Q ((x,y) :: ps) H3
abbrev VV:List (V×V)->List (Value×Value)->Prop:=Paired λp q=>RelV p.1 q.1/\RelV p.2 q.2
def qV(X:Cx)(pos:Pos)(keys:List (Option Expr))(values:List Expr)(lR:List (TE×TE)):Prop :=
 ∀ (pins:List (Addr×Obj)) (s:W2) (σ:St) (H:Hp) (Q:List (V×V)->Hp->Prop),Inv X pins σ H s->uv lR σ H Q ->
  W6 (model X.prog X.w) X.A (evalPairs (pairTrees keys values X.env pos)) (λvs s'=>∃ ps H',Inv X pins σ H' s'/\VV ps vs/\Q ps H') X.xe s
theorem HQ:qV X pos [] [] []:=λpins s σ H Q I h=>pairTrees_nil_walk ⟨[],H,I,.nil,h⟩
theorem HR(hk:PE X k tk)(hv:PE X v tv)(hr:qV X pos ks vs lR) :
  qV X pos (some k :: ks) (v :: vs) ((tk,tv) :: lR):=λpins s σ H Q I h =>
 pairTrees_cons_walk (aH (hk pins s σ H _ I h) λu s1 ⟨x,H1,I1,rx,q1⟩=>aH (hv pins s1 σ H1 _ I1 q1) λw2 s2 ⟨y,H2,I2,ry,q2⟩ =>
  aH (hr pins s2 σ H2 _ I2 q2) λws s3 ⟨ps,H3,I3,rel,q3⟩=>⟨(x,y) :: ps,H3,I3,.cons ⟨rx,ry⟩ rel,q3⟩)
def lT(kvs more:List (Key×V)):List (Key×V):=more.foldl (λacc kv=>putK acc kv.1 kv.2) kvs
theorem KV.merge:∀ {more:List (Key×V)} {rs:List (Key×Value)} {kvs:List (Key×V)} {vs:List (Key×Value)},KV more rs->KV kvs vs->KV (lT kvs more) (merged vs rs):=by
 intro more rs kvs vs r;unfold KV at r;induction r generalizing kvs vs with
 | nil=>intro q; exact q
 | @cons p q ps qs h t ih =>
  intro r0;have e:KV (putK kvs p.1 p.2) (stored vs q.1 q.2):=by
   have:=r0.put p.1 h.2;rw[<- h.1]; exact this
  exact ih e
theorem AU:∀ (more kvs:List (Key×V)),(lT kvs more).length<=kvs.length + more.length
 | [],kvs=>by show kvs.length<=kvs.length + 0; omega
 | p :: r,kvs=>by
  have h1:=AU r (putK kvs p.1 p.2);have h2:=mP kvs p.1 p.2;show(lT (putK kvs p.1 p.2) r).length<=_;rw[WE]; omega
theorem AV:∀ {kvs:List (Key×V)} {ws:List (Value×Value)},VV (kvs.map λkv=>(kV kv.1,kv.2)) ws->∃ rs,Carries (dQ P w) ws rs/\KV kvs rs
 | [],_,r=>by rw[List.map_nil] at r; cases r; exact⟨[],True.intro,.nil⟩
 | p :: kvs,_,r=>by
  rw[Wo] at r
  cases r with
  | @cons a b as bs h t =>
   obtain⟨rs,c,q⟩:=AV (P:=P) (w:=w) t;obtain⟨b1,b2⟩:=b;exact⟨(p.1,b2) :: rs,⟨jT h.1,rfl,c⟩,.cons ⟨rfl,h.2⟩ q⟩
def HS(lR:List (TE×TE)):TE:=λσ H Q=>∀ p,H p=none->uv lR σ (upd H p (.dK [])) λps H2=>H2 p=some (.dK [])/\∃ kvs:List (Key×V),ps=kvs.map (λkv=>(kV kv.1,kv.2))/\kvs.length<=15/\Q (.ref p) (upd H2 p (.dK (lT [] kvs)))
theorem HU(h:qV X pos keys values lR)(iJ:keys.all (·.isSome)=true)(hl:keys.length=values.length)(h0:keys≠[])
  (HV:keys.length<=15):PE X (.Dict keys values pos) (HS lR):=by
 intro pins s σ H Q I q;have hn:=I.ag.fresh (Wb s.heap.objs.size);have I1:=I.laid (a:=s.heap.objs.size) (o:=.dK []) (h':=s.heap.push { cls:=.type "dict",data:=.dict #[] }) (t':=s.toks) (λ_ _ q=>W3 _ q) (Wb _) (uu s.heap I.big);refine wpAny_Dict_walk (knd:=dQ X.prog X.w) iJ hl h0 HV (aH (h pins _ σ _ _ I1 (q _ hn)) λws s2 ⟨ps,H2,I2,rel,e,kvs,ep,lk,q2⟩=>?_);subst ep;obtain⟨rs,c,rk⟩:=AV (P:=X.prog) (w:=X.w) rel;obtain⟨z,hd,vs0,r0,dd⟩:=oJ I2.ag e
 cases r0;refine⟨rs,c,dd,λh' gD hs=>⟨.ref s.heap.objs.size,_,?_,rfl,q2⟩⟩;have hz:(lT [] kvs).length<=Wa:=by
  have h1:=AU kvs [];rw[JV] at h1;rw[QC]; omega
 have he:∃ q,h'.get? s.heap.objs.size=some q:=let ⟨q,_,_,hq,_⟩:=gD; ⟨q,hq⟩
 exact oM I2 (by rw[e]; exact True.intro) hs he (qU hz hd (rk.merge .nil) gD)
structure M1(X:Cx)(o:Expr)(m:Str)(apos:Pos)(e:Expr)(aU:Pos):Prop where
 base:Qq o m X.env (eval o X.env)=eval o X.env
 uw:((WN aU (W5 [e] X.env)).all (λx=>!x.1) && (JE aU (J4 [] X.env)).all (λx=>x.1.isSome)
  && decide (([e]:List Expr).length + ([]:List Keyword).length + (if ([]:List Keyword).isEmpty then 0 else 1) < 30))=true
 line:(apos.endLine == aU.line)=true
 trees:WN aU (W5 [e] X.env)=[(false,eval e X.env)]
structure M2(X:Cx)(o:Expr)(m:Str)(apos:Pos)(e f:Expr)(aU:Pos):Prop where
 base:Qq o m X.env (eval o X.env)=eval o X.env
 uw:((WN aU (W5 [e,f] X.env)).all (λx=>!x.1) && (JE aU (J4 [] X.env)).all (λx=>x.1.isSome)
  && decide (([e,f]:List Expr).length + ([]:List Keyword).length + (if ([]:List Keyword).isEmpty then 0 else 1) < 30))=true
 line:(apos.endLine == aU.line)=true
 trees:WN aU (W5 [e,f] X.env)=[(false,eval e X.env),(false,eval f X.env)]
def ux(H:Hp)(a:Addr):Prop:=(∃ kvs,Rd H a (.dK kvs))\/∃ kvs,Rd H a (.dT kvs)
theorem AW(I:Inv X pins σ H s)(d:ux H a) :
  s.TypeIs (.ref a) "dict"/\(∀ b,Value.ref a = .ref b->∃ ob,s.heap.get? b=some ob/\ob.dict=none)/\(a == QY)=false:=by
 rcases d with ⟨kvs,e⟩ | ⟨kvs,e⟩
 ·obtain⟨_,hd,vs,_,dd⟩:=lQ I.ag e;refine⟨dd.typeIs,λb q=>?_,hd⟩
  cases q;obtain⟨ob,_,_,h1,h2,_⟩:=dd;exact⟨ob,h1,h2.2.1⟩
 ·obtain⟨_,hd,xs,_,dd⟩:=mR I.ag e;refine⟨dd.typeIs,λb q=>?_,hd⟩
  cases q;obtain⟨ob,_,_,h1,h2,_⟩:=dd;exact⟨ob,h1,h2.2.1⟩
section
variable {X:Cx} {pins:List (Addr×Obj)} {σ:St} {H:Hp} {s:W2} {a:Addr} {y d:V} {u r:Value} {o:Option V} {A:Wl} {E:Value->W2->Prop}
theorem HW(hu:A.units + 1 < Qi)(I:Inv X pins σ H s)(g:jl H a y o)(ry:RelV y u)(h:∀ w' s',Inv X pins σ H s'->RelV (o.getD .aq) w'->Q w' s') :
  W6 (model X.prog X.w) A (call (.builtin "dict.get") [.ref a,u]) Q E s:=by
 rcases g with ⟨kvs,k,e,ey,l⟩ | ⟨kvs,k,b,e,ey,eb,l⟩
 ·subst ey;obtain⟨z,hd,vs,rel,dd⟩:=lQ I.ag e;refine call_meetsIn PySem.F.slot_dict_get dd.typeIs PySem.F.entry_dict_get (PySem.F.args_dict_get_2 _ _) (meets_dict_get (dQ X.prog X.w) a (jT ry) hd) ⟨_,dd.mapOf,h _ _ (I.tok _) ?_⟩;rw[l];exact(rel.val k).getD rfl
 ·subst ey
  cases (show u=Value.ref b from ry);obtain⟨z,hd,xs,rel,dd⟩:=mR I.ag e;refine call_meetsIn PySem.F.slot_dict_get dd.typeIs PySem.F.entry_dict_get (PySem.F.args_dict_get_2 _ _) (meetsH_dict_get (tupleKind (dQ X.prog X.w)) a b hd) ⟨Jf hu,k,xs,mQ I.ag eb,dd,h _ _ (I.tok _) ?_⟩;rw[l];exact(rel.val k).getD rfl
end
def HX(td ty:TE):TE:=λσ H Q=>td σ H λx H1=>∃ a,x = .ref a/\ux H1 a/\ty σ H1 λy H2=>∃ o,jl H2 a y o/\Q (o.getD .aq) H2
section
variable {X:Cx} {o e f:Expr} {apos aU:Pos} {td ty tx:TE}
theorem HY (hu:X.A.units + 1 < Qi) (ho:PE X o td) (he:PE X e ty) (m:M1 X o "get" apos e aU):PE X (.Call (.Attribute o "get" apos) [e] [] aU) (HX td ty):=by
 intro pins s σ H Q I h;refine wpAny_Call_method m.base m.uw m.line PySem.F.plainAttrs_dict PySem.F.slot_dict_get PySem.F.type_dict_get (aH (ho pins s σ H _ I h) λu s1 ⟨x,H1,I1,rx,a,ex,d,q1⟩=>?_);subst ex;obtain rfl:u=Value.ref a:=rx;obtain⟨t1,t2,_⟩:=AW I1 d;refine⟨t1,t2,?_⟩;rw[m.trees];refine Calls.callWith_builtin rfl (Calls.evalArgs_plain (Calls.spliced_cons (aH (he pins s1 σ H1 _ I1 q1) λiv s2 ⟨y,H2,I2,ry,ov,g,q2⟩=>Calls.spliced_nil ?_)));exact HW hu I2 g ry λw' s3 I3 aD=>⟨_,H2,I3,aD,q2⟩
end
section
variable {X:Cx} {pins:List (Addr×Obj)} {σ:St} {H:Hp} {s:W2} {a:Addr} {kvs:List (Key×V)} {A:Wl} {E:Value->W2->Prop}
end
section
variable {X:Cx} {pins:List (Addr×Obj)} {σ:St} {H:Hp} {s:W2} {a:Addr} {y:V} {u:Value} {A:Wl} {E:Value->W2->Prop}
end
end L2
namespace Att
open PySem PySem.W PySem.Calls PyProof.Rows
theorem HZ:∀ (ns:List Int) (vs:List Value),WellAll P h vs (ns.map WData.int)->IntsAre vs ns:=by
 intro ns;induction ns with
 | nil =>
  intro vs w;rw[List.map_nil] at w
  cases w;exact .nil
 | cons n ns ih =>
  intro vs w;rw[Wo] at w
  cases w with
  | cons a b =>
   cases a;exact .cons _ _ (ih _ b)
theorem H_{l:OpenLaw}{n:Nat}(hn:l.most=some n){P:Params}{h:Heap}{args:List WData}{vals:List Value}
  (qW:l.row.toRowW.claim.pre args=true) (uy:WellAll P h vals args) :
  ∃ a vs ns,vals=[Value.ref a]/\args=[WData.list (ns.map WData.int)]/\h.get? a=some { cls:=.type "list",data:=.seq vs.toArray }/\IntsAre vs ns/\ns.length<=n:=by
 have Ia:WShape.hasAll [] args [.list .int]=true:=(pre_splitW qW).1;have hc:l.pre.holds [] { args:=args } = true:=(pre_splitW qW).2;obtain⟨d,r,rfl,h1,h2⟩:=hasAllW_cons Ia;obtain rfl:=hasAllW_nil h2;obtain⟨xs,rfl,h3⟩:=hasW_list h1;obtain⟨ns,rfl⟩:=items_int h3;have hlen:ns.length<=n:=by
  unfold OpenLaw.pre at hc;have h4:(WTm.not (.lt (.lit (.int (n:Int))) (.len (.arg 0)))).holds [] { args:=[.list (ns.map .int)] } = true:=by
   have h4:=(holds_andW hc).1;rw[hn] at h4;exact h4
  have h5:=condW_of h4 (w_not (w_lt w_lit (w_len_list (w_arg rfl))));rw[Wx] at h5;refine Nat.le_of_not_lt λq=>?_
  have q':(n:Int) < ((ns.length:Nat):Int):=by omega
  first
   | (rw[decide_eq_true q'] at h5; exact absurd h5 (by decide))
   | (simp at h5; omega)
 cases uy with
 | cons w1 w2 =>
  cases w2
  cases w1 with
  | list ho iJ=>exact⟨_,_,ns,rfl,rfl,ho,HZ ns _ iJ,hlen⟩
theorem Ib(l:OpenLaw)(args:List WData):l.row.toRowW.claim.post args (.bool true) args=true :=
 postW_of (r:=l.row.toRowW) (X:=(true == true))
  (show WShape.has [] (.bool true) .bool=true by first | rfl | decide | simp[WShape.has,WShape.arms,WShape.armsAll])
  (show(WTm.eq .res (.lit (.bool true))).value [] { args:=args,res:=some (.bool true),after:=args } = some (.bool (true == true)) from w_eq_bool (w_res rfl) w_lit) rfl
theorem AX{l:OpenLaw}{n:Nat}{q:Wg}{loose:List Str}{XP:(Str->Option Value)->Heap->Prop}{YP:Wm->Heap->Prop}{d:DefRec}
  (hn:l.most=some n) (lU:d.params.defaults=[])
  (call:∀ (w:Wm) (s₀ s₁:W2) (mg mb:Str->Option Value) (fa:Addr) (o:Obj) (pm cd doc:Value) (a:Addr) (vs:List Value) (ns:List Int),
   Ground q loose [] XP w s₀ mg mb s₁.heap->YP w s₁.heap ->
   s₁.heap.get? fa=some o->o.data = .func (docDef d.name d.params d.body d.scope pm cd doc)->s₁.heap.CodeRec cd d.name->mg d.name=some (.ref fa) ->
   s₁.heap.get? a=some { cls:=.type "list",data:=.seq vs.toArray }->IntsAre vs ns->ns.length<=n->s₁.gens = #[] ->
   Q4 (model l.prog w) callerA (.call (.ref fa) ⟨[.ref a],[]⟩) (λr s'=>r = .ok (.ret (.bool true))/\OldK s₁.heap s'.heap/\s'.os=s₁.os/\AllBare s'.gens) s₁) :
  WalkO q loose XP YP l.row.toRowW d [] (λf vs=>PySem.call f vs):=by
 intro w s₀ s₁ mg mb G Y fa o pm cd doc dV kV ho hd cC hD jU hg args vals as qW hlay hrd uy hlo;obtain rfl:dV = .none:=Dflts.none hD lU;obtain rfl:kV = .none:=Dflts.noKw hD;obtain⟨a,vs,ns,rfl,rfl,oN,hints,hlen⟩:=H_ hn qW uy;refine enter_call (Qk (call w s₀ s₁ mg mb fa o pm cd doc a vs ns G Y ho (fd_plain hd) cC jU oN hints hlen hg) λr s' hq=>?_);obtain⟨rfl,h2,h3,h4⟩:=hq;exact⟨.inl ⟨.bool true,.bool true,[],rfl,λ_=>rfl,.bool true,Ib l _,λ_=>⟨List.Pairwise.nil,λ_ hm=>(nomatch hm)⟩⟩,h2,h3,h4⟩
section
variable {prog:Wg} {w:Wm} {A:Wl} {E:Value->W2->Prop} {s:W2} {K:Frag}
end
end Att
namespace L2
open PySem PySem.Spec PyProof.Rows
theorem oO:∀ {vs:List Value} {ns:List Int},IntsAre vs ns->Vals (ns.map V.int) vs
 | _,_,.nil=>.nil
 | _,_,.cons n t h=>.cons ⟨t,rfl⟩ (oO h)
def uz(H:Hp):Prop:=∀ b,H b=none\/∃ o xs,H b=some (.frz o (.lst xs))
theorem Ic{P:Wg}{w:Wm}{K:W1}{mg mb:Str->Option Value}{CX:g8}{k:Nat}{fa a:Addr}{fd:Wy}{x:Str}{sp:Sp}{s₁:W2}{vs:List Value}{ns:List Int}
  (KX:K.In s₁.heap) (kO:s₁.heap.Ns Wn mg) (hb:s₁.heap.Ns builtinsNs mb) (uA:∀ x:Str,x≠"__name__"->mb x=Q9 x) (uB:s₁.heap.NoLimit) (hg:s₁.gens = #[])
  (ha:s₁.heap.get? a=some { cls:=.type "list",data:=.seq vs.toArray }) (hi:IntsAre vs ns) (hl:ns.length<=Wa) (hr:bj k callerA)
  (F:∀ base:Heap,K.In base->base.Ns Wn mg->c8 P w K mg base CX k fa fd [x] sp) (uC:∀ (s:W2) (u:Value),BindsTo s fd ⟨[u],[]⟩ [(x,u)])
  (gh:∀ H:Hp,uz H->cg K H a (ns.map V.int)->sp [.ref a] H (λv _=>v = .bl true) λ_ _ _=>False)
  (uD:∀ H e s',CX [] H s₁ (λ_ _ _=>False) e s'->False) :
  Q4 (model P w) callerA (.call (.ref fa) ⟨[.ref a],[]⟩) (λr s'=>r = .ok (.ret (.bool true))/\OldK s₁.heap s'.heap/\s'.os=s₁.os/\AllBare s'.gens) s₁:=by
 have rv:=oO hi;have AY:=hi.length;-- from an abstract heap in which nothing but the script may be tracked
 have core:∀ H:Hp,uz H->cg K H a (ns.map V.int)->b8 P w H s₁.heap->(∀ b,H b≠none->b=a)->(H a≠none->K.lookup a=none) ->
   Q4 (model P w) callerA (.call (.ref fa) ⟨[.ref a],[]⟩) (λr s'=>r = .ok (.ret (.bool true))/\OldK s₁.heap s'.heap/\s'.os=s₁.os/\AllBare s'.gens) s₁:=by
  intro H hO hS ag hA hK;have mS:∀ {b:Addr} {o:Obj},s₁.heap.get? b=some o->H b=none->(fO s₁.heap H).get? b=some o:=λe n=>zK e n
  have iI:∀ {b:Addr} {o:Obj} {es:Array DictEntry} {ep:Nat},s₁.heap.get? b=some o->o.data = .dict es ep->H b=none:=λ{b o es ep} e d=>by
   cases q:H b with
   | none=>rfl
   | some u =>
    have e':b=a:=hA b (by rw[q]; simp);subst e';rw[ha] at e; cases e
    have d':Data.seq vs.toArray _=Data.dict es ep:=d
    cases d'
  have jV:∀ {b:Addr} {m:Str->Option Value},s₁.heap.Ns b m->(fO s₁.heap H).Ns b m:=λ{b m} ⟨o,es,ep,e,d,r⟩=>⟨o,es,ep,mS e (iI e d),d,r⟩
  have oP:K.In (fO s₁.heap H):=λb o e=>mS (KX b o e) (by
   cases q:H b with
   | none=>rfl
   | some u =>
    have e':b=a:=hA b (by rw[q]; simp);subst e';rw[hK (by rw[q]; simp)] at e; cases e)
  have hM:Mod K mg (fO s₁.heap H):=⟨oP,jV kO,⟨mb,jV hb,uA⟩,let ⟨mc,h1,h2⟩:=uB; ⟨mc,jV h1,h2⟩⟩
  have e0:iG P w K mg (fO s₁.heap H) callerA [] s₁ H:=⟨rfl,hM,λb o e=>zL e,Nat.le_of_eq (zJ _ _),trivial,λb hb=>absurd (show b ∈ ([]:List Addr) from hb) (by simp),ag,.of_eq hg⟩
  refine Qk ((F _ oP (jV kO)).run callerA [] s₁ H ⟨[.ref a],[]⟩ [.ref a] [.ref a] _ _ hr e0 (uC s₁ (.ref a)) (.cons rfl .nil) (gh H hO hS)) λr s' h=>?_
  cases r with
  | error e=>exact(uD H e s' h).elim
  | ok fl =>
   cases fl with
   | next=>exact False.elim h
   | brk=>exact False.elim h
   | cont=>exact False.elim h
   | ret u =>
    obtain⟨v,H',os,bare,un,hok',r',q⟩:=h;have q':v = .bl true:=q;subst q';obtain rfl:u=Value.bool true:=r';refine⟨rfl,OldK.of_keep λb o e=>?_,os,bare⟩
    cases q:H b with
    | none=>exact un.keep b o e q (by intro z; exact absurd (show b ∈ ([]:List Addr) from z) (by simp)) (by simp)
    | some u =>
     rcases hO b with z | ⟨ob,xs,z⟩
     ·rw[q] at z; cases z
     ·have z2:=un.fN b ob _ z;obtain⟨e1,_⟩:=ag b _ z;obtain⟨e2,_⟩:=hok' b _ z2;rw[e] at e1; cases e1
      exact e2
 cases hk:K.lookup a with
 | some o =>
  -- the script is one of the module's own objects
  have e:=KX a o hk;rw[ha] at e
  cases e;refine core (λ_=>none) (λ_=>.inl rfl) (.inr ⟨_,vs.toArray,_,hk,rfl,rfl,rfl,by rw[Wr,AY]; exact hl,by simpa using rv⟩) (λb u z=>by have z':(none:Option HO)=some u:=z; cases z') (λb z=>absurd rfl z) λz=>absurd rfl z
 | none =>
  refine core (λb=>if b=a then some (.frz { cls:=.type "list",data:=.seq vs.toArray } (.lst (ns.map V.int))) else none) (λb=>?_) (.inl (.inr ⟨{ cls:=.type "list",data:=.seq vs.toArray },if_pos rfl⟩)) (λb u z=>?_) (λb z=>?_) λ_=>hk
  ·by_cases hb:b=a
   ·exact .inr ⟨_,_,if_pos hb⟩
   ·exact .inl (if_neg hb)
  ·by_cases hb:b=a
   ·have z':=(if_pos hb).symm.trans z
    cases z';subst hb;exact⟨ha,by rw[Wx]; exact hl,vs,_,rv,ha⟩
   ·have z':=(if_neg hb).symm.trans z
    cases z'
  ·by_cases hb:b=a
   ·exact hb
   ·exact absurd (if_neg hb) z
abbrev Tq{K:W1}{h:Heap}(_:K.In h):W1:=K
theorem Ie{l:JW}{n k:Nat}{q:Wg}{loose:List Str}{XP:(Str->Option Value)->Heap->Prop}{YP:Wm->Heap->Prop}{d:DefRec}{K:Params->W1}{CX:Wm->g8}{sp:Wm->Sp}{x:Str}
  (hn:l.most=some n) (Ig:n<=Wa) (lU:d.params.defaults=[]) (hr:bj k callerA)
  (hY:∀ (w:Wm) (h:Heap),YP w h->(K w.params).In h)
  (F:∀ (w:Wm) (mg:Str->Option Value) (fa:Addr) (h:Heap),(K w.params).In h->h.Ns Wn mg->mg d.name=some (.ref fa) ->
   ∃ fd:Wy,(∀ (s:W2) (u:Value),BindsTo s fd ⟨[u],[]⟩ [(x,u)]) /\
    ∀ base:Heap,(K w.params).In base->base.Ns Wn mg->c8 l.prog w (K w.params) mg base (CX w) k fa fd [x] (sp w))
  (gh:∀ (w:Wm) (H:Hp) (a:Addr) (ns:List Int),ns.length<=n->uz H->cg (K w.params) H a (ns.map V.int)->sp w [.ref a] H (λv _=>v = .bl true) λ_ _ _=>False)
  (uD:∀ (w:Wm) (H:Hp) (s:W2) (e:Value) (s':W2),CX w [] H s (λ_ _ _=>False) e s'->False) :
  PySem.W.WalkO q loose XP YP l.row.toRowW d [] (λf vs=>PySem.call f vs):=by
 refine Att.AX hn lU λw s₀ s₁ mg mb fa o pm cd doc a vs ns G Y ho hd cC jU oN hints hlen hg=>?_
 have KX:=hY w _ Y;obtain⟨fd,hb,hF⟩:=F w mg fa _ KX G.T.g jU;exact Ic KX G.T.g G.T.b G.T.builtins G.T.nolimit hg oN hints (WQ hlen Ig) hr hF hb (λH hO hS=>gh w H a ns hlen hO hS) λH e s'=>uD w H s₁ e s'
def fc(s:Stmt):Arguments:=match s with
 | .FunctionDef _ a _ _ _ _ _ _ _ _=>a
 | _=>{ posonlyargs:=[],args:=[],vararg:=none,kwonlyargs:=[],kw_defaults:=[],kwarg:=none,defaults:=[] }
def cu(s:Stmt):List Stmt:=match s with
 | .FunctionDef _ _ b _ _ _ _ _ _ _=>b
 | _=>[]
def aC(s:Stmt):Scope:=match s with
 | .FunctionDef _ _ _ _ _ _ sc _ _ _=>sc
 | _=>{ kind:=.function,names:=[],isGenerator:=false,isCoroutine:=false }
abbrev bV:g8:=λ_ _ _ _ _ _=>False
abbrev E0:XK:=λ_ _ _=>False
theorem AZ:uc bV X E0:=λ_ _ _ _ _ _ _ h=>h.elim
structure bH(K:W1)(x qual:Str)(st:Stmt)(f:Addr)(fd:Wy):Prop where
 ex:∃ (oc:Value) (od:Option Addr) (kV doc pm:Value) (an:Option Addr) (aj ct:Value) (cK:Array (Option Value)),
  fd=WR x qual (fc st) (cu st) (aC st) .none kV doc pm an aj ct/\K.lookup f=some ⟨oc,od,.func fd,cK⟩/\PySem.W.codeIn K aj qual=true
 kp:WZ K (.ref f)=true
section
variable {P:Wg} {w:Wm} {K:W1} {mg:Str->Option Value} {base:Heap}
theorem bH.ok{x qual:Str}{st:Stmt}{f:Addr}{fd:Wy}{N ps:List Str}{k:Nat}{sp:Sp}(F:bH K x qual st f fd)(S:bS N ps (aC st))(len:∀ vs H Q E,sp vs H Q E->vs.length=ps.length)
  (bU:∀ (aj:Value) (A:Wl) (outer:List Env) (s:W2) (H:Hp) (vs:List V) (Q:VK) (E:XK),bj k (A.deeper (Qu qual (aC st) s.heap.objs.size f aj))->sp vs H Q E ->
   ∃ t,cX (cE bV P w K mg base N qual (aC st) f aj A outer s H E).dX (cu st) t/\t { nx:=λ_ H'=>Q .aq H',rt:=Q } (start N vs) H):c8 P w K mg base bV (k + 1) f fd ps sp:=by
 obtain⟨oc,od,kV,doc,pm,an,aj,ct,cK,rfl,lk,cC⟩:=F.ex;refine qK lk cC S len λA outer s H vs Q E hr gh=>?_
 obtain⟨t,h,q⟩:=bU aj A outer s H vs Q E hr gh;exact⟨t,h.dX,q⟩
theorem bH.binds{x qual:Str}{st:Stmt}{f:Addr}{fd:Wy}{ps:List Str}(F:bH K x qual st f fd)
  (h:∀ (kV doc pm:Value) (an:Option Addr) (aj ct:Value) (us:List Value),us.length=ps.length->bindArgs (WR x qual (fc st) (cu st) (aC st) .none kV doc pm an aj ct) ⟨us,[]⟩=pure (ps.zip us)):Binds K fd ps []:=by
 obtain⟨oc,od,kV,doc,pm,an,aj,ct,cK,rfl,lk,cC⟩:=F.ex;exact .all (h kV doc pm an aj ct)
theorem qX{x qual:Str}{st:Stmt}{f:Addr}{oc:Value}{od an:Option Addr}{cK:Array (Option Value)}{kV doc pm aj ct:Value}(l:K.lookup f=some ⟨oc,od,.func (WR x qual (fc st) (cu st) (aC st) .none kV doc pm an aj ct),cK⟩)
  (c:PySem.W.codeIn K aj qual=true) (k:WZ K (.ref f)=true):bH K x qual st f (WR x qual (fc st) (cu st) (aC st) .none kV doc pm an aj ct):=⟨⟨oc,od,kV,doc,pm,an,aj,ct,cK,rfl,l,c⟩,k⟩
end
theorem Ih(h:n<=1000):n < Wa:=Nat.lt_of_le_of_lt h (by decide)
section
variable {X:Cx}
theorem pv (i:Nat) (hN:X.N[i]? = some x:=by rfl) (hv:qy X.env.scope x:=by first | exact Or.inl rfl | exact Or.inr (Or.inl rfl) | exact Or.inr (Or.inr rfl)) (hd:(x == ("__debug__" : Str))=false:=by decide)
  (cC:(x == ("__classdict__" : Str))=false:=by decide):PE X (.Name x pos) (cY i):=FE hN hv hd cC
theorem Ii:dH X (.builtin "len") (λxs H Q=>∃ a kvs,xs=[V.ref a]/\H a=some (.dK kvs)/\Q (.int kvs.length) H):=by
 intro pins s σ H xs us Q I r h;obtain⟨a,kvs,rfl,ha,q⟩:=h;obtain⟨u,rfl,ru⟩:=fQ r
 cases ru;exact HK I (.inl ha) λt s' I'=>⟨.int kvs.length,H,I',⟨t,rfl⟩,q⟩
end
section
variable {κ:Type} [DecidableEq κ]
end
def fg(cells:List (Str×Addr)):List (Str×NameKind)->List (Str×Addr)->List (Str×Addr)
 | [],acc=>acc
 | (n,k) :: r,acc=>fg cells r (if k == .free then(match cells.lookup n with | some a=>(n,a) :: acc | none=>acc) else acc)
theorem uE(f:Str×NameKind->List (Str×Addr)->Sem (ForInStep (List (Str×Addr))))
  (hf:∀ name kind cs,f (name,kind) cs=if kind == .free then(do let a <- cellOf env name; pure (.yield ((name,a) :: cs))) else pure (.yield cs)) :
  ∀ (names:List (Str×NameKind)) (acc:List (Str×Addr)),(∀ x ∈ names,x.2=NameKind.free->∃ c,env.cells.lookup x.1=some c)->(forIn names acc f:Sem (List (Str×Addr)))=pure (fg env.cells names acc)
 | [],acc,_=>by rw[List.forIn_nil]; rfl
 | (n,k) :: r,acc,h=>by
  rw[List.forIn_cons,hf];unfold fg;by_cases hk:(k == NameKind.free)=true
  ·obtain⟨c,hc⟩:=h (n,k) Wj (by simpa using hk);have gA:env.cells.lookup n=some c:=hc;have e:cellOf env n=pure c:=by unfold cellOf; rw[gA]
   rw[if_pos hk,if_pos hk,e,gA];exact uE f hf r _ λx hx=>h x (Wd _ hx)
  ·rw[if_neg hk,if_neg hk];exact uE f hf r _ λx hx=>h x (Wd _ hx)
theorem A0(h:∀ x ∈ scope.names,x.2=NameKind.free->∃ c,env.cells.lookup x.1=some c):closureFor scope env=pure (fg env.cells scope.names []):=by
 unfold closureFor;dsimp only;rw[uE (env:=env) _ (λname kind cs=>by cases hkc:kind == NameKind.free <;> simp[hkc]) scope.names [] h];rfl
theorem A5:∀ (names:List (Str×NameKind)) (acc:List (Str×Addr)),(n,c) ∈ fg cells names acc->(n,c) ∈ acc\/((n,NameKind.free) ∈ names/\cells.lookup n=some c)
 | [],acc,h=>.inl h
 | (y,k) :: r,acc,h=>by
  unfold fg at h;rcases A5 r _ h with q | ⟨q,e⟩
  ·by_cases hk:(k == NameKind.free)=true
   ·rw[if_pos hk] at q;have uF:k=NameKind.free:=by simpa using hk
    cases e:cells.lookup y with
    | none=>rw[e] at q; exact .inl q
    | some a =>
     rw[e] at q;rcases Wh.mp q with z | z
     ·cases z;exact .inr ⟨by rw[uF]; exact Wj,e⟩
     ·exact .inl z
   ·rw[if_neg hk] at q; exact .inl q
  ·exact .inr ⟨Wd _ q,e⟩
theorem A6:∀ (names:List (Str×NameKind)) (acc:List (Str×Addr)),(acc.lookup n).isSome=true\/((n,NameKind.free) ∈ names/\(cells.lookup n).isSome=true)->((fg cells names acc).lookup n).isSome=true
 | [],acc,h=>h.elim id λz=>absurd z.1 (by simp)
 | (y,k) :: r,acc,h=>by
  unfold fg;apply A6 r;by_cases hk:(k == NameKind.free)=true
  ·rw[if_pos hk]
   cases e:cells.lookup y with
   | none =>
    rcases h with h | ⟨h1,h2⟩
    ·exact .inl h
    ·rcases Wh.mp h1 with z | z
     ·cases z;rw[e] at h2; cases h2
     ·exact .inr ⟨z,h2⟩
   | some a =>
    by_cases hn:(n == y)=true
    ·refine .inl ?_;show(List.lookup n ((y,a) :: acc)).isSome=true;rw[WT,hn];rfl
    ·rcases h with h | ⟨h1,h2⟩
     ·refine .inl ?_;show(List.lookup n ((y,a) :: acc)).isSome=true;have kF:(n == y)=false:=by simpa using hn
      rw[WT,kF];exact h
     ·rcases Wh.mp h1 with z | z
      ·cases z;exact absurd (by simp) hn
      ·exact .inr ⟨z,h2⟩
  ·rw[if_neg hk];rcases h with h | ⟨h1,h2⟩
   ·exact .inl h
   ·rcases Wh.mp h1 with z | z
    ·cases z;exact absurd rfl hk
    ·exact .inr ⟨z,h2⟩
theorem uG:∀ (names:List (Str×NameKind)) (h:Heap) (acc:List (Str×Addr)),(n,c) ∈ Qm h.objs.size names acc ->
  (n,c) ∈ acc\/((n,NameKind.cell) ∈ names/\h.objs.size<=c/\(JF h names).IsCell c none)
 | [],_,_,h=>.inl h
 | (y,k) :: r,h,acc,hm=>by
  unfold Qm at hm;unfold JF;by_cases hk:(k == NameKind.cell)=true
  ·rw[if_pos hk] at hm;rw[if_pos hk];have uF:k=NameKind.cell:=by simpa using hk
   have sz:(h.push { cls:=.type "cell",data:=.cell none }).objs.size=h.objs.size + 1:=QL ..;rw[<- sz] at hm;rcases uG r _ _ hm with q | ⟨q1,q2,q3⟩
   ·rcases Wh.mp q with z | z
    ·cases z;refine .inr ⟨by rw[uF]; exact Wj,Wb _,?_⟩;exact Heap.IsCell.keeps ⟨_,Wi _ rfl,rfl⟩ (pushCells_keeps r _)
    ·exact .inl z
   ·exact .inr ⟨Wd _ q1,by rw[sz] at q2; omega,q3⟩
  ·rw[if_neg hk] at hm;rw[if_neg hk];rcases uG r _ _ hm with q | ⟨q1,q2,q3⟩
   ·exact .inl q
   ·exact .inr ⟨Wd _ q1,q2,q3⟩
theorem uH:∀ (names:List (Str×NameKind)) (k:Nat) (acc:List (Str×Addr)),(∀ n n' c,(n,c) ∈ acc->(n',c) ∈ acc->n=n')->(∀ n c,(n,c) ∈ acc->c < k) ->
  ∀ n n' c,(n,c) ∈ Qm k names acc->(n',c) ∈ Qm k names acc->n=n'
 | [],_,_,h,_=>h
 | (y,kd) :: r,k,acc,h,hb=>by
  unfold Qm;by_cases hk:(kd == NameKind.cell)=true
  ·rw[if_pos hk];refine uH r (k + 1) _ (λn n' c h1 h2=>?_) λn c hm=>?_
   ·rcases Wh.mp h1 with e | h1 <;> rcases Wh.mp h2 with e' | h2
    ·cases e; cases e'; rfl
    ·cases e; exact absurd (hb _ _ h2) (Q3 _)
    ·cases e'; exact absurd (hb _ _ h1) (Q3 _)
    ·exact h n n' c h1 h2
   ·rcases Wh.mp hm with e | hm
    ·cases e; exact JU _
    ·exact Qe (hb _ _ hm)
  ·rw[if_neg hk];exact uH r k acc h hb
theorem lV{env:Env}{x:Str}:∀ {names:List (Str×NameKind)} {k:NameKind},
  (names.map λ(y:Str×NameKind)=>if (y.2 == NameKind.free && env.scope.kind == .function && env.kindOf y.1 == some .cell) then(y.1,NameKind.cell) else(y.1,y.2)).lookup x=some k ->
  names.lookup x=some k\/(k=NameKind.cell/\names.lookup x=some .free)
 | [],_,h=>by simp at h
 | (n,kd) :: r,k,h=>by
  rw[Wo] at h;have ih:=@lV env x r k
  cases hx:x == n with
  | true =>
   by_cases hc:(kd == NameKind.free && env.scope.kind == .function && env.kindOf n == some .cell)=true
   ·rw[if_pos hc,WT,hx] at h
    cases h;simp only[Ws] at hc;have:kd=NameKind.free:=by simpa using hc.1.1
    exact .inr ⟨rfl,by rw[WT,hx,this]⟩
   ·rw[if_neg hc,WT,hx] at h
    cases h;exact .inl (by rw[WT,hx])
  | false =>
   have h':(r.map λ(y:Str×NameKind)=>if (y.2 == NameKind.free && env.scope.kind == .function && env.kindOf y.1 == some .cell) then(y.1,NameKind.cell) else(y.1,y.2)).lookup x=some k:=by
    by_cases hc:(kd == NameKind.free && env.scope.kind == .function && env.kindOf n == some .cell)=true
    ·rw[if_pos hc,WT,hx] at h; exact h
    ·rw[if_neg hc,WT,hx] at h; exact h
   rw[WT,hx];exact ih h'
def dI(X:Cx)(scope:Scope)(s₀:W2)(H₀:Hp)(ex:List Addr):Cx :=
 { X with
  env:={ scope:=relabel scope X.env,locals:=s₀.heap.objs.size,globals:=X.env.globals,cells:=Qm (s₀.heap.objs.size + 1) scope.names (fg X.env.cells scope.names []),qual:=X.env.qual,func:=none,code:=X.env.code,frame:=X.env.frame,builtins:=X.env.builtins }
  s₀:=s₀
  H₀:=H₀
  outer:=X.stack
  ex:=ex
  fn:=λx=>scope.names.lookup x == some .cell
  pn:=[]
  xe:=λ_ _=>False }
structure kP(X:Cx)(scope:Scope)(cs:List Nat):Prop where
 kind:scope.kind = .function
 names:∀ x ∈ scope.names,x.2 = .local->scope.names.lookup x.1=some .local
 free:∀ x ∈ scope.names,x.2 = .free->X.env.kindOf x.1=some .cell\/X.env.kindOf x.1=some .free
 nd:(scope.names.map (·.1)).Nodup
 own:∀ (i:Nat) x,X.N[i]? = some x->scope.names.lookup x=some .local\/scope.names.lookup x=some .cell->i ∈ cs
def br(cs:List Nat)(σ:St):St:=cs.foldl (λσ i=>σ.set i none) σ
theorem qY(cs:List Nat):∀ σ:St,(br cs σ).length=σ.length:=by
 induction cs with
 | nil=>intro σ; rfl
 | cons i r ih =>
  intro σ;show(br r (σ.set i none)).length=_;rw[ih]; simp
theorem kQ:∀ (cs:List Nat) (σ:St) (i:Nat) (v:V),(br cs σ)[i]? = some (some v)->σ[i]? = some (some v)/\i ∉ cs:=by
 intro cs;induction cs with
 | nil=>intro σ i v h; exact⟨h,by simp⟩
 | cons j r ih =>
  intro σ i v h;have h':(br r (σ.set j none))[i]? = some (some v):=h;obtain⟨h1,h2⟩:=ih _ i v h';by_cases e:j=i
  ·subst e;rw[WM] at h1;simp at h1
  ·rw[W7 e] at h1;exact⟨h1,by simp only[Wh,not_or]; exact⟨Ne.symm e,h2⟩⟩
theorem uI:∀ {l:List (Str×α)},(l.map (·.1)).Nodup->(x,k) ∈ l->(x,k') ∈ l->k=k'
 | (y,j) :: r,nd,h1,h2=>by
  rw[Wo,List.nodup_cons] at nd;rcases Wh.mp h1 with e | g1 <;> rcases Wh.mp h2 with e' | g2
  ·cases e; cases e'; rfl
  ·cases e; exact absurd (WJ (f:=(·.1)) g2) nd.1
  ·cases e'; exact absurd (WJ (f:=(·.1)) g1) nd.1
  ·exact uI nd.2 g1 g2
section
variable {X:Cx} {pins:List (Addr×Obj)} {σ:St} {H:Hp} {s:W2} {scope:Scope} {cs:List Nat} {fp:List Addr}
theorem Ij(I:Inv X pins σ H s)(S:kP X scope cs)(hf:∀ b ∈ fp,fE X pins H b)(aY:∀ b ∈ fp,b < s.heap.objs.size) :
  Inv (dI X scope s H fp) [] (br cs σ) H { s with heap:=JF (s.heap.push { cls:=.type "dict",data:=.dict #[] }) scope.names }:=by
 have sz:(s.heap.push { cls:=.type "dict",data:=.dict #[] }).objs.size=s.heap.objs.size + 1:=QL ..;have kp:∀ b o,s.heap.get? b=some o->(JF (s.heap.push { cls:=.type "dict",data:=.dict #[] }) scope.names).get? b=some o:=λb o e=>pushCells_keeps _ _ b o (W3 _ e)
 have qZ:∀ n c,(n,c) ∈ fg X.env.cells scope.names []->(n,NameKind.free) ∈ scope.names/\X.env.cells.lookup n=some c:=λn c h=>(A5 _ _ h).elim (λz=>absurd z (by simp)) id
 have Ik:∀ n c,(n,c) ∈ fg X.env.cells scope.names []->c < s.heap.objs.size:=λn c h=>by
  obtain⟨v,q⟩:=I.cell n c (qZ n c h).2;exact q.lt
 have jm:∀ n c,(n,c) ∈ Qm (s.heap.objs.size + 1) scope.names (fg X.env.cells scope.names []) ->
   ((n,NameKind.free) ∈ scope.names/\X.env.cells.lookup n=some c)\/((n,NameKind.cell) ∈ scope.names/\s.heap.objs.size + 1<=c/\(JF (s.heap.push { cls:=.type "dict",data:=.dict #[] }) scope.names).IsCell c none):=λn c h=>by
  rw[<- sz] at h;rcases uG _ _ _ h with q | q
  ·exact .inl (qZ n c q)
  ·rw[sz] at q; exact .inr q
 have Il:=uH scope.names (s.heap.objs.size + 1) (fg X.env.cells scope.names []) (λn n' c h1 h2=>I.ok.inj n n' c (qZ n c h1).2 (qZ n' c h2).2) (λn c h=>Qe (Ik n c h));have oQ:∀ x ∈ scope.names,x.2 = .free->∃ c,X.env.cells.lookup x.1=some c:=λx hx hk=>I.ok.has x.1 (S.free x hx hk)
 have Im:∀ b ∈ fp,b ∉ dq X.stack:=λb hb z=>by
  obtain⟨_,f1,f2,_⟩:=hf b hb;rcases Wh.mp (I.mJ b z) with e | e
  ·exact f1 e
  ·exact f2 e
 have Io:∀ x,(dI X scope s H fp).env.kindOf x=some .cell\/(dI X scope s H fp).env.kindOf x=some .free->scope.names.lookup x=some .cell\/scope.names.lookup x=some .free:=λx h=>by
  rcases h with h | h
  ·have h':(relabel scope X.env).names.lookup x=some .cell:=h;rcases lV (env:=X.env) (names:=scope.names) h' with q | ⟨_,q⟩
   ·exact .inl q
   ·exact .inr q
  ·have h':(relabel scope X.env).names.lookup x=some .free:=h;rcases lV (env:=X.env) (names:=scope.names) h' with q | ⟨q,_⟩
   ·exact .inr q
   ·cases q
 have A7:∀ x,scope.names.lookup x=some .cell\/scope.names.lookup x=some .free->∃ c,(Qm (s.heap.objs.size + 1) scope.names (fg X.env.cells scope.names [])).lookup x=some c:=λx h=>by
  refine J9.mp (QM scope.names _ _ ?_);rcases h with h | h
  ·exact .inl h
  ·refine .inr (A6 _ _ (.inr ⟨Wv h,?_⟩));obtain⟨c,hc⟩:=oQ _ (Wv h) rfl;exact Option.isSome_iff_exists.mpr ⟨c,hc⟩
 have Ip:(JF (s.heap.push { cls:=.type "dict",data:=.dict #[] }) scope.names).Ns s.heap.objs.size λ_=>none:=(Heap.Ns.new s.heap (.type "dict")).keeps (pushCells_keeps _ _)
 refine⟨⟨I.ok.mod,S.kind,I.ok.glob,I.ok.blt,Wb _,λy z c h1 h2=>Il y z c (Wv h1) (Wv h2),λx hx=>A7 x (Io x hx),λx c e_ h=>?_,I.ok.hd,I.ok.frames,.inl rfl,
  λb hb=>⟨Wq (aY b hb),λx c h e=>?_⟩,I.bs,WQ I.ok.gc I.sz,λb o e hb=>?_,Im,I.stack,I.qz⟩,
  rfl,I.bare,Un.kept kp,⟨λ_=>none,Ip,λi x v h1 h2 h3=>?_⟩,λx c h=>?_,I.ag.fresh (Wb _),λx c h=>?_,λp hp=>absurd (show p ∈ ([]:List (Addr×Obj)) from hp) (by simp),I.ag.kept kp,(qY cs σ).trans I.len⟩
 ·rcases jm x c (Wv h) with q | q
  ·have Iq:scope.names.lookup x=some .cell:=by
    have:(scope.names.lookup x == some .cell)=true:=e_;exact eq_of_beq this
   have:=uI S.nd q.1 (Wv Iq)
   cases this
  ·exact Nat.le_of_succ_le q.2.1
 ·subst e;rcases jm x c (Wv h) with q | q
  ·exact(hf c hb).2.2.2.2.1 x c q.2 rfl
  ·exact absurd (Ww (aY c hb) (Nat.le_of_succ_le q.2.1)) (Q3 _)
 ·obtain⟨_,_,_,f3,_⟩:=hf b hb;rcases f3 with z | z
  ·exact I.ok.kC b o e z
  ·exact absurd (Ww (Wf (I.ok.bs b o e).1) z) (Q3 _)
 ·obtain⟨h2',hni⟩:=kQ cs σ i v h2;have A8:¬ (scope.names.lookup x=some .local\/scope.names.lookup x=some .cell):=λz=>hni (S.own i x h1 z)
  have lL:scope.names.lookup x=some .free:=by
   rcases h3 with h3 | h3 | h3
   ·rcases lV (env:=X.env) (names:=scope.names) h3 with q | ⟨q,_⟩
    ·exact absurd (.inl q) A8
    ·cases q
   ·rcases lV (env:=X.env) (names:=scope.names) h3 with q | ⟨_,q⟩
    ·exact absurd (.inr q) A8
    ·exact q
   ·rcases lV (env:=X.env) (names:=scope.names) h3 with q | ⟨q,_⟩
    ·exact q
    ·cases q
  have hk:=S.free _ (Wv lL) rfl;obtain⟨m,hn,hl⟩:=I.loc;have Ir:qy X.env.scope x:=by
   rcases hk with hk | hk
   ·exact .inr (.inl hk)
   ·exact .inr (.inr hk)
  obtain⟨u,r,l⟩:=hl i x v h1 h2' Ir;refine⟨u,r,?_⟩;rcases l with ⟨k,_⟩ | ⟨_,c,hc,hcell⟩
  ·have k':X.env.kindOf x=some .local:=k;rcases hk with hk | hk
   ·rw[show X.env.kindOf x=some .cell from hk] at k'; cases k'
   ·rw[show X.env.kindOf x=some .free from hk] at k'; cases k'
  ·obtain⟨c',gA⟩:=A7 x (.inr lL);have e:c'=c:=by
    rcases jm x c' (Wv gA) with q | q
    ·have q2:=q.2;rw[hc] at q2; exact(WB q2).symm
    ·have:=uI S.nd q.1 (Wv lL)
     cases this
   subst e;refine .inr ⟨?_,c',gA,hcell.keeps kp⟩;rcases h3 with h3 | h3 | h3
   ·rcases lV (env:=X.env) (names:=scope.names) h3 with q | ⟨q,_⟩
    ·rw[lL] at q; cases q
    ·cases q
   ·exact .inl h3
   ·exact .inr h3
 ·rcases jm x c (Wv h) with q | q
  ·obtain⟨v,z⟩:=I.cell x c q.2;exact⟨v,z.keeps kp⟩
  ·exact⟨none,q.2.2⟩
 ·rcases jm x c (Wv h) with q | q
  ·exact I.du x c q.2
  ·exact I.ag.fresh (Nat.le_of_succ_le q.2.1)
end
abbrev jW:Value->W2->Prop:=λ_ _=>False
def A9(ifs:List Expr)(env:Env):Sem Bool:=forIn ifs true λc r=>if r=true then do let ok <- isTrue c env (eval c env); pure (ForInStep.yield ok) else pure (ForInStep.yield r)
theorem Iu(I:Nat->W2->Prop)
  (turn:∀ n s,I n s->W6 (model prog w) A (Qt it) (λr s₁=>match r with
   | none=>R (.ok .next) s₁
   | some v=>W6 (model prog w) A (letOwnedTupleGo target it v) (λ_ A_=>W6 (model prog w) A (assign target env v) (λ_ s₂ =>
     W6 (model prog w) A (A9 ifs env) (λok s₃ =>
      if ok=true then W6 (model prog w) A (eval elt env) (λx s₄ =>
       W6 (model prog w) A (call (.builtin "list.append") [acc,x]) (λ_ s₅=>∃ m,m < n/\I m s₅) jW s₄) jW s₃
      else ∃ m,m < n/\I m s₃) jW s₂) jW A_) jW s₁) jW s)
  (n:Nat) (h:I n s) :
  Q4 (model prog w) A (.compLoop (.ListComp elt [⟨target,iter,ifs,0⟩] scope pos) 0 it acc env) R s:=by
 refine codeAny_loop rfl I (λn s hI=>?_) n h;show W6 _ A ((compTurn (.ListComp elt [⟨target,iter,ifs,0⟩] scope pos) 0 it acc env).onRaise (λx=>do JG x env; theTreesLotGoes x)) _ _ s;refine wpAny_noted ?_;rw[compTurn_list];refine W0 (wpAny_standAt (W0 (WC (turn n s hI) (λr s₁ h₁=>?_) λ_ _ h'=>h'.elim)))
 cases r with
 | none=>exact W4 h₁
 | some v =>
  refine W0 (WC h₁ (λ_ A_ Iy=>?_) λ_ _ h'=>h'.elim);refine W0 (WC Iy (λ_ s₂ h₂=>W0 (WC h₂ (λok s₃ h₃=>?_) λ_ _ h'=>h'.elim)) λ_ _ h'=>h'.elim)
  cases ok with
  | false=>exact W4 ⟨rfl,h₃⟩
  | true =>
   exact W0 (W0 (WC h₃ (λx s₄ h₄=>W0 (WC h₄ (λ_ s₅ h₅=>W4 (W4 ⟨rfl,h₅⟩)) λ_ _ h'=>h'.elim)) λ_ _ h'=>h'.elim))
theorem Iz
  (h:Q { scope,locals:=s.heap.objs.size,globals,cells:=Qm (s.heap.objs.size + 1) scope.names cl,qual,func:=none,code:=env.code,frame:=env.frame,builtins:=env.builtins }
   { s with heap:=JF (s.heap.push { cls:=.type "dict",data:=.dict #[] }) scope.names }):W6 M A (newFunctionEnv scope globals cl [] qual none .none (some env)) Q E s:=by
 simp only[newFunctionEnv,Option.isSome_some,if_true];refine W0 (wpAny_alloc ?_);refine W0 (wpAny_layCells _ (λname kind cells=>by cases hkc:kind == NameKind.cell <;> simp[hkc]) _ _ _ _ ?_);rw[show({ s with heap:=s.heap.push { cls:=.type "dict",data:=.dict #[] } }:W2).heap.objs.size=s.heap.objs.size + 1 from QL ..];exact W0 (W4 (W4 h))
def oR(X:Cx)(ifs:List Expr)(t:TT):Prop :=
 ∀ (pins:List (Addr×Obj)) (s:W2) (σ:St) (H:Hp) (Q:Bool->Hp->Prop),Inv X pins σ H s->t σ H Q->W6 (model X.prog X.w) X.A (A9 ifs X.env) (TP X pins σ Q) X.xe s
def IA:TT:=λ_ H Q=>Q true H
theorem IB:oR X [] IA:=λpins s σ H Q I h=>wpAny_tests_nil ⟨H,I,h⟩
def Le(σ σ':St):Prop:=σ'.length=σ.length/\∀ (i:Nat) (v:V),σ[i]? = some (some v)->σ'[i]? = some (some v)
def Ba(cs:List Nat)(g:TG)(tt:TT)(te:TE)(σ:St)(Q:VK)(J:It)(H1:Hp):Prop :=
 ∀ l,H1 l=none->∃ W:Nat->Nat->Hp->Prop,(∃ m,W 0 m (upd H1 l (.lst [])))/\∀ i m H2,W i m H2 ->
  (J.stop i H2/\Q (.ref l) H2) \/
  (J.go i H2/\∀ x H3,J.oA i H2 x H3->g x (br cs σ) H3 λσ4 H4=>Le (br cs σ) σ4/\tt σ4 H4 λb H5 =>
   if b=true then te σ4 H5 λv H6=>∃ ys m',H6 l=some (.lst ys)/\ys.length < Wa/\m' < m/\W (i + 1) m' (upd H6 l (.lst (ys ++ [v]))) else ∃ m',m' < m/\W (i + 1) m' H5)
def q0(cs:List Nat)(wi:TI)(g:TG)(tt:TT)(te:TE):TE:=λσ H Q=>wi σ H λJ H1=>Ba cs g tt te σ Q J H1
section
variable {X:Cx} {pins:List (Addr×Obj)} {σ:St} {H:Hp} {s:W2} {scope:Scope} {cs:List Nat} {elt tg iter:Expr} {ifs:List Expr} {pos:Pos} {g:TG} {tt:TT} {te:TE}
theorem Bb{it:Addr}{fp:List Addr}{tn:Nat->Heap->Prop}{J:It}{Q:VK}{E:Value->W2->Prop}{RR:Value->Addr->Result->W2->Prop}(hc:X.calm=true)(I:Inv X pins σ H s)(S:kP X scope cs)
  (T:Turn X.prog X.w X.K tg J fp it tn) (st:tn 0 s.heap) (hf:∀ b ∈ fp,fE X pins H b)
  (hg:∀ s₀ H₀ ex,PG (dI X scope s₀ H₀ ex) tg g) (ht:∀ s₀ H₀ ex,oR (dI X scope s₀ H₀ ex) ifs tt) (he:∀ s₀ H₀ ex,PE (dI X scope s₀ H₀ ex) elt te) (q:Ba cs g tt te σ Q J H)
  (IC:∀ l C s' H',Inv X pins σ H' s'->fE X pins H' C->(∃ m,s'.heap.Ns C m)->Q (.ref l) H'->RR (.ref l) C (.ok .next) s') :
  W6 (model X.prog X.w) X.A (newList []) (λacc s₃=>W6 (model X.prog X.w) X.A (newFunctionEnv scope X.env.globals (fg X.env.cells scope.names []) [] X.env.qual none .none (some X.env)) (λBc s₄ =>
   Q4 (model X.prog X.w) X.A (.compStart (.ListComp elt [⟨tg,iter,ifs,0⟩] scope pos) 0 (.ref it) acc { Bc with scope:=relabel scope X.env }) (RR acc Bc.locals) s₄) E s₃) E s:=by
 refine WL ?_;have dz:H s.heap.objs.size=none:=I.ag.fresh (Wb _);obtain⟨W,⟨m0,w0⟩,turn⟩:=q s.heap.objs.size dz;generalize hl:s.heap.objs.size=l at *;have I3:Inv X pins σ (upd H l (.lst [])) { s with heap:=s.heap.push { cls:=.type "list",dict:=none,data:=.seq ([]:List Value).toArray } } :=
  I.laid (t':=s.toks) (λb u e=>W3 _ e) (Nat.le_of_eq hl) ⟨Qy _,[],0,.nil,by rw[<- hl]; exact Wi _ rfl⟩
 have ID:∀ b o,s.heap.get? b=some o->(s.heap.push { cls:=.type "list",dict:=none,data:=.seq ([]:List Value).toArray }).get? b=some o:=λb o e=>W3 _ e
 have iK:∀ b ∈ fp,b≠l:=λb hb e=>by
  obtain⟨o,ho,_⟩:=T.obj 0 _ st b hb;exact absurd (Wf ho) (by rw[e,hl]; exact Q3 _)
 have uJ:∀ b ∈ fp,fE X pins (upd H l (.lst [])) b:=λb hb=>⟨by rw[aQ (iK b hb)]; exact(hf b hb).1,(hf b hb).2⟩
 have kH:tn 0 (s.heap.push { cls:=.type "list",dict:=none,data:=.seq ([]:List Value).toArray }):=T.keep 0 _ _ st λb _ o e=>ID b o e
 generalize uK:({ s with heap:=s.heap.push { cls:=.type "list",dict:=none,data:=.seq ([]:List Value).toArray } }:W2)=s3 at I3;have Be:tn 0 s3.heap:=by rw[<- uK]; exact kH
 have IE:∀ b ∈ fp,b < s3.heap.objs.size:=λb hb=>by
  obtain⟨o,ho,_⟩:=T.obj 0 _ Be b hb;exact Wf ho
 refine Iz ?_;have I4:=Ij I3 S uJ IE;generalize hX:dI X scope s3 (upd H l (.lst [])) fp=X' at I4;generalize hs4:({ s3 with heap:=JF (s3.heap.push { cls:=.type "dict",data:=.dict #[] }) scope.names }:W2)=s4 at I4 ⊢;have mT:=hg s3 (upd H l (.lst [])) fp;have Bf:=ht s3 (upd H l (.lst [])) fp;have Bg:=he s3 (upd H l (.lst [])) fp;rw[hX] at mT Bf Bg;have Bh:tn 0 s4.heap:=T.keep 0 _ _ Be λb _ o e=>by rw[<- hs4]; exact pushCells_keeps _ _ b o (W3 _ e)
 have hP:X'.prog=X.prog:=by rw[<- hX]; rfl
 have hw:X'.w=X.w:=by rw[<- hX]; rfl
 have hA:X'.A=X.A:=by rw[<- hX]; rfl
 have hK:X'.K=X.K:=by rw[<- hX]; rfl
 have gA:X'.calm=true:=by rw[<- hX]; exact hc
 have mU:X'.xe=jW:=by rw[<- hX]; rfl
 have Bi:X'.env.locals=s3.heap.objs.size:=by rw[<- hX]; rfl
 have IF:({ scope:=relabel scope X.env,locals:=s3.heap.objs.size,globals:=X.env.globals,cells:=Qm (s3.heap.objs.size + 1) scope.names (fg X.env.cells scope.names []),qual:=X.env.qual,func:=none,code:=X.env.code,frame:=X.env.frame,builtins:=X.env.builtins }:Env)=X'.env:=by rw[<- hX]; rfl
 have uL:∀ {H':Hp},(∀ b ∈ fp,H' b=none)->∀ b ∈ fp,fE X' [] H' b:=λ{H'} hn b hb=>by
  have ex:X'.ex=fp:=by rw[<- hX]; rfl
  have pn:X'.pn=[]:=by rw[<- hX]; rfl
  refine⟨hn b hb,(I4.ok.lJ b (by rw[ex]; exact hb)).1,I4.ok.kD b (by rw[ex]; exact hb),.inl (by rw[ex]; exact hb),(I4.ok.lJ b (by rw[ex]; exact hb)).2,λp hp=>?_⟩;rw[pn] at hp;simp at hp
 show Q4 (model X.prog X.w) X.A (.compStart (.ListComp elt [⟨tg,iter,ifs,0⟩] scope pos) 0 (.ref it) (.ref l) ({ scope:=relabel scope X.env,locals:=s3.heap.objs.size,globals:=X.env.globals,cells:=Qm (s3.heap.objs.size + 1) scope.names (fg X.env.cells scope.names []),qual:=X.env.qual,func:=none,code:=X.env.code,frame:=X.env.frame,builtins:=X.env.builtins }:Env)) (RR (.ref l) s3.heap.objs.size) s4;rw[IF];have loop:Q4 (model X.prog X.w) X.A (.compLoop (.ListComp elt [⟨tg,iter,ifs,0⟩] scope pos) 0 (.ref it) (.ref l) X'.env) (RR (.ref l) s3.heap.objs.size) s4:=by
  refine Iu (λn s'=>∃ i H',Inv X' [] (br cs σ) H' s'/\tn i s'.heap/\(∀ b ∈ fp,H' b=none)/\W i n H') ?_ m0 ⟨0,_,I4,Bh,λb hb=>(uJ b hb).1,w0⟩;rintro n s5 ⟨i,H5,I5,st5,fr5,w5⟩;rcases turn i n H5 w5 with ⟨stop,qn⟩ | ⟨go,step⟩
  ·have:=T.done X' hP hw hK gA i [] s5 (br cs σ) H5 jW I5 (uL fr5) st5 stop;rw[hA] at this;refine aH this λr s6 ⟨hr,I6⟩=>?_
   subst hr;have b6:=I6.base;have e1:X'.fs=dq X.stack:=by rw[<- hX]; rfl
   have e2:X'.ex=fp:=by rw[<- hX]; rfl
   have e3:X'.H₀=upd H l (.lst []):=by rw[<- hX]; rfl
   have e4:X'.s₀=s3:=by rw[<- hX]; rfl
   rw[e1,e2,e3,e4] at b6;have o6:s6.os=s3.os:=by rw[<- e4]; exact I6.os
   have IG:b8 X.prog X.w H5 s6.heap:=by rw[<- hP,<- hw]; exact I6.ag
   have J6:Inv X pins σ H5 s6:=I3.zP o6 b6 IG I6.bare λb hb=>by
    obtain⟨_,f1,_,f3,f4,f5⟩:=uJ b hb;exact⟨f3,f1,f4,f5⟩
   obtain⟨m6,n6,_⟩:=I6.loc;rw[Bi] at n6;refine IC l s3.heap.objs.size s6 H5 J6 (I3.jj (Wb _) ?_) ⟨m6,n6⟩ qn;rw[<- Bi];exact I6.free
  ·have:=T.item X' hP hw hK gA i [] s5 (br cs σ) H5 jW I5 (uL fr5) st5 go;rw[hA] at this;refine aH this λr s6 ⟨u,hr,h6⟩=>?_
   subst hr;refine aH h6 λ_ s7 ⟨x,H7,I7,r7,y7,st7,fr7⟩=>?_
   have IH:=I7.pinned (uL fr7) (T.obj _ _ st7);have a8:=mT _ s7 (br cs σ) H7 x u _ IH r7 (step x H7 y7);rw[hP,hw,hA,mU] at a8;refine aH a8 λ_ s8 ⟨σ8,H8,I8,le8,q8⟩=>?_
   have a9:=Bf _ s8 σ8 H8 _ I8 q8;rw[hP,hw,hA,mU] at a9;refine aH a9 λok s9 ⟨H9,I9,q9⟩=>?_
   have back:∀ {H':Hp} {s':W2},Inv X' ([] ++ oE fp s7.heap) σ8 H' s'->Inv X' [] (br cs σ) H' s'/\tn (i + 1) s'.heap/\∀ b ∈ fp,H' b=none:=λ{H' s'} J=>by
    refine⟨J.qJ.weak (le8.1.symm) le8.2,T.keep _ _ _ st7 λb hb o e=>(J.pin (b,o) (WP _ (WP _ (qI hb e)))).1,λb hb=>?_⟩;obtain⟨o,e,d⟩:=T.obj _ _ st7 b hb;exact(J.pin (b,o) (WP _ (WP _ (qI hb e)))).2.1
   cases ok with
   | false =>
    rw[if_neg WX] at q9 ⊢;obtain⟨m',hm,w9⟩:=q9;obtain⟨b1,b2,b3⟩:=back I9;exact⟨m',hm,i + 1,H9,b1,b2,b3,w9⟩
   | true =>
    rw[if_pos rfl] at q9 ⊢;have Bj:=Bg _ s9 σ8 H9 _ I9 q9;rw[hP,hw,hA,mU] at Bj;refine aH Bj λx10 s10 ⟨v,H10,I10,r10,ys,m',hy,hz,hm,w10⟩=>?_
    have Bk:=AO (X:=X') _ s10 σ8 H10 (.ref l) [v] (.ref l) [x10] (λ_ H'=>W (i + 1) m' H') I10 rfl (.cons r10 .nil) ⟨l,ys,v,rfl,rfl,hy,hz,w10⟩;rw[hP,hw,hA,mU] at Bk;refine aH Bk λ_ s11 ⟨_,H11,I11,_,w11⟩=>?_
    obtain⟨b1,b2,b3⟩:=back I11;exact⟨m',hm,i + 1,H11,b1,b2,b3,w11⟩
 exact codeAny_compStart_list loop (T.self X.A 0 s4 _ _ Bh loop)
theorem Bl(hc:X.calm=true)(S:kP X scope cs)(hi:PI X tg iter wi)(hg:∀ s₀ H₀ ex,PG (dI X scope s₀ H₀ ex) tg g)(ht:∀ s₀ H₀ ex,oR (dI X scope s₀ H₀ ex) ifs tt)(he:∀ s₀ H₀ ex,PE (dI X scope s₀ H₀ ex) elt te)
  (hs:∀ x,QF iter X.env x=pure x:=by intro _; rfl):PE X (.ListComp elt [⟨tg,iter,ifs,0⟩] scope pos) (q0 cs wi g tt te):=by
 intro pins s σ H Q I h;have oQ:∀ x ∈ scope.names,x.2 = .free->∃ c,X.env.cells.lookup x.1=some c:=λx hx hk=>I.ok.has x.1 (S.free x hx hk)
 rw[eval_ListComp];refine wpAny_comprehension_free (use:=none) rfl hs (A0 oQ) S.kind S.names (aH (hi pins s σ H _ I h) λxv s1 h1=>aH h1 λqG s2 h2=>?_);obtain⟨it,fp,tn,J,H2,e,I2,T,st2,f2,q2⟩:=h2;subst e;refine Bb (RR:=λacc C=>compPost (model X.prog X.w) X.A X.xe none (EP X pins σ Q) acc C) hc I2 S T st2 f2 hg ht he q2 ?_;intro l C s' H' I' fC ⟨m,n⟩ q;exact⟨m,n,λh' g_=>⟨.ref l,H',I'.turned (t':=s'.toks) (λb o hb e=>(g_.2 b hb).trans e) fC.1 fC.2.1 fC.2.2.2.1 fC.2.2.2.2.1 fC.2.2.2.2.2,rfl,q⟩⟩
theorem II(hc:X.calm=true)(S:kP X scope cs)(hN:X.N.Nodup)(eV:X.N[i]? = some y)(hy:X.env.scope.names.lookup y=some .local)
  (hi:PI X tg iter wi) (hg:∀ s₀ H₀ ex,PG (dI X scope s₀ H₀ ex) tg g) (ht:∀ s₀ H₀ ex,oR (dI X scope s₀ H₀ ex) ifs tt) (he:∀ s₀ H₀ ex,PE (dI X scope s₀ H₀ ex) elt te)
  (lW:QO (.ListComp elt [⟨tg,iter,ifs,0⟩] scope pos) (some (.Name y py)) q_.line X.env=pure true:=by rfl)
  (hs:∀ x,QF iter X.env x=pure x:=by intro _; rfl):PS X (.Assign [.Name y py] (.ListComp elt [⟨tg,iter,ifs,0⟩] scope pos) q_) (qF (q0 cs wi g tt te) (qE i)):=by
 intro pins s σ H D I h;have oQ:∀ x ∈ scope.names,x.2 = .free->∃ c,X.env.cells.lookup x.1=some c:=λx hx hk=>I.ok.has x.1 (S.free x hx hk)
 rw[exec_Assign_Name_used _ _ _ _ lW];refine W0 (wpAny_standAt (W0 ?_));show W6 _ X.A (do let _ <- comprehension (.ListComp elt [⟨tg,iter,ifs,0⟩] scope pos) scope X.env _ (newList []) false (eval iter X.env) (some (assign (.Name y py) X.env))) _ _ s;refine W0 (WC (wpAny_comprehension_free (use:=some (assign (.Name y py) X.env)) (Q:=λ_ s'=>SP X pins D .next s') rfl hs (A0 oQ) S.kind S.names
  (aH (hi pins s σ H _ I h) λxv s1 h1=>aH h1 λqG s2 h2=>?_)) (λ_ s' hq=>W4 (W4 hq)) λ_ _ e=>e)
 obtain⟨it,fp,tn,J,H2,e,I2,T,st2,f2,q2⟩:=h2;subst e;refine Bb (RR:=λacc C=>compPost (model X.prog X.w) X.A X.xe (some (assign (.Name y py) X.env)) (λ_ s'=>SP X pins D .next s') acc C) hc I2 S T st2 f2 hg ht he q2 ?_;intro l C s' H' I' fC ⟨m,n⟩ q;show W6 _ X.A (assign (.Name y py) X.env (.ref l)) _ _ _;refine wpAny_assign_Name (qC I' hN eV (.inl hy) (v:=.ref l) rfl (λiH I'' ⟨a,uM,ha⟩=>?_) (.inr hy));have eJ:C≠a:=by
  rcases ha with rfl | ha
  ·exact fC.2.1
  ·exactλe=>fC.2.2.2.2.1 y a ha e.symm
 refine⟨m,n.sameBut uM eJ,λh' g_=>⟨_,H',I''.turned (t':=iH.toks) (λb o hb e=>(g_.2 b hb).trans e) fC.1 fC.2.1 fC.2.2.2.1 fC.2.2.2.2.1 fC.2.2.2.2.2,q⟩⟩
end
end L2
set_option maxHeartbeats 4000000
namespace DV
open PySem PySem.Spec PyProof.Rows L2
abbrev Tx:=List Nat
def toS(x:Tx):Str:=⟨x.toArray⟩
theorem oS(x:Tx):(toS x).cps.toList=x:=by simp[toS]
theorem jn(x:Tx):(toS x).length=x.length:=by simp[toS,Str.length]
theorem oU(h:toS x=toS y):x=y:=by
 have:=congrArg (λz:Str=>z.cps.toList) h;simpa[toS] using this
theorem uN(z:Str):z=toS z.cps.toList:=by simp[toS]
abbrev aT:=Sum Int Tx
def cz:aT->Key
 | .inl i=>.inl i
 | .inr x=>.inr (toS x)
inductive D where
 | aq | bl (b:Bool) | int (i:Int) | str (x:Tx) | tup (xs:List D) | lst (xs:List D) | aB (kvs:List (aT×D)) | exc (n:Nat) (fl:D) | xd (fs:List (Tx×D)) | fn (a:Nat)
def excAt(C:Addr)(v:V)(a:Addr):Heap->Prop:=λh=>∃ o,h.get? a=some o/\o.cls = .ref C/\(∀ x,v = .ref x->o.dict=some x)/\∃ vs,o.data = .fields vs
def iL(fs:List (Str×V))(x:Addr):Heap->Prop:=λh=>∃ mA,h.Ns1 x mA/\∀ f,dG (fs.lookup f) (mA f)
inductive S where
 | pure (d:D)
 | own (d:D)
def S.d:S->D
 | .pure d=>d
 | .own d=>d
abbrev Dl:=List (Option S)
abbrev St:=L2.St
inductive Rep (H:Hp) (O:Addr->Prop):V->D->Prop
 | aq:Rep H O .aq .aq
 | bl (b:Bool):Rep H O (.bl b) (.bl b)
 | int (i:Int):Rep H O (.int i) (.int i)
 | str (x:Tx):Rep H O (.str (toS x)) (.str x)
 | tup {a:Addr} {vs:List V} {ds:List D}:¬ O a->H a=some (.tup vs)->vs.length=ds.length->(∀ (i:Nat) v d,vs[i]? = some v->ds[i]? = some d->Rep H O v d)->Rep H O (.ref a) (.tup ds)
 | lst {a:Addr} {vs:List V} {ds:List D}:¬ O a->Rd H a (.lst vs)->vs.length=ds.length->(∀ (i:Nat) v d,vs[i]? = some v->ds[i]? = some d->Rep H O v d)->Rep H O (.ref a) (.lst ds)
 | aB {a:Addr} {ws:List (Key×V)} {ds:List (aT×D)}:¬ O a->H a=some (.dK ws)->ws.map (·.1)=ds.map (λp=>cz p.1)->(∀ (i:Nat) p q,ws[i]? = some p->ds[i]? = some q->Rep H O p.2 q.2)->Rep H O (.ref a) (.aB ds)
 | exc {a:Addr} {n:Nat} {v:V} {fl:D}:¬ O a->H a=some (.ext (excAt n v a))->Rep H O v fl->Rep H O (.ref a) (.exc n fl)
 | xd {x:Addr} {fs:List (Str×V)} {ds:List (Tx×D)}:¬ O x->H x=some (.ext (iL fs x))->fs.map (·.1)=ds.map (λp=>toS p.1)->(∀ (i:Nat) p q,fs[i]? = some p->ds[i]? = some q->Rep H O p.2 q.2)->Rep H O (.ref x) (.xd ds)
 | fn (a:Addr):Rep H O (.ref a) (.fn a)
abbrev ax(H:Hp)(O:Addr->Prop)(vs:List V)(ds:List D):Prop:=vs.length=ds.length/\∀ (i:Nat) v d,vs[i]? = some v->ds[i]? = some d->Rep H O v d
def fR(H:Hp)(O:Addr->Prop)(a:Addr):D->Prop
 | .lst ds=>∃ vs,H a=some (.lst vs)/\ax H O vs ds
 | .aB ds=>∃ ws:List (Key×V),H a=some (.dK ws)/\ws.map (·.1)=ds.map (λp=>cz p.1)/\∀ (i:Nat) p q,ws[i]? = some p->ds[i]? = some q->Rep H O p.2 q.2
 | _=>False
section
variable {H H':Hp} {O O':Addr->Prop} {v:V} {d:D} {vs:List V} {ds:List D} {a:Addr}
theorem Rd.keep(h:Rd H a u)(k:∀ o,H a=some o->H' a=some o):Rd H' a u:=by
 rcases h with h | ⟨o,h⟩
 ·exact .inl (k _ h)
 ·exact .inr ⟨o,k _ h⟩
theorem Rd.some(h:Rd H a u):∃ o,H a=some o:=by
 rcases h with h | ⟨o,h⟩
 ·exact⟨_,h⟩
 ·exact⟨_,h⟩
theorem Rep.keep(h:Rep H O v d)(k:∀ a o,H a=some o->¬ O a->H' a=some o):Rep H' O v d:=by
 induction h with
 | aq=>exact .aq
 | bl b=>exact .bl b
 | int i=>exact .int i
 | str x=>exact .str x
 | tup h1 h2 h3 _ ih=>exact .tup h1 (k _ _ h2 h1) h3 ih
 | lst h1 h2 h3 _ ih=>exact .lst h1 (Rd.keep h2 λo e=>k _ o e h1) h3 ih
 | aB h1 h2 h3 _ ih=>exact .aB h1 (k _ _ h2 h1) h3 ih
 | exc h1 h2 _ ih=>exact .exc h1 (k _ _ h2 h1) ih
 | xd h1 h2 h3 _ ih=>exact .xd h1 (k _ _ h2 h1) h3 ih
 | fn a=>exact .fn a
theorem Rep.aJ(h:Rep H O v d)(k:∀ a,O' a->O a\/H a=none):Rep H O' v d:=by
 have no:∀ {a:Addr} {u:HO},¬ O a->Rd H a u->¬ O' a:=λ{a u} h1 h2 z=>by
  rcases k a z with q | q
  ·exact h1 q
  ·obtain⟨o,e⟩:=Rd.some h2;rw[q] at e; cases e
 induction h with
 | aq=>exact .aq
 | bl b=>exact .bl b
 | int i=>exact .int i
 | str x=>exact .str x
 | tup h1 h2 h3 _ ih=>exact .tup (no h1 (.inl h2)) h2 h3 ih
 | lst h1 h2 h3 _ ih=>exact .lst (no h1 h2) h2 h3 ih
 | aB h1 h2 h3 _ ih=>exact .aB (no h1 (.inl h2)) h2 h3 ih
 | exc h1 h2 _ ih=>exact .exc (no h1 (.inl h2)) h2 ih
 | xd h1 h2 h3 _ ih=>exact .xd (no h1 (.inl h2)) h2 h3 ih
 | fn a=>exact .fn a
theorem ax.keep(h:ax H O vs ds)(k:∀ a o,H a=some o->¬ O a->H' a=some o):ax H' O vs ds:=⟨h.1,λi v d e1 e2=>(h.2 i v d e1 e2).keep k⟩
theorem ax.aJ(h:ax H O vs ds)(k:∀ a,O' a->O a\/H a=none):ax H O' vs ds:=⟨h.1,λi v d e1 e2=>(h.2 i v d e1 e2).aJ k⟩
theorem ax.nil:ax H O [] []:=⟨rfl,λi v d e _=>by simp at e⟩
theorem ax.cons(h:Rep H O v d)(r:ax H O vs ds):ax H O (v :: vs) (d :: ds):=by
 refine⟨by simp[r.1],λi v' d' e1 e2=>?_⟩
 cases i with
 | zero=>simp at e1 e2; subst e1; subst e2; exact h
 | succ i=>exact r.2 i v' d' (by simpa using e1) (by simpa using e2)
theorem ax.head(r:ax H O (v :: vs) (d :: ds)):Rep H O v d:=r.2 0 v d rfl rfl
theorem ax.tail(r:ax H O (v :: vs) (d :: ds)):ax H O vs ds:=⟨by simpa using r.1,λi v' d' e1 e2=>r.2 (i + 1) v' d' (by simpa using e1) (by simpa using e2)⟩
theorem ax.append(h:ax H O vs ds)(h':ax H O gE bN):ax H O (vs ++ gE) (ds ++ bN):=by
 induction vs generalizing ds with
 | nil =>
  cases ds with
  | nil=>exact h'
  | cons d r=>have:=h.1; simp at this
 | cons v r ih =>
  cases ds with
  | nil=>have:=h.1; simp at this
  | cons d q=>exact .cons h.head (ih h.tail)
theorem ax.get{i:Nat}(h:ax H O vs ds)(e:ds[i]? = some d):∃ v,vs[i]? = some v/\Rep H O v d:=by
 have hi:i < ds.length:=(We.mp e).1;have hv:i < vs.length:=by rw[h.1]; exact hi
 exact⟨vs[i],by simp[hv],h.2 i _ d (by simp[hv]) e⟩
theorem ax.take(n:Nat)(h:ax H O vs ds):ax H O (vs.take n) (ds.take n):=by
 refine⟨by simp[h.1],λi v d e1 e2=>?_⟩;by_cases hi:i < n
 ·rw[List.getElem?_take_of_lt hi] at e1 e2;exact h.2 i v d e1 e2
 ·rw[List.getElem?_take_eq_none (by omega)] at e1; cases e1
theorem ax.drop(n:Nat)(h:ax H O vs ds):ax H O (vs.drop n) (ds.drop n):=by
 refine⟨by simp[h.1],λi v d e1 e2=>?_⟩;rw[List.getElem?_drop] at e1 e2;exact h.2 (n + i) v d e1 e2
theorem ax.set(h:ax H O vs ds)(r:Rep H O v d)(j:Nat):ax H O (vs.set j v) (ds.set j d):=by
 refine⟨by simp[h.1],λi v' d' e1 e2=>?_⟩;by_cases hi:j=i
 ·subst hi;rw[WM] at e1 e2;simp at e1 e2;obtain⟨_,rfl⟩:=e1;obtain⟨_,rfl⟩:=e2;exact r
 ·rw[W7 hi] at e1 e2;exact h.2 i v' d' e1 e2
theorem fR.keep(h:fR H O a d)(hk:∀ b o,H b=some o->¬ O b->H' b=some o)(ha:∀ o,H a=some o->H' a=some o):fR H' O a d:=by
 cases d <;> first
  | exact h.elim
  | (obtain⟨vs,e,r⟩:=h; exact⟨vs,ha _ e,ax.keep r hk⟩)
  | (obtain⟨ws,e,r,q⟩:=h; exact⟨ws,ha _ e,r,λi p p' e1 e2=>(q i p p' e1 e2).keep hk⟩)
theorem fR.aJ(h:fR H O a d)(k:∀ a,O' a->O a\/H a=none):fR H O' a d:=by
 cases d <;> first
  | exact h.elim
  | (obtain⟨vs,e,r⟩:=h; exact⟨vs,e,ax.aJ r k⟩)
  | (obtain⟨ws,e,r,q⟩:=h; exact⟨ws,e,r,λi p p' e1 e2=>(q i p p' e1 e2).aJ k⟩)
theorem fR.some(h:fR H O a d):∃ o,H a=some o:=by
 cases d <;> first
  | exact h.elim
  | (obtain⟨vs,e,r⟩:=h; exact⟨_,e⟩)
theorem fR.rep(h:fR H O a d)(ho:¬ O a):Rep H O (.ref a) d:=by
 cases d with
 | lst ds=>obtain⟨vs,e,r⟩:=h; exact .lst ho (.inl e) r.1 r.2
 | aB ds=>obtain⟨ws,e,r,q⟩:=h; exact .aB ho e r q
 | _=>exact h.elim
end
structure Xc where
 cls:Tx
 jo:D
structure Fc where
 H₀:Hp
 B:Addr->Prop
 pin:List (Nat×Addr)
 xc:Xc->Dl->Prop:=λ_ _=>False
def Fc.plus(c:Fc)(p:Addr):Fc:={ c with B:=λa=>c.B a\/a=p }
def Fc.I(c:Fc)(a:Addr):Prop:=∃ i,(i,a) ∈ c.pin
def Own(σ:St)(δ:Dl)(a:Addr):Prop:=∃ (i:Nat) (d:D),δ[i]? = some (some (.own d))/\σ[i]? = some (some (.ref a))
def Av(c:Fc)(σ:St)(δ:Dl)(a:Addr):Prop:=c.B a\/Own σ δ a
structure Ok(c:Fc)(σ:St)(δ:Dl)(H:Hp):Prop where
 keep:∀ a o,c.H₀ a=some o->¬ c.I a->H a=some o
 bd:∀ a,c.B a->∃ o,H a=some o
 cw:∀ a,c.I a->∃ o,H a=some o
 len:δ.length=σ.length
 slot:∀ (i:Nat) d,δ[i]? = some (some (.pure d))->∃ v,σ[i]? = some (some v)/\Rep H (Av c σ δ) v d
 own:∀ (i:Nat) d,δ[i]? = some (some (.own d))->∃ a,σ[i]? = some (some (.ref a))/\fR H (Av c σ δ) a d/\(c.I a\/c.H₀ a=none)/\¬ c.B a
 inj:∀ (i j:Nat) a d d',δ[i]? = some (some (.own d))->δ[j]? = some (some (.own d'))->σ[i]? = some (some (.ref a))->σ[j]? = some (some (.ref a))->i=j
 pinned:∀ p ∈ c.pin,σ[p.1]? = some (some (.ref p.2))
structure ay(c:Fc)(σ:St)(δ:Dl)(H:Hp)(σ':St)(δ':Dl)(H':Hp):Prop where
 ok:Ok c σ' δ' H'
 keep:∀ a o,H a=some o->¬ Own σ δ a->H' a=some o
 own:∀ a,Own σ' δ' a->Own σ δ a\/H a=none
 there:∀ a o,H a=some o->∃ o',H' a=some o'
section
variable {c:Fc} {σ σ' σ'':St} {δ δ' δ'':Dl} {H H' Bm:Hp} {v:V} {d:D} {a p:Addr}
theorem Ok.IJ(k:Ok c σ δ H)(h:c.B a):∃ o,H a=some o:=k.bd a h
theorem Ok.mV(k:Ok c σ δ H)(h:Own σ δ a):∃ o,H a=some o:=by
 obtain⟨i,d,e1,e2⟩:=h;obtain⟨b,e3,q,_⟩:=k.own i d e1;rw[e2] at e3; cases e3
 exact q.some
theorem Ok.rg(k:Ok c σ δ H)(h:Av c σ δ a):∃ o,H a=some o:=h.elim k.IJ k.mV
theorem Ok.gi(k:Ok c σ δ H)(h:H a=none):¬ Av c σ δ a:=λz=>by
 obtain⟨o,e⟩:=k.rg z;rw[h] at e; cases e
theorem ay.refl(k:Ok c σ δ H):ay c σ δ H σ δ H:=⟨k,λ_ _ e _=>e,λ_ h=>.inl h,λ_ o e=>⟨o,e⟩⟩
theorem ay.trans(x:ay c σ δ H σ' δ' H')(y:ay c σ' δ' H' σ'' δ'' Bm):ay c σ δ H σ'' δ'' Bm:=by
 refine⟨y.ok,λa o e n=>?_,λa h=>?_,λa o e=>?_⟩
 ·refine y.keep a o (x.keep a o e n) λz=>?_
  rcases x.own a z with q | q
  ·exact n q
  ·rw[q] at e; cases e
 ·rcases y.own a h with q | q
  ·exact x.own a q
  ·right
   cases e:H a with
   | none=>rfl
   | some o =>
    obtain⟨o',e'⟩:=x.there a o e;rw[q] at e'; cases e'
 ·obtain⟨o',e'⟩:=x.there a o e;exact y.there a o' e'
theorem ay.av(x:ay c σ δ H σ' δ' H'):∀ a,Av c σ' δ' a->Av c σ δ a\/H a=none:=λa h=>by
 rcases h with h | h
 ·exact .inl (.inl h)
 ·rcases x.own a h with q | q
  ·exact .inl (.inr q)
  ·exact .inr q
theorem Rep.dA(h:Rep H (Av c σ δ) v d)(x:ay c σ δ H σ' δ' H'):Rep H' (Av c σ' δ') v d:=by
 have h1:Rep H (λa=>Av c σ δ a\/Av c σ' δ' a) v d:=Rep.aJ h λa z=>z.elim .inl (x.av a)
 exact(h1.keep λa o e n=>x.keep a o e λz=>n (.inl (.inr z))).aJ λa z=>.inl (.inr z)
theorem ax.dA(h:ax H (Av c σ δ) vs ds)(x:ay c σ δ H σ' δ' H'):ax H' (Av c σ' δ') vs ds:=⟨h.1,λi v d e1 e2=>Rep.dA (h.2 i v d e1 e2) x⟩
def aM(c:Fc)(σ:St)(δ:Dl)(Hs H:Hp)(v:V):S->Prop
 | .pure d=>Rep H (Av c σ δ) v d
 | .own d=>∃ a,v = .ref a/\fR H (Av (c.plus a) σ δ) a d/\¬ c.B a/\c.H₀ a=none/\Ok (c.plus a) σ δ H/\Hs a=none
theorem rh(k:Ok (c.plus a) σ δ H):¬ Own σ δ a:=λ⟨i,d,e1,e2⟩=>by
 obtain⟨b,e3,_,_,n⟩:=k.own i d e1;rw[e2] at e3; cases e3
 exact n (.inr rfl)
theorem aM.rep(h:aM c σ δ Hs H v r):Rep H (Av c σ δ) v r.d:=by
 cases r with
 | pure d=>exact h
 | own d =>
  obtain⟨a,rfl,o,n,f,k,_⟩:=h;refine(o.aJ λb z=>.inl ?_).rep λz=>z.elim n (rh k)
  exact z.elim (λz=>.inl (.inl z)) .inr
theorem aM.back(h:aM c σ δ Hs H v r)(x:ay c σ₀ δ₀ H' σ' δ' Hs):aM c σ δ H' H v r:=by
 cases r with
 | pure d=>exact h
 | own d =>
  obtain⟨a,e,o,n,f,k,hs⟩:=h;refine⟨a,e,o,n,f,k,?_⟩
  cases q:H' a with
  | none=>rfl
  | some o =>
   obtain⟨o',e'⟩:=x.there a o q;rw[hs] at e'; cases e'
theorem aM.IK(h:aM c σ δ Hs H v r):aM c σ δ c.H₀ H v r:=by
 cases r with
 | pure d=>exact h
 | own d =>
  obtain⟨a,e,o,n,f,k,hs⟩:=h;exact⟨a,e,o,n,f,k,f⟩
theorem Ok.alloc(k:Ok c σ δ H)(hp:H p=none)(o:HO):Ok c σ δ (upd H p o):=by
 have up:∀ a w,H a=some w->upd H p o a=some w:=λa w e=>by
  rw[aQ (fD e hp)]; exact e
 refine⟨λa w e n=>up a w (k.keep a w e n),λa z=>(k.bd a z).elim λw e=>⟨w,up a w e⟩,λa z=>(k.cw a z).elim λw e=>⟨w,up a w e⟩,k.len,λi d e=>?_,λi d e=>?_,k.inj,k.pinned⟩
 ·obtain⟨v,e1,r⟩:=k.slot i d e;exact⟨v,e1,r.keep λa w q _=>up a w q⟩
 ·obtain⟨a,e1,r,q⟩:=k.own i d e;exact⟨a,e1,r.keep (λb w q _=>up b w q) λw q=>up a w q,q⟩
theorem ay.alloc(k:Ok c σ δ H)(hp:H p=none)(o:HO):ay c σ δ H σ δ (upd H p o):=by
 have up:∀ a w,H a=some w->upd H p o a=some w:=λa w e=>by
  rw[aQ (fD e hp)]; exact e
 exact⟨k.alloc hp o,λa w e _=>up a w e,λa h=>.inl h,λa w e=>⟨w,up a w e⟩⟩
theorem Ok.jX(k:Ok c σ δ H)(hp:H p=none):c.H₀ p=none:=by
 cases e:c.H₀ p with
 | none=>rfl
 | some o =>
  by_cases q:c.I p
  ·obtain⟨w,e'⟩:=k.cw p q;rw[hp] at e'; cases e'
  ·have:=k.keep p o e q;rw[hp] at this; cases this
theorem Ok.plus(k:Ok c σ δ H)(hp:H p=none)(o:HO):Ok (c.plus p) σ δ (upd H p o):=by
 have k':=k.alloc hp o;have sub:∀ b,Av (c.plus p) σ δ b->Av c σ δ b\/b=p:=λb z=>by
  rcases z with (z | z) | z
  ·exact .inl (.inl z)
  ·exact .inr z
  ·exact .inl (.inr z)
 have rj:∀ b,Av (c.plus p) σ δ b->Av c σ δ b\/H b=none:=λb z=>(sub b z).elim .inl λe=>.inr (by rw[e]; exact hp)
 have up:∀ a w,H a=some w->upd H p o a=some w:=λa w e=>by
  rw[aQ (fD e hp)]; exact e
 refine⟨k'.keep,λa z=>?_,k'.cw,k.len,λi d e=>?_,λi d e=>?_,k.inj,k.pinned⟩
 ·rcases z with z | z
  ·exact k'.bd a z
  ·exact⟨o,by rw[z]; exact b7⟩
 ·obtain⟨v,e1,r⟩:=k.slot i d e;exact⟨v,e1,(r.aJ rj).keep λa w q _=>up a w q⟩
 ·obtain⟨a,e1,r,q,nb⟩:=k.own i d e;refine⟨a,e1,(r.aJ rj).keep (λb w q _=>up b w q) (λw q=>up a w q),q,λz=>?_⟩;rcases z with z | z
  ·exact nb z
  ·obtain⟨w,ew⟩:=r.some;rw[z,hp] at ew; cases ew
theorem aM.mW(k:Ok c σ δ H)(r:ax H (Av c σ δ) vs ds)(hp:H p=none):aM c σ δ H (upd H p (.lst vs)) (.ref p) (.own (.lst ds)):=by
 have up:∀ a w,H a=some w->upd H p (.lst vs) a=some w:=λa w e=>by
  rw[aQ (fD e hp)]; exact e
 refine⟨p,rfl,⟨vs,b7,?_⟩,λz=>k.gi hp (.inl z),k.jX hp,k.plus hp _,hp⟩;have r1:ax H (Av (c.plus p) σ δ) vs ds:=ax.aJ r λb z=>by
  rcases z with (z | z) | z
  ·exact .inl (.inl z)
  ·exact .inr (by rw[z]; exact hp)
  ·exact .inl (.inr z)
 exact ax.keep r1 λb w e _=>up b w e
theorem aM.mX(k:Ok c σ δ H)(r:ax H (Av c σ δ) vs ds)(hp:H p=none):aM c σ δ H (upd H p (.tup vs)) (.ref p) (.pure (.tup ds)):=by
 have up:∀ a w,H a=some w->upd H p (.tup vs) a=some w:=λa w e=>by
  rw[aQ (fD e hp)]; exact e
 have r1:=ax.keep r (H':=upd H p (.tup vs)) λb w e _=>up b w e
 exact .tup (k.gi hp) b7 r1.1 r1.2
end
inductive Rs (α:Type) where
 | ok (a:α) (δ:Dl)
 | exc (x:Xc) (δ:Dl)
 | stuck
def Rs.bind{α β:Type}(r:Rs α)(f:α->Dl->Rs β):Rs β:=match r with
 | .ok a δ=>f a δ
 | .exc x δ=>.exc x δ
 | .stuck=>.stuck
abbrev DE:=Dl->Rs S
def XC(c:Fc)(x:Xc)(δ:Dl):Prop:=c.xc x δ
def post{α:Type}(c:Fc)(r:Rs α)(k:α->Dl->Prop):Prop:=match r with
 | .ok a δ=>k a δ
 | .exc x δ=>XC c x δ
 | .stuck=>False
theorem aX:post c (r.bind f) k ↔ post c r λa δ=>post c (f a δ) k:=by
 cases r <;> exact Iff.rfl
theorem aL(h:post c r k)(m:∀ a δ,k a δ->k' a δ):post c r k':=by
 cases r with
 | ok a δ=>exact m a δ h
 | exc x δ=>exact h
 | stuck=>exact h
def tD(c:Fc)(f:DE):TE:=λσ H Q=>∃ δ,Ok c σ δ H/\post c (f δ) λr δ'=>∀ v H',ay c σ δ H σ δ' H'->aM c σ δ' H H' v r->Q v H'
abbrev SE(X:Cx)(c:Fc)(e:Expr)(f:DE):Prop:=PE X e (tD c f)
def cT(c:Fc)(σ:St)(δ:Dl)(H:Hp)(v:V)(d:D):Prop:=Rep H (Av c σ δ) v d\/∃ a,v = .ref a/\fR H (Av c σ δ) a d
abbrev BE:=Dl->Rs D
def tB(c:Fc)(f:BE):TE:=λσ H Q=>∃ δ,Ok c σ δ H/\post c (f δ) λd δ'=>∀ v H',ay c σ δ H σ δ' H'->cT c σ δ' H' v d->Q v H'
abbrev SB(X:Cx)(c:Fc)(e:Expr)(f:BE):Prop:=PE X e (tB c f)
theorem PE.weak(h:PE X e t)(w:∀ σ H Q,t' σ H Q->t σ H Q):PE X e t':=λpins s σ H Q I q=>h pins s σ H Q I (w σ H Q q)
def aw(f:DE):BE:=λδ=>(f δ).bind λr δ'=>.ok r.d δ'
theorem aM.b(h:aM c σ δ Hs H v r):cT c σ δ H v r.d:=.inl h.rep
theorem aN{X:Cx}{c:Fc}{e:Expr}{f:DE}(h:SE X c e f):SB X c e (aw f):=PE.weak h λσ H Q ⟨δ,k,p⟩=>⟨δ,k,by
 unfold aw at p;rw[aX] at p;exact aL p λr δ' q v H' a s=>q v H' a s.b⟩
def ao(i:Nat):BE:=λδ=>match δ[i]? with
 | some (some r)=>.ok r.d δ
 | _=>.stuck
def ae(i:Nat):DE:=λδ=>match δ[i]? with
 | some (some (.pure d))=>.ok (.pure d) δ
 | some (some (.own d))=>.ok (.pure d) (δ.set i (some (.pure d)))
 | _=>.stuck
def eD(d:D):DE:=λδ=>.ok (.pure d) δ
section
variable {X:Cx} {c:Fc}
theorem bB{i:Nat}{e:Expr}(h:PE X e (cY i)):SB X c e (ao i):=PE.weak h λσ H Q ⟨δ,k,p⟩=>by
 unfold ao at p
 cases e:δ[i]? with
 | none=>rw[e] at p; exact p.elim
 | some o =>
  cases o with
  | none=>rw[e] at p; exact p.elim
  | some r =>
   rw[e] at p
   cases r with
   | pure d =>
    obtain⟨v,e1,r⟩:=k.slot i d e;exact⟨v,e1,p v H (.refl k) (.inl r)⟩
   | own d =>
    obtain⟨a,e1,r,_⟩:=k.own i d e;exact⟨.ref a,e1,p _ H (.refl k) (.inr ⟨a,rfl,r⟩)⟩
theorem Own.sub(h:Own σ (δ.set i (some (.pure d))) a):Own σ δ a:=by
 obtain⟨j,d',e1,e2⟩:=h;by_cases hj:i=j
 ·subst hj;rw[WM] at e1;simp at e1
 ·rw[W7 hj] at e1;exact⟨j,d',e1,e2⟩
theorem Ok.give(k:Ok c σ δ H)(e:δ[i]? = some (some (.own d))) :
  ∃ a,σ[i]? = some (some (.ref a))/\ay c σ δ H σ (δ.set i (some (.pure d))) H/\Rep H (Av c σ (δ.set i (some (.pure d)))) (.ref a) d:=by
 obtain⟨a,e1,r,q,nb⟩:=k.own i d e;have hi:i < δ.length:=(We.mp e).1;have sub:∀ b,Av c σ (δ.set i (some (.pure d))) b->Av c σ δ b:=λb z=>z.elim .inl λz=>.inr z.sub
 have na:¬ Av c σ (δ.set i (some (.pure d))) a:=by
  rintro (z | ⟨j,d',f1,f2⟩)
  ·exact nb z
  ·by_cases hj:i=j
   ·subst hj;rw[WM] at f1;simp at f1
   ·rw[W7 hj] at f1;exact hj (k.inj i j a d d' e f1 e1 f2)
 have rep:Rep H (Av c σ (δ.set i (some (.pure d)))) (.ref a) d:=(r.aJ λb z=>.inl (sub b z)).rep na;refine⟨a,e1,⟨⟨k.keep,k.bd,k.cw,by rw[Qj]; exact k.len,λj d' f=>?_,λj d' f=>?_,λj l b d1 d2 f1 f2=>?_,k.pinned⟩,λ_ _ w _=>w,λb z=>.inl z.sub,λ_ o w=>⟨o,w⟩⟩,rep⟩
 ·by_cases hj:i=j
  ·subst hj;rw[Wk hi] at f
   cases f;exact⟨.ref a,e1,rep⟩
  ·rw[W7 hj] at f;obtain⟨v,g1,g2⟩:=k.slot j d' f;exact⟨v,g1,g2.aJ λb z=>.inl (sub b z)⟩
 ·by_cases hj:i=j
  ·subst hj;rw[Wk hi] at f
   cases f
  ·rw[W7 hj] at f;obtain⟨b,g1,g2,g3⟩:=k.own j d' f;exact⟨b,g1,g2.aJ λb z=>.inl (sub b z),g3⟩
 ·have h1:δ[j]? = some (some (.own d1)):=by
   by_cases hj:i=j
   ·subst hj; rw[Wk hi] at f1; cases f1
   ·rw[W7 hj] at f1; exact f1
  have h2:δ[l]? = some (some (.own d2)):=by
   by_cases hj:i=l
   ·subst hj; rw[Wk hi] at f2; cases f2
   ·rw[W7 hj] at f2; exact f2
  exact k.inj j l b d1 d2 h1 h2
theorem aZ{i:Nat}{e:Expr}(h:PE X e (cY i)):SE X c e (ae i):=PE.weak h λσ H Q ⟨δ,k,p⟩=>by
 unfold ae at p
 cases e:δ[i]? with
 | none=>rw[e] at p; exact p.elim
 | some o =>
  cases o with
  | none=>rw[e] at p; exact p.elim
  | some r =>
   rw[e] at p
   cases r with
   | pure d =>
    obtain⟨v,e1,r⟩:=k.slot i d e;exact⟨v,e1,p v H (.refl k) r⟩
   | own d =>
    obtain⟨a,e1,x,r⟩:=k.give e;exact⟨.ref a,e1,p _ H x r⟩
theorem aR{i j pos}:SE X c (.Constant (.int i) j pos) (eD (.int i)):=PE.weak FF λσ H Q ⟨δ,k,p⟩=>p _ H (.refl k) (.int i)
theorem jY{b j pos}:SE X c (.Constant (.bool b) j pos) (eD (.bl b)):=PE.weak tW λσ H Q ⟨δ,k,p⟩=>p _ H (.refl k) (.bl b)
theorem uO{j pos}:SE X c (.Constant .none j pos) (eD .aq):=PE.weak FG λσ H Q ⟨δ,k,p⟩=>p _ H (.refl k) .aq
theorem kR{x j pos}(y:Tx)(h:x=toS y:=by decide +kernel):SE X c (.Constant (.str x) j pos) (eD (.str y)):=by
 subst h;exact PE.weak zQ λσ H Q ⟨δ,k,p⟩=>p _ H (.refl k) (.str y)
end
open PySem PySem.Spec PyProof.Rows L2 PySem.SeqAt
mutual
def az:D->D->Bool
 | .aq,.aq=>true
 | .bl a,.bl b=>a == b
 | .int a,.int b=>a == b
 | .bl a,.int b=>(if a then 1 else 0) == b
 | .int a,.bl b=>a == (if b then 1 else 0)
 | .str a,.str b=>a == b
 | .tup xs,.tup ys=>gj xs ys
 | .lst xs,.lst ys=>gj xs ys
 | _,_=>false
def gj:List D->List D->Bool
 | [],[]=>true
 | x :: xs,y :: ys=>az x y && gj xs ys
 | _,_=>false
end
mutual
def flat:Nat->D->Bool
 | _,.aq=>true
 | _,.bl _=>true
 | _,.int _=>true
 | _,.str _=>true
 | 0,.tup _=>false
 | n + 1,.tup xs=>hJ n xs
 | 0,.lst _=>false
 | n + 1,.lst xs=>hJ n xs
 | _,.aB _=>false
 | _,.exc _ _=>false
 | _,.xd _=>false
 | _,.fn _=>false
def hJ:Nat->List D->Bool
 | _,[]=>true
 | n,x :: xs=>flat n x && hJ n xs
end
example:az (.tup [.int 1,.str [2]]) (.tup [.int 1,.str [2]])=true:=by decide +kernel
theorem lX:∀ {xs:List D} {x:D},hJ n xs=true->x ∈ xs->flat n x=true
 | [],_,_,h=>by simp at h
 | y :: ys,x,h,hm=>by
  simp only[hJ,Ws] at h;rcases Wh.mp hm with e | hm
  ·rw[e]; exact h.1
  ·exact lX h.2 hm
theorem rm:∀ {xs ys:List D} {f:Nat->Bool},xs.length=ys.length->(∀ (j:Nat) x y,xs[j]? = some x->ys[j]? = some y->f j=az x y)->(Wp xs.length).all f=gj xs ys
 | [],[],f,_,_=>rfl
 | [],y :: ys,f,h,_=>by simp at h
 | x :: xs,[],f,h,_=>by simp at h
 | x :: xs,y :: ys,f,h,hf=>by
  simp only[gj];rw[WE,Ji,JS,hf 0 x y rfl rfl,List.all_map];rw[<- rm (f:=λj=>f (j + 1)) (by simpa using h) (λj a b e1 e2=>hf (j + 1) a b (by simpa using e1) (by simpa using e2))];rfl
theorem rn:∀ {xs ys:List D},xs.length≠ys.length->gj xs ys=false
 | [],[],h=>absurd rfl h
 | [],y :: ys,_=>rfl
 | x :: xs,[],_=>rfl
 | x :: xs,y :: ys,h=>by
  simp only[gj];rw[rn (xs:=xs) (ys:=ys) (by intro e; exact h (by simp[e]))];simp
mutual
theorem oV:∀ {n:Nat} {d:D},flat n d=true->az d d=true
 | _,.aq,_=>rfl
 | _,.bl b,_=>by simp[az]
 | _,.int i,_=>by simp[az]
 | _,.str x,_=>by simp[az]
 | 0,.tup xs,h=>by simp[flat] at h
 | n + 1,.tup xs,h=>by simp only[az]; exact uP (n:=n) (by simpa[flat] using h)
 | 0,.lst xs,h=>by simp[flat] at h
 | n + 1,.lst xs,h=>by simp only[az]; exact uP (n:=n) (by simpa[flat] using h)
 | _,.aB xs,h=>by simp[flat] at h
 | _,.exc n _,h=>by simp[flat] at h
 | _,.xd n,h=>by simp[flat] at h
theorem uP:∀ {n:Nat} {ds:List D},hJ n ds=true->gj ds ds=true
 | _,[],_=>rfl
 | n,x :: xs,h=>by
  simp only[hJ,Ws] at h;simp only[gj];rw[oV h.1,uP h.2];rfl
end
abbrev cZ:Addr->Prop:=λ_=>False
theorem Rep.un(h:Rep H O v d):Rep H cZ v d:=Rep.aJ h λ_ z=>z.elim
theorem cT.un(h:cT c σ δ H v d):Rep H cZ v d:=by
 rcases h with h | ⟨a,rfl,o⟩
 ·exact Rep.un h
 ·exact(o.aJ (O':=cZ) λ_ z=>z.elim).rep λz=>z
section
variable {X:Cx} {pins:List (Addr×Obj)} {σ:St} {H:Hp} {s:W2}
theorem Inv.gm(I:Inv X pins σ H s)(h:Rd H a (.lst vs)):∃ aa:List Value,Vals vs aa/\s.heap.IsList a aa.toArray:=by
 obtain⟨aa,r,p,_⟩:=I.list (.inl h);exact⟨aa,r,p.isList⟩
theorem Inv.gn(I:Inv X pins σ H s)(h:H a=some (.tup vs)):∃ aa:List Value,Vals vs aa/\s.heap.IsTuple a aa.toArray:=by
 obtain⟨aa,r,p,_⟩:=I.tuple (.of h);exact⟨aa,r,p⟩
theorem uQ(x y:Tx):((toS x:Str) == toS y)=(x == y):=by
 rw[Bool.eq_iff_iff];simp only[beq_iff_eq];exact⟨oU,λe=>by rw[e]⟩
theorem IL(A:Wl):A.in1.units=A.units + 1:=rfl
theorem Rd.inj(h:Rd H a u)(k:Rd H a w)(hu:∀ o z,u≠.frz o z)(hw:∀ o z,w≠.frz o z):u=w:=by
 rcases h with h | ⟨o,h⟩ <;> rcases k with k | ⟨o',k⟩
 ·rw[h] at k; exact WB k
 ·rw[h] at k; exact absurd (WB k) (hu _ _)
 ·rw[h] at k; exact absurd (WB k).symm (hw _ _)
 ·rw[h] at k;have:=WB k;injection this
theorem ax.inj{vs:List V}:∀ {ds es:List D},vs.length=ds.length->vs.length=es.length->(∀ (i:Nat) v d e,vs[i]? = some v->ds[i]? = some d->es[i]? = some e->d=e)->ds=es:=by
 intro ds es h1 h2 h;apply JO;intro i;by_cases hi:i < vs.length
 ·have a1:i < ds.length:=by omega
  have a2:i < es.length:=by omega
  rw[Wt a1,Wt a2];rw[h i vs[i] ds[i] es[i] (by simp[hi]) (by simp[a1]) (by simp[a2])]
 ·rw[WV (by omega),WV (by omega)]
theorem Rep.inj{O:Addr->Prop}{v:V}{d:D}(h:Rep H O v d):∀ {n:Nat} {e:D},flat n d=true->flat n e=true->Rep H O v e->d=e:=by
 induction h with
 | aq=>intro n e _ _ k; cases k; rfl
 | bl b=>intro n e _ _ k; cases k; rfl
 | int i=>intro n e _ _ k; cases k; rfl
 | str x =>
  intro n e _ _ k;generalize hz:V.str (toS x)=z at k
  cases k with
  | str y=>injection hz with hz; rw[oU hz]
  | _=>cases hz
 | @tup a vs ds h1 h2 h3 h4 ih =>
  intro n e fd fe k
  cases n with
  | zero=>simp[flat] at fd
  | succ n =>
   simp only[flat] at fd
   cases k with
   | @tup _ ws es k1 k2 k3 k4 =>
    simp only[flat] at fe;have e1:=Rd.inj (.inl h2) (.inl k2) (λ_ _ z=>by cases z) (λ_ _ z=>by cases z);injection e1 with e1
    subst e1;rw[ax.inj h3 k3 λi v d e q1 q2 q3=>ih i v d q1 q2 (lX fd (WW q2)) (lX fe (WW q3)) (k4 i v e q1 q3)]
   | lst k1 k2=>exact absurd (Rd.inj (.inl h2) k2 (λ_ _ z=>by cases z) (λ_ _ z=>by cases z)) (λz=>by cases z)
   | aB k1 k2=>exact absurd (Rd.inj (.inl h2) (.inl k2) (λ_ _ z=>by cases z) (λ_ _ z=>by cases z)) (λz=>by cases z)
   | exc k1 k2=>simp[flat] at fe
   | xd k1 k2=>simp[flat] at fe
   | fn _=>simp[flat] at fe
 | @lst a vs ds h1 h2 h3 h4 ih =>
  intro n e fd fe k
  cases n with
  | zero=>simp[flat] at fd
  | succ n =>
   simp only[flat] at fd
   cases k with
   | @lst _ ws es k1 k2 k3 k4 =>
    simp only[flat] at fe;have e1:=Rd.inj h2 k2 (λ_ _ z=>by cases z) (λ_ _ z=>by cases z);injection e1 with e1
    subst e1;rw[ax.inj h3 k3 λi v d e q1 q2 q3=>ih i v d q1 q2 (lX fd (WW q2)) (lX fe (WW q3)) (k4 i v e q1 q3)]
   | tup k1 k2=>exact absurd (Rd.inj h2 (.inl k2) (λ_ _ z=>by cases z) (λ_ _ z=>by cases z)) (λz=>by cases z)
   | aB k1 k2=>exact absurd (Rd.inj h2 (.inl k2) (λ_ _ z=>by cases z) (λ_ _ z=>by cases z)) (λz=>by cases z)
   | exc k1 k2=>simp[flat] at fe
   | xd k1 k2=>simp[flat] at fe
   | fn _=>simp[flat] at fe
 | aB h1 h2 h3 h4 ih =>
  intro n e fd _ _
  cases n <;> simp[flat] at fd
 | exc h1 h2 =>
  intro n e fd _ _
  cases n <;> simp[flat] at fd
 | xd h1 h2 =>
  intro n e fd _ _
  cases n <;> simp[flat] at fd
 | fn _ =>
  intro n e fd _ _
  cases n <;> simp[flat] at fd
def uR(H:Hp)(s:W2)(n:Nat):Prop:=∀ (A:Wl) (x y:V) (u w:Value) (d e:D),A.units + n + 1 < Qi->flat n d=true->flat n e=true->Rep H cZ x d->Rep H cZ y e->RelV x u->RelV y w->EqAt A s u w (az d e)
def lY(H:Hp)(s:W2)(A:Wl)(n:Nat):Prop:=match n with
 | 0=>True
 | m + 1=>A.units + m + 2 < Qi/\uR H s m
def rA(ds es:List D)(j:Nat):Bool:=match ds[j]?,es[j]? with
 | some p,some q=>az p q
 | _,_=>false
theorem rB(j:Nat)(p q:D)(e1:ds[j]? = some p)(e2:es[j]? = some q):rA ds es j=az p q:=by unfold rA; rw[e1,e2]
theorem rC{n:Nat}{A:Wl}{vs ws:List V}{ds es:List D}{aa gp:List Value}(hu:A.units + n + 2 < Qi)(ih:uR H s n)(r1:Vals vs aa)(r2:Vals ws gp)(l1:vs.length=ds.length)(l2:ws.length=es.length)
  (g1:∀ (i:Nat) v d,vs[i]? = some v->ds[i]? = some d->Rep H cZ v d) (g2:∀ (i:Nat) v d,ws[i]? = some v->es[i]? = some d->Rep H cZ v d) (f1:hJ n ds=true) (f2:hJ n es=true) :
  ∀ j (h1:j < aa.toArray.size) (h2:j < gp.toArray.size),EqAt A.in1 s aa.toArray[j] gp.toArray[j] (rA ds es j):=by
 intro j h1 h2;have e1:=r1.length;have e2:=r2.length;simp at h1 h2;have hd:j < ds.length:=by omega
 have he:j < es.length:=by omega
 have hv:j < vs.length:=by omega
 have hw:j < ws.length:=by omega
 obtain⟨u',oW,ru'⟩:=r1.get (i:=j) (x:=vs[j]) (by simp[hv]);obtain⟨w',hw',rw''⟩:=r2.get (i:=j) (x:=ws[j]) (by simp[hw]);have eu:aa.toArray[j]=u':=by simpa[h1] using oW
 have ew:gp.toArray[j]=w':=by simpa[h2] using hw'
 rw[eu,ew,rB j ds[j] es[j] (by simp[hd]) (by simp[he])];exact ih A.in1 vs[j] ws[j] u' w' ds[j] es[j] (by rw[IL]; omega) (lX f1 (Jq hd)) (lX f2 (Jq he)) (g1 j _ _ (by simp[hv]) (by simp[hd])) (g2 j _ _ (by simp[hw]) (by simp[he])) ru' rw''
theorem Bn(h1:n=ds.length)(h2:m=es.length):((Wp (min n m)).all (rA ds es) && n == m)=gj ds es:=by
 subst h1 h2;by_cases hl:ds.length=es.length
 ·rw[<- hl,Nat.min_self,rm hl rB];simp
 ·rw[rn hl];simp[hl]
theorem IM(I:Inv X pins σ H s)(n:Nat)(A:Wl)(bu:A.units < Qi)(t1:s.heap.IsTuple a aa.toArray)(t2:s.heap.IsTuple b gp.toArray)(r1:Vals vs aa)(r2:Vals ws gp)(l1:vs.length=ds.length)(l2:ws.length=es.length)
  (g1:∀ (i:Nat) v d,vs[i]? = some v->ds[i]? = some d->Rep H cZ v d) (g2:∀ (i:Nat) v d,ws[i]? = some v->es[i]? = some d->Rep H cZ v d) (f1:flat n (.tup ds)=true) (f2:flat n (.tup es)=true) (ih:lY H s A n) :
  RcAt A s (.ref a) (.ref b) (gj ds es):=by
 cases n with
 | zero=>simp[flat] at f1
 | succ n =>
  simp only[flat] at f1 f2;obtain⟨hu,ih⟩:=ih;have q:=RcAt.tuples (A:=A) (s:=s) t1 t2 bu (rC hu ih r1 r2 l1 l2 g1 g2 f1 f2);rw[Bn (by have:=r1.length; simp; omega) (by have:=r2.length; simp; omega)] at q;exact q
theorem IP(I:Inv X pins σ H s)(n:Nat)(A:Wl)(bu:A.units < Qi)(t1:s.heap.IsTuple a aa.toArray)(t2:s.heap.IsTuple b gp.toArray)(r1:Vals vs aa)(r2:Vals ws gp)(l1:vs.length=ds.length)(l2:ws.length=es.length)
  (g1:∀ (i:Nat) v d,vs[i]? = some v->ds[i]? = some d->Rep H cZ v d) (g2:∀ (i:Nat) v d,ws[i]? = some v->es[i]? = some d->Rep H cZ v d) (f1:flat n (.tup ds)=true) (f2:flat n (.tup es)=true) (ih:lY H s A n) :
  RcNeAt A s (.ref a) (.ref b) (!gj ds es):=by
 cases n with
 | zero=>simp[flat] at f1
 | succ n =>
  simp only[flat] at f1 f2;obtain⟨hu,ih⟩:=ih;have q:=RcNeAt.tuples (A:=A) (s:=s) t1 t2 bu (rC hu ih r1 r2 l1 l2 g1 g2 f1 f2);rw[Bn (by have:=r1.length; simp; omega) (by have:=r2.length; simp; omega)] at q;exact q
theorem IQ(I:Inv X pins σ H s)(n:Nat)(A:Wl)(bu:A.units < Qi)(t1:s.heap.IsList a aa.toArray)(t2:s.heap.IsList b gp.toArray)(r1:Vals vs aa)(r2:Vals ws gp)(l1:vs.length=ds.length)(l2:ws.length=es.length)
  (g1:∀ (i:Nat) v d,vs[i]? = some v->ds[i]? = some d->Rep H cZ v d) (g2:∀ (i:Nat) v d,ws[i]? = some v->es[i]? = some d->Rep H cZ v d) (f1:flat n (.lst ds)=true) (f2:flat n (.lst es)=true) (ih:lY H s A n) :
  RcAt A s (.ref a) (.ref b) (gj ds es):=by
 cases n with
 | zero=>simp[flat] at f1
 | succ n =>
  simp only[flat] at f1 f2;obtain⟨hu,ih⟩:=ih;have z1:aa.toArray.size=ds.length:=by have:=r1.length; simp; omega
  have z2:gp.toArray.size=es.length:=by have:=r2.length; simp; omega
  by_cases hl:ds.length=es.length
  ·have q:=RcAt.lists (A:=A) (s:=s) t1 t2 (by rw[z1,z2]; exact hl) bu (rC hu ih r1 r2 l1 l2 g1 g2 f1 f2);rw[z1,rm hl rB] at q;exact q
  ·rw[rn hl];exact RcAt.lists_lengths (A:=A) (s:=s) t1 t2 (by rw[z1,z2]; simpa using hl) bu
theorem IS(I:Inv X pins σ H s)(n:Nat)(A:Wl)(bu:A.units < Qi)(t1:s.heap.IsList a aa.toArray)(t2:s.heap.IsList b gp.toArray)(r1:Vals vs aa)(r2:Vals ws gp)(l1:vs.length=ds.length)(l2:ws.length=es.length)
  (g1:∀ (i:Nat) v d,vs[i]? = some v->ds[i]? = some d->Rep H cZ v d) (g2:∀ (i:Nat) v d,ws[i]? = some v->es[i]? = some d->Rep H cZ v d) (f1:flat n (.lst ds)=true) (f2:flat n (.lst es)=true) (ih:lY H s A n) :
  RcNeAt A s (.ref a) (.ref b) (!gj ds es):=by
 cases n with
 | zero=>simp[flat] at f1
 | succ n =>
  simp only[flat] at f1 f2;obtain⟨hu,ih⟩:=ih;have z1:aa.toArray.size=ds.length:=by have:=r1.length; simp; omega
  have z2:gp.toArray.size=es.length:=by have:=r2.length; simp; omega
  by_cases hl:ds.length=es.length
  ·have q:=RcNeAt.lists (A:=A) (s:=s) t1 t2 (by rw[z1,z2]; exact hl) bu (rC hu ih r1 r2 l1 l2 g1 g2 f1 f2);rw[z1,rm hl rB] at q;exact q
  ·rw[rn hl];exact RcNeAt.lists_lengths (A:=A) (s:=s) t1 t2 (by rw[z1,z2]; simpa using hl) bu
theorem uS(I:Inv X pins σ H s)(n:Nat)(A:Wl)(x y:V)(u w:Value)(d e:D)(bu:A.units < Qi)(fd:flat n d=true)(fe:flat n e=true)(ih:lY H s A n)(rx:Rep H cZ x d)(ry:Rep H cZ y e)(ru:RelV x u)(aD:RelV y w):RcAt A s u w (az d e):=by
 cases rx with
 | aq =>
  cases ru
  cases ry with
  | aq =>
   cases aD;simp only[az]; exact RcAt.none_none
  | bl q =>
   cases aD;simp only[az]; exact RcAt.none_bool _
  | int q =>
   obtain⟨t2,rfl⟩:=aD;simp only[az]; exact RcAt.none_int _ _
  | str q =>
   obtain⟨t2,rfl⟩:=aD;simp only[az]; exact RcAt.none_str _ _
  | tup k1 k2 k3 k4 =>
   cases aD; obtain⟨its2,r2,t2⟩:=Inv.gn I k2
   simp only[az]; exact RcAt.none_tuple t2 bu
  | lst k1 k2 k3 k4 =>
   cases aD; obtain⟨its2,r2,t2⟩:=Inv.gm I k2
   simp only[az]; exact RcAt.none_list t2 bu
  | aB k1 k2 k3 k4=>(cases n <;> simp[flat] at fe)
  | exc k1 k2=>(cases n <;> simp[flat] at fe)
  | xd k1 k2=>(cases n <;> simp[flat] at fe)
  | fn _=>(cases n <;> simp[flat] at fe)
 | bl p =>
  cases ru
  cases ry with
  | aq =>
   cases aD;simp only[az]; exact RcAt.bool_none _
  | bl q =>
   cases aD;simp only[az]; exact RcAt.bool_bool _ _
  | int q =>
   obtain⟨t2,rfl⟩:=aD;simp only[az]; exact RcAt.bool_int _ _ _
  | str q =>
   obtain⟨t2,rfl⟩:=aD;simp only[az]; exact RcAt.bool_str _ _ _
  | tup k1 k2 k3 k4 =>
   cases aD; obtain⟨its2,r2,t2⟩:=Inv.gn I k2
   simp only[az]; exact RcAt.bool_tuple _ t2 bu
  | lst k1 k2 k3 k4 =>
   cases aD; obtain⟨its2,r2,t2⟩:=Inv.gm I k2
   simp only[az]; exact RcAt.bool_list _ t2 bu
  | aB k1 k2 k3 k4=>(cases n <;> simp[flat] at fe)
  | exc k1 k2=>(cases n <;> simp[flat] at fe)
  | xd k1 k2=>(cases n <;> simp[flat] at fe)
  | fn _=>(cases n <;> simp[flat] at fe)
 | int p =>
  obtain⟨t1,rfl⟩:=ru
  cases ry with
  | aq =>
   cases aD;simp only[az]; exact RcAt.int_none _ _
  | bl q =>
   cases aD;simp only[az]; exact RcAt.int_bool _ _ _
  | int q =>
   obtain⟨t2,rfl⟩:=aD;simp only[az]; exact RcAt.int_int _ _ _ _
  | str q =>
   obtain⟨t2,rfl⟩:=aD;simp only[az]; exact RcAt.int_str _ _ _ _
  | tup k1 k2 k3 k4 =>
   cases aD; obtain⟨its2,r2,t2⟩:=Inv.gn I k2
   simp only[az]; exact RcAt.int_tuple _ _ t2 bu
  | lst k1 k2 k3 k4 =>
   cases aD; obtain⟨its2,r2,t2⟩:=Inv.gm I k2
   simp only[az]; exact RcAt.int_list _ _ t2 bu
  | aB k1 k2 k3 k4=>(cases n <;> simp[flat] at fe)
  | exc k1 k2=>(cases n <;> simp[flat] at fe)
  | xd k1 k2=>(cases n <;> simp[flat] at fe)
  | fn _=>(cases n <;> simp[flat] at fe)
 | str p =>
  obtain⟨t1,rfl⟩:=ru
  cases ry with
  | aq =>
   cases aD;simp only[az]; exact RcAt.str_none _ _
  | bl q =>
   cases aD;simp only[az]; exact RcAt.str_bool _ _ _
  | int q =>
   obtain⟨t2,rfl⟩:=aD;simp only[az]; exact RcAt.str_int _ _ _ _
  | str q =>
   obtain⟨t2,rfl⟩:=aD;simp only[az]; rw[<- uQ]; exact RcAt.str_str _ _ _ _
  | tup k1 k2 k3 k4 =>
   cases aD; obtain⟨its2,r2,t2⟩:=Inv.gn I k2
   simp only[az]; exact RcAt.str_tuple _ _ t2 bu
  | lst k1 k2 k3 k4 =>
   cases aD; obtain⟨its2,r2,t2⟩:=Inv.gm I k2
   simp only[az]; exact RcAt.str_list _ _ t2 bu
  | aB k1 k2 k3 k4=>(cases n <;> simp[flat] at fe)
  | exc k1 k2=>(cases n <;> simp[flat] at fe)
  | xd k1 k2=>(cases n <;> simp[flat] at fe)
  | fn _=>(cases n <;> simp[flat] at fe)
 | tup h1 h2 h3 h4 =>
  cases ru; obtain⟨its1,r1,t1⟩:=Inv.gn I h2
  cases ry with
  | aq =>
   cases aD;simp only[az]; exact RcAt.tuple_none t1 bu
  | bl q =>
   cases aD;simp only[az]; exact RcAt.tuple_bool _ t1 bu
  | int q =>
   obtain⟨t2,rfl⟩:=aD;simp only[az]; exact RcAt.tuple_int _ _ t1 bu
  | str q =>
   obtain⟨t2,rfl⟩:=aD;simp only[az]; exact RcAt.tuple_str _ _ t1 bu
  | tup k1 k2 k3 k4 =>
   cases aD; obtain⟨its2,r2,t2⟩:=Inv.gn I k2
   simp only[az]; exact IM I n A bu t1 t2 r1 r2 h3 k3 h4 k4 fd fe ih
  | lst k1 k2 k3 k4 =>
   cases aD; obtain⟨its2,r2,t2⟩:=Inv.gm I k2
   simp only[az]; exact RcAt.tuple_list t1 t2 bu
  | aB k1 k2 k3 k4=>(cases n <;> simp[flat] at fe)
  | exc k1 k2=>(cases n <;> simp[flat] at fe)
  | xd k1 k2=>(cases n <;> simp[flat] at fe)
  | fn _=>(cases n <;> simp[flat] at fe)
 | lst h1 h2 h3 h4 =>
  cases ru; obtain⟨its1,r1,t1⟩:=Inv.gm I h2
  cases ry with
  | aq =>
   cases aD;simp only[az]; exact RcAt.list_none t1 bu
  | bl q =>
   cases aD;simp only[az]; exact RcAt.list_bool _ t1 bu
  | int q =>
   obtain⟨t2,rfl⟩:=aD;simp only[az]; exact RcAt.list_int _ _ t1 bu
  | str q =>
   obtain⟨t2,rfl⟩:=aD;simp only[az]; exact RcAt.list_str _ _ t1 bu
  | tup k1 k2 k3 k4 =>
   cases aD; obtain⟨its2,r2,t2⟩:=Inv.gn I k2
   simp only[az]; exact RcAt.list_tuple t1 t2 bu
  | lst k1 k2 k3 k4 =>
   cases aD; obtain⟨its2,r2,t2⟩:=Inv.gm I k2
   simp only[az]; exact IQ I n A bu t1 t2 r1 r2 h3 k3 h4 k4 fd fe ih
  | aB k1 k2 k3 k4=>(cases n <;> simp[flat] at fe)
  | exc k1 k2=>(cases n <;> simp[flat] at fe)
  | xd k1 k2=>(cases n <;> simp[flat] at fe)
  | fn _=>(cases n <;> simp[flat] at fe)
 | aB h1 h2 h3 h4=>(cases n <;> simp[flat] at fd)
 | exc h1 h2=>(cases n <;> simp[flat] at fd)
 | xd h1 h2=>(cases n <;> simp[flat] at fd)
 | fn _=>(cases n <;> simp[flat] at fd)
theorem IT(I:Inv X pins σ H s)(n:Nat)(A:Wl)(x y:V)(u w:Value)(d e:D)(bu:A.units < Qi)(fd:flat n d=true)(fe:flat n e=true)(ih:lY H s A n)(rx:Rep H cZ x d)(ry:Rep H cZ y e)(ru:RelV x u)(aD:RelV y w):RcNeAt A s u w (!az d e):=by
 cases rx with
 | aq =>
  cases ru
  cases ry with
  | aq =>
   cases aD;simp only[az]; exact RcNeAt.none_none
  | bl q =>
   cases aD;simp only[az]; exact RcNeAt.none_bool _
  | int q =>
   obtain⟨t2,rfl⟩:=aD;simp only[az]; exact RcNeAt.none_int _ _
  | str q =>
   obtain⟨t2,rfl⟩:=aD;simp only[az]; exact RcNeAt.none_str _ _
  | tup k1 k2 k3 k4 =>
   cases aD; obtain⟨its2,r2,t2⟩:=Inv.gn I k2
   simp only[az]; exact RcNeAt.none_tuple t2 bu
  | lst k1 k2 k3 k4 =>
   cases aD; obtain⟨its2,r2,t2⟩:=Inv.gm I k2
   simp only[az]; exact RcNeAt.none_list t2 bu
  | aB k1 k2 k3 k4=>(cases n <;> simp[flat] at fe)
  | exc k1 k2=>(cases n <;> simp[flat] at fe)
  | xd k1 k2=>(cases n <;> simp[flat] at fe)
  | fn _=>(cases n <;> simp[flat] at fe)
 | bl p =>
  cases ru
  cases ry with
  | aq =>
   cases aD;simp only[az]; exact RcNeAt.bool_none _
  | bl q =>
   cases aD;simp only[az]; exact RcNeAt.bool_bool _ _
  | int q =>
   obtain⟨t2,rfl⟩:=aD;simp only[az]; exact RcNeAt.bool_int _ _ _
  | str q =>
   obtain⟨t2,rfl⟩:=aD;simp only[az]; exact RcNeAt.bool_str _ _ _
  | tup k1 k2 k3 k4 =>
   cases aD; obtain⟨its2,r2,t2⟩:=Inv.gn I k2
   simp only[az]; exact RcNeAt.bool_tuple _ t2 bu
  | lst k1 k2 k3 k4 =>
   cases aD; obtain⟨its2,r2,t2⟩:=Inv.gm I k2
   simp only[az]; exact RcNeAt.bool_list _ t2 bu
  | aB k1 k2 k3 k4=>(cases n <;> simp[flat] at fe)
  | exc k1 k2=>(cases n <;> simp[flat] at fe)
  | xd k1 k2=>(cases n <;> simp[flat] at fe)
  | fn _=>(cases n <;> simp[flat] at fe)
 | int p =>
  obtain⟨t1,rfl⟩:=ru
  cases ry with
  | aq =>
   cases aD;simp only[az]; exact RcNeAt.int_none _ _
  | bl q =>
   cases aD;simp only[az]; exact RcNeAt.int_bool _ _ _
  | int q =>
   obtain⟨t2,rfl⟩:=aD;simp only[az]; exact RcNeAt.int_int _ _ _ _
  | str q =>
   obtain⟨t2,rfl⟩:=aD;simp only[az]; exact RcNeAt.int_str _ _ _ _
  | tup k1 k2 k3 k4 =>
   cases aD; obtain⟨its2,r2,t2⟩:=Inv.gn I k2
   simp only[az]; exact RcNeAt.int_tuple _ _ t2 bu
  | lst k1 k2 k3 k4 =>
   cases aD; obtain⟨its2,r2,t2⟩:=Inv.gm I k2
   simp only[az]; exact RcNeAt.int_list _ _ t2 bu
  | aB k1 k2 k3 k4=>(cases n <;> simp[flat] at fe)
  | exc k1 k2=>(cases n <;> simp[flat] at fe)
  | xd k1 k2=>(cases n <;> simp[flat] at fe)
  | fn _=>(cases n <;> simp[flat] at fe)
 | str p =>
  obtain⟨t1,rfl⟩:=ru
  cases ry with
  | aq =>
   cases aD;simp only[az]; exact RcNeAt.str_none _ _
  | bl q =>
   cases aD;simp only[az]; exact RcNeAt.str_bool _ _ _
  | int q =>
   obtain⟨t2,rfl⟩:=aD;simp only[az]; exact RcNeAt.str_int _ _ _ _
  | str q =>
   obtain⟨t2,rfl⟩:=aD;simp only[az]; rw[<- uQ]; exact RcNeAt.str_str _ _ _ _
  | tup k1 k2 k3 k4 =>
   cases aD; obtain⟨its2,r2,t2⟩:=Inv.gn I k2
   simp only[az]; exact RcNeAt.str_tuple _ _ t2 bu
  | lst k1 k2 k3 k4 =>
   cases aD; obtain⟨its2,r2,t2⟩:=Inv.gm I k2
   simp only[az]; exact RcNeAt.str_list _ _ t2 bu
  | aB k1 k2 k3 k4=>(cases n <;> simp[flat] at fe)
  | exc k1 k2=>(cases n <;> simp[flat] at fe)
  | xd k1 k2=>(cases n <;> simp[flat] at fe)
  | fn _=>(cases n <;> simp[flat] at fe)
 | tup h1 h2 h3 h4 =>
  cases ru; obtain⟨its1,r1,t1⟩:=Inv.gn I h2
  cases ry with
  | aq =>
   cases aD;simp only[az]; exact RcNeAt.tuple_none t1 bu
  | bl q =>
   cases aD;simp only[az]; exact RcNeAt.tuple_bool _ t1 bu
  | int q =>
   obtain⟨t2,rfl⟩:=aD;simp only[az]; exact RcNeAt.tuple_int _ _ t1 bu
  | str q =>
   obtain⟨t2,rfl⟩:=aD;simp only[az]; exact RcNeAt.tuple_str _ _ t1 bu
  | tup k1 k2 k3 k4 =>
   cases aD; obtain⟨its2,r2,t2⟩:=Inv.gn I k2
   simp only[az]; exact IP I n A bu t1 t2 r1 r2 h3 k3 h4 k4 fd fe ih
  | lst k1 k2 k3 k4 =>
   cases aD; obtain⟨its2,r2,t2⟩:=Inv.gm I k2
   simp only[az]; exact RcNeAt.tuple_list t1 t2 bu
  | aB k1 k2 k3 k4=>(cases n <;> simp[flat] at fe)
  | exc k1 k2=>(cases n <;> simp[flat] at fe)
  | xd k1 k2=>(cases n <;> simp[flat] at fe)
  | fn _=>(cases n <;> simp[flat] at fe)
 | lst h1 h2 h3 h4 =>
  cases ru; obtain⟨its1,r1,t1⟩:=Inv.gm I h2
  cases ry with
  | aq =>
   cases aD;simp only[az]; exact RcNeAt.list_none t1 bu
  | bl q =>
   cases aD;simp only[az]; exact RcNeAt.list_bool _ t1 bu
  | int q =>
   obtain⟨t2,rfl⟩:=aD;simp only[az]; exact RcNeAt.list_int _ _ t1 bu
  | str q =>
   obtain⟨t2,rfl⟩:=aD;simp only[az]; exact RcNeAt.list_str _ _ t1 bu
  | tup k1 k2 k3 k4 =>
   cases aD; obtain⟨its2,r2,t2⟩:=Inv.gn I k2
   simp only[az]; exact RcNeAt.list_tuple t1 t2 bu
  | lst k1 k2 k3 k4 =>
   cases aD; obtain⟨its2,r2,t2⟩:=Inv.gm I k2
   simp only[az]; exact IS I n A bu t1 t2 r1 r2 h3 k3 h4 k4 fd fe ih
  | aB k1 k2 k3 k4=>(cases n <;> simp[flat] at fe)
  | exc k1 k2=>(cases n <;> simp[flat] at fe)
  | xd k1 k2=>(cases n <;> simp[flat] at fe)
  | fn _=>(cases n <;> simp[flat] at fe)
 | aB h1 h2 h3 h4=>(cases n <;> simp[flat] at fd)
 | exc h1 h2=>(cases n <;> simp[flat] at fd)
 | xd h1 h2=>(cases n <;> simp[flat] at fd)
 | fn _=>(cases n <;> simp[flat] at fd)
theorem Bo(h:RcAt A s u w k)(hs:u=w->k=true)(hf:∀ b t,u≠Value.float b t):EqAt A s u w k:=λprog w' E Q hq=>by
 unfold eqBool;refine WU ?_;refine Jz (λkS=>?_) (λ_=>?_)
 ·have e:=eq_of_beq kS;rw[hs e] at hq;exact W0 (QN (W4 hq))
 ·cases u with
  | float b t=>exact absurd rfl (hf b t)
  | _=>exact W0 (h prog w' E _ (Qv hq))
theorem Bp(r:Rep H cZ x d)(ru:RelV x u)(b:UInt64)(t:Tok):u≠Value.float b t:=by
 intro e;subst e
 cases r <;> first | (cases ru; done) | (obtain⟨t',e⟩:=ru; cases e)
theorem IU(I:Inv X pins σ H s)(n:Nat):uR H s n:=by
 induction n with
 | zero =>
  intro A x y u w d e hu fd fe rx ry ru aD;refine Bo (uS I 0 A x y u w d e (by omega) fd fe trivial rx ry ru aD) (λh=>?_) (Bp rx ru);subst h;have:=ru.inj aD;subst this;rw[Rep.inj rx fd fe ry];exact oV fe
 | succ n ih =>
  intro A x y u w d e hu fd fe rx ry ru aD;refine Bo (uS I (n + 1) A x y u w d e (by omega) fd fe ⟨by omega,ih⟩ rx ry ru aD) (λh=>?_) (Bp rx ru);subst h;have:=ru.inj aD;subst this;rw[Rep.inj rx fd fe ry];exact oV fe
theorem Bq(I:Inv X pins σ H s):∀ n:Nat,A.units + n + 1 < Qi->lY H s A n
 | 0,_=>trivial
 | n + 1,h=>⟨by omega,IU I n⟩
def Br:R2:=λx y H Q=>∃ d e,Rep H cZ x d/\Rep H cZ y e/\flat 50 d=true/\flat 50 e=true/\Q (.bl (az d e)) H
def Bs:R2:=λx y H Q=>∃ d e,Rep H cZ x d/\Rep H cZ y e/\flat 50 d=true/\flat 50 e=true/\Q (.bl (!az d e)) H
theorem jZ(hu:X.A.units + 64 < Qi):bD X (WO .Eq) Br:=by
 intro pins s σ H x y v u Q I rx ry h;obtain⟨d,e,r1,r2,f1,f2,q⟩:=h;exact uS I 50 X.A x y v u d e (by omega) f1 f2 (Bq I 50 (by omega)) r1 r2 rx ry X.prog X.w X.xe _ ⟨.bl _,H,I,rfl,q⟩
theorem Bt(hu:X.A.units + 64 < Qi):bD X (WO .NotEq) Bs:=by
 intro pins s σ H x y v u Q I rx ry h;obtain⟨d,e,r1,r2,f1,f2,q⟩:=h;exact IT I 50 X.A x y v u d e (by omega) f1 f2 (Bq I 50 (by omega)) r1 r2 rx ry X.prog X.w X.xe _ ⟨.bl _,H,I,rfl,q⟩
end
def cU{α:Type}(xs:List α)(lo hi:Option Int):List α:=(xs.drop (HT.aP xs.length 0 lo)).take (HT.aP xs.length xs.length hi - HT.aP xs.length 0 lo)
theorem Bu(xs:List V)(lo hi:Option Int):cU xs lo hi=kM xs lo hi:=rfl
theorem IV(xs:List α)(lo hi:Option Int):(cU xs lo hi).length<=xs.length:=by
 unfold cU;rw[JT,List.length_drop];omega
theorem ax.cut(lo hi:Option Int)(h:ax H O vs ds):ax H O (cU vs lo hi) (cU ds lo hi):=by
 unfold cU;rw[h.1];exact ax.take _ (ax.drop _ h)
theorem IW{α:Type}{xs:List α}{lo hi:Option Int}(h:HT.aP xs.length 0 lo=0/\HT.aP xs.length xs.length hi=xs.length):cU xs lo hi=xs:=by
 unfold cU;rw[h.1,h.2];simp
section
variable {prog:Wg} {w:Wm} {A:Wl} {E:Value->W2->Prop} {s:W2}
theorem IX{t sl:Addr}{items:Array Value}{vl vu:Value}{lo hi:Option Int}{Q:Value->W2->Prop}(ht:IsTup s.heap t items)(hs:s.heap.IsSliceOf sl vl vu .none)(pl:IsPart vl lo)(pu:IsPart vu hi)
  (hw:HT.aP items.size 0 lo=0/\HT.aP items.size items.size hi=items.size) (h:Q (.ref t) s):W6 (model prog w) A (getItem (.ref t) (.ref sl)) Q E s:=by
 obtain⟨os,hos,hcs,hds⟩:=id hs;have ug:s.TypeIs (.ref sl) "slice":=⟨os,hos,hcs⟩
 unfold getItem;try with_reducible refine WU ?_
 first | refine W0 (W4 ?_) | skip
 refine W0 (wpAny_sequenceKey ht.typeIs (by decide) ?_);refine W0 (Q2 (name:=Str.ofString "__getitem__") ht.typeIs QB
  (Qd QB ht.typeIs entry_tuple_getitem ?_ (args_tuple_getitem _ _)))
 show W6 _ _ (Builtin.Tuple.tupleItemsOf (.ref t) >>= _) _ _ s;refine W0 (tupleItemsOf_ ht ?_);refine W0 (QQ ug ?_);rw[if_pos (by decide)];refine W0 (HT.Az hs pl pu ?_);show W6 _ _ (if (((HT.aP items.size 0 lo:Nat):Int) == 0 && (1:Int) == 1 && (HT.aP items.size items.size hi - HT.aP items.size 0 lo) == items.size)=true then _ else _) _ _ s;rw[hw.1,hw.2];rw[if_pos (by simp)];refine W0 (m:=Builtin.Tuple.tupleIsExact (.ref t)) ?_;unfold Builtin.Tuple.tupleIsExact;refine W0 (QQ ht.typeIs (W4 ?_));rw[if_pos (by decide)];exact W0 (QN (W0 (W4 (W4 ⟨_,rfl,W4 h⟩))))
end
section
variable {X:Cx}
def Bv(K:W1):V->Option Int->Option Int->Hp->VK->Prop:=λx lo hi H Q=>∃ a xs,x = .ref a/\cD K H a xs /\
 ((HT.aP xs.length 0 lo=0/\HT.aP xs.length xs.length hi=xs.length)->Q (.ref a) H)/\(¬ (HT.aP xs.length 0 lo=0/\HT.aP xs.length xs.length hi=xs.length)->∀ p,H p=none->Q (.ref p) (upd H p (.tup (kM xs lo hi))))
theorem IY:jk X (Bv X.K):=by
 intro pins s σ H x v vl vu lo hi sl Q I rx hs pl pu h;obtain⟨a,xs,rfl,hx,q1,q2⟩:=h;by_cases hw:HT.aP xs.length 0 lo=0/\HT.aP xs.length xs.length hi=xs.length
 ·cases rx;obtain⟨aa,r,ht,hz⟩:=I.tuple hx;have hlen:aa.toArray.size=xs.length:=by rw[Wr]; exact r.length.symm
  refine⟨"tuple",_,PyProof.Rows.slot_tuple_getitem.lookup,ht.typeIs,?_⟩;exact IX ht hs pl pu (by rw[hlen]; exact hw) ⟨.ref a,H,I,rfl,q1 hw⟩
 ·exact Hf pins s σ H (.ref a) v vl vu lo hi sl Q I rx hs pl pu ⟨a,xs,rfl,hx,hw,q2 hw⟩
theorem IZ(a b:Nat):sliceRange (a:Int) (b:Int) 1=(Wp (b - a)).map (λk=>a + k):=by
 have h0:((1:Int) > 0)=True:=by simp
 unfold sliceRange;simp only[h0,if_true];by_cases aY:(a:Int) < (b:Int)
 ·rw[if_pos aY];have e3:(((b:Int) - (a:Int) + 1 - 1) / 1).toNat=b - a:=by
   rw[Int.ediv_one]; omega
  rw[e3];refine Jv λk _=>?_
  omega
 ·rw[if_neg aY];have:b - a=0:=by omega
  rw[this];rfl
theorem Bw(lo hi:Option Int)(n:Nat):Qx lo hi 1 n=(Wp (HT.aP n n hi - HT.aP n 0 lo)).map (λk=>HT.aP n 0 lo + k):=by
 have c:∀ (i:Int) (d:Nat),max 0 (min (if i < 0 then i + (n:Int) else i) (n:Int))=((HT.aP n d (some i):Nat):Int):=by
  intro i d;show max 0 (min (if i < 0 then i + (n:Int) else i) (n:Int))=(((if i < 0 then(i + (n:Int)).toNat else min i.toNat n):Nat):Int);by_cases hi:i < 0
  ·simp only[if_pos hi]; omega
  ·simp only[if_neg hi]; omega
 have h0:((1:Int) > 0)=True:=by simp
 rw[<- IZ];unfold Qx;simp only[h0,if_true]
 cases lo with
 | none =>
  cases hi with
  | none=>rfl
  | some j=>show sliceRange 0 (max 0 (min (if j < 0 then j + (n:Int) else j) (n:Int))) 1=_; rw[c j n]; rfl
 | some i =>
  cases hi with
  | none=>show sliceRange (max 0 (min (if i < 0 then i + (n:Int) else i) (n:Int))) (n:Int) 1=_; rw[c i 0]; rfl
  | some j=>show sliceRange (max 0 (min (if i < 0 then i + (n:Int) else i) (n:Int))) (max 0 (min (if j < 0 then j + (n:Int) else j) (n:Int))) 1=_; rw[c i 0,c j n]
theorem I0(x:Tx)(lo hi:Option Int):(⟨((Qx lo hi 1 (toS x).length).filterMap ((toS x).cps[·]?)).toArray⟩:Str)=toS (cU x lo hi):=by
 unfold toS;congr 1
 rw[Bw];have:=pick_run (x.toArray) (HT.aP x.length 0 lo) (HT.aP x.length x.length hi - HT.aP x.length 0 lo);have hl:({ cps:=x.toArray }:Str).length=x.length:=by simp[Str.length]
 rw[hl];rw[this];rfl
def Bx:V->Option Int->Option Int->Hp->VK->Prop:=λx lo hi H Q=>∃ z:Tx,x = .str (toS z)/\z.length<=Wa/\Q (.str (toS (cU z lo hi))) H
theorem By(p:IsPart v o):∃ q:Option (Int×Tok),v=partValue q/\q.map (·.1)=o:=by
 cases p with
 | none=>exact⟨none,rfl,rfl⟩
 | int i t=>exact⟨some (i,t),rfl,rfl⟩
theorem I_:jk X Bx:=by
 intro pins s σ H x v vl vu lo hi sl Q I rx hs pl pu h;obtain⟨z,rfl,hz,q⟩:=h;obtain⟨t,rfl⟩:=rx;obtain⟨l,rfl,el⟩:=By pl;obtain⟨u,rfl,eu⟩:=By pu;obtain⟨o,ho,hc,hd⟩:=hs;refine⟨"str",_,F.slot_str_getitem.lookup,typeIs_str s _ t,?_⟩;refine wpAny_getItem_str_slice (l:=l) (u:=u) (st:=none) ⟨o,ho,hc,hd⟩ rfl ?_;unfold sliceMade;have e:(slicePicked (toS z) l u none)=Qx lo hi 1 (toS z).length:=by
  unfold slicePicked;rw[el,eu];rfl
 rw[e];by_cases hw:(((none:Option (Int×Tok)).map (·.1)).getD 1 == 1 && (Qx lo hi 1 (toS z).length).length == (toS z).length)=true
 ·rw[if_pos hw];refine⟨.str (toS (cU z lo hi)),H,I,⟨t,?_⟩,q⟩;congr 1
  rw[Ws] at hw;have uT:=eq_of_beq hw.2;rw[Bw,Wx,List.length_range,jn] at uT;have h1:=HT.uf z.length 0 (Qy _) lo;have h2:=HT.uf z.length z.length (Wb _) hi;unfold cU;congr 1
  by_cases h0:z.length=0
  ·have:z=[]:=QI h0;subst this;simp
  ·have a1:HT.aP z.length 0 lo=0:=by omega
   rw[a1] at uT ⊢;rw[uT];simp
 ·rw[if_neg hw];show Made.post (.str _) _ _;rw[I0];exact⟨by rw[jn]; exact WQ (IV z lo hi) hz,.str (toS (cU z lo hi)),H,I.tok _,⟨_,rfl⟩,q⟩
theorem JZ:bD X (Qh .Add) (λx y H Q=>∃ a b ys,x = .ref a/\y = .ref b/\cD X.K H a []/\cD X.K H b ys/\Q (.ref b) H):=by
 intro pins s σ H x y v u Q I rx ry h;obtain⟨a,b,ys,rfl,rfl,ha,hb,q⟩:=h
 cases rx
 cases ry;obtain⟨aa,r1,p1,_⟩:=I.tuple ha;obtain⟨its2,r2,p2,_⟩:=I.tuple hb
 cases r1;obtain⟨⟨cls,dd,data,sl⟩,ho,hc,n,hd⟩:=id p1;obtain⟨⟨cls2,lP,data2,kL⟩,ho2,hc2,n2,hd2⟩:=id p2;simp only at hc hd hc2 hd2;subst hc hd hc2 hd2;exact concat_meets ⟨_,ho,rfl⟩ ⟨_,ho2,rfl⟩ noFill_tuple_add seq_tuple_add PySem.F.slot_tuple_add PySem.F.entry_tuple_add (PySem.F.args_tuple_add_2 _ _)
   (tuple_addW0 a b #[] its2.toArray n n2 dd lP sl kL rfl) ⟨ho,ho2,.ref b,H,I,rfl,q⟩
def Bz(K:W1):R2:=λx y H Q=>∃ l b xs zs,x = .ref l/\y = .ref b/\cg K H l xs/\cg K H b zs/\xs.length + zs.length<=Wa/\∀ p,H p=none->Q (.ref p) (upd H p (.lst (xs ++ zs)))
theorem J_:bD X (Qh .Add) (Bz X.K):=by
 intro pins s σ H x y v u Q I rx ry h;obtain⟨l,b,xs,zs,rfl,rfl,hH,hB,hz,q⟩:=h
 cases rx
 cases ry;obtain⟨aa,r,⟨⟨cls,dd,data,sl⟩,n,e,hc,hdd,hd⟩,z⟩:=I.list hH;obtain⟨its2,r2,⟨⟨cls2,lP,data2,kL⟩,n2,e2,hc2,hdd2,hd2⟩,z2⟩:=I.list hB;simp only at hc hd hdd hc2 hd2 hdd2;subst hc hd hdd hc2 hd2 hdd2;have hl:=r.length;have mY:=r2.length;refine concat_meets ⟨_,e,rfl⟩ ⟨_,e2,rfl⟩ noFill_list_add seq_list_add PySem.F.slot_list_add PySem.F.entry_list_add (PySem.F.args_list_add_2 _ _)
   (list_addW l b aa.toArray its2.toArray n n2 none none sl kL (by rw[Wr,Wr]; omega)) ⟨e,e2,?_⟩
 have ea:aa.toArray ++ its2.toArray=(aa ++ its2).toArray:=by simp
 rw[ea];exact⟨.ref _,_,I.HD (t':=s.toks) (r.append r2) (by rw[Q6]; omega),rfl,q _ I.fresh⟩
theorem rD:∀ {ys:List Str} {us:List Value},Vals (ys.map V.str) us->StrsAre us ys
 | [],us,r=>by cases r; exact .nil
 | y :: ys,us,r=>by
  cases r with
  | cons r1 r2 =>
   obtain⟨t,rfl⟩:=r1;exact .cons y t (rD r2)
theorem oX:∀ {ys:List Str} {us:List Value},StrsAre us ys->Vals (ys.map V.str) us
 | _,_,.nil=>.nil
 | _,_,.cons y t h=>.cons ⟨t,rfl⟩ (oX h)
def rE(K:W1):V->List V->Hp->VK->Prop:=λx vs H Q=>∃ (z:Str) (a:Addr) (ys:List Str),x = .str z/\vs=[.ref a]/\(cg K H a (ys.map V.str)\/cD K H a (ys.map V.str)) /\
 (ys.map (·.length)).sum + ys.length * z.length<=16777216/\Q (.str (Txt.join z ys)) H
theorem Ka:qN X "str.join" (rE X.K):=by
 intro pins s σ H x vs v us Q I rx rv h;obtain⟨z,a,ys,rfl,rfl,hq,hz,q⟩:=h;obtain⟨t,rfl⟩:=rx;obtain⟨u,rfl,ru⟩:=rv.one
 cases ru;rcases hq with hq | hq
 ·obtain⟨aa,r,p,_⟩:=I.list hq;exact join_list p.isList (by simpa using rD r) hz λt' k=>⟨.str _,H,I.tok _,⟨t',rfl⟩,q⟩
 ·obtain⟨aa,r,p,_⟩:=I.tuple hq;exact join_tuple p (by simpa using rD r) hz λt' k=>⟨.str _,H,I.tok _,⟨t',rfl⟩,q⟩
theorem BA:∀ {bs:List Bool} {us:List Value},Vals (bs.map V.bl) us->∀ (i:Nat) v,us[i]? = some v->∃ b,bs[i]? = some b/\v = .bool b
 | [],us,r,i,v,e=>by cases r; simp at e
 | b :: bs,us,r,i,v,e=>by
  cases r with
  | cons r1 r2 =>
   cases i with
   | zero =>
    simp at e;subst e;exact⟨b,rfl,r1⟩
   | succ i=>exact BA r2 i v (by simpa using e)
theorem BC:∀ bs:List Bool,((Wp bs.length).all λi=>(bs[i]?).getD true)=bs.all id
 | []=>rfl
 | b :: bs=>by
  rw[WE,Ji,JS,List.all_map];have:=BC bs;simp only[List.getElem?_cons_zero,Option.getD_some,JS,id];rw[<- this];rfl
theorem Kb (hc:X.calm=true):dH X (.builtin "all") (λxs H Q=>∃ (a:Addr) (bs:List Bool),xs=[.ref a]/\cg X.K H a (bs.map V.bl)/\Q (.bl (bs.all (λb=>b))) H):=by
 intro pins s σ H xs us Q I r h;obtain⟨a,bs,rfl,hq,q⟩:=h;obtain⟨u,rfl,ru⟩:=fQ r
 cases ru;obtain⟨aa,r',p,_⟩:=I.list hq;have hl:=p.isList;have aY:a < s.heap.objs.size:=by obtain⟨_,e,_⟩:=hl; exact Wf e
 have hlen:=r'.length;rw[Wx] at hlen;refine call_all_walk (wpAny_pyIter_list hl ?_);refine⟨s.heap.objs.size,[s.heap.objs.size,a],[s.heap.objs.size],aa.toArray.size,_,_,λi=>(bs[i]?).getD true,rfl,Walks.list (A:=X.A.in1) (I.ok.hd hc) _ a (Wq aY) aa.toArray,
  ⟨⟨_,Wi _ rfl,rfl,rfl⟩,hl.push _⟩,λi v s' Q' E' hP hQ=>?_,λh' tk hk=>?_⟩
 ·obtain⟨b,e,rfl⟩:=BA r' i v (by simpa using hP);simp only[e,Option.getD_some] at hQ;exact Qv hQ
 ·have e:((Wp aa.toArray.size).all λi=>(bs[i]?).getD true)=bs.all id:=by
   rw[Wr,<- hlen]; exact BC bs
  rw[e];exact⟨.bl _,H,I.kept λb o e=>hk b o (λhm=>by rw[List.mem_singleton.mp hm] at e; exact Q3 _ (Wf e)) (W3 _ e),rfl,q⟩
def j0(x:Tx):List Tx->List Tx
 | []=>[x]
 | y :: r=>if y < x then y :: j0 x r else x :: y :: r
def eK:List Tx->List Tx
 | []=>[]
 | x :: r=>j0 x (eK r)
theorem uU(x:Tx):∀ l:List Tx,(j0 x l).Perm (x :: l)
 | []=>.refl _
 | y :: r=>by
  unfold j0;split
  ·exact((uU x r).cons y).trans (.swap x y r)
  ·exact .refl _
theorem rF:∀ l:List Tx,(eK l).Perm l
 | []=>.refl _
 | x :: r=>(uU x _).trans ((rF r).cons x)
abbrev gF(a b:Tx):Prop:=¬ b < a
theorem BD(h1:gF a b)(h2:gF b c):gF a c:=List.not_lt.mpr (List.le_trans (List.not_lt.mp h1) (List.not_lt.mp h2))
theorem Kc(h1:gF a b)(h2:gF b a):a=b:=List.le_antisymm (List.not_lt.mp h1) (List.not_lt.mp h2)
theorem BG(x:Tx):∀ l:List Tx,l.Pairwise gF->(j0 x l).Pairwise gF
 | [],_=>by simp[j0]
 | y :: r,h=>by
  unfold j0;obtain⟨h1,h2⟩:=Qn.mp h;split
  ·rename_i aY;refine Qn.mpr ⟨λz hz=>?_,BG x r h2⟩;rcases Wh.mp ((uU x r).mem_iff.mp hz) with e | hz
   ·subst e;intro q;exact absurd (List.lt_trans aY q) (List.lt_irrefl _)
   ·exact h1 z hz
  ·rename_i mZ;refine Qn.mpr ⟨λz hz=>?_,h⟩;rcases Wh.mp hz with e | hz
   ·subst e; exact mZ
   ·exact BD mZ (h1 z hz)
theorem BH:∀ l:List Tx,(eK l).Pairwise gF
 | []=>.nil
 | x :: r=>BG x _ (BH r)
theorem BI(hp:l'.Perm l)(hs:l'.Pairwise gF):l'=eK l :=
 List.Perm.eq_of_pairwise (λ_ _ _ _ h1 h2=>Kc h1 h2) hs (BH l) (hp.trans (rF l).symm)
theorem uV:∀ (x:Str) (r:List Str),risingS x r=true->((x :: r).map λz:Str=>z.cps.toList).Pairwise gF
 | x,[],_=>by simp
 | x,y :: r,h=>by
  have h':(!ltCps y.cps.toList x.cps.toList && risingS y r)=true:=h;rw[Ws] at h';have ih:=uV y r h'.2;have rG:gF x.cps.toList y.cps.toList:=by
   have:=h'.1;rw[ltCps_eq] at this;simpa using this
  rw[Wo];refine Qn.mpr ⟨λz hz=>?_,ih⟩;rw[Wo] at hz ih;rcases Wh.mp hz with e | hz
  ·subst e; exact rG
  ·exact BD rG ((Qn.mp ih).1 z hz)
theorem Kd:dH X (.builtin "sorted") (λxs H Q=>∃ (a:Addr) (ts:List Tx),xs=[.ref a]/\cg X.K H a (ts.map λz=>V.str (toS z))/\ts.length < 64/\∀ p,H p=none->Q (.ref p) (upd H p (.lst ((eK ts).map λz=>V.str (toS z))))):=by
 intro pins s σ H xs us Q I r h;obtain⟨a,ts,rfl,hq,hz,q⟩:=h;obtain⟨u,rfl,ru⟩:=fQ r
 cases ru;obtain⟨aa,r',p,_⟩:=I.list hq;have r2:Vals ((ts.map toS).map V.str) aa:=by rw[WA]; exact r'
 have hlen:=r'.length;rw[Wx] at hlen;refine sorted_strs p.isList (rD r2) (by omega) λout ss hS hp hs=>?_
 have e:ss=(eK ts).map toS:=by
  have uW:(ss.map λz:Str=>z.cps.toList).Pairwise gF:=by
   cases ss with
   | nil=>simp
   | cons x r=>exact uV x r hs
  have uX:(ss.map λz:Str=>z.cps.toList).Perm ts:=by
   have:=hp.map λz:Str=>z.cps.toList
   rw[WA] at this;have e2:ts.map ((λz:Str=>z.cps.toList) ∘ toS)=ts:=by
    rw[show((λz:Str=>z.cps.toList) ∘ toS)=id from funext λz=>oS z,List.map_id]
   rw[e2] at this;exact this
  rw[<- BI uX uW,WA];have:(toS ∘ λz:Str=>z.cps.toList)=id:=funext λz=>(uN z).symm
  rw[this,List.map_id]
 obtain⟨ep,he⟩:=sortedAll_at s.heap aa out;have hv:Vals ((eK ts).map λz=>V.str (toS z)) out.toList:=by
  have:=oX hS;rw[e,WA] at this;exact this
 have mY:((eK ts).map λz=>V.str (toS z)).length<=Wa:=by
  rw[Wx,(rF ts).length_eq];exact WQ (Jk hz) (by rw[QC]; decide)
 refine⟨.ref (s.heap.objs.size + 1),_,I.laid (a:=s.heap.objs.size + 1) (o:=.lst ((eK ts).map λz=>V.str (toS z))) (t':=s.toks) (λb u e=>sortedAll_old e) (Ju _) ?_,rfl,q _ (I.ag.fresh (Ju _))⟩;exact⟨mY,out.toList,ep,hv,by simpa[seqObj] using he⟩
end
def p2(p:D->D->Option S)(x y:D)(δ:Dl):Rs S:=match p x y with
 | some s=>.ok s δ
 | none=>.stuck
def bf(p:D->D->Option S)(fa:DE)(fb:BE):DE:=λδ=>(fa δ).bind λx δ1=>(fb δ1).bind λy δ2=>p2 p x.d y δ2
def bI(p:D->D->Option S)(i:Nat)(fb:BE):DE:=λδ=>(fb δ).bind λy δ1=>(ao i δ1).bind λx δ2=>p2 p x y δ2
def cG(r:R2)(p:D->D->Option S):Prop:=∀ (c:Fc) (σ:St) (δ:Dl) (H:Hp) (x y:V) (d e:D) (s:S) (Q:VK),Ok c σ δ H->cT c σ δ H x d->cT c σ δ H y e->p d e=some s ->
 (∀ v H',ay c σ δ H σ δ H'->aM c σ δ H H' v s->Q v H')->r x y H Q
section
variable {X:Cx} {c:Fc} {a b:Expr} {fa:DE} {fb:BE} {r:R2} {p:D->D->Option S} {pos:Pos}
theorem BJ(hp:cG r p)(k:Ok c σ δ H)(rx:cT c σ δ H x d)(ry:cT c σ δ H y e)
  (h:post c (p2 p d e δ) λs δ'=>∀ v H',ay c σ δ H σ δ' H'->aM c σ δ' H H' v s->Q v H'):r x y H Q:=by
 unfold p2 at h
 cases e1:p d e with
 | none=>rw[e1] at h; exact h.elim
 | some s=>rw[e1] at h; exact hp c σ δ H x y d e s Q k rx ry e1 h
theorem rH(hp:cG r p)(h:tD c (bf p fa fb) σ H Q):lO r (tD c fa) (tB c fb) σ H Q:=by
 obtain⟨δ,k,q⟩:=h;refine⟨δ,k,?_⟩;unfold bf at q;rw[aX] at q;refine aL q λx δ1 q1 v H1 a1 r1=>⟨δ1,a1.ok,?_⟩
 rw[aX] at q1;refine aL q1 λy δ2 q2 u H2 a2 r2=>?_
 exact BJ hp a2.ok (.inl (Rep.dA r1.rep a2)) r2 (aL q2 λs δ3 q3 v' H3 a3 r3=>q3 v' H3 (a1.trans (a2.trans a3)) (aM.back r3 (a1.trans a2)))
theorem Ke(hp:cG r p)(h:tD c (bI p i fb) σ H Q)(hv:∀ δ,Ok c σ δ H->post c (fb δ) (λ_ _=>True)->∃ v,σ[i]? = some (some v)):lO r (cY i) (tB c fb) σ H Q:=by
 obtain⟨δ,k,q⟩:=h;unfold bI at q;rw[aX] at q;obtain⟨v,ev⟩:=hv δ k (aL q λ_ _ _=>trivial);refine⟨v,ev,δ,k,aL q λy δ1 q1 u H1 a1 r1=>?_⟩;rw[aX] at q1;unfold ao at q1
 cases e:δ1[i]? with
 | none=>rw[e] at q1; exact q1.elim
 | some o =>
  cases o with
  | none=>rw[e] at q1; exact q1.elim
  | some w =>
   rw[e] at q1;have Kf:post c (p2 p w.d y δ1) λs δ'=>∀ v H',ay c σ δ H σ δ' H'->aM c σ δ' H H' v s->Q v H':=q1
   have rb:cT c σ δ1 H1 v w.d:=by
    cases w with
    | pure d =>
     obtain⟨v',e1,r⟩:=a1.ok.slot i d e;rw[ev] at e1; cases e1
     exact .inl r
    | own d =>
     obtain⟨a,e1,r,_⟩:=a1.ok.own i d e;rw[ev] at e1; cases e1
     exact .inr ⟨a,rfl,r⟩
   exact BJ hp a1.ok rb r1 (aL Kf λs δ3 q3 v' H3 a3 r3=>q3 v' H3 (a1.trans a3) (aM.back r3 a1))
theorem m_{i:Nat}{σ:St}{δ:Dl}{H:Hp}(k:Ok c σ δ H){w:S}(e:δ[i]? = some (some w)):∃ v,σ[i]? = some (some v):=by
 cases w with
 | pure d=>obtain⟨v,e1,_⟩:=k.slot i d e; exact⟨v,e1⟩
 | own d=>obtain⟨a,e1,_⟩:=k.own i d e; exact⟨_,e1⟩
end
def au(p:D->D->Option S)(i:Nat)(fb:BE):DE:=λδ=>match δ[i]? with
 | some (some _)=>bI p i fb δ
 | _=>.stuck
section
variable {X:Cx} {c:Fc} {a b:Expr} {fa:DE} {fb:BE} {r:R2} {p:D->D->Option S} {pos:Pos}
theorem rJ(hp:cG r p){i:Nat}{σ:St}{H:Hp}{Q:VK}(h:tD c (au p i fb) σ H Q):lO r (cY i) (tB c fb) σ H Q:=by
 obtain⟨δ,k,q⟩:=h;unfold au at q
 cases e:δ[i]? with
 | none=>rw[e] at q; exact q.elim
 | some o =>
  cases o with
  | none=>rw[e] at q; exact q.elim
  | some w =>
   rw[e] at q;obtain⟨v,ev⟩:=m_ k e;exact Ke hp (i:=i) ⟨δ,k,q⟩ λ_ _ _=>⟨v,ev⟩
theorem dh{op:Operator}(ho:bD X (Qh op) r)(hp:cG r p)(ha:SE X c a fa)(hb:SB X c b fb):SE X c (.BinOp a op b pos) (bf p fa fb):=PE.weak (Aa ho ha hb) λ_ _ _ h=>rH hp h
theorem iM{op:Operator}{i:Nat}(ho:bD X (Qh op) r)(hp:cG r p)(ha:PE X a (cY i))(hb:SB X c b fb):SE X c (.BinOp a op b pos) (au p i fb):=PE.weak (Aa ho ha hb) λ_ _ _ h=>rJ hp h
theorem uY{op:CmpOp}(ho:bD X (WO op) r)(hp:cG r p)(ha:SE X c a fa)(hb:SB X c b fb)(hm:Qp op b=false):SE X c (.Compare a [op] [b] pos) (bf p fa fb):=PE.weak (Ae ho ha hb hm) λ_ _ _ h=>rH hp h
theorem Kg{op:CmpOp}{i:Nat}(ho:bD X (WO op) r)(hp:cG r p)(ha:PE X a (cY i))(hb:SB X c b fb)(hm:Qp op b=false):SE X c (.Compare a [op] [b] pos) (au p i fb):=PE.weak (Ae ho ha hb hm) λ_ _ _ h=>rJ hp h
theorem Kh(hr:gC X r)(hp:cG r p)(ha:SE X c a fa)(hb:SB X c b fb)(hs:ui b):SE X c (.Subscript a b pos) (bf p fa fb):=PE.weak (AE hr ha hb hs) λ_ _ _ h=>rH hp h
theorem cA{i:Nat}(hr:gC X r)(hp:cG r p)(ha:PE X a (cY i))(hb:SB X c b fb)(hs:ui b):SE X c (.Subscript a b pos) (au p i fb):=PE.weak (AE hr ha hb hs) λ_ _ _ h=>rJ hp h
end
abbrev DT:=Dl->Rs Bool
def tT(c:Fc)(f:DT):TT:=λσ H Q=>∃ δ,Ok c σ δ H/\post c (f δ) λb δ'=>∀ H',ay c σ δ H σ δ' H'->Q b H'
abbrev ST(X:Cx)(c:Fc)(e:Expr)(f:DT):Prop:=PT X e (tT c f)
theorem PT.weak(h:PT X e t)(w:∀ σ H Q,t' σ H Q->t σ H Q):PT X e t':=λpins s σ H Q I q=>h pins s σ H Q I (w σ H Q q)
def aW(f:DE):DT:=λδ=>(f δ).bind λr δ'=>match r with
 | .pure (.bl b)=>.ok b δ'
 | _=>.stuck
section
variable {X:Cx} {c:Fc} {a b:Expr} {fa f:DE} {fb:BE} {r:R2} {p:D->D->Option S} {pos:Pos}
theorem uZ(h:tT c (aW f) σ H Q):tD c f σ H λx H'=>∃ k,x = .bl k/\Q k H':=by
 obtain⟨δ,k,q⟩:=h;refine⟨δ,k,?_⟩;unfold aW at q;rw[aX] at q;refine aL q λr δ1 q1 v H1 a1 r1=>?_
 cases r with
 | own d=>exact q1.elim
 | pure d =>
  cases d <;> first | exact q1.elim | skip
  rename_i b
  cases r1;exact⟨b,rfl,q1 H1 a1⟩
theorem j3{op:CmpOp}(ho:bD X (WO op) r)(hp:cG r p)(ha:SE X c a fa)(hb:SB X c b fb)(hm:Qp op b=false):ST X c (.Compare a [op] [b] pos) (aW (bf p fa fb)) :=
 PT.weak (Af ho ha hb hm) λσ H Q h=>rH hp (uZ h)
theorem oY{op:CmpOp}{i:Nat}(ho:bD X (WO op) r)(hp:cG r p)(ha:PE X a (cY i))(hb:SB X c b fb)(hm:Qp op b=false):ST X c (.Compare a [op] [b] pos) (aW (au p i fb)) :=
 PT.weak (Af ho ha hb hm) λσ H Q h=>rJ hp (uZ h)
theorem nc{e:Expr}(h:SE X c e f)(he:∀ whole,isTrue e X.env whole=(do let v <- whole; standAt e.pos; holding [v] (truthy v)):=by intro _; rfl):ST X c e (aW f) :=
 PT.weak (FI h he) λσ H Q h=>uZ h
def rK(t u:DT):DT:=λδ=>(t δ).bind λb δ1=>if b then u δ1 else .ok false δ1
def lZ(t u:DT):DT:=λδ=>(t δ).bind λb δ1=>if b then .ok true δ1 else u δ1
def gq(t:DT):DT:=λδ=>(t δ).bind λb δ1=>.ok (!b) δ1
abbrev SW(X:Cx)(c:Fc)(e:Expr)(f:DT):Prop:=PW X e (tT c f)
theorem PW.weak(h:PW X e t)(w:∀ σ H Q,t' σ H Q->t σ H Q):PW X e t':=λwh pins s σ H Q I q=>h wh pins s σ H Q I (w σ H Q q)
variable {t u:DT} {rest:List Expr}
theorem Ki(ha:ST X c a t):SW X c (.BoolOp .And [a] pos) t:=FN ha
theorem u0(ha:ST X c a t):SW X c (.BoolOp .Or [a] pos) t:=FO ha
theorem Kj(ha:ST X c a t)(hb:SW X c (.BoolOp .And (b :: rest) pos) u):SW X c (.BoolOp .And (a :: b :: rest) pos) (rK t u):=PW.weak (FP ha hb) λσ H Q ⟨δ,k,q⟩=>by
 unfold rK at q;rw[aX] at q;refine⟨δ,k,aL q λx δ1 q1 H1 a1=>?_⟩
 cases x with
 | true=>exact⟨δ1,a1.ok,aL q1 λy δ2 q2 H2 a2=>q2 H2 (a1.trans a2)⟩
 | false=>exact q1 H1 a1
theorem u4(ha:ST X c a t)(hb:SW X c (.BoolOp .Or (b :: rest) pos) u):SW X c (.BoolOp .Or (a :: b :: rest) pos) (lZ t u):=PW.weak (pw_or ha hb) λσ H Q ⟨δ,k,q⟩=>by
 unfold lZ at q;rw[aX] at q;refine⟨δ,k,aL q λx δ1 q1 H1 a1=>?_⟩
 cases x with
 | false=>exact⟨δ1,a1.ok,aL q1 λy δ2 q2 H2 a2=>q2 H2 (a1.trans a2)⟩
 | true=>exact q1 H1 a1
theorem rL(h:SW X c a t):ST X c a t:=PW.pt h
theorem ng(ha:ST X c a t):ST X c (.UnaryOp .Not a pos) (gq t):=PT.weak (FQ ha) λσ H Q ⟨δ,k,q⟩=>by
 unfold gq at q;rw[aX] at q;exact⟨δ,k,q⟩
def j4(f g:DE):DE:=λδ=>(f δ).bind λr δ1=>match r with
 | .pure (.bl true)=>g δ1
 | .pure (.bl false)=>.ok (.pure (.bl false)) δ1
 | _=>.stuck
def nh(f g:DE):DE:=λδ=>(f δ).bind λr δ1=>match r with
 | .pure (.bl false)=>g δ1
 | .pure (.bl true)=>.ok (.pure (.bl true)) δ1
 | _=>.stuck
def u5(f:DE):DE:=λδ=>(f δ).bind λr δ1=>match r with
 | .pure (.bl b)=>.ok (.pure (.bl (!b))) δ1
 | _=>.stuck
def Kk(t:DT)(f g:DE):DE:=λδ=>(t δ).bind λb δ1=>if b then f δ1 else g δ1
variable {g:DE}
theorem rM{op}(h:SE X c a f):SE X c (.BoolOp op [a] pos) f:=FW h
theorem u6(ha:SE X c a f)(hb:SE X c (.BoolOp .And (b :: rest) pos) g):SE X c (.BoolOp .And (a :: b :: rest) pos) (j4 f g):=PE.weak (FX ha hb) λσ H Q ⟨δ,k,q⟩=>by
 unfold j4 at q;rw[aX] at q;refine⟨δ,k,aL q λr δ1 q1 v H1 a1 r1=>?_⟩
 cases r with
 | own d=>exact q1.elim
 | pure d =>
  cases d <;> first | exact q1.elim | skip
  rename_i b
  cases r1;refine⟨b,rfl,?_⟩
  cases b with
  | true=>exact⟨δ1,a1.ok,aL q1 λy δ2 q2 v H2 a2 r2=>q2 v H2 (a1.trans a2) (aM.back r2 a1)⟩
  | false=>exact q1 _ H1 a1 (.bl false)
theorem Kl(ha:SE X c a f)(hb:SE X c (.BoolOp .Or (b :: rest) pos) g):SE X c (.BoolOp .Or (a :: b :: rest) pos) (nh f g):=PE.weak (FY ha hb) λσ H Q ⟨δ,k,q⟩=>by
 unfold nh at q;rw[aX] at q;refine⟨δ,k,aL q λr δ1 q1 v H1 a1 r1=>?_⟩
 cases r with
 | own d=>exact q1.elim
 | pure d =>
  cases d <;> first | exact q1.elim | skip
  rename_i b
  cases r1;refine⟨b,rfl,?_⟩
  cases b with
  | false=>exact⟨δ1,a1.ok,aL q1 λy δ2 q2 v H2 a2 r2=>q2 v H2 (a1.trans a2) (aM.back r2 a1)⟩
  | true=>exact q1 _ H1 a1 (.bl true)
theorem Km(ha:SE X c a f):SE X c (.UnaryOp .Not a pos) (u5 f):=PE.weak (FZ ha) λσ H Q ⟨δ,k,q⟩=>by
 unfold u5 at q;rw[aX] at q;refine⟨δ,k,aL q λr δ1 q1 v H1 a1 r1=>?_⟩
 cases r with
 | own d=>exact q1.elim
 | pure d =>
  cases d <;> first | exact q1.elim | skip
  rename_i b
  cases r1;exact⟨b,rfl,q1 _ H1 a1 (.bl _)⟩
end
section
variable {c:Fc} {σ:St} {δ:Dl} {H:Hp} {x:V}
theorem cT.int(h:cT c σ δ H x (.int i)):x = .int i:=by
 rcases h with h | ⟨_,_,h⟩
 ·cases h; rfl
 ·exact h.elim
theorem cT.bl(h:cT c σ δ H x (.bl b)):x = .bl b:=by
 rcases h with h | ⟨_,_,h⟩
 ·cases h; rfl
 ·exact h.elim
theorem cT.str(h:cT c σ δ H x (.str z)):x = .str (toS z):=by
 rcases h with h | ⟨_,_,h⟩
 ·cases h; rfl
 ·exact h.elim
theorem cT.tup(h:cT c σ δ H x (.tup ds)):∃ a vs,x = .ref a/\H a=some (.tup vs)/\ax H (Av c σ δ) vs ds:=by
 rcases h with h | ⟨_,_,h⟩
 ·cases h with
  | tup h1 h2 h3 h4=>exact⟨_,_,rfl,h2,h3,h4⟩
 ·exact h.elim
theorem cT.lst(h:cT c σ δ H x (.lst ds)):∃ a vs,x = .ref a/\Rd H a (.lst vs)/\ax H (Av c σ δ) vs ds:=by
 rcases h with h | ⟨a,e,h⟩
 ·cases h with
  | lst h1 h2 h3 h4=>exact⟨_,_,rfl,h2,h3,h4⟩
 ·obtain⟨vs,h1,h2⟩:=h;exact⟨a,vs,e,.inl h1,h2⟩
theorem cT.aB(h:cT c σ δ H x (.aB ds)):∃ a ws,x = .ref a/\H a=some (.dK ws)/\ws.map (·.1)=ds.map (λp=>cz p.1)/\∀ (i:Nat) p q,ws[i]? = some p->ds[i]? = some q->Rep H (Av c σ δ) p.2 q.2:=by
 rcases h with h | ⟨a,e,h⟩
 ·cases h with
  | aB h1 h2 h3 h4=>exact⟨_,_,rfl,h2,h3,h4⟩
 ·obtain⟨ws,h1,h2,h3⟩:=h;exact⟨a,ws,e,h1,h2,h3⟩
end
theorem BK(h:z.length<=Wa):(toS z).length<=Wa:=by rw[jn]; exact h
theorem Kn(x y:Tx):toS x ++ toS y=toS (x ++ y):=by
 show Str.append (toS x) (toS y)=_;simp[toS,Str.append]
def bw:D->D->Option S
 | .int i,.int j=>some (.pure (.int (i + j)))
 | .str x,.str y=>if x.length + y.length<=Wa then some (.pure (.str (x ++ y))) else none
 | .tup xs,.tup ys=>if xs.length + ys.length<=Wa then some (.pure (.tup (xs ++ ys))) else none
 | .lst xs,.lst ys=>if xs.length + ys.length<=Wa then some (.own (.lst (xs ++ ys))) else none
 | _,_=>none
def BL(K:W1):R2:=λx y H Q=>iF (λi j=>V.int (i + j)) x y H Q\/(∃ i j,x = .str i/\y = .str j/\i.length + j.length<=Wa/\Q (.str (i ++ j)) H) \/
 (∃ a b ys,x = .ref a/\y = .ref b/\cD K H a []/\cD K H b ys/\Q (.ref b) H)\/AB K x y H Q\/Bz K x y H Q
theorem eL:bD X (Qh .Add) (BL X.K):=GD.or (GR.or (JZ.or (Hg.or J_)))
theorem eM{K:W1}:cG (BL K) bw:=by
 intro c σ δ H x y d e s Q k rx ry hp q
 cases d <;> cases e <;> first
  | (simp[bw] at hp; done)
  | skip
 ·rename_i i j;simp only[bw,W9] at hp;subst hp;exact .inl ⟨i,j,rx.int,ry.int,q _ H (.refl k) (.int _)⟩
 ·rename_i u w;simp only[bw] at hp;split at hp
  ·rename_i hz;simp only[W9] at hp;subst hp;refine .inr (.inl ⟨toS u,toS w,rx.str,ry.str,by rw[jn,jn]; exact hz,?_⟩);rw[Kn];exact q _ H (.refl k) (.str _)
  ·cases hp
 ·rename_i us ws;simp only[bw] at hp;split at hp
  ·rename_i hz;simp only[W9] at hp;subst hp;obtain⟨a,vs,ea,ha,ra⟩:=rx.tup;obtain⟨b,zs,eb,hb,rb⟩:=ry.tup
   cases vs with
   | nil =>
    have:us=[]:=by have:=ra.1; simpa using this.symm
    subst this;refine .inr (.inr (.inl ⟨a,b,zs,ea,eb,.of ha,.of hb,?_⟩));rw[eb] at ry;rcases ry with ry | ⟨_,_,ry⟩
    ·exact q _ H (.refl k) ry
    ·exact ry.elim
   | cons v0 vr =>
    refine .inr (.inr (.inr (.inl ⟨a,b,_,zs,ea,eb,.of ha,.of hb,by simp,by rw[ra.1,rb.1]; exact hz,λe0=>?_,λ_ p hp=>?_⟩)))
    ·subst e0;have:ws=[]:=by have:=rb.1; simpa using this.symm
     subst this;rw[ea] at rx;rcases rx with rx | ⟨_,_,rx⟩
     ·rw[WK] at q;exact q _ H (.refl k) rx
     ·exact rx.elim
    ·exact q _ _ (.alloc k hp _) (aM.mX k (ra.append rb) hp)
  ·cases hp
 ·rename_i us ws;simp only[bw] at hp;split at hp
  ·rename_i hz;simp only[W9] at hp;subst hp;obtain⟨a,vs,ea,ha,ra⟩:=rx.lst;obtain⟨b,zs,eb,hb,rb⟩:=ry.lst;exact .inr (.inr (.inr (.inr ⟨a,b,vs,zs,ea,eb,.inl ha,.inl hb,by rw[ra.1,rb.1]; exact hz,λp hp=>q _ _ (.alloc k hp _) (aM.mW k (ra.append rb) hp)⟩)))
  ·cases hp
def dY(C:Int->Int->Bool)(g:Int->Int->D):D->D->Option S
 | .int i,.int j=>if C i j then some (.pure (g i j)) else none
 | _,_=>none
theorem oZ(hC:∀ i j,C' i j=true->C i j)(hg:∀ i j H O,Rep H O (g i j) (g' i j)):cG (rI C g) (dY C' g'):=by
 intro c σ δ H x y d e s Q k rx ry hp q
 cases d <;> cases e <;> first
  | (simp[dY] at hp; done)
  | skip
 rename_i i j;simp only[dY] at hp;split at hp
 ·rename_i hc;simp only[W9] at hp;subst hp;exact⟨i,j,rx.int,ry.int,hC i j hc,q _ H (.refl k) (hg i j H _)⟩
 ·cases hp
theorem Ko(hg:∀ i j H O,Rep H O (g i j) (g' i j)):cG (iF g) (dY (λ_ _=>true) g'):=by
 intro c σ δ H x y d e s Q k rx ry hp q
 cases d <;> cases e <;> first
  | (simp[dY] at hp; done)
  | skip
 rename_i i j;simp only[dY,if_true,W9] at hp;subst hp;exact⟨i,j,rx.int,ry.int,q _ H (.refl k) (hg i j H _)⟩
def u7:=dY (λ_ _=>true) λi j=>.int (i - j)
theorem Kp:cG (iF λi j=>V.int (i - j)) u7:=Ko λ_ _ _ _=>.int _
def jq(i j:Int):Bool:=(decide (-(2 ^ 64) < i) && decide (i < 2 ^ 64)) || (decide (-(2 ^ 64) < j) && decide (j < 2 ^ 64))
def o8:=dY jq λi j=>.int (i * j)
theorem Kq:cG (rI oG λi j=>V.int (i * j)) o8:=oZ (λi j h=>by
 unfold jq at h;simp only[Bool.or_eq_true,Ws,decide_eq_true_eq] at h;exact h) λ_ _ _ _=>.int _
def o9(_ j:Int):Bool:=decide (0 < j) && decide (j < 1073741824)
def rN:=dY o9 λi j=>.int (i / j)
theorem Kr:cG (rI Ac λi j=>V.int (i / j)) rN:=oZ (λi j h=>by
 unfold o9 at h;simp only[Ws,decide_eq_true_eq] at h;exact h) λ_ _ _ _=>.int _
def dZ:=dY (λ_ j=>decide (0 < j)) λi j=>.int (i % j)
theorem kT:cG (rI (λ_ j=>0 < j) λi j=>V.int (i % j)) dZ:=oZ (λi j h=>by simpa using h) λ_ _ _ _=>.int _
def u9(i j:Int):Bool:=decide (0<=j) && decide (j<=1000000) && decide (i.natAbs < 2 ^ 64)
def u_:=dY u9 λi j=>.int (i ^ j.toNat)
theorem Ks:cG (rI Ad λi j=>V.int (i ^ j.toNat)) u_:=oZ (λi j h=>by
 unfold u9 at h;simp only[Ws,decide_eq_true_eq] at h;exact⟨h.1.1,h.1.2,h.2⟩) λ_ _ _ _=>.int _
def cj(d e:D):Option S:=if flat 50 d && flat 50 e then some (.pure (.bl (az d e))) else none
def kU(d e:D):Option S:=if flat 50 d && flat 50 e then some (.pure (.bl (!az d e))) else none
theorem j5:cG Br cj:=by
 intro c σ δ H x y d e s Q k rx ry hp q;unfold cj at hp;split at hp
 ·rename_i hf;rw[Ws] at hf;simp only[W9] at hp;subst hp;exact⟨d,e,rx.un,ry.un,hf.1,hf.2,q _ H (.refl k) (.bl _)⟩
 ·cases hp
theorem BM:cG Bs kU:=by
 intro c σ δ H x y d e s Q k rx ry hp q;unfold kU at hp;split at hp
 ·rename_i hf;rw[Ws] at hf;simp only[W9] at hp;subst hp;exact⟨d,e,rx.un,ry.un,hf.1,hf.2,q _ H (.refl k) (.bl _)⟩
 ·cases hp
def hU(f:Int->Int->Bool)(g:Tx->Tx->Bool):D->D->Option S
 | .int i,.int j=>some (.pure (.bl (f i j)))
 | .str x,.str y=>some (.pure (.bl (g x y)))
 | _,_=>none
def o_(f:Int->Int->Bool)(g:List Nat->List Nat->Bool):R2:=λx y H Q=>iF (λi j=>V.bl (f i j)) x y H Q\/∃ i j,x = .str i/\y = .str j/\Q (.bl (g i.cps.toList j.cps.toList)) H
theorem vb:cG (o_ f g) (hU f g):=by
 intro c σ δ H x y d e s Q k rx ry hp q
 cases d <;> cases e <;> first
  | (simp[hU] at hp; done)
  | skip
 ·rename_i i j;simp only[hU,W9] at hp;subst hp;exact .inl ⟨i,j,rx.int,ry.int,q _ H (.refl k) (.bl _)⟩
 ·rename_i i j;simp only[hU,W9] at hp;subst hp;refine .inr ⟨toS i,toS j,rx.str,ry.str,?_⟩;rw[oS,oS];exact q _ H (.refl k) (.bl _)
theorem BN{X:Cx}{op:CmpOp}{g:List Nat->List Nat->Bool}(rule:∀ (i j:Str) (t u:Tok) (Q:Value->W2->Prop) (s:W2),Q (.bool (g i.cps.toList j.cps.toList)) s->W6 (model X.prog X.w) X.A (WO op (.str i t) (.str j u)) Q X.xe s) :
  bD X (WO op) (λx y H Q=>∃ i j,x = .str i/\y = .str j/\Q (.bl (g i.cps.toList j.cps.toList)) H):=by
 intro pins s σ H x y v u Q I rx ry h;obtain⟨i,j,rfl,rfl,q⟩:=h;obtain⟨t,rfl⟩:=rx;obtain⟨t',rfl⟩:=ry;exact rule i j t t' _ s ⟨.bl _,H,I,rfl,q⟩
def rO:=hU (λi j=>decide (i < j)) λx y=>decide (x < y)
theorem Kt:bD X (WO .Lt) (o_ (λi j=>decide (i < j)) λx y=>decide (x < y)):=GJ.or GN
theorem Ku:cG (o_ (λi j=>decide (i < j)) λx y=>decide (x < y)) rO:=vb
def aE:D->D->Option S
 | .lst ds,.int i=>(cL ds i).map .pure
 | .tup ds,.int i=>(cL ds i).map .pure
 | .str x,.int i=>if x.length<=Wa then(cL x i).map λn=>.pure (.str [n]) else none
 | _,_=>none
theorem BO(r:ax H O vs ds)(h:cL ds i=some d):∃ v,cL vs i=some v/\Rep H O v d:=by
 unfold cL at h ⊢;rw[r.1]
 cases e:dR ds.length i with
 | none=>rw[e] at h; cases h
 | some j =>
  rw[e] at h;exact r.get h
theorem cH{K:W1}:cG (qO K) aE:=by
 intro c σ δ H x y d e s Q k rx ry hp q
 cases d <;> cases e <;> first
  | (simp[aE] at hp; done)
  | skip
 ·rename_i z i;simp only[aE] at hp;split at hp
  ·rename_i hz
   cases e1:cL z i with
   | none=>rw[e1] at hp; cases hp
   | some n =>
    rw[e1] at hp;simp only[WG,W9] at hp;subst hp;refine .inr (.inr ⟨toS z,i,n,rx.str,ry.int,BK hz,by rw[oS]; exact e1,?_⟩);exact q (.str (toS [n])) H (.refl k) (.str [n])
  ·cases hp
 ·rename_i ds i;simp only[aE] at hp
  cases e1:cL ds i with
  | none=>rw[e1] at hp; cases hp
  | some n =>
   rw[e1] at hp;simp only[WG,W9] at hp;subst hp;obtain⟨a,vs,ea,ha,ra⟩:=rx.tup;obtain⟨v,e2,r2⟩:=BO ra e1;exact .inr (.inl ⟨a,vs,i,v,ea,ry.int,.of ha,e2,q v H (.refl k) r2⟩)
 ·rename_i ds i;simp only[aE] at hp
  cases e1:cL ds i with
  | none=>rw[e1] at hp; cases hp
  | some n =>
   rw[e1] at hp;simp only[WG,W9] at hp;subst hp;obtain⟨a,vs,ea,ha,ra⟩:=rx.lst;obtain⟨v,e2,r2⟩:=BO ra e1;exact .inl ⟨a,vs,i,v,ea,ry.int,.inl ha,e2,q v H (.refl k) r2⟩
def rP:=hU (λi j=>decide (j < i)) λx y=>decide (y < x)
def BP:=hU (λi j=>decide (j<=i)) λx y=>!decide (x < y)
theorem Kv:bD X (WO .Gt) (o_ (λi j=>decide (j < i)) λx y=>decide (y < x)):=GK.or (BN (g:=λx y=>decide (y < x)) λ_ _ _ _ _ _ h=>PySem.P.gt_str h)
theorem Kw:bD X (WO .GtE) (o_ (λi j=>decide (j<=i)) λx y=>!decide (x < y)):=GL.or (BN (g:=λx y=>!decide (x < y)) λ_ _ _ _ _ _ h=>PySem.P.ge_str h)
abbrev DA:=Dl->Rs (List D)
def Kx(c:Fc)(f:DA):TA:=λσ H Q=>∃ δ,Ok c σ δ H/\post c (f δ) λds δ'=>∀ vs H',ay c σ δ H σ δ' H'->ax H' (Av c σ δ') vs ds->Q vs H'
structure SA(X:Cx)(c:Fc)(es:List Expr)(f:DA):Prop where
 pa:PA X es (Kx c f)
 len:∀ δ ds δ',f δ = .ok ds δ'->ds.length=es.length
theorem PA.weak(h:PA X es t)(w:∀ σ H Q,t' σ H Q->t σ H Q):PA X es t':=λpos pins s σ H Q I q=>h pos pins s σ H Q I (w σ H Q q)
def ck:DA:=λδ=>.ok [] δ
def aO(f:DE)(g:DA):DA:=λδ=>(f δ).bind λx δ1=>(g δ1).bind λxs δ2=>.ok (x.d :: xs) δ2
section
variable {X:Cx} {c:Fc} {e:Expr} {es:List Expr} {f:DE} {g:DA} {pos:Pos}
theorem dJ:SA X c [] ck:=⟨PA.weak eU λσ H Q ⟨δ,k,q⟩=>q [] H (.refl k) .nil,λδ ds δ' h=>by cases h; rfl⟩
theorem BQ(ha:SE X c e f)(hr:SA X c es g)(hs:W5 (e :: es) X.env=(false,eval e X.env) :: W5 es X.env:=by rfl):SA X c (e :: es) (aO f g):=by
 refine⟨PA.weak (df ha hr.pa hs) λσ H Q ⟨δ,k,q⟩=>?_,λδ ds δ' h=>?_⟩
 ·unfold aO at q;rw[aX] at q;refine⟨δ,k,aL q λx δ1 q1 v H1 a1 r1=>⟨δ1,a1.ok,?_⟩⟩;rw[aX] at q1;exact aL q1 λxs δ2 q2 vs H2 a2 r2=>q2 (v :: vs) H2 (a1.trans a2) (.cons (Rep.dA r1.rep a2) r2)
 ·unfold aO at h
  cases h1:f δ with
  | ok x δ1 =>
   rw[h1] at h
   cases h2:g δ1 with
   | ok xs δ2 =>
    simp only[Rs.bind,h2] at h
    cases h;simp[hr.len _ _ _ h2]
   | exc x δx=>simp only[Rs.bind,h2] at h; cases h
   | stuck=>simp only[Rs.bind,h2] at h; cases h
  | exc x δx=>rw[h1] at h; cases h
  | stuck=>rw[h1] at h; cases h
def d_(f:DA):DE:=λδ=>(f δ).bind λds δ'=>.ok (.pure (.tup ds)) δ'
def fj(f:DA):DE:=λδ=>(f δ).bind λds δ'=>.ok (.own (.lst ds)) δ'
theorem BR(h:n<=1000):n<=Wa:=Jk (Ih h)
theorem BS(h:post c r k):post c r λa δ=>r = .ok a δ/\k a δ:=by
 cases r with
 | ok a δ=>exact⟨rfl,h⟩
 | exc x δx=>exact h
 | stuck=>exact h
theorem iN{x1}(h:SA X c es g)(hz:es.length<=1000:=by decide):SE X c (.Tuple es x1 pos) (d_ g):=PE.weak (G2 h.pa) λσ H Q ⟨δ,k,q⟩=>by
 unfold d_ at q;rw[aX] at q;refine⟨δ,k,aL (BS q) λds δ1 ⟨e1,q1⟩ vs H1 a1 r1=>?_⟩;have hl:=h.len _ _ _ e1;exact⟨by rw[r1.1,hl]; exact BR hz,λp hp=>q1 _ _ (a1.trans (.alloc a1.ok hp _)) (aM.back (aM.mX a1.ok r1 hp) a1)⟩
theorem iO(h:SA X c es g)(hz:es.length<=1000:=by decide):SE X c (.List es pos) (fj g):=PE.weak (G3 h.pa) λσ H Q ⟨δ,k,q⟩=>by
 unfold fj at q;rw[aX] at q;refine⟨δ,k,aL (BS q) λds δ1 ⟨e1,q1⟩ vs H1 a1 r1=>?_⟩;have hl:=h.len _ _ _ e1;exact⟨by rw[r1.1,hl]; exact BR hz,λp hp=>q1 _ _ (a1.trans (.alloc a1.ok hp _)) (aM.back (aM.mW a1.ok r1 hp) a1)⟩
end
def p1(p:D->Option S)(x:D)(δ:Dl):Rs S:=match p x with
 | some s=>.ok s δ
 | none=>.stuck
def bh(p:D->Option S)(fb:BE):DE:=λδ=>(fb δ).bind λx δ1=>p1 p x δ1
def jr(r:V->Hp->VK->Prop)(p:D->Option S):Prop:=∀ (c:Fc) (σ:St) (δ:Dl) (H:Hp) (x:V) (d:D) (s:S) (Q:VK),Ok c σ δ H->cT c σ δ H x d->p d=some s ->
 (∀ v H',ay c σ δ H σ δ H'->aM c σ δ H H' v s->Q v H')->r x H Q
section
variable {X:Cx} {c:Fc} {e:Expr} {fb:BE} {r:V->Hp->VK->Prop} {p:D->Option S} {x:Str} {id T:String} {pp pos:Pos}
theorem BU(hp:jr r p)(k:Ok c σ δ H)(rx:cT c σ δ H v d)
  (h:post c (p1 p d δ) λs δ'=>∀ v H',ay c σ δ H σ δ' H'->aM c σ δ' H H' v s->Q v H'):r v H Q:=by
 unfold p1 at h
 cases e1:p d with
 | none=>rw[e1] at h; exact h.elim
 | some s=>rw[e1] at h; exact hp c σ δ H v d s Q k rx e1 h
theorem pb(hp:jr r p)(h:tD c (bh p fb) σ H Q):GC r (tB c fb) σ H Q:=by
 obtain⟨δ,k,q⟩:=h;unfold bh at q;rw[aX] at q;exact⟨δ,k,aL q λy δ1 q1 v H1 a1 r1=>BU hp a1.ok r1 (aL q1 λs δ2 q2 w H2 a2 r2=>q2 w H2 (a1.trans a2) (aM.back r2 a1))⟩
theorem vc(hc:dH X (.builtin id) rl)(hl:∀ v H Q,r v H Q->rl [v] H Q)(hp:jr r p)(hg:Gl X x)(hm:X.mg x=none)(hv:Q9 x=some (.builtin id))(he:SB X c e fb)
  (hn:x≠"__name__":=by decide) (cq:(x == ("__debug__" : Str))=false:=by decide) (hs:W5 [e] X.env=(false,eval e X.env) :: W5 [] X.env:=by rfl) (bx:(WN pos (W5 [] X.env)).any (·.1)=false:=by rfl) :
  SE X c (.Call (.Name x pp) [e] [] pos) (bh p fb):=PE.weak (mO hc hg hm hv (df he eU hs) hn cq hs bx) λσ H Q h=>by
 obtain⟨δ,k,q⟩:=pb hp h;exact⟨δ,k,aL q λy δ1 q1 v H1 a1 r1=>hl _ _ _ (q1 v H1 a1 r1)⟩
theorem rQ(hc:dH X (.type T) rl)(hl:∀ v H Q,r v H Q->rl [v] H Q)(hp:jr r p)(hg:Gl X x)(hm:X.mg x=none)(hv:Q9 x=some (.type T))(he:SB X c e fb)
  (hn:x≠"__name__":=by decide) (cq:(x == ("__debug__" : Str))=false:=by decide) (hs:W5 [e] X.env=(false,eval e X.env) :: W5 [] X.env:=by rfl) (bx:(WN pos (W5 [] X.env)).any (·.1)=false:=by rfl) :
  SE X c (.Call (.Name x pp) [e] [] pos) (bh p fb):=PE.weak (Aw hc hg hm hv (df he eU hs) hn cq hs bx) λσ H Q h=>by
 obtain⟨δ,k,q⟩:=pb hp h;exact⟨δ,k,aL q λy δ1 q1 v H1 a1 r1=>hl _ _ _ (q1 v H1 a1 r1)⟩
def di:D->Option S
 | .lst ds=>some (.pure (.int ds.length))
 | .tup ds=>some (.pure (.int ds.length))
 | .str z=>if z.length<=Wa then some (.pure (.int z.length)) else none
 | .aB ds=>some (.pure (.int ds.length))
 | _=>none
def Ky(K:W1):V->Hp->VK->Prop:=λv H Q=>((∃ p ys,v = .ref p/\(cg K H p ys\/cD K H p ys)/\Q (.int ys.length) H)\/∃ z,v = .str z/\z.length<=Wa/\Q (.int z.length) H)\/∃ a kvs,v=V.ref a/\H a=some (.dK kvs)/\Q (.int kvs.length) H
theorem Kz{K:W1}:jr (Ky K) di:=by
 intro c σ δ H x d s Q k rx hp q
 cases d with
 | lst ds =>
  simp only[di,W9] at hp;subst hp;obtain⟨a,vs,ea,ha,ra⟩:=rx.lst;exact .inl (.inl ⟨a,vs,ea,.inl (.inl ha),by rw[ra.1]; exact q _ H (.refl k) (.int _)⟩)
 | tup ds =>
  simp only[di,W9] at hp;subst hp;obtain⟨a,vs,ea,ha,ra⟩:=rx.tup;exact .inl (.inl ⟨a,vs,ea,.inr (.of ha),by rw[ra.1]; exact q _ H (.refl k) (.int _)⟩)
 | str z =>
  simp only[di] at hp;split at hp
  ·rename_i hz;simp only[W9] at hp;subst hp;exact .inl (.inr ⟨toS z,rx.str,BK hz,by rw[jn]; exact q _ H (.refl k) (.int _)⟩)
  ·cases hp
 | aB ds =>
  simp only[di,W9] at hp;subst hp;obtain⟨a,ws,ea,ha,h1,h2⟩:=rx.aB;have hl:ws.length=ds.length:=by have:=congrArg Js h1; simpa using this
  exact .inr ⟨a,ws,ea,ha,by rw[hl]; exact q _ H (.refl k) (.int _)⟩
 | _=>simp[di] at hp
theorem pe (hg:Gl X "len") (hm:X.mg "len" = none) (he:SB X c e fb) (hs:W5 [e] X.env=(false,eval e X.env) :: W5 [] X.env:=by rfl):SE X c (.Call (.Name "len" pp) [e] [] pos) (bh di fb) :=
 vc ((Hw.or Hx).or Ii) (λv H Q h=>by
  rcases h with (⟨p,ys,e,h⟩ | ⟨z,e,h⟩) | ⟨a,kvs,e,h⟩
  ·exact .inl (.inl ⟨p,ys,by rw[e],h⟩)
  ·exact .inl (.inr ⟨z,by rw[e],h⟩)
  ·exact .inr ⟨a,kvs,by rw[e],h⟩) (Kz (K:=X.K)) hg hm PySem.boot_len he (by decide) (by decide) hs
def fS:D->Option S
 | .lst ds=>some (.pure (.tup ds))
 | .tup ds=>some (.pure (.tup ds))
 | _=>none
def KA(K:W1):V->Hp->VK->Prop:=λv H Q=>∃ p ys,v = .ref p/\((cg K H p ys/\∀ l,H l=none->Q (.ref l) (upd H l (.tup ys)))\/(cD K H p ys/\Q (.ref p) H))
theorem KC{K:W1}:jr (KA K) fS:=by
 intro c σ δ H x d s Q k rx hp q
 cases d with
 | lst ds =>
  simp only[fS,W9] at hp;subst hp;obtain⟨a,vs,ea,ha,ra⟩:=rx.lst;exact⟨a,vs,ea,.inl ⟨.inl ha,λl hl=>q _ _ (.alloc k hl _) (aM.mX k ra hl)⟩⟩
 | tup ds =>
  simp only[fS,W9] at hp;subst hp;obtain⟨a,vs,ea,ha,ra⟩:=rx.tup;refine⟨a,vs,ea,.inr ⟨.of ha,?_⟩⟩;rw[ea] at rx;rcases rx with rx | ⟨_,_,rx⟩
  ·exact q _ H (.refl k) rx
  ·exact rx.elim
 | _=>simp[fS] at hp
theorem vd (hg:Gl X "tuple") (hm:X.mg "tuple" = none) (he:SB X c e fb) (hs:W5 [e] X.env=(false,eval e X.env) :: W5 [] X.env:=by rfl):SE X c (.Call (.Name "tuple" pp) [e] [] pos) (bh fS fb) :=
 rQ Hy (λv H Q ⟨p,ys,e,h⟩=>⟨p,ys,by rw[e],h⟩) (KC (K:=X.K)) hg hm PyProof.Rows.boot_tuple he (by decide) (by decide) hs
def ni:D->Option S
 | .int i=>some (.pure (.int i))
 | .bl b=>some (.pure (.int (if b then 1 else 0)))
 | _=>none
theorem KD (hg:Gl X "int") (hm:X.mg "int" = none) (he:SB X c e fb) (hs:W5 [e] X.env=(false,eval e X.env) :: W5 [] X.env:=by rfl):SE X c (.Call (.Name "int" pp) [e] [] pos) (bh ni fb) :=
 rQ (r:=λv H Q=>(∃ i,v = .int i/\Q (.int i) H)\/∃ k,v = .bl k/\Q (.int (if k then 1 else 0)) H) GU (λv H Q h=>by
  rcases h with ⟨i,e,q⟩ | ⟨k,e,q⟩
  ·exact .inl ⟨i,by rw[e],q⟩
  ·exact .inr ⟨k,by rw[e],q⟩) (λc σ δ H x d s Q k rx hp q=>by
  cases d with
  | int i =>
   simp only[ni,W9] at hp;subst hp;exact .inl ⟨i,rx.int,q _ H (.refl k) (.int _)⟩
  | bl b =>
   simp only[ni,W9] at hp;subst hp;exact .inr ⟨b,rx.bl,q _ H (.refl k) (.int _)⟩
  | _=>simp[ni] at hp) hg hm PyProof.Rows.boot_int he (by decide) (by decide) hs
def fG:List D->Option (List Bool)
 | []=>some []
 | .bl b :: r=>(fG r).map (b :: ·)
 | _ :: _=>none
def fH:List D->Option (List Tx)
 | []=>some []
 | .str x :: r=>(fH r).map (x :: ·)
 | _ :: _=>none
theorem rR:∀ {ds:List D} {vs:List V} {bs:List Bool},fG ds=some bs->ax H O vs ds->vs=bs.map V.bl
 | [],vs,bs,h,r=>by
  simp only[fG,W9] at h;subst h;have:=r.1;simpa using this
 | d :: ds,[],bs,h,r=>by have:=r.1; simp at this
 | d :: ds,v :: vs,bs,h,r=>by
  cases d with
  | bl b =>
   simp only[fG] at h
   cases e:fG ds with
   | none=>rw[e] at h; cases h
   | some rS =>
    rw[e] at h;simp only[WG,W9] at h;subst h;have:=r.head
    cases this;rw[rR e r.tail];rfl
  | _=>simp[fG] at h
theorem pf:∀ {ds:List D} {vs:List V} {bs:List Tx},fH ds=some bs->ax H O vs ds->vs=bs.map λz=>V.str (toS z)
 | [],vs,bs,h,r=>by
  simp only[fH,W9] at h;subst h;have:=r.1;simpa using this
 | d :: ds,[],bs,h,r=>by have:=r.1; simp at this
 | d :: ds,v :: vs,bs,h,r=>by
  cases d with
  | str b =>
   simp only[fH] at h
   cases e:fH ds with
   | none=>rw[e] at h; cases h
   | some rS =>
    rw[e] at h;simp only[WG,W9] at h;subst h;have:=r.head
    cases this;rw[pf e r.tail];rfl
  | _=>simp[fH] at h
theorem vf:∀ ts:List Tx,ax H O (ts.map λz=>V.str (toS z)) (ts.map D.str)
 | []=>.nil
 | t :: ts=>.cons (.str t) (vf ts)
def j6:D->Option S
 | .lst ds=>(fG ds).map λbs=>.pure (.bl (bs.all (λb=>b)))
 | _=>none
def l5:D->Option S
 | .lst ds=>match fH ds with
  | some ts=>if ts.length < 64 then some (.own (.lst ((eK ts).map D.str))) else none
  | none=>none
 | _=>none
theorem KG:Q9 "all" = some (.builtin "all"):=by decide +kernel
theorem BV (hc:X.calm=true) (hg:Gl X "all") (hm:X.mg "all" = none) (he:SB X c e fb) (hs:W5 [e] X.env=(false,eval e X.env) :: W5 [] X.env:=by rfl):SE X c (.Call (.Name "all" pp) [e] [] pos) (bh j6 fb) :=
 vc (r:=λv H Q=>∃ (a:Addr) (bs:List Bool),v = .ref a/\cg X.K H a (bs.map V.bl)/\Q (.bl (bs.all (λb=>b))) H) (Kb hc) (λv H Q ⟨a,bs,e,h⟩=>⟨a,bs,by rw[e],h⟩) (λc σ δ H x d s Q k rx hp q=>by
  cases d with
  | lst ds =>
   simp only[j6] at hp
   cases e:fG ds with
   | none=>rw[e] at hp; cases hp
   | some bs =>
    rw[e] at hp;simp only[WG,W9] at hp;subst hp;obtain⟨a,vs,ea,ha,ra⟩:=rx.lst;have:=rR e ra;subst this;exact⟨a,bs,ea,.inl ha,q _ H (.refl k) (.bl _)⟩
  | _=>simp[j6] at hp) hg hm KG he (by decide) (by decide) hs
theorem BW (hg:Gl X "sorted") (hm:X.mg "sorted" = none) (he:SB X c e fb) (hs:W5 [e] X.env=(false,eval e X.env) :: W5 [] X.env:=by rfl):SE X c (.Call (.Name "sorted" pp) [e] [] pos) (bh l5 fb) :=
 vc (r:=λv H Q=>∃ (a:Addr) (ts:List Tx),v = .ref a/\cg X.K H a (ts.map λz=>V.str (toS z))/\ts.length < 64/\∀ p,H p=none->Q (.ref p) (upd H p (.lst ((eK ts).map λz=>V.str (toS z))))) Kd (λv H Q ⟨a,bs,e,h⟩=>⟨a,bs,by rw[e],h⟩) (λc σ δ H x d s Q k rx hp q=>by
  cases d with
  | lst ds =>
   simp only[l5] at hp
   cases e:fH ds with
   | none=>rw[e] at hp; cases hp
   | some ts =>
    rw[e] at hp;simp only at hp;split at hp
    ·rename_i hz;simp only[W9] at hp;subst hp;obtain⟨a,vs,ea,ha,ra⟩:=rx.lst;have:=pf e ra;subst this;exact⟨a,ts,ea,.inl ha,hz,λp hp=>q _ _ (.alloc k hp _) (aM.mW k (vf _) hp)⟩
    ·cases hp
  | _=>simp[l5] at hp) hg hm PyProof.Rows.boot_sorted he (by decide) (by decide) hs
def vg:D->D->Option S
 | .int i,.int j=>some (.pure (.int (if j > i then j else i)))
 | _,_=>none
def rT(f g:DE):DE:=λδ=>(f δ).bind λx δ1=>(g δ1).bind λy δ2=>p2 vg x.d y.d δ2
theorem KH {a b:Expr} {f g:DE} (hc:X.calm=true) (hg:Gl X "max") (hm:X.mg "max" = none) (ha:SE X c a f) (hb:SE X c b g) (hs:W5 [a,b] X.env=(false,eval a X.env) :: W5 [b] X.env:=by rfl)
  (jt:W5 [b] X.env=(false,eval b X.env) :: W5 [] X.env:=by rfl) (bx:(WN pos (W5 [b] X.env)).any (·.1)=false:=by rfl):SE X c (.Call (.Name "max" pp) [a,b] [] pos) (rT f g) :=
 PE.weak (mO (GS hc) hg hm PyProof.Rows.boot_max (df ha (df hb eU jt) hs) (by decide) (by decide) hs bx) λσ H Q ⟨δ,k,q⟩=>by
  unfold rT at q;rw[aX] at q;refine⟨δ,k,aL q λx δ1 q1 v H1 a1 r1=>⟨δ1,a1.ok,?_⟩⟩;rw[aX] at q1;refine aL q1 λy δ2 q2 u H2 a2 r2=>?_
  unfold p2 at q2;have hx:cT c σ δ2 H2 v x.d:=.inl (Rep.dA r1.rep a2);have hy:=r2.b;generalize x.d=dx at q2 hx;generalize y.d=dy at q2 hy
  cases dx <;> cases dy <;> first
   | exact q2.elim
   | skip
  rename_i i j;exact⟨i,j,by rw[hx.int,hy.int],q2 _ H2 (a1.trans a2) (.int _)⟩
def ju(T:String):D->Option Bool
 | .aq=>some (T == "NoneType")
 | .bl _=>some (T == "bool" || T == "int")
 | .int _=>some (T == "int")
 | .str _=>some (T == "str")
 | .tup _=>some (T == "tuple")
 | .lst _=>some (T == "list")
 | .aB _=>some (T == "dict")
 | .exc _ _=>none
 | .xd _=>none
 | .fn _=>none
structure gG(K:W1)(T:String):Prop where
 aq:Qz K (.type "NoneType") (.type T)=some (T == "NoneType")
 bl:Qz K (.type "bool") (.type T)=some (T == "bool" || T == "int")
 int:Qz K (.type "int") (.type T)=some (T == "int")
 str:Qz K (.type "str") (.type T)=some (T == "str")
 tup:Qz K (.type "tuple") (.type T)=some (T == "tuple")
 lst:Qz K (.type "list") (.type T)=some (T == "list")
 aB:Qz K (.type "dict") (.type T)=some (T == "dict")
def fU(T:String)(fb:BE):DE:=λδ=>(fb δ).bind λd δ'=>match ju T d with
 | some b=>.ok (.pure (.bl b)) δ'
 | none=>.stuck
theorem KI(ty:gG X.K T)(I:Inv X pins σ H s)(ru:RelV v u)(r:Rep H cZ v d)(e:ju T d=some b)(q:Q (.bl b) H) :
  W6 (model X.prog X.w) X.A (call (.builtin "isinstance") [u,.type T]) (EP X pins σ Q) X.xe s:=by
 have fin:∀ tk,EP X pins σ Q (.bool b) { s with toks:=tk }:=λtk=>⟨.bl b,H,I.tok tk,rfl,q⟩
 cases r with
 | aq=>exact kJ I ru .aq (ty.aq.trans e) fin
 | bl x=>exact kJ I ru (.bl x) (ty.bl.trans e) fin
 | int x=>exact kJ I ru (.int x) (ty.int.trans e) fin
 | str x=>exact kJ I ru (.str _) (ty.str.trans e) fin
 | tup _ h2 _ _=>exact kJ I ru (.tup h2) (ty.tup.trans e) fin
 | lst _ h2 _ _ =>
  rcases h2 with h2 | ⟨o,h2⟩
  ·exact kJ I ru (.lst h2) (ty.lst.trans e) fin
  ·exact kJ I ru (.frz h2) (ty.lst.trans e) fin
 | aB _ h2 _ _=>exact kJ I ru (.dK h2) (ty.aB.trans e) fin
 | exc _ _=>cases e
 | xd _ _=>cases e
 | fn _=>cases e
theorem KJ (ty:gG X.K T):dH X (.builtin "isinstance") (λxs H Q=>∃ v d b,xs=[v,.ty T]/\Rep H cZ v d/\ju T d=some b/\Q (.bl b) H):=by
 intro pins s σ H xs us Q I r h;obtain⟨v,d,b,rfl,rp,e,q⟩:=h;obtain⟨u,w',rfl,r1,r2⟩:=t9 r
 cases r2;exact KI ty I r1 rp e q
theorem ph {y:Str} {py:Pos} (ty:gG X.K T) (hg:Gl X "isinstance") (hm:X.mg "isinstance" = none) (pj:Gl X y) (pk:X.mg y=none) (vh:Q9 y=some (.type T)) (he:SB X c e fb)
  (vi:y≠"__name__":=by decide) (pq:(y == ("__debug__" : Str))=false:=by decide)
  (hs:W5 [e,.Name y py] X.env=(false,eval e X.env) :: W5 [.Name y py] X.env:=by rfl) (bx:(WN pos (W5 [.Name y py] X.env)).any (·.1)=false:=by rfl) :
  SE X c (.Call (.Name "isinstance" pp) [e,.Name y py] [] pos) (fU T fb) :=
 PE.weak (mO (KJ ty) hg hm PyProof.Rows.boot_isinstance (df he (df (zR (v:=.ty T) pj pk vh rfl vi pq) eU) hs) (by decide) (by decide) hs bx) λσ H Q ⟨δ,k,q⟩=>by
  unfold fU at q;rw[aX] at q;refine⟨δ,k,aL q λd δ1 q1 v H1 a1 r1=>?_⟩
  cases e1:ju T d with
  | none=>rw[e1] at q1; exact q1.elim
  | some b =>
   rw[e1] at q1;exact⟨v,d,b,rfl,r1.un,e1,q1 _ H1 a1 (.bl _)⟩
end
abbrev kW:=Dl->Rs (Option Int)
def KL(c:Fc)(f:kW):TO:=λσ H Q=>∃ δ,Ok c σ δ H/\post c (f δ) λo δ'=>∀ H',ay c σ δ H σ δ' H'->Q o H'
abbrev SO(X:Cx)(c:Fc)(e:Option Expr)(f:kW):Prop:=PO X e (KL c f)
theorem PO.weak(h:PO X e t)(w:∀ σ H Q,t' σ H Q->t σ H Q):PO X e t':=λpins s σ H Q I q=>h pins s σ H Q I (w σ H Q q)
def KN:kW:=λδ=>.ok none δ
def l6(f:DE):kW:=λδ=>(f δ).bind λr δ'=>match r with
 | .pure (.int i)=>.ok (some i) δ'
 | _=>.stuck
section
variable {X:Cx} {c:Fc} {e:Expr} {f:DE} {fb:BE} {fl fh:kW} {lo hi:Option Expr} {pos p2:Pos}
theorem BX(h:SE X c e f):SO X c (some e) (l6 f):=PO.weak (Hb h) λσ H Q ⟨δ,k,q⟩=>by
 unfold l6 at q;rw[aX] at q;refine⟨δ,k,aL q λr δ1 q1 v H1 a1 r1=>?_⟩
 cases r with
 | own d=>exact q1.elim
 | pure d =>
  cases d <;> first | exact q1.elim | skip
  rename_i i
  cases r1;exact⟨i,rfl,q1 H1 a1⟩
def jv(lo hi:Option Int):D->Option S
 | .str x=>if x.length<=Wa then some (.pure (.str (cU x lo hi))) else none
 | .tup ds=>some (.pure (.tup (cU ds lo hi)))
 | .lst ds=>some (.own (.lst (cU ds lo hi)))
 | _=>none
def BY(K:W1):V->Option Int->Option Int->Hp->VK->Prop:=λx lo hi H Q=>Bx x lo hi H Q\/Bv K x lo hi H Q\/AI K x lo hi H Q
theorem KO:jk X (BY X.K):=I_.or (IY.or Ht)
theorem KP{K:W1}(lo hi:Option Int):jr (λx H Q=>BY K x lo hi H Q) (jv lo hi):=by
 intro c σ δ H x d s Q k rx hp q
 cases d with
 | str z =>
  simp only[jv] at hp;split at hp
  ·rename_i hz;simp only[W9] at hp;subst hp;exact .inl ⟨z,rx.str,hz,q _ H (.refl k) (.str _)⟩
  ·cases hp
 | tup ds =>
  simp only[jv,W9] at hp;subst hp;obtain⟨a,vs,ea,ha,ra⟩:=rx.tup;refine .inr (.inl ⟨a,vs,ea,.of ha,λhw=>?_,λ_ p hp=>?_⟩)
  ·rw[ra.1] at hw;rw[IW hw] at q;rw[ea] at rx;rcases rx with rx | ⟨_,_,rx⟩
   ·exact q _ H (.refl k) rx
   ·exact rx.elim
  ·rw[<- Bu];exact q _ _ (.alloc k hp _) (aM.mX k (ra.cut lo hi) hp)
 | lst ds =>
  simp only[jv,W9] at hp;subst hp;obtain⟨a,vs,ea,ha,ra⟩:=rx.lst;refine .inr (.inr ⟨a,vs,ea,.inl ha,λp hp=>?_⟩);rw[<- Bu];exact q _ _ (.alloc k hp _) (aM.mW k (ra.cut lo hi) hp)
 | _=>simp[jv] at hp
def KQ(f:DE)(fl fh:kW):DE:=λδ=>(f δ).bind λx δ1=>(fl δ1).bind λl δ2=>(fh δ2).bind λh δ3=>p1 (jv l h) x.d δ3
def pw(i:Nat)(fl fh:kW):DE:=λδ=>match δ[i]? with
 | some (some _)=>(fl δ).bind λl δ2=>(fh δ2).bind λh δ3=>(ao i δ3).bind λx δ4=>p1 (jv l h) x δ4
 | _=>.stuck
theorem vj{i:Nat}{σ:St}{δ:Dl}{H:Hp}{v:V}{w:S}(k:Ok c σ δ H)(e:δ[i]? = some (some w))(ev:σ[i]? = some (some v)):cT c σ δ H v w.d:=by
 cases w with
 | pure d =>
  obtain⟨v',e1,r⟩:=k.slot i d e;rw[ev] at e1; cases e1
  exact .inl r
 | own d =>
  obtain⟨a,e1,r,_⟩:=k.own i d e;rw[ev] at e1; cases e1
  exact .inr ⟨a,rfl,r⟩
theorem KR(h:post c ((ao i δ).bind g) kk):∃ w,δ[i]? = some (some w)/\post c (g w.d δ) kk:=by
 unfold ao at h
 cases e:δ[i]? with
 | none=>rw[e] at h; exact h.elim
 | some o =>
  cases o with
  | none=>rw[e] at h; exact h.elim
  | some w=>rw[e] at h; exact⟨w,rfl,h⟩
theorem KS{i:Nat}(he:PE X e (cY i))(hl:SO X c lo fl)(hh:SO X c hi fh):SE X c (.Subscript e (.Slice lo hi none p2) pos) (pw i fl fh):=PE.weak (Hd KO he hl hh) λσ H Q ⟨δ,k,q⟩=>by
 unfold pw at q
 cases e:δ[i]? with
 | none=>rw[e] at q; exact q.elim
 | some o =>
  cases o with
  | none=>rw[e] at q; exact q.elim
  | some w =>
   rw[e] at q;obtain⟨v,ev⟩:=m_ k e;have q':post c ((fl δ).bind λl δ2=>(fh δ2).bind λh δ3=>(ao i δ3).bind λx δ4=>p1 (jv l h) x δ4) λr δ'=>∀ v H',ay c σ δ H σ δ' H'->aM c σ δ' H H' v r->Q v H':=q
   rw[aX] at q';refine⟨v,ev,δ,k,aL q' λl δ2 q2 H2 a2=>⟨δ2,a2.ok,?_⟩⟩;rw[aX] at q2;refine aL q2 λh δ3 q3 H3 a3=>?_
   obtain⟨w3,e3,q4⟩:=KR q3;exact BU (KP l h) a3.ok (vj a3.ok e3 ev) (aL q4 λs δ4 q4 w H4 a4 r4=>q4 w H4 (a2.trans (a3.trans a4)) (aM.back r4 (a2.trans a3)))
def iP(z:Tx):List Tx->Tx
 | []=>[]
 | [x]=>x
 | x :: y :: r=>x ++ z ++ iP z (y :: r)
theorem BZ(z:Tx):∀ (r:List Tx) (acc:Tx),((r.map toS).foldl (λ(acc:Array Nat) p=>acc ++ (toS z).cps ++ p.cps) acc.toArray)=(match r with | []=>acc | x :: r'=>acc ++ z ++ iP z (x :: r')).toArray
 | [],acc=>rfl
 | x :: r,acc=>by
  rw[Wo,QS];have e:acc.toArray ++ (toS z).cps ++ (toS x).cps=(acc ++ z ++ x).toArray:=by simp[toS]
  rw[e,BZ z r (acc ++ z ++ x)]
  cases r with
  | nil=>simp[iP]
  | cons y r'=>simp[iP]
theorem KU(z:Tx)(ts:List Tx):Txt.join (toS z) (ts.map toS)=toS (iP z ts):=by
 show Builtin.Str.glued _ _=_;unfold Builtin.Str.glued
 cases ts with
 | nil=>rfl
 | cons x r =>
  rw[Wo];show(⟨(List.foldl _ (toS x).cps (r.map toS))⟩:Str)=_;have:=BZ z r x;have e:(toS x).cps=x.toArray:=rfl;rw[e,this]
  cases r with
  | nil=>rfl
  | cons y r'=>rfl
def gu(ts:List Tx):Nat:=(ts.map (·.length)).sum
def dB(z:Tx):D->Option S
 | .lst ds=>match fH ds with
  | some ts=>if gu ts + ts.length * z.length<=16777216 then some (.pure (.str (iP z ts))) else none
  | none=>none
 | .tup ds=>match fH ds with
  | some ts=>if gu ts + ts.length * z.length<=16777216 then some (.pure (.str (iP z ts))) else none
  | none=>none
 | _=>none
theorem KW{K:W1}(z:Tx):jr (λx H Q=>rE K (.str (toS z)) [x] H Q) (dB z):=by
 intro c σ δ H x d s Q k rx hp q;have key:∀ (a:Addr) (vs:List V) (ds:List D),x = .ref a->(cg K H a vs\/cD K H a vs)->ax H (Av c σ δ) vs ds->(match fH ds with | some ts=>if gu ts + ts.length * z.length<=16777216 then some (S.pure (.str (iP z ts))) else none | none=>none)=some s->rE K (.str (toS z)) [x] H Q:=by
  intro a vs ds ea ha ra hp
  cases e:fH ds with
  | none=>rw[e] at hp; cases hp
  | some ts =>
   rw[e] at hp;simp only at hp;split at hp
   ·rename_i hz;simp only[W9] at hp;subst hp;have:=pf e ra;subst this;refine⟨toS z,a,ts.map toS,rfl,by rw[ea],?_,?_,?_⟩
    ·rw[WA]; exact ha
    ·rw[WA,Wx,jn];have:((λx:Str=>x.length) ∘ toS)=λx:Tx=>x.length:=funext λx=>jn x
     rw[this];exact hz
    ·rw[KU];exact q _ H (.refl k) (.str _)
   ·cases hp
 cases d with
 | lst ds =>
  obtain⟨a,vs,ea,ha,ra⟩:=rx.lst;exact key a vs ds ea (.inl (.inl ha)) ra hp
 | tup ds =>
  obtain⟨a,vs,ea,ha,ra⟩:=rx.tup;exact key a vs ds ea (.inr (.of ha)) ra hp
 | _=>simp[dB] at hp
theorem px{x:Str}{j}{p0 apos aU:Pos}(z:Tx)(he:SB X c e fb)(hx:x=toS z:=by decide +kernel)
  (jR:Qq (.Constant (.str x) j p0) "join" X.env (eval (.Constant (.str x) j p0) X.env)=eval (.Constant (.str x) j p0) X.env:=by rfl)
  (jS:((WN aU (W5 [e] X.env)).all (λx=>!x.1) && (JE aU (J4 [] X.env)).all (λx=>x.1.isSome)
   && decide ([e].length + ([]:List Keyword).length + (if ([]:List Keyword).isEmpty then 0 else 1) < 30))=true:=by rfl)
  (fF:(apos.endLine == aU.line)=true:=by rfl) (hs:W5 [e] X.env=(false,eval e X.env) :: W5 [] X.env:=by rfl) :
  SE X c (.Call (.Attribute (.Constant (.str x) j p0) "join" apos) [e] [] aU) (bh (dB z) fb):=by
 subst hx;refine PE.weak (qR PySem.F.plainAttrs_str PySem.F.slot_str_join PySem.F.type_str_join Ka zQ (df he eU hs) jR jS fF hs rfl) λσ H Q h=>?_
 obtain⟨δ,k,q⟩:=pb (r:=λx H Q=>rE X.K (.str (toS z)) [x] H Q) (KW z) h;refine⟨?_,δ,k,q⟩;show("str" : String) = "str";rfl
end
inductive Fl where
 | next | ret (r:S) | brk | cont
abbrev DS:=Dl->Rs Fl
def fin(c:Fc)(D:Ends)(σ:St)(δ:Dl)(H:Hp):Fl->Prop
 | .next=>D.nx σ H
 | .ret r=>∀ v,aM c σ δ c.H₀ H v r->D.rt v H
 | .brk=>D.bk σ H
 | .cont=>D.ct σ H
def cW(c:Fc)(D:Ends)(σ:St)(δ:Dl)(H:Hp)(r:Rs Fl):Prop:=post c r λfl δ'=>∀ σ' H',ay c σ δ H σ' δ' H'->fin c D σ' δ' H' fl
def iQ(c:Fc)(f:DS):TS:=λD σ H=>∃ δ,Ok c σ δ H/\cW c D σ δ H (f δ)
abbrev SS(X:Cx)(c:Fc)(st:Stmt)(f:DS):Prop:=PS X st (iQ c f)
abbrev ef(X:Cx)(c:Fc)(st:List Stmt)(f:DS):Prop:=cX X st (iQ c f)
theorem PS.weak{X:Cx}{st:Stmt}{t t':TS}(h:PS X st t)(w:∀ D σ H,t' D σ H->t D σ H):PS X st t':=λpins s σ H D I q=>h pins s σ H D I (w D σ H q)
theorem cX.weak{X:Cx}{st:List Stmt}{t t':TS}(h:cX X st t)(w:∀ D σ H,t' D σ H->t D σ H):cX X st t':=λpins s σ H D I q=>h pins s σ H D I (w D σ H q)
def dj:DS:=λδ=>.ok .next δ
def aF(f g:DS):DS:=λδ=>(f δ).bind λfl δ1=>match fl with
 | .next=>g δ1
 | .ret r=>.ok (.ret r) δ1
 | .brk=>.ok .brk δ1
 | .cont=>.ok .cont δ1
def j7(f:DE):DS:=λδ=>(f δ).bind λ_ δ1=>.ok .next δ1
def bW(f:DE):DS:=λδ=>(f δ).bind λr δ1=>.ok (.ret r) δ1
def c9(t:DT)(f g:DS):DS:=λδ=>(t δ).bind λb δ1=>if b then f δ1 else g δ1
def Tr(np:List Nat)(i:Nat):DE:=λδ=>match δ[i]? with
 | some (some (.own d))=>if np.contains i then .ok (.pure d) (δ.set i (some (.pure d))) else .ok (.own d) (δ.set i none)
 | some (some (.pure d))=>.ok (.pure d) δ
 | _=>.stuck
section
variable {X:Cx} {c:Fc} {st:Stmt} {B0:List Stmt} {e a:Expr} {f g:DS} {fe:DE} {t:DT} {pos pos':Pos}
theorem fV:ef X c [] dj:=cX.weak Gd λD σ H ⟨δ,k,q⟩=>q σ H (.refl k)
theorem a_(h1:SS X c st f)(h2:ef X c B0 g):ef X c (st :: B0) (aF f g):=cX.weak (Ge h1 h2) λD σ H ⟨δ,k,q⟩=>by
 unfold aF cW at q;rw[aX] at q;refine⟨δ,k,aL q λfl δ1 q1 σ1 H1 a1=>?_⟩
 cases fl with
 | next=>exact⟨δ1,a1.ok,aL q1 λTs δ2 q2 σ2 H2 a2=>q2 σ2 H2 (a1.trans a2)⟩
 | ret r=>exact q1 σ1 H1 a1
 | brk=>exact q1 σ1 H1 a1
 | cont=>exact q1 σ1 H1 a1
theorem bz(h1:SS X c st f):ef X c [st] f:=cX.weak (zV h1) λD σ H h=>h
theorem cM(he:SE X c e fe):SS X c (.Return (some e) pos) (bW fe):=PS.weak (zW he) λD σ H ⟨δ,k,q⟩=>by
 unfold bW cW at q;rw[aX] at q;exact⟨δ,k,aL q λr δ1 q1 v H1 a1 r1=>q1 σ H1 a1 v r1.IK⟩
theorem fW{b1 b2:List Stmt}(ht:ST X c e t)(h1:ef X c b1 f)(h2:ef X c b2 g):SS X c (.If e b1 b2 pos) (c9 t f g):=PS.weak (Gi ht h1 h2) λD σ H ⟨δ,k,q⟩=>by
 unfold c9 cW at q;rw[aX] at q;refine⟨δ,k,aL q λb δ1 q1 H1 a1=>?_⟩
 cases b with
 | true=>exact⟨δ1,a1.ok,aL q1 λfl δ2 q2 σ2 H2 a2=>q2 σ2 H2 (a1.trans a2)⟩
 | false=>exact⟨δ1,a1.ok,aL q1 λfl δ2 q2 σ2 H2 a2=>q2 σ2 H2 (a1.trans a2)⟩
theorem Own.pA(h:Own (σ.set i (some v)) (δ.set i (some r)) b):Own σ δ b\/(v = .ref b/\∃ d,r = .own d):=by
 obtain⟨j,d,e1,e2⟩:=h;by_cases hj:i=j
 ·subst hj;right
  rw[WM] at e1 e2;simp at e1 e2;obtain⟨_,h1⟩:=e1;obtain⟨_,h2⟩:=e2;exact⟨h2,d,h1⟩
 ·rw[W7 hj] at e1 e2;exact .inl ⟨j,d,e1,e2⟩
theorem Ok.set(x:ay c σ₀ δ₀ H₁ σ δ H)(hr:aM c σ δ H₁ H v r)(hp:∀ p ∈ c.pin,p.1≠i):ay c σ₀ δ₀ H₁ (σ.set i (some v)) (δ.set i (some r)) H:=by
 have k:=x.ok;-- all slots avoid the new address,too
 have all:∃ c':Fc,c'.H₀=c.H₀/\c'.pin=c.pin/\Ok c' σ δ H/\(∀ b,Av c (σ.set i (some v)) (δ.set i (some r)) b->Av c' σ δ b):=by
  cases r with
  | pure d =>
   refine⟨c,rfl,rfl,k,λb z=>?_⟩;rcases z with z | z
   ·exact .inl z
   ·rcases z.pA with z | ⟨_,d',e⟩
    ·exact .inr z
    ·cases e
  | own d =>
   obtain⟨a,ea,o,n,f,k2,_⟩:=hr;refine⟨c.plus a,rfl,rfl,k2,λb z=>?_⟩;rcases z with z | z
   ·exact .inl (.inl z)
   ·rcases z.pA with z | ⟨e,_⟩
    ·exact .inr z
    ·rw[ea] at e; cases e
     exact .inl (.inr rfl)
 obtain⟨c',eH,eP,k2,sub⟩:=all;have eI:∀ a,c'.I a ↔ c.I a:=λa=>by unfold Fc.I; rw[eP]
 have KY:Rep H (Av c (σ.set i (some v)) (δ.set i (some r))) v r.d\/∃ d,r = .own d:=by
  cases r with
  | pure d =>
   left
   refine Rep.aJ hr λb z=>?_
   rcases z with z | z
   ·exact .inl (.inl z)
   ·rcases z.pA with z | ⟨_,d',e⟩
    ·exact .inl (.inr z)
    ·cases e
  | own d=>exact .inr ⟨d,rfl⟩
 refine⟨⟨k.keep,k.bd,k.cw,by rw[Qj,Qj]; exact k.len,λj d e=>?_,λj d e=>?_,λj l a d d' e1 e2 e3 e4=>?_,λp hm=>?_⟩,x.keep,λb z=>?_,x.there⟩
 ·by_cases hj:i=j
  ·subst hj;rw[WM] at e;simp at e;obtain⟨hi,rfl⟩:=e;have eV:i < σ.length:=by rw[<- k.len]; exact hi
   rcases KY with h | ⟨_,h⟩
   ·exact⟨v,by rw[Wk eV],h⟩
   ·cases h
  ·rw[W7 hj] at e;obtain⟨w,e1,q⟩:=k2.slot j d e;exact⟨w,by rw[W7 hj]; exact e1,q.aJ λb z=>.inl (sub b z)⟩
 ·by_cases hj:i=j
  ·subst hj;rw[WM] at e;simp at e;obtain⟨hi,rfl⟩:=e;have eV:i < σ.length:=by rw[<- k.len]; exact hi
   obtain⟨a,ea,o,n,f,k3,_⟩:=hr;refine⟨a,by rw[Wk eV,ea],o.aJ λb z=>.inl ?_,.inr f,n⟩;rcases z with z | z
   ·exact .inl (.inl z)
   ·rcases z.pA with z | ⟨e,_⟩
    ·exact .inr z
    ·rw[ea] at e; cases e
     exact .inl (.inr rfl)
  ·rw[W7 hj] at e;obtain⟨a,e1,q,q2,q3⟩:=k.own j d e;obtain⟨a',e1',q',_,_⟩:=k2.own j d e;rw[e1] at e1'; cases e1'
   exact⟨a,by rw[W7 hj]; exact e1,q'.aJ λb z=>.inl (sub b z),q2,q3⟩
 ·by_cases hj:i=j
  ·subst hj;by_cases hl:i=l
   ·exact hl
   ·rw[W7 hl] at e2 e4;rw[WM] at e1 e3;simp at e1 e3;obtain⟨_,rfl⟩:=e1;obtain⟨_,rfl⟩:=e3;obtain⟨a',ea,o,n,f,k3,_⟩:=hr
    cases ea;exact absurd ⟨l,d',e2,e4⟩ (rh k3)
  ·rw[W7 hj] at e1 e3;by_cases hl:i=l
   ·subst hl;rw[WM] at e2 e4;simp at e2 e4;obtain⟨_,rfl⟩:=e2;obtain⟨_,rfl⟩:=e4;obtain⟨a',ea,o,n,f,k3,_⟩:=hr
    cases ea;exact absurd ⟨j,d,e1,e3⟩ (rh k3)
   ·rw[W7 hl] at e2 e4;exact k.inj j l a d d' e1 e2 e3 e4
 ·rw[W7 (Ne.symm (hp p hm))];exact k.pinned p hm
 ·rcases z.pA with z | ⟨e,d,ed⟩
  ·exact x.own b z
  ·subst ed;obtain⟨a,ea,_,_,_,_,hs⟩:=hr;rw[ea] at e; cases e
   exact .inr hs
abbrev DG:=S->Dl->Option Dl
def vk(c:Fc)(g:DG):TG:=λv σ H Q=>∃ σ₀ δ₀ H₁ δ r δ',ay c σ₀ δ₀ H₁ σ δ H/\aM c σ δ H₁ H v r/\g r δ=some δ'/\∀ σ',ay c σ₀ δ₀ H₁ σ' δ' H->Q σ' H
abbrev SG(X:Cx)(c:Fc)(tg:Expr)(g:DG):Prop:=PG X tg (vk c g)
def ah(np:List Nat)(i:Nat):DG:=λr δ=>if np.contains i then none else some (δ.set i (some r))
def Np(c:Fc)(np:List Nat):Prop:=∀ p ∈ c.pin,np.contains p.1=true
theorem vm(hp:Np c np)(h:vk c (ah np i) v σ H Q):qE i v σ H Q:=by
 obtain⟨σ₀,δ₀,H₁,δ,r,δ',x,rr,e,q⟩:=h;unfold ah at e;split at e
 ·cases e
 ·rename_i hn
  cases e;exact q _ (Ok.set x rr λp hm e=>hn (by rw[<- e]; exact hp p hm))
theorem PG.weak{tg:Expr}{t t':TG}(h:PG X tg t)(w:∀ v σ H Q,t' v σ H Q->t v σ H Q):PG X tg t':=λpins s σ H v u Q I r q=>h pins s σ H v u Q I r (w v σ H Q q)
theorem gB.weak{tg:List Expr}{t t':kG}(h:gB X tg t)(w:∀ v σ H Q,t' v σ H Q->t v σ H Q):gB X tg t':=λpins s σ H v u Q I r q=>h pins s σ H v u Q I r (w v σ H Q q)
theorem eW{np:List Nat}{i:Nat}{x:Str}(hp:Np c np)(hN:X.N.Nodup)(hi:X.N[i]? = some x)(hx:Loc X.env.scope x)(hf:X.fn x=true\/X.env.scope.names.lookup x=some .local):SG X c (.Name x pos) (ah np i) :=
 PG.weak (zZ hN hi hx hf) λv σ H Q h=>vm hp h
abbrev hV:=List D->Dl->Option Dl
def KZ(c:Fc)(g:hV):kG:=λvs σ H Q=>∃ δ ds δ',Ok c σ δ H/\ax H (Av c σ δ) vs ds/\g ds δ=some δ'/\∀ σ',ay c σ δ H σ' δ' H->Q σ' H
abbrev rU(X:Cx)(c:Fc)(tg:List Expr)(g:hV):Prop:=gB X tg (KZ c g)
def eh:hV:=λds δ=>match ds with
 | []=>some δ
 | _=>none
def cx(g:DG)(gs:hV):hV:=λds δ=>match ds with
 | []=>none
 | d :: r=>(g (.pure d) δ).bind λδ1=>gs r δ1
theorem rV:rU X c [] eh:=gB.weak z5 λvs σ H Q ⟨δ,ds,δ',k,r,e,q⟩=>by
 cases ds with
 | nil =>
  cases e;have:vs=[]:=by have:=r.1; simpa using this
  exact⟨this,q σ (.refl k)⟩
 | cons d r=>cases e
theorem kX{es:List Expr}{g:DG}{gs:hV}(h1:SG X c e g)(h2:rU X c es gs)(hs:(Qc (e :: es) X.env).map (·.2)=assign e X.env :: (Qc es X.env).map (·.2):=by rfl):rU X c (e :: es) (cx g gs) :=
 gB.weak (z6 h1 h2 hs) λvs σ H Q ⟨δ,ds,δ',k,r,e,q⟩=>by
  cases ds with
  | nil=>cases e
  | cons d ds =>
   cases vs with
   | nil=>have:=r.1; simp at this
   | cons v vs =>
    simp only[cx] at e
    cases e1:g (.pure d) δ with
    | none=>rw[e1] at e; cases e
    | some δ1 =>
     rw[e1] at e;refine⟨v,vs,rfl,σ,δ,H,δ,.pure d,δ1,.refl k,r.head,e1,λσ1 a1=>?_⟩;exact⟨δ1,ds,δ',a1.ok,ax.dA r.tail a1,e,λσ2 a2=>q σ2 (a1.trans a2)⟩
def dM(n:Nat)(gs:hV):DG:=λr δ=>match r.d with
 | .tup ds=>if ds.length=n then gs ds δ else none
 | _=>none
theorem rW{es:List Expr}{k:Nat}{gs:hV}{n:Nat}(hc:X.calm=true)(h:rU X c es gs)(hn:(Qc es X.env).length=n:=by rfl)(bY:(Qc es X.env).findIdx? (·.1)=none:=by rfl) :
  SG X c (.Tuple es k pos) (dM n gs):=PG.weak (z7 hc h hn bY) λv σ H Q hw=>by
 obtain⟨σ₀,δ₀,H₁,δ,r,δ',x,rr,e,q⟩:=hw;have hb:=rr.b;unfold dM at e;generalize r.d=d at e hb
 cases d <;> first | (cases e; done) | skip
 rename_i ds;simp only at e;split at e
 ·rename_i hl;obtain⟨a,vs,ea,ha,ra⟩:=hb.tup;exact⟨a,vs,ea,.of ha,by rw[ra.1]; exact hl,δ,ds,δ',x.ok,ra,e,λσ' a1=>q σ' (x.trans a1)⟩
 ·cases e
def aI(f:DE)(g:DG):DS:=λδ=>(f δ).bind λr δ1=>match g r δ1 with
 | some δ2=>.ok .next δ2
 | none=>.stuck
theorem vn{g:DG}{D:Ends}{σ:St}{H:Hp}{te:TE}{tg:TG}(he:∀ σ H Q,tD c fe σ H Q->te σ H Q)(hg:∀ v σ H Q,vk c g v σ H Q->tg v σ H Q)(h:iQ c (aI fe g) D σ H):qF te tg D σ H:=by
 obtain⟨δ,k,q⟩:=h;unfold aI cW at q;rw[aX] at q;refine he _ _ _ ⟨δ,k,aL q λr δ1 q1 v H1 a1 r1=>hg _ _ _ _ ?_⟩
 cases e:g r δ1 with
 | none=>rw[e] at q1; exact q1.elim
 | some δ2 =>
  rw[e] at q1;exact⟨σ,δ,H,δ1,r,δ2,a1,r1,e,λσ' a2=>q1 σ' H1 a2⟩
theorem vo{tg:Expr}{g:DG}(he:SE X c e fe)(hg:SG X c tg g)(hs:swapsWithSole [tg] e pos.line X.env=pure false:=by rfl)(hw:swappedStores [tg] e X.env=pure none:=by rfl)
  (h1:(Qc [tg] X.env).map (·.2)=[assign tg X.env]:=by rfl):SS X c (.Assign [tg] e pos) (aI fe g):=PS.weak (z8 he hg hs hw h1) λD σ H h=>vn (λ_ _ _ h=>h) (λ_ _ _ _ h=>h) h
theorem b9{np:List Nat}{i:Nat}{x:Str}(hp:Np c np)(hN:X.N.Nodup)(hi:X.N[i]? = some x)(hx:Loc X.env.scope x)(he:SE X c e fe)(hs:QO e (some (.Name x pos')) pos.line X.env=pure false)(hf:X.fn x=true\/X.env.scope.names.lookup x=some .local) :
  SS X c (.Assign [.Name x pos'] e pos) (aI fe (ah np i)):=PS.weak (Gq hN hi hx he hs hf) λD σ H h=>vn (λ_ _ _ h=>h) (λ_ _ _ _ h=>vm hp h) h
theorem K0(he:SE X c e fe)(hs:∀ (x:Value),QO e none pos.line X.env=pure false:=by intro _; rfl)(hd:True:=trivial)(h:PS X (.Expr e pos) (tY (tD c fe))):SS X c (.Expr e pos) (j7 fe):=PS.weak h λD σ H ⟨δ,k,q⟩=>by
 unfold j7 cW at q;rw[aX] at q;exact⟨δ,k,aL q λr δ1 q1 v H1 a1 r1=>q1 σ H1 a1⟩
theorem Ok.B1{σ:St}{δ:Dl}{H:Hp}{i:Nat}{ds bN:List D}{a:Addr}{gE:List V}(k:Ok c σ δ H)(e:δ[i]? = some (some (.own (.lst ds))))(ea:σ[i]? = some (some (.ref a)))(r:ax H (Av c σ δ) gE bN) :
  ay c σ δ H σ (δ.set i (some (.own (.lst bN)))) (upd H a (.lst gE)):=by
 have hi:i < δ.length:=(We.mp e).1;obtain⟨a',cI,oa,ia,nb⟩:=k.own i _ e;rw[ea] at cI; cases cI
 obtain⟨vs,ha,_⟩:=oa;have pB:Own σ δ a:=⟨i,_,e,ea⟩
 have vp:Av c σ δ a:=.inr pB;have pC:∀ b,Own σ (δ.set i (some (.own (.lst bN)))) b ↔ Own σ δ b:=λb=>by
  constructor
  ·rintro ⟨j,d,e1,e2⟩;by_cases hj:i=j
   ·subst hj;exact⟨i,_,e,e2⟩
   ·rw[W7 hj] at e1;exact⟨j,d,e1,e2⟩
  ·rintro ⟨j,d,e1,e2⟩;by_cases hj:i=j
   ·subst hj;exact⟨i,_,by rw[Wk hi],e2⟩
   ·exact⟨j,d,by rw[W7 hj]; exact e1,e2⟩
 have l7:∀ b,Av c σ (δ.set i (some (.own (.lst bN)))) b->Av c σ δ b:=λb z=>z.elim .inl λz=>.inr ((pC b).mp z)
 have ne:∀ b,¬ Av c σ δ b->b≠a:=λb n z=>n (by rw[z]; exact vp)
 have kp:∀ b o,H b=some o->¬ Av c σ δ b->upd H a (.lst gE) b=some o:=λb o h n=>by rw[aQ (ne b n)]; exact h
 have jw:∀ b o,H b=some o->∃ o',upd H a (.lst gE) b=some o':=λb o h=>by
  by_cases hb:b=a
  ·exact⟨_,by rw[hb]; exact b7⟩
  ·exact⟨o,by rw[aQ hb]; exact h⟩
 refine⟨⟨λb o h n=>?_,λb z=>?_,λb z=>?_,by rw[Qj]; exact k.len,λj d h=>?_,λj d h=>?_,λj l b d d' h1 h2 h3 h4=>?_,k.pinned⟩,λb o h n=>?_,λb z=>.inl ((pC b).mp z),jw⟩
 ·have hb:b≠a:=λz=>by
   subst z;rcases ia with z | z
   ·exact n z
   ·rw[z] at h; cases h
  rw[aQ hb];exact k.keep b o h n
 ·obtain⟨o,h⟩:=k.bd b z;exact jw b o h
 ·obtain⟨o,h⟩:=k.cw b z;exact jw b o h
 ·have hj:i≠j:=λz=>by subst z; rw[Wk hi] at h; cases h
  rw[W7 hj] at h;obtain⟨v,h1,h2⟩:=k.slot j d h;exact⟨v,h1,(h2.keep kp).aJ λb z=>.inl (l7 b z)⟩
 ·by_cases hj:i=j
  ·subst hj;rw[Wk hi] at h
   cases h;exact⟨a,ea,⟨gE,b7,ax.aJ (ax.keep r kp) λb z=>.inl (l7 b z)⟩,ia,nb⟩
  ·rw[W7 hj] at h;obtain⟨b,h1,h2,h3,h4⟩:=k.own j d h;have hb:b≠a:=λz=>by subst z; exact hj (k.inj i j b _ d e h ea h1)
   exact⟨b,h1,(h2.keep kp λo q=>by rw[aQ hb]; exact q).aJ λb z=>.inl (l7 b z),h3,h4⟩
 ·have f1:∃ d,δ[j]? = some (some (.own d)):=by
   by_cases hj:i=j
   ·subst hj; exact⟨_,e⟩
   ·rw[W7 hj] at h1; exact⟨d,h1⟩
  have f2:∃ d,δ[l]? = some (some (.own d)):=by
   by_cases hj:i=l
   ·subst hj; exact⟨_,e⟩
   ·rw[W7 hj] at h2; exact⟨d',h2⟩
  obtain⟨_,f1⟩:=f1;obtain⟨_,f2⟩:=f2;exact k.inj j l b _ _ f1 f2 h3 h4
 ·have hb:b≠a:=λz=>n (by rw[z]; exact pB)
  rw[aQ hb]; exact h
def iR(δ:Dl)(i:Nat):Bool:=match δ[i]? with
 | some (some (.own (.lst _)))=>true
 | _=>false
def putL(δ:Dl)(i:Nat)(f:List D->Option (List D)):Rs Fl:=match δ[i]? with
 | some (some (.own (.lst ds)))=>match f ds with
  | some bN=>.ok .next (δ.set i (some (.own (.lst bN))))
  | none=>.stuck
 | _=>.stuck
theorem B2(h:iR δ i=true):∃ ds,δ[i]? = some (some (.own (.lst ds))):=by
 unfold iR at h;split at h
 ·rename_i ds e; exact⟨ds,e⟩
 ·cases h
theorem B3{δ:Dl}{i:Nat}{g:List D->Option (List D)}{kk:Fl->Dl->Prop}(h:post c (putL δ i g) kk):∃ ds bN,δ[i]? = some (some (.own (.lst ds)))/\g ds=some bN/\kk .next (δ.set i (some (.own (.lst bN)))):=by
 unfold putL at h;split at h
 ·rename_i ds e;split at h
  ·rename_i bN e2;exact⟨ds,bN,e,e2,h⟩
  ·exact h.elim
 ·exact h.elim
def fo(i:Nat)(f:DE):DS:=λδ=>if iR δ i then(f δ).bind λr δ1=>putL δ1 i λds=>if ds.length < Wa then some (ds ++ [r.d]) else none else .stuck
theorem K1{i:Nat}{o:Expr}{p0 apos aU:Pos}(ho:PE X o (cY i))(he:SE X c e fe)
  (h:PS X (.Expr (.Call (.Attribute o "append" apos) [e] [] aU) pos) (tY (AL X.K "list" AN (cY i) (Aj (tD c fe) Ai)))):SS X c (.Expr (.Call (.Attribute o "append" apos) [e] [] aU) pos) (fo i fe) :=
 PS.weak h λD σ H ⟨δ,k,q⟩=>by
  unfold fo cW at q;split at q
  ·rename_i hown;obtain⟨ds0,e0⟩:=B2 hown;rw[aX] at q;obtain⟨a,ea,oa,_⟩:=k.own i _ e0;refine⟨.ref a,ea,?_,δ,k,aL q λr δ1 q1 v H1 a1 r1=>?_⟩
   ·obtain⟨vs,ha,_⟩:=oa;exact .inl ⟨rfl,vs,.of ha⟩
   ·obtain⟨ds,bN,e1,e2,q2⟩:=B3 q1;split at e2
    ·rename_i hz
     cases e2;obtain⟨a',cI,oa1,_⟩:=a1.ok.own i _ e1;rw[ea] at cI; cases cI
     obtain⟨vs,ha,ra⟩:=id oa1;refine⟨a,vs,v,rfl,rfl,ha,by rw[ra.1]; exact hz,?_⟩;exact q2 σ _ (a1.trans (Ok.B1 a1.ok e1 ea (ra.append (.cons r1.rep .nil))))
    ·cases e2
  ·exact q.elim
def nj(i:Nat)(fi:DE)(fe:DE):DS:=λδ=>if iR δ i then(fe δ).bind λr δ1=>(fi δ1).bind λk δ2=>match k with
 | .pure (.int j)=>putL δ2 i λds=>(dR ds.length j).map λn=>ds.set n r.d
 | _=>.stuck else .stuck
theorem B4{i:Nat}{o ix:Expr}{fi:DE}{sp:Pos}(ho:PE X o (cY i))(hi:SE X c ix fi)(he:SE X c e fe)
  (ha:∀ v,assign (.Subscript o ix sp) X.env v=(do
   let ov <- holding [v] (eval o X.env)
   let iv <- holding [v,ov] (eval ix X.env)
   standAt sp
   holding [v,ov,iv] (setItem ov iv v)
   release [v,ov,iv] []):=by intro _; rfl)
  (hs:swapsWithSole [.Subscript o ix sp] e pos.line X.env=pure false:=by rfl) (hw:swappedStores [.Subscript o ix sp] e X.env=pure none:=by rfl)
  (h1:(Qc [.Subscript o ix sp] X.env).map (·.2)=[assign (.Subscript o ix sp) X.env]:=by rfl):SS X c (.Assign [.Subscript o ix sp] e pos) (nj i fi fe) :=
 PS.weak (z8 he (Gp ho hi Ho ha) hs hw h1) λD σ H ⟨δ,k,q⟩=>by
  unfold nj cW at q;split at q
  ·rename_i hown;obtain⟨ds0,e0⟩:=B2 hown;rw[aX] at q;obtain⟨a,ea,_,_⟩:=k.own i _ e0;refine⟨δ,k,aL q λr δ1 q1 v H1 a1 r1=>⟨.ref a,ea,δ1,a1.ok,?_⟩⟩;rw[aX] at q1;refine aL q1 λkx δ2 q2 u H2 a2 r2=>?_
   cases kx with
   | own d=>exact q2.elim
   | pure d =>
    cases d <;> first | exact q2.elim | skip
    rename_i j
    cases r2;obtain⟨ds,bN,e1,e2,q3⟩:=B3 q2
    cases e3:dR ds.length j with
    | none=>rw[e3] at e2; cases e2
    | some n =>
     rw[e3] at e2
     cases e2;obtain⟨a',cI,oa1,_⟩:=a2.ok.own i _ e1;rw[ea] at cI; cases cI
     obtain⟨vs,ha,ra⟩:=id oa1;refine⟨a,vs,j,n,rfl,rfl,ha,by rw[ra.1]; exact e3,?_⟩;exact q3 σ _ (a1.trans (a2.trans (Ok.B1 a2.ok e1 ea (ra.set (Rep.dA r1.rep a2) n))))
  ·exact q.elim
end
abbrev DI:=Dl->Rs (List D)
def kY(c:Fc)(σ:St)(δ:Dl)(H:Hp)(J:It)(ds:List D):Prop:=∀ H2,(∀ a o,H a=some o->¬ Own σ δ a->H2 a=some o)->J.stop ds.length H2 /\
 ∀ (i:Nat) d,ds[i]? = some d->J.go i H2/\∀ x H3,J.oA i H2 x H3->(H3=H2/\Rep H (Av c σ δ) x d) \/
  ∃ p vs es,H2 p=none/\H3=upd H2 p (.tup vs)/\x = .ref p/\d = .tup es/\ax H (Av c σ δ) vs es
def tI(c:Fc)(f:DI):TI:=λσ H R=>∃ δ,Ok c σ δ H/\post c (f δ) λds δ'=>∀ J H',ay c σ δ H σ δ' H'->kY c σ δ' H' J ds->R J H'
abbrev SI(X:Cx)(c:Fc)(tg iter:Expr)(f:DI):Prop:=PI X tg iter (tI c f)
theorem PI.weak(h:PI X tg iter t)(w:∀ σ H R,t' σ H R->t σ H R):PI X tg iter t':=λpins s σ H R I q=>h pins s σ H R I (w σ H R q)
section
variable {X:Cx} {c:Fc} {tg e:Expr} {fe:DE} {pos pp:Pos}
theorem K2(K:W1)(h:H a=some (.tup vs))(n:¬ Own σ δ a)(r:ax H (Av c σ δ) vs ds):kY c σ δ H (qH K a) ds:=by
 intro H2 kp;have h2:=kp a _ h n;refine⟨⟨vs,.of h2,by rw[r.1]; exact Wb _⟩,λi d e=>?_⟩;obtain⟨v,ev,rv⟩:=r.get e;refine⟨⟨vs,v,.of h2,ev⟩,λx H3 ⟨e3,y⟩=>.inl ⟨e3,?_⟩⟩;have:=y vs (.of h2);rw[ev] at this
 cases this;exact rv
def b_(lo:Int)(n:Nat):List D:=(Wp n).map λk:Nat=>D.int (lo + k)
theorem K3{lo:Int}{n i:Nat}{d:D}(h:(b_ lo n)[i]? = some d):i < n/\d = .int (lo + i):=by
 unfold b_ at h;rw[WF] at h;by_cases hi:i < n
 ·rw[List.getElem?_range hi] at h;simp at h;exact⟨hi,h.symm⟩
 ·rw[WV (by simpa using hi)] at h
  cases h
theorem B5(lo:Int)(n:Nat):kY c σ δ H (lN lo n) (b_ lo n):=by
 intro H2 kp;refine⟨by show n<=(b_ lo n).length; simp[b_],λi d e=>?_⟩;obtain⟨hi,rfl⟩:=K3 e;exact⟨hi,λx H3 ⟨e3,ex⟩=>.inl ⟨e3,by rw[ex]; exact .int _⟩⟩
def nk(j:Int):Bool:=decide (-(2 ^ 62)<=j) && decide (j < 2 ^ 62)
def eX(f:DE):DI:=λδ=>(f δ).bind λr δ1=>match r with
 | .pure (.int j)=>if nk j then .ok (b_ 0 j.toNat) δ1 else .stuck
 | _=>.stuck
theorem nq (hg:Gl X "range") (hm:X.mg "range" = none) (he:SE X c e fe) (hs:W5 [e] X.env=[(false,eval e X.env)]:=by rfl):SI X c tg (.Call (.Name "range" pp) [e] [] pos) (eX fe) :=
 PI.weak (Gx hg hm (df he eU hs) hs) λσ H R ⟨δ,k,q⟩=>by
  unfold eX at q;rw[aX] at q;refine⟨δ,k,aL q λr δ1 q1 v H1 a1 r1=>?_⟩
  cases r with
  | own d=>exact q1.elim
  | pure d =>
   cases d <;> first | exact q1.elim | skip
   rename_i j
   cases r1;simp only at q1;split at q1
   ·rename_i hj;unfold nk at hj;simp only[Ws,decide_eq_true_eq] at hj;exact⟨j,rfl,hj.1,hj.2,q1 _ H1 a1 (B5 0 j.toNat)⟩
   ·exact q1.elim
def forL(g:DG)(b:DS):List D->DS
 | [],δ=>.ok .next δ
 | d :: r,δ=>match g (.pure d) δ with
  | none=>.stuck
  | some δ1=>(b δ1).bind λfl δ2=>match fl with
   | .next=>forL g b r δ2
   | .cont=>forL g b r δ2
   | .brk=>.ok .next δ2
   | .ret v=>.ok (.ret v) δ2
def dN(it:DI)(g:DG)(b:DS):DS:=λδ=>(it δ).bind λds δ1=>forL g b ds δ1
theorem B6(io:kY c σ δ H J ds)(a:ay c σ δ H σ2 δ2 H2)(e:ds[i]? = some d)(y:J.oA i H2 x H3):ay c σ2 δ2 H2 σ2 δ2 H3/\Rep H3 (Av c σ2 δ2) x d:=by
 obtain⟨_,t⟩:=io H2 a.keep;rcases (t i d e).2 x H3 y with ⟨e3,r⟩ | ⟨p,vs,es,hp,e3,ex,ed,r⟩
 ·subst e3;exact⟨.refl a.ok,Rep.dA r a⟩
 ·subst e3 ex ed;have:=aM.mX a.ok (ax.dA r a) hp;exact⟨.alloc a.ok hp _,this⟩
theorem iS{iter:Expr}{body:List Stmt}{it:DI}{g:DG}{b:DS}(hp:PassesOwn (model X.prog X.w) X.A X.env X.xe)(hc:X.calm=true)(hi:SI X c tg iter it)(hg:SG X c tg g)(hb:ef X c body b)
  (hs:∀ x,QF iter X.env x=pure x:=by intro _; rfl):SS X c (.For tg iter body [] pos) (dN it g b):=PS.weak (GA hp hc hi hg hb hs) λD σ H ⟨δ,k,q⟩=>by
 unfold dN cW at q;rw[aX] at q;refine⟨δ,k,aL q λds δ1 q1 J H1 a1 io=>?_⟩;refine⟨λi m σ2 H2=>∃ δ2,m=ds.length - i/\i<=ds.length/\ay c σ δ1 H1 σ2 δ2 H2/\cW c D σ2 δ2 H2 (forL g b (ds.drop i) δ2),⟨ds.length,δ1,by simp,Qy _,.refl a1.ok,?_⟩,?_⟩
 ·rw[List.drop_zero];exact aL q1 λfl δ2 q2 σ2 H2 a2=>q2 σ2 H2 (a1.trans a2)
 ·rintro i m σ2 H2 ⟨δ2,rfl,vq,a2,p2⟩;by_cases aY:i < ds.length
  ·right
   have e:ds[i]? = some ds[i]:=by simp[aY]
   rw[List.drop_eq_getElem_cons aY] at p2;refine⟨((io H2 a2.keep).2 i _ e).1,λσ4 H4=>∃ δ4,ay c σ δ1 H1 σ4 δ4 H4/\cW c D σ4 δ4 H4 (forL g b (ds.drop (i + 1)) δ4),λσ4 H4 ⟨δ4,a4,p4⟩=>⟨ds.length - (i + 1),by omega,δ4,rfl,aY,a4,p4⟩,λx H3 y=>?_⟩;obtain⟨a3,r3⟩:=B6 io a2 e y;simp only[forL,cW] at p2
   cases eg:g (.pure ds[i]) δ2 with
   | none=>rw[eg] at p2; exact p2.elim
   | some δ3 =>
    rw[eg] at p2;refine⟨σ2,δ2,H3,δ2,.pure ds[i],δ3,.refl a3.ok,r3,eg,λσ3 a3'=>?_⟩;have p3:post c ((b δ3).bind λfl δ2=>match fl with
     | .next=>forL g b (ds.drop (i + 1)) δ2
     | .cont=>forL g b (ds.drop (i + 1)) δ2
     | .brk=>.ok .next δ2
     | .ret v=>.ok (.ret v) δ2) λfl δ'=>∀ σ' H',ay c σ2 δ2 H2 σ' δ' H'->fin c D σ' δ' H' fl:=p2
    rw[aX] at p3;have K4:ay c σ2 δ2 H2 σ3 δ3 H3:=a3.trans a3';refine⟨δ3,a3'.ok,aL p3 λfl δ4 p4 σ4 H4 a4=>?_⟩;have gH:=K4.trans a4
    cases fl with
    | next=>exact⟨δ4,a2.trans gH,aL p4 λfl δ5 p5 σ5 H5 a5=>p5 σ5 H5 (gH.trans a5)⟩
    | cont=>exact⟨δ4,a2.trans gH,aL p4 λfl δ5 p5 σ5 H5 a5=>p5 σ5 H5 (gH.trans a5)⟩
    | brk=>exact p4 σ4 H4 gH
    | ret r=>exact p4 σ4 H4 gH
  ·left
   have vt:i=ds.length:=by omega
   subst vt;rw[List.drop_length] at p2;exact⟨(io H2 a2.keep).1,p2 σ2 H2 (.refl a2.ok)⟩
def gI(t:DT)(b:DS):Nat->DS
 | 0,_=>.stuck
 | n + 1,δ=>(t δ).bind λx δ1=>if x then(b δ1).bind λfl δ2=>match fl with
   | .next=>gI t b n δ2
   | .cont=>gI t b n δ2
   | .brk=>.ok .next δ2
   | .ret v=>.ok (.ret v) δ2
  else .ok .next δ1
theorem K5{e:Expr}{body:List Stmt}{t:DT}{b:DS}(n:Nat)(hw:∀ {tt:TT} {tb:TS},PT X e tt->cX X body tb->PS X (.While e body [] pos) (z9 tt tb))(ht:ST X c e t)(hb:ef X c body b):SS X c (.While e body [] pos) (gI t b n) :=
 PS.weak (hw ht hb) λD σ H ⟨δ,k,q⟩=>by
  refine⟨λm σ2 H2=>∃ δ2,Ok c σ2 δ2 H2/\cW c D σ2 δ2 H2 (gI t b m δ2),⟨n,δ,k,q⟩,?_⟩;rintro m σ2 H2 ⟨δ2,k2,q2⟩
  cases m with
  | zero=>exact q2.elim
  | succ m =>
   simp only[gI,cW] at q2;rw[aX] at q2;refine⟨δ2,k2,aL q2 λx δ3 q3 H3 a3=>?_⟩
   cases x with
   | false=>exact q3 σ2 H3 a3
   | true =>
    have p3:post c ((b δ3).bind λfl δ2=>match fl with
     | .next=>gI t b m δ2
     | .cont=>gI t b m δ2
     | .brk=>.ok .next δ2
     | .ret v=>.ok (.ret v) δ2) λfl δ'=>∀ σ' H',ay c σ2 δ2 H2 σ' δ' H'->fin c D σ' δ' H' fl:=q3
    rw[aX] at p3;refine⟨λσ4 H4=>∃ δ4,Ok c σ4 δ4 H4/\cW c D σ4 δ4 H4 (gI t b m δ4),λσ4 H4 w=>⟨m,JU _,w⟩,δ3,a3.ok,aL p3 λfl δ4 p4 σ4 H4 a4=>?_⟩;have gH:=a3.trans a4
    cases fl with
    | next=>exact⟨δ4,a4.ok,aL p4 λfl δ5 p5 σ5 H5 a5=>p5 σ5 H5 (gH.trans a5)⟩
    | cont=>exact⟨δ4,a4.ok,aL p4 λfl δ5 p5 σ5 H5 a5=>p5 σ5 H5 (gH.trans a5)⟩
    | brk=>exact p4 σ4 H4 gH
    | ret r=>exact p4 σ4 H4 gH
end
def bo(cs:List Nat)(δ:Dl):Dl:=cs.foldl (λδ i=>δ.set i none) δ
def cQ(cs:List Nat)(δ₁ δ:Dl):Dl:=cs.foldl (λδ i=>match δ₁[i]? with | some o=>δ.set i o | none=>δ) δ
def bE(δ:Dl)(i:Nat):Bool:=match δ[i]? with
 | some (some (.own _))=>true
 | _=>false
theorem B7(cs:List Nat):∀ δ:Dl,(bo cs δ).length=δ.length:=by
 induction cs with
 | nil=>intro δ; rfl
 | cons i r ih =>
  intro δ;show(bo r (δ.set i none)).length=_;rw[ih]; simp
theorem h9:∀ (cs:List Nat) (δ:Dl) (i:Nat) (v:S),(bo cs δ)[i]? = some (some v)->δ[i]? = some (some v)/\i ∉ cs:=by
 intro cs;induction cs with
 | nil=>intro δ i v h; exact⟨h,by simp⟩
 | cons j r ih =>
  intro δ i v h;have h':(bo r (δ.set j none))[i]? = some (some v):=h;obtain⟨h1,h2⟩:=ih _ i v h';by_cases e:j=i
  ·subst e;rw[WM] at h1;simp at h1
  ·rw[W7 e] at h1;exact⟨h1,by simp only[Wh,not_or]; exact⟨Ne.symm e,h2⟩⟩
theorem j8:∀ (cs:List Nat) (σ:St) (i:Nat),i ∉ cs->(br cs σ)[i]? = σ[i]?:=by
 intro cs;induction cs with
 | nil=>intro σ i _; rfl
 | cons j r ih =>
  intro σ i h;simp only[Wh,not_or] at h;show(br r (σ.set j none))[i]? = _;rw[ih _ _ h.2,W7 (Ne.symm h.1)]
theorem K6:∀ (cs:List Nat) (δ:Dl) (i:Nat),i ∉ cs->(bo cs δ)[i]? = δ[i]?:=by
 intro cs;induction cs with
 | nil=>intro σ i _; rfl
 | cons j r ih =>
  intro σ i h;simp only[Wh,not_or] at h;show(bo r (σ.set j none))[i]? = _;rw[ih _ _ h.2,W7 (Ne.symm h.1)]
theorem K7(cs:List Nat)(δ₁:Dl):∀ δ:Dl,(cQ cs δ₁ δ).length=δ.length:=by
 induction cs with
 | nil=>intro δ; rfl
 | cons i r ih =>
  intro δ;unfold cQ;rw[QS];have:=ih (match δ₁[i]? with | some o=>δ.set i o | none=>δ);unfold cQ at this;rw[this]
  cases δ₁[i]? <;> simp
theorem rX:∀ (cs:List Nat) (δ₁ δ:Dl) (i:Nat),i ∉ cs->(cQ cs δ₁ δ)[i]? = δ[i]?:=by
 intro cs δ₁;induction cs with
 | nil=>intro δ i _; rfl
 | cons j r ih =>
  intro δ i h;simp only[Wh,not_or] at h;unfold cQ;rw[QS];have:=ih (match δ₁[j]? with | some o=>δ.set j o | none=>δ) i h.2;unfold cQ at this;rw[this]
  cases δ₁[j]? with
  | none=>rfl
  | some o=>simp only; rw[W7 (Ne.symm h.1)]
theorem vw:∀ (cs:List Nat) (δ₁ δ:Dl) (i:Nat),δ₁.length=δ.length->i ∈ cs->(cQ cs δ₁ δ)[i]? = δ₁[i]?:=by
 intro cs δ₁;induction cs with
 | nil=>intro δ i _ h; simp at h
 | cons j r ih =>
  intro δ i hl h;unfold cQ;rw[QS];have mY:δ₁.length=(match δ₁[j]? with | some o=>δ.set j o | none=>δ).length:=by cases δ₁[j]? <;> simp[hl]
  by_cases hr:i ∈ r
  ·have:=ih (match δ₁[j]? with | some o=>δ.set j o | none=>δ) i mY hr;unfold cQ at this;exact this
  ·have e:i=j:=by
    rcases Wh.mp h with e | e
    ·exact e
    ·exact absurd e hr
   subst e;have:=rX r δ₁ (match δ₁[i]? with | some o=>δ.set i o | none=>δ) i hr;unfold cQ at this;rw[this]
   cases e:δ₁[i]? with
   | none =>
    simp only;have:=List.getElem?_eq_none_iff.mp e;exact WV (by omega)
   | some o =>
    simp only;have:=(We.mp e).1;rw[Wk (by omega)]
section
variable {c:Fc} {σ:St} {δ δ':Dl} {H H':Hp} {l:Addr} {cs:List Nat}
theorem Ok.less(k:Ok (c.plus l) σ δ H):Ok c σ δ H:=by
 have sub:∀ b,Av c σ δ b->Av (c.plus l) σ δ b:=λb z=>z.elim (λz=>.inl (.inl z)) .inr
 refine⟨k.keep,λa z=>k.bd a (.inl z),k.cw,k.len,λi d e=>?_,λi d e=>?_,k.inj,k.pinned⟩
 ·obtain⟨v,h1,h2⟩:=k.slot i d e;exact⟨v,h1,h2.aJ λb z=>.inl (sub b z)⟩
 ·obtain⟨a,h1,h2,h3,h4⟩:=k.own i d e;exact⟨a,h1,h2.aJ λb z=>.inl (sub b z),h3,λz=>h4 (.inl z)⟩
theorem Ok.K8(k:Ok c σ δ H)(hb:c.B l)(h0:c.H₀ l=none)(o:HO):Ok c σ δ (upd H l o):=by
 have kp:∀ b w,H b=some w->¬ Av c σ δ b->upd H l o b=some w:=λb w e n=>by
  rw[aQ (λz=>n (by rw[z]; exact .inl hb))]; exact e
 have jw:∀ b w,H b=some w->∃ w',upd H l o b=some w':=λb w h=>by
  by_cases hb:b=l
  ·exact⟨_,by rw[hb]; exact b7⟩
  ·exact⟨w,by rw[aQ hb]; exact h⟩
 refine⟨λa w e n=>?_,λa z=>?_,λa z=>?_,k.len,λi d e=>?_,λi d e=>?_,k.inj,k.pinned⟩
 ·have:a≠l:=λz=>by rw[z,h0] at e; cases e
  rw[aQ this]; exact k.keep a w e n
 ·obtain⟨w,e⟩:=k.bd a z; exact jw a w e
 ·obtain⟨w,e⟩:=k.cw a z; exact jw a w e
 ·obtain⟨v,h1,h2⟩:=k.slot i d e;exact⟨v,h1,h2.keep kp⟩
 ·obtain⟨a,h1,h2,h3,h4⟩:=k.own i d e;have:a≠l:=λz=>h4 (by rw[z]; exact hb)
  exact⟨a,h1,h2.keep kp λw q=>by rw[aQ this]; exact q,h3,h4⟩
theorem Own.br(h:Own (br cs σ) (bo cs δ) l):Own σ δ l:=by
 obtain⟨i,d,e1,e2⟩:=h;exact⟨i,d,(h9 cs δ i _ e1).1,(kQ cs σ i _ e2).1⟩
theorem Ok.br(k:Ok c σ δ H)(hp:∀ p ∈ c.pin,p.1 ∉ cs):Ok c (L2.br cs σ) (bo cs δ) H:=by
 have sub:∀ b,Av c (L2.br cs σ) (bo cs δ) b->Av c σ δ b:=λb z=>z.elim .inl λz=>.inr z.br
 refine⟨k.keep,k.bd,k.cw,by rw[B7,qY]; exact k.len,λi d e=>?_,λi d e=>?_,λi j a d d' e1 e2 e3 e4=>?_,λp hm=>?_⟩
 ·obtain⟨e',hi⟩:=h9 cs δ i _ e;obtain⟨v,h1,h2⟩:=k.slot i d e';exact⟨v,by rw[j8 cs σ i hi]; exact h1,h2.aJ λb z=>.inl (sub b z)⟩
 ·obtain⟨e',hi⟩:=h9 cs δ i _ e;obtain⟨a,h1,h2,h3⟩:=k.own i d e';exact⟨a,by rw[j8 cs σ i hi]; exact h1,h2.aJ λb z=>.inl (sub b z),h3⟩
 ·exact k.inj i j a d d' (h9 cs δ i _ e1).1 (h9 cs δ j _ e2).1 (kQ cs σ i _ e3).1 (kQ cs σ j _ e4).1
 ·rw[j8 cs σ _ (hp p hm)]; exact k.pinned p hm
theorem ay.back(k:Ok c₀ σ δ H)(nr:c.pin=c₀.pin)(hB:∀ b,c.B b->c₀.B b\/H b=none)(g9:cs.any (bE δ)=false)(x:ay c (L2.br cs σ) (bo cs δ) H (L2.br cs σ) δ' H'):ay c σ δ H σ (cQ cs δ δ') H':=by
 have len:δ.length=δ'.length:=by
  have:=x.ok.len;rw[qY] at this;rw[this]; exact k.len
 have gz:∀ i d,i ∈ cs->δ[i]?≠some (some (.own d)):=λi d hi e=>by
  have:=List.any_eq_false.mp g9 i hi;unfold bE at this;rw[e] at this;simp at this
 have ownOut:∀ i d,(cQ cs δ δ')[i]? = some (some (.own d))->i ∉ cs/\δ'[i]? = some (some (.own d)):=λi d e=>by
  by_cases hi:i ∈ cs
  ·rw[vw cs δ δ' i len hi] at e;exact absurd e (gz i d hi)
  ·rw[rX cs δ δ' i hi] at e;exact⟨hi,e⟩
 have sub:∀ b,Own σ (cQ cs δ δ') b->Own (L2.br cs σ) δ' b:=λb ⟨i,d,e1,e2⟩=>by
  obtain⟨hi,e⟩:=ownOut i d e1;exact⟨i,d,e,by rw[j8 cs σ i hi]; exact e2⟩
 have l8:∀ b,Av c σ (cQ cs δ δ') b->Av c (L2.br cs σ) δ' b:=λb z=>z.elim .inl λz=>.inr (sub b z)
 have ownEq:∀ b,Own σ δ b->Own (L2.br cs σ) (bo cs δ) b:=λb ⟨i,d,e1,e2⟩=>by
  have hi:i ∉ cs:=λz=>gz i d z e1
  exact⟨i,d,by rw[K6 cs δ i hi]; exact e1,by rw[j8 cs σ i hi]; exact e2⟩
 refine⟨⟨x.ok.keep,x.ok.bd,x.ok.cw,by rw[K7,<- len]; exact k.len,λi d e=>?_,λi d e=>?_,λi j a d d' e1 e2 e3 e4=>?_,by rw[nr]; exact k.pinned⟩,λa o e n=>?_,λa z=>?_,x.there⟩
 ·by_cases hi:i ∈ cs
  ·rw[vw cs δ δ' i len hi] at e;obtain⟨v,h1,h2⟩:=k.slot i d e;have h3:Rep H (Av c (L2.br cs σ) (bo cs δ)) v d:=h2.aJ λb z=>by
    rcases z with z | z
    ·exact(hB b z).elim (λz=>.inl (.inl z)) .inr
    ·exact .inl (.inr z.br)
   exact⟨v,h1,(Rep.dA h3 x).aJ λb z=>.inl (l8 b z)⟩
  ·rw[rX cs δ δ' i hi] at e;obtain⟨v,h1,h2⟩:=x.ok.slot i d e;exact⟨v,(kQ cs σ i v h1).1,h2.aJ λb z=>.inl (l8 b z)⟩
 ·obtain⟨hi,e'⟩:=ownOut i d e;obtain⟨a,h1,h2,h3⟩:=x.ok.own i d e';exact⟨a,(kQ cs σ i _ h1).1,h2.aJ λb z=>.inl (l8 b z),h3⟩
 ·obtain⟨hi,f1⟩:=ownOut i d e1;obtain⟨hj,f2⟩:=ownOut j d' e2;exact x.ok.inj i j a d d' f1 f2 (by rw[j8 cs σ i hi]; exact e3) (by rw[j8 cs σ j hj]; exact e4)
 ·exact x.keep a o e λz=>n z.br
 ·rcases x.own a (sub a z) with q | q
  ·exact .inl q.br
  ·exact .inr q
end
def cR(cs:List Nat)(g:DG)(t:DT)(el:DE):List D->Dl->List D->Rs (List D)
 | [],δ,acc=>.ok acc δ
 | d :: r,δ,acc=>match g (.pure d) δ with
  | none=>.stuck
  | some δ1=>(t δ1).bind λb δ2=>if b then(el δ2).bind λx δ3=>if acc.length < Wa then cR cs g t el r (bo cs δ3) (acc ++ [x.d]) else .stuck
   else cR cs g t el r (bo cs δ2) acc
def c7(cs:List Nat)(it:DI)(g:DG)(t:DT)(el:DE):DE:=λδ=>(it δ).bind λds δ1=>if cs.any (bE δ1) then .stuck else
 (cR cs g t el ds (bo cs δ1) []).bind λacc δ2=>.ok (.own (.lst acc)) (cQ cs δ1 δ2)
def bX:DT:=λδ=>.ok true δ
abbrev rY(X:Cx)(c:Fc)(ifs:List Expr)(t:DT):Prop:=oR X ifs (tT c t)
theorem jx{X:Cx}{c:Fc}:rY X c [] bX:=λpins s σ H Q I ⟨δ,k,q⟩=>IB pins s σ H Q I (q H (.refl k))
section
variable {X:Cx} {c:Fc} {cs:List Nat} {tg iter elt:Expr} {ifs:List Expr} {scope:Scope} {pos:Pos} {it:DI} {g:DG} {t:DT} {el:DE}
theorem ay.clear(x:ay c (L2.br cs σ) δ H σ4 δ4 H4)(le:Le (L2.br cs σ) σ4)(hp:∀ p ∈ c.pin,p.1 ∉ cs)(hs:∀ (i:Nat) v,σ4[i]? = some (some v)->i ∉ cs->σ[i]? = some (some v)):ay c (L2.br cs σ) δ H (L2.br cs σ) (bo cs δ4) H4:=by
 have eq:∀ i,i ∉ cs->∀ v,σ4[i]? = some (some v)->(L2.br cs σ)[i]? = some (some v):=λi hi v e=>by rw[j8 cs σ i hi]; exact hs i v e hi
 have own:∀ b,Own (L2.br cs σ) (bo cs δ4) b->Own σ4 δ4 b:=λb ⟨i,d,e1,e2⟩=>by
  exact⟨i,d,(h9 cs δ4 i _ e1).1,le.2 i _ e2⟩
 have sub:∀ b,Av c (L2.br cs σ) (bo cs δ4) b->Av c σ4 δ4 b:=λb z=>z.elim .inl λz=>.inr (own b z)
 have k:=x.ok;refine⟨⟨k.keep,k.bd,k.cw,by rw[B7,k.len]; exact le.1,λi d e=>?_,λi d e=>?_,λi j a d d' e1 e2 e3 e4=>?_,λp hm=>?_⟩,x.keep,λa z=>x.own a (own a z),x.there⟩
 ·obtain⟨e',hi⟩:=h9 cs δ4 i _ e;obtain⟨v,h1,h2⟩:=k.slot i d e';exact⟨v,eq i hi v h1,h2.aJ λb z=>.inl (sub b z)⟩
 ·obtain⟨e',hi⟩:=h9 cs δ4 i _ e;obtain⟨a,h1,h2,h3⟩:=k.own i d e';exact⟨a,eq i hi _ h1,h2.aJ λb z=>.inl (sub b z),h3⟩
 ·exact k.inj i j a d d' (h9 cs δ4 i _ e1).1 (h9 cs δ4 j _ e2).1 (le.2 i _ e3) (le.2 j _ e4)
 ·exact eq p.1 (hp p hm) _ (k.pinned p hm)
def Out(cs:List Nat)(σ σ':St):Prop:=σ'.length=σ.length/\∀ i,i ∉ cs->σ'[i]? = σ[i]?
theorem Out.trans(a:Out cs σ σ')(b:Out cs σ' σ''):Out cs σ σ'':=⟨b.1.trans a.1,λi h=>(b.2 i h).trans (a.2 i h)⟩
def nt(cs:List Nat)(c:Fc)(g:DG):TG:=λv σ H Q=>∃ σ₀ δ₀ H₁ δ r δ',ay c σ₀ δ₀ H₁ σ δ H/\aM c σ δ H₁ H v r/\g r δ=some δ'/\∀ σ',ay c σ₀ δ₀ H₁ σ' δ' H->Out cs σ σ'->Q σ' H
abbrev nu(X:Cx)(c:Fc)(cs:List Nat)(tg:Expr)(g:DG):Prop:=PG X tg (nt cs c g)
theorem h_{np:List Nat}{i:Nat}{x:Str}(hp:Np c np)(hN:X.N.Nodup)(hi:X.N[i]? = some x)(hx:Loc X.env.scope x)(hf:X.fn x=true\/X.env.scope.names.lookup x=some .local)(hc:i ∈ cs):nu X c cs (.Name x pos) (ah np i) :=
 PG.weak (zZ hN hi hx hf) λv σ H Q ⟨σ₀,δ₀,H₁,δ,r,δ',x,rr,e,q⟩=>by
  unfold ah at e;split at e
  ·cases e
  ·rename_i hn
   cases e;refine q _ (Ok.set x rr λp hm e=>hn (by rw[<- e]; exact hp p hm)) ⟨by simp,λj hj=>?_⟩;rw[W7 (λz=>hj (by rw[<- z]; exact hc))]
def K9(cs:List Nat)(c:Fc)(g:hV):kG:=λvs σ H Q=>∃ δ ds δ',Ok c σ δ H/\ax H (Av c σ δ) vs ds/\g ds δ=some δ'/\∀ σ',ay c σ δ H σ' δ' H->Out cs σ σ'->Q σ' H
abbrev rZ(X:Cx)(c:Fc)(cs:List Nat)(tg:List Expr)(g:hV):Prop:=gB X tg (K9 cs c g)
theorem B8:rZ X c cs [] eh:=gB.weak z5 λvs σ H Q ⟨δ,ds,δ',k,r,e,q⟩=>by
 cases ds with
 | nil =>
  cases e;have:vs=[]:=by have:=r.1; simpa using this
  exact⟨this,q σ (.refl k) ⟨rfl,λ_ _=>rfl⟩⟩
 | cons d r=>cases e
theorem r8{e:Expr}{es:List Expr}{g:DG}{gs:hV}(h1:nu X c cs e g)(h2:rZ X c cs es gs)(hs:(Qc (e :: es) X.env).map (·.2)=assign e X.env :: (Qc es X.env).map (·.2):=by rfl):rZ X c cs (e :: es) (cx g gs) :=
 gB.weak (z6 h1 h2 hs) λvs σ H Q ⟨δ,ds,δ',k,r,e,q⟩=>by
  cases ds with
  | nil=>cases e
  | cons d ds =>
   cases vs with
   | nil=>have:=r.1; simp at this
   | cons v vs =>
    simp only[cx] at e
    cases e1:g (.pure d) δ with
    | none=>rw[e1] at e; cases e
    | some δ1 =>
     rw[e1] at e;refine⟨v,vs,rfl,σ,δ,H,δ,.pure d,δ1,.refl k,r.head,e1,λσ1 a1 o1=>?_⟩;exact⟨δ1,ds,δ',a1.ok,ax.dA r.tail a1,e,λσ2 a2 o2=>q σ2 (a1.trans a2) (o1.trans o2)⟩
theorem B9{es:List Expr}{k:Nat}{gs:hV}{n:Nat}(hc:X.calm=true)(h:rZ X c cs es gs)(hn:(Qc es X.env).length=n:=by rfl)(bY:(Qc es X.env).findIdx? (·.1)=none:=by rfl) :
  nu X c cs (.Tuple es k pos) (dM n gs):=PG.weak (z7 hc h hn bY) λv σ H Q hw=>by
 obtain⟨σ₀,δ₀,H₁,δ,r,δ',x,rr,e,q⟩:=hw;have hb:=rr.b;unfold dM at e;generalize r.d=d at e hb
 cases d <;> first | (cases e; done) | skip
 rename_i ds;simp only at e;split at e
 ·rename_i hl;obtain⟨a,vs,ea,ha,ra⟩:=hb.tup;exact⟨a,vs,ea,.of ha,by rw[ra.1]; exact hl,δ,ds,δ',x.ok,ra,e,λσ' a1 o1=>q σ' (x.trans a1) o1⟩
 ·cases e
theorem ay.less(x:ay (c.plus l) σ δ H σ' δ' H'):ay c σ δ H σ' δ' H':=⟨x.ok.less,x.keep,x.own,x.there⟩
theorem vx(K_:∀ σ H R,tI c it σ H R->wi σ H R)(hg:∀ l v σ H Q,nt cs (c.plus l) g v σ H Q->gt v σ H Q)(ht:∀ l σ H Q,tT (c.plus l) t σ H Q->tt σ H Q)(he:∀ l σ H Q,tD (c.plus l) el σ H Q->te σ H Q)
  (hp:∀ p ∈ c.pin,p.1 ∉ cs) (h:tD c (c7 cs it g t el) σ H Q):q0 cs wi gt tt te σ H Q:=by
 obtain⟨δ,k,q⟩:=h;unfold c7 at q;rw[aX] at q;refine K_ _ _ _ ⟨δ,k,aL q λds δ1 q1 J H1 a1 io=>?_⟩;intro l hl;split at q1
 ·exact q1.elim
 ·rename_i g9;have B_:cs.any (bE δ1)=false:=by simpa using g9
  rw[aX] at q1;have k1:=a1.ok;have kp:=k1.plus hl (.lst []);have k0:Ok (c.plus l) (L2.br cs σ) (bo cs δ1) (upd H1 l (.lst [])):=kp.br hp;have up:∀ a w,H1 a=some w->upd H1 l (.lst []) a=some w:=λa w e=>by
   rw[aQ (fD e hl)]; exact e
  have h0:c.H₀ l=none:=k1.jX hl;-- the walked things,as the block sees them
  have vy:kY (c.plus l) (L2.br cs σ) (bo cs δ1) H1 J ds:=by
   intro H2 vz;obtain⟨s1,s2⟩:=io H2 λa o e n=>vz a o e λz=>n z.br
   have cv:∀ {x:V} {d:D},Rep H1 (Av c σ δ1) x d->Rep H1 (Av (c.plus l) (L2.br cs σ) (bo cs δ1)) x d:=λ{x d} r =>
    r.aJ λb z=>by
     rcases z with (z | z) | z
     ·exact .inl (.inl z)
     ·exact .inr (by rw[z]; exact hl)
     ·exact .inl (.inr z.br)
   refine⟨s1,λi d e=>⟨(s2 i d e).1,λx H3 y=>?_⟩⟩;rcases (s2 i d e).2 x H3 y with ⟨e3,r⟩ | ⟨p,vs,es,hp,e3,ex,ed,r⟩
   ·exact .inl ⟨e3,cv r⟩
   ·exact .inr ⟨p,vs,es,hp,e3,ex,ed,r.1,λi v d e1 e2=>cv (r.2 i v d e1 e2)⟩
  let Fin:List D->Dl->Prop:=λacc δ'=>∀ H' vs,ay (c.plus l) (L2.br cs σ) (bo cs δ1) H1 (L2.br cs σ) δ' H'->H' l=some (.lst vs)->ax H' (Av (c.plus l) (L2.br cs σ) δ') vs acc->Q (.ref l) H'
  have q2:post c (cR cs g t el ds (bo cs δ1) []) Fin:=aL q1 λacc δ2 q2 H' vs x hv r=>by
   have b1:ay (c.plus l) σ δ1 H1 σ (cQ cs δ1 δ2) H':=ay.back k1 rfl (λb z=>z.elim .inl λz=>.inr (by rw[z]; exact hl)) B_ x;have b2:ay c σ δ1 H1 σ (cQ cs δ1 δ2) H':=b1.less;have len:δ1.length=δ2.length:=by
    have:=x.ok.len;rw[qY] at this;rw[this]; exact k1.len
   have La:H l=none:=by
    cases e:H l with
    | none=>rfl
    | some o =>
     obtain⟨o',e'⟩:=a1.there l o e;rw[hl] at e'; cases e'
   refine q2 _ H' (a1.trans b2) ⟨l,rfl,⟨vs,hv,ax.aJ r λb z=>.inl ?_⟩,λz=>k1.gi hl (.inl z),h0,b1.ok,La⟩;rcases z with z | ⟨i,d,e1,e2⟩
   ·exact .inl z
   ·have hi:i ∉ cs:=λhi=>by
     rw[vw cs δ1 δ2 i len hi] at e1;have:=List.any_eq_false.mp B_ i hi;unfold bE at this;rw[e1] at this;simp at this
    rw[rX cs δ1 δ2 i hi] at e1;exact .inr ⟨i,d,e1,by rw[j8 cs σ i hi]; exact e2⟩
  refine⟨λi m H2=>∃ δ2 acc vs,m=ds.length - i/\i<=ds.length/\ay (c.plus l) (L2.br cs σ) (bo cs δ1) H1 (L2.br cs σ) δ2 H2/\H2 l=some (.lst vs)/\ax H2 (Av (c.plus l) (L2.br cs σ) δ2) vs acc /\
   post c (cR cs g t el (ds.drop i) δ2 acc) Fin,⟨ds.length,bo cs δ1,[],[],by simp,Qy _,⟨k0,λa w e _=>up a w e,λa z=>.inl z,λa w e=>⟨w,up a w e⟩⟩,b7,.nil,by rw[List.drop_zero]; exact q2⟩,?_⟩
  rintro i m H2 ⟨δ2,acc,vs,rfl,vq,a2,hv,rv,p2⟩;by_cases aY:i < ds.length
  ·right
   have e:ds[i]? = some ds[i]:=by simp[aY]
   rw[List.drop_eq_getElem_cons aY] at p2;refine⟨((vy H2 a2.keep).2 i _ e).1,λx H3 y=>hg l _ _ _ _ ?_⟩;obtain⟨a3,r3⟩:=B6 vy a2 e y;simp only[cR] at p2
   cases eg:g (.pure ds[i]) δ2 with
   | none=>rw[eg] at p2; exact p2.elim
   | some δ3 =>
    rw[eg] at p2;have p3:post c ((t δ3).bind λb δ2=>if b then(el δ2).bind λx δ3=>if acc.length < Wa then cR cs g t el (ds.drop (i + 1)) (bo cs δ3) (acc ++ [x.d]) else .stuck
     else cR cs g t el (ds.drop (i + 1)) (bo cs δ2) acc) Fin:=p2
    refine⟨L2.br cs σ,δ2,H3,δ2,.pure ds[i],δ3,.refl a3.ok,r3,eg,λσ4 a4 o4=>?_⟩;have le:Le (L2.br cs σ) σ4:=⟨o4.1,λj v ej=>by
     rw[o4.2 j (kQ cs σ j v ej).2]; exact ej⟩
    have hs:∀ (j:Nat) v,σ4[j]? = some (some v)->j ∉ cs->σ[j]? = some (some v):=λj v ej hj=>by
     rw[o4.2 j hj] at ej;exact(kQ cs σ j v ej).1
    refine⟨le,ht l _ _ _ ⟨δ3,a4.ok,?_⟩⟩;rw[aX] at p3;have Ca:∀ p ∈ (c.plus l).pin,p.1 ∉ cs:=hp;have gH:=a2.trans (a3.trans a4);have ln:∀ {σ':St} {δ':Dl} {H':Hp},Ok (c.plus l) σ' δ' H'->¬ Own σ' δ' l:=λ{σ' δ' H'} k=>rh k
    have Lb:post (c.plus l) (t δ3) λb δ5=>post c (if b then(el δ5).bind λx δ3=>if acc.length < Wa then cR cs g t el (ds.drop (i + 1)) (bo cs δ3) (acc ++ [x.d]) else .stuck
     else cR cs g t el (ds.drop (i + 1)) (bo cs δ5) acc) Fin:=p3
    refine aL Lb λb δ5 p5 H5 a5=>?_
    have Cb:=gH.trans a5;have Lc:H3 l=some (.lst vs):=a3.keep l _ hv (ln a2.ok);have Cc:H5 l=some (.lst vs):=a5.keep l _ Lc (ln a4.ok);have Cd:=ax.dA (ax.dA (ax.dA rv a3) a4) a5
    cases b with
    | false =>
     have c5:=Cb.clear le Ca hs;refine⟨ds.length - (i + 1),by omega,bo cs δ5,acc,vs,rfl,aY,c5,Cc,ax.aJ Cd λb z=>.inl ?_,p5⟩;exact z.elim .inl λ⟨j,d,e1,e2⟩=>.inr ⟨j,d,(h9 cs δ5 j _ e1).1,le.2 j _ e2⟩
    | true =>
     have Ce:post c ((el δ5).bind λx δ3=>if acc.length < Wa then cR cs g t el (ds.drop (i + 1)) (bo cs δ3) (acc ++ [x.d]) else .stuck) Fin:=p5;rw[aX] at Ce;refine he l _ _ _ ⟨δ5,a5.ok,?_⟩;have p6:post (c.plus l) (el δ5) λx δ6=>post c (if acc.length < Wa then cR cs g t el (ds.drop (i + 1)) (bo cs δ6) (acc ++ [x.d]) else .stuck) Fin:=Ce
     refine aL p6 λx δ6 p7 v H6 a6 r6=>?_
     split at p7
     ·rename_i hz;have Ld:=Cb.trans a6;have Lf:H6 l=some (.lst vs):=a6.keep l _ Cc (ln a5.ok);have Cf:=ax.dA Cd a6;have rr:ax H6 (Av (c.plus l) σ4 δ6) (vs ++ [v]) (acc ++ [x.d]):=Cf.append (.cons r6.rep .nil);have c6:=Ld.clear le Ca hs;have r9:∀ b o,H6 b=some o->¬ Av (c.plus l) σ4 δ6 b->upd H6 l (.lst (vs ++ [v])) b=some o:=λb o e n=>by
       rw[aQ (λz=>n (by rw[z]; exact .inl (.inr rfl)))]; exact e
      have Lg:∀ b,Av (c.plus l) (L2.br cs σ) (bo cs δ6) b->Av (c.plus l) σ4 δ6 b:=λb z=>z.elim .inl λ⟨j,d,e1,e2⟩=>.inr ⟨j,d,(h9 cs δ6 j _ e1).1,le.2 j _ e2⟩
      refine⟨vs,ds.length - (i + 1),Lf,by rw[Cf.1]; exact hz,by omega,bo cs δ6,acc ++ [x.d],vs ++ [v],rfl,aY,?_,b7,ax.aJ (ax.keep rr r9) λb z=>.inl (Lg b z),p7⟩;-- the list that is built has grown
      refine⟨c6.ok.K8 (.inr rfl) h0 _,λa o ea n=>?_,λa z=>c6.own a z,λa o ea=>?_⟩
      ·have r_:a≠l:=λz=>by rw[z,hl] at ea; cases ea
       rw[aQ r_]; exact c6.keep a o ea n
      ·by_cases r_:a=l
       ·exact⟨_,by rw[r_]; exact b7⟩
       ·obtain⟨o',e'⟩:=c6.there a o ea;exact⟨o',by rw[aQ r_]; exact e'⟩
     ·exact p7.elim
  ·left
   have vt:i=ds.length:=by omega
   subst vt;rw[List.drop_length] at p2;exact⟨(vy H2 a2.keep).1,p2 H2 vs a2 hv rv⟩
theorem kZ(hc:X.calm=true)(S:kP X scope cs)(hi:SI X c tg iter it)(hg:∀ l s₀ H₀ ex,nu (dI X scope s₀ H₀ ex) (c.plus l) cs tg g)(ht:∀ l s₀ H₀ ex,rY (dI X scope s₀ H₀ ex) (c.plus l) ifs t)
  (he:∀ l s₀ H₀ ex,SE (dI X scope s₀ H₀ ex) (c.plus l) elt el) (hp:∀ p ∈ c.pin,p.1 ∉ cs) (hs:∀ x,QF iter X.env x=pure x:=by intro _; rfl) :
  SE X c (.ListComp elt [⟨tg,iter,ifs,0⟩] scope pos) (c7 cs it g t el) :=
 PE.weak (Bl (g:=λv σ H Q=>∃ l,nt cs (c.plus l) g v σ H Q) (tt:=λσ H Q=>∃ l,tT (c.plus l) t σ H Q) (te:=λσ H Q=>∃ l,tD (c.plus l) el σ H Q) hc S hi
  (λs₀ H₀ ex pins s σ H v u Q I r ⟨l,q⟩=>hg l s₀ H₀ ex pins s σ H v u Q I r q) (λs₀ H₀ ex pins s σ H Q I ⟨l,q⟩=>ht l s₀ H₀ ex pins s σ H Q I q) (λs₀ H₀ ex pins s σ H Q I ⟨l,q⟩=>he l s₀ H₀ ex pins s σ H Q I q) hs)
  λσ H Q h=>vx (λ_ _ _ h=>h) (λl _ _ _ _ h=>⟨l,h⟩) (λl _ _ _ h=>⟨l,h⟩) (λl _ _ _ h=>⟨l,h⟩) hp h
theorem Lh{np:List Nat}{i:Nat}{y:Str}{py q_:Pos}(aA:Np c np)(hc:X.calm=true)(S:kP X scope cs)(hN:X.N.Nodup)(eV:X.N[i]? = some y)(hy:X.env.scope.names.lookup y=some .local)
  (hi:SI X c tg iter it) (hg:∀ l s₀ H₀ ex,nu (dI X scope s₀ H₀ ex) (c.plus l) cs tg g) (ht:∀ l s₀ H₀ ex,rY (dI X scope s₀ H₀ ex) (c.plus l) ifs t)
  (he:∀ l s₀ H₀ ex,SE (dI X scope s₀ H₀ ex) (c.plus l) elt el) (hp:∀ p ∈ c.pin,p.1 ∉ cs)
  (lW:QO (.ListComp elt [⟨tg,iter,ifs,0⟩] scope pos) (some (.Name y py)) q_.line X.env=pure true:=by rfl) (hs:∀ x,QF iter X.env x=pure x:=by intro _; rfl) :
  SS X c (.Assign [.Name y py] (.ListComp elt [⟨tg,iter,ifs,0⟩] scope pos) q_) (aI (c7 cs it g t el) (ah np i)) :=
 PS.weak (II (g:=λv σ H Q=>∃ l,nt cs (c.plus l) g v σ H Q) (tt:=λσ H Q=>∃ l,tT (c.plus l) t σ H Q) (te:=λσ H Q=>∃ l,tD (c.plus l) el σ H Q) hc S hN eV hy hi
  (λs₀ H₀ ex pins s σ H v u Q I r ⟨l,q⟩=>hg l s₀ H₀ ex pins s σ H v u Q I r q) (λs₀ H₀ ex pins s σ H Q I ⟨l,q⟩=>ht l s₀ H₀ ex pins s σ H Q I q) (λs₀ H₀ ex pins s σ H Q I ⟨l,q⟩=>he l s₀ H₀ ex pins s σ H Q I q) lW hs)
  λD σ H h=>vn (λσ H Q h=>vx (λ_ _ _ h=>h) (λl _ _ _ _ h=>⟨l,h⟩) (λl _ _ _ h=>⟨l,h⟩) (λl _ _ _ h=>⟨l,h⟩) hp h) (λ_ _ _ _ h=>vm aA h) h
end
abbrev DF:=List S->Option (S×List S)
def a7:Nat->List S->List V->List (Nat×Addr)
 | n,.own _ :: ss,.ref a :: vs=>(n,a) :: a7 (n + 1) ss vs
 | n,_ :: ss,_ :: vs=>a7 (n + 1) ss vs
 | _,_,_=>[]
theorem ib:∀ {n:Nat} {ss:List S} {vs:List V} {i:Nat} {a:Addr},(i,a) ∈ a7 n ss vs->∃ j d,i=n + j/\ss[j]? = some (.own d)/\vs[j]? = some (.ref a)
 | n,[],vs,i,a,h=>by simp[a7] at h
 | n,s :: ss,[],i,a,h=>by cases s <;> simp[a7] at h
 | n,s :: ss,v :: vs,i,a,h=>by
  have vA:(i,a) ∈ a7 (n + 1) ss vs->∃ j d,i=n + j/\(s :: ss)[j]? = some (.own d)/\(v :: vs)[j]? = some (.ref a):=λh=>by
   obtain⟨j,d,e,h1,h2⟩:=ib h;exact⟨j + 1,d,by omega,by simpa using h1,by simpa using h2⟩
  cases s with
  | pure d=>exact vA h
  | own d =>
   cases v with
   | ref b =>
    rcases Wh.mp h with e | h
    ·cases e;exact⟨0,d,rfl,rfl,rfl⟩
    ·exact vA h
   | _=>exact vA h
theorem sd:∀ {n:Nat} {ss:List S} {vs:List V} {j:Nat} {d:D} {a:Addr},ss[j]? = some (.own d)->vs[j]? = some (.ref a)->(n + j,a) ∈ a7 n ss vs
 | n,[],vs,j,d,a,h,_=>by simp at h
 | n,s :: ss,[],j,d,a,_,h=>by simp at h
 | n,s :: ss,v :: vs,0,d,a,h1,h2=>by
  simp at h1 h2;subst h1 h2;exact Wj
 | n,s :: ss,v :: vs,j + 1,d,a,h1,h2=>by
  have ih:=sd (n:=n + 1) (ss:=ss) (vs:=vs) (j:=j) (d:=d) (a:=a) (by simpa using h1) (by simpa using h2);have e:n + 1 + j=n + (j + 1):=by omega
  rw[e] at ih
  cases s with
  | pure d=>exact ih
  | own d =>
   cases v with
   | ref b=>exact Wd _ ih
   | _=>exact ih
abbrev bC(vs:List V):St:=vs.map some
abbrev bJ(ss:List S):Dl:=ss.map some
theorem dS{ss:List S}{i:Nat}{r:S}:(bJ ss)[i]? = some (some r) ↔ ss[i]? = some r:=by
 rw[WF]
 cases ss[i]? <;> simp
theorem ei{vs:List V}{i:Nat}{v:V}:(bC vs)[i]? = some (some v) ↔ vs[i]? = some v:=by
 rw[WF]
 cases vs[i]? <;> simp
def k6(n:Nat)(G:DF):Sp:=λvs H Q _=>∃ ss B,vs.length=n/\Ok ⟨H,B,a7 0 ss vs,λ_ _=>False⟩ (bC vs) (bJ ss) H/\∃ r ar,G ss=some (r,ar) /\
 ∀ v H',ay ⟨H,B,a7 0 ss vs,λ_ _=>False⟩ (bC vs) (bJ ss) H (bC vs) (bJ ar) H'->aM ⟨H,B,a7 0 ss vs,λ_ _=>False⟩ (bC vs) (bJ ar) H H' v r->Q v H'
def cN(P:Wg)(w:Wm)(K:W1)(mg:Str->Option Value)(base:Heap)(k:Nat)(x:Str)(n:Nat)(G:DF):Prop :=
 ∃ (f:Addr) (fd:Wy) (ps:List Str),mg x=some (.ref f)/\WZ K (.ref f)=true/\Binds K fd ps []/\c8 P w K mg base bV k f fd ps (k6 n G)
def aV(n:Nat)(ss:List S):Dl:=bJ ss ++ W8 (n - ss.length) none
def bb:Nat->List S->Dl->Option (List S)
 | _,[],_=>some []
 | n,.pure d :: ss,δ=>(bb (n + 1) ss δ).map (.pure d :: ·)
 | n,.own _ :: ss,δ=>match δ[n]? with
  | some (some (.own d'))=>(bb (n + 1) ss δ).map (.own d' :: ·)
  | _=>none
def bO:Fl->Option S
 | .next=>some (.pure .aq)
 | .ret r=>some r
 | _=>none
def dm(f:DS)(n:Nat)(ss:List S):Option (S×List S):=match f (aV n ss) with
 | .ok fl δ=>(bO fl).bind λr=>(bb 0 ss δ).map λar=>(r,ar)
 | _=>none
def bK(np:List Nat):Nat->List S->Bool
 | _,[]=>true
 | n,.own _ :: ss=>np.contains n && bK np (n + 1) ss
 | n,.pure _ :: ss=>bK np (n + 1) ss
theorem ny:∀ {n:Nat} {ss:List S} {j:Nat} {d:D},bK np n ss=true->ss[j]? = some (.own d)->np.contains (n + j)=true
 | n,[],j,d,_,h=>by simp at h
 | n,s :: ss,0,d,h,e=>by
  simp at e;subst e;simp only[bK,Ws] at h;exact h.1
 | n,s :: ss,j + 1,d,h,e=>by
  have h':bK np (n + 1) ss=true:=by
   cases s with
   | pure d=>exact h
   | own d=>simp only[bK,Ws] at h; exact h.2
  have:=ny (n:=n + 1) (j:=j) h' (by simpa using e);rw[show n + (j + 1)=n + 1 + j by omega];exact this
theorem pD:∀ {n:Nat} {ss ar:List S} {δ:Dl},bb n ss δ=some ar->ar.length=ss.length/\∀ (i:Nat) s,ss[i]? = some s->(∃ d,s = .pure d/\ar[i]? = some (.pure d))\/∃ d d',s = .own d/\δ[n + i]? = some (some (.own d'))/\ar[i]? = some (.own d')
 | n,[],ar,δ,h=>by
  simp only[bb,W9] at h;subst h;exact⟨rfl,λi s e=>by simp at e⟩
 | n,.pure d :: ss,ar,δ,h=>by
  simp only[bb] at h
  cases e:bb (n + 1) ss δ with
  | none=>rw[e] at h; cases h
  | some os =>
   rw[e] at h;simp only[WG,W9] at h;subst h;obtain⟨h1,h2⟩:=pD e;refine⟨by simp[h1],λi s es=>?_⟩
   cases i with
   | zero=>simp at es; subst es; exact .inl ⟨d,rfl,rfl⟩
   | succ i =>
    rcases h2 i s (by simpa using es) with ⟨d,z1,z2⟩ | ⟨d,d',z1,z2,z3⟩
    ·exact .inl ⟨d,z1,by simpa using z2⟩
    ·exact .inr ⟨d,d',z1,by rw[show n + (i + 1)=n + 1 + i by omega]; exact z2,by simpa using z3⟩
 | n,.own d :: ss,ar,δ,h=>by
  simp only[bb] at h;split at h
  ·rename_i d' ed
   cases e:bb (n + 1) ss δ with
   | none=>rw[e] at h; cases h
   | some os =>
    rw[e] at h;simp only[WG,W9] at h;subst h;obtain⟨h1,h2⟩:=pD e;refine⟨by simp[h1],λi s es=>?_⟩
    cases i with
    | zero=>simp at es; subst es; exact .inr ⟨d,d',rfl,ed,rfl⟩
    | succ i =>
     rcases h2 i s (by simpa using es) with ⟨d,z1,z2⟩ | ⟨d,d',z1,z2,z3⟩
     ·exact .inl ⟨d,z1,by simpa using z2⟩
     ·exact .inr ⟨d,d',z1,by rw[show n + (i + 1)=n + 1 + i by omega]; exact z2,by simpa using z3⟩
  ·cases h
section
variable {c:Fc} {H H':Hp} {vs:List V} {ss ar:List S} {σ':St} {δ':Dl}
theorem k7{α:Type}{l:List (Option α)}{k i:Nat}{v:α}(h:(l ++ W8 k none)[i]? = some (some v)):l[i]? = some (some v):=by
 by_cases hi:i < l.length
 ·rw[List.getElem?_append_left hi] at h; exact h
 ·rw[List.getElem?_append_right (by omega),List.getElem?_replicate] at h;split at h <;> cases h
theorem j9{α:Type}{l:List (Option α)}{k i:Nat}{v:α}(h:l[i]? = some (some v)):(l ++ W8 k none)[i]? = some (some v):=by
 have hi:i < l.length:=(We.mp h).1;rw[List.getElem?_append_left hi]; exact h
theorem Own.ext{σ:St}{δ:Dl}{k:Nat}{a:Addr}:Own (σ ++ W8 k none) (δ ++ W8 k none) a ↔ Own σ δ a :=
 ⟨λ⟨i,d,e1,e2⟩=>⟨i,d,k7 e1,k7 e2⟩,λ⟨i,d,e1,e2⟩=>⟨i,d,j9 e1,j9 e2⟩⟩
theorem Ok.ext{σ:St}{δ:Dl}(k:Ok c σ δ H)(n:Nat):Ok c (σ ++ W8 n none) (δ ++ W8 n none) H:=by
 have sub:∀ b,Av c (σ ++ W8 n none) (δ ++ W8 n none) b->Av c σ δ b:=λb z=>z.elim .inl λz=>.inr (Own.ext.mp z)
 refine⟨k.keep,k.bd,k.cw,by simp[k.len],λi d e=>?_,λi d e=>?_,λi j a d d' e1 e2 e3 e4=>k.inj i j a d d' (k7 e1) (k7 e2) (k7 e3) (k7 e4),λp hm=>j9 (k.pinned p hm)⟩
 ·obtain⟨v,h1,h2⟩:=k.slot i d (k7 e);exact⟨v,j9 h1,h2.aJ λb z=>.inl (sub b z)⟩
 ·obtain⟨a,h1,h2,h3⟩:=k.own i d (k7 e);exact⟨a,j9 h1,h2.aJ λb z=>.inl (sub b z),h3⟩
theorem fJ{B:Addr->Prop}{n:Nat}(hc:c = ⟨H,B,a7 0 ss vs,λ_ _=>False⟩)(k:Ok c (bC vs) (bJ ss) H)(x:ay c (bC vs ++ W8 n none) (bJ ss ++ W8 n none) H σ' δ' H')(ho:bb 0 ss δ'=some ar) :
  ay c (bC vs) (bJ ss) H (bC vs) (bJ ar) H'/\∀ v r,aM c σ' δ' H H' v r->aM c (bC vs) (bJ ar) H H' v r:=by
 obtain⟨hlen,nz⟩:=pD ho;have gJ:ss.length=vs.length:=by have:=k.len; simpa using this
 have pin:∀ (i:Nat) (a:Addr) (d:D),ss[i]? = some (.own d)->vs[i]? = some (.ref a)->σ'[i]? = some (some (.ref a)):=λi a d h1 h2=>by
  have:=sd (n:=0) h1 h2;rw[Jb] at this;exact x.ok.pinned (i,a) (by rw[hc]; exact this)
 have se:∀ (i:Nat) (d:D),ar[i]? = some (.own d)->(∃ d₀,ss[i]? = some (.own d₀))/\δ'[i]? = some (some (.own d)):=λi d e=>by
  have hi:i < ss.length:=by rw[<- hlen]; exact(We.mp e).1
  rcases nz i ss[i] (by simp[hi]) with ⟨d₁,z1,z2⟩ | ⟨d₁,d',z1,z2,z3⟩
  ·rw[e] at z2; cases z2
  ·rw[e] at z3; cases z3
   rw[Jb] at z2;exact⟨⟨d₁,by rw[Wt hi,z1]⟩,z2⟩
 have sub:∀ b,Own (bC vs) (bJ ar) b->Own σ' δ' b:=λb ⟨i,d,e1,e2⟩=>by
  obtain⟨⟨d₀,h0⟩,h1⟩:=se i d (dS.mp e1);exact⟨i,d,h1,pin i b d₀ h0 (ei.mp e2)⟩
 have l8:∀ b,Av c (bC vs) (bJ ar) b->Av c σ' δ' b:=λb z=>z.elim .inl λz=>.inr (sub b z)
 have Cg:∀ {c':Fc},c'.pin=c.pin->Ok c' σ' δ' H'->(∀ b,c.B b->c'.B b)->(∀ (i:Nat) d v,ss[i]? = some (.pure d)->vs[i]? = some v->Rep H' (Av c' σ' δ') v d)->Ok c' (bC vs) (bJ ar) H':=λ{c'} ep k' hB hsl=>by
  have Ci:∀ b,Av c' (bC vs) (bJ ar) b->Av c' σ' δ' b:=λb z=>z.elim .inl λz=>.inr (sub b z)
  refine⟨k'.keep,k'.bd,k'.cw,by simp[hlen,gJ],λi d e=>?_,λi d e=>?_,λi j a d d' e1 e2 e3 e4=>?_,λp hm=>?_⟩
  ·have e':=dS.mp e;have hi:i < ss.length:=by rw[<- hlen]; exact(We.mp e').1
   have hv:i < vs.length:=by omega
   rcases nz i ss[i] (by simp[hi]) with ⟨d₁,z1,z2⟩ | ⟨d₁,d',z1,z2,z3⟩
   ·rw[e'] at z2; cases z2
    exact⟨vs[i],by simp[hv],(hsl i d vs[i] (by rw[Wt hi,z1]) (by simp[hv])).aJ λb z=>.inl (Ci b z)⟩
   ·rw[e'] at z3; cases z3
  ·have e':=dS.mp e;obtain⟨⟨d₀,h0⟩,h1⟩:=se i d e';obtain⟨a₀,h2,_⟩:=k.own i d₀ (dS.mpr h0);obtain⟨a,h3,h4,h5⟩:=k'.own i d h1;rw[pin i a₀ d₀ h0 (ei.mp h2)] at h3
   cases h3;exact⟨a₀,h2,h4.aJ λb z=>.inl (Ci b z),h5⟩
  ·obtain⟨⟨d₀,h0⟩,h1⟩:=se i d (dS.mp e1);obtain⟨⟨d₁,h2⟩,h3⟩:=se j d' (dS.mp e2);exact k'.inj i j a d d' h1 h3 (pin i a d₀ h0 (ei.mp e3)) (pin j a d₁ h2 (ei.mp e4))
  ·exact k.pinned p (by rw[<- ep]; exact hm)
 have slots:∀ (i:Nat) d v,ss[i]? = some (.pure d)->vs[i]? = some v->Rep H' (Av c σ' δ') v d:=λi d v h1 h2=>by
  obtain⟨w,e1,r⟩:=(k.ext n).slot i d (j9 (dS.mpr h1));rw[j9 (ei.mpr h2)] at e1
  cases e1;exact Rep.dA r x
 refine⟨⟨Cg rfl x.ok (λ_ z=>z) slots,λa o e m=>x.keep a o e λz=>m (Own.ext.mp z),λa z=>(x.own a (sub a z)).elim (λz=>.inl (Own.ext.mp z)) .inr,x.there⟩,λv r hr=>?_⟩
 cases r with
 | pure d=>exact Rep.aJ hr λb z=>.inl (l8 b z)
 | own d =>
  obtain⟨a,ea,o,nb,h0,kp,hs⟩:=hr;refine⟨a,ea,o.aJ λb z=>.inl (z.elim .inl λz=>.inr (sub b z)),nb,h0,Cg rfl kp (λ_ z=>.inl z) λi d v h1 h2=>?_,hs⟩;obtain⟨w,e1,r⟩:=(k.ext n).slot i d (j9 (dS.mpr h1));rw[j9 (ei.mpr h2)] at e1
  cases e1;have nA:H a=none:=hs;have r1:Rep H (Av c (bC vs ++ W8 n none) (bJ ss ++ W8 n none)) v d:=r;have r2:Rep H (λb=>Av c (bC vs ++ W8 n none) (bJ ss ++ W8 n none) b\/Av (c.plus a) σ' δ' b) v d:=r1.aJ λb z=>by
   rcases z with z | (z | z) | z
   ·exact .inl z
   ·exact .inl (.inl z)
   ·exact .inr (by rw[z]; exact nA)
   ·rcases x.own b z with q | q
    ·exact .inl (.inr q)
    ·exact .inr q
  exact(r2.keep λb o e m=>x.keep b o e λz=>m (.inl (.inr z))).aJ λb z=>.inl (.inr z)
end
section
variable {P:Wg} {w:Wm} {K:W1} {mg:Str->Option Value} {base:Heap}
theorem Li{x qual:Str}{st:Stmt}{f:Addr}{fd:Wy}{N ps:List Str}{k:Nat}{np:List Nat}{fb:DS}{G:DF}(F:bH K x qual st f fd)(S:bS N ps (aC st))
  (bU:∀ (c:Fc) (aj:Value) (A:Wl) (outer:List Env) (s:W2) (H:Hp) (E:XK),bj k (A.deeper (Qu qual (aC st) s.heap.objs.size f aj))->Np c np->ef (cE bV P w K mg base N qual (aC st) f aj A outer s H E).dX c (cu st) fb)
  (hG:∀ ss y,G ss=some y->bK np 0 ss=true/\dm fb N.length ss=some y):c8 P w K mg base bV (k + 1) f fd ps (k6 ps.length G):=by
 refine F.ok S (λvs H Q E h=>?_) λaj A outer s H vs Q E hr h=>?_
 ·obtain⟨ss,B,hl,_⟩:=h;exact hl
 ·obtain⟨ss,B,hl,ok,r,ar,hg,q⟩:=h;obtain⟨c_,hrun⟩:=hG ss _ hg;have gJ:ss.length=vs.length:=by have:=ok.len; simpa using this
  have j_:Np ⟨H,B,a7 0 ss vs,λ_ _=>False⟩ np:=λp hp=>by
   obtain⟨j,d,e,h1,_⟩:=ib (i:=p.1) (a:=p.2) hp;rw[e];exact ny c_ h1
  refine⟨iQ ⟨H,B,a7 0 ss vs,λ_ _=>False⟩ fb,bU ⟨H,B,a7 0 ss vs,λ_ _=>False⟩ aj A outer s H E hr j_,?_⟩;have bY:start N vs=bC vs ++ W8 (N.length - ss.length) none:=by rw[gJ]; rfl
  refine⟨aV N.length ss,by rw[bY]; exact ok.ext _,?_⟩;unfold dm at hrun;unfold cW
  cases e:fb (aV N.length ss) with
  | exc x δx=>rw[e] at hrun; cases hrun
  | stuck=>rw[e] at hrun; cases hrun
  | ok fl δ' =>
   rw[e] at hrun;show ∀ σ' H',ay _ (start N vs) (aV N.length ss) H σ' δ' H'->fin _ _ σ' δ' H' fl;intro σ' H' a;rw[bY] at a;simp only at hrun
   cases fl with
   | brk=>cases hrun
   | cont=>cases hrun
   | next =>
    simp only[bO,Wu] at hrun
    cases eo:bb 0 ss δ' with
    | none=>rw[eo] at hrun; cases hrun
    | some os =>
     rw[eo] at hrun
     cases hrun;obtain⟨l1,l2⟩:=fJ rfl ok a eo;exact q .aq H' l1 .aq
   | ret r' =>
    simp only[bO,Wu] at hrun
    cases eo:bb 0 ss δ' with
    | none=>rw[eo] at hrun; cases hrun
    | some os =>
     rw[eo] at hrun
     cases hrun;obtain⟨l1,l2⟩:=fJ rfl ok a eo;exactλv rv=>q v H' l1 (l2 v _ rv)
theorem ic{x qual:Str}{st:Stmt}{f:Addr}{fd:Wy}{N ps:List Str}{k:Nat}{np:List Nat}{fb:DS}{G:DF}(F:bH K x qual st f fd)(hm:mg x=some (.ref f))(hb:Binds K fd ps [])(S:bS N ps (aC st))
  (bU:∀ (c:Fc) (aj:Value) (A:Wl) (outer:List Env) (s:W2) (H:Hp) (E:XK),bj k (A.deeper (Qu qual (aC st) s.heap.objs.size f aj))->Np c np->ef (cE bV P w K mg base N qual (aC st) f aj A outer s H E).dX c (cu st) fb)
  (hG:∀ ss y,G ss=some y->bK np 0 ss=true/\dm fb N.length ss=some y):cN P w K mg base (k + 1) x ps.length G:=⟨f,fd,ps,hm,F.kp,hb,Li F S bU hG⟩
end
inductive Ak where
 | val (f:DE)
 | io (i:Nat)
def bF:List Ak->Dl->Rs (List (Option D))
 | [],δ=>.ok [] δ
 | .val f :: r,δ=>(f δ).bind λx δ1=>(bF r δ1).bind λxs δ2=>.ok (some x.d :: xs) δ2
 | .io _ :: r,δ=>(bF r δ).bind λxs δ2=>.ok (none :: xs) δ2
inductive ka (c:Fc) (σ:St) (δ:Dl) (H:Hp):List V->List Ak->List (Option D)->Prop
 | nil:ka c σ δ H [] [] []
 | val {v:V} {d:D} {f:DE} {vs:List V} {as:List Ak} {ds:List (Option D)}:Rep H (Av c σ δ) v d->ka c σ δ H vs as ds->ka c σ δ H (v :: vs) (.val f :: as) (some d :: ds)
 | io {v:V} {i:Nat} {vs:List V} {as:List Ak} {ds:List (Option D)}:σ[i]? = some (some v)->ka c σ δ H vs as ds->ka c σ δ H (v :: vs) (.io i :: as) (none :: ds)
def tX(c:Fc)(as:List Ak):TA:=λσ H Q=>∃ δ,Ok c σ δ H/\(∀ i,Ak.io i ∈ as->∃ v,σ[i]? = some (some v))/\post c (bF as δ) λds δ'=>∀ vs H',ay c σ δ H σ δ' H'->ka c σ δ' H' vs as ds->Q vs H'
abbrev SX(X:Cx)(c:Fc)(es:List Expr)(as:List Ak):Prop:=PA X es (tX c as)
section
variable {X:Cx} {c:Fc} {e:Expr} {es:List Expr} {fe:DE} {as:List Ak} {pos pp:Pos}
theorem cy:SX X c [] []:=PA.weak eU λσ H Q ⟨δ,k,_,q⟩=>q [] H (.refl k) .nil
theorem Lj(ha:SE X c e fe)(hr:SX X c es as)(hs:W5 (e :: es) X.env=(false,eval e X.env) :: W5 es X.env:=by rfl):SX X c (e :: es) (.val fe :: as):=PA.weak (df ha hr hs) λσ H Q ⟨δ,k,c_,q⟩=>by
 unfold bF at q;rw[aX] at q;refine⟨δ,k,aL q λx δ1 q1 v H1 a1 r1=>⟨δ1,a1.ok,λi hi=>c_ i (Wd _ hi),?_⟩⟩;rw[aX] at q1;exact aL q1 λxs δ2 q2 vs H2 a2 r2=>q2 (v :: vs) H2 (a1.trans a2) (.val (Rep.dA r1.rep a2) r2)
theorem Lk(ha:PE X e (cY i))(hr:SX X c es as)(hs:W5 (e :: es) X.env=(false,eval e X.env) :: W5 es X.env:=by rfl):SX X c (e :: es) (.io i :: as):=PA.weak (df ha hr hs) λσ H Q ⟨δ,k,c_,q⟩=>by
 obtain⟨v,ev⟩:=c_ i Wj;unfold bF at q;rw[aX] at q;exact⟨v,ev,δ,k,λi hi=>c_ i (Wd _ hi),aL q λxs δ2 q2 vs H2 a2 r2=>q2 (v :: vs) H2 a2 (.io ev r2)⟩
end
def bp:List Ak->List (Option D)->Dl->Option (List S)
 | [],[],_=>some []
 | .val _ :: as,some d :: ds,δ=>(bp as ds δ).map (.pure d :: ·)
 | .io i :: as,none :: ds,δ=>match δ[i]? with
  | some (some (.own d))=>(bp as ds δ).map (.own d :: ·)
  | _=>none
 | _,_,_=>none
def ba:List Ak->List Nat
 | []=>[]
 | .val _ :: as=>ba as
 | .io i :: as=>i :: ba as
def aS:List Ak->List S->Dl->Dl
 | .io i :: as,r :: rs,δ=>aS as rs (δ.set i (some r))
 | .val _ :: as,_ :: rs,δ=>aS as rs δ
 | _,_,δ=>δ
def bL:List Nat->Bool
 | []=>true
 | i :: r=>!r.contains i && bL r
def aG(G:DF)(as:List Ak):DE:=λδ=>if (ba as).all (bE δ) && bL (ba as) then(bF as δ).bind λds δ1=>match bp as ds δ1 with
  | none=>.stuck
  | some ss=>match G ss with
   | none=>.stuck
   | some (r,ar)=>.ok r (aS as ar δ1)
 else .stuck
theorem sf:∀ {l:List Nat},bL l=true->l.Nodup
 | [],_=>.nil
 | i :: r,h=>by
  simp only[bL,Ws,JP] at h;exact Q0.mpr ⟨λhm=>by have:=h.1; simp at this; exact this hm,sf h.2⟩
theorem kb:∀ {as:List Ak} {i:Nat},i ∈ ba as ↔ Ak.io i ∈ as
 | [],i=>by simp[ba]
 | .val f :: as,i=>by simp[ba,kb (as:=as)]
 | .io j :: as,i=>by simp[ba,kb (as:=as)]
theorem vB:∀ {as:List Ak} {i j k:Nat},(ba as).Nodup->as[j]? = some (.io i)->as[k]? = some (.io i)->j=k
 | [],i,j,k,_,h,_=>by simp at h
 | .val f :: as,i,j,k,nd,h1,h2=>by
  cases j with
  | zero=>simp at h1
  | succ j =>
   cases k with
   | zero=>simp at h2
   | succ k=>exact congrArg (· + 1) (vB (as:=as) nd (by simpa using h1) (by simpa using h2))
 | .io n :: as,i,j,k,nd,h1,h2=>by
  have gK:=Q0.mp nd
  cases j with
  | zero =>
   simp at h1;subst h1
   cases k with
   | zero=>rfl
   | succ k=>exact absurd (kb.mpr (WW (by simpa using h2))) gK.1
  | succ j =>
   cases k with
   | zero =>
    simp at h2;subst h2;exact absurd (kb.mpr (WW (by simpa using h1))) gK.1
   | succ k=>exact congrArg (· + 1) (vB (as:=as) gK.2 (by simpa using h1) (by simpa using h2))
section
variable {c:Fc} {σ:St} {δ:Dl} {H:Hp} {vs:List V} {as:List Ak} {ds:List (Option D)} {ss:List S}
theorem pE(h:ka c σ δ H vs as ds):∀ {ss:List S},bp as ds δ=some ss->ss.length=vs.length/\as.length=vs.length/\∀ (j:Nat) s v,ss[j]? = some s->vs[j]? = some v ->
  (∃ d f,s = .pure d/\as[j]? = some (.val f)/\Rep H (Av c σ δ) v d)\/∃ d i,s = .own d/\as[j]? = some (.io i)/\σ[i]? = some (some v)/\δ[i]? = some (some (.own d)):=by
 induction h with
 | nil =>
  intro ss h;simp only[bp,W9] at h;subst h;exact⟨rfl,rfl,λj s v e _=>by simp at e⟩
 | @val v d f vs as ds r _ ih =>
  intro ss h;simp only[bp] at h
  cases e:bp as ds δ with
  | none=>rw[e] at h; cases h
  | some rs =>
   rw[e] at h;simp only[WG,W9] at h;subst h;obtain⟨h1,h2,h3⟩:=ih e;refine⟨by simp[h1],by simp[h2],λj s v' e1 e2=>?_⟩
   cases j with
   | zero=>simp at e1 e2; subst e1 e2; exact .inl ⟨d,f,rfl,rfl,r⟩
   | succ j=>simpa using h3 j s v' (by simpa using e1) (by simpa using e2)
 | @io v i vs as ds ev _ ih =>
  intro ss h;simp only[bp] at h;split at h
  ·rename_i d ed
   cases e:bp as ds δ with
   | none=>rw[e] at h; cases h
   | some rs =>
    rw[e] at h;simp only[WG,W9] at h;subst h;obtain⟨h1,h2,h3⟩:=ih e;refine⟨by simp[h1],by simp[h2],λj s v' e1 e2=>?_⟩
    cases j with
    | zero=>simp at e1 e2; subst e1 e2; exact .inr ⟨d,i,rfl,rfl,ev,ed⟩
    | succ j=>simpa using h3 j s v' (by simpa using e1) (by simpa using e2)
  ·cases h
theorem vC:∀ (as:List Ak) (rs:List S) (δ:Dl),(aS as rs δ).length=δ.length
 | [],rs,δ=>by simp[aS]
 | .val f :: as,[],δ=>by simp[aS]
 | .io i :: as,[],δ=>by simp[aS]
 | .val f :: as,r :: rs,δ=>by simp[aS,vC as rs δ]
 | .io i :: as,r :: rs,δ=>by simp[aS,vC as rs]
theorem pF:∀ (as:List Ak) (rs:List S) (δ:Dl) (i:Nat),i ∉ ba as->(aS as rs δ)[i]? = δ[i]?
 | [],rs,δ,i,_=>by simp[aS]
 | .val f :: as,[],δ,i,_=>by simp[aS]
 | .io j :: as,[],δ,i,_=>by simp[aS]
 | .val f :: as,r :: rs,δ,i,h=>by rw[aS]; exact pF as rs δ i h
 | .io j :: as,r :: rs,δ,i,h=>by
  simp only[ba,Wh,not_or] at h;rw[aS,pF as rs _ i h.2,W7 (Ne.symm h.1)]
theorem sg:∀ (as:List Ak) (rs:List S) (δ:Dl) (i j:Nat) (r:S),(ba as).Nodup->as[j]? = some (.io i)->rs[j]? = some r->i < δ.length->(aS as rs δ)[i]? = some (some r)
 | [],rs,δ,i,j,r,_,h,_,_=>by simp at h
 | a :: as,[],δ,i,j,r,_,_,h,_=>by simp at h
 | .val f :: as,r0 :: rs,δ,i,j,r,nd,h1,h2,hi=>by
  cases j with
  | zero=>simp at h1
  | succ j=>rw[aS]; exact sg as rs δ i j r nd (by simpa using h1) (by simpa using h2) hi
 | .io k :: as,r0 :: rs,δ,i,j,r,nd,h1,h2,hi=>by
  have gK:=Q0.mp nd
  cases j with
  | zero =>
   simp at h1 h2;subst h1 h2;rw[aS,pF as rs _ k gK.1,Wk hi]
  | succ j=>rw[aS]; exact sg as rs _ i j r gK.2 (by simpa using h1) (by simpa using h2) (by simpa using hi)
theorem vD(k:Ok c σ δ H)(hr:ka c σ δ H vs as ds)(hm:bp as ds δ=some ss)(nd:(ba as).Nodup) :
  Ok ⟨H,λa=>Av c σ δ a/\¬ ∃ (j:Nat) (d:D),ss[j]? = some (S.own d)/\vs[j]? = some (V.ref a),a7 0 ss vs,λ_ _=>False⟩ (bC vs) (bJ ss) H:=by
 obtain⟨h1,h2,h3⟩:=pE hr hm;have at':∀ (j:Nat) s,ss[j]? = some s->∃ v,vs[j]? = some v:=λj s e=>by
  have:j < vs.length:=by rw[<- h1]; exact(We.mp e).1
  exact⟨vs[j],by simp[this]⟩
 have Cj:∀ a,Own (bC vs) (bJ ss) a ↔ ∃ (j:Nat) (d:D),ss[j]? = some (S.own d)/\vs[j]? = some (V.ref a):=λa =>
  ⟨λ⟨j,d,e1,e2⟩=>⟨j,d,dS.mp e1,ei.mp e2⟩,λ⟨j,d,e1,e2⟩=>⟨j,d,dS.mpr e1,ei.mpr e2⟩⟩
 have Ck:∀ a,Own (bC vs) (bJ ss) a->Own σ δ a:=λa z=>by
  obtain⟨j,d,e1,e2⟩:=(Cj a).mp z;rcases h3 j _ _ e1 e2 with ⟨d',f,e,_⟩ | ⟨d',i,e,_,es,ed⟩
  ·cases e
  ·exact⟨i,d',ed,es⟩
 have sub:∀ a,Av ⟨H,λa=>Av c σ δ a/\¬ ∃ (j:Nat) (d:D),ss[j]? = some (S.own d)/\vs[j]? = some (V.ref a),a7 0 ss vs,λ_ _=>False⟩ (bC vs) (bJ ss) a->Av c σ δ a:=λa z=>z.elim (λz=>z.1) λz=>.inr (Ck a z)
 refine⟨λa o e _=>e,λa z=>k.rg z.1,λa ⟨i,hi⟩=>?_,by simp[h1],λj d e=>?_,λj d e=>?_,λi j a d d' e1 e2 e3 e4=>?_,λp hp=>?_⟩
 ·obtain⟨j,d,_,e1,e2⟩:=ib hi;exact k.mV (Ck a ((Cj a).mpr ⟨j,d,e1,e2⟩))
 ·have e':=dS.mp e;obtain⟨v,ev⟩:=at' j _ e';rcases h3 j _ v e' ev with ⟨d',f,e,_,r⟩ | ⟨d',i,e,_⟩
  ·cases e;exact⟨v,ei.mpr ev,r.aJ λb z=>.inl (sub b z)⟩
  ·cases e
 ·have e':=dS.mp e;obtain⟨v,ev⟩:=at' j _ e';rcases h3 j _ v e' ev with ⟨d',f,e,_,r⟩ | ⟨d',i,e,_,es,ed⟩
  ·cases e
  ·cases e;obtain⟨a,g1,g2,g3⟩:=k.own i d ed;rw[es] at g1
   cases g1;refine⟨a,ei.mpr ev,g2.aJ λb z=>.inl (sub b z),.inl ⟨0 + j,sd e' ev⟩,λz=>z.2 ⟨j,d,e',ev⟩⟩
 ·have f1:=dS.mp e1;have f2:=dS.mp e2;rcases h3 i _ _ f1 (ei.mp e3) with ⟨_,_,e,_⟩ | ⟨d1,i1,e,a1,s1,x1⟩
  ·cases e
  ·rcases h3 j _ _ f2 (ei.mp e4) with ⟨_,_,e',_⟩ | ⟨d2,i2,e',a2,s2,x2⟩
   ·cases e'
   ·have:=k.inj i1 i2 a d1 d2 x1 x2 s1 s2;subst this;exact vB nd a1 a2
 ·obtain⟨j,d,e,e1,e2⟩:=ib (i:=p.1) (a:=p.2) hp;rw[Jb] at e;rw[e];exact ei.mpr e2
theorem si(k:Ok c σ δ H)(hr:ka c σ δ H vs as ds)(hm:bp as ds δ=some ss)(nd:(ba as).Nodup)(hB:B=λa=>Av c σ δ a/\¬ ∃ (j:Nat) (d:D),ss[j]? = some (S.own d)/\vs[j]? = some (V.ref a))
  (x:ay ⟨H,B,a7 0 ss vs,λ_ _=>False⟩ (bC vs) (bJ ss) H (bC vs) (bJ ar) H') (c_:∀ (j:Nat) d,ss[j]? = some (.own d)->∃ d',ar[j]? = some (.own d')) (Tt:∀ (j:Nat) d,ss[j]? = some (.pure d)->∃ d',ar[j]? = some (.pure d')) :
  ay c σ δ H σ (aS as ar δ) H'/\∀ v r,aM ⟨H,B,a7 0 ss vs,λ_ _=>False⟩ (bC vs) (bJ ar) H H' v r->aM c σ (aS as ar δ) H H' v r:=by
 obtain⟨h1,h2,h3⟩:=pE hr hm;have sj:∀ i,i ∈ ba as->∃ (j:Nat) (d:D) (a:Addr),as[j]? = some (.io i)/\ss[j]? = some (.own d)/\vs[j]? = some (.ref a)/\σ[i]? = some (some (.ref a))/\δ[i]? = some (some (.own d)):=λi hi=>by
  obtain⟨j,hj,ej⟩:=List.mem_iff_getElem.mp (kb.mp hi);have hv:j < vs.length:=by omega
  have hs:j < ss.length:=by omega
  have vE:as[j]? = some (.io i):=by rw[Wt hj,ej]
  rcases h3 j ss[j] vs[j] (by simp[hs]) (by simp[hv]) with ⟨d,f,e,a1,_⟩ | ⟨d,i',e,a1,s1,x1⟩
  ·rw[vE] at a1; cases a1
  ·rw[vE] at a1; cases a1
   obtain⟨a,g1,_⟩:=k.own i d x1;rw[s1] at g1;have g2:vs[j] = .ref a:=by
    have:=WB g1;exact WB this
   exact⟨j,d,a,vE,by rw[Wt hs,e],by rw[Wt hv,g2],by rw[s1,g2],x1⟩
 have pG:∀ a,(∃ (j:Nat) (d:D),ss[j]? = some (S.own d)/\vs[j]? = some (V.ref a))->Own σ δ a:=λa ⟨j,d,e1,e2⟩=>by
  rcases h3 j _ _ e1 e2 with ⟨d',f,e,_⟩ | ⟨d',i,e,_,es,ed⟩
  ·cases e
  ·exact⟨i,d',ed,es⟩
 have Tu:∀ a,(⟨H,B,a7 0 ss vs,λ_ _=>False⟩:Fc).I a ↔ ∃ (j:Nat) (d:D),ss[j]? = some (S.own d)/\vs[j]? = some (V.ref a):=λa =>
  ⟨λ⟨i,hi⟩=>by obtain⟨j,d,_,e1,e2⟩:=ib hi; exact⟨j,d,e1,e2⟩,λ⟨j,d,e1,e2⟩=>⟨0 + j,sd e1 e2⟩⟩
 have ownIn:∀ a,Own (bC vs) (bJ ss) a->∃ (j:Nat) (d:D),ss[j]? = some (S.own d)/\vs[j]? = some (V.ref a):=λa ⟨j,d,e1,e2⟩=>⟨j,d,dS.mp e1,ei.mp e2⟩
 -- the owned addresses are the same
 have sk:∀ (i:Nat) (d:D),(aS as ar δ)[i]? = some (some (.own d))->(i ∉ ba as/\δ[i]? = some (some (.own d)))\/(i ∈ ba as/\∃ (j:Nat) (d0:D) (a:Addr),as[j]? = some (.io i)/\ss[j]? = some (.own d0)/\vs[j]? = some (.ref a)/\σ[i]? = some (some (.ref a))/\ar[j]? = some (.own d)):=λi d e=>by
  by_cases hi:i ∈ ba as
  ·right
   obtain⟨j,d0,a,a1,a2,a3,a4,a5⟩:=sj i hi;obtain⟨d',ed'⟩:=c_ j d0 a2;have aY:i < δ.length:=(We.mp a5).1;have:=sg as ar δ i j (.own d') nd a1 ed' aY;rw[e] at this
   cases this;exact⟨hi,j,d0,a,a1,a2,a3,a4,ed'⟩
  ·rw[pF as ar δ i hi] at e;exact .inl ⟨hi,e⟩
 have pH:∀ b,Own σ (aS as ar δ) b->Own σ δ b:=λb ⟨i,d,e1,e2⟩=>by
  rcases sk i d e1 with ⟨_,e⟩ | ⟨hi,j,d0,a,_,a2,a3,a4,_⟩
  ·exact⟨i,d,e,e2⟩
  ·rw[e2] at a4;have:b=a:=by injection (WB (WB a4))
   subst this;exact pG b ⟨j,d0,a2,a3⟩
 have Ll:∀ (i:Nat) (d:D),(aS as ar δ)[i]? = some (some (.pure d))->i ∉ ba as/\δ[i]? = some (some (.pure d)):=λi d e=>by
  by_cases hi:i ∈ ba as
  ·obtain⟨j,d0,a,a1,a2,a3,a4,a5⟩:=sj i hi;obtain⟨d',ed'⟩:=c_ j d0 a2;have aY:i < δ.length:=(We.mp a5).1;have:=sg as ar δ i j (.own d') nd a1 ed' aY;rw[e] at this
   cases this
  ·rw[pF as ar δ i hi] at e;exact⟨hi,e⟩
 have Cm:∀ a o,H a=some o->¬ Av c σ δ a->H' a=some o:=λa o e n=>x.keep a o e λz=>n (.inr (pG a (ownIn a z)))
 have l8:∀ b,Av c σ (aS as ar δ) b->Av c σ δ b:=λb z=>z.elim .inl λz=>.inr (pH b z)
 -- the callee's set holds ours
 have big:∀ {c':Fc},c'.B=B->∀ b,Av c σ δ b->Av c' (bC vs) (bJ ar) b:=λ{c'} hB' b z=>by
  by_cases hp:∃ (j:Nat) (d:D),ss[j]? = some (S.own d)/\vs[j]? = some (V.ref b)
  ·obtain⟨j,d,e1,e2⟩:=hp;obtain⟨d',ed'⟩:=c_ j d e1;exact .inr ⟨j,d',dS.mpr ed',ei.mpr e2⟩
  ·exact .inl (by rw[hB',hB]; exact⟨z,hp⟩)
 have Cn:∀ (c1 c2:Fc),c1.H₀=c.H₀->c1.pin=c.pin->(∀ b,c1.B b->c.B b\/(c2.B b/\H b=none))->c2.pin=a7 0 ss vs->(∀ b,B b->c2.B b)->Ok c2 (bC vs) (bJ ar) H'->(∀ b,c1.B b->∃ o,H' b=some o)->Ok c1 σ (aS as ar δ) H':=λc1 c2 e0 e1 e2 e3 e4 k2 hex=>by
  have Co:∀ b,Av c1 σ (aS as ar δ) b->Av c σ δ b\/H b=none:=λb z=>by
   rcases z with z | z
   ·rcases e2 b z with z | ⟨_,z⟩
    ·exact .inl (.inl z)
    ·exact .inr z
   ·exact .inl (.inr (pH b z))
  have rj:∀ b,Av c1 σ (aS as ar δ) b->Av c2 (bC vs) (bJ ar) b:=λb z=>by
   have bg:∀ b,Av c σ δ b->Av c2 (bC vs) (bJ ar) b:=λb z=>by
    by_cases hp:∃ (j:Nat) (d:D),ss[j]? = some (S.own d)/\vs[j]? = some (V.ref b)
    ·obtain⟨j,d,e1,e2⟩:=hp;obtain⟨d',ed'⟩:=c_ j d e1;exact .inr ⟨j,d',dS.mpr ed',ei.mpr e2⟩
    ·exact .inl (e4 b (by rw[hB]; exact⟨z,hp⟩))
   rcases z with z | z
   ·rcases e2 b z with z | ⟨z,_⟩
    ·exact bg b (.inl z)
    ·exact .inl z
   ·exact bg b (.inr (pH b z))
  have Lm:∀ {v:V} {d:D},Rep H (Av c σ δ) v d->Rep H' (Av c1 σ (aS as ar δ)) v d:=λ{v d} r=>by
   have r1:Rep H (λb=>Av c σ δ b\/Av c1 σ (aS as ar δ) b) v d:=r.aJ λb z=>z.elim .inl (Co b)
   exact(r1.keep λb o e n=>Cm b o e λz=>n (.inl z)).aJ λb z=>.inl (.inr z)
  refine⟨λa o e n=>?_,hex,λa z=>?_,by rw[vC]; exact k.len,λi d e=>?_,λi d e=>?_,λi j a d d' f1 f2 f3 f4=>?_,by rw[e1]; exact k.pinned⟩
  ·rw[e0] at e;have n':¬ c.I a:=λz=>n (by unfold Fc.I at z ⊢; rw[e1]; exact z)
   refine x.keep a o (k.keep a o e n') λz=>?_
   obtain⟨i,d,g1,g2⟩:=pG a (ownIn a z);obtain⟨a',g3,_,g4,_⟩:=k.own i d g1;rw[g2] at g3; cases g3
   rcases g4 with g4 | g4
   ·exact n' g4
   ·rw[g4] at e; cases e
  ·have z':c.I a:=by unfold Fc.I at z ⊢; rw[<- e1]; exact z
   obtain⟨o,e⟩:=k.cw a z';exact x.there a o e
  ·obtain⟨hi,e'⟩:=Ll i d e;obtain⟨v,g1,g2⟩:=k.slot i d e';exact⟨v,g1,Lm g2⟩
  ·rcases sk i d e with ⟨hi,e'⟩ | ⟨hi,j,d0,a,b1,b2,b3,b4,b5⟩
   ·obtain⟨a,g1,g2,g3,g4⟩:=k.own i d e';have na:¬ Own (bC vs) (bJ ss) a:=λz=>by
     obtain⟨j,d1,q1,q2⟩:=ownIn a z;rcases h3 j _ _ q1 q2 with ⟨d',f,ee,_⟩ | ⟨d',i',ee,ai,es,ed⟩
     ·cases ee
     ·have:=k.inj i i' a d d' e' ed g1 es;subst this;exact hi (kb.mpr (WW ai))
    have Ln:fR H' (Av c1 σ (aS as ar δ)) a d:=by
     have o1:fR H (λb=>Av c σ δ b\/Av c1 σ (aS as ar δ) b) a d:=g2.aJ λb z=>z.elim .inl (Co b)
     exact(o1.keep (λb o e n=>Cm b o e λz=>n (.inl z)) λo e=>x.keep a o e na).aJ λb z=>.inl (.inr z)
    refine⟨a,g1,Ln,by unfold Fc.I at g3 ⊢; rw[e0,e1]; exact g3,λz=>?_⟩;rcases e2 a z with z | ⟨_,z⟩
    ·exact g4 z
    ·obtain⟨o,eo⟩:=g2.some;rw[z] at eo; cases eo
   ·obtain⟨a',g1,g2,g3,g4⟩:=k2.own j d (dS.mpr b5);rw[ei.mpr b3] at g1
    cases g1;obtain⟨i0,d1,q1,q2⟩:=pG a ⟨j,d0,b2,b3⟩;obtain⟨a'',q3,q4,q5,q6⟩:=k.own i0 d1 q1;rw[q2] at q3; cases q3
    refine⟨a,b4,g2.aJ λb z=>.inl (rj b z),by unfold Fc.I at q5 ⊢; rw[e0,e1]; exact q5,λz=>?_⟩;rcases e2 a z with z | ⟨_,z⟩
    ·exact q6 z
    ·obtain⟨o,eo⟩:=q4.some;rw[z] at eo; cases eo
  ·obtain⟨d1,g1⟩:∃ d1,δ[i]? = some (some (.own d1)):=by
    rcases sk i d f1 with ⟨_,e'⟩ | ⟨hi,_⟩
    ·exact⟨d,e'⟩
    ·obtain⟨_,d1,_,_,_,_,_,a5⟩:=sj i hi;exact⟨d1,a5⟩
   obtain⟨d2,g2⟩:∃ d2,δ[j]? = some (some (.own d2)):=by
    rcases sk j d' f2 with ⟨_,e'⟩ | ⟨hi,_⟩
    ·exact⟨d',e'⟩
    ·obtain⟨_,d1,_,_,_,_,_,a5⟩:=sj j hi;exact⟨d1,a5⟩
   exact k.inj i j a d1 d2 g1 g2 f3 f4
 have Lo:Ok c σ (aS as ar δ) H':=Cn c ⟨H,B,a7 0 ss vs,λ_ _=>False⟩ rfl rfl (λb z=>.inl z) rfl (λb z=>z) x.ok λb z=>by
  obtain⟨o,e⟩:=k.bd b z;exact x.there b o e
 refine⟨⟨Lo,λa o e n=>x.keep a o e λz=>n (pG a (ownIn a z)),λa z=>.inl (pH a z),x.there⟩,λv r hr=>?_⟩
 cases r with
 | pure d=>exact Rep.aJ hr λb z=>.inl (big rfl b (l8 b z))
 | own d =>
  obtain⟨a,ea,o,nb,h0,kp,hs⟩:=hr;have nA:H a=none:=hs;have gi:¬ Av c σ δ a:=k.gi nA;refine⟨a,ea,o.aJ λb z=>.inl ?_,λz=>gi (.inl z),k.jX nA,?_,nA⟩
  ·rcases z with (z | z) | z
   ·exact(big rfl b (.inl z)).elim (λz=>.inl (.inl z)) .inr
   ·exact .inl (.inr z)
   ·exact(big rfl b (.inr (pH b z))).elim (λz=>.inl (.inl z)) .inr
  ·refine Cn (c.plus a) (Fc.plus ⟨H,B,a7 0 ss vs,λ_ _=>False⟩ a) rfl rfl (λb z=>?_) rfl (λb z=>.inl z) kp λb z=>?_
   ·rcases z with z | z
    ·exact .inl z
    ·exact .inr ⟨.inr z,by rw[z]; exact nA⟩
   ·rcases z with z | z
    ·obtain⟨o,e⟩:=k.bd b z;exact x.there b o e
    ·rw[z]; exact o.some
end
def dC(G:DF):Prop:=∀ ss r ar,G ss=some (r,ar)->ar.length=ss.length/\∀ (j:Nat),(∀ d,ss[j]? = some (.own d)->∃ d',ar[j]? = some (.own d'))/\∀ d,ss[j]? = some (.pure d)->∃ d',ar[j]? = some (.pure d')
theorem Lp(hG:∀ ss y,G ss=some y->dm fb n ss=some y):dC G:=λss r ar h=>by
 have:=hG ss _ h;unfold dm at this
 cases e:fb (aV n ss) with
 | exc x δx=>rw[e] at this; cases this
 | stuck=>rw[e] at this; cases this
 | ok fl δ =>
  rw[e] at this;simp only at this
  cases e1:bO fl with
  | none=>rw[e1] at this; cases this
  | some r' =>
   rw[e1] at this;simp only[Wu] at this
   cases e2:bb 0 ss δ with
   | none=>rw[e2] at this; cases this
   | some os =>
    rw[e2] at this
    cases this;obtain⟨h1,h2⟩:=pD e2;refine⟨h1,λj=>⟨λd ed=>?_,λd ed=>?_⟩⟩
    ·rcases h2 j _ ed with ⟨d',z,_⟩ | ⟨d',d'',_,_,z⟩
     ·cases z
     ·exact⟨d'',z⟩
    ·rcases h2 j _ ed with ⟨d',z,z'⟩ | ⟨d',d'',z,_⟩
     ·exact⟨d',z'⟩
     ·cases z
section
variable {X:Cx} {c:Fc} {e:Expr} {es:List Expr} {as:List Ak} {k n:Nat} {x:Str} {G:DF} {pp pos:Pos}
theorem vF{ps:List Str}(hK:dC G){σ:St}{H:Hp}{Q:VK}(hl:as.length=n)(h:tD c (aG G as) σ H Q):ub (k6 n G) [] E0 (tX c as) σ H Q:=by
 obtain⟨δ,kk,q⟩:=h;unfold aG at q;split at q
 ·rename_i hc;rw[Ws] at hc;have nd:=sf hc.2;rw[aX] at q;refine⟨δ,kk,λi hi=>?_,aL q λds δ1 q1 vs H1 a1 r1=>?_⟩
  ·have:=Qo.mp hc.1 i (kb.mpr hi);unfold bE at this;split at this
   ·rename_i d ed;exact m_ kk ed
   ·cases this
  ·cases em:bp as ds δ1 with
   | none=>rw[em] at q1; exact q1.elim
   | some ss =>
    rw[em] at q1;simp only at q1
    cases eg:G ss with
    | none=>rw[eg] at q1; exact q1.elim
    | some y =>
     obtain⟨r,ar⟩:=y;rw[eg] at q1;have fq:=vD a1.ok r1 em nd;obtain⟨m1,m2,_⟩:=pE r1 em;obtain⟨g1,g2⟩:=hK ss r ar eg;refine⟨ss,_,by rw[WK,<- m2]; exact hl,by rw[WK]; exact fq,r,ar,eg,λv H2 a2 r2=>?_⟩;rw[WK] at a2 r2;obtain⟨o1,o2⟩:=si a1.ok r1 em nd rfl a2 (λj d ed=>(g2 j).1 d ed) λj d ed=>(g2 j).2 d ed
     exact q1 v H2 (a1.trans o1) (aM.back (o2 v r r2) a1)
 ·exact q.elim
theorem da (F:cN X.prog X.w X.K X.mg X.base k x n G) (hK:dC G) (hr:bj k X.A) (hg:Gl X x) (ha:SX X c (e :: es) as) (hl:as.length=n) (cq:(x == ("__debug__" : Str))=false:=by decide)
  (he:W5 (e :: es) X.env=(false,eval e X.env) :: W5 es X.env:=by rfl) (bx:(WN pos (W5 es X.env)).any (·.1)=false:=by rfl):SE X c (.Call (.Name x pp) (e :: es) [] pos) (aG G as):=by
 obtain⟨f,fd,ps,hm,hk,hb,ok⟩:=F;exact PE.weak (Al ok hr hg hm hk hb .nil AZ ha cq he bx) λσ H Q h=>vF (ps:=ps) hK hl h
end
def cJ(np:List Nat)(n:Nat)(b:DS):DF:=λss=>if bK np 0 ss then dm b n ss else none
theorem eY(h:cJ np n b ss=some y):bK np 0 ss=true/\dm b n ss=some y:=by
 unfold cJ at h;split at h
 ·rename_i hi; exact⟨hi,h⟩
 ·cases h
theorem fu:dC (cJ np n b):=Lp λ_ _ h=>(eY h).2
theorem en(r:bj k A):A.units + 64 < Qi:=by have:=r.un; omega
theorem jy{c:Fc}{np cs:List Nat}(h:Np c np)(hc:cs.all (λi=>!np.contains i)=true):∀ p ∈ c.pin,p.1 ∉ cs:=λp hp z=>by
 have h1:=h p hp;have h2:=Qo.mp hc p.1 z;rw[h1] at h2
 cases h2
def sm:List Str->Bool
 | []=>true
 | x :: r=>!r.contains x && sm r
theorem Cp:∀ {l:List Str},sm l=true->l.Nodup
 | [],_=>.nil
 | x :: r,h=>by
  simp only[sm,Ws,JP] at h;exact Q0.mpr ⟨λhm=>by have:=h.1; simp at this; exact this hm,Cp h.2⟩
def gL(names:List (Str×NameKind))(x:Str)(k:NameKind):Bool:=match names.lookup x with
 | some j=>j == k
 | none=>false
theorem vG(h:gL names x k=true):names.lookup x=some k:=by
 unfold gL at h;split at h
 ·rename_i j e; rw[e,eq_of_beq h]
 ·cases h
def Cq(names:List (Str×NameKind))(N:List Str)(sc:List (Str×NameKind))(cs:List Nat):Bool :=
 sc.all (λx=>!(x.2 == .local) || gL sc x.1 .local) && sc.all (λx=>!(x.2 == .free) || (gL names x.1 .cell || gL names x.1 .free)) && sm (sc.map (·.1)) &&
 (Wp N.length).all λi=>match N[i]? with
  | some x=>!(gL sc x .local || gL sc x .cell) || cs.contains i
  | none=>true
theorem Cr(h:names.lookup x=some k):gL names x k=true:=by
 unfold gL; rw[h]; simp
theorem jz{X:Cx}{scope:Scope}{cs:List Nat}(hk:scope.kind = .function)(h:Cq X.env.scope.names X.N scope.names cs=true):kP X scope cs:=by
 unfold Cq at h;simp only[Ws] at h;obtain⟨⟨⟨h1,h2⟩,h3⟩,h4⟩:=h;refine⟨hk,λx hx hl=>?_,λx hx hf=>?_,Cp h3,λi x hi hl=>?_⟩
 ·have:=Qo.mp h1 x hx;rw[hl] at this;exact vG (by simpa using this)
 ·have:=Qo.mp h2 x hx;rw[hf] at this;have:gL X.env.scope.names x.1 .cell=true\/gL X.env.scope.names x.1 .free=true:=by simpa using this
  exact this.elim (λz=>.inl (vG z)) λz=>.inr (vG z)
 ·have vq:i < X.N.length:=(We.mp hi).1;have:=Qo.mp h4 i (Q8.mpr vq);rw[hi] at this;have jN:(gL scope.names x .local || gL scope.names x .cell)=true:=by
   rcases hl with z | z
   ·rw[Cr z]; rfl
   ·rw[Cr z]; simp
  simp only[jN,Bool.not_true,Bool.false_or] at this;simpa using this
theorem Lq {K:W1}:gG K "int":=⟨rfl,rfl,rfl,rfl,rfl,rfl,rfl⟩
theorem Lr {K:W1}:gG K "bool":=⟨rfl,rfl,rfl,rfl,rfl,rfl,rfl⟩
theorem Ls {K:W1}:gG K "str":=⟨rfl,rfl,rfl,rfl,rfl,rfl,rfl⟩
theorem Lu {K:W1}:gG K "tuple":=⟨rfl,rfl,rfl,rfl,rfl,rfl,rfl⟩
theorem Lv {K:W1}:gG K "list":=⟨rfl,rfl,rfl,rfl,rfl,rfl,rfl⟩
def l9:Expr->Bool
 | .Starred ..=>false
 | _=>true
theorem nB(h:l9 e=true):W5 (e :: es) env=(false,eval e env) :: W5 es env:=by
 cases e <;> first | (cases h; done) | rw[W5] | rfl
 all_goals (intros; contradiction)
section
variable {X:Cx} {c:Fc} {e:Expr} {es:List Expr} {f fe:DE} {g:DA} {as:List Ak}
theorem bM(ha:SE X c e f)(hr:SA X c es g)(hs:l9 e=true:=by rfl):SA X c (e :: es) (aO f g):=BQ ha hr (nB hs)
theorem bG(ha:SE X c e fe)(hr:SX X c es as)(hs:l9 e=true:=by rfl):SX X c (e :: es) (.val fe :: as):=Lj ha hr (nB hs)
theorem fX{i:Nat}(ha:PE X e (cY i))(hr:SX X c es as)(hs:l9 e=true:=by rfl):SX X c (e :: es) (.io i :: as):=Lk ha hr (nB hs)
end
mutual
def iT:Nat->Expr->Option D
 | _,.Constant (.int i) _ _=>some (.int i)
 | _,.Constant (.bool b) _ _=>some (.bl b)
 | _,.Constant .none _ _=>some .aq
 | _,.Constant (.str x) _ _=>some (.str x.cps.toList)
 | n + 1,.Tuple es _ _=>if es.length<=1000 then(l_ n es).map .tup else none
 | _,_=>none
def l_:Nat->List Expr->Option (List D)
 | _,[]=>some []
 | n,e :: es=>match iT n e,l_ n es with
  | some d,some ds=>some (d :: ds)
  | _,_=>none
end
theorem Lw:∀ {n:Nat} {e:Expr} {d:D},iT n e=some d->l9 e=true:=λ{n e d} h=>by
 cases e <;> first | rfl | (cases n <;> simp[iT] at h)
mutual
theorem Cs:∀ {n:Nat} {e:Expr} {d:D},iT n e=some d->SE X c e (eD d)
 | _,.Constant (.int i) _ _,d,h=>by
  simp only[iT,W9] at h; subst h; exact aR
 | _,.Constant (.bool b) _ _,d,h=>by
  simp only[iT,W9] at h; subst h; exact jY
 | _,.Constant .none _ _,d,h=>by
  simp only[iT,W9] at h; subst h; exact uO
 | _,.Constant (.str x) _ _,d,h=>by
  simp only[iT,W9] at h; subst h; exact kR _ (uN x)
 | 0,.Tuple es k pos,d,h=>by simp[iT] at h
 | n + 1,.Tuple es k pos,d,h=>by
  simp only[iT] at h;split at h
  ·rename_i hl
   cases e:l_ n es with
   | none=>rw[e] at h; cases h
   | some ds =>
    rw[e] at h;simp only[WG,W9] at h;subst h;exact iN (vH e) hl
  ·cases h
theorem vH:∀ {n:Nat} {es:List Expr} {ds:List D},l_ n es=some ds->SA X c es (λδ=>.ok ds δ)
 | _,[],ds,h=>by
  simp only[l_,W9] at h; subst h; exact dJ
 | n,e :: es,ds,h=>by
  simp only[l_] at h;split at h
  ·rename_i d bN h1 h2
   cases h;exact BQ (Cs h1) (vH h2) (nB (Lw h1))
  ·cases h
end
def k8(ds:List D):DE:=λδ=>.ok (.own (.lst ds)) δ
theorem Lx{X:Cx}{c:Fc}{e:Expr}{d:D}(h:iT 9 e=some d):SE X c e (eD d):=Cs h
theorem vI{X:Cx}{c:Fc}{es:List Expr}{ds:List D}{pos:Pos}(h:l_ 9 es=some ds)(hl:es.length<=1000):SE X c (.List es pos) (k8 ds):=iO (vH h) hl
section
variable {X:Cx} {c:Fc} {e:Expr} {fe:DE} {pos:Pos} {tg:Expr}
theorem Ct(he:SE X c e fe)(hs:QO e none pos.line X.env=pure false:=by rfl):SS X c (.Expr e pos) (j7 fe) :=
 K0 he (λ_=>hs) trivial (tZ he hs)
theorem sr{i:Nat}{o:Expr}{apos aU:Pos}(ho:PE X o (cY i))(he:SE X c e fe)
  (jR:Qq o "append" X.env (eval o X.env)=eval o X.env:=by rfl)
  (jS:((WN aU (W5 [e] X.env)).all (λx=>!x.1) && (JE aU (J4 [] X.env)).all (λx=>x.1.isSome)
   && decide ([e].length + ([]:List Keyword).length + (if ([]:List Keyword).isEmpty then 0 else 1) < 30))=true:=by rfl)
  (fF:(apos.endLine == aU.line)=true:=by rfl) (hs:W5 [e] X.env=(false,eval e X.env) :: W5 [] X.env:=by rfl)
  (lW:QO (.Call (.Attribute o "append" apos) [e] [] aU) none pos.line X.env=pure false:=by rfl):SS X c (.Expr (.Call (.Attribute o "append" apos) [e] [] aU) pos) (fo i fe) :=
 K1 (p0:=apos) ho he (tZ (qR PySem.F.plainAttrs_list PySem.F.slot_list_append PySem.F.type_list_append AO ho (df he eU hs) jR jS fF hs rfl) lW)
end
def pI(K:W1):Bool:=K.all λp=>match p.2.cls with
 | .type t=>!(t == "list")
 | _=>true
theorem Cu[BEq α][LawfulBEq α]:∀ {K:List (α×β)} {a:α} {o:β},K.lookup a=some o->(a,o) ∈ K
 | [],a,o,e=>by simp at e
 | (b,o') :: r,a,o,e=>by
  rw[WT] at e
  cases hb:a == b with
  | true =>
   rw[hb] at e;have h1:o'=o:=WB e;have h2:a=b:=eq_of_beq hb;rw[h1,h2];exact Wj
  | false =>
   rw[hb] at e;exact Wd _ (Cu e)
theorem Cv {K:W1} {a:Addr} {o:Obj} (h:pI K=true) (e:K.lookup a=some o) (hc:o.cls = .type "list"):False:=by
 have hm:(a,o) ∈ (K:List (Addr×Obj)):=Cu e;have h1:=Qo.mp h (a,o) hm;have h2:(match o.cls with | .type t=>!(t == "list") | _=>true)=true:=h1;rw[hc] at h2;have h3:(!(("list" : String) == "list"))=true:=h2;rw[beq_self_eq_true] at h3
 cases h3
theorem Ly{K:W1}{G:DF}{H:Hp}{a:Addr}{ns:List Int}{E:XK}(hK:pI K=true)(hS:cg K H a (ns.map V.int))(hG:∃ ar,G [.pure (.lst (ns.map .int))]=some (.pure (.bl true),ar)) :
  k6 1 G [.ref a] H (λv _=>v = .bl true) E:=by
 have hR:Rd H a (.lst (ns.map V.int)):=by
  rcases hS with h | ⟨o,aa,n,e,hc,_⟩
  ·exact h
  ·exact(Cv hK e hc).elim
 obtain⟨ar,hg⟩:=hG;have rep:∀ O:Addr->Prop,¬ O a->Rep H O (.ref a) (.lst (ns.map D.int)):=λO hO=>.lst hO hR (by simp) λi v d e1 e2=>by
  rw[WF] at e1 e2
  cases e:ns[i]? with
  | none=>rw[e] at e1; cases e1
  | some k=>rw[e] at e1 e2; cases e1; cases e2; exact .int k
 refine⟨[.pure (.lst (ns.map .int))],λ_=>False,rfl,⟨λb o e _=>e,λb z=>z.elim,λb ⟨i,z⟩=>?_,rfl,λi d e=>?_,λi d e=>?_,λi j b d d' e1 e2 e3 e4=>?_,λp z=>?_⟩,_,ar,hg,λv H' x r=>?_⟩
 ·simp[a7] at z
 ·cases i with
  | zero =>
   simp at e;subst e;refine⟨.ref a,rfl,rep _ λz=>?_⟩;rcases z with z | ⟨j,d',z1,z2⟩
   ·exact z
   ·cases j with
    | zero=>simp at z1
    | succ j=>simp at z1
  | succ i=>simp at e
 ·cases i with
  | zero=>simp at e
  | succ i=>simp at e
 ·cases i with
  | zero=>simp at e1
  | succ i=>simp at e1
 ·simp[a7] at z
 ·cases r;rfl
theorem Cw{l:JW}{q:Wg}{loose:List Str}{XP:(Str->Option Value)->Heap->Prop}{YP:Wm->Heap->Prop}{d:DefRec}{K:Params->W1}{k:Nat}{G:DF}(hn:l.most=some 63)(lU:d.params.defaults=[])(hr:bj k callerA)
  (hY:∀ (w:Wm) (h:Heap),YP w h->(K w.params).In h) (hL:∀ p:Params,pI (K p)=true)
  (hG:∀ ns:List Int,ns.length<=63->∃ ar,G [.pure (.lst (ns.map .int))]=some (.pure (.bl true),ar))
  (F:∀ (w:Wm) (mg:Str->Option Value) (fa:Addr) (h:Heap),(K w.params).In h->h.Ns Wn mg->mg d.name=some (.ref fa) ->
   ∃ fd:Wy,(∀ (s:W2) (u:Value),BindsTo s fd ⟨[u],[]⟩ [("script",u)])/\∀ base:Heap,(K w.params).In base->base.Ns Wn mg->c8 l.prog w (K w.params) mg base bV k fa fd ["script"] (k6 1 G)) :
  PySem.W.WalkO q loose XP YP l.row.toRowW d [] (λf vs=>PySem.call f vs) :=
 L2.Ie (n:=63) (k:=k) (x:="script") (CX:=λ_=>bV) (sp:=λ_=>k6 1 G) hn (by decide) lU hr hY F (λw H a ns hl _ hS=>Ly (hL w.params) hS (hG ns hl)) λ_ _ _ _ _ z=>z
end DV
set_option maxHeartbeats 400000
namespace L2
open PySem PySem.Spec PyProof.Rows
def vJ(x:Str):It:=⟨λi _=>i < x.cps.size,λi H y H'=>H'=H/\∃ c,x.cps[i]? = some c/\y = .str ⟨#[c]⟩,λi _=>i=x.cps.size⟩
theorem Lz {P:Wg} {w:Wm} {K:W1} {tg:Expr} (x:Str) (t:Tok) (it:Addr) (T:String) (hT:T = "str_ascii_iterator"\/T = "str_iterator"):Turn P w K tg (vJ x) [it] it (λi h=>h.IsStrIter it T x t i):=by
 have W:∀ A:Wl,A.handled=none->Walks P w A it [it] [it] x.cps.size (SignAt x) (λi h=>h.IsStrIter it T x t i):=λA hh=>by
  rcases hT with rfl | rfl
  ·exact Walks.strAscii hh it x t
  ·exact Walks.strWide hh it x t
 refine⟨by simp,λi h st b hb=>?_,λi h h' st k=>?_,?_,?_,λA i s Q E st h=>?_⟩
 ·have e:b=it:=by simpa using hb
  subst e;obtain⟨o,e,c,d⟩:=st;exact⟨o,e,λv z=>by rw[d] at z; cases z⟩
 ·obtain⟨o,e,r⟩:=st;exact⟨o,k it (by simp) o e,r⟩
 ·intro X hP hw hK hc i pins s σ H E I hf st hg;subst hP hw hK;obtain⟨f0,f1,f2,f3,f4,f5⟩:=hf it (by simp);refine(W X.A (I.ok.hd hc)).item i s _ _ hg st λv h' tk hv dw kk=>?_
  obtain⟨c,u,hx,rfl⟩:=hv;have I1:Inv X pins σ H { s with heap:=h',toks:=tk }:=I.turned (λb o hb e=>kk b o (by simpa using hb) e) f0 f1 f3 f4 f5;obtain⟨o,e,c',d⟩:=id dw;refine⟨_,rfl,oB (s:={ s with heap:=h',toks:=tk }) e c' d (by rcases hT with rfl | rfl <;> decide) ⟨.str ⟨#[c]⟩,H,I1,⟨u,rfl⟩,⟨rfl,c,hx,rfl⟩,dw,λb hb=>(hf b hb).1⟩⟩
 ·intro X hP hw hK hc i pins s σ H E I hf st hg;subst hP hw hK;have mT:i=x.cps.size:=hg;subst mT;obtain⟨f0,f1,f2,f3,f4,f5⟩:=hf it (by simp);exact(W X.A (I.ok.hd hc)).done s _ _ st λh' tk eb=>⟨rfl,I.turned (λb o hb e=>eb b o (by simpa using hb) e) f0 f1 f3 f4 f5⟩
 ·rcases hT with rfl | rfl
  ·exact wpAny_pyIter_striter_ascii st h
  ·exact wpAny_pyIter_striter_wide st h
end L2
namespace DV
open PySem PySem.Spec PyProof.Rows L2
section
variable {X:Cx} {c:Fc} {tg e:Expr} {fe:DE} {pos pp:Pos}
def Cy(K:W1)(tl:TE):TI:=λσ H R=>tl σ H λx H1=>(∃ a,x = .ref a/\(∃ xs,cg K H1 a xs)/\R (oC K a) H1)\/(∃ a,x = .ref a/\(∃ xs,cD K H1 a xs)/\R (qH K a) H1)\/∃ z,x = .str z/\R (vJ z) H1
theorem Cz{l:Expr}{tl:TE}(hl:PE X l tl):PI X tg l (Cy X.K tl):=by
 intro pins s σ H R I h;refine aH (hl pins s σ H _ I h) λv s1 ⟨x,H1,I1,r1,q1⟩=>?_
 rcases q1 with q1 | q1 | ⟨z,e,q⟩
 ·obtain⟨a,e,⟨xs,hq⟩,q⟩:=q1;subst e
  cases r1;obtain⟨aa,rv,p,hz⟩:=I1.list hq;refine wpAny_pyIter_list p.isList ?_;refine⟨s1.heap.objs.size,[s1.heap.objs.size],_,_,H1,rfl,I1.kept (t':=s1.toks) λb o e=>W3 _ e,Gs a _,⟨_,Wi _ rfl,rfl,rfl⟩,λb hb=>?_,q⟩;have e:b=s1.heap.objs.size:=by simpa using hb
  subst e;exact I1.jj (Wb _) (I1.ag.fresh (Wb _))
 ·obtain⟨a,e,⟨xs,hq⟩,q⟩:=q1;subst e
  cases r1;obtain⟨aa,rv,p,hz⟩:=I1.tuple hq;refine Jg (show s1.heap.IsTuple a aa.toArray from p) ?_;refine⟨s1.heap.objs.size,[s1.heap.objs.size],_,_,H1,rfl,I1.kept (t':=s1.toks) λb o e=>W3 _ e,Gu a _,⟨_,Wi _ rfl,rfl,rfl⟩,λb hb=>?_,q⟩;have e:b=s1.heap.objs.size:=by simpa using hb
  subst e;exact I1.jj (Wb _) (I1.ag.fresh (Wb _))
 ·subst e;obtain⟨t,rfl⟩:=r1;refine wpAny_pyIter_strU ?_;have hT:strIterType z = "str_ascii_iterator"\/strIterType z = "str_iterator":=by
   unfold strIterType;split
   ·exact .inl rfl
   ·exact .inr rfl
  refine⟨s1.heap.objs.size,[s1.heap.objs.size],_,_,H1,rfl,I1.kept (t':=s1.toks) λb o e=>W3 _ e,Lz z t _ _ hT,⟨_,Wi _ rfl,rfl,rfl⟩,λb hb=>?_,q⟩;have e:b=s1.heap.objs.size:=by simpa using hb
  subst e;exact I1.jj (Wb _) (I1.ag.fresh (Wb _))
theorem LA(z:Tx):kY c σ δ H (vJ (toS z)) (z.map λn=>D.str [n]):=by
 intro H2 kp;have hsz:(toS z).cps.size=z.length:=by simp[toS]
 refine⟨by show(z.map _).length=_; rw[hsz]; simp,λi d e=>?_⟩;rw[WF] at e
 cases ez:z[i]? with
 | none=>rw[ez] at e; cases e
 | some n =>
  rw[ez] at e
  cases e;have hi:i < z.length:=(We.mp ez).1;refine⟨by show i < _; rw[hsz]; exact hi,λx H3 ⟨e3,cc,hc,hx⟩=>.inl ⟨e3,?_⟩⟩;have:(toS z).cps[i]? = z[i]?:=by simp[toS]
  rw[this,ez] at hc
  cases hc;rw[hx];exact .str [n]
def cm(f:DE):DI:=λδ=>(f δ).bind λr δ1=>match r.d with
 | .lst ds=>.ok ds δ1
 | .tup ds=>.ok ds δ1
 | .str x=>.ok (x.map λn=>.str [n]) δ1
 | _=>.stuck
theorem ie(he:SE X c e fe):SI X c tg e (cm fe):=PI.weak (Cz he) λσ H R ⟨δ,k,q⟩=>by
 unfold cm at q;rw[aX] at q;refine⟨δ,k,aL q λr δ1 q1 v H1 a1 r1=>?_⟩;have rr:=r1.rep;generalize r.d=d at q1 rr
 cases d <;> first | exact q1.elim | skip
 ·cases rr;exact .inr (.inr ⟨_,rfl,q1 _ H1 a1 (LA _)⟩)
 ·cases rr with
  | tup h1 h2 h3 h4=>exact .inr (.inl ⟨_,rfl,⟨_,.of h2⟩,q1 _ H1 a1 (K2 _ h2 (λz=>h1 (.inr z)) ⟨h3,h4⟩)⟩)
 ·cases rr with
  | lst h1 h2 h3 h4 =>
   refine .inl ⟨_,rfl,⟨_,.inl h2⟩,q1 _ H1 a1 ?_⟩;intro H2 kp;rename_i a vs;have h5:Rd H2 a (.lst vs):=Rd.keep h2 λo e=>kp a o e λz=>h1 (.inr z)
   have r':ax H1 (Av c σ δ1) vs _:=⟨h3,h4⟩
   refine⟨⟨vs,.inl h5,by rw[r'.1]; exact Wb _⟩,λi d e=>?_⟩;obtain⟨v,ev,rv⟩:=r'.get e;refine⟨⟨vs,v,.inl h5,ev⟩,λx H3 ⟨e3,y⟩=>.inl ⟨e3,?_⟩⟩;have:=y vs (.inl h5);rw[ev] at this
   cases this;exact rv
end
end DV
namespace L2
open PySem PySem.Spec PyProof.Rows
theorem LB(a:Int)(t:Tok)(l:Addr)(dd:Option Addr)(items:Array Value)(n:Nat)(sl:Array (Option Value)) :
  Meets (Builtin.«int.__rmul__» ⟨[.int a t,.ref l],[]⟩) (λ_ R s=>s.heap.get? l=some { cls:=.type "tuple",dict:=dd,data:=.seq items n,slots:=sl }/\R (.ok (.ret Value.notImplemented)) s) :=
 .of_wp λprog w A R s h=>by obtain⟨hp,g,d,tk,os⟩:=s; obtain⟨hl,h⟩:=h; wp_walk; exact⟨_,rfl,h⟩
theorem LC:fillsNumberSlot (.type "tuple") "mul" = pure false :=
 PySem.fillsNumberSlot_seq (id:="tuple.__mul__") (r:=some (.builtin "tuple.__rmul__")) F.slot_tuple_mul.lookup (by decide +kernel) F.slot_tuple_rmul.lookup (by decide +kernel)
theorem LD:seqRepeat? (.type "tuple")=pure (some (.builtin "tuple.__mul__")):=by
 unfold seqRepeat?;rw[PySem.seqSlot_of (T:="tuple") (name:="__mul__") (id:="tuple.__mul__") F.slot_tuple_mul.lookup (by decide +kernel),PySem.seqSlot_of (T:="tuple") (name:="__rmul__") (id:="tuple.__rmul__") F.slot_tuple_rmul.lookup (by decide +kernel)];rfl
theorem LF(l:Addr)(dd:Option Addr)(items:Array Value)(n:Nat)(sl:Array (Option Value))(x:Int)(u:Tok)(h1:¬ (decide (x < -(2 ^ 63)) || decide (x ≥ 2 ^ 63))=true)(h2:¬ (items.isEmpty || x == 1)=true)(h3:¬ (decide (x<=0) || items.isEmpty)=true)(h4:¬ items.size * x > (2 ^ 63 - 1) / 8)(h5:¬ Builtin.Tuple.tupleTooMany (items.size * x)=true)(h6:((W8 x.toNat items).foldl (· ++ ·) #[]).size<=Wa) :
  Meets (Builtin.«tuple.__mul__» ⟨[.ref l,.int x u],[]⟩) (λ_ R s=>s.heap.get? l=some { cls:=.type "tuple",dict:=dd,data:=.seq items n,slots:=sl } /\
   R (.ok (.ret (.ref s.heap.objs.size))) { s with heap:=s.heap.push { cls:=.type "tuple",data:=.seq ((W8 x.toNat items).foldl (· ++ ·) #[]) } }) :=
 .of_wp λprog w A R s h=>by
  obtain⟨hp,g,d,tk,os⟩:=s; obtain⟨hl,h⟩:=h
  wp_walk
  rw[if_neg h1];wp_walk
  try rw[if_neg h2]
  try wp_walk
  try rw[if_neg h3]
  try wp_walk
  try rw[if_neg h4]
  try wp_walk
  try rw[if_neg h5]
  try wp_walk
  exact⟨_,rfl,h⟩
theorem vK(aa:List α):∀ (k:Nat) (acc:List α),List.foldl (λx1 x2:Array α=>x1 ++ x2) acc.toArray (W8 k aa.toArray)=(acc ++ (W8 k aa).flatten).toArray
 | 0,acc=>by simp
 | k + 1,acc=>by
  rw[WI,QS,show acc.toArray ++ aa.toArray=(acc ++ aa).toArray by simp,vK aa k];simp[WI]
section
variable {X:Cx}
def CA(K:W1):R2:=λx y H Q=>∃ l k xs,x = .ref l/\y = .int k/\cD K H l xs/\xs≠[]/\2<=k/\k<=1000000/\xs.length * k.toNat<=Wa/\∀ p,H p=none->Q (.ref p) (upd H p (.tup (W8 k.toNat xs).flatten))
theorem LG:bD X (Qh .Mult) (CA X.K):=by
 intro pins s σ H x y v u Q I rx ry h;obtain⟨l,k,xs,rfl,rfl,hH,eJ,h1,h2,hz,q⟩:=h
 cases rx;obtain⟨t,rfl⟩:=ry;obtain⟨aa,r,pl,hl⟩:=I.tuple hH;obtain⟨⟨cls,dd,data,sl⟩,ho,hc,n,hd⟩:=id pl;simp only at hc hd;subst hc hd;have hlen:aa.toArray.size=xs.length:=by rw[Wr]; exact r.length.symm
 have CB:aa.toArray.isEmpty=false:=by
  cases aa with
  | nil=>exact absurd (r.qM.mp rfl) eJ
  | cons a b=>rfl
 have fF:Wa=16777216:=rfl;have hk:(k.toNat:Int)=k:=by omega
 have hmul:((aa.toArray.size:Nat):Int) * k=((xs.length * k.toNat:Nat):Int):=by rw[hlen,Int.natCast_mul,hk]
 have CD:List.foldl (λx1 x2=>x1 ++ x2) #[] (W8 k.toNat aa.toArray)=(W8 k.toNat aa).flatten.toArray:=by
  have:=AM aa k.toNat [];rw[Q1] at this;exact this
 refine wpAny_binaryOp_repeat_ref (T:="tuple") (U:="int") (by decide) ⟨_,ho,rfl⟩ (λs'=>JL s' k t) LC F.fills_int_mul F.slot_int_rmul LD F.slot_int_index.lookup
  (JM F.slot_int_rmul (JL s k t) F.entry_int_rmul (F.args_int_rmul_2 _ _) (LB k t l dd aa.toArray n sl)
   ⟨ho,rfl,⟨_,ho,rfl⟩,JM F.slot_tuple_mul ⟨_,ho,rfl⟩ F.entry_tuple_mul (F.args_tuple_mul_2 _ _) (LF l dd aa.toArray n sl k t ?_ ?_ ?_ ?_ ?_ ?_) ⟨ho,?_⟩⟩)
 ·simp; omega
 ·rw[CB]; simp; omega
 ·rw[CB]; simp; omega
 ·rw[hmul]; omega
 ·rw[hmul];unfold Builtin.Tuple.tupleTooMany;rw[fF] at hz;generalize xs.length * k.toNat=m at hz;simp only[fF,decide_eq_true_eq];omega
 ·rw[CD,Wr,uo,<- r.length,Nat.mul_comm]; exact hz
 ·rw[CD];have I1:Inv X pins σ (upd H s.heap.objs.size (.tup (W8 k.toNat xs).flatten)) { s with heap:=s.heap.push { cls:=.type "tuple",data:=.seq (W8 k.toNat aa).flatten.toArray } } :=
   I.laid (t':=s.toks) (λb o e=>W3 _ e) (Wb _) (show bq X.prog X.w _ _ _ (.tup (W8 k.toNat xs).flatten) from⟨by rw[uo,Nat.mul_comm]; exact hz,(W8 k.toNat aa).flatten,r.rep k.toNat,gR.new _ _⟩)
  exact⟨.ref _,_,I1,rfl,q _ (I.ag.fresh (Wb _))⟩
def CF:R2:=λx y H Q=>∃ z k,x = .str z/\y = .int k/\2<=k/\k<=1000000/\0 < z.length/\z.length * k.toNat<=Wa/\Q (.str ⟨(W8 k.toNat z.cps).foldl (· ++ ·) #[]⟩) H
theorem LH:bD X (Qh .Mult) CF:=by
 intro pins s σ H x y v u Q I rx ry h;obtain⟨z,k,rfl,rfl,h1,h2,h0,hz,q⟩:=h;obtain⟨t,rfl⟩:=rx;obtain⟨t',rfl⟩:=ry;have fF:Wa=16777216:=rfl;have c1:¬ k < 1:=by omega
 have c2:(k == 1 || z.length == 0)=false:=by
  simp;omega
 refine PySem.P.mul_str (by simp; omega) (λ_ _=>?_) (λ_ _=>?_) ?_
 ·have hm:(z.length:Int) * k<=16777216:=by
   have:(z.length:Int) * k=((z.length * k.toNat:Nat):Int):=by rw[Int.natCast_mul,show(k.toNat:Int)=k by omega]
   rw[this];rw[fF] at hz;omega
  have:(z.length:Int)<=(2 ^ 63 - 1) / k:=(Int.le_ediv_iff_mul_le (by omega)).mpr (by omega);omega
 ·unfold Builtin.Str.tooLong;rw[fF] at hz;generalize z.length * k.toNat=m at hz;simp only[fF,decide_eq_false_iff_not];omega
 ·rw[if_neg c1,if_neg (by rw[c2]; simp)];have hsz:((W8 k.toNat z.cps).foldl (· ++ ·) #[]).size=k.toNat * z.length:=by
   have h:=vK z.cps.toList k.toNat [];simp only[Q1,Array.toArray_toList] at h;rw[h,Wr,uo];simp[Str.length]
  exact⟨by show((W8 k.toNat z.cps).foldl (· ++ ·) #[]).size<=_; rw[hsz,Nat.mul_comm]; exact hz,.str _,H,I.tok _,⟨_,rfl⟩,q⟩
end
end L2
namespace DV
open PySem PySem.Spec PyProof.Rows L2
def fY:D->D->Option S
 | .int i,.int j=>o8 (.int i) (.int j)
 | .str x,.int k=>if 2<=k/\k<=1000000/\0 < x.length/\x.length * k.toNat<=Wa then some (.pure (.str (W8 k.toNat x).flatten)) else none
 | .tup xs,.int k=>if 2<=k/\k<=1000000/\0 < xs.length/\xs.length * k.toNat<=Wa then some (.pure (.tup (W8 k.toNat xs).flatten)) else none
 | _,_=>none
def CG(K:W1):R2:=λx y H Q=>rI oG (λi j=>V.int (i * j)) x y H Q\/CF x y H Q\/CA K x y H Q
theorem su:bD X (Qh .Mult) (CG X.K):=GG.or (LH.or LG)
theorem ax.rep(h:ax H O vs ds):∀ k:Nat,ax H O (W8 k vs).flatten (W8 k ds).flatten
 | 0=>.nil
 | k + 1=>by rw[WI,WI,QG,QG]; exact h.append (ax.rep h k)
theorem sv{K:W1}:cG (CG K) fY:=by
 intro c σ δ H x y d e s Q k rx ry hp q
 cases d <;> cases e <;> first | (simp[fY] at hp; done) | skip
 ·exact .inl (Kq c σ δ H x y _ _ s Q k rx ry hp q)
 ·rename_i z n;simp only[fY] at hp;split at hp
  ·rename_i h
   cases hp;refine .inr (.inl ⟨toS z,n,rx.str,ry.int,h.1,h.2.1,by rw[jn]; exact h.2.2.1,by rw[jn]; exact h.2.2.2,?_⟩);have e:(⟨(W8 n.toNat (toS z).cps).foldl (· ++ ·) #[]⟩:Str)=toS (W8 n.toNat z).flatten:=by
    unfold toS;congr 1
    have:=vK z n.toNat [];rw[Q1] at this;exact this
   rw[e];exact q _ H (.refl k) (.str _)
  ·cases hp
 ·rename_i ds n;simp only[fY] at hp;split at hp
  ·rename_i h
   cases hp;obtain⟨a,vs,ex,ha,r⟩:=rx.tup;refine .inr (.inr ⟨a,n,vs,ex,ry.int,.of ha,?_,h.1,h.2.1,by rw[r.1]; exact h.2.2.2,λp CI=>?_⟩)
   ·intro z;rw[z] at r;have:=r.1;simp at this;omega
   ·exact q _ _ (.alloc k CI _) (aM.mX k (ax.rep r _) CI)
  ·cases hp
theorem aM.newD(k:Ok c σ δ H)(hp:H p=none):aM c σ δ H (upd H p (.dK [])) (.ref p) (.own (.aB [])):=by
 refine⟨p,rfl,⟨[],b7,rfl,λi p q e=>by simp at e⟩,λz=>k.gi hp (.inl z),k.jX hp,k.plus hp _,hp⟩
def ma:DE:=λδ=>.ok (.own (.aB [])) δ
theorem vL{X:Cx}{c:Fc}{pos:Pos}:SE X c (.Dict [] [] pos) ma:=PE.weak HP λσ H Q ⟨δ,k,q⟩=>λp hp=>q _ _ (.alloc k hp _) (aM.newD k hp)
section
variable {X:Cx} {c:Fc} {e a x y:Expr} {fb:BE} {f g fa:DE} {pos pp p p2:Pos}
def LI(neg:Bool)(fa f g:DE):DE:=λδ=>(fa δ).bind λv δ1=>(f δ1).bind λlo δ2=>(g δ2).bind λhi δ3=>match v.d,lo.d,hi.d with
 | .int i,.int l,.int h=>.ok (.pure (.bl (if neg then !(decide (l<=i) && decide (i < h)) else(decide (l<=i) && decide (i < h))))) δ3
 | _,_,_=>.stuck
end
end DV
set_option maxHeartbeats 1000000
namespace L2
open PySem PySem.Spec PyProof.Rows
theorem CJ:entryFor table "dict.update.loop" = some Builtin.«dict.update.loop»:=entryFor_of_tree (by kernel_rfl)
theorem pJ:plainId "dict.update.loop" = true:=by decide +kernel
theorem LJ:typeLookup (.type "tuple") "keys" = pure none:=by rw[typeLookup_type,Jm]; kernel_rfl
theorem LK:typeLookup (.type "list") "keys" = pure none:=by rw[typeLookup_type,Jm]; kernel_rfl
set_option maxRecDepth 8000 in
theorem LL
  (hx:s.heap.get? a=some o) (hc:o.cls = .type "tuple") (pK:o.data = .seq xs k) (hd:o.dict=none) (hA:A.handled=none)
  (h:∀ h' tk,(∀ b ob,s.heap.get? b=some ob->h'.get? b=some ob)->Q none { s with heap:=h',toks:=tk }) :
  W6 (model prog w) A (getAttr? (.ref a) "keys") Q E s:=by
 obtain⟨c,aB,dat,sl⟩:=o;simp only at hc pK hd;subst hc pK hd;obtain⟨hp,g,d,tk,os⟩:=s;have hT:∀ me,(⟨hp,g,d,me,os⟩:W2).TypeIs (.ref a) "tuple":=λ_=>⟨_,hx,rfl⟩
 have f1:=sub_AttributeError;have f3:=F.slot_tuple_getattribute.lookup;have f4:=F.slot_tuple_getattribute.bind (.ref a);have f5:=am_tuple_getattr_none;have vM:=LJ;unfold getAttr? getAttrBy? getAttrBy;repeat (any_goals (first | assumption | exact hT _ | ((with_reducible show W6 _ _ (call (Value.builtin "tuple.__getattribute__") _ _) _ _ _); refine JM F.slot_tuple_getattribute (hT _) am_entry_tuple_getattribute (F.args_tuple_getattribute_2 _ _) (meets_getattribute_miss_tuple a xs k sl "keys" _ vM (by decide +kernel)) ⟨hx,hA,λh' me e mf=>?_⟩) | wp_step))
 obtain⟨t',u',he⟩:=mf.there;show W6 _ _ (JH _ _ _ _ _ _ _) _ _ _;unfold JH;repeat (any_goals (first | assumption | wp_step))
 exact h _ _ mf.keeps
set_option maxRecDepth 8000 in
theorem LM
  (hx:s.heap.get? a=some o) (hc:o.cls = .type "list") (pK:o.data = .seq xs k) (hd:o.dict=none) (hA:A.handled=none)
  (h:∀ h' tk,(∀ b ob,s.heap.get? b=some ob->h'.get? b=some ob)->Q none { s with heap:=h',toks:=tk }) :
  W6 (model prog w) A (getAttr? (.ref a) "keys") Q E s:=by
 obtain⟨c,aB,dat,sl⟩:=o;simp only at hc pK hd;subst hc pK hd;obtain⟨hp,g,d,tk,os⟩:=s;have hT:∀ me,(⟨hp,g,d,me,os⟩:W2).TypeIs (.ref a) "list":=λ_=>⟨_,hx,rfl⟩
 have f1:=sub_AttributeError;have f3:=F.slot_list_getattribute.lookup;have f4:=F.slot_list_getattribute.bind (.ref a);have f5:=am_list_getattr_none;have vM:=LK;unfold getAttr? getAttrBy? getAttrBy;repeat (any_goals (first | assumption | exact hT _ | ((with_reducible show W6 _ _ (call (Value.builtin "list.__getattribute__") _ _) _ _ _); refine JM F.slot_list_getattribute (hT _) am_entry_list_getattribute (F.args_list_getattribute_2 _ _) (meets_getattribute_miss_list a xs k sl "keys" _ vM (by decide +kernel)) ⟨hx,hA,λh' me e mf=>?_⟩) | wp_step))
 obtain⟨t',u',he⟩:=mf.there;show W6 _ _ (JH _ _ _ _ _ _ _) _ _ _;unfold JH;repeat (any_goals (first | assumption | wp_step))
 exact h _ _ mf.keeps
def fw(kps:List (Key×V))(acc:List (Key×V)):List (Key×V):=kps.foldl (λa kv=>putK a kv.1 kv.2) acc
theorem LN{prog:Wg}{w:Wm}{A:Wl}{R:Result->W2->Prop}{s:W2}{dl it:Addr}{i:Int}{t0:Tok}
  (hn:W6 (model prog w) A.in1 (Qt (.ref it)) (λr s1=>∃ (q:Addr) (k v:Value) (n:Nat),r=some (.ref q)/\s1.heap.get? q=some { cls:=.type "tuple",dict:=none,data:=.seq #[k,v] n,slots:=#[] } /\
   W6 (model prog w) A.in1 (dictSet dl k v) (λ_ s2=>Q4 (model prog w) A (.builtin "dict.update.loop" ⟨[.ref dl,.ref it,WY (i + 1),.none],[]⟩) R s2) (λ_ _=>False) s1) (λ_ _=>False) s) :
  Q4 (model prog w) A (.builtin "dict.update.loop" ⟨[.ref dl,.ref it,.int i t0,.none],[]⟩) R s:=by
 refine Qb CJ ?_;rw[Around.under_plainId pJ _];show W6 _ A.in1 (Qt (.ref it) >>= _) _ _ s;refine W0 (WC hn (λr s1 hr=>?_) λ_ _ z=>z.elim);obtain⟨q,k,v,n,rfl,hq,hd⟩:=hr;dsimp only;refine W0 ?_;try with_reducible refine WU ?_
 refine W0 (wpAny_tryCatch ?_);have hT:s1.TypeIs (.ref q) "tuple":=⟨_,hq,rfl⟩
 unfold Builtin.Dict.pairItems;refine W0 (QQ hT ?_);rw[if_pos (by decide)];refine W0 ?_;unfold seqItems?;refine W0 (wpAny_load hq (W4 ?_));refine W4 ?_;show W6 _ A.in1 (holding [k,v] (dictSet dl k v)) _ _ s1;try with_reducible refine WU ?_
 refine WC hd (λ_ s2 h2=>?_) λ_ _ z=>z.elim
 exact W4 ⟨QH pJ _,h2⟩
theorem LO{prog:Wg}{w:Wm}{A:Wl}{R:Result->W2->Prop}{s:W2}{dl it:Addr}{i:Int}{t0:Tok}
  (hn:W6 (model prog w) A.in1 (Qt (.ref it)) (λr s1=>r=none/\R (.ok (.ret .none)) s1) (λ_ _=>False) s) :
  Q4 (model prog w) A (.builtin "dict.update.loop" ⟨[.ref dl,.ref it,.int i t0,.none],[]⟩) R s:=by
 refine Qb CJ ?_;rw[Around.under_plainId pJ _];show W6 _ A.in1 (Qt (.ref it) >>= _) _ _ s;refine W0 (WC hn (λr s1 hr=>?_) λ_ _ z=>z.elim);obtain⟨rfl,hd⟩:=hr;dsimp only;show W6 _ A.in1 (Builtin.Dict.addKeywords dl [] >>= _) _ _ s1;exact W0 (W4 (W4 hd))
section
variable {X:Cx} {pins:List (Addr×Obj)} {σ:St} {H:Hp}
theorem Rd.sub(h:Rd H a u)(k:∀ b o,H b=some o->H' b=some o):Rd H' a u:=by
 rcases h with h | ⟨o,h⟩
 ·exact .inl (k _ _ h)
 ·exact .inr ⟨o,k _ _ h⟩
def sx(H:Hp)(ys:List V)(kps:List (Key×V)):Prop:=ys.length=kps.length/\∀ (i:Nat) y kv,ys[i]? = some y->kps[i]? = some kv->∃ q,y = .ref q/\H q=some (.tup [kV kv.1,kv.2])
theorem CK:∀ (kps acc:List (Key×V)),(fw kps acc).length<=acc.length + kps.length
 | [],acc=>Wb _
 | kv :: r,acc=>by
  have h1:=CK r (putK acc kv.1 kv.2);have h2:=mP acc kv.1 kv.2;show(fw r (putK acc kv.1 kv.2)).length<=_;simp only[WE];omega
theorem LP(kps:List (Key×V))(kv:Key×V)(acc:List (Key×V)):fw (kps ++ [kv]) acc=putK (fw kps acc) kv.1 kv.2:=by
 unfold fw;rw[List.foldl_append];rfl
theorem CL{A:Wl}{R:Result->W2->Prop}{dl it:Addr}{ys:List V}{kps:List (Key×V)}{tn:Nat->Heap->Prop}(hP:sx H ys kps)(iU:H dl=none)(hz:kps.length<=Wa)
  (item:∀ (i:Nat) (y:V) (H':Hp) (s:W2) (Q:Option Value->W2->Prop),(∀ b o,H b=some o->H' b=some o)->H' it=none->Inv X pins σ H' s->tn i s.heap->ys[i]? = some y->(∀ u s',RelV y u->Inv X pins σ H' s'->tn (i + 1) s'.heap->Q (some u) s')->W6 (model X.prog X.w) A.in1 (Qt (.ref it)) Q (λ_ _=>False) s)
  (done:∀ (H':Hp) (s:W2) (Q:Option Value->W2->Prop),(∀ b o,H b=some o->H' b=some o)->H' it=none->Inv X pins σ H' s->tn ys.length s.heap->(∀ s',Inv X pins σ H' s'->Q none s')->W6 (model X.prog X.w) A.in1 (Qt (.ref it)) Q (λ_ _=>False) s)
  (keep:∀ (i:Nat) (h h':Heap),tn i h->(∀ o,h.get? it=some o->h'.get? it=some o)->tn i h') (hit:H it=none) (eJ:it≠dl) (hR:∀ s',Inv X pins σ (upd H dl (.dK (fw kps []))) s'->R (.ok (.ret .none)) s') :
  ∀ (k i:Nat) (s:W2) (j:Int) (t0:Tok),ys.length - i=k->i<=ys.length->Inv X pins σ (upd H dl (.dK (fw (kps.take i) []))) s->tn i s.heap ->
   Q4 (model X.prog X.w) A (.builtin "dict.update.loop" ⟨[.ref dl,.ref it,.int j t0,.none],[]⟩) R s:=by
 have up:∀ (acc:List (Key×V)) b o,H b=some o->upd H dl (.dK acc) b=some o:=λacc b o e=>by rw[aQ (fD e iU)]; exact e
 have kE:∀ acc:List (Key×V),upd H dl (.dK acc) it=none:=λacc=>by rw[aQ eJ]; exact hit
 intro k;induction k with
 | zero =>
  intro i s j t0 hk hi I st;have e:i=ys.length:=by omega
  subst e;rw[hP.1,List.take_of_length_le (Wb _)] at I;refine LO (done _ s _ (up _) (kE _) I st λs' I'=>⟨rfl,hR s' I'⟩)
 | succ k ih =>
  intro i s j t0 hk hi I st;have aY:i < ys.length:=by omega
  have k9:i < kps.length:=by rw[<- hP.1]; exact aY
  obtain⟨q,ey,hq⟩:=hP.2 i ys[i] kps[i] (by simp[aY]) (by simp[k9]);-- the item is a tuple of two
  have main:∀ s1,Inv X pins σ (upd H dl (.dK (fw (kps.take i) []))) s1->tn (i + 1) s1.heap->∃ (kk vv:Value) (n:Nat),s1.heap.get? q=some { cls:=.type "tuple",dict:=none,data:=.seq #[kk,vv] n,slots:=#[] }/\RelV (kV kps[i].1) kk/\RelV kps[i].2 vv:=λs1 I1 _=>by
   obtain⟨_,aa,r,n,e⟩:=(show bq X.prog X.w _ s1.heap q (.tup [kV kps[i].1,kps[i].2]) from I1.ag q _ (up _ q _ hq))
   obtain⟨u,v,rfl,r1,r2⟩:=Vals.two r;exact⟨u,v,n,e,r1,r2⟩
  refine LN (item i ys[i] _ s _ (up _) (kE _) I st (by simp[aY]) λu s' ru I' dw=>?_);rw[ey] at ru
  cases ru;obtain⟨kk,vv,n,e,r1,r2⟩:=main s' I' dw;refine⟨q,kk,vv,n,rfl,e,?_⟩;obtain⟨z,hd,vs,rel,dd⟩:=oJ I'.ag b7;have gJ:vs.length<=Wa:=by rw[<- rel.length]; exact z
  have hl:(putK (fw (kps.take i) []) kps[i].1 kps[i].2).length<=Wa:=by
   have h1:=mP (fw (kps.take i) []) kps[i].1 kps[i].2;have h2:=CK (kps.take i) [];simp at h2;omega
  refine wpAny_dictSet_pairs (hsz:=gJ) (jT r1) dd λh' gD hs=>?_
  have he:∃ q,h'.get? dl=some q:=let ⟨q,_,_,hq,_⟩:=gD; ⟨q,hq⟩
  have I2:=oM (t':=s'.toks + 1) I' (by rw[b7]; exact True.intro) hs he (qU hl hd (rel.put kps[i].1 r2) gD);rw[Fv] at I2;have et:kps.take (i + 1)=kps.take i ++ [kps[i]]:=by rw[List.take_add_one]; simp[k9]
  rw[show putK (fw (kps.take i) []) kps[i].1 kps[i].2=fw (kps.take (i + 1)) [] by rw[et,LP]] at I2;exact ih (i + 1) _ (j + 1) _ (by omega) aY I2 (keep (i + 1) _ _ dw λo eo=>(hs.2 it eJ).trans eo)
theorem LQ (hc:X.calm=true):dH X (.type "dict") (λxs H Q=>∃ p ys kps,xs=[.ref p]/\(H p=some (.tup ys)\/Rd H p (.lst ys))/\sx H ys kps/\kps.length<=Wa/\∀ l,H l=none->Q (.ref l) (upd H l (.dK (fw kps [])))):=by
 intro pins s σ H xs us Q I r h;obtain⟨p,ys,kps,rfl,hp,hP,hz,q⟩:=h;obtain⟨u,rfl,rx⟩:=fQ r
 cases rx;have hA:X.A.handled=none:=I.ok.hd hc;refine callType_codes (Q₁:=λobj s₁=>obj = .ref s.heap.objs.size/\s₁ = { s with heap:=s.heap.push { cls:=.type "dict",data:=.dict #[] } }) F.kt_called_dict (F.kt_typeCall_dict_1 _) F.entry_dict_init (kt_code_dict_new _ ⟨rfl,rfl⟩) ?_;rintro obj s₁ ⟨rfl,rfl⟩;have iU:H s.heap.objs.size=none:=I.ag.fresh (Wb _);have I1:Inv X pins σ (upd H s.heap.objs.size (.dK [])) { s with heap:=s.heap.push { cls:=.type "dict",data:=.dict #[] } }:=I.laid (t':=s.toks) (λ_ _ q=>W3 _ q) (Wb _) (uu s.heap I.big);generalize hdd:s.heap.objs.size=dl at iU I1;have up:∀ (acc:List (Key×V)) b o,H b=some o->upd H dl (.dK acc) b=some o:=λacc b o e=>by rw[aQ (fD e iU)]; exact e
 have CM:({ s with heap:=s.heap.push { cls:=.type "dict",data:=.dict #[] } }:W2).TypeIs (.ref dl) "dict":=⟨_,by rw[<- hdd]; exact Wi _ rfl,rfl⟩
 refine⟨CM,F.args_dict_init_2 _ _,?_⟩;unfold Builtin.«dict.__init__»;refine W0 ?_;unfold Builtin.Dict.selfAndRest;refine W0 (wpAny_notOrdered_dict CM ?_);show W6 _ _ (pure (dl,[Value.ref p])) _ _ _;refine W4 ?_;show W6 _ _ (Builtin.Dict.updateFrom "dict.__init__" dl (.ref p) [] .none) _ _ _;unfold Builtin.Dict.updateFrom;have fin:∀ s',Inv X pins σ (upd H dl (.dK (fw kps []))) s'->EP X pins σ Q (.ref dl) s':=λs' I'=>⟨.ref dl,_,I',rfl,q dl iU⟩
 rcases hp with hp | hp
 ·obtain⟨_,aa,r,n,e⟩:=(show bq X.prog X.w _ (s.heap.push { cls:=.type "dict",data:=.dict #[] }) p (.tup ys) from I1.ag p _ (up _ p _ hp))
  refine W0 (QQ ⟨_,e,rfl⟩ ?_);rw[if_pos (by decide)];refine W0 (LL e rfl rfl rfl hA λh' tk kp=>?_);rw[if_pos (show(none:Option Value).isNone=true from rfl)];refine W0 (QN ?_);have I2:Inv X pins σ (upd H dl (.dK [])) { s with heap:=h',toks:=tk }:=I1.kept kp;have vN:h'.IsTuple p aa.toArray:=⟨_,kp _ _ e,rfl,n,rfl⟩
  refine W0 (Jg (s:={ s with heap:=h',toks:=tk }) vN ?_);refine W4 ⟨QH pJ _,?_⟩;have dz:upd H dl (.dK []) h'.objs.size=none:=I2.ag.fresh (Wb _);have eJ:h'.objs.size≠dl:=λz=>by rw[z,b7] at dz; cases dz
  have hit:H h'.objs.size=none:=by rw[aQ eJ] at dz; exact dz
  have fp:∀ H':Hp,H' h'.objs.size=none->fE X pins H' h'.objs.size:=λH' hn=>I2.jj (Wb _) hn
  refine CL (X:=X) (pins:=pins) (σ:=σ) (H:=H) (dl:=dl) (it:=h'.objs.size) (ys:=ys) (kps:=kps) (tn:=λi h=>h.IsTupleIter h'.objs.size p i) hP iU hz ?_ ?_ (λi h h2 st k=>st.at k) hit eJ (λs' I'=>⟨rfl,fin s' I'⟩) ys.length 0 _ 0 _ (Nat.sub_zero _) (Qy _) ?_ ?_
  ·intro i y H' s' Q' sub hn I' st hy k;obtain⟨_,its2,r2,n2,e2⟩:=(show bq X.prog X.w _ s'.heap p (.tup ys) from I'.ag p _ (sub p _ hp))
   obtain⟨v,hv,rv⟩:=r2.get hy;obtain⟨f0,f1,f2,f3,f4,f5⟩:=fp H' hn;refine wpAny_pyNext_tuple_item st (items:=its2.toArray) ⟨_,e2,rfl,n2,rfl⟩ (x:=v) (by simpa using hv) λh3 kH sb=>?_
   exact k v { s' with heap:=h3 } rv (I'.turned (t':=s'.toks) (λb o hb e=>(sb.2 b hb).trans e) f0 f1 f3 f4 f5) kH
  ·intro H' s' Q' sub hn I' st k;obtain⟨_,its2,r2,n2,e2⟩:=(show bq X.prog X.w _ s'.heap p (.tup ys) from I'.ag p _ (sub p _ hp))
   obtain⟨f0,f1,f2,f3,f4,f5⟩:=fp H' hn;have mY:=r2.length;exact wpAny_pyNext_tuple_end (show X.A.in1.in1.handled=none from hA) st (items:=its2.toArray) ⟨_,e2,rfl,n2,rfl⟩ (by simp; omega) λh3 eb=>k { s' with heap:=h3 } (I'.turned (t':=s'.toks) (λb o hb e=>eb b o hb e) f0 f1 f3 f4 f5)
  ·exact I2.kept (t':=tk) λb o e=>W3 _ e
  ·exact⟨_,Wi _ rfl,rfl,rfl⟩
 ·obtain⟨_,aa,n,r,e⟩:=(show bq X.prog X.w _ (s.heap.push { cls:=.type "dict",data:=.dict #[] }) p (.lst ys) from(Rd.sub hp (up _)).ok I1.ag)
  refine W0 (QQ ⟨_,e,rfl⟩ ?_);rw[if_pos (by decide)];refine W0 (LM e rfl rfl rfl hA λh' tk kp=>?_);rw[if_pos (show(none:Option Value).isNone=true from rfl)];refine W0 (QN ?_);have I2:Inv X pins σ (upd H dl (.dK [])) { s with heap:=h',toks:=tk }:=I1.kept kp;have vN:h'.IsList p aa.toArray:=⟨_,kp _ _ e,rfl,n,rfl⟩
  refine W0 (wpAny_pyIter_list (s:={ s with heap:=h',toks:=tk }) vN ?_);refine W4 ⟨QH pJ _,?_⟩;have dz:upd H dl (.dK []) h'.objs.size=none:=I2.ag.fresh (Wb _);have eJ:h'.objs.size≠dl:=λz=>by rw[z,b7] at dz; cases dz
  have hit:H h'.objs.size=none:=by rw[aQ eJ] at dz; exact dz
  have fp:∀ H':Hp,H' h'.objs.size=none->fE X pins H' h'.objs.size:=λH' hn=>I2.jj (Wb _) hn
  refine CL (X:=X) (pins:=pins) (σ:=σ) (H:=H) (dl:=dl) (it:=h'.objs.size) (ys:=ys) (kps:=kps) (tn:=λi h=>h.IsListIter h'.objs.size p i) hP iU hz ?_ ?_ (λi h h2 st k=>st.at k) hit eJ (λs' I'=>⟨rfl,fin s' I'⟩) ys.length 0 _ 0 _ (Nat.sub_zero _) (Qy _) ?_ ?_
  ·intro i y H' s' Q' sub hn I' st hy k;obtain⟨_,its2,n2,r2,e2⟩:=(show bq X.prog X.w _ s'.heap p (.lst ys) from(Rd.sub hp sub).ok I'.ag)
   obtain⟨v,hv,rv⟩:=r2.get hy;obtain⟨f0,f1,f2,f3,f4,f5⟩:=fp H' hn;refine wpAny_pyNext_list_item st (items:=its2.toArray) ⟨_,e2,rfl,n2,rfl⟩ (x:=v) (by simpa using hv) λh3 kH sb=>?_
   exact k v { s' with heap:=h3 } rv (I'.turned (t':=s'.toks) (λb o hb e=>(sb.2 b hb).trans e) f0 f1 f3 f4 f5) kH
  ·intro H' s' Q' sub hn I' st k;obtain⟨_,its2,n2,r2,e2⟩:=(show bq X.prog X.w _ s'.heap p (.lst ys) from(Rd.sub hp sub).ok I'.ag)
   obtain⟨f0,f1,f2,f3,f4,f5⟩:=fp H' hn;have mY:=r2.length;exact wpAny_pyNext_list_end (show X.A.in1.in1.handled=none from hA) st (items:=its2.toArray) ⟨_,e2,rfl,n2,rfl⟩ (by simp; omega) λh3 eb=>k { s' with heap:=h3 } (I'.turned (t':=s'.toks) (λb o hb e=>eb b o hb e) f0 f1 f3 f4 f5)
  ·exact I2.kept (t':=tk) λb o e=>W3 _ e
  ·exact⟨_,Wi _ rfl,rfl,rfl⟩
end
end L2
set_option maxHeartbeats 400000
namespace DV
open PySem PySem.Spec PyProof.Rows L2
def bA(kvs:List (aT×D))(k:aT):Option D:=(kvs.find? λkv=>decide (kv.1=k)).map (·.2)
def putD(kvs:List (aT×D))(k:aT)(v:D):List (aT×D) :=
 if (kvs.any λkv=>decide (kv.1=k))=true then kvs.map (λkv=>if kv.1=k then(kv.1,v) else kv) else kvs ++ [(k,v)]
def mh(kps acc:List (aT×D)):List (aT×D):=kps.foldl (λa kv=>putD a kv.1 kv.2) acc
theorem LR(h:cz k=cz j):k=j:=by
 cases k <;> cases j <;> simp[cz] at h
 ·rw[h]
 ·rw[oU h]
def DR(H:Hp)(O:Addr->Prop):List (Key×V)->List (aT×D)->Prop
 | [],[]=>True
 | p :: ws,q :: ds=>p.1=cz q.1/\Rep H O p.2 q.2/\DR H O ws ds
 | _,_=>False
section
variable {H H':Hp} {O O':Addr->Prop}
theorem DR.of:∀ {ws:List (Key×V)} {ds:List (aT×D)},ws.map (·.1)=ds.map (λp=>cz p.1)->(∀ (i:Nat) p q,ws[i]? = some p->ds[i]? = some q->Rep H O p.2 q.2)->DR H O ws ds
 | [],[],_,_=>trivial
 | [],_ :: _,h,_=>by simp at h
 | _ :: _,[],h,_=>by simp at h
 | p :: ws,q :: ds,h,k=>by
  simp only[Wo,JX] at h;exact⟨h.1,k 0 p q rfl rfl,DR.of h.2 λi p' q' e1 e2=>k (i + 1) p' q' (by simpa using e1) (by simpa using e2)⟩
theorem DR.keys:∀ {ws:List (Key×V)} {ds:List (aT×D)},DR H O ws ds->ws.map (·.1)=ds.map (λp=>cz p.1)
 | [],[],_=>rfl
 | [],_ :: _,h=>h.elim
 | _ :: _,[],h=>h.elim
 | p :: ws,q :: ds,h=>by simp only[Wo,h.1,DR.keys h.2.2]
theorem DR.vals:∀ {ws:List (Key×V)} {ds:List (aT×D)},DR H O ws ds->∀ (i:Nat) p q,ws[i]? = some p->ds[i]? = some q->Rep H O p.2 q.2
 | [],[],_,i,p,q,e,_=>by simp at e
 | [],_ :: _,h,_,_,_,_,_=>h.elim
 | _ :: _,[],h,_,_,_,_,_=>h.elim
 | p :: ws,q :: ds,h,i,p',q',e1,e2=>by
  cases i with
  | zero=>simp at e1 e2; subst e1 e2; exact h.2.1
  | succ i=>exact DR.vals h.2.2 i p' q' (by simpa using e1) (by simpa using e2)
theorem DR.map:∀ {ws:List (Key×V)} {ds:List (aT×D)},DR H O ws ds->(∀ v d,Rep H O v d->Rep H' O' v d)->DR H' O' ws ds
 | [],[],_,_=>trivial
 | [],_ :: _,h,_=>h.elim
 | _ :: _,[],h,_=>h.elim
 | p :: ws,q :: ds,h,k=>⟨h.1,k _ _ h.2.1,DR.map h.2.2 k⟩
theorem mi(h:p=cz q):(p=cz k) ↔ q=k:=⟨λe=>LR (by rw[<- h]; exact e),λe=>by rw[h,e]⟩
theorem DR.any:∀ {ws:List (Key×V)} {ds:List (aT×D)} (k:aT),DR H O ws ds->(ws.any λkv=>decide (kv.1=cz k))=ds.any λkv=>decide (kv.1=k)
 | [],[],_,_=>rfl
 | [],_ :: _,_,h=>h.elim
 | _ :: _,[],_,h=>h.elim
 | p :: ws,q :: ds,k,h=>by
  rw[QT,QT,DR.any k h.2.2];congr 1
  exact decide_eq_decide.mpr (mi h.1)
theorem DR.val:∀ {ws:List (Key×V)} {ds:List (aT×D)} (k:aT),DR H O ws ds->(bA ds k=none/\dg ws (cz k)=none)\/∃ v d,bA ds k=some d/\dg ws (cz k)=some v/\Rep H O v d
 | [],[],_,_=>.inl ⟨rfl,rfl⟩
 | [],_ :: _,_,h=>h.elim
 | _ :: _,[],_,h=>h.elim
 | p :: ws,q :: ds,k,h=>by
  by_cases e:q.1=k
  ·have e':=(mi h.1).mpr e;exact .inr ⟨p.2,q.2,by simp[bA,Q7,e],qS e',h.2.1⟩
  ·have e':¬ p.1=cz k:=λz=>e ((mi h.1).mp z)
   have ev:bA (q :: ds) k=bA ds k:=by simp[bA,Q7,e]
   rw[ev,qT e'];exact DR.val k h.2.2
theorem DR.append:∀ {ws CN:List (Key×V)} {ds bN:List (aT×D)},DR H O ws ds->DR H O CN bN->DR H O (ws ++ CN) (ds ++ bN)
 | [],_,[],_,_,h'=>h'
 | [],_,_ :: _,_,h,_=>h.elim
 | _ :: _,_,[],_,h,_=>h.elim
 | p :: ws,_,q :: ds,_,h,h'=>⟨h.1,h.2.1,DR.append h.2.2 h'⟩
theorem DR.store:∀ {ws:List (Key×V)} {ds:List (aT×D)} {k:aT} {v:V} {d:D},DR H O ws ds->Rep H O v d->DR H O (ws.map λkv=>if kv.1=cz k then(kv.1,v) else kv) (ds.map λkv=>if kv.1=k then(kv.1,d) else kv)
 | [],[],_,_,_,_,_=>trivial
 | [],_ :: _,_,_,_,h,_=>h.elim
 | _ :: _,[],_,_,_,h,_=>h.elim
 | p :: ws,q :: ds,k,v,d,h,r=>by
  refine⟨?_,?_,DR.store h.2.2 r⟩
  ·by_cases e:q.1=k
   ·dsimp only; rw[if_pos ((mi h.1).mpr e),if_pos e]; exact h.1
   ·dsimp only; rw[if_neg λz=>e ((mi h.1).mp z),if_neg e]; exact h.1
  ·by_cases e:q.1=k
   ·dsimp only; rw[if_pos ((mi h.1).mpr e),if_pos e]; exact r
   ·dsimp only; rw[if_neg λz=>e ((mi h.1).mp z),if_neg e]; exact h.2.1
theorem DR.put(h:DR H O ws ds)(r:Rep H O v d):DR H O (putK ws (cz k) v) (putD ds k d):=by
 unfold putK putD;rw[DR.any k h];split
 ·exact DR.store h r
 ·exact DR.append h ⟨rfl,r,trivial⟩
theorem DR.vO:∀ {kps:List (Key×V)} {sy:List (aT×D)} {ws:List (Key×V)} {ds:List (aT×D)},DR H O kps sy->DR H O ws ds->DR H O (fw kps ws) (mh sy ds)
 | [],[],_,_,_,h=>h
 | [],_ :: _,_,_,h,_=>h.elim
 | _ :: _,[],_,_,h,_=>h.elim
 | p :: kps,q :: sy,ws,ds,h,h'=>by
  show DR H O (fw kps (putK ws p.1 p.2)) (mh sy (putD ds q.1 q.2));rw[h.1];exact DR.vO h.2.2 (DR.put h' h.2.1)
end
def bP:D->Option aT
 | .int i=>some (.inl i)
 | .str x=>some (.inr x)
 | _=>none
theorem CO(h:bP d=some k)(r:Rep H O v d):v=kV (cz k):=by
 cases d <;> simp[bP] at h <;> subst h <;> cases r <;> rfl
theorem nC(h:bP d=some k)(r:cT c σ δ H v d):v=kV (cz k):=by
 rcases r with r | ⟨a,rfl,r⟩
 ·exact CO h r
 ·cases d <;> simp[bP] at h <;> exact r.elim
def ig:List D->Option (List (aT×D))
 | []=>some []
 | .tup [k,v] :: r=>match bP k,ig r with
  | some k',some r'=>some ((k',v) :: r')
  | _,_=>none
 | _ :: _=>none
def iV:D->Option S
 | .lst ds=>(ig ds).bind λps=>if ps.length<=Wa then some (.own (.aB (mh ps []))) else none
 | .tup ds=>(ig ds).bind λps=>if ps.length<=Wa then some (.own (.aB (mh ps []))) else none
 | _=>none
theorem vP:∀ {ds:List D} {vs:List V} {ps:List (aT×D)},ig ds=some ps->ax H O vs ds->∃ kps,sx H vs kps/\DR H O kps ps/\kps.length=ps.length
 | [],[],ps,h,_=>by
  simp[ig] at h;subst h;exact⟨[],⟨rfl,λi y kv e=>by simp at e⟩,trivial,rfl⟩
 | [],_ :: _,_,_,r=>by have:=r.1; simp at this
 | _ :: _,[],_,_,r=>by have:=r.1; simp at this
 | d :: ds,v :: vs,ps,h,r=>by
  unfold ig at h;split at h
  ·rename_i heq; cases heq
  ·rename_i k w r' heq
   cases heq;split at h
   ·rename_i k' r'' hk hr
    cases h;obtain⟨kps,hP,hD,hL⟩:=vP hr r.tail;have rp:=r.head
    cases rp with
    | tup h1 h2 h3 h4 =>
     rename_i a us;match us,h3,h4,h2 with
     | [x,y],_,h4,h2 =>
      have rk:=h4 0 x k rfl rfl;have rv:=h4 1 y w rfl rfl;have ek:=CO hk rk;subst ek;refine⟨(cz k',y) :: kps,⟨by simp[hP.1],λi z kv e1 e2=>?_⟩,⟨rfl,rv,hD⟩,by simp[hL]⟩
      cases i with
      | zero=>simp at e1 e2; subst e1 e2; exact⟨a,rfl,h2⟩
      | succ i=>exact hP.2 i z kv (by simpa using e1) (by simpa using e2)
   ·cases h
  ·cases h
theorem aM.CP(k:Ok c σ δ H)(hp:H p=none)(r:DR H (Av c σ δ) ws ds):aM c σ δ H (upd H p (.dK ws)) (.ref p) (.own (.aB ds)):=by
 have up:∀ a w,H a=some w->upd H p (.dK ws) a=some w:=λa w e=>by rw[aQ (fD e hp)]; exact e
 have r1:DR (upd H p (.dK ws)) (Av (c.plus p) σ δ) ws ds:=r.map λv d h=>(h.aJ λb z=>by
  rcases z with (z | z) | z
  ·exact .inl (.inl z)
  ·exact .inr (by rw[z]; exact hp)
  ·exact .inl (.inr z)).keep λb w e _=>up b w e
 exact⟨p,rfl,⟨ws,b7,r1.keys,r1.vals⟩,λz=>k.gi hp (.inl z),k.jX hp,k.plus hp _,hp⟩
section
variable {X:Cx} {c:Fc} {e:Expr} {fb:BE} {pos pp:Pos}
theorem LS:Q9 "dict" = some (.type "dict"):=by decide +kernel
theorem vQ (hc:X.calm=true) (hg:Gl X "dict") (hm:X.mg "dict" = none) (he:SB X c e fb) (hs:l9 e=true:=by rfl):SE X c (.Call (.Name "dict" pp) [e] [] pos) (bh iV fb) :=
 rQ (r:=λv H Q=>∃ p ys kps,v = .ref p/\(H p=some (.tup ys)\/Rd H p (.lst ys))/\sx H ys kps/\kps.length<=Wa/\∀ l,H l=none->Q (.ref l) (upd H l (.dK (fw kps []))))
  (LQ hc) (λv H Q ⟨p,ys,kps,e,h⟩=>⟨p,ys,kps,by rw[e],h⟩)
  (λc σ δ H x d s Q k rx hp q=>by
   cases d with
   | lst ds =>
    simp only[iV] at hp
    cases jA:ig ds with
    | none=>rw[jA] at hp; cases hp
    | some ps =>
     rw[jA] at hp;simp only[Wu] at hp;split at hp
     ·rename_i hz
      cases hp;obtain⟨a,vs,ex,ha,r⟩:=rx.lst;obtain⟨kps,hP,hD,hL⟩:=vP jA r;exact⟨a,vs,kps,ex,.inr ha,hP,by rw[hL]; exact hz,λl hl=>q _ _ (.alloc k hl _) (aM.CP k hl (DR.vO hD (ws:=[]) (ds:=[]) trivial))⟩
     ·cases hp
   | tup ds =>
    simp only[iV] at hp
    cases jA:ig ds with
    | none=>rw[jA] at hp; cases hp
    | some ps =>
     rw[jA] at hp;simp only[Wu] at hp;split at hp
     ·rename_i hz
      cases hp;obtain⟨a,vs,ex,ha,r⟩:=rx.tup;obtain⟨kps,hP,hD,hL⟩:=vP jA r;exact⟨a,vs,kps,ex,.inl ha,hP,by rw[hL]; exact hz,λl hl=>q _ _ (.alloc k hl _) (aM.CP k hl (DR.vO hD (ws:=[]) (ds:=[]) trivial))⟩
     ·cases hp
   | _=>simp[iV] at hp) hg hm LS he (by decide) (by decide) (nB hs)
end
theorem sA(r:cT c σ δ H v (.aB ds)):∃ a ws,v = .ref a/\H a=some (.dK ws)/\DR H (Av c σ δ) ws ds:=by
 obtain⟨a,ws,e,h,k1,k2⟩:=r.aB;exact⟨a,ws,e,h,DR.of k1 k2⟩
def vR(neg:Bool):R2:=λx y H Q=>∃ a kvs k,y = .ref a/\H a=some (.dK kvs)/\x=kV k/\Q (.bl (if neg then !(dg kvs k).isSome else(dg kvs k).isSome)) H
theorem Tv(hu:X.A.units + 64 < Qi):bD X (WO .In) (vR false):=by
 intro pins s σ H x y v u Q I rx ry h;obtain⟨a,kvs,k,rfl,ha,rfl,q⟩:=h
 cases ry;exact HH (by omega) I (jl.k ha) rx λs' I'=>⟨.bl _,H,I',rfl,q⟩
theorem LU(hu:X.A.units + 64 < Qi):bD X (WO .NotIn) (vR true):=by
 intro pins s σ H x y v u Q I rx ry h;obtain⟨a,kvs,k,rfl,ha,rfl,q⟩:=h
 cases ry;exact HI (by omega) I (jl.k ha) rx λs' I'=>⟨.bl _,H,I',rfl,q⟩
def CQ(K:W1)(neg:Bool):R2:=λx y H Q=>vR neg x y H Q\/AK K neg x y H Q\/∃ i j,x = .str i/\y = .str j/\Q (.bl (if neg then !(!(Builtin.Str.occurrences j i 0 j.length 1).isEmpty) else !(Builtin.Str.occurrences j i 0 j.length 1).isEmpty)) H
theorem vS{X:Cx}(hu:X.A.units + 64 < Qi):bD X (WO .NotIn) (CQ X.K true):=(LU hu).or (Hv.or GP)
def fK(neg:Bool)(x y:D):Option S:=match y with
 | .aB ds=>(bP x).map λk=>.pure (.bl (if neg then !(bA ds k).isSome else(bA ds k).isSome))
 | .str y=>match x with
  | .str [n]=>some (.pure (.bl (if neg then !decide (n ∈ y) else decide (n ∈ y))))
  | _=>none
 | .lst ds=>match x,fH ds with
  | .str z,some ts=>some (.pure (.bl (if neg then !ts.contains z else ts.contains z)))
  | _,_=>none
 | .tup ds=>match x,fH ds with
  | .str z,some ts=>some (.pure (.bl (if neg then !ts.contains z else ts.contains z)))
  | _,_=>none
 | _=>none
theorem CS(z:Tx)(ts:List Tx):qP (V.str (toS z)) (ts.map λz=>V.str (toS z))=ts.contains z:=by
 unfold qP;rw[List.any_map];induction ts with
 | nil=>rfl
 | cons t r ih =>
  rw[QT,JI,ih];congr 1
  show(toS t == toS z)=(z == t);rw[uQ,Bool.beq_comm]
theorem CT(ts:List Tx):(ts.map λz=>V.str (toS z)).all jP=true:=by
 rw[List.all_map];exact List.all_eq_true.mpr λ_ _=>rfl
theorem vT{K:W1}(neg:Bool):cG (CQ K neg) (fK neg):=by
 intro c σ δ H x y d e s Q k rx ry hp q
 cases e <;> first | (simp[fK] at hp; done) | skip
 ·rename_i z;simp only[fK] at hp;split at hp <;> first | (cases hp; done) | skip
  rename_i n
  cases hp;refine .inr (.inr ⟨toS [n],toS z,rx.str,ry.str,?_⟩);rw[show toS [n] = ⟨#[n]⟩ from rfl,PySem.StrLaws.found_one,show(toS z).cps.toList=z by simp[toS]];exact q _ H (.refl k) (.bl _)
 ·rename_i ds;simp only[fK] at hp;split at hp <;> first | (cases hp; done) | skip
  rename_i z ts ht
  cases hp;obtain⟨a,vs,ea,ha,r⟩:=ry.tup;have ev:=pf ht r;refine .inr (.inl ⟨a,vs,ea,.inr (.of ha),by rw[rx.str]; rfl,by rw[ev]; exact CT ts,?_⟩);rw[rx.str,ev,CS];exact q _ H (.refl k) (.bl _)
 ·rename_i ds;simp only[fK] at hp;split at hp <;> first | (cases hp; done) | skip
  rename_i z ts ht
  cases hp;obtain⟨a,vs,ea,ha,r⟩:=ry.lst;have ev:=pf ht r;refine .inr (.inl ⟨a,vs,ea,.inl (.inl ha),by rw[rx.str]; rfl,by rw[ev]; exact CT ts,?_⟩);rw[rx.str,ev,CS];exact q _ H (.refl k) (.bl _)
 ·rename_i ds;simp only[fK] at hp
  cases hk:bP d with
  | none=>rw[hk] at hp; cases hp
  | some kk =>
   rw[hk] at hp
   cases hp;obtain⟨a,ws,ea,ha,dr⟩:=sA ry;refine .inl ⟨a,ws,cz kk,ea,ha,nC hk rx,?_⟩;have:(dg ws (cz kk)).isSome=(bA ds kk).isSome:=by
    rcases dr.val kk with ⟨e1,e2⟩ | ⟨v,d,e1,e2,_⟩
    ·rw[e1,e2]; rfl
    ·rw[e1,e2]; rfl
   rw[this];exact q _ H (.refl k) (.bl _)
def vU:R2:=λx y H Q=>∃ a kvs k v,x = .ref a/\H a=some (.dK kvs)/\y=kV k/\dg kvs k=some v/\Q v H
def iW:D->D->Option S
 | .aB ds,k=>(bP k).bind λk=>(bA ds k).map .pure
 | x,y=>aE x y
theorem LV(hu:X.A.units + 64 < Qi):gC X vU:=by
 intro value slice pins s σ H x y v u Q I rx ry h hs;obtain⟨a,kvs,k,w,rfl,ha,rfl,hv,q⟩:=h
 cases rx;obtain⟨_,_,vs,_,dd⟩:=oJ I.ag ha;have hT:s.TypeIs (.ref a) "dict":=dd.typeIs;exact tail_any hT F.slot_dict_getitem.lookup (HG (v:=w) (by omega) I (by rw[<- hv]; exact jl.k ha) ry λw' s' I' aD=>⟨w,H,I',aD,q⟩) hs
theorem vV{K:W1}:cG (λx y H Q=>vU x y H Q\/qO K x y H Q) iW:=by
 intro c σ δ H x y d e s Q k rx ry hp q
 cases d with
 | aB ds =>
  simp only[iW] at hp
  cases hk:bP e with
  | none=>rw[hk] at hp; cases hp
  | some kk =>
   rw[hk] at hp;simp only[Wu,Option.map_eq_some_iff] at hp;obtain⟨dv,hv,rfl⟩:=hp;obtain⟨a,ws,ea,ha,dr⟩:=sA rx;rcases dr.val kk with ⟨e1,e2⟩ | ⟨v,d',e1,e2,r⟩
   ·rw[e1] at hv; cases hv
   ·rw[e1] at hv; cases hv
    exact .inl ⟨a,ws,cz kk,v,ea,ha,nC hk ry,e2,q v H (.refl k) r⟩
 | _=>exact .inr (cH c σ δ H x y _ e s Q k rx ry hp q)
end DV
namespace PySem
open Sem (wp)
open AutoSeq1 (wpAny_loadPart')
section
variable {prog:Wg} {w:Wm} {A:Wl} {E:Value->W2->Prop} {s:W2}
theorem LW{items}(hit:s.heap.IsTupleIter it l i)(hl:s.heap.IsTuple l items)(hx:items[i]? = some x)
  (hQ:∀ h',h'.IsTupleIter it l (i + 1)->J5 it s.heap h'->Q x { s with heap:=h' }):W6 (model prog w) A (J1 (.ref it)) Q E s:=by
 obtain⟨o,ho,hc,hd⟩:=id hit;obtain⟨ol,hol,_,nl,iU⟩:=hl;unfold J1;refine W0 (Q2 (name:=Str.ofString "__next__") hit.typeIs QU
  (Qd QU hit.typeIs F.entry_tuple_iterator_next ?_ (F.args_tuple_iterator_next_1 _)))
 show W6 _ _ (field (.ref it) 0 >>= _) _ _ s;refine W0 (Qr ho hd (x:=.ref l) rfl ?_);show W6 _ _ (if (Value.ref l == Value.none)=true then _ else _) _ _ s;rw[if_neg (show ¬ ((Value.ref l == Value.none)=true) from WX)];show W6 _ _ (field (.ref it) 1 >>= _) _ _ s;refine W0 (Qr ho hd (x:=.int i 0) rfl ?_);show W6 _ _ (seqItems? (.ref l) >>= _) _ _ s;refine W0 (wpAny_seqItems hol iU ?_);simp only[Qw,hx];refine W0 (Qs ho hd (by simp) (W4 ⟨x,rfl,W4 (hQ _ ?_ (QJ ..))⟩));exact⟨_,Wz _ ho (Obj.isFreed_of_fields (Obj.data_mapFields hd _)),(Obj.cls_mapFields ..).trans hc,by
  rw[Obj.data_mapFields hd]; simp[WY]⟩
theorem LX{items}(hh:A.handled=none)(hit:s.heap.IsTupleIter it l i)(hl:s.heap.IsTuple l items)(hx:items[i]? = none)
  (hE:∀ h' e,Heap.ExtBut it s.heap h'->(∃ o,h'.get? e=some o/\o.cls = .type "StopIteration")->E (.ref e) { s with heap:=h' }):W6 (model prog w) A (J1 (.ref it)) Q E s:=by
 obtain⟨o,ho,hc,hd⟩:=id hit;obtain⟨ol,hol,_,nl,iU⟩:=hl;unfold J1;refine W0 (Q2 (name:=Str.ofString "__next__") hit.typeIs QU
  (Qd QU hit.typeIs F.entry_tuple_iterator_next ?_ (F.args_tuple_iterator_next_1 _)))
 show W6 _ _ (field (.ref it) 0 >>= _) _ _ s;refine W0 (Qr ho hd (x:=.ref l) rfl ?_);show W6 _ _ (if (Value.ref l == Value.none)=true then _ else _) _ _ s;rw[if_neg (show ¬ ((Value.ref l == Value.none)=true) from WX)];show W6 _ _ (field (.ref it) 1 >>= _) _ _ s;refine W0 (Qr ho hd (x:=.int i 0) rfl ?_);show W6 _ _ (seqItems? (.ref l) >>= _) _ _ s;refine W0 (wpAny_seqItems hol iU ?_);simp only[Qw,hx];refine W0 (QN (W0 (Qs ho hd (by simp) ?_)));show W6 _ _ (newExc (.type "StopIteration") [] >>= _) _ _ _;refine W0 ?_;simp only[newExc,newTuple];refine W0 (WL ?_ (by size_fits));refine W0 (m:=firstArgMember _ _) (wpAny_of_eq (a:=Value.none) (by first | rfl | (simp only[firstArgMember]; rfl)) ?_);refine WL ?_ (by size_fits);simp only[raiseNew];refine W0 (wpAny_handled ?_);first | rw[show A.in1.handled=none from hh] | rw[hh]
 refine W0 (W4 (wpAny_throw ?_));exact hE _ _ (((QJ ..).extBut.push _).push _) ⟨_,Wi _ rfl,rfl⟩
end
theorem IsTuple.at'{h h':Heap}{l:Addr}{items:Array Value}(x:h.IsTuple l items)(k:∀ o,h.get? l=some o->h'.get? l=some o):h'.IsTuple l items:=by
 obtain⟨o,ho,r⟩:=x;exact⟨o,k o ho,r⟩
theorem Draws.tuple'{prog:Wg}{w:Wm}{A:Wl}(hh:A.handled=none)(it l:Addr)(eJ:l≠it)(items:Array Value) :
  Draws prog w A it [it,l] items.size (λi v=>items[i]? = some v) (λi h=>h.IsTupleIter it l i/\h.IsTuple l items) where
 live:=λ_ _ st=>let ⟨o,ho,_⟩:=st.1; ⟨o,ho⟩
 frame:=λ_ _ _ st hk=>⟨st.1.at λo e=>hk it (by simp) o e,IsTuple.at' st.2 λo e=>hk l (by simp) o e⟩
 item:=λi s Q E hi st hQ=>by
  refine LW st.1 st.2 (x:=items[i]) (by simp[hi]) λh' LY g_=>?_
  exact hQ _ h' s.toks (by simp[hi]) ⟨LY,IsTuple.at' st.2 λo e=>(g_.2 l eJ).trans e⟩ g_
 done:=λs Q E st hE=>LX hh st.1 st.2 (by simp) hE
theorem LZ(l:Addr)(items:Array Value)(n:Nat)(aB:Option Addr)(sl:Array (Option Value)) :
  Meets (Builtin.«enumerate.__new__» ⟨[.type "enumerate",.ref l],[]⟩) (λ_ R s=>s.heap.get? l=some { cls:=.type "tuple",dict:=aB,data:=.seq items n,slots:=sl } /\
   R (.ok (.ret (.ref (s.heap.push { cls:=.type "tuple_iterator",data:=.fields #[.ref l,.int 0 0] }).objs.size)))
    { s with heap:=(s.heap.push { cls:=.type "tuple_iterator",data:=.fields #[.ref l,.int 0 0] }).push { cls:=.type "enumerate",data:=.fields #[.none,.bool false,.ref s.heap.objs.size,WY 0,.none,.none] } }) :=
 .of_wp λprog w A R s h=>by
  obtain⟨hp,g,d,tk,os⟩:=s; obtain⟨hl,h⟩:=h
  have kg:=sub_enumerate;have hL:Heap.IsTuple (Shared.heap ⟨hp,g,d,tk,os⟩) l items:=⟨_,hl,rfl,n,rfl⟩
  wp_walk using Qa hl
  refine wpAny_stack_any λst=>W4 ?_
  split
  ·rename_i c _ _ _ _ _
   cases (c == Value.type "enumerate")
   ·wp_walk using Qa hl,Jg hL
    exact⟨_,rfl,h⟩
   ·wp_walk using Qa hl,Jg hL
    exact⟨_,rfl,h⟩
  ·wp_walk using Qa hl,Jg hL
   exact⟨_,rfl,h⟩
theorem L5(hL:s.heap.IsTuple l items)
  (h:∀ h',IsEnum h' (s.heap.objs.size + 1) s.heap.objs.size 0 .none->h'.IsTupleIter s.heap.objs.size l 0->h'.objs.size=s.heap.objs.size + 2 ->
   (∀ b o,s.heap.get? b=some o->h'.get? b=some o)->Q (.ref (s.heap.objs.size + 1)) { s with heap:=h' }) :
  W6 (model prog w) A (call (.type "enumerate") [.ref l]) Q E s:=by
 obtain⟨⟨c,aB,dt,sl⟩,hl,hc,n,hd⟩:=hL;replace hc:c = .type "tuple":=hc;replace hd:dt = .seq items n:=hd;subst hc hd;refine callType_new F.called_enumerate (by decide) (F.typeCall_enumerate_1 _) (F.newCall_enumerate_1 _) (λobj=>F.args_object_init_2 obj _) F.entry_enumerate_new
  (LZ l items n aB sl) ⟨hl,?_⟩
 have hz:(s.heap.push { cls:=.type "tuple_iterator",data:=.fields #[.ref l,.int 0 0] }).objs.size=s.heap.objs.size + 1:=QL ..;show _/\_;rw[hz];have he:IsEnum ((s.heap.push { cls:=.type "tuple_iterator",data:=.fields #[.ref l,.int 0 0] }).push
   { cls:=.type "enumerate",data:=.fields #[.none,.bool false,.ref s.heap.objs.size,WY 0,.none,.none] }) (s.heap.objs.size + 1) s.heap.objs.size 0 .none:=by
  have:=Wi (s.heap.push { cls:=.type "tuple_iterator",data:=.fields #[.ref l,.int 0 0] })
   (o:={ cls:=.type "enumerate",data:=.fields #[.none,.bool false,.ref s.heap.objs.size,WY 0,.none,.none] }) rfl
  rw[hz] at this; exact this
 refine⟨⟨_,he,rfl⟩,h _ he ⟨_,W3 _ (Wi _ rfl),rfl,rfl⟩ (by rw[QL,hz]) λb o x=>W3 _ (W3 _ x)⟩
end PySem
namespace L2
open PySem PySem.Spec PyProof.Rows
section
variable {X:Cx} {pins:List (Addr×Obj)} {σ:St} {H:Hp} {s:W2} {h':Heap}
theorem Inv.L6(fp:List Addr)(I:Inv X pins σ H s)(k:∀ b o,b ∉ fp->s.heap.get? b=some o->h'.get? b=some o)(hf:∀ b ∈ fp,fE X pins H b):Inv X pins σ H { s with heap:=h',toks:=t' }:=by
 have kE:∀ b u,H b=some u->b ∉ fp:=λb u e z=>by rw[(hf b z).1] at e; cases e
 refine I.step (g':=s.gens) (d':=s.drawn) (ch:=fp) (λb hb=>?_) (λb o _ _ hc e _=>k b o hc e) (λb o _ _ hc e _=>⟨o.slots,k b o hc e⟩) (λ_ _ _ _ n=>n)
  (λb o hc e=>⟨o,k b o hc e⟩) (λ_ _ e=>e) (λ_ _ _ e=>e) (λb ps e=>⟨#[],by rw[e]; simp⟩) (λm hm=>?_) (λb u e=>?_) I.bare
 ·obtain⟨f0,f1,f2,f3,f4,f5⟩:=hf b hb;exact⟨f3,f1,f4,f5⟩
 ·obtain⟨o,es,ep,ho,r⟩:=hm;exact⟨o,es,ep,k _ o (λz=>(hf _ z).2.1 rfl) ho,r⟩
 ·refine(I.ag b u e).jh (λc v hc q=>k c v ?_ q) (λ_ q=>q) (λ_ _ q=>q) λ_ _ _ q=>q
  rcases hc with z | z
  ·rw[z]; exact kE b u e
  ·exact kE c _ z
theorem Inv.CU(I:Inv X pins σ H s)(hf:∀ b ∈ [e,it],fE X pins H b)(aY:∀ b ∈ [e,it],b < s.heap.objs.size)(ru:RelV y u)
  (hT:h'.get? s.heap.objs.size=some { cls:=.type "tuple",data:=.seq #[.int i tk,u] }) (k:∀ b o,b≠e->b≠it->s.heap.get? b=some o->h'.get? b=some o) :
  Inv X pins σ (upd H s.heap.objs.size (.tup [.int i,y])) { s with heap:=h',toks:=t' }:=by
 have I1:Inv X pins σ (upd H s.heap.objs.size (.tup [.int i,y])) { s with heap:=s.heap.push { cls:=.type "tuple",data:=.seq #[.int i tk,u] },toks:=t' } :=
  I.laid (t':=t') (λb o e=>W3 _ e) (Wb _) (show bq X.prog X.w _ _ _ (.tup [.int i,y]) from
   ⟨by simp only[WE,JV]; rw[QC]; decide,[.int i tk,u],.cons ⟨_,rfl⟩ (.cons ru .nil),gR.new _ _⟩)
 have:=Inv.L6 (t':=t') (h':=h') [e,it] I1 (λb o hb eb=>?_) λb hb=>?_
 ·exact this
 ·have he:b≠e:=λz=>hb (by simp[z])
  have hi:b≠it:=λz=>hb (by simp[z])
  rcases Heap.get?_push_cases eb with ⟨z,z'⟩ | eb
  ·subst z z';exact hT
  ·exact k b o he hi eb
 ·obtain⟨f0,r⟩:=hf b hb;refine⟨?_,r⟩;have hl:=aY b hb;rw[aQ (Wq hl)];exact f0
def CV(K:W1)(a:Addr):It :=
 ⟨(oC K a).go,λi H x H'=>∃ p y,H p=none/\(∀ xs,cg K H a xs->xs[i]? = some y)/\H'=upd H p (.tup [.int i,y])/\x = .ref p,λi H=>∃ xs,cg K H a xs/\xs.length=i⟩
def CW(K:W1)(a:Addr):It :=
 ⟨(qH K a).go,λi H x H'=>∃ p y,H p=none/\(∀ xs,cD K H a xs->xs[i]? = some y)/\H'=upd H p (.tup [.int i,y])/\x = .ref p,λi H=>∃ xs,cD K H a xs/\xs.length=i⟩
theorem L7{P:Wg}{w:Wm}{K:W1}{elts:List Expr}{ctx}{pos:Pos}(a e it:Addr)(mj:e≠it)(vW:a≠e)(jB:a≠it):Turn P w K (.Tuple elts ctx pos) (CV K a) [e,it] e (λi h=>(∃ old,IsEnum h e it i old)/\h.IsListIter it a i) where
 mem:=by simp
 obj:=λi h st b hb=>by
  obtain⟨⟨old,he⟩,hi⟩:=st;have hb:b=e\/b=it:=by simpa using hb
  rcases hb with z | z
  ·subst z;exact⟨_,he,λv z=>by
    have z':Data.fields _=Data.cell v:=z
    cases z'⟩
  ·subst z;obtain⟨o,e,c,d⟩:=hi;exact⟨o,e,λv z=>by rw[d] at z; cases z⟩
 keep:=λi h h' st k=>⟨let ⟨old,he⟩:=st.1; ⟨old,k e (by simp) _ he⟩,st.2.at λo q=>k it (by simp) o q⟩
 item:=by
  intro X hP hw hK hc i pins s σ H E I hf st hg;subst hP hw hK;obtain⟨xs,x,hq,hx⟩:=hg;obtain⟨aa,rv,p,hz⟩:=I.list hq;obtain⟨u,hu,ru⟩:=rv.get hx;obtain⟨⟨old,he⟩,hi⟩:=st;have hL:s.heap.IsList a aa.toArray:=p.isList;have D:=Draws.list (prog:=X.prog) (w:=X.w) (A:=X.A.in1) (I.ok.hd hc) it a jB aa.toArray;have vX:i < aa.length:=(We.mp hu).1;have aY:∀ b ∈ [e,it],b < s.heap.objs.size:=λb hb=>by
   have hb:b=e\/b=it:=by simpa using hb
   rcases hb with z | z
   ·subst z; exact Wf he
   ·subst z; obtain⟨o,q,_⟩:=hi; exact Wf q
  refine wpAny_pyNext_enum_itemD D he ⟨hi,hL⟩ (by simpa using vX) mj (by simp[mj,Ne.symm vW]) λx' h' tk hP ho g_ hT hsz hk=>?_
  have ex:x'=u:=by
   have:aa.toArray[i]? = some x':=hP;rw[List.getElem?_toArray,hu] at this
   cases this;rfl
  subst ex;refine⟨_,rfl,wpAny_letOwnedTupleGo_enum ho λh2 pL sb=>?_⟩;have k2:∀ b o,b≠e->b≠it->s.heap.get? b=some o->h2.get? b=some o:=λb o q1 q2 q=>(sb.2 b q1).trans (hk b o q1 q2 q)
  have vY:h2.get? s.heap.objs.size=some { cls:=.type "tuple",data:=.seq #[.int i tk,x'] }:=(sb.2 _ (QD (aY e (by simp)))).trans hT;have I2:Inv X pins σ (upd H s.heap.objs.size (.tup [.int i,x])) { s with heap:=h2,toks:=tk + 1 }:=Inv.CU (t':=tk + 1) I hf aY ru vY k2;refine⟨.ref s.heap.objs.size,_,I2,rfl,⟨s.heap.objs.size,x,I.ag.fresh (Wb _),λys hy=>by rw[I.zS hy hq]; exact hx,rfl,rfl⟩,⟨⟨x',by simpa using pL⟩,g_.1.at λo q=>(sb.2 it (Ne.symm mj)).trans q⟩,λb hb=>?_⟩;rw[aQ (Wq (aY b hb))];exact(hf b hb).1
 done:=by
  intro X hP hw hK hc i pins s σ H E I hf st hg;subst hP hw hK;obtain⟨xs,hq,hx⟩:=hg;obtain⟨aa,rv,p,hz⟩:=I.list hq;obtain⟨⟨old,he⟩,hi⟩:=st;have hL:s.heap.IsList a aa.toArray:=p.isList;have hl:=rv.length;have D:=Draws.list (prog:=X.prog) (w:=X.w) (A:=X.A.in1) (I.ok.hd hc) it a jB aa.toArray;have hn:aa.toArray.size=i:=by simp; omega
  obtain⟨f0,f1,f2,f3,f4,f5⟩:=hf it (by simp);exact wpAny_pyNext_enum_endD D he ⟨by rw[hn]; exact hi,hL⟩ λh' eb=>⟨rfl,I.turned (t':=s.toks) (λb o hb q=>eb b o hb q) f0 f1 f3 f4 f5⟩
 self:=λ_ _ _ _ _ st h=>by
  obtain⟨⟨old,he⟩,_⟩:=st;exact JQ he h
theorem L8{P:Wg}{w:Wm}{K:W1}{elts:List Expr}{ctx}{pos:Pos}(a e it:Addr)(mj:e≠it)(vW:a≠e)(jB:a≠it):Turn P w K (.Tuple elts ctx pos) (CW K a) [e,it] e (λi h=>(∃ old,IsEnum h e it i old)/\h.IsTupleIter it a i) where
 mem:=by simp
 obj:=λi h st b hb=>by
  obtain⟨⟨old,he⟩,hi⟩:=st;have hb:b=e\/b=it:=by simpa using hb
  rcases hb with z | z
  ·subst z;exact⟨_,he,λv z=>by
    have z':Data.fields _=Data.cell v:=z
    cases z'⟩
  ·subst z;obtain⟨o,e,c,d⟩:=hi;exact⟨o,e,λv z=>by rw[d] at z; cases z⟩
 keep:=λi h h' st k=>⟨let ⟨old,he⟩:=st.1; ⟨old,k e (by simp) _ he⟩,st.2.at λo q=>k it (by simp) o q⟩
 item:=by
  intro X hP hw hK hc i pins s σ H E I hf st hg;subst hP hw hK;obtain⟨xs,x,hq,hx⟩:=hg;obtain⟨aa,rv,p,hz⟩:=I.tuple hq;obtain⟨u,hu,ru⟩:=rv.get hx;obtain⟨⟨old,he⟩,hi⟩:=st;have hL:s.heap.IsTuple a aa.toArray:=p;have D:=Draws.tuple' (prog:=X.prog) (w:=X.w) (A:=X.A.in1) (I.ok.hd hc) it a jB aa.toArray;have vX:i < aa.length:=(We.mp hu).1;have aY:∀ b ∈ [e,it],b < s.heap.objs.size:=λb hb=>by
   have hb:b=e\/b=it:=by simpa using hb
   rcases hb with z | z
   ·subst z; exact Wf he
   ·subst z; obtain⟨o,q,_⟩:=hi; exact Wf q
  refine wpAny_pyNext_enum_itemD D he ⟨hi,hL⟩ (by simpa using vX) mj (by simp[mj,Ne.symm vW]) λx' h' tk hP ho g_ hT hsz hk=>?_
  have ex:x'=u:=by
   have:aa.toArray[i]? = some x':=hP;rw[List.getElem?_toArray,hu] at this
   cases this;rfl
  subst ex;refine⟨_,rfl,wpAny_letOwnedTupleGo_enum ho λh2 pL sb=>?_⟩;have k2:∀ b o,b≠e->b≠it->s.heap.get? b=some o->h2.get? b=some o:=λb o q1 q2 q=>(sb.2 b q1).trans (hk b o q1 q2 q)
  have vY:h2.get? s.heap.objs.size=some { cls:=.type "tuple",data:=.seq #[.int i tk,x'] }:=(sb.2 _ (QD (aY e (by simp)))).trans hT;have I2:Inv X pins σ (upd H s.heap.objs.size (.tup [.int i,x])) { s with heap:=h2,toks:=tk + 1 }:=Inv.CU (t':=tk + 1) I hf aY ru vY k2;refine⟨.ref s.heap.objs.size,_,I2,rfl,⟨s.heap.objs.size,x,I.ag.fresh (Wb _),λys hy=>by rw[I.zU hy hq]; exact hx,rfl,rfl⟩,⟨⟨x',by simpa using pL⟩,g_.1.at λo q=>(sb.2 it (Ne.symm mj)).trans q⟩,λb hb=>?_⟩;rw[aQ (Wq (aY b hb))];exact(hf b hb).1
 done:=by
  intro X hP hw hK hc i pins s σ H E I hf st hg;subst hP hw hK;obtain⟨xs,hq,hx⟩:=hg;obtain⟨aa,rv,p,hz⟩:=I.tuple hq;obtain⟨⟨old,he⟩,hi⟩:=st;have hL:s.heap.IsTuple a aa.toArray:=p;have hl:=rv.length;have D:=Draws.tuple' (prog:=X.prog) (w:=X.w) (A:=X.A.in1) (I.ok.hd hc) it a jB aa.toArray;have hn:aa.toArray.size=i:=by simp; omega
  obtain⟨f0,f1,f2,f3,f4,f5⟩:=hf it (by simp);exact wpAny_pyNext_enum_endD D he ⟨by rw[hn]; exact hi,hL⟩ λh' eb=>⟨rfl,I.turned (t':=s.toks) (λb o hb q=>eb b o hb q) f0 f1 f3 f4 f5⟩
 self:=λ_ _ _ _ _ st h=>by
  obtain⟨⟨old,he⟩,_⟩:=st;exact JQ he h
end
end L2
namespace DV
open PySem PySem.Spec PyProof.Rows L2
section
variable {X:Cx} {c:Fc} {tg e:Expr} {fe:DE} {pos pp:Pos}
def L9(K:W1)(ta:TA):TI:=λσ H R=>ta σ H λvs H1=>(∃ a,vs=[.ref a]/\(∃ xs,cg K H1 a xs)/\R (CV K a) H1)\/(∃ a,vs=[.ref a]/\(∃ xs,cD K H1 a xs)/\R (CW K a) H1)
theorem L_ {ctx} (hg:Gl X "enumerate") (hm:X.mg "enumerate" = none) (ha:PA X [a] ta) (hs:W5 [a] X.env=[(false,eval a X.env)]:=by rfl):PI X (.Tuple elts ctx tp) (.Call (.Name "enumerate" pp) [a] [] pos) (L9 X.K ta):=by
 intro pins s σ H R I h;refine Call_ (mK I hg hm boot_enumerate (QP (aH (ha pos pins s σ H _ I h) λus s1 ⟨vs,H1,I1,r1,q1⟩=>?_) hs rfl));rcases q1 with ⟨a,ev,⟨xs,hq⟩,q⟩ | ⟨a,ev,⟨xs,hq⟩,q⟩
 ·subst ev
  cases r1 with
  | cons r rr =>
   cases rr
   cases r;obtain⟨aa,rv,p,hz⟩:=I1.list hq;have hL:s1.heap.IsList a aa.toArray:=p.isList;have aY:a < s1.heap.objs.size:=by obtain⟨o,q,_⟩:=hL; exact Wf q
   refine call_enumerate_list hL λh' he hi hsz kp=>JQ he ?_
   refine⟨s1.heap.objs.size + 1,[s1.heap.objs.size + 1,s1.heap.objs.size],_,_,H1,rfl,I1.kept (t':=s1.toks) kp,L7 a _ _ (Nat.succ_ne_self _) (Wq (Qe aY)) (Wq aY),⟨⟨_,he⟩,hi⟩,λb hb=>?_,q⟩;have hb:b=s1.heap.objs.size + 1\/b=s1.heap.objs.size:=by simpa using hb
   have hle:s1.heap.objs.size<=b:=by rcases hb with z | z <;> subst z <;> first | exact Wb _ | exact Ju _
   exact I1.jj hle (I1.ag.fresh hle)
 ·subst ev
  cases r1 with
  | cons r rr =>
   cases rr
   cases r;obtain⟨aa,rv,p,hz⟩:=I1.tuple hq;have hL:s1.heap.IsTuple a aa.toArray:=p;have aY:a < s1.heap.objs.size:=by obtain⟨o,q,_⟩:=hL; exact Wf q
   refine L5 hL λh' he hi hsz kp=>JQ he ?_
   refine⟨s1.heap.objs.size + 1,[s1.heap.objs.size + 1,s1.heap.objs.size],_,_,H1,rfl,I1.kept (t':=s1.toks) kp,L8 a _ _ (Nat.succ_ne_self _) (Wq (Qe aY)) (Wq aY),⟨⟨_,he⟩,hi⟩,λb hb=>?_,q⟩;have hb:b=s1.heap.objs.size + 1\/b=s1.heap.objs.size:=by simpa using hb
   have hle:s1.heap.objs.size<=b:=by rcases hb with z | z <;> subst z <;> first | exact Wb _ | exact Ju _
   exact I1.jj hle (I1.ag.fresh hle)
def ij(ds:List D):List D:=ds.mapIdx λi d=>D.tup [.int (i:Nat),d]
theorem vZ{ds:List D}{i:Nat}{d:D}(h:(ij ds)[i]? = some d):∃ d',ds[i]? = some d'/\d = .tup [.int i,d']:=by
 unfold ij at h;rw[List.getElem?_mapIdx] at h
 cases e:ds[i]? with
 | none=>rw[e] at h; cases h
 | some d' =>
  rw[e] at h
  cases h;exact⟨d',rfl,rfl⟩
theorem ax.pair(r:Rep H O v d):ax H O [.int i,v] [.int i,d]:=by
 refine⟨rfl,λj v' d' e1 e2=>?_⟩;match j with
 | 0=>simp at e1 e2; subst e1 e2; exact .int _
 | 1=>simp at e1 e2; subst e1 e2; exact r
 | j + 2=>simp at e1
def pM(f:DE):DI:=λδ=>(f δ).bind λr δ1=>match r.d with
 | .lst ds=>.ok (ij ds) δ1
 | .tup ds=>.ok (ij ds) δ1
 | _=>.stuck
theorem Ma {elts:List Expr} {ctx} {tp:Pos} (hg:Gl X "enumerate") (hm:X.mg "enumerate" = none) (he:SE X c e fe) (hs:W5 [e] X.env=[(false,eval e X.env)]:=by rfl):SI X c (.Tuple elts ctx tp) (.Call (.Name "enumerate" pp) [e] [] pos) (pM fe) :=
 PI.weak (L_ hg hm (df he eU hs) hs) λσ H R ⟨δ,k,q⟩=>by
  unfold pM at q;rw[aX] at q;refine⟨δ,k,aL q λr δ1 q1 v H1 a1 r1=>?_⟩;have rr:=r1.rep;generalize r.d=d at q1 rr
  cases d <;> first | exact q1.elim | skip
  ·cases rr with
   | tup h1 h2 h3 h4 =>
    rename_i a vs;refine .inr ⟨_,rfl,⟨_,.of h2⟩,q1 _ H1 a1 ?_⟩;intro H2 kp;have h5:=kp _ _ h2 λz=>h1 (.inr z)
    have r':ax H1 (Av c σ δ1) vs _:=⟨h3,h4⟩
    refine⟨⟨vs,.of h5,by rw[r'.1]; simp[ij]⟩,λi d e=>?_⟩;obtain⟨d',e',rfl⟩:=vZ e;obtain⟨v,ev,rv⟩:=r'.get e';refine⟨⟨vs,v,.of h5,ev⟩,λx H3 ⟨p,y,hp,hy,e3,ex⟩=>.inr ⟨p,_,_,hp,e3,ex,rfl,?_⟩⟩;have:=hy vs (.of h5);rw[ev] at this
    cases this;exact ax.pair rv
  ·cases rr with
   | lst h1 h2 h3 h4 =>
    rename_i a vs;refine .inl ⟨_,rfl,⟨_,.inl h2⟩,q1 _ H1 a1 ?_⟩;intro H2 kp;have h5:Rd H2 a (.lst vs):=Rd.keep h2 λo e=>kp a o e λz=>h1 (.inr z)
    have r':ax H1 (Av c σ δ1) vs _:=⟨h3,h4⟩
    refine⟨⟨vs,.inl h5,by rw[r'.1]; simp[ij]⟩,λi d e=>?_⟩;obtain⟨d',e',rfl⟩:=vZ e;obtain⟨v,ev,rv⟩:=r'.get e';refine⟨⟨vs,v,.inl h5,ev⟩,λx H3 ⟨p,y,hp,hy,e3,ex⟩=>.inr ⟨p,_,_,hp,e3,ex,rfl,?_⟩⟩;have:=hy vs (.inl h5);rw[ev] at this
    cases this;exact ax.pair rv
end
end DV
namespace HT
open PySem PySem.Spec PyProof.Rows
section
variable {prog:Wg} {w:Wm} {A:Wl} {E:Value->W2->Prop} {s:W2}
end
end HT
namespace DV
open PySem PySem.Spec PyProof.Rows L2
section
variable {X:Cx} {c:Fc} {e:Expr} {fb:BE} {pos p2:Pos}
def nD:D->Bool
 | .aq=>true
 | _=>false
def ml(neg:Bool)(d e:D):Option S:=match e with
 | .aq=>some (.pure (.bl (neg != nD d)))
 | _=>none
theorem Mb:cG (λx y H Q=>y = .aq/\Q (.bl (decide (x = .aq))) H) (ml false):=by
 intro c σ δ H x y d e s Q k rx ry hp q
 cases e with
 | aq =>
  simp only[ml,W9] at hp;subst hp;have ey:y = .aq:=by
   rcases ry with r | ⟨a,e,o⟩
   ·cases r; rfl
   ·exact o.elim
  have:decide (x=V.aq)=(false != nD d):=by
   rcases rx with r | ⟨a,e,o⟩
   ·cases r <;> simp[nD]
   ·subst e
    cases d <;> first | exact o.elim | simp[nD]
  exact⟨ey,by rw[this]; exact q _ H (.refl k) (.bl _)⟩
 | _=>simp[ml] at hp
end
def Fc.bQ(c:Fc)(i:Nat)(a:Addr):Fc:=⟨c.H₀,λb=>c.B b\/b=a,(i,a) :: c.pin,c.xc⟩
theorem Np.bQ(h:Np c np):Np (c.bQ i a) (i :: np):=λp hp=>by
 rcases Wh.mp hp with e | hp
 ·subst e; simp
 ·have:=h p hp;simp at this ⊢;exact .inr this
section
variable {c:Fc} {σ σ':St} {δ δ':Dl} {H H':Hp} {i:Nat} {a:Addr} {ds:List D}
theorem Own.unset(h:Own σ (δ.set i none) b):Own σ δ b:=by
 obtain⟨j,d',e1,e2⟩:=h;by_cases hj:i=j
 ·subst hj;rw[WM] at e1;split at e1
  ·split at e1 <;> cases e1
  ·rename_i q; exact absurd rfl q
 ·rw[W7 hj] at e1;exact⟨j,d',e1,e2⟩
theorem nE(k:Ok c σ δ H)(e:δ[i]? = some (some (.own (.lst ds))))(ea:σ[i]? = some (some (.ref a)))(b:Addr)(z:Av (c.bQ i a) σ (δ.set i none) b):Av c σ δ b:=by
 rcases z with (z | z) | z
 ·exact .inl z
 ·subst z; exact .inr ⟨i,_,e,ea⟩
 ·exact .inr z.unset
theorem v3(k:Ok c σ δ H)(e:δ[i]? = some (some (.own (.lst ds))))(ea:σ[i]? = some (some (.ref a))):¬ Own σ (δ.set i none) a:=λz=>by
 obtain⟨j,d',e1,e2⟩:=z;by_cases hj:i=j
 ·subst hj;rw[WM] at e1;split at e1
  ·split at e1 <;> cases e1
  ·rename_i q; exact absurd rfl q
 ·rw[W7 hj] at e1;exact hj (k.inj i j a _ _ e e1 ea e2)
theorem Ok.bQ(k:Ok c σ δ H)(e:δ[i]? = some (some (.own (.lst ds))))(ea:σ[i]? = some (some (.ref a))):Ok (c.bQ i a) σ (δ.set i none) H:=by
 have sub:=nE k e ea;have ne:∀ j d,(δ.set i none)[j]? = some (some d)->i≠j/\δ[j]? = some (some d):=λj d q=>by
  by_cases hj:i=j
  ·subst hj;rw[Wk (We.mp e).1] at q; cases q
  ·rw[W7 hj] at q; exact⟨hj,q⟩
 refine⟨λb o h n=>k.keep b o h λ⟨j,z⟩=>n ⟨j,Wd _ z⟩,λb z=>?_,λb ⟨j,z⟩=>?_,by rw[Qj]; exact k.len,λj d q=>?_,λj d q=>?_,λj l b d d' q1 q2=>?_,λp hp=>?_⟩
 ·rcases z with z | z
  ·exact k.bd b z
  ·subst z; exact k.mV ⟨i,_,e,ea⟩
 ·rcases Wh.mp z with z | z
  ·cases z; exact k.mV ⟨i,_,e,ea⟩
  ·exact k.cw b ⟨j,z⟩
 ·obtain⟨_,q⟩:=ne j _ q;obtain⟨v,g1,g2⟩:=k.slot j d q;exact⟨v,g1,g2.aJ λb z=>.inl (sub b z)⟩
 ·obtain⟨hj,q⟩:=ne j _ q;obtain⟨b,g1,g2,g3,g4⟩:=k.own j d q;refine⟨b,g1,g2.aJ λb z=>.inl (sub b z),g3.imp (λ⟨l,z⟩=>⟨l,Wd _ z⟩) id,λz=>?_⟩;rcases z with z | z
  ·exact g4 z
  ·subst z; exact hj (k.inj i j b _ _ e q ea g1)
 ·exact k.inj j l b d d' (ne j _ q1).2 (ne l _ q2).2
 ·rcases Wh.mp hp with z | z
  ·subst z; exact ea
  ·exact k.pinned p z
theorem ay.pO(k:Ok c σ δ H)(e:δ[i]? = some (some (.own (.lst ds))))(ea:σ[i]? = some (some (.ref a)))(x:ay (c.bQ i a) σ (δ.set i none) H σ' δ' H') :
  ay c σ δ H σ' (δ'.set i (some (.own (.lst ds)))) H'/\∀ b,Av c σ' (δ'.set i (some (.own (.lst ds)))) b->Av (c.bQ i a) σ' δ' b:=by
 have k':=x.ok;have cI:σ'[i]? = some (some (.ref a)):=k'.pinned (i,a) Wj;have eV:i < δ'.length:=by rw[k'.len]; exact(We.mp cI).1
 obtain⟨a0,f1,f2,f3,f4⟩:=k.own i _ e;rw[ea] at f1; cases f1
 have ne:∀ j d,(δ'.set i (some (.own (.lst ds))))[j]? = some (some d)->(j=i/\d = .own (.lst ds))\/(i≠j/\δ'[j]? = some (some d)):=λj d q=>by
  by_cases hj:i=j
  ·subst hj;rw[Wk eV] at q
   cases q; exact .inl ⟨rfl,rfl⟩
  ·rw[W7 hj] at q; exact .inr ⟨hj,q⟩
 have own:∀ b,Own σ' (δ'.set i (some (.own (.lst ds)))) b->b=a\/Own σ' δ' b:=λb ⟨j,d,q1,q2⟩=>by
  rcases ne j _ q1 with ⟨z,_⟩ | ⟨_,z⟩
  ·subst z; rw[cI] at q2; cases q2; exact .inl rfl
  ·exact .inr ⟨j,d,z,q2⟩
 have sub:∀ b,Av c σ' (δ'.set i (some (.own (.lst ds)))) b->Av (c.bQ i a) σ' δ' b:=λb z=>by
  rcases z with z | z
  ·exact .inl (.inl z)
  ·rcases own b z with z | z
   ·exact .inl (.inr z)
   ·exact .inr z
 have na:∀ (j:Nat) (d:D) (b:Addr),δ'[j]? = some (some (.own d))->σ'[j]? = some (some (.ref b))->b≠a:=λj d b q1 q2 z=>by
  obtain⟨b',g1,_,_,g4⟩:=k'.own j d q1;rw[q2] at g1; cases g1
  exact g4 (.inr z)
 refine⟨⟨⟨λb o h n=>?_,λb z=>k'.bd b (.inl z),λb ⟨j,z⟩=>k'.cw b ⟨j,Wd _ z⟩,by rw[Qj]; exact k'.len,λj d q=>?_,λj d q=>?_,λj l b d d' q1 q2 s1 s2=>?_,λp hp=>k'.pinned p (Wd _ hp)⟩,λb o h n=>x.keep b o h λz=>n z.unset,λb z=>?_,x.there⟩,sub⟩
 ·refine k'.keep b o h λ⟨j,z⟩=>?_
  rcases Wh.mp z with z | z
  ·cases z;rcases f3 with f3 | f3
   ·exact n f3
   ·rw[f3] at h; cases h
  ·exact n ⟨j,z⟩
 ·rcases ne j _ q with ⟨_,z⟩ | ⟨_,q⟩
  ·cases z
  ·obtain⟨v,g1,g2⟩:=k'.slot j d q;exact⟨v,g1,g2.aJ λb z=>.inl (sub b z)⟩
 ·rcases ne j _ q with ⟨z,z'⟩ | ⟨hj,q⟩
  ·subst z; cases z'
   obtain⟨vs,h1,h2⟩:=f2;refine⟨a,cI,⟨vs,x.keep a _ h1 (v3 k e ea),?_⟩,f3,f4⟩;have r1:ax H (Av (c.bQ j a) σ (δ.set j none)) vs ds:=ax.aJ h2 λb z=>.inl (nE k e ea b z)
   exact ax.aJ (ax.dA r1 x) λb z=>.inl (sub b z)
  ·obtain⟨b,g1,g2,g3,g4⟩:=k'.own j d q;refine⟨b,g1,g2.aJ λb z=>.inl (sub b z),g3.imp (λ⟨l,z⟩=>?_) id,λz=>g4 (.inl z)⟩;rcases Wh.mp z with z | z
   ·cases z; exact absurd (.inr rfl) g4
   ·exact⟨l,z⟩
 ·rcases ne j _ q1 with ⟨z,_⟩ | ⟨hj,z1⟩ <;> rcases ne l _ q2 with ⟨z',_⟩ | ⟨hl,z2⟩
  ·rw[z,z']
  ·subst z; rw[cI] at s1; cases s1; exact absurd rfl (na l _ _ z2 s2)
  ·subst z'; rw[cI] at s2; cases s2; exact absurd rfl (na j _ _ z1 s1)
  ·exact k'.inj j l b d d' z1 z2 s1 s2
 ·rcases own b z with z | z
  ·subst z; exact .inl ⟨i,_,e,ea⟩
  ·rcases x.own b z with q | q
   ·exact .inl q.unset
   ·exact .inr q
end
def Tw(i:Nat)(g:DG)(b:DS):DS:=λδ=>match δ[i]? with
 | some (some (.own (.lst ds)))=>(forL g b ds (δ.set i none)).bind λfl δ'=>match fl with
  | .ret (.own _)=>.stuck
  | fl=>.ok fl (δ'.set i (some (.own (.lst ds))))
 | _=>.stuck
section
variable {X:Cx} {c:Fc} {tg iter:Expr} {body:List Stmt} {g:DG} {b:DS} {i:Nat} {pos:Pos}
theorem Mc(hn:¬ Own σ δ a)(h:H a=some (.lst vs))(r:ax H (Av c σ δ) vs ds):kY c σ δ H (oC X.K a) ds:=by
 intro H2 kp;have h5:Rd H2 a (.lst vs):=.inl (kp a _ h hn);refine⟨⟨vs,.inl h5,by rw[r.1]; exact Wb _⟩,λi d e=>?_⟩;obtain⟨v,ev,rv⟩:=r.get e;refine⟨⟨vs,v,.inl h5,ev⟩,λx H3 ⟨e3,y⟩=>.inl ⟨e3,?_⟩⟩;have:=y vs (.inl h5);rw[ev] at this
 cases this;exact rv
def sC(np:List Nat)(i:Nat):DS:=λδ=>match δ[i]? with
 | some (some (.own d))=>if np.contains i || !np.all (bE δ) then .ok (.ret (.pure d)) (δ.set i (some (.pure d))) else .ok (.ret (.own d)) (δ.set i none)
 | some (some (.pure d))=>.ok (.ret (.pure d)) δ
 | _=>.stuck
theorem Md{np:List Nat}{e:Expr}(aA:Np c np)(he:PE X e (cY i)):SS X c (.Return (some e) pos) (sC np i):=PS.weak (zW he) λD σ H ⟨δ,k,q⟩=>by
 unfold sC cW at q;split at q
 ·rename_i d e;obtain⟨a,ea,oa,ia,nb⟩:=k.own i d e;refine⟨.ref a,ea,?_⟩;split at q
  ·obtain⟨a',cI,x,r⟩:=k.give e;rw[ea] at cI; cases cI
   exact q σ H x _ r
  ·rename_i hc;simp only[Bool.or_eq_true,not_or,Bool.not_eq_true,Bool.not_eq_false',List.all_eq_true] at hc;obtain⟨hc1,hc2⟩:=hc;have nI:¬ c.I a:=λ⟨j,z⟩=>by
    have z1:=aA (j,a) z;have z2:=k.pinned (j,a) z;have z3:=hc2 j (by simpa using z1);unfold bE at z3;split at z3
    ·rename_i d' ej;have:=k.inj i j a _ _ e ej ea z2;subst this;rw[z1] at hc1; cases hc1
    ·cases z3
   have h0:c.H₀ a=none:=ia.resolve_left nI;have hi:i < δ.length:=(We.mp e).1;have ne:∀ j d,(δ.set i none)[j]? = some (some d)->i≠j/\δ[j]? = some (some d):=λj d q=>by
    by_cases hj:i=j
    ·subst hj;rw[Wk hi] at q; cases q
    ·rw[W7 hj] at q; exact⟨hj,q⟩
   have sub:∀ b,Av (c.plus a) σ (δ.set i none) b->Av c σ δ b:=λb z=>by
    rcases z with (z | z) | z
    ·exact .inl z
    ·subst z; exact .inr ⟨i,_,e,ea⟩
    ·exact .inr z.unset
   have kp:Ok (c.plus a) σ (δ.set i none) H:=by
    refine⟨k.keep,λb z=>?_,k.cw,by rw[Qj]; exact k.len,λj d q=>?_,λj d q=>?_,λj l b d d' q1 q2=>k.inj j l b d d' (ne j _ q1).2 (ne l _ q2).2,k.pinned⟩
    ·rcases z with z | z
     ·exact k.bd b z
     ·subst z; exact k.mV ⟨i,_,e,ea⟩
    ·obtain⟨_,q⟩:=ne j _ q;obtain⟨v,g1,g2⟩:=k.slot j d q;exact⟨v,g1,g2.aJ λb z=>.inl (sub b z)⟩
    ·obtain⟨hj,q⟩:=ne j _ q;obtain⟨b,g1,g2,g3,g4⟩:=k.own j d q;refine⟨b,g1,g2.aJ λb z=>.inl (sub b z),g3,λz=>?_⟩;rcases z with z | z
     ·exact g4 z
     ·subst z; exact hj (k.inj i j b _ _ e q ea g1)
   have x:ay c σ δ H σ (δ.set i none) H:=by
    refine⟨⟨k.keep,k.bd,k.cw,by rw[Qj]; exact k.len,λj d q=>?_,λj d q=>?_,λj l b d d' q1 q2=>k.inj j l b d d' (ne j _ q1).2 (ne l _ q2).2,k.pinned⟩,λ_ _ w _=>w,λb z=>.inl z.unset,λ_ o w=>⟨o,w⟩⟩
    ·obtain⟨_,q⟩:=ne j _ q;obtain⟨v,g1,g2⟩:=k.slot j d q;exact⟨v,g1,g2.aJ λb z=>.inl (z.elim .inl λz=>.inr z.unset)⟩
    ·obtain⟨hj,q⟩:=ne j _ q;obtain⟨b,g1,g2,g3,g4⟩:=k.own j d q;exact⟨b,g1,g2.aJ λb z=>.inl (z.elim .inl λz=>.inr z.unset),g3,g4⟩
   exact q σ H x _ ⟨a,rfl,oa.aJ λb z=>.inl (sub b z),nb,h0,kp,h0⟩
 ·rename_i d e;obtain⟨v,e1,r⟩:=k.slot i d e;exact⟨v,e1,q σ H (.refl k) v r⟩
 ·exact q.elim
end
theorem v5(hu:X.A.units + 64 < Qi):gC X (λx y H Q=>vU x y H Q\/qO X.K x y H Q):=(LV hu).or cF
end DV
namespace L2
open PySem PySem.Spec PyProof.Rows
section
variable {X:Cx}
end
end L2
namespace DV
open PySem PySem.Spec PyProof.Rows L2
section
variable {X:Cx} {c:Fc} {e:Expr} {fe:DE} {pos:Pos}
end
section
variable {c:Fc} {σ:St} {δ δ':Dl} {H H':Hp} {i:Nat} {a p:Addr} {ds:List D}
theorem Ok.Me(k:Ok c σ δ H)(e:δ[i]? = some (some (.own (.lst ds))))(ea:σ[i]? = some (some (.ref a)))(x:ay (c.bQ i a) σ (δ.set i none) H σ δ' H')(kp:Ok ((c.bQ i a).plus p) σ δ' H')(hp:H p=none):Ok (c.plus p) σ (δ'.set i (some (.own (.lst ds)))) H':=by
 obtain⟨y,_⟩:=x.pO k e ea;have k1:=y.ok;have k':=x.ok;have eV:i < δ'.length:=by rw[k'.len]; exact(We.mp ea).1
 have pa:p≠a:=λz=>by
  obtain⟨o,ho⟩:=k.mV ⟨i,_,e,ea⟩;rw[<- z,hp] at ho; cases ho
 have ne:∀ j d,(δ'.set i (some (.own (.lst ds))))[j]? = some (some d)->(j=i/\d = .own (.lst ds))\/(i≠j/\δ'[j]? = some (some d)):=λj d q=>by
  by_cases hj:i=j
  ·subst hj;rw[Wk eV] at q
   cases q; exact .inl ⟨rfl,rfl⟩
  ·rw[W7 hj] at q; exact .inr ⟨hj,q⟩
 have sub:∀ b,Av (c.plus p) σ (δ'.set i (some (.own (.lst ds)))) b->Av ((c.bQ i a).plus p) σ δ' b:=λb z=>by
  rcases z with (z | z) | ⟨j,d,q1,q2⟩
  ·exact .inl (.inl (.inl z))
  ·exact .inl (.inr z)
  ·rcases ne j _ q1 with ⟨z,_⟩ | ⟨_,z⟩
   ·subst z; rw[ea] at q2; cases q2; exact .inl (.inl (.inr rfl))
   ·exact .inr ⟨j,d,z,q2⟩
 refine⟨k1.keep,λb z=>?_,k1.cw,k1.len,λj d q=>?_,λj d q=>?_,k1.inj,k1.pinned⟩
 ·rcases z with z | z
  ·exact k1.bd b z
  ·exact kp.bd b (.inr z)
 ·rcases ne j _ q with ⟨_,z⟩ | ⟨_,q⟩
  ·cases z
  ·obtain⟨v,g1,g2⟩:=kp.slot j d q;exact⟨v,g1,g2.aJ λb z=>.inl (sub b z)⟩
 ·rcases ne j _ q with ⟨z,z'⟩ | ⟨hj,q'⟩
  ·subst z; cases z'
   obtain⟨a0,f1,f2,f3,f4⟩:=k.own j _ e;rw[ea] at f1; cases f1
   obtain⟨vs,h1,h2⟩:=f2;refine⟨a,ea,⟨vs,x.keep a _ h1 (v3 k e ea),?_⟩,f3,λz=>z.elim f4 λz=>pa z.symm⟩;have r1:ax H (λb=>Av (c.bQ j a) σ (δ.set j none) b\/Av ((c.bQ j a).plus p) σ δ' b) vs ds:=ax.aJ h2 λb z=>by
    rcases z with z | z
    ·exact .inl (nE k e ea b z)
    ·rcases z with (z | z) | z
     ·exact .inl (nE k e ea b (.inl z))
     ·exact .inr (by rw[z]; exact hp)
     ·rcases x.own b z with q | q
      ·exact .inl (nE k e ea b (.inr q))
      ·exact .inr q
   have r2:=ax.keep r1 (H':=H') λb w e n=>x.keep b w e λz=>n (.inl (.inr z))
   exact ax.aJ r2 λb z=>.inl (.inr (sub b z))
  ·obtain⟨b,g1,g2,g3,g4⟩:=kp.own j d q';obtain⟨b',f1,_,f3,_⟩:=k1.own j d q;rw[g1] at f1; cases f1
   exact⟨b,g1,g2.aJ λb z=>.inl (sub b z),f3,λz=>z.elim (λz=>g4 (.inl (.inl z))) λz=>g4 (.inr z)⟩
theorem aM.pO(k:Ok c σ δ H)(e:δ[i]? = some (some (.own (.lst ds))))(ea:σ[i]? = some (some (.ref a)))(x:ay (c.bQ i a) σ (δ.set i none) H σ δ' H')(h:aM (c.bQ i a) σ δ' H H' v r):aM c σ (δ'.set i (some (.own (.lst ds)))) H H' v r:=by
 obtain⟨y,sub⟩:=x.pO k e ea
 cases r with
 | pure d=>exact Rep.aJ (show Rep H' (Av (c.bQ i a) σ δ') v d from h) λb z=>.inl (sub b z)
 | own d =>
  obtain⟨p,e1,o,n,f,kp,hs⟩:=h;refine⟨p,e1,o.aJ λb z=>.inl ?_,λz=>n (.inl z),f,Ok.Me k e ea x kp hs,hs⟩;rcases z with (z | z) | z
  ·exact .inl (.inl (.inl z))
  ·exact .inl (.inr z)
  ·rcases sub b (.inr z) with z | z
   ·exact .inl (.inl z)
   ·exact .inr z
end
open Classical in
noncomputable def itAt (δ₀:Dl) (ds:List D):DI:=λδ=>if δ=δ₀ then .ok ds δ else .stuck
def nF(cs:List Nat)(i:Nat)(g:DG)(t:DT)(el:DE):DE:=λδ=>match δ[i]? with
 | some (some (.own (.lst ds)))=>if cs.any (bE (δ.set i none)) then .stuck else
  (cR cs g t el ds (bo cs (δ.set i none)) []).bind λacc δ2=>.ok (.own (.lst acc)) ((cQ cs (δ.set i none) δ2).set i (some (.own (.lst ds))))
 | _=>.stuck
section
variable {X:Cx} {c:Fc} {cs:List Nat} {tg iter elt:Expr} {ifs:List Expr} {scope:Scope} {pos:Pos} {g:DG} {t:DT} {el:DE} {i:Nat}
theorem Mf(hg:∀ a l v σ H Q,nt cs ((c.bQ i a).plus l) g v σ H Q->gt v σ H Q)(ht:∀ a l σ H Q,tT ((c.bQ i a).plus l) t σ H Q->tt σ H Q)(he:∀ a l σ H Q,tD ((c.bQ i a).plus l) el σ H Q->te σ H Q)
  (hp:∀ p ∈ c.pin,p.1 ∉ cs) (hi:i ∉ cs) (h:tD c (nF cs i g t el) σ H Q):q0 cs (Cy X.K (cY i)) gt tt te σ H Q:=by
 obtain⟨δ,k,q⟩:=h;unfold nF at q;split at q
 case h_2=>exact q.elim
 rename_i ds e;obtain⟨a,ea,⟨vs,hv,rv⟩,f3,f4⟩:=k.own i _ e;have kp:=k.bQ e ea;have gi:=v3 k e ea;have r1:ax H (Av (c.bQ i a) σ (δ.set i none)) vs ds:=ax.aJ rv λb z=>.inl (nE k e ea b z)
 have io:kY (c.bQ i a) σ (δ.set i none) H (oC X.K a) ds:=Mc gi hv r1;have h':tD (c.bQ i a) (c7 cs (itAt (δ.set i none) ds) g t el) σ H Q:=by
  refine⟨δ.set i none,kp,?_⟩;unfold c7 itAt;rw[if_pos rfl];show post (c.bQ i a) (if cs.any (bE (δ.set i none)) then .stuck else _) _;split at q
  ·exact q.elim
  ·rename_i g9;rw[if_neg g9];rw[aX] at q ⊢;have q2:post (c.bQ i a) (cR cs g t el ds (bo cs (δ.set i none)) []) λacc δ2=>∀ v H',ay c σ δ H σ ((cQ cs (δ.set i none) δ2).set i (some (.own (.lst ds)))) H'->aM c σ ((cQ cs (δ.set i none) δ2).set i (some (.own (.lst ds)))) H H' v (.own (.lst acc))->Q v H':=by
    cases hf:cR cs g t el ds (bo cs (δ.set i none)) [] with
    | ok fl δ'=>rw[hf] at q; exact q
    | exc x δx=>rw[hf] at q; exact q
    | stuck=>rw[hf] at q; exact q
   exact aL q2 λacc δ2 q3 v H' x r=>q3 v H' (x.pO k e ea).1 (aM.pO k e ea x r)
 have nr:∀ p ∈ (c.bQ i a).pin,p.1 ∉ cs:=λp hm=>by
  rcases Wh.mp hm with z | z
  ·subst z; exact hi
  ·exact hp p z
 have w:=vx (c:=c.bQ i a) (wi:=tI (c.bQ i a) (itAt (δ.set i none) ds)) (gt:=gt) (tt:=tt) (te:=te) (λ_ _ _ h=>h) (hg a) (ht a) (he a) nr h';obtain⟨δ1,k1,q1⟩:=w;unfold itAt at q1;split at q1
 ·rename_i e1;subst e1;exact⟨.ref a,ea,.inl ⟨a,rfl,⟨vs,.inl (.inl hv)⟩,q1 _ H (.refl k1) io⟩⟩
 ·exact q1.elim
theorem Mg(hc:X.calm=true)(S:kP X scope cs)(hv:PE X iter (cY i))(hg:∀ a l s₀ H₀ ex,nu (dI X scope s₀ H₀ ex) ((c.bQ i a).plus l) cs tg g)(ht:∀ a l s₀ H₀ ex,rY (dI X scope s₀ H₀ ex) ((c.bQ i a).plus l) ifs t)
  (he:∀ a l s₀ H₀ ex,SE (dI X scope s₀ H₀ ex) ((c.bQ i a).plus l) elt el) (hp:∀ p ∈ c.pin,p.1 ∉ cs) (hi:i ∉ cs) (hs:∀ x,QF iter X.env x=pure x:=by intro _; rfl) :
  SE X c (.ListComp elt [⟨tg,iter,ifs,0⟩] scope pos) (nF cs i g t el) :=
 PE.weak (Bl (g:=λv σ H Q=>∃ a l,nt cs ((c.bQ i a).plus l) g v σ H Q) (tt:=λσ H Q=>∃ a l,tT ((c.bQ i a).plus l) t σ H Q) (te:=λσ H Q=>∃ a l,tD ((c.bQ i a).plus l) el σ H Q) hc S (Cz hv)
  (λs₀ H₀ ex pins s σ H v u Q I r ⟨a,l,q⟩=>hg a l s₀ H₀ ex pins s σ H v u Q I r q) (λs₀ H₀ ex pins s σ H Q I ⟨a,l,q⟩=>ht a l s₀ H₀ ex pins s σ H Q I q) (λs₀ H₀ ex pins s σ H Q I ⟨a,l,q⟩=>he a l s₀ H₀ ex pins s σ H Q I q) hs)
  λσ H Q h=>Mf (λa l _ _ _ _ h=>⟨a,l,h⟩) (λa l _ _ _ h=>⟨a,l,h⟩) (λa l _ _ _ h=>⟨a,l,h⟩) hp hi h
end
section
variable {X:Cx} {c:Fc} {e:Expr} {fe:DE} {pos pos':Pos}
end
section
variable {X:Cx} {c:Fc} {pp pos:Pos}
end
section
variable {c:Fc} {σ:St} {δ:Dl} {H:Hp} {a:Addr} {d:D}
end
section
variable {X:Cx} {c:Fc} {e:Expr} {es:List Expr} {as:List Ak} {f0:DE} {k n:Nat} {x:Str} {G:DF} {pp pos:Pos}
end
section
variable {X:Cx} {c:Fc} {e:Expr} {fe:DE} {pos:Pos}
theorem Ok.CY(k:Ok c σ δ H)(e:δ[i]? = some (some (.own (.aB ds))))(ea:σ[i]? = some (some (.ref a)))(r:DR H (Av c σ δ) gE bN) :
  ay c σ δ H σ (δ.set i (some (.own (.aB bN)))) (upd H a (.dK gE)):=by
 have hi:i < δ.length:=(We.mp e).1;obtain⟨a',cI,oa,ia,nb⟩:=k.own i _ e;rw[ea] at cI; cases cI
 obtain⟨vs,ha,_⟩:=oa;have pB:Own σ δ a:=⟨i,_,e,ea⟩
 have vp:Av c σ δ a:=.inr pB;have pC:∀ b,Own σ (δ.set i (some (.own (.aB bN)))) b ↔ Own σ δ b:=λb=>by
  constructor
  ·rintro ⟨j,d,e1,e2⟩;by_cases hj:i=j
   ·subst hj;exact⟨i,_,e,e2⟩
   ·rw[W7 hj] at e1;exact⟨j,d,e1,e2⟩
  ·rintro ⟨j,d,e1,e2⟩;by_cases hj:i=j
   ·subst hj;exact⟨i,_,by rw[Wk hi],e2⟩
   ·exact⟨j,d,by rw[W7 hj]; exact e1,e2⟩
 have l7:∀ b,Av c σ (δ.set i (some (.own (.aB bN)))) b->Av c σ δ b:=λb z=>z.elim .inl λz=>.inr ((pC b).mp z)
 have ne:∀ b,¬ Av c σ δ b->b≠a:=λb n z=>n (by rw[z]; exact vp)
 have kp:∀ b o,H b=some o->¬ Av c σ δ b->upd H a (.dK gE) b=some o:=λb o h n=>by rw[aQ (ne b n)]; exact h
 have jw:∀ b o,H b=some o->∃ o',upd H a (.dK gE) b=some o':=λb o h=>by
  by_cases hb:b=a
  ·exact⟨_,by rw[hb]; exact b7⟩
  ·exact⟨o,by rw[aQ hb]; exact h⟩
 refine⟨⟨λb o h n=>?_,λb z=>?_,λb z=>?_,by rw[Qj]; exact k.len,λj d h=>?_,λj d h=>?_,λj l b d d' h1 h2 h3 h4=>?_,k.pinned⟩,λb o h n=>?_,λb z=>.inl ((pC b).mp z),jw⟩
 ·have hb:b≠a:=λz=>by
   subst z;rcases ia with z | z
   ·exact n z
   ·rw[z] at h; cases h
  rw[aQ hb];exact k.keep b o h n
 ·obtain⟨o,h⟩:=k.bd b z;exact jw b o h
 ·obtain⟨o,h⟩:=k.cw b z;exact jw b o h
 ·have hj:i≠j:=λz=>by subst z; rw[Wk hi] at h; cases h
  rw[W7 hj] at h;obtain⟨v,h1,h2⟩:=k.slot j d h;exact⟨v,h1,(h2.keep kp).aJ λb z=>.inl (l7 b z)⟩
 ·by_cases hj:i=j
  ·subst hj;rw[Wk hi] at h
   cases h;exact⟨a,ea,(let r':=r.map λv d h=>(Rep.keep h kp).aJ λb z=>.inl (l7 b z); ⟨gE,b7,r'.keys,r'.vals⟩),ia,nb⟩
  ·rw[W7 hj] at h;obtain⟨b,h1,h2,h3,h4⟩:=k.own j d h;have hb:b≠a:=λz=>by subst z; exact hj (k.inj i j b _ d e h ea h1)
   exact⟨b,h1,(h2.keep kp λo q=>by rw[aQ hb]; exact q).aJ λb z=>.inl (l7 b z),h3,h4⟩
 ·have f1:∃ d,δ[j]? = some (some (.own d)):=by
   by_cases hj:i=j
   ·subst hj; exact⟨_,e⟩
   ·rw[W7 hj] at h1; exact⟨d,h1⟩
  have f2:∃ d,δ[l]? = some (some (.own d)):=by
   by_cases hj:i=l
   ·subst hj; exact⟨_,e⟩
   ·rw[W7 hj] at h2; exact⟨d',h2⟩
  obtain⟨_,f1⟩:=f1;obtain⟨_,f2⟩:=f2;exact k.inj j l b _ _ f1 f2 h3 h4
 ·have hb:b≠a:=λz=>n (by rw[z]; exact pB)
  rw[aQ hb]; exact h
def jC(δ:Dl)(i:Nat):Bool:=match δ[i]? with
 | some (some (.own (.aB _)))=>true
 | _=>false
def gv(i:Nat)(fi fe:DE):DS:=λδ=>if jC δ i then(fe δ).bind λr δ1=>if jC δ1 i then(fi δ1).bind λk δ2=>match δ2[i]? with
  | some (some (.own (.aB ds)))=>match bP k.d with
   | some kk=>if ds.length < Wa then .ok .next (δ2.set i (some (.own (.aB (putD ds kk r.d))))) else .stuck
   | none=>.stuck
  | _=>.stuck else .stuck else .stuck
theorem CZ(h:jC δ i=true):∃ ds,δ[i]? = some (some (.own (.aB ds))):=by
 unfold jC at h;split at h
 ·rename_i ds e; exact⟨ds,e⟩
 ·cases h
theorem v7{i:Nat}{o ix:Expr}{fi:DE}{sp:Pos}(hu:X.A.units + 64 < Qi)(ho:PE X o (cY i))(hi:SE X c ix fi)(he:SE X c e fe)
  (hs:QO e (some (.Subscript o ix sp)) pos.line X.env=pure false:=by rfl):SS X c (.Assign [.Subscript o ix sp] e pos) (gv i fi fe) :=
 PS.weak (HM (by omega) ho hi he hs) λD σ H ⟨δ,k,q⟩=>by
  unfold gv cW at q;split at q
  case isFalse=>exact q.elim
  rename_i hown;rw[aX] at q;refine⟨δ,k,aL q λr δ1 q1 v H1 a1 r1=>?_⟩;split at q1
  case isFalse=>exact q1.elim
  rename_i hown1;obtain⟨ds1,e1⟩:=CZ hown1;obtain⟨a,ea,_,_⟩:=a1.ok.own i _ e1;refine⟨.ref a,ea,δ1,a1.ok,?_⟩;rw[aX] at q1;refine aL q1 λkx δ2 q2 u H2 a2 r2=>?_
  split at q2
  ·rename_i ds e2;split at q2
   ·rename_i kk hk;split at q2
    ·rename_i hz;obtain⟨a',cI,oa,_⟩:=a2.ok.own i _ e2;rw[ea] at cI; cases cI
     obtain⟨ws,ha,hk1,hk2⟩:=id oa;have dr:DR H2 (Av c σ δ2) ws ds:=DR.of hk1 hk2;have oW:=nC hk r2.b;subst oW;have hlen:ws.length=ds.length:=by have:=congrArg Js hk1; simpa using this
     have rv:Rep H2 (Av c σ δ2) v r.d:=Rep.dA r1.rep a2;refine⟨a,_,rfl,oK.k ha (by rw[hlen]; exact hz),?_⟩;exact q2 σ _ (a1.trans (a2.trans (Ok.CY a2.ok e2 ea (dr.put rv))))
    ·exact q2.elim
   ·exact q2.elim
  ·exact q2.elim
end
section
variable {X:Cx} {c:Fc} {o e f:Expr} {fe ff:DE} {i:Nat} {apos aU:Pos}
def pP(δ:Dl)(i:Nat):Bool:=match δ[i]? with
 | some (some s)=>match s.d with
  | .aB _=>true
  | _=>false
 | _=>false
theorem Mh(k:Ok c σ δ H)(h:pP δ i=true):∃ a ws ds s,δ[i]? = some (some s)/\s.d = .aB ds/\σ[i]? = some (some (.ref a))/\H a=some (.dK ws)/\DR H (Av c σ δ) ws ds:=by
 unfold pP at h;split at h
 ·rename_i s e;split at h
  ·rename_i ds hs;obtain⟨v,ev⟩:=m_ k e;have rb:=vj k e ev;rw[hs] at rb;obtain⟨a,ws,rfl,ha,dr⟩:=sA rb;exact⟨a,ws,ds,s,e,hs,ev,ha,dr⟩
  ·cases h
 ·cases h
def k_(i:Nat)(fe:DE):DE:=λδ=>if pP δ i then(fe δ).bind λk δ1=>match δ1[i]? with
  | some (some s)=>match s.d,bP k.d with
   | .aB ds,some kk=>.ok (.pure ((bA ds kk).getD .aq)) δ1
   | _,_=>.stuck
  | _=>.stuck else .stuck
theorem C0 (hu:X.A.units + 64 < Qi) (ho:PE X o (cY i)) (he:SE X c e fe) (hb:Qq o "get" X.env (eval o X.env)=eval o X.env:=by rfl)
  (hf:((WN aU (W5 [e] X.env)).all (λx=>!x.1) && (JE aU (J4 [] X.env)).all (λx=>x.1.isSome)
   && decide (([e]:List Expr).length + ([]:List Keyword).length + (if ([]:List Keyword).isEmpty then 0 else 1) < 30))=true:=by rfl) (hl:(apos.endLine == aU.line)=true:=by rfl)
  (ht:WN aU (W5 [e] X.env)=[(false,eval e X.env)]:=by rfl):SE X c (.Call (.Attribute o "get" apos) [e] [] aU) (k_ i fe) :=
 PE.weak (HY (by omega) ho he ⟨hb,hf,hl,ht⟩) λσ H Q ⟨δ,k,q⟩=>by
  unfold k_ at q;split at q
  case isFalse=>exact q.elim
  rename_i hd;obtain⟨a,ws,ds,s,e1,e2,e3,e4,_⟩:=Mh k hd;rw[aX] at q;refine⟨.ref a,e3,a,rfl,.inl ⟨ws,.inl e4⟩,δ,k,aL q λkx δ1 q1 v H1 a1 r1=>?_⟩;split at q1
  ·rename_i s1 es1;split at q1
   ·rename_i ds1 kk hs1 hk;have rb:=vj a1.ok es1 e3;rw[hs1] at rb;obtain⟨a',ws1,ea,ha1,dr1⟩:=sA rb
    cases ea;have hv:=nC hk r1.b;subst hv;refine⟨_,.inl ⟨ws1,_,.inl ha1,rfl,rfl⟩,?_⟩;rcases dr1.val kk with ⟨z1,z2⟩ | ⟨v,d,z1,z2,z3⟩
    ·rw[z1] at q1; rw[z2]
     exact q1 _ H1 a1 .aq
    ·rw[z1] at q1; rw[z2]
     exact q1 _ H1 a1 z3
   ·exact q1.elim
  ·exact q1.elim
end
def nG:Int:=2 ^ 1000
def C1(_ j:Int):Prop:=0 < j/\j < nG
theorem Mi(h0:0 < j)(h1:j < nG):j.natAbs.log2 < 9000:=by
 have e:j.natAbs < 2 ^ 1000:=by
  unfold nG at h1;have:((2 ^ 1000:Nat):Int)=(2:Int) ^ 1000:=by exact_mod_cast rfl
  omega
 have:=(Nat.log2_lt (by omega:j.natAbs≠0)).mpr e;omega
section
variable {X:Cx}
theorem Mj:bD X (Qh .FloorDiv) (rI C1 λi j=>.int (i / j)):=oF λi j _ _ _ _ _ hc q=>by
 have h1:(0:Int) < j:=hc.1;exact floordiv_int (by omega) (by rw[Int.fdiv_eq_ediv_of_nonneg i (by omega)]; exact q) (.inl (PyProof.noPylong_of_log2 (Mi h1 hc.2)))
end
def pQ(_ j:Int):Bool:=decide (0 < j) && decide (j < nG)
def v8:=dY pQ λi j=>.int (i / j)
theorem Ml:cG (rI C1 λi j=>V.int (i / j)) v8:=oZ (λi j h=>by
 unfold pQ at h;simp only[Ws,decide_eq_true_eq] at h;exact h) λ_ _ _ _=>.int _
theorem Mm(i j:Int)(h0:0 < j)(h1:j < nG):v8 (.int i) (.int j)=some (.pure (.int (i / j))):=by
 show(if pQ i j then some (S.pure (.int (i / j))) else none)=_;have:pQ i j=true:=by unfold pQ; simp only[h0,h1,decide_true,Bool.and_self]
 rw[this]; rfl
end DV
namespace L2
open PySem PySem.Spec PyProof.Rows
theorem Mn{P:Wg}{w:Wm}{K:W1}{tg:Expr}(it:Addr)(lo:Int)(n:Nat):Turn P w K tg (lN lo n) [it] it (λi h=>IsLongIter h it (lo + (i:Nat) * 1) ((n:Int) - (i:Nat)) 1) where
 mem:=by simp
 obj:=λi h st b hb=>by
  have e:b=it:=by simpa using hb
  subst e;exact⟨_,st,λv z=>by
   have z':Data.fields _=Data.cell v:=z
   cases z'⟩
 keep:=λi h h' st k=>k it (by simp) _ st
 item:=by
  intro X hP hw hK hc i pins s σ H E I hf st hg;subst hP hw hK;obtain⟨f0,f1,f2,f3,f4,f5⟩:=hf it (by simp);have W:=Walks.longrange (prog:=X.prog) (w:=X.w) (I.ok.hd hc) it lo 1 n;refine W.item i s _ _ hg st λv h' tk hv dw kk=>?_
  obtain⟨t,rfl⟩:=hv;have I1:Inv X pins σ H { s with heap:=h',toks:=tk }:=I.turned (λb o hb e=>kk b o (by simpa using hb) e) f0 f1 f3 f4 f5;refine⟨_,rfl,oB (s:={ s with heap:=h',toks:=tk }) (n:="longrange_iterator") dw rfl rfl (by decide) ⟨.int (lo + i),H,I1,⟨t,?_⟩,⟨rfl,rfl⟩,dw,λb hb=>(hf b hb).1⟩⟩;rw[Int.mul_one]
 done:=by
  intro X hP hw hK hc i pins s σ H E I hf st hg;subst hP hw hK;obtain⟨f0,f1,f2,f3,f4,f5⟩:=hf it (by simp);exact wpAny_pyNext_long_end (I.ok.hd hc) st (by have:n<=i:=hg; omega) λh' eb=>⟨rfl,I.turned (t':=s.toks) (λb o hb e=>eb b o hb e) f0 f1 f3 f4 f5⟩
 self:=λ_ _ _ _ _ st h=>wpAny_pyIter_longiter st h
section
variable {X:Cx} {tg:Expr}
theorem Mo{pins:List (Addr×Obj)}{σ:St}{H:Hp}{s:W2}{R:It->Hp->Prop}{E:Value->W2->Prop}{lo hi:Int}{t u v:Tok}{tk:Nat}(I:Inv X pins σ H s)
  (q:R (lN lo (hi - lo).toNat) H):W6 (model X.prog X.w) X.A (pyIter (.ref s.heap.objs.size)) (t4 X pins σ tg R) E { s with heap:=s.heap.push { cls:=.type "range",data:=.fields #[.int lo t,.int hi u,.int 1 v] },toks:=tk }:=by
 have e1:lo + ((0:Nat):Int) * 1=lo:=by simp
 have e2:(((hi - lo).toNat:Nat):Int) - ((0:Nat):Int)=Builtin.Range.rangeSize lo hi 1:=by rw[rangeSize_one]; split <;> omega
 have I1:Inv X pins σ H { s with heap:=s.heap.push { cls:=.type "range",data:=.fields #[.int lo t,.int hi u,.int 1 v] },toks:=tk }:=I.kept λb o e=>W3 _ e
 have fp:∀ (o':Obj) (b:Addr),b ∈ [(s.heap.push { cls:=.type "range",data:=.fields #[.int lo t,.int hi u,.int 1 v] }).objs.size]->fE X pins H b:=λ_ b hb=>by
  have e:b=(s.heap.push { cls:=.type "range",data:=.fields #[.int lo t,.int hi u,.int 1 v] }).objs.size:=by simpa using hb
  subst e;exact I1.jj (Wb _) (I1.ag.fresh (Wb _))
 by_cases hsm:Builtin.Range.small lo hi 1=true
 ·refine wpAny_pyIter_range (IsRange.new ..) hsm ?_;refine⟨(s.heap.push { cls:=.type "range",data:=.fields #[.int lo t,.int hi u,.int 1 v] }).objs.size,[(s.heap.push { cls:=.type "range",data:=.fields #[.int lo t,.int hi u,.int 1 v] }).objs.size],_,_,H,rfl,
   I1.kept (t':=tk) λb o e=>W3 _ e,z_ _ lo (hi - lo).toNat,?_,fp ⟨.type "range",none,.fields #[],#[]⟩,q⟩
  show IsRangeIter _ _ (lo + ((0:Nat):Int) * 1) ((((hi - lo).toNat:Nat):Int) - ((0:Nat):Int)) 1;rw[e1,e2];exact Wi _ rfl
 ·refine wpAny_pyIter_longrange (IsRange.new ..) (by simpa using hsm) ?_;refine⟨(s.heap.push { cls:=.type "range",data:=.fields #[.int lo t,.int hi u,.int 1 v] }).objs.size,[(s.heap.push { cls:=.type "range",data:=.fields #[.int lo t,.int hi u,.int 1 v] }).objs.size],_,_,H,rfl,
   I1.kept (t':=tk) λb o e=>W3 _ e,Mn _ lo (hi - lo).toNat,?_,fp ⟨.type "range",none,.fields #[],#[]⟩,q⟩
  show IsLongIter _ _ (lo + ((0:Nat):Int) * 1) ((((hi - lo).toNat:Nat):Int) - ((0:Nat):Int)) 1;rw[e1,e2];exact Wi _ rfl
def Mp(ta:TA):TI:=λσ H R=>ta σ H λvs H1=>∃ i j:Int,vs=[.int i,.int j]/\R (lN i (j - i).toNat) H1
theorem Mq (hg:Gl X "range") (hm:X.mg "range" = none) (ha:PA X [a,b] ta) (hs:W5 [a,b] X.env=[(false,eval a X.env),(false,eval b X.env)]:=by rfl) (jt:W5 [b] X.env=[(false,eval b X.env)]:=by rfl) :
  PI X tg (.Call (.Name "range" p) [a,b] [] pos) (Mp ta):=by
 intro pins s σ H R I h;refine Call_ (mK I hg hm boot_range (QP (aH (ha pos pins s σ H _ I h) λus s1 ⟨vs,H1,I1,r1,q1⟩=>?_) (by rw[hs,jt]) (by rw[jt]; rfl)));obtain⟨i,j,e,q⟩:=q1;subst e
 cases r1 with
 | cons r rr =>
  cases rr with
  | cons r' rr =>
   cases rr;obtain⟨t,rfl⟩:=r;obtain⟨t',rfl⟩:=r';exact call_range_2 (Mo I1 q)
end
end L2
namespace DV
open PySem PySem.Spec PyProof.Rows L2
variable {X:Cx} {c:Fc} {tg e:Expr} {fe:DE} {pp pos:Pos}
def pR(f g:DE):DI:=λδ=>(f δ).bind λr δ1=>(g δ1).bind λs δ2=>match r,s with
 | .pure (.int i),.pure (.int j)=>.ok (b_ i (j - i).toNat) δ2
 | _,_=>.stuck
theorem Mr {e2:Expr} {C2:DE} (hg:Gl X "range") (hm:X.mg "range" = none) (he:SE X c e fe) (pL:SE X c e2 C2) (hs:W5 [e,e2] X.env=[(false,eval e X.env),(false,eval e2 X.env)]:=by rfl) (jt:W5 [e2] X.env=[(false,eval e2 X.env)]:=by rfl)
  (uK:W5 [e,e2] X.env=(false,eval e X.env) :: W5 [e2] X.env:=by rfl):SI X c tg (.Call (.Name "range" pp) [e,e2] [] pos) (pR fe C2) :=
 PI.weak (Mq hg hm (df he (df pL eU jt) uK) hs jt) λσ H R ⟨δ,k,q⟩=>by
  unfold pR at q;rw[aX] at q;refine⟨δ,k,aL q λr δ1 q1 v H1 a1 r1=>⟨δ1,a1.ok,?_⟩⟩;rw[aX] at q1;refine aL q1 λr2 δ2 q2 v2 H2 a2 Ms=>?_
  cases r with
  | own d=>exact q2.elim
  | pure d =>
   cases d <;> first | exact q2.elim | skip
   rename_i i
   cases r1
   cases r2 with
   | own d=>exact q2.elim
   | pure d =>
    cases d <;> first | exact q2.elim | skip
    rename_i j
    cases Ms;exact⟨i,j,rfl,q2 _ H2 (a1.trans a2) (B5 i (j - i).toNat)⟩
section
variable {X:Cx}
end
theorem oO:∀ {ns:List Int} {us:List Value},Vals (ns.map V.int) us->∃ ys:List (Int×Tok),us=(ys.map λp=>Value.int p.1 p.2)/\ns=ys.map (·.1)
 | [],us,r=>by cases r; exact⟨[],rfl,rfl⟩
 | n :: ns,us,r=>by
  cases r with
  | cons r1 r2 =>
   obtain⟨ys,e1,e2⟩:=oO r2;obtain⟨t,rfl⟩:=r1;exact⟨(n,t) :: ys,by rw[e1]; rfl,by rw[e2]; rfl⟩
section
variable {X:Cx}
end
def jD:List D->Option (List Int)
 | []=>some []
 | .int i :: r=>(jD r).map (i :: ·)
 | _ :: _=>none
theorem ints_map(ns:List Int):jD (ns.map D.int)=some ns:=by
 induction ns with
 | nil=>rfl
 | cons n r ih=>simp[jD,ih]
section
variable {X:Cx} {c:Fc} {e:Expr} {fb:BE} {pos pp:Pos}
end
end DV
namespace L2
open PySem PySem.Spec PyProof.Rows
section
variable {prog:Wg} {w:Wm} {A:Wl} {E:Value->W2->Prop} {s:W2}
end
section
variable {X:Cx} {pos:Pos}
end
end L2
namespace DV
open PySem PySem.Spec PyProof.Rows L2
section
variable {X:Cx} {c:Fc} {pos:Pos}
end
open PySem PySem.Builtin PySem.Builtin.Str PySem.StrLaws
section
variable {X:Cx}
end
section
variable {X:Cx} {c:Fc} {e:Expr} {fb:BE}
end
end DV
set_option maxHeartbeats 1000000
namespace PySem
open Sem (wp)
open AutoSeq1 (wpAny_loadPart')
section
variable {prog:Wg} {w:Wm} {A:Wl} {E:Value->W2->Prop} {s:W2}
end
end PySem
namespace PyProof.Rows
open PySem
section
variable {M:Model} {A:Wl} {E:Value->W2->Prop} {s:W2} {env:Env}
end
end PyProof.Rows
set_option maxHeartbeats 400000
namespace L2
open PySem PySem.Spec PyProof.Rows
end L2
namespace DV
open PySem PySem.Spec PyProof.Rows L2
section
variable {X:Cx} {c:Fc} {tg e:Expr} {fe:DE} {pos pp:Pos}
end
end DV
namespace L2
open PySem PySem.Spec PyProof.Rows
def ik(h:Heap)(a C T:Addr)(dx:Option Addr)(fl:Value):Prop :=
 ∃ vs sl oT ts a0,h.get? a=some ⟨.ref C,dx,.fields vs,sl⟩/\vs[0]? = some a0/\vs[1]? = some (.ref T)/\T≠a/\h.get? T=some oT/\oT.data = .fields ts/\ts[3]? = some fl
structure v9(h h':Heap)(fs:List Addr)(a T:Addr)(old:Value):Prop where
 new:h.get? T=none
 keep:∀ b o,h.get? b=some o->b≠a->old≠.ref b->b ∉ fs->h'.get? b=some o
 frame:∀ b o,h.get? b=some o->(∀ vs,o.data≠.fields vs)->∃ sl,h'.get? b=some { o with slots:=sl }
section
variable {M:Model} {A:Wl} {E:Value->W2->Prop} {s:W2}
theorem C3
  (dz:A.frames=some (env :: outer)) (hl:s.heap.FunFrames base (env :: outer)) (hf:env.frame=some L)
  (he:s.heap.get? a=some ⟨.ref C,dx,.fields vs,sl⟩) (h0:vs[0]? = some a0) (h1:1 < vs.size)
  (q:∀ h' T,ik h' a C T dx (WY L)->v9 s.heap h' ((env :: outer).filterMap (·.frame)) a T .none->Q () { s with heap:=h' }) :
  W6 M A (do let x <- frameOf env; let pl <- entryPlaceOf L b0; let y <- EntryCells.newEntry head x .none (WY L) .none pl; setField (.ref a) 1 y) Q E s:=by
 have na:a ∉ (env :: outer).filterMap (·.frame):=λz=>by
  obtain⟨_,o,g1,g2⟩:=hl.mem z;rw[he] at g1
  cases g1;exact g2 vs rfl
 refine W0 (wpAny_frameOf_fun dz hl hf λhA k=>W0 (wpAny_entryPlaceOf λpl bx=>?_));unfold EntryCells.newEntry newFields;refine W0 (WL ?_ (bx.sizeOk5 _ _ _ _ _));have eA:hA.get? a=some ⟨.ref C,dx,.fields vs,sl⟩:=(k.2.1 a na).trans he;generalize la:([head,.ref L,.none,WY L,.none] ++ (if pl.isEmpty then W8 6 Value.none else pl)).toArray=ts;have t3:ts[3]? = some (WY L):=by
  rw[<- la];rcases bx with rfl | ⟨_,_,_,_,_,_,_,rfl⟩ <;> simp
 have eB:=W3 (h:=hA) { cls:=.type "traceback",dict:=none,data:=.fields ts } eA;have nT:hA.objs.size≠a:=QD (Wf eA);refine Qs eB rfl h1 (q _ hA.objs.size ⟨vs.setIfInBounds 1 (.ref hA.objs.size),sl,{ cls:=.type "traceback",dict:=none,data:=.fields ts },ts,a0,?_,?_,?_,nT,?_,rfl,t3⟩ ⟨?_,λb o e n _ nf=>?_,λb o e d=>?_⟩)
 ·exact(Wz _ eB rfl)
 ·rw[Array.getElem?_setIfInBounds_ne (by decide)]; exact h0
 ·simp[h1]
 ·rw[WD _ _ (Ne.symm nT)]; exact Wi hA rfl
 ·cases z:s.heap.get? hA.objs.size with
  | none=>rfl
  | some o =>
   obtain⟨sl',z'⟩:=k.2.2 _ o z;exact absurd (Wf z') (Q3 _)
 ·rw[WD _ _ (Ne.symm n)];exact W3 _ ((k.2.1 b nf).trans e)
 ·have nb:b≠a:=λz=>by
   rw[z,he] at e
   cases e;exact d vs rfl
  obtain⟨sl',z⟩:=k.2.2 b o e;exact⟨sl',by rw[WD _ _ (Ne.symm nb)]; exact W3 _ z⟩
theorem Mt
  (dz:A.frames=some (env :: outer)) (hl:s.heap.FunFrames base (env :: outer)) (hf:env.frame=some L)
  (he:s.heap.get? a=some ⟨.ref C,dx,.fields vs,sl⟩) (h0:vs[0]? = some a0) (h1:vs[1]? = some .none)
  (q:∀ h' T,ik h' a C T dx (WY L)->v9 s.heap h' ((env :: outer).filterMap (·.frame)) a T .none->Q () { s with heap:=h' }):W6 M A (JG (.ref a) env) Q E s:=by
 unfold JG;simp only[hf];refine W0 (Qr he rfl h1 ?_);rw[if_neg (by decide)];exact C3 dz hl hf he h0 (QV.mp h1).1 q
theorem Mu
  (dz:A.frames=some (env :: outer)) (hl:s.heap.FunFrames base (env :: outer)) (hf:env.frame=some L) (hx:ik s.heap a C T₀ dx .none)
  (q:∀ h' T,ik h' a C T dx (WY L)->v9 s.heap h' ((env :: outer).filterMap (·.frame)) a T (.ref T₀)->Q () { s with heap:=h' }):W6 M A (JG (.ref a) env) Q E s:=by
 obtain⟨vs,sl,oT,ts,a0,e1,e2,e3,e4,e5,e6,e7⟩:=hx;unfold JG;simp only[hf];refine W0 (Qr e1 rfl e3 ?_);rw[if_pos (by simp)];refine W0 (Qr e5 e6 e7 ?_);rw[if_neg (by simp[WY])];refine W0 (Qs e5 e6 (QV.mp e7).1 ?_);have lg:∀ b,b≠T₀->(s.heap.update T₀ (Obj.mapFields (·.setIfInBounds 3 Value.none))).get? b=s.heap.get? b:=λb n=>WD _ _ (Ne.symm n)
 have C4:∀ b o,s.heap.get? b=some o->(∀ us,o.data≠.fields us)->b≠T₀:=λb o e d z=>by
  rw[z,e5] at e
  cases e;exact d ts e6
 refine C3 (s:={ s with heap:=s.heap.update T₀ (Obj.mapFields (·.setIfInBounds 3 Value.none)) }) dz (hl.of_keeps λb o e d=>⟨o,(lg b (C4 b o e d)).trans e,rfl⟩) hf ((lg a (Ne.symm e4)).trans e1) e2 (QV.mp e3).1 λh' T f n=>q h' T f ⟨?_,λb o e n1 n2 n3=>?_,λb o e d=>n.frame b o ((lg b (C4 b o e d)).trans e) d⟩
 ·have:=n.new;by_cases z:T=T₀
  ·exfalso
   rw[z] at this;have g:=Wz (h:=s.heap) (Obj.mapFields (·.setIfInBounds 3 Value.none)) e5 (Obj.isFreed_of_fields (Obj.data_mapFields e6 _));rw[this] at g
   cases g
  ·exact(lg T z).symm.trans this
 ·exact n.keep b o ((lg b λz=>n2 (by rw[z])).trans e) n1 (by simp) n3
theorem Mv{env:Env}{L a C T:Addr}{dx:Option Addr}{Q:Unit->W2->Prop}(hf:env.frame=some L)(hx:ik s.heap a C T dx (WY L))(q:Q () s):W6 M A (JG (.ref a) env) Q E s:=by
 obtain⟨vs,sl,oT,ts,a0,e1,e2,e3,e4,e5,e6,e7⟩:=hx;unfold JG;simp only[hf];refine W0 (Qr e1 rfl e3 ?_);rw[if_pos (by simp)];refine W0 (Qr e5 e6 e7 ?_);rw[if_pos (by simp)];exact W4 q
theorem Mw(hx:ik s.heap a C T dx fl)
  (q:∀ h',ik h' a C T dx (o.elim .none λf=>WY f)->(∀ b,b≠T->h'.get? b=s.heap.get? b)->Q () { s with heap:=h' }):W6 M A (setFlight (.ref a) o) Q E s:=by
 obtain⟨vs,sl,oT,ts,a0,e1,e2,e3,e4,e5,e6,e7⟩:=hx;have hi:=(QV.mp e7).1;have lg:∀ b,b≠T->(s.heap.update T (Obj.mapFields (·.setIfInBounds 3 (o.elim Value.none λf=>WY f)))).get? b=s.heap.get? b:=λb n=>WD _ _ (Ne.symm n)
 unfold setFlight;refine W0 (Qr e1 rfl e3 ?_);rw[if_pos (by simp)];exact Qs e5 e6 hi (q _ ⟨vs,sl,_,_,a0,(lg a (Ne.symm e4)).trans e1,e2,e3,e4,Wz _ e5 (Obj.isFreed_of_fields (Obj.data_mapFields e6 _)),Obj.data_mapFields e6 _,by simp[hi]⟩ lg)
end
abbrev jE:List Value:=[.type "ValueError",.type "Exception",.type "BaseException",.type "object"]
def mm (K:W1) (C:Addr):Prop:=PySem.W.excIn K C jE "ValueError.__new__" = true
theorem mm.obj{K:W1}{C:Addr}{h:Heap}(q:mm K C)(X:K.In h):∃ (bm:List Value) (N:Addr) (nm qn:Str) (bs:List Value) (gM:Bool) (sn:List Str) (sub:List Value) (ab:Bool) (col:Option Bool) (dd:Option Addr) (k0 k1 k2 k3 k5:Option Value) (mN:Str->Option Value),
  h.get? C=some (excClassObj nm qn C N bs bm gM sn sub ab col dd k0 k1 k2 k3 k5 "ValueError.__new__")/\h.Ns N mN/\mN "__init__" = none/\OwnTail h jE bm:=by
 unfold mm PySem.W.excIn at q;split at q;next dd cd sl lk =>
  split at q;next C' bm k0 k1 k2 k3 n k5 e1 e2 =>
   simp only[Ws,beq_iff_eq,JP] at q;obtain⟨⟨⟨⟨⟨c1,c2⟩,c3⟩,c4⟩,c5⟩,c6⟩:=q;subst c1; subst c2
   have e3:sl = #[k0,k1,k2,k3,some (.builtin "ValueError.__new__"),k5]:=by
    cases sl; simp only at e2; rw[e2]
   subst e3
   cases cd;simp only at e1 c3 c4 c5 c6 lk;subst e1; subst c3
   exact⟨bm,_,_,_,_,_,_,_,_,_,dd,k0,k1,k2,k3,k5,_,X _ _ lk,.of_isNs (PySem.W.isNs_of_in X c5),PySem.W.nsMap_none_of_in X c5 c6,PySem.W.tail_of_in X c4⟩
  next=>cases q
 next=>cases q
def fZ(P:Wg)(w:Wm):g8:=λouter H s E v s' =>
 ∃ (a C T:Addr) (dx:Option Addr) (H':Hp),v = .ref a/\s'.os=s.os/\AllBare s'.gens/\Un (dq outer) [] H H' s.heap s'.heap/\b8 P w H' s'.heap/\ik s'.heap a C T dx .none/\s.heap.get? a=none/\s.heap.get? T=none/\H' a=none/\H' T=none/\E (.ref C) dx H'
section
variable {X:Cx} {x:Str} {C:Addr} {np aU pos:Pos}
end
section
variable {X:Cx} {pins:List (Addr×Obj)} {σ:St} {H:Hp} {s:W2} {h':Heap}
theorem Inv.gone(I:Inv X pins σ H s)(hx:X.ex=[])(e:s.heap.get? b=none):H b=none/\X.s₀.heap.get? b=none:=by
 constructor
 ·cases q:H b with
  | none=>rfl
  | some o =>
   exfalso
   have:∃ u,s.heap.get? b=some u:=by
    have z:=I.ag b o q;clear q;induction o with
    | lst xs=>obtain⟨_,_,_,_,e⟩:=z; exact⟨_,e⟩
    | tup xs=>obtain⟨_,_,_,_,e⟩:=z; exact⟨_,e⟩
    | dK kvs=>obtain⟨_,_,_,_,_,_,_,e,_⟩:=z; exact⟨_,e⟩
    | dT kvs=>obtain⟨_,_,_,_,_,_,_,e,_⟩:=z; exact⟨_,e⟩
    | set S n=>obtain⟨_,_,_,_,e,_⟩:=z; exact⟨_,e⟩
    | ins C dx fs=>obtain⟨_,_,_,e,_⟩:=z; exact⟨_,e⟩
    | own y=>exact z
    | xd fs=>obtain⟨_,⟨_,_,_,e,_⟩,_⟩:=z; exact⟨_,e⟩
    | jg lo hi=>obtain⟨_,_,_,e⟩:=z; exact⟨_,e⟩
    | frz ob u ih=>exact⟨_,z.1⟩
    | tbl ps=>exact⟨_,z⟩
    | ctab pos q=>obtain⟨_,e,_⟩:=z; exact⟨_,e⟩
    | met f y=>exact⟨_,z⟩
    | ext φ=>exact z.2.1
   obtain⟨u,q⟩:=this;rw[e] at q; cases q
 ·cases q:X.s₀.heap.get? b with
  | none=>rfl
  | some o =>
   obtain⟨o',q'⟩:=I.base.there b o q (by rw[hx]; simp);rw[e] at q'; cases q'
end
structure Apart(X:Cx)(pins:List (Addr×Obj))(H:Hp)(b:Addr):Prop where
 old:X.s₀.heap.get? b=none
 free:H b=none
 loc:b≠X.env.locals
 jm:∀ x c,X.env.cells.lookup x=some c->c≠b
 pin:∀ p ∈ X.pn ++ pins,p.1≠b
section
variable {X:Cx} {pins:List (Addr×Obj)} {σ:St} {H:Hp} {s:W2} {h':Heap} {a T:Addr}
theorem Inv.lK(I:Inv X pins σ H s)(e:X.s₀.heap.get? b=some o):b≠X.env.locals:=Wq (Ww (Wf e) I.ok.above)
theorem Inv.v_(I:Inv X pins σ H s)(ha:Apart X pins H a)(hT:Apart X pins H T)(k1:∀ b o,s.heap.get? b=some o->b ∉ dq X.stack->b≠a->b≠T->h'.get? b=some o)
  (k2:∀ b o,s.heap.get? b=some o->b ∈ dq X.stack->∃ sl,h'.get? b=some { o with slots:=sl }):Inv X pins σ H { s with heap:=h' }:=by
 have any:∀ b o,s.heap.get? b=some o->b≠a->b≠T->∃ sl,h'.get? b=some { o with slots:=sl }:=λb o e n1 n2=>by
  by_cases hb:b ∈ dq X.stack
  ·exact k2 b o e hb
  ·exact⟨o.slots,k1 b o e hb n1 n2⟩
 have ne:∀ b o,X.s₀.heap.get? b=some o->b≠a/\b≠T:=λb o e=>⟨λz=>(by rw[z,ha.old] at e; cases e),λz=>(by rw[z,hT.old] at e; cases e)⟩
 have C5:∀ b,b≠X.env.locals->b ∉ X.fs->b ∉ dq X.stack:=λb n1 n2 z=>(Wh.mp (I.mJ b z)).elim n1 n2
 have cellK:∀ y c,X.env.cells.lookup y=some c->∀ v,s.heap.IsCell c v->h'.IsCell c v:=λy c e v ⟨o,ho,hd⟩=>by
  obtain⟨sl,q⟩:=any c o ho (ha.jm y c e) (hT.jm y c e);exact⟨_,q,hd⟩
 refine⟨I.ok,I.os,I.bare,⟨λb o e n hb hx=>?_,λb o e n hb hx=>?_,I.base.free,λb o e hx=>?_,I.base.gU,I.base.fN,I.base.gW⟩,?_,λy c e=>?_,I.free,I.du,λp hp=>?_,λb o e=>?_,I.len⟩
 ·exact k1 b o (I.base.keep b o e n hb hx) (C5 b (I.lK e) hb) (ne b o e).1 (ne b o e).2
 ·obtain⟨sl,q⟩:=I.base.slot b o e n hb hx;obtain⟨sl',q'⟩:=any b _ q (ne b o e).1 (ne b o e).2;exact⟨sl',q'⟩
 ·obtain⟨o',q⟩:=I.base.there b o e hx;obtain⟨sl',q'⟩:=any b _ q (ne b o e).1 (ne b o e).2;exact⟨_,q'⟩
 ·obtain⟨m,⟨o,es,ep,ho,hd,r⟩,hl⟩:=I.loc;obtain⟨sl,q⟩:=any _ o ho (λz=>ha.loc z.symm) (λz=>hT.loc z.symm);refine⟨m,⟨_,es,ep,q,hd,r⟩,λi y v e1 e2 e3=>?_⟩;obtain⟨u,ru,lk⟩:=hl i y v e1 e2 e3;refine⟨u,ru,lk.elim .inl λ⟨k,c,e,z⟩=>.inr ⟨k,c,e,cellK y c e _ z⟩⟩
 ·obtain⟨v,z⟩:=I.cell y c e;exact⟨v,cellK y c e v z⟩
 ·obtain⟨e,n,nl,nf,d⟩:=I.pin p hp;exact⟨k1 p.1 p.2 e (C5 _ nl nf) (ha.pin p hp) (hT.pin p hp),n,nl,nf,d⟩
 ·refine(I.ag b o e).jh (λc u hc q=>k1 c u q (λz=>?_) (λz=>?_) (λz=>?_)) (λ_ q=>q) (λ_ _ q=>q) λ_ _ _ q=>q
  ·have:=I.qz c z;rcases hc with rfl | hc
   ·rw[e] at this; cases this
   ·rw[hc] at this; cases this
  ·subst z;rcases hc with rfl | hc
   ·rw[ha.free] at e; cases e
   ·rw[ha.free] at hc; cases hc
  ·subst z;rcases hc with rfl | hc
   ·rw[hT.free] at e; cases e
   ·rw[hT.free] at hc; cases hc
theorem Inv.wa(I:Inv X pins σ H s)(ha:Apart X pins H a)(ob:bq X.prog X.w (upd H a o) s.heap a o):Inv X pins σ (upd H a o) s:=by
 have ne:∀ {b:Addr} {u:HO},H b=some u->b≠a:=λ{b u} e z=>by rw[z,ha.free] at e; cases e
 have up:∀ {b:Addr} {u:HO},H b=some u->upd H a o b=some u:=λ{b u} e=>by rw[aQ (ne e)]; exact e
 have no:∀ {b:Addr},b≠a->H b=none->upd H a o b=none:=λ{b} n e=>by rw[aQ n]; exact e
 refine⟨I.ok,I.os,I.bare,⟨I.base.keep,I.base.slot,λb u e n hx=>no (λz=>by rw[z,ha.old] at e; cases e) (I.base.free b u e n hx),I.base.there,λb xs e=>up (I.base.gU b xs e),λb u z e=>up (I.base.fN b u z e),λb ps e=>?_⟩,I.loc,I.cell,no (Ne.symm ha.loc) I.free,λx c e=>no (ha.jm x c e) (I.du x c e),λp hp=>?_,λb u e=>?_,I.len⟩
 ·obtain⟨m,q⟩:=I.base.gW b ps e;exact⟨m,up q⟩
 ·obtain⟨e,n,nl,nf,d⟩:=I.pin p hp;exact⟨e,no (ha.pin p hp) n,nl,nf,d⟩
 ·by_cases hb:b=a
  ·subst hb;rw[b7] at e
   cases e;exact ob
  ·rw[aQ hb] at e;exact(I.ag b u e).jh (λ_ _ _ q=>q) (λc q=>up q) (λc xs q=>up q) λ_ _ _ q=>up q
theorem Mx(I:Inv X pins σ H s)(hN:X.N.Nodup)(hi:X.N[i]? = some x)(hk:X.env.scope.names.lookup x=some .local)
  (h:∀ s',Inv X pins (σ.set i none) H s'->Q () s'):W6 M A (do bindName X.env x .none; unbindBehindTheSuite X.env x pos) Q E s:=by
 have oz:i < σ.length:=by rw[I.len]; exact(We.mp hi).1
 refine W0 (wpAny_bindName (qC (v:=.aq) (u:=.none) I hN hi (.inl hk) rfl (λs1 I1 _=>?_) (.inr hk)));obtain⟨m,hn,hl⟩:=id I1.loc;obtain⟨u,ru,lk⟩:=hl i x .aq hi (Wk oz) (.inl hk);have hv:m x=some u:=by
  rcases lk with ⟨_,e⟩ | ⟨z,_⟩
  ·exact e
  ·have:X.env.kindOf x=some .local:=hk;rw[this] at z;rcases z with z | z <;> cases z
 refine wpAny_onRaise (wpAny_unbindName_local hk hn hv (by rw[I.ok.kind]; rfl) λh' w' kF hs=>h _ ?_);obtain⟨oL,_,_,hoL,_⟩:=id hn;have gY:=I1.gY;refine⟨I1.ok,I1.os,I1.bare,⟨λb o e n hb hx=>?_,λb o e n hb hx=>?_,I1.base.free,λb o e hx=>?_,I1.base.gU,I1.base.fN,I1.base.gW⟩,⟨_,kF,λj y v' e1 e2 e3=>?_⟩,λy c e=>?_,I1.free,I1.du,λp hp=>?_,λb ob e=>?_,by simpa using I.len⟩
 ·exact(hs.2 b (I1.lK e)).trans (I1.base.keep b o e n hb hx)
 ·obtain⟨sl,q⟩:=I1.base.slot b o e n hb hx;exact⟨sl,(hs.2 b (I1.lK e)).trans q⟩
 ·obtain⟨o',q⟩:=I1.base.there b o e hx;exact⟨o',(hs.2 b (I1.lK e)).trans q⟩
 ·by_cases hj:j=i
  ·subst hj;rw[Wk oz] at e2
   cases e2
  ·rw[W7 (Ne.symm hj)] at e2;obtain⟨u',r',q⟩:=hl j y v' e1 (by rw[W7 (Ne.symm hj)]; exact e2) e3;have pS:y≠x:=λz=>hj (tV hN e1 (z ▸ hi))
   refine⟨u',r',?_⟩;rcases q with ⟨k,e⟩ | ⟨k,c,e,z⟩
   ·exact .inl ⟨k,by simp[pS,e]⟩
   ·exact .inr ⟨k,c,e,z.sameBut hs (gY y c e)⟩
 ·obtain⟨w2,z⟩:=I1.cell y c e;exact⟨w2,z.sameBut hs (gY y c e)⟩
 ·obtain⟨e,n,nl,nf,d⟩:=I1.pin p hp;exact⟨(hs.2 p.1 nl).trans e,n,nl,nf,d⟩
 ·refine(I1.ag b ob e).jh (λc u' hc q=>(hs.2 c λz=>?_).trans q) (λ_ q=>q) (λ_ _ q=>q) λ_ _ _ q=>q
  subst z;have:=I1.free;rcases hc with rfl | hc
  ·rw[e] at this; cases this
  ·rw[hc] at this; cases this
end
section
variable {prog:Wg} {w:Wm} {A:Wl} {E:Value->W2->Prop} {K:W1}
theorem My{C B e:Addr}{oe:Obj}{h:Heap}{g:Array GenState}{d:Drawn}{t:Nat}{os:OsState}{Q:Bool->W2->Prop}(X:K.In h)(qB:mm K B)(qm:PySem.W.mroIn K C (.ref B)=some true)(he:h.get? e=some oe)(hc:oe.cls = .ref C)
  (hq:Q true ⟨h,g,d,t,os⟩):W6 (model prog w) A (excMatches (.ref e) (.ref B)) Q E ⟨h,g,d,t,os⟩:=by
 obtain⟨bm,N,nm,qn,bs,gM,sn,sub,ab,col,dd,k0,k1,k2,k3,k5,mN,hB,_,_,hT⟩:=qB.obj X;have cB:(Value.ref B :: bm).contains (.type "BaseException")=true:=by rw[JI,hT.hasType (X:="BaseException") (b:=true) rfl,Bool.or_true]
 have lk:=PySem.W.looks_mroIn (M:=model prog w) X qm;have f:=tc_notTuple;unfold excMatches;repeat (first | with_reducible refine PySem.W.Looks.at lk ?_ | (with_reducible refine Qf he ?_; rw[hc]) | with_reducible refine Qf hB ?_ | (with_reducible refine wpAny_isSubtype_exc hB ?_; rw[cB]) | wp_step)
 exact hq
end
def Cx.wt(X:Cx)(pn:List (Addr×Obj))(xe:Value->W2->Prop):Cx:={ X with pn:=pn,xe:=xe }
def Cx.hand(X:Cx)(a:Addr):Cx:={ X with A:=X.A.mark (some (.ref a)),calm:=false,xe:=λ_ _=>False }
section
variable {X:Cx} {pins ps:List (Addr×Obj)} {σ:St} {H:Hp} {s:W2} {a:Addr} {xe:Value->W2->Prop} {pn:List (Addr×Obj)}
theorem Cx.Ok.wt(o:X.Ok):(X.wt pn xe).Ok:=⟨o.mod,o.kind,o.glob,o.blt,o.above,o.inj,o.has,o.jM,o.hd,o.frames,o.lH,o.lJ,o.bs,o.gc,o.kC,o.kD,o.eT,o.gX⟩
theorem Cx.Ok.hand(o:X.Ok):(X.hand a).Ok:=⟨o.mod,o.kind,o.glob,o.blt,o.above,o.inj,o.has,o.jM,λz=>(by cases z),o.frames,o.lH,o.lJ,o.bs,o.gc,o.kC,o.kD,o.eT,o.gX⟩
theorem Inv.wt(I:Inv X pins σ H s):Inv (X.wt (X.pn ++ pins) xe) [] σ H s:=⟨I.ok.wt,I.os,I.bare,I.base,I.loc,I.cell,I.free,I.du,λp hp=>I.pin p (by simpa[Cx.wt] using hp),I.ag,I.len⟩
theorem Inv.iX(o:X.Ok)(J:Inv (X.wt (X.pn ++ pins) xe) ps σ H s):Inv X pins σ H s:=⟨o,J.os,J.bare,J.base,J.loc,J.cell,J.free,J.du,λp hp=>J.pin p (QZ _ hp),J.ag,J.len⟩
theorem Inv.hand(I:Inv X pins σ H s):Inv (X.hand a) pins σ H s:=⟨I.ok.hand,I.os,I.bare,I.base,I.loc,I.cell,I.free,I.du,I.pin,I.ag,I.len⟩
theorem Inv.Mz(o:X.Ok)(J:Inv (X.hand a) pins σ H s):Inv X pins σ H s:=⟨o,J.os,J.bare,J.base,J.loc,J.cell,J.free,J.du,J.pin,J.ag,J.len⟩
theorem Apart.iX(h:Apart (X.wt (X.pn ++ pins) xe) ps H a):Apart X pins H a:=⟨h.old,h.free,h.loc,h.jm,λp hp=>h.pin p (QZ _ hp)⟩
theorem SP.iX(o:X.Ok)(h:SP (X.wt (X.pn ++ pins) xe) ps D f s):SP X pins D f s:=by
 cases f with
 | next=>obtain⟨σ',H',J,q⟩:=h; exact⟨σ',H',Inv.iX o J,q⟩
 | brk=>obtain⟨σ',H',J,q⟩:=h; exact⟨σ',H',Inv.iX o J,q⟩
 | cont=>obtain⟨σ',H',J,q⟩:=h; exact⟨σ',H',Inv.iX o J,q⟩
 | ret u=>obtain⟨v,σ',H',J,r,q⟩:=h; exact⟨v,σ',H',Inv.iX o J,r,q⟩
def pU(X:Cx)(pins:List (Addr×Obj))(H:Hp)(s:W2)(a C:Addr)(dx:Option Addr):Prop:=∃ T fl,ik s.heap a C T dx fl/\(fl = .none\/∃ L,X.env.frame=some L/\fl=WY L)/\Apart X pins H a/\Apart X pins H T
def sD(X:Cx)(ps:List (Addr×Obj))(H:Hp)(s:W2)(a C:Addr)(dx:Option Addr):Prop:=(∃ vs sl a0,s.heap.get? a=some ⟨.ref C,dx,.fields vs,sl⟩/\vs[0]? = some a0/\vs[1]? = some .none)/\Apart X ps H a
theorem Inv.apart(I:Inv X pins σ H s)(hx:X.ex=[])(e:s.heap.get? b=none)(f:H' b=none):Apart X pins H' b:=by
 refine⟨(I.gone hx e).2,f,λz=>?_,λx c hc z=>?_,λp hp z=>?_⟩
 ·obtain⟨m,⟨o,_,_,ho,_⟩,_⟩:=I.loc;rw[<- z,e] at ho; cases ho
 ·obtain⟨v,o,ho,_⟩:=I.cell x c hc;rw[z,e] at ho; cases ho
 ·have:=(I.pin p hp).1;rw[z,e] at this; cases this
section
variable {M:Model} {E:Value->W2->Prop} {C L:Addr} {dx:Option Addr} {Q:Unit->W2->Prop}
theorem Inv.C6(I:Inv X pins σ H s)(bY:X.stack=X.env :: X.outer)(hf:X.env.frame=some L)(hex:X.ex=[])(hc:pU X pins H s a C dx\/sD X pins H s a C dx)
  (q:∀ h' T,Inv X pins σ H { s with heap:=h' }->ik h' a C T dx (WY L)->Apart X pins H a->Apart X pins H T->Q () { s with heap:=h' }):W6 M X.A (JG (.ref a) X.env) Q E s:=by
 have dz:X.A.frames=some (X.env :: X.outer):=by rw[<- bY]; exact I.ok.frames
 have hl:s.heap.FunFrames X.base (X.env :: X.outer):=by rw[<- bY]; exact I.stack
 have mem:∀ {b},b ∈ dq X.stack->∃ o,s.heap.get? b=some o/\∀ vs,o.data≠.fields vs:=λ{b} z=>let ⟨_,o,g1,g2⟩:=I.stack.mem z; ⟨o,g1,g2⟩
 rcases hc with ⟨T,fl,f,iK,pa,pT⟩ | ⟨⟨vs,sl,a0,e1,e2,e3⟩,pa⟩
 ·rcases iK with rfl | ⟨L',e,rfl⟩
  ·refine Mu dz hl hf f λh' T' f' n=>?_
   refine q h' T' (I.v_ pa pT (λb o z m n1 n2=>n.keep b o z n1 (λw=>n2 (by cases w; rfl)) (by rw[<- bY]; exact m)) λb o z m=>?_) f' pa (I.apart hex n.new (I.gone hex n.new).1);obtain⟨o',g1,g2⟩:=mem m;rw[z] at g1; cases g1
   exact n.frame b o z g2
  ·rw[hf] at e; cases e
   exact Mv hf f (q s.heap T I f pa pT)
 ·refine Mt dz hl hf e1 e2 e3 λh' T' f' n=>?_
  refine q h' T' (I.v_ pa pa (λb o z m n1 n2=>n.keep b o z n1 (λw=>by cases w) (by rw[<- bY]; exact m)) λb o z m=>?_) f' pa (I.apart hex n.new (I.gone hex n.new).1);obtain⟨o',g1,g2⟩:=mem m;rw[z] at g1; cases g1
  exact n.frame b o z g2
theorem Inv.wb{A:Wl}{o:Option Addr}{fl:Value}(I:Inv X pins σ H s)(f:ik s.heap a C T dx fl)(pT:Apart X pins H T)
  (q:∀ h',Inv X pins σ H { s with heap:=h' }->ik h' a C T dx (o.elim .none λf=>WY f)->Q () { s with heap:=h' }):W6 M A (setFlight (.ref a) o) Q E s :=
 Mw f λh' f' k=>q h' (I.v_ pT pT (λb u z _ n _=>(k b n).trans z) λb u z _=>by
  by_cases n:b=T
  ·subst n;obtain⟨vs,sl,oT,ts,a0,e1,e2,e3,e4,e5,e6,e7⟩:=f;have:=I.qz b ‹_›;obtain⟨_,o',g1,g2⟩:=I.stack.mem ‹b ∈ dq X.stack›;rw[e5] at g1; cases g1
   exact absurd e6 (g2 ts)
  ·exact⟨u.slots,(k b n).trans z⟩) f'
end
def Ends.hand(D:Ends)(i:Nat):Ends where
 nx:=λσ H=>D.nx (σ.set i none) H
 rt:=D.rt
 bk:=λσ H=>D.bk (σ.set i none) H
 ct:=λσ H=>D.ct (σ.set i none) H
theorem MA{body:List Stmt}{x n:Str}{b₀:Stmt}{pV:List Stmt}{np sE pos:Pos}{B:Addr}{i:Nat}{tb:(Addr->Option Addr->St->Hp->Prop)->TS}{th:Addr->Addr->TS}(hex:X.ex=[])(bY:X.stack=X.env :: X.outer)(hf:X.env.frame=some X.env.locals)
  (hN:X.N.Nodup) (hi:X.N[i]? = some n) (hl:X.env.scope.names.lookup n=some .local) (hg:Gl X x) (hm:X.mg x=some (.ref B)) (qB:mm X.K B) (cq:(x == ("__debug__" : Str))=false)
  (bU:∀ (W:Addr->Option Addr->St->Hp->Prop) (pn:List (Addr×Obj)) (xe:Value->W2->Prop),(∀ ps σ H s a C dx,Inv (X.wt pn xe) ps σ H s->pU (X.wt pn xe) ps H s a C dx\/sD (X.wt pn xe) ps H s a C dx->W C dx σ H->xe (.ref a) s)->cX (X.wt pn xe) body (tb W))
  (MB:∀ C a,cX (X.hand a) (b₀ :: pV) (th C a)) :
  PS X (.Try body [.ExceptHandler (some (.Name x np)) (some n) (b₀ :: pV) sE] [] [] pos)
   (λD σ H=>tb (λC dx σ' H'=>PySem.W.mroIn X.K C (.ref B)=some true/\∃ v,(∀ x,v = .ref x->dx=some x)/\∀ a,H' a=none->th C a (D.hand i) (σ'.set i (some (.ref a))) (upd H' a (.ext (DV.excAt C v a)))) D σ H):=by
 intro pins s σ H D I hw;refine wpAny_Try_except (WC (bU _ (X.pn ++ pins) _ (λps σ1 H1 s1 a C dx J hc hW=>?_) [] s σ H D I.wt hw) (λf s1 hs=>?_) λe s1 he=>he)
 ·have J:Inv X pins σ1 H1 s1:=Inv.iX I.ok J;have hc:pU X pins H1 s1 a C dx\/sD X pins H1 s1 a C dx:=by
   rcases hc with ⟨T,fl,f,iK,pa,pT⟩ | ⟨y,pa⟩
   ·exact .inl ⟨T,fl,f,iK,pa.iX,pT.iX⟩
   ·exact .inr ⟨y,pa.iX⟩
  refine J.C6 bY hf hex hc λh2 T J2 f2 pa pT=>?_
  refine J2.wb f2 pT λh3 I3 f3=>?_
  obtain⟨vs3,sl3,_,_,_,u3,_⟩:=id f3;obtain⟨qm,v,hv,qh⟩:=hW;refine wpAny_handleBy_cons (codeAny_handlers_test ?_) (by intro z; cases z);have MC:Inv (X.hand a) pins σ1 H1 { s1 with heap:=h3 }:=I3.hand;refine lM (X:=X.hand a) MC hg hm ?_ cq;refine My I3.cn qB qm u3 rfl ?_;refine codeAny_handlers_suite_as (I3.wb f3 pT λh4 I4 f4=>?_);obtain⟨vs4,sl4,_,_,_,u1,_⟩:=f4;have I5:Inv X pins σ1 (upd H1 a (.ext (DV.excAt C v a))) { s1 with heap:=h4 }:=I4.wa pa ⟨⟨_,u1,rfl,λx z=>hv x z,vs4,rfl⟩,⟨_,u1⟩,λh1 h2 ⟨o,e1,e2⟩ k=>⟨o,k o e1,e2⟩⟩;refine qC (v:=.ref a) (u:=.ref a) (X:=X.hand a) I5.hand hN hi (.inl hl) rfl (λs6 I6 _=>?_) (.inr hl);refine WC (MB C a pins s6 _ _ (D.hand i) I6 (qh a pa.free)) (λf s7 hs=>?_) (λe s7 he=>he.elim);have un:∀ {σ':St} {H':Hp} {Q:Flow->W2->Prop},Inv (X.hand a) pins σ' H' s7->(∀ s8,Inv X pins (σ'.set i none) H' s8->Q f s8)->W6 (model X.prog X.w) X.A (do bindName X.env n .none; unbindBehindTheSuite X.env n sE) (λ_ s8=>Q f s8) X.xe s7 :=
   λ{σ' H' Q} J7 k=>Mx (Inv.Mz I.ok J7) hN hi hl λs8 J8=>k s8 J8
  cases f with
  | next=>obtain⟨σ',H',J7,q⟩:=hs; exact un J7 λs8 J8=>⟨_,_,J8,q⟩
  | brk=>obtain⟨σ',H',J7,q⟩:=hs; exact un J7 λs8 J8=>⟨_,_,J8,q⟩
  | cont=>obtain⟨σ',H',J7,q⟩:=hs; exact un J7 λs8 J8=>⟨_,_,J8,q⟩
  | ret u=>obtain⟨v,σ',H',J7,r,q⟩:=hs; exact un J7 λs8 J8=>⟨v,_,_,J8,r,q⟩
 ·have hs:=SP.iX I.ok hs
  cases f with
  | next=>exact Jx hs
  | brk=>exact hs
  | cont=>exact hs
  | ret u=>exact hs
end
def iY(X:Cx)(W:Addr->Option Addr->St->Hp->Prop):Prop:=∀ ps σ H s a C dx,Inv X ps σ H s->pU X ps H s a C dx\/sD X ps H s a C dx->W C dx σ H->X.xe (.ref a) s
section
variable {X:Cx} {pins:List (Addr×Obj)} {σ:St} {H:Hp} {s:W2} {b:Addr}
theorem Inv.MD(I:Inv X pins σ H s)(hx:X.ex=[])(h:fZ X.prog X.w X.stack H s E v s'):∃ a C dx H',v = .ref a/\Inv X pins σ H' s'/\pU X pins H' s' a C dx/\E (.ref C) dx H':=by
 obtain⟨a,C,T,dx,H',rfl,ho,hb,un,ag,fl,na,nT,fa,fT,q⟩:=h;exact⟨a,C,dx,H',rfl,I.zP (ch:=[]) ho un ag hb (λb z=>absurd z (by simp)),⟨T,.none,fl,.inl rfl,I.apart hx na fa,I.apart hx nT fT⟩,q⟩
end
section
variable {X:Cx} {k:Nat} {f:Addr} {fd:Wy} {ps:List Str} {sp:Sp} {x:Str} {p pos:Pos} {e:Expr} {es:List Expr} {t:TA} {W:Addr->Option Addr->St->Hp->Prop}
theorem wc(F:c8 X.prog X.w X.K X.mg X.base (fZ X.prog X.w) k f fd ps sp)(hr:bj k X.A)(hex:X.ex=[])(hg:Gl X x)(hm:X.mg x=some (.ref f))(hk:WZ X.K (.ref f)=true)(hb:Binds X.K fd ps [])(hx:iY X W)
  (ha:PA X (e :: es) t) (cq:(x == ("__debug__" : Str))=false:=by decide) (he:W5 (e :: es) X.env=(false,eval e X.env) :: W5 es X.env:=by rfl) (bx:(WN pos (W5 es X.env)).any (·.1)=false:=by rfl) :
  PE X (.Call (.Name x p) (e :: es) [] pos) (λσ H Q=>t σ H λvs H1=>sp vs H1 Q (λc dx H'=>∃ C,c = .ref C/\W C dx σ H')):=by
 intro pins s σ H Q I h;refine Ql (lM I hg hm ?_ cq);refine JD (h₀:=X.base) I.ok.mod.jL hk (aH (ha pos pins s σ H _ I h) λus s1 ⟨vs,H1,I1,r,q⟩=>⟨I1.cn,?_⟩) he bx;have hl:(us ++ []).length=ps.length:=by rw[WK,<- r.length]; exact F.len _ _ _ _ q
 refine Jp (Qk (F.run X.A X.stack s1 H1 ⟨us,[]⟩ us vs Q _ hr I1.mM (by have:=hb s1 us I1.cn hl; rwa [WK] at this) r q) λr s' hq=>?_)
 cases r with
 | error e =>
  obtain⟨a,C,dx,H',ea,I2,co,C',hC,hW⟩:=I1.MD (E:=λc dx H'=>∃ C,c = .ref C/\W C dx σ H') (v:=e) (s':=s') hex hq
  cases hC;subst ea;exact hx pins σ H' s' a C dx I2 (.inl co) hW
 | ok fl =>
  cases fl with
  | ret u=>exact I1.after hq
  | next=>exact False.elim hq
  | brk=>exact False.elim hq
  | cont=>exact False.elim hq
end
section
variable {P:Wg} {w:Wm} {K:W1} {mg:Str->Option Value} {base:Heap} {N:List Str} {qual:Str} {scope:Scope} {f:Addr} {cd:Value} {A:Wl} {outer:List Env} {s₀:W2} {H₀:Hp} {E:XK}
theorem C7{W:Addr->Option Addr->St->Hp->Prop}(hW:∀ C dx σ H,W C dx σ H->E (.ref C) dx H):iY (cE (fZ P w) P w K mg base N qual scope f cd A outer s₀ H₀ E) W:=λps σ H s a C dx I hc q=>by
 show W6 _ _ (leaving _ _) _ _ _;unfold leaving;refine W0 (I.C6 rfl rfl rfl hc λh2 T I2 f2 pa pT=>I2.wb f2 pT λh3 I3 f3=>?_);exact⟨a,C,T,dx,H,rfl,I3.os,I3.bare,I3.base,I3.ag,f3,pa.old,pT.old,pa.free,pT.free,hW C dx σ H q⟩
end
def Cx.loop(X:Cx):Cx:={ X with xe:=notedBy (model X.prog X.w) X.A X.env (cameBackBy (model X.prog X.w) X.A X.env X.xe) }
section
variable {X:Cx} {pins ps:List (Addr×Obj)} {σ:St} {H:Hp} {s:W2}
end
end L2
namespace DV
open PySem PySem.Spec PyProof.Rows L2
section
variable {c:Fc} {σ σ':St} {δ δ':Dl} {H H':Hp} {g:Xc->Dl->Prop}
theorem Ok.since(h0:c.H₀=H)(k:Ok c σ δ H)(hI:∀ a,c.I a->Own σ δ a)(k':Ok c σ' δ' H'):ay c σ δ H σ' δ' H':=by
 refine⟨k',λa o e n=>k'.keep a o (by rw[h0]; exact e) λz=>n (hI a z),λa ⟨i,d,e1,e2⟩=>?_,λa o e=>?_⟩
 ·obtain⟨b,e3,_,q,_⟩:=k'.own i d e1;rw[e2] at e3; cases e3
  rcases q with q | q
  ·exact .inl (hI a q)
  ·rw[h0] at q; exact .inr q
 ·by_cases z:c.I a
  ·exact k'.cw a z
  ·exact⟨o,k'.keep a o (by rw[h0]; exact e) z⟩
end
def wD(mg:Str->Option Value)(c:Fc)(C:Addr)(dx:Option Addr)(σ:St)(H:Hp):Prop:=∃ (x:Xc) (δ:Dl) (v:V),mg (toS x.cls)=some (.ref C)/\Ok c σ δ H/\Rep H (Av c σ δ) v x.jo/\(∀ y,v = .ref y->dx=some y)/\c.xc x δ
abbrev DX:=List S->Option ((S×List S) ⊕ (Xc×List S))
def jF(f:DS)(n:Nat)(ss:List S):Option ((S×List S) ⊕ (Xc×List S)):=match f (aV n ss) with
 | .ok fl δ=>(bO fl).bind λr=>(bb 0 ss δ).map λar=>.inl (r,ar)
 | .exc x δ=>(bb 0 ss δ).map λar=>.inr (x,ar)
 | .stuck=>none
def pW(mg:Str->Option Value)(n:Nat)(G:DX):Sp:=λvs H Q E=>∃ ss B,vs.length=n/\Ok ⟨H,B,a7 0 ss vs,λ_ _=>False⟩ (bC vs) (bJ ss) H/\∃ y,G ss=some y/\match y with
 | .inl (r,ar)=>∀ v H',ay ⟨H,B,a7 0 ss vs,λ_ _=>False⟩ (bC vs) (bJ ss) H (bC vs) (bJ ar) H'->aM ⟨H,B,a7 0 ss vs,λ_ _=>False⟩ (bC vs) (bJ ar) H H' v r->Q v H'
 | .inr (x,ar)=>∀ C dx v H',mg (toS x.cls)=some (.ref C)->ay ⟨H,B,a7 0 ss vs,λ_ _=>False⟩ (bC vs) (bJ ss) H (bC vs) (bJ ar) H'->Rep H' (Av ⟨H,B,a7 0 ss vs,λ_ _=>False⟩ (bC vs) (bJ ar)) v x.jo->(∀ y,v = .ref y->dx=some y)->E (.ref C) dx H'
def sF(P:Wg)(w:Wm)(K:W1)(mg:Str->Option Value)(base:Heap)(k:Nat)(x:Str)(n:Nat)(G:DX):Prop :=
 ∃ (f:Addr) (fd:Wy) (ps:List Str),mg x=some (.ref f)/\WZ K (.ref f)=true/\Binds K fd ps []/\c8 P w K mg base (fZ P w) k f fd ps (pW mg n G)
theorem C8(h:(⟨H,B,a7 0 ss vs,g⟩:Fc).I a):Own (bC vs) (bJ ss) a:=by
 obtain⟨i,hi⟩:=h;obtain⟨j,d,_,e1,e2⟩:=ib hi;exact⟨j,d,dS.mpr e1,ei.mpr e2⟩
section
variable {P:Wg} {w:Wm} {K:W1} {mg:Str->Option Value} {base:Heap}
theorem aM.C9(h:aM { c with xc:=g } σ δ Hs H v r):aM c σ δ Hs H v r:=by
 cases r with
 | pure d=>exact h
 | own d =>
  obtain⟨a,e,o,n,f,k,q⟩:=h;exact⟨a,e,o,n,f,⟨k.keep,k.bd,k.cw,k.len,k.slot,k.own,k.inj,k.pinned⟩,q⟩
theorem ME{x qual:Str}{st:Stmt}{f:Addr}{fd:Wy}{N ps:List Str}{k:Nat}{np:List Nat}{fb:DS}{G:DX}(F:bH K x qual st f fd)(S:bS N ps (aC st))
  (bU:∀ (c:Fc) (aj:Value) (A:Wl) (outer:List Env) (s:W2) (H:Hp) (E:XK),bj k (A.deeper (Qu qual (aC st) s.heap.objs.size f aj))->Np c np ->
   iY (cE (fZ P w) P w K mg base N qual (aC st) f aj A outer s H E) (wD mg c)->ef (cE (fZ P w) P w K mg base N qual (aC st) f aj A outer s H E) c (cu st) fb)
  (hG:∀ ss y,G ss=some y->bK np 0 ss=true/\jF fb N.length ss=some y):c8 P w K mg base (fZ P w) (k + 1) f fd ps (pW mg ps.length G):=by
 obtain⟨oc,od,kV,doc,pm,an,aj,ct,cK,rfl,lk,cC⟩:=F.ex;refine qK lk cC S (λvs H Q E h=>?_) λA outer s H vs Q E hr h=>?_
 ·obtain⟨ss,B,hl,_⟩:=h;exact hl
 ·obtain⟨ss,B,hl,ok,y,hg,q⟩:=h;obtain⟨c_,hrun⟩:=hG ss _ hg;have gJ:ss.length=vs.length:=by have:=ok.len; simpa using this
  let g:Xc->Dl->Prop:=λx δ'=>∃ ar,bb 0 ss δ'=some ar/\y = .inr (x,ar)
  have j_:Np ⟨H,B,a7 0 ss vs,g⟩ np:=λp hp=>by
   obtain⟨j,d,e,h1,_⟩:=ib (i:=p.1) (a:=p.2) hp;rw[e];exact ny c_ h1
  have bY:start N vs=bC vs ++ W8 (N.length - ss.length) none:=by rw[gJ]; rfl
  have dU:Ok ⟨H,B,a7 0 ss vs,λ_ _=>False⟩ (start N vs) (aV N.length ss) H:=by rw[bY]; exact ok.ext _
  have fP:∀ C dx σ' H',wD mg ⟨H,B,a7 0 ss vs,g⟩ C dx σ' H'->E (.ref C) dx H':=λC dx σ' H' ⟨z,δ',v,hm,k',rv,hv,ar,ho,hy⟩=>by
   rw[hy] at q;have k1:Ok ⟨H,B,a7 0 ss vs,λ_ _=>False⟩ σ' δ' H':=⟨k'.keep,k'.bd,k'.cw,k'.len,k'.slot,k'.own,k'.inj,k'.pinned⟩
   have a:ay ⟨H,B,a7 0 ss vs,λ_ _=>False⟩ (bC vs ++ W8 (N.length - ss.length) none) (bJ ss ++ W8 (N.length - ss.length) none) H σ' δ' H' :=
    Ok.since rfl (by rw[bY] at dU; exact dU) (λa z=>Own.ext.mpr (C8 z)) k1
   exact q C dx v H' hm (fJ rfl ok a ho).1 ((fJ rfl ok a ho).2 v (.pure z.jo) rv) hv
  refine⟨iQ ⟨H,B,a7 0 ss vs,g⟩ fb,bU ⟨H,B,a7 0 ss vs,g⟩ aj A outer s H E hr j_ (C7 fP),aV N.length ss,⟨dU.keep,dU.bd,dU.cw,dU.len,dU.slot,dU.own,dU.inj,dU.pinned⟩,?_⟩;unfold jF at hrun;unfold cW
  cases e:fb (aV N.length ss) with
  | stuck=>rw[e] at hrun; cases hrun
  | exc x δx =>
   rw[e] at hrun;simp only at hrun
   cases eo:bb 0 ss δx with
   | none=>rw[eo] at hrun; cases hrun
   | some os =>
    rw[eo] at hrun
    cases hrun;exact⟨os,eo,rfl⟩
  | ok fl δ' =>
   rw[e] at hrun;show ∀ σ' H',ay _ (start N vs) (aV N.length ss) H σ' δ' H'->fin _ _ σ' δ' H' fl;intro σ' H' a;rw[bY] at a;have k1:=a.ok;have a1:ay ⟨H,B,a7 0 ss vs,λ_ _=>False⟩ (bC vs ++ W8 (N.length - ss.length) none) (aV N.length ss) H σ' δ' H':=⟨⟨k1.keep,k1.bd,k1.cw,k1.len,k1.slot,k1.own,k1.inj,k1.pinned⟩,a.keep,a.own,a.there⟩
   simp only at hrun
   cases fl with
   | brk=>cases hrun
   | cont=>cases hrun
   | next =>
    simp only[bO,Wu] at hrun
    cases eo:bb 0 ss δ' with
    | none=>rw[eo] at hrun; cases hrun
    | some os =>
     rw[eo] at hrun
     cases hrun;obtain⟨l1,l2⟩:=fJ rfl ok a1 eo;exact q .aq H' l1 .aq
   | ret r' =>
    simp only[bO,Wu] at hrun
    cases eo:bb 0 ss δ' with
    | none=>rw[eo] at hrun; cases hrun
    | some os =>
     rw[eo] at hrun
     cases hrun;obtain⟨l1,l2⟩:=fJ rfl ok a1 eo;exactλv rv=>q v H' l1 (l2 v _ (aM.C9 (c:=⟨H,B,a7 0 ss vs,λ_ _=>False⟩) (g:=g) rv))
theorem MF{x qual:Str}{st:Stmt}{f:Addr}{fd:Wy}{N ps:List Str}{k:Nat}{np:List Nat}{fb:DS}{G:DX}(F:bH K x qual st f fd)(hm:mg x=some (.ref f))(hb:Binds K fd ps [])(S:bS N ps (aC st))
  (bU:∀ (c:Fc) (aj:Value) (A:Wl) (outer:List Env) (s:W2) (H:Hp) (E:XK),bj k (A.deeper (Qu qual (aC st) s.heap.objs.size f aj))->Np c np ->
   iY (cE (fZ P w) P w K mg base N qual (aC st) f aj A outer s H E) (wD mg c)->ef (cE (fZ P w) P w K mg base N qual (aC st) f aj A outer s H E) c (cu st) fb)
  (hG:∀ ss y,G ss=some y->bK np 0 ss=true/\jF fb N.length ss=some y):sF P w K mg base (k + 1) x ps.length G:=⟨f,fd,ps,hm,F.kp,hb,ME F S bU hG⟩
end
def we:(S×List S) ⊕ (Xc×List S)->List S
 | .inl y=>y.2
 | .inr y=>y.2
def lh(G:DX):Prop:=∀ ss y,G ss=some y->∀ (j:Nat),(∀ d,ss[j]? = some (.own d)->∃ d',(we y)[j]? = some (.own d'))/\∀ d,ss[j]? = some (.pure d)->∃ d',(we y)[j]? = some (.pure d')
theorem MG{ss os:List S}{δ:Dl}(e:bb 0 ss δ=some os)(j:Nat):(∀ d,ss[j]? = some (.own d)->∃ d',os[j]? = some (.own d'))/\∀ d,ss[j]? = some (.pure d)->∃ d',os[j]? = some (.pure d'):=by
 obtain⟨h1,h2⟩:=pD e;refine⟨λd ed=>?_,λd ed=>?_⟩
 ·rcases h2 j _ ed with ⟨d',z,_⟩ | ⟨d',d'',_,_,z⟩
  ·cases z
  ·exact⟨d'',z⟩
 ·rcases h2 j _ ed with ⟨d',z,z'⟩ | ⟨d',d'',z,_⟩
  ·exact⟨d',z'⟩
  ·cases z
theorem MH(h:jF fb n ss=some y):∃ δ,bb 0 ss δ=some (we y):=by
 unfold jF at h
 cases e:fb (aV n ss) with
 | stuck=>rw[e] at h; cases h
 | exc x δ =>
  rw[e] at h;simp only at h
  cases e2:bb 0 ss δ with
  | none=>rw[e2] at h; cases h
  | some os=>rw[e2] at h; cases h; exact⟨δ,e2⟩
 | ok fl δ =>
  rw[e] at h;simp only at h
  cases e1:bO fl with
  | none=>rw[e1] at h; cases h
  | some r =>
   rw[e1] at h;simp only[Wu] at h
   cases e2:bb 0 ss δ with
   | none=>rw[e2] at h; cases h
   | some os=>rw[e2] at h; cases h; exact⟨δ,e2⟩
def kh(np:List Nat)(n:Nat)(b:DS):DX:=λss=>if bK np 0 ss then jF b n ss else none
theorem wg(h:kh np n b ss=some y):bK np 0 ss=true/\jF b n ss=some y:=by
 unfold kh at h;split at h
 ·exact⟨by assumption,h⟩
 ·cases h
theorem C_{np:List Nat}{n:Nat}{b:DS}:lh (kh np n b):=λss y h j=>by
 obtain⟨δ,e⟩:=MH (wg h).2;exact MG e j
def jG(G:DX)(as:List Ak):DE:=λδ=>if (ba as).all (bE δ) && bL (ba as) then(bF as δ).bind λds δ1=>match bp as ds δ1 with
  | none=>.stuck
  | some ss=>match G ss with
   | none=>.stuck
   | some (.inl (r,ar))=>.ok r (aS as ar δ1)
   | some (.inr (x,ar))=>.exc x (aS as ar δ1)
 else .stuck
section
variable {X:Cx} {c:Fc} {e:Expr} {es:List Expr} {as:List Ak} {k n:Nat} {x:Str} {G:DX} {pp pos:Pos}
theorem Dc(hK:lh G)(hl:as.length=n)(h:tD c (jG G as) σ H Q):tX c as σ H λvs H1=>pW X.mg n G vs H1 Q (λc' dx H'=>∃ C,c' = .ref C/\wD X.mg c C dx σ H'):=by
 obtain⟨δ,kk,q⟩:=h;unfold jG at q;split at q
 ·rename_i hc;rw[Ws] at hc;have nd:=sf hc.2;rw[aX] at q;refine⟨δ,kk,λi hi=>?_,aL q λds δ1 q1 vs H1 a1 r1=>?_⟩
  ·have:=Qo.mp hc.1 i (kb.mpr hi);unfold bE at this;split at this
   ·rename_i d ed;exact m_ kk ed
   ·cases this
  ·cases em:bp as ds δ1 with
   | none=>rw[em] at q1; exact q1.elim
   | some ss =>
    rw[em] at q1;simp only at q1
    cases eg:G ss with
    | none=>rw[eg] at q1; exact q1.elim
    | some y =>
     rw[eg] at q1;have fq:=vD a1.ok r1 em nd;obtain⟨m1,m2,_⟩:=pE r1 em;have g2:=hK ss y eg;refine⟨ss,_,by rw[<- m2]; exact hl,fq,y,eg,?_⟩
     cases y with
     | inl y =>
      obtain⟨r,ar⟩:=y;intro v H2 a2 r2;obtain⟨o1,o2⟩:=si a1.ok r1 em nd rfl a2 (λj d ed=>(g2 j).1 d ed) λj d ed=>(g2 j).2 d ed
      exact q1 v H2 (a1.trans o1) (aM.back (o2 v r r2) a1)
     | inr y =>
      obtain⟨z,ar⟩:=y;intro C dx v H2 hm a2 rv hv;obtain⟨o1,o2⟩:=si a1.ok r1 em nd rfl a2 (λj d ed=>(g2 j).1 d ed) λj d ed=>(g2 j).2 d ed
      exact⟨C,rfl,z,aS as ar δ1,v,hm,o1.ok,o2 v (.pure z.jo) rv,hv,q1⟩
 ·exact q.elim
theorem MI (F:sF X.prog X.w X.K X.mg X.base k x n G) (hK:lh G) (hr:bj k X.A) (hex:X.ex=[]) (hx:iY X (wD X.mg c)) (hg:Gl X x) (ha:SX X c (e :: es) as) (hl:as.length=n) (cq:(x == ("__debug__" : Str))=false:=by decide)
  (he:W5 (e :: es) X.env=(false,eval e X.env) :: W5 es X.env:=by rfl) (bx:(WN pos (W5 es X.env)).any (·.1)=false:=by rfl):SE X c (.Call (.Name x pp) (e :: es) [] pos) (jG G as):=by
 obtain⟨f,fd,ps,hm,hk,hb,ok⟩:=F;exact PE.weak (wc ok hr hex hg hm hk hb hx ha cq he bx) λσ H Q h=>Dc hK hl h
end
def wj(δ:Dl):Bool:=δ.all fun
 | some (.own _)=>false
 | _=>true
def unset(i:Nat):Rs Fl->Rs Fl
 | .ok fl δ=>.ok fl (δ.set i none)
 | r=>r
def sG(ce:Tx->Nat)(ys:List Tx)(i:Nat)(fb fh:DS):DS:=λδ=>if wj δ then match fb δ with
  | .exc x δ'=>if ys.contains x.cls && decide (i < δ'.length) then unset i (fh (δ'.set i (some (.pure (.exc (ce x.cls) x.jo))))) else .stuck
  | r=>r
 else .stuck
section
variable {c:Fc} {σ σ':St} {δ δ':Dl} {H H':Hp}
theorem MJ(h:Np c []):c.pin=[]:=by
 cases e:c.pin with
 | nil=>rfl
 | cons p r =>
  have:=h p (by rw[e]; exact Wj);simp at this
theorem ay.unset(x:ay c σ₀ δ₀ H₀ σ δ H)(hp:c.pin=[])(i:Nat):ay c σ₀ δ₀ H₀ (σ.set i none) (δ.set i none) H:=by
 have k:=x.ok;have back:∀ {α:Type} {l:List (Option α)} {j:Nat} {v:α},(l.set i none)[j]? = some (some v)->l[j]? = some (some v)/\i≠j:=λ{α l j v} e=>by
  by_cases hj:i=j
  ·subst hj;rw[WM] at e;simp at e
  ·rw[W7 hj] at e;exact⟨e,hj⟩
 have own:∀ a,Own (σ.set i none) (δ.set i none) a->Own σ δ a:=λa ⟨j,d,e1,e2⟩=>⟨j,d,(back e1).1,(back e2).1⟩
 have av:∀ a,Av c (σ.set i none) (δ.set i none) a->Av c σ δ a:=λa z=>z.elim .inl λz=>.inr (own a z)
 refine⟨⟨k.keep,k.bd,k.cw,by simp[k.len],λj d e=>?_,λj d e=>?_,λj1 j2 a d d' e1 e2 e3 e4=>k.inj j1 j2 a d d' (back e1).1 (back e2).1 (back e3).1 (back e4).1,λp hm=>by rw[hp] at hm; simp at hm⟩,x.keep,λa z=>x.own a (own a z),x.there⟩
 ·obtain⟨e',n⟩:=back e;obtain⟨v,e1,r⟩:=k.slot j d e';exact⟨v,by rw[W7 n]; exact e1,r.aJ λa z=>.inl (av a z)⟩
 ·obtain⟨e',n⟩:=back e;obtain⟨a,e1,r,q⟩:=k.own j d e';exact⟨a,by rw[W7 n]; exact e1,r.aJ λa z=>.inl (av a z),q⟩
end
section
variable {c:Fc} {σ σ':St} {δ δ':Dl} {H H':Hp} {B':Addr->Prop} {g:Xc->Dl->Prop}
theorem Ok.Dd(k:Ok c σ δ H)(h:wj δ=true):Ok ⟨H,c.B,[],g⟩ σ δ H :=
 ⟨λ_ _ e _=>e,k.bd,λa ⟨i,z⟩=>(by simp at z),k.len,k.slot,λi d e=>((by have:=Qo.mp h _ (WW e); cases this)),k.inj,λp z=>(by simp at z)⟩
theorem Ok.mn(k:Ok c σ δ H)(hp:c.pin=[])(k':Ok ⟨H,B',[],g⟩ σ' δ' H'):Ok { c with B:=B' } σ' δ' H':=by
 have nI:∀ a,¬ c.I a:=λa ⟨i,z⟩=>by rw[hp] at z; simp at z
 have De:∀ a,¬ (⟨H,B',[],g⟩:Fc).I a:=λa ⟨i,z⟩=>by simp at z
 refine⟨λa o e n=>k'.keep a o (k.keep a o e n) (De a),k'.bd,λa z=>absurd z (nI a),k'.len,k'.slot,λi d e=>?_,k'.inj,λp z=>by rw[show({ c with B:=B' }:Fc).pin=c.pin from rfl,hp] at z; simp at z⟩;obtain⟨a,e1,r,q,nb⟩:=k'.own i d e;refine⟨a,e1,r,.inr ?_,nb⟩;rcases q with q | q
 ·exact absurd q (De a)
 ·exact k.jX q
theorem ay.mn(k:Ok c σ δ H)(hp:c.pin=[])(x:ay ⟨H,c.B,[],g⟩ σ δ H σ' δ' H'):ay c σ δ H σ' δ' H':=⟨k.mn hp x.ok,x.keep,x.own,x.there⟩
theorem aM.mn(k:Ok c σ δ H)(hp:c.pin=[])(h:aM ⟨H,c.B,[],g⟩ σ' δ' H H' v r):aM c σ' δ' c.H₀ H' v r:=by
 cases r with
 | pure d=>exact h
 | own d =>
  obtain⟨a,e,o,n,f,k',q⟩:=h;exact⟨a,e,o,n,k.jX f,k.mn hp k',k.jX f⟩
theorem aM.unset(hp:c.pin=[])(i:Nat)(h:aM c σ δ Hs H v r):aM c (σ.set i none) (δ.set i none) Hs H v r:=by
 have own:∀ a,Own (σ.set i none) (δ.set i none) a->Own σ δ a:=λa ⟨j,d,e1,e2⟩=>by
  have back:∀ {α:Type} {l:List (Option α)} {v:α},(l.set i none)[j]? = some (some v)->l[j]? = some (some v):=λ{α l v} e=>by
   by_cases hj:i=j
   ·subst hj; rw[WM] at e; simp at e
   ·rw[W7 hj] at e; exact e
  exact⟨j,d,back e1,back e2⟩
 cases r with
 | pure d=>exact Rep.aJ h λa z=>.inl (z.elim .inl λz=>.inr (own a z))
 | own d =>
  obtain⟨a,e,o,n,f,k,q⟩:=h;exact⟨a,e,o.aJ λb z=>.inl (z.elim .inl λz=>.inr (own b z)),n,f,(ay.unset (ay.refl k) hp i).ok,q⟩
end
end DV
namespace L2
open PySem PySem.Spec PyProof.Rows PySem.W Builtin Builtin.ObjectAttr Builtin.Getset_descriptor
section
variable {prog:Wg} {w:Wm} {A:Wl} {E:Value->W2->Prop} {K:W1} {C e:Addr} {oe:Obj} {h:Heap} {g:Array GenState} {d:Drawn} {t:Nat} {os:OsState}
structure ki(K:W1)(C:Addr):Prop where
 ga:Jr K (.ref C) "__getattribute__" = some (some (.builtin "BaseException.__getattribute__"))
 gt:Jr K (.ref C) "__getattr__" = some none
 cl:Jr K (.ref C) "__class__" = some (some (.builtin "object.__class__"))
 sp:specialIn K (.builtin "object.__class__") "__get__" = some (some (.builtin "getset_descriptor.__get__"))
 tk:takesIn K (.builtin "object.__class__")=some true
 mo:mroIn K C (.type "object")=some true
 mb:mroIn K C (.type "BaseException")=some true
theorem MK(X:K.In h)(k:ki K C)(he:h.get? e=some oe)(hc:oe.cls = .ref C)(q:R (.ok (.ret (.ref C))) ⟨h,g,d,t,os⟩) :
  Q4 (model prog w) A (.call (.builtin "getset_descriptor.__get__") ⟨[.builtin "object.__class__",.ref e,tp],[]⟩) R ⟨h,g,d,t,os⟩:=by
 have l1:Looks (model prog w) h (typeOf (.ref e)) (.ref C):=hc ▸ (Looks.ld he).andThen .now;have l2:=looks_mroIn (M:=model prog w) X k.mo;refine J3
  KF.slot_gs.plain KF.entry_gs
  (KF.slot_gs.check _ _ _ _ _ _ _ _
   KF.type_class (KF.args_gs _ _ _) ?_)
 unfold Builtin.«getset_descriptor.__get__» descrGet; rw[dga_obj]
 refine W0 (W4 ?_);unfold descrGetter descrCheckInstance descrNameAndClass isInstance; simp only[KF.owner_class]
 repeat lk
 refine⟨Code.quiet_builtin _ (by decide +kernel),
  Qb KF.entry_class ?_⟩
 unfold Builtin.«object.__class__» shownTypeOf; repeat lk
 exact q
theorem ML(X:K.In h)(k:ki K C)(he:h.get? e=some oe)(hc:oe.cls = .ref C)(q:Q (.done (.ret (.ref C))) ⟨h,g,d,t,os⟩) :
  W6 (model prog w) A (Builtin.«object.__getattribute__» ⟨[.ref e,.str "__class__" tk],[]⟩) Q E ⟨h,g,d,t,os⟩:=by
 have l0:Looks (model prog w) h (typeOf (.ref e)) (.ref C):=hc ▸ (Looks.ld he).andThen .now;have l1:=JJ (M:=model prog w) X k.cl;have l2:=KF.type_class;have l3:=F.slot_gs_get.lookup;have l4:=F.slot_gs_set.lookup;repeat (any_goals (first | assumption | with_reducible refine Looks.at l0 ?_ | with_reducible refine Looks.at l1 ?_ | (with_reducible refine Qf he ?_; rw[hc]) | wp_step))
 refine MK X k he hc ?_;repeat (any_goals (first | assumption | wp_step))
theorem Df(X:K.In h)(k:ki K C)(he:h.get? e=some oe)(hc:oe.cls = .ref C)(q:Q () ⟨h,g,d,t,os⟩) :
  W6 (model prog w) A (checkBuiltinCall "BaseException.__getattribute__" ⟨[.ref e,nv],[]⟩) Q E ⟨h,g,d,t,os⟩:=by
 have l0:Looks (model prog w) h (typeOf (.ref e)) (.ref C):=hc ▸ (Looks.ld he).andThen .now;have l1:=looks_mroIn (M:=model prog w) X k.mb;have b1:builtinKind "BaseException.__getattribute__" = some .slot:=by decide +kernel
 have b2:splitId "BaseException.__getattribute__" = some ("BaseException","__getattribute__"):=by decide +kernel
 have b3:=F.args_bexc_ga (.ref e) nv;simp only[checkBuiltinCall,b1,b2];refine W0 ?_;unfold isInstance;repeat (first | with_reducible refine Looks.at l0 ?_ | with_reducible refine Looks.at l1 ?_ | (with_reducible refine Qf he ?_; rw[hc]) | wp_step)
 exact q
theorem MM (X:K.In h) (k:ki K C) (he:h.get? e=some oe) (hc:oe.cls = .ref C) (q:Q (some (.ref C)) ⟨h,g,d,t + 1,os⟩):W6 (model prog w) A (getAttr? (.ref e) "__class__") Q E ⟨h,g,d,t,os⟩:=by
 have L0:Looks (model prog w) h (typeOf (.ref e)) (.ref C):=hc ▸ (Looks.ld he).andThen .now;have L1:=JJ (M:=model prog w) X k.ga;have L2:=JJ (M:=model prog w) X k.gt;have L3:=looks_mroIn (M:=model prog w) X k.mb;have MN:(false && onTheHeap (Value.builtin "BaseException.__getattribute__"))=false:=rfl;have pX:(Value.builtin "BaseException.__getattribute__" == Value.builtin "object.__getattribute__")=false:=by decide +kernel
 have f3:=F.attrBase_ValueError.ga.bind (.ref e);unfold getAttr? getAttrBy? getAttrBy;refine W0 (wpAny_mkText (W0 (wpAny_attempt (WU (W0 (L0.at (W0 (L1.at ?_))))))));dsimp only;rw[pX,Bool.and_false];simp only[Jh,if_false];unfold getAttrByItsOwn hookBefore;repeat (any_goals (first | assumption | with_reducible refine Looks.at L2 ?_ | wp_step))
 refine J3 F.attrBase_ValueError.ga.plain F.entry_bexc_ga (Df X k he hc (ML X k he hc ?_));repeat (any_goals (first | assumption | wp_step))
theorem MO{v:V}(k:ki K C)(hk:(clsIn K C).isSome=true):KitX K (.ref e) (.ref C) (DV.excAt C v e) where
 ty:=λM h X ⟨o,h1,h2,_⟩=>h2 ▸ (Looks.ld h1).andThen .now
 it:=λM h X _=>by
  obtain⟨cd,cC⟩:=J9.mp hk;unfold clsIn at cC;split at cC;next c' d' cd' sl' ho=>exactλA' Q' E' s' kk q=>by unfold isType loadHead; exact W0 (wpAny_loadPart (kk _ _ (X _ _ ho)) (W4 q))
  next=>cases cC
 ne:=λh tp dd aa n sl X MP=>by
  obtain⟨cd,cC⟩:=J9.mp hk;refine Bool.eq_false_iff.mpr λq=>?_
  obtain rfl:C=tp:=Value.ref.inj (beq_iff_eq.mp q);unfold clsIn at cC;split at cC;next c' d' cd' sl' ho=>have z:=(X _ _ ho).symm.trans MP; cases z
  next=>cases cC
 ca:=λ{prog w A E Q s} X ⟨o,h1,h2,_⟩ q=>by
  obtain⟨hh,gg,dd,tt,oo⟩:=s;exact MM X k h1 h2 q
end
section
variable {X:Cx} {y:Str} {D:Addr} {pos:Pos}
theorem MQ (hg:Gl X y) (hm:X.mg y=some (.ref D)) (hd:(y == ("__debug__" : Str))=false:=by decide):PE X (.Name y pos) (λσ H Q=>Q (.ref D) H):=λpins s σ H Q I h=>lM I hg hm ⟨.ref D,H,I,rfl,h⟩ hd
structure IsT(K:W1)(ce:DV.Tx->Nat)(ys:List DV.Tx)(cv:Value)(tab:DV.Tx->Bool):Prop where
 k:∀ z ∈ ys,ki K (ce z)
 c:∀ z ∈ ys,(PySem.W.clsIn K (ce z)).isSome=true
 one:∀ z ∈ ys,Qz K (.ref (ce z)) cv=some (tab z)
theorem Dg(MR:∀ u,RelV cV u->u=cv)(T:IsT X.K ce ys cv tab) :
  dH X (.builtin "isinstance") (λxs H Q=>∃ (a:Addr) (z:DV.Tx) (v:V),xs=[.ref a,cV]/\H a=some (.ext (DV.excAt (ce z) v a))/\z ∈ ys/\Q (.bl (tab z)) H):=by
 intro pins s σ H xs us Q I r h;obtain⟨a,z,v,rfl,ha,hz,q⟩:=h;obtain⟨u,w',rfl,r1,r2⟩:=t9 r
 cases r1;have e:=MR _ r2;subst e;obtain⟨p,_,_⟩:=I.ag a _ ha;exact Q5 (MO (T.k z hz) (T.c z hz)) I.cn p (T.one z hz) (λz=>nomatch z) λtk=>⟨.bl (tab z),H,I.tok tk,rfl,q⟩
end
structure fL(k:Nat)(A:Wl):Prop where
 dp:A.depth + 3 * k + 5 < recursionLimit
 un:A.units + 16 * k + 200 < Qi
theorem fL.deeper(r:fL (k + 1) A)(env:Env):fL k (A.deeper env) :=
 ⟨by have:=r.dp; show A.depth + 1 + 3 * k + 5 < _; omega,by have:=r.un; show A.units + 3 + 16 * k + 200 < _; omega⟩
theorem bj.h(r:bj k A):fL k A:=⟨r.dp,r.un⟩
theorem fL.mono(r:fL k A)(h:j<=k):fL j A:=⟨by have:=r.dp; omega,by have:=r.un; omega⟩
theorem fL.mark(r:fL k A)(v:Option Value):fL k (A.mark v):=⟨r.dp,r.un⟩
def Cx.wm(X:Cx):Cx:={ X with calm:=false,xe:=λ_ _=>False }
structure wo(P:Wg)(w:Wm)(K:W1)(mg:Str->Option Value)(base:Heap)(k:Nat)(f:Addr)(fd:Wy)(ps:List Str)(sp:Sp):Prop where
 len:∀ vs H Q E,sp vs H Q E->vs.length=ps.length
 run:∀ (A:Wl) (outer:List Env) (s:W2) (H:Hp) (args:Args) (us:List Value) (vs:List V) (Q:VK),fL k A->iG P w K mg base A outer s H->BindsTo s fd args (ps.zip us)->Vals vs us->sp vs H Q E0 ->
  Q4 (model P w) A (.call (.ref f) args) (CR bV outer P w H s Q E0) s
section
variable {P:Wg} {w:Wm} {K:W1} {mg:Str->Option Value} {base:Heap} {k:Nat} {f:Addr}
theorem MS{x qual:Str}{st:Stmt}{fd:Wy}{N ps:List Str}{sp:Sp}(F:bH K x qual st f fd)(S:bS N ps (aC st))(len:∀ vs H Q E,sp vs H Q E->vs.length=ps.length)
  (bU:∀ (aj:Value) (A:Wl) (outer:List Env) (s:W2) (H:Hp) (vs:List V) (Q:VK),fL k (A.deeper (Qu qual (aC st) s.heap.objs.size f aj))->sp vs H Q E0 ->
   ∃ t,cX (cE bV P w K mg base N qual (aC st) f aj A outer s H E0).wm (cu st) t/\t { nx:=λ_ H'=>Q .aq H',rt:=Q } (start N vs) H):wo P w K mg base (k + 1) f fd ps sp:=by
 obtain⟨oc,od,kV,doc,pm,an,aj,ct,cK,rfl,lk,cC⟩:=F.ex;refine⟨len,λA outer s H args us vs Q hr e0 hb r gh=>?_⟩;have hl:=len _ _ _ _ gh;have KX:K.In s.heap:=e0.mod.jL.keeps λb o e=>(e0.bs b o e).1
 have lim:s.heap.NoLimit:=e0.mod.nolimit.keeps λb o e=>(e0.bs b o e).1
 have oH:∀ y ∈ ps.zip us,(aC st).names.lookup y.1=some .local\/((aC st).names.lookup y.1=some .cell/\((Qm (s.heap.objs.size + 1) (aC st).names []).lookup y.1).isSome=true):=λ⟨n,v⟩ hy=>by
  rcases S.par n (Jy hy).1 with q | q
  ·exact .inl q
  ·exact .inr ⟨q,QM _ _ _ (.inl q)⟩
 have MT:A.depth < recursionLimit:=by have:=hr.dp; omega
 refine codeAny_call_function MT (KX _ _ lk) rfl S.co S.gen rfl (PySem.W.codeRec_of KX cC) (hb _ _ _ _ ?_);refine wpAny_newFunctionEnv_cells S.kind oH λenv he s1 x=>?_
 subst he;refine⟨lim.keeps x.toInCall.keep,codeAny_func ?_⟩;obtain⟨t,ht,hq⟩:=bU aj A outer s H vs Q (hr.deeper _) gh;have e1:iG P w K mg base { A with handled:=none } outer s H:=⟨e0.frames,e0.mod,e0.bs,e0.gc,e0.eT,e0.gX,e0.ag,e0.bare⟩
 have J:=ue (CX:=bV) (E:=E0) (qual:=qual) (f:=f) (cd:=aj) (A:={ A with handled:=none }) S rfl e1 hl r x;have I:Inv (cE bV P w K mg base N qual (aC st) f aj A outer s H E0).wm [] (start N vs) H s1:=by
  have o:=J.ok;exact⟨⟨o.mod,o.kind,o.glob,o.blt,o.above,o.inj,o.has,o.jM,λz=>(by cases z),Around.frames_deeper e0.frames,o.lH,o.lJ,o.bs,o.gc,o.kC,o.kD,o.eT,o.gX⟩,J.os,J.bare,J.base,J.loc,J.cell,J.free,J.du,J.pin,J.ag,J.len⟩
 refine WC (ht [] s1 (start N vs) H _ I hq) (λfl s' hs=>?_) λe s' hs=>hs.elim
 cases fl with
 | ret u =>
  obtain⟨v,σ',H',J2,rv,q⟩:=hs;exact⟨v,H',J2.os,J2.bare,J2.base,J2.ag,rv,q⟩
 | next =>
  obtain⟨σ',H',J2,q⟩:=hs;exact⟨V.aq,H',J2.os,J2.bare,J2.base,J2.ag,rfl,q⟩
 | brk =>
  obtain⟨_,_,_,q⟩:=hs;exact False.elim q
 | cont =>
  obtain⟨_,_,_,q⟩:=hs;exact False.elim q
end
section
variable {X:Cx} {k:Nat} {f:Addr} {fd:Wy} {ps:List Str} {sp:Sp} {x:Str} {p pos:Pos} {e:Expr} {es:List Expr} {t:TA}
theorem MU(F:wo X.prog X.w X.K X.mg X.base k f fd ps sp)(hr:fL k X.A)(hg:Gl X x)(hm:X.mg x=some (.ref f))(hk:WZ X.K (.ref f)=true)(hb:Binds X.K fd ps [])
  (ha:PA X (e :: es) t) (cq:(x == ("__debug__" : Str))=false:=by decide) (he:W5 (e :: es) X.env=(false,eval e X.env) :: W5 es X.env:=by rfl) (bx:(WN pos (W5 es X.env)).any (·.1)=false:=by rfl) :
  PE X (.Call (.Name x p) (e :: es) [] pos) (ub sp [] E0 t):=by
 intro pins s σ H Q I h;refine Ql (lM I hg hm ?_ cq);refine JD (h₀:=X.base) I.ok.mod.jL hk (aH (ha pos pins s σ H _ I h) λus s1 ⟨vs,H1,I1,r,q⟩=>⟨I1.cn,?_⟩) he bx;have q:sp vs H1 Q E0:=by have q':sp (vs ++ []) H1 Q E0:=q; rwa [WK] at q'
 have hl:(us ++ []).length=ps.length:=by rw[WK,<- r.length]; exact F.len _ _ _ _ q
 refine Jp (Qk (F.run X.A X.stack s1 H1 ⟨us,[]⟩ us vs Q hr I1.mM (by have:=hb s1 us I1.cn hl; rwa [WK] at this) r q) λr s' hq=>?_)
 cases r with
 | error e=>exact False.elim hq
 | ok fl =>
  cases fl with
  | ret u=>exact I1.after hq
  | next=>exact False.elim hq
  | brk=>exact False.elim hq
  | cont=>exact False.elim hq
end
end L2
namespace DV
open PySem PySem.Spec PyProof.Rows L2
def fM(ce:Tx->Nat)(ys:List Tx)(tab:Tx->Bool)(fb:BE):DE:=λδ=>(fb δ).bind λd δ'=>match d with
 | .exc n _=>match ys.find? λz=>ce z == n with
  | some z=>.ok (.pure (.bl (tab z))) δ'
  | none=>.stuck
 | _=>.stuck
section
variable {X:Cx} {c:Fc} {e:Expr} {fb:BE} {pp py pos:Pos} {y:Str} {ce:Tx->Nat} {ys:List Tx} {tab:Tx->Bool}
theorem Dh(h:tD c (fM ce ys tab fb) σ H Q):tB c fb σ H λv H1=>∃ (a:Addr) (z:Tx) (w:V),[v,cV]=[.ref a,cV]/\H1 a=some (.ext (excAt (ce z) w a))/\z ∈ ys/\Q (.bl (tab z)) H1:=by
 obtain⟨δ,k,q⟩:=h;unfold fM at q;rw[aX] at q;refine⟨δ,k,aL q λd δ1 q1 v H1 a1 r1=>?_⟩
 cases d <;> first | exact q1.elim | skip
 rename_i n fl;simp only at q1;split at q1
 ·rename_i z hz;have h1:=List.find?_some hz;have h2:=List.mem_of_find?_eq_some hz;have e:ce z=n:=by simpa using h1
  subst e;rcases r1 with r1 | ⟨a,_,o⟩
  ·cases r1 with
   | exc _ ha _=>exact⟨_,z,_,rfl,ha,h2,q1 _ H1 a1 (.bl _)⟩
  ·exact o.elim
 ·exact q1.elim
theorem kj {D:Addr} (T:IsT X.K ce ys (.ref D) tab) (hg:Gl X "isinstance") (hm:X.mg "isinstance" = none) (pj:Gl X y) (pk:X.mg y=some (.ref D)) (he:SB X c e fb) (pq:(y == ("__debug__" : Str))=false:=by decide)
  (hs:W5 [e,.Name y py] X.env=(false,eval e X.env) :: W5 [.Name y py] X.env:=by rfl) (bx:(WN pos (W5 [.Name y py] X.env)).any (·.1)=false:=by rfl) :
  SE X c (.Call (.Name "isinstance" pp) [e,.Name y py] [] pos) (fM ce ys tab fb) :=
 PE.weak (mO (Dg (cV:=.ref D) (λu r=>by cases r; rfl) T) hg hm PyProof.Rows.boot_isinstance (df he (df (MQ pj pk pq) eU) hs) (by decide) (by decide) hs bx) λσ H Q h=>Dh h
theorem MV {T':String} (T:IsT X.K ce ys (.type T') tab) (hg:Gl X "isinstance") (hm:X.mg "isinstance" = none) (pj:Gl X y) (pk:X.mg y=none) (vh:Q9 y=some (.type T')) (he:SB X c e fb)
  (vi:y≠"__name__":=by decide) (pq:(y == ("__debug__" : Str))=false:=by decide)
  (hs:W5 [e,.Name y py] X.env=(false,eval e X.env) :: W5 [.Name y py] X.env:=by rfl) (bx:(WN pos (W5 [.Name y py] X.env)).any (·.1)=false:=by rfl) :
  SE X c (.Call (.Name "isinstance" pp) [e,.Name y py] [] pos) (fM ce ys tab fb) :=
 PE.weak (mO (Dg (cV:=.ty T') (λu r=>by cases r; rfl) T) hg hm PyProof.Rows.boot_isinstance (df he (df (zR (v:=.ty T') pj pk vh rfl vi pq) eU) hs) (by decide) (by decide) hs bx) λσ H Q h=>Dh h
end
def sH(P:Wg)(w:Wm)(K:W1)(mg:Str->Option Value)(base:Heap)(k:Nat)(x:Str)(n:Nat)(G:DF):Prop :=
 ∃ (f:Addr) (fd:Wy) (ps:List Str),mg x=some (.ref f)/\WZ K (.ref f)=true/\Binds K fd ps []/\wo P w K mg base k f fd ps (k6 n G)
theorem MW(r:fL k A):A.units + 64 < Qi:=by have:=r.un; omega
section
variable {P:Wg} {w:Wm} {K:W1} {mg:Str->Option Value} {base:Heap}
theorem MX{x qual:Str}{st:Stmt}{f:Addr}{fd:Wy}{N ps:List Str}{k:Nat}{np:List Nat}{fb:DS}{G:DF}(F:bH K x qual st f fd)(hm:mg x=some (.ref f))(hb:Binds K fd ps [])(S:bS N ps (aC st))
  (bU:∀ (c:Fc) (aj:Value) (A:Wl) (outer:List Env) (s:W2) (H:Hp) (E:XK),fL k (A.deeper (Qu qual (aC st) s.heap.objs.size f aj))->Np c np->ef (cE bV P w K mg base N qual (aC st) f aj A outer s H E).wm c (cu st) fb)
  (hG:∀ ss y,G ss=some y->bK np 0 ss=true/\dm fb N.length ss=some y):sH P w K mg base (k + 1) x ps.length G:=by
 refine⟨f,fd,ps,hm,F.kp,hb,MS F S (λvs H Q E h=>?_) λaj A outer s H vs Q hr h=>?_⟩
 ·obtain⟨ss,B,hl,_⟩:=h;exact hl
 ·obtain⟨ss,B,hl,ok,r,ar,hg,q⟩:=h;obtain⟨c_,hrun⟩:=hG ss _ hg;have gJ:ss.length=vs.length:=by have:=ok.len; simpa using this
  have j_:Np ⟨H,B,a7 0 ss vs,λ_ _=>False⟩ np:=λp hp=>by
   obtain⟨j,d,e,h1,_⟩:=ib (i:=p.1) (a:=p.2) hp;rw[e];exact ny c_ h1
  refine⟨iQ ⟨H,B,a7 0 ss vs,λ_ _=>False⟩ fb,bU ⟨H,B,a7 0 ss vs,λ_ _=>False⟩ aj A outer s H E0 hr j_,?_⟩;have bY:start N vs=bC vs ++ W8 (N.length - ss.length) none:=by rw[gJ]; rfl
  refine⟨aV N.length ss,by rw[bY]; exact ok.ext _,?_⟩;unfold dm at hrun;unfold cW
  cases e:fb (aV N.length ss) with
  | exc x δx=>rw[e] at hrun; cases hrun
  | stuck=>rw[e] at hrun; cases hrun
  | ok fl δ' =>
   rw[e] at hrun;show ∀ σ' H',ay _ (start N vs) (aV N.length ss) H σ' δ' H'->fin _ _ σ' δ' H' fl;intro σ' H' a;rw[bY] at a;simp only at hrun
   cases fl with
   | brk=>cases hrun
   | cont=>cases hrun
   | next =>
    simp only[bO,Wu] at hrun
    cases eo:bb 0 ss δ' with
    | none=>rw[eo] at hrun; cases hrun
    | some os =>
     rw[eo] at hrun
     cases hrun;obtain⟨l1,l2⟩:=fJ rfl ok a eo;exact q .aq H' l1 .aq
   | ret r' =>
    simp only[bO,Wu] at hrun
    cases eo:bb 0 ss δ' with
    | none=>rw[eo] at hrun; cases hrun
    | some os =>
     rw[eo] at hrun
     cases hrun;obtain⟨l1,l2⟩:=fJ rfl ok a eo;exactλv rv=>q v H' l1 (l2 v _ rv)
end
section
variable {X:Cx} {c:Fc} {e:Expr} {es:List Expr} {as:List Ak} {k n:Nat} {x:Str} {G:DF} {pp pos:Pos}
theorem MY (F:sH X.prog X.w X.K X.mg X.base k x n G) (hK:dC G) (hr:fL k X.A) (hg:Gl X x) (ha:SX X c (e :: es) as) (hl:as.length=n) (cq:(x == ("__debug__" : Str))=false:=by decide)
  (he:W5 (e :: es) X.env=(false,eval e X.env) :: W5 es X.env:=by rfl) (bx:(WN pos (W5 es X.env)).any (·.1)=false:=by rfl):SE X c (.Call (.Name x pp) (e :: es) [] pos) (aG G as):=by
 obtain⟨f,fd,ps,hm,hk,hb,ok⟩:=F;exact PE.weak (MU ok hr hg hm hk hb ha cq he bx) λσ H Q h=>vF (ps:=ps) hK hl h
end
end DV
namespace L2
open PySem PySem.Spec PyProof.Rows PySem.SeqAt
theorem wq:∀ {bs:List Bool} {us:List Value},Vals (bs.map V.bl) us->us=bs.map Value.bool
 | [],us,r=>by cases r; rfl
 | b :: bs,us,r=>by
  cases r with
  | cons r1 r2 =>
   cases r1;rw[wq r2];rfl
def pY:Value->Bool
 | .bool b=>b
 | _=>false
theorem Di:∀ bs:List Bool,(bs.map Value.bool).countP pY=bs.count true
 | []=>rfl
 | b :: bs=>by
  rw[Wo,List.countP_cons,Di bs,List.count_cons]
  cases b <;> rfl
def Dj(K:W1):V->List V->Hp->VK->Prop:=λx xs H Q=>∃ (a:Addr) (bs:List Bool),x = .ref a/\xs=[.bl true]/\cg K H a (bs.map V.bl)/\Q (.int (bs.count true:Nat)) H
def Dk(K:W1):V->List V->Hp->VK->Prop:=λx xs H Q=>∃ (a:Addr) (bs:List Bool),x = .ref a/\xs=[.bl true]/\cg K H a (bs.map V.bl)/\true ∈ bs/\bs.length<=1000/\Q (.int (bs.idxOf true:Nat)) H
section
variable {X:Cx}
theorem MZ:qN X "list.count" (Dj X.K):=by
 intro pins s σ H x xs v us Q I rx rs h;obtain⟨a,bs,rfl,rfl,hq,q⟩:=h;obtain⟨u,rfl,ru⟩:=fQ rs
 cases ru
 cases rx;obtain⟨aa,r',p,_⟩:=I.list hq;obtain rfl:=wq r';obtain⟨⟨cls,dd,data,sl⟩,ho,hc,n,hd⟩:=p.isList;simp only at hc hd;subst hc; subst hd
 refine JM PySem.F.slot_list_count ⟨_,ho,rfl⟩ PySem.F.entry_list_count (PySem.F.args_list_count_2 _ _) (list_countAt a _ n dd sl (.bool true) pY) ⟨ho,λy hy=>?_,?_⟩
 ·have wu:y ∈ bs.map Value.bool:=by simpa using hy
  obtain⟨b,_,rfl⟩:=WS.mp wu;have:=EqAt.bool_bool (A:=X.A.in1) (s:=s) b true
  cases b <;> exact this
 ·rw[show(bs.map Value.bool).toArray.toList=bs.map Value.bool from rfl,Di];exact⟨.int (bs.count true:Nat),H,I.tok _,⟨_,rfl⟩,q⟩
theorem M0:qN X "list.index" (Dk X.K):=by
 intro pins s σ H x xs v us Q I rx rs h;obtain⟨a,bs,rfl,rfl,hq,hm,hl,q⟩:=h;obtain⟨u,rfl,ru⟩:=fQ rs
 cases ru
 cases rx;obtain⟨aa,r',p,_⟩:=I.list hq;obtain rfl:=wq r';obtain⟨⟨cls,dd,data,sl⟩,ho,hc,n,hd⟩:=p.isList;simp only at hc hd;subst hc; subst hd
 have hj:bs.idxOf true < bs.length:=List.idxOf_lt_length_iff.mpr hm;refine JM PySem.F.slot_list_index ⟨_,ho,rfl⟩ PySem.F.entry_list_index (PySem.F.args_list_index_2 _ _) (list_indexAt a _ n dd sl (.bool true) pY (bs.idxOf true) (by simpa using hj) (by omega) ?_ ?_) ⟨ho,λy hy=>?_,⟨.int (bs.idxOf true:Nat),H,I.tok _,⟨_,rfl⟩,q⟩⟩
 ·have:=List.getElem_idxOf hj;simp[pY,this]
 ·intro m wx aY;have Tz:m < bs.length:=by simpa using wx
  have:bs[m]≠true:=λz=>by
   have z2:=List.not_of_lt_findIdx (p:=(· == true)) (xs:=bs) (i:=m) aY;rw[z] at z2
   cases z2
  simp[pY,this]
 ·have wu:y ∈ bs.map Value.bool:=by simpa using hy
  obtain⟨b,_,rfl⟩:=WS.mp wu;have:=EqAt.bool_bool (A:=X.A.in1) (s:=s) b true
  cases b <;> exact this
end
end L2
namespace DV
open PySem PySem.Spec PyProof.Rows L2
def nH:D->Option S
 | .lst ds=>(fG ds).map λbs=>.pure (.int (bs.count true:Nat))
 | _=>none
def nJ:D->Option S
 | .lst ds=>match fG ds with
  | some bs=>if true ∈ bs/\bs.length<=1000 then some (.pure (.int (bs.idxOf true:Nat))) else none
  | none=>none
 | _=>none
section
variable {X:Cx} {c:Fc} {e:Expr} {fb:BE}
theorem M3 {K:W1}:jr (λx H Q=>qQ K "list" x H/\Dj K x [.bl true] H Q) nH:=by
 intro c σ δ H x d s Q k rx hp q
 cases d with
 | lst ds =>
  simp only[nH] at hp
  cases e:fG ds with
  | none=>rw[e] at hp; cases hp
  | some bs =>
   rw[e] at hp
   cases hp;obtain⟨a,vs,ea,ha,ra⟩:=rx.lst;obtain rfl:=rR e ra;subst ea;exact⟨.inl ⟨rfl,_,.inl ha⟩,a,bs,rfl,rfl,.inl ha,q _ H (.refl k) (.int _)⟩
 | _=>simp[nH] at hp
theorem M4 {K:W1}:jr (λx H Q=>qQ K "list" x H/\Dk K x [.bl true] H Q) nJ:=by
 intro c σ δ H x d s Q k rx hp q
 cases d with
 | lst ds =>
  simp only[nJ] at hp
  cases e:fG ds with
  | none=>rw[e] at hp; cases hp
  | some bs =>
   rw[e] at hp;simp only at hp;split at hp
   ·rename_i hz
    cases hp;obtain⟨a,vs,ea,ha,ra⟩:=rx.lst;obtain rfl:=rR e ra;subst ea;exact⟨.inl ⟨rfl,_,.inl ha⟩,a,bs,rfl,rfl,.inl ha,hz.1,hz.2,q _ H (.refl k) (.int _)⟩
   ·cases hp
 | _=>simp[nJ] at hp
theorem M5{j}{p0 apos aU:Pos}(he:SB X c e fb)
  (jR:Qq e "count" X.env (eval e X.env)=eval e X.env:=by rfl)
  (jS:((WN aU (W5 [.Constant (.bool true) j p0] X.env)).all (λx=>!x.1) && (JE aU (J4 [] X.env)).all (λx=>x.1.isSome)
   && decide ([Expr.Constant (.bool true) j p0].length + ([]:List Keyword).length + (if ([]:List Keyword).isEmpty then 0 else 1) < 30))=true:=by rfl)
  (fF:(apos.endLine == aU.line)=true:=by rfl) (hs:W5 [.Constant (.bool true) j p0] X.env=(false,eval (.Constant (.bool true) j p0) X.env) :: W5 [] X.env:=by rfl) :
  SE X c (.Call (.Attribute e "count" apos) [.Constant (.bool true) j p0] [] aU) (bh nH fb):=by
 refine PE.weak (qR PySem.F.plainAttrs_list PySem.F.slot_list_count PySem.F.type_list_count MZ he (df tW eU hs) jR jS fF hs rfl) λσ H Q h=>?_
 obtain⟨δ,k,q⟩:=pb (M3 (K:=X.K)) h;exact⟨δ,k,aL q λy δ1 q1 v H1 a1 r1=>q1 v H1 a1 r1⟩
theorem M6{j}{p0 apos aU:Pos}(he:SB X c e fb)
  (jR:Qq e "index" X.env (eval e X.env)=eval e X.env:=by rfl)
  (jS:((WN aU (W5 [.Constant (.bool true) j p0] X.env)).all (λx=>!x.1) && (JE aU (J4 [] X.env)).all (λx=>x.1.isSome)
   && decide ([Expr.Constant (.bool true) j p0].length + ([]:List Keyword).length + (if ([]:List Keyword).isEmpty then 0 else 1) < 30))=true:=by rfl)
  (fF:(apos.endLine == aU.line)=true:=by rfl) (hs:W5 [.Constant (.bool true) j p0] X.env=(false,eval (.Constant (.bool true) j p0) X.env) :: W5 [] X.env:=by rfl) :
  SE X c (.Call (.Attribute e "index" apos) [.Constant (.bool true) j p0] [] aU) (bh nJ fb):=by
 refine PE.weak (qR PySem.F.plainAttrs_list PySem.F.slot_list_index PySem.F.type_list_index M0 he (df tW eU hs) jR jS fF hs rfl) λσ H Q h=>?_
 obtain⟨δ,k,q⟩:=pb (M4 (K:=X.K)) h;exact⟨δ,k,aL q λy δ1 q1 v H1 a1 r1=>q1 v H1 a1 r1⟩
end
theorem SS.dX{X:Cx}{c:Fc}{st:Stmt}{f:DS}(h:SS X.dX c st f):SS X c st f:=λpins s σ H D I hw =>
 WC (h pins s σ H D (I.fP _) hw) (λ_ _ q=>q.jO) λ_ _ z=>False.elim z
theorem M7:Q9 "ValueError" = some (.type "ValueError"):=by decide +kernel
def Dm:List (Tx×Nat)->Tx->Nat
 | [],_=>0
 | p :: r,x=>bif p.1 == x then p.2 else Dm r x
end DV
namespace L2
open PySem PySem.Spec PyProof.Rows
section
variable {X:Cx}
end
end L2
namespace DV
open PySem PySem.Spec PyProof.Rows L2
end DV
namespace PySem
open Sem (wp)
structure ZA(z TI TO i1 i2:Addr)(f1 f2:List Addr):Prop where
 m1:i1 ∈ f1
 m2:i2 ∈ f2
 z1:z ∉ f1
 z2:z ∉ f2
 t1:TO ∉ f1
 t2:TO ∉ f2
 k1:i1 ∉ f2
 k2:i2 ∉ f1
 tz:TO≠z
 iz:TI≠z
 io:TI≠TO
 n1:TI≠i1
 n2:TI≠i2
section
variable {prog:Wg} {w:Wm} {A:Wl} {E:Value->W2->Prop} {s:W2}
end
def bZ (b:Bool) (a:Addr):Obj:={ cls:=.type (match b with | true=>"list_iterator" | false=>"tuple_iterator"),data:=.fields #[.ref a,.int 0 0] }
end PySem
namespace L2
open PySem PySem.Spec PyProof.Rows
section
variable {X:Cx} {pins:List (Addr×Obj)} {σ:St} {H:Hp} {s:W2} {h':Heap}
end
end L2
namespace DV
open PySem PySem.Spec PyProof.Rows L2
section
variable {X:Cx} {c:Fc} {tg e:Expr} {fe:DE} {pos pp:Pos}
end
def nK(G:DX)(as:List Ak):DE:=λδ=>if (ba as).all (bE δ) && bL (ba as) then(bF as δ).bind λds δ1=>match bp as ds δ1 with
  | none=>.stuck
  | some ss=>match G ss with
   | some (.inl (r,ar))=>.ok r (aS as ar δ1)
   | _=>.stuck
 else .stuck
section
variable {X:Cx} {c:Fc} {e:Expr} {es:List Expr} {as:List Ak} {k n:Nat} {x:Str} {G:DX} {pp pos:Pos}
theorem M8(hK:lh G)(hl:as.length=n)(h:tD c (nK G as) σ H Q):tX c as σ H λvs H1=>pW X.mg n G vs H1 Q (λc' _ H'=>∃ C,c' = .ref C/\False):=by
 obtain⟨δ,kk,q⟩:=h;unfold nK at q;split at q
 ·rename_i hc;rw[Ws] at hc;have nd:=sf hc.2;rw[aX] at q;refine⟨δ,kk,λi hi=>?_,aL q λds δ1 q1 vs H1 a1 r1=>?_⟩
  ·have:=Qo.mp hc.1 i (kb.mpr hi);unfold bE at this;split at this
   ·rename_i d ed;exact m_ kk ed
   ·cases this
  ·cases em:bp as ds δ1 with
   | none=>rw[em] at q1; exact q1.elim
   | some ss =>
    rw[em] at q1;simp only at q1
    cases eg:G ss with
    | none=>rw[eg] at q1; exact q1.elim
    | some y =>
     rw[eg] at q1;have fq:=vD a1.ok r1 em nd;obtain⟨m1,m2,_⟩:=pE r1 em;have g2:=hK ss y eg
     cases y with
     | inl y =>
      refine⟨ss,_,by rw[<- m2]; exact hl,fq,.inl y,eg,?_⟩;obtain⟨r,ar⟩:=y;intro v H2 a2 r2;obtain⟨o1,o2⟩:=si a1.ok r1 em nd rfl a2 (λj d ed=>(g2 j).1 d ed) λj d ed=>(g2 j).2 d ed
      exact q1 v H2 (a1.trans o1) (aM.back (o2 v r r2) a1)
     | inr y=>exact q1.elim
 ·exact q.elim
end
end DV
namespace PySem
open Sem (wp)
section
variable {prog:Wg} {w:Wm} {A:Wl} {E:Value->W2->Prop} {hp:Heap} {g:Array GenState} {d:Drawn} {t:Nat} {os:OsState}
variable {nm qn:Str} {C N:Addr} {bs bm sI:List Value} {gM:Bool} {sn:List Str} {sub:List Value} {ab:Bool} {col:Option Bool} {dd:Option Addr} {k0 k1 k2 k3 k5:Option Value} {B newId Dn:String}
theorem M9(F:ExcBaseFacts B newId Dn sI)(T:OwnTail hp sI bm)
  (hC:hp.get? C=some (excClassObj nm qn C N bs bm gM sn sub ab col dd k0 k1 k2 k3 k5 newId)) (hN:hp.Ns N mN) (hi:mN "__init__" = some (.ref f)) (hf:hp.get? f=some o) (pZ:o.cls = .type "function")
  (q:∀ h' e,Heap.MadeExcOf hp h' e (.ref C) vs->W6 (model prog w) A (call (.ref f) (.ref e :: vs)) (λr s'=>r = .none/\Q (.done (.ret (.ref e))) s') E ⟨h',g,d,t,os⟩) (hl:vs.length<=Wa) :
  W6 (model prog w) A (Builtin.«type.__call__» ⟨.ref C :: vs,[]⟩) Q E ⟨hp,g,d,t,os⟩:=by
 repeat (first | with_reducible refine Qf hC ?_ | with_reducible refine wpAny_madeBy_exc hC ?_ | wp_step)
 refine codeAny_call_builtin_code (Code.quiet_builtin _ F.quiet) (wpAny_check_new_subT F T hC (codeAny_exc_new_subT F T hC ?_ hl));show W6 _ _ _ _ _ _;have up:∀ {o1 o2:Obj} {b:Addr} {u:Obj},hp.get? b=some u->((hp.push o1).push o2).get? b=some u:=λe=>W3 _ (W3 _ e)
 have Dp:=up (o1:={ cls:=.type "tuple",data:=.seq vs.toArray }) (o2:={ cls:=.ref C,data:=.fields #[.ref hp.objs.size,.none,.none,.none,.bool false,.none] }) hC;have M_:=up (o1:={ cls:=.type "tuple",data:=.seq vs.toArray }) (o2:={ cls:=.ref C,data:=.fields #[.ref hp.objs.size,.none,.none,.none,.bool false,.none] }) hf;have Na:((hp.push { cls:=.type "tuple",data:=.seq vs.toArray }).push { cls:=.ref C,data:=.fields #[.ref hp.objs.size,.none,.none,.none,.bool false,.none] }).Ns N mN:=let ⟨o,es,ep,e,r⟩:=hN; ⟨o,es,ep,up e,r⟩
 have he:((hp.push { cls:=.type "tuple",data:=.seq vs.toArray }).push { cls:=.ref C,data:=.fields #[.ref hp.objs.size,.none,.none,.none,.bool false,.none] }).get? (hp.objs.size + 1)=some { cls:=.ref C,data:=.fields #[.ref hp.objs.size,.none,.none,.none,.bool false,.none] }:=by heap_get
 have hc:(Value.ref C :: bm).contains (.ref C)=true:=by simp
 have T1:=T.keeps (h':=(hp.push { cls:=.type "tuple",data:=.seq vs.toArray }).push { cls:=.ref C,data:=.fields #[.ref hp.objs.size,.none,.none,.none,.bool false,.none] }) λb o e=>up e
 unfold isInstance;repeat (first | with_reducible refine Qf he ?_ | (with_reducible refine wpAny_isSubtype_exc Dp ?_; rw[hc]) | wp_step)
 show W6 _ _ (typeLookup (.ref C) _) _ _ _;refine wpAny_typeLookup_tail Dp Na T1 F.mroIs F.init.lookup ?_;rw[hi];refine WU (W0 ?_);unfold bindSpecial;refine W0 (QQ (T:="function") ⟨_,M_,pZ⟩ ?_);rw[if_pos (by decide)];refine W4 (W0 (WC (q _ (hp.objs.size + 1) ⟨λb o hb=>up hb,Jo (Ju _),hp.objs.size,he,Jo (Wb _),W3 _ (Heap.get?_push_at rfl rfl)⟩) (λr s' hr=>?_) λ_ _ x=>x));obtain⟨rfl,hQ⟩:=hr;wp_walk
 exact hQ
theorem Nb(F:ExcBaseFacts B newId Dn sI)(T:OwnTail hp sI bm)
  (hC:hp.get? C=some (excClassObj nm qn C N bs bm gM sn sub ab col dd k0 k1 k2 k3 k5 newId)) (hN:hp.Ns N mN) (hi:mN "__init__" = some (.ref f)) (hf:hp.get? f=some o) (pZ:o.cls = .type "function")
  (q:∀ h' e,Heap.MadeExcOf hp h' e (.ref C) vs->W6 (model prog w) (A.under (.builtin "type.__call__" ⟨.ref C :: vs,[]⟩)) (call (.ref f) (.ref e :: vs)) (λr s'=>r = .none/\Q (.ref e) s') E ⟨h',g,d,t,os⟩) (hl:vs.length<=Wa) :
  W6 (model prog w) A (call (.ref C) vs) Q E ⟨hp,g,d,t,os⟩:=by
 have f1:=tc_lookup;have f2:=tc_bind (.ref C);have hT:(⟨hp,g,d,t,os⟩:W2).TypeIs (.ref C) "type":=⟨_,hC,rfl⟩
 refine Jp (codeAny_of_tree ?_); show W6 _ _ (callAny (.ref C) _) _ _ _
 repeat (any_goals (first | assumption | with_reducible refine Qf hC ?_ | wp_step))
 exact⟨rfl,codeAny_call_builtin_at (Code.quiet_builtin _ (by decide +kernel)) entry_typeCall (wpAny_check_type_call_sub hC (M9 F T hC hN hi hf pZ (λh' e hm=>q h' e hm) hl))⟩
theorem Nc(hh:A.handled=none)
  (h:W6 M A x (λv s1=>∃ (e C N:Addr) (dx:Option Addr) (vs:Array Value) (sl:Array (Option Value)) (nm qn:Str) (bs bm:List Value) (gM:Bool) (sn:List Str) (sub:List Value) (ab:Bool) (col:Option Bool) (dd:Option Addr) (k0 k1 k2 k3 k5:Option Value) (newId:String),
   v = .ref e/\bm.contains (.type "BaseException")=true/\s1.heap.get? C=some (excClassObj nm qn C N bs bm gM sn sub ab col dd k0 k1 k2 k3 k5 newId)/\s1.heap.get? e=some ⟨.ref C,dx,.fields vs,sl⟩/\vs[1]? = some .none/\E (.ref e) s1) E s) :
  W6 M A (raiseStmt env (some x) none) Q E s:=by
 unfold raiseStmt;refine W0 (WC h (λv s1 h1=>?_) λ_ _ x=>x);obtain⟨e,C,N,dx,vs,sl,nm,qn,bs,bm,gM,sn,sub,ab,col,dd,k0,k1,k2,k3,k5,newId,rfl,hb,hC,he,hv,hE⟩:=h1;have hc:(Value.ref C :: bm).contains (.type "BaseException")=true:=by rw[JI,hb,Bool.or_true]
 obtain⟨hp,g,d,tk,os⟩:=s1;repeat (first | with_reducible refine Qf he ?_ | with_reducible refine Qf hC ?_ | (with_reducible refine wpAny_isSubtype_exc hC ?_; rw[hc]) | wp_step)
 rw[hv];repeat (first | wp_step)
 exact wpAny_raiseNew_none hh hE
end
end PySem
namespace L2
open PySem PySem.Spec PyProof.Rows PySem.W PySem.Builtin PySem.Builtin.ObjectAttr
def sJ:List Value->Bool
 | .ref _ :: r=>sJ r
 | l=>l == jE
theorem wz (self:Value):∀ {l:List Value},sJ l=true->refuseLoop self "__setattr__" l=pure ()
 | [],e=>by cases e
 | .ref c :: r,e=>by rw[refuseLoop_ref]; exact wz self e
 | .none :: r,e=>by cases e
 | .type n :: r,e=>by
  have:(Value.type n :: r)=jE:=beq_iff_eq.mp e;rw[this]; exact PySem.F.store_ValueError.passes self
 | .bool b :: r,e=>by cases (beq_iff_eq.mp (show((Value.bool b :: r) == jE)=true from e))
 | v :: r,e=>by
  cases v <;> first
   | (rw[refuseLoop_ref]; exact wz self e)
   | (rw[show _=jE from beq_iff_eq.mp e]; exact PySem.F.store_ValueError.passes self)
theorem Dq:∀ {l:List Value},sJ l=true->l.contains (.type "object")=true
 | [],e=>by cases e
 | v :: r,e=>by
  cases v <;> first
   | (rw[JI,Dq (l:=r) e,Bool.or_true])
   | (rw[show _=jE from beq_iff_eq.mp e]; decide)
def sL(K:W1)(C:Addr):Bool:=(clsIn K C).any λcd=>sJ cd.mro
section
variable {prog:Wg} {w:Wm} {A:Wl} {E:Value->W2->Prop} {s:W2} {K:W1} {x C:Addr} {name:Str} {v:Value} {R:Result->W2->Prop}
theorem Nd(X:K.In s.heap)(I:InstAt s.heap x ox C od)(hp:sL K C=true)(ht:takerIn K C name=some none)
  (q:∀ b,W6 (model prog w) A.in1 (storeInOwnDict (.ref x) (.ref C) (.str name tk) name v b) (λfin s'=>match fin with | .done f=>R (.ok f) s' | .again c'=>c'.quiet=true/\Q4 (model prog w) A c' R s') (λe s'=>R (.error e) s') s) :
  Q4 (model prog w) A (.call (.builtin "object.__setattr__") ⟨[.ref x,.str name tk,v],[]⟩) R s:=by
 have SF:=PySem.F.store_object;obtain⟨cd,hc,ho⟩:=any_some hp;have ne:cd.mro.isEmpty=false:=by
  cases z:cd.mro with
  | nil=>rw[z] at ho; cases ho
  | cons _ _=>rfl
 have sub:Looks (model prog w) s.heap (isInstance (.ref x) (.type "object")) true:=I.type.andThen (looks_mroIn X (by unfold mroIn; rw[hc,Wu,if_neg (by rw[ne]; decide),Dq ho]));refine J3 SF.slot.plain SF.entry (@check_slot (model prog w) _ _ s "object.__setattr__" "object" "__setattr__" (.ref x) [.str name tk,v] [] _ SF.kind SF.split sub (SF.args (.ref x) (.str name tk) v) ?_);obtain⟨attr,ha,hr⟩:=Option.bind_eq_some_iff.mp ht;have hm:Looks (model prog w) s.heap (mroOf (.ref C)) cd.mro:=(looks_clsIn X hc).andThen .now;have L3:Looks (model prog w) s.heap (storeTaker? attr) none:=by
  cases attr with
  | none=>exact .now
  | some a =>
   obtain⟨b,hb,hn⟩:=Option.map_eq_some_iff.mp hr;refine(looks_takesIn X hb).andThen ?_
   cases b
   ·exact .now
   ·cases hn
 rw[osa_eq,refuse_eq];refine W0 (W0 (I.type.here (W0 (hm.here ?_))));rw[wz _ ho];exact W4 (W0 (I.type.here (W0 ((JJ X ha).here (W0 (L3.here (q _)))))))
theorem Nf(X:K.In s.heap)(hx:s.heap.get? x=some ⟨.ref C,none,.fields vs,sl⟩)
  (hs:Jr K (.ref C) "__setattr__" = some (some (.builtin "object.__setattr__"))) (hp:sL K C=true) (ht:takerIn K C name=some none) (hh:hasDictIn K C=true)
  (q:∀ h' tk,h'.get? x=some ⟨.ref C,some s.heap.objs.size,.fields vs,sl⟩->(∀ b o,b≠x->s.heap.get? b=some o->h'.get? b=some o)->h'.Ns1 s.heap.objs.size (λz=>if z=name then some v else none)->Q () { s with heap:=h',toks:=tk }) :
  W6 (model prog w) A (setAttr (.ref x) name v) Q E s:=by
 have J:InstAt s.heap x ⟨.ref C,none,.fields vs,sl⟩ C none:=⟨hx,rfl,rfl,trivial⟩
 refine set_plain X J hs (Nd (s:={ s with toks:=s.toks + 1 }) X J hp ht λb=>?_);obtain⟨cd,hc,hd'⟩:=any_some hh;have Dr:(s.heap.push { cls:=.type "dict",data:=.dict #[] }).get? x=some ⟨.ref C,none,.fields vs,sl⟩:=W3 _ hx;have Ds:x≠s.heap.objs.size:=Wq (Wf hx);refine W0 (W4 (W0 (W0 (wpAny_loadPart hx (W0 (PySem.W.Looks.here (s:={ s with toks:=s.toks + 1 }) (PySem.W.looks_clsIn X hc) ?_))))));rw[hd'];show W6 _ _ (alloc { cls:=.type "dict",data:=.dict #[] } >>= λd=>(update x λo=>{ cls:=o.cls,dict:=some d,data:=o.data,slots:=o.slots }) >>= λ_=>dictMade (.ref C) x d) _ _ _;refine W0 (wpAny_alloc' (W0 (wpAny_update' Dr (W4 ?_))));have gd:((s.heap.push { cls:=.type "dict",data:=.dict #[] }).update x λo=>{ cls:=o.cls,dict:=some s.heap.objs.size,data:=o.data,slots:=o.slots }).get? s.heap.objs.size=some { cls:=.type "dict",data:=.dict #[] }:=(Heap.get?_update_ne _ _ _ _ Ds.symm).trans (Heap.get?_push_at rfl rfl);have nd:((s.heap.push { cls:=.type "dict",data:=.dict #[] }).update x λo=>{ cls:=o.cls,dict:=some s.heap.objs.size,data:=o.data,slots:=o.slots }).Ns s.heap.objs.size (λ_=>none):=⟨_,#[],_,gd,rfl,λe he=>absurd he (by simp),λ_=>rfl⟩
 show W6 _ _ (storeInDict s.heap.objs.size (.str name _) name v) _ _ _;unfold storeInDict newKeyGuard;refine W0 (W4 (W0 (wpAny_nsSet1 (Heap.Ns1.of_empty nd) λh' kF sb=>?_)));obtain⟨oD,esD,epD,hoD,hdD,hcD⟩:=kF.count (Within.cons name v Within.nil);refine W0 (wpAny_lookBehind hoD (by rw[hdD]; exact pastItsLine_dict (WQ hcD (by rw[WE,JV,QC]; omega))) ?_);refine W4 (q h' _ ((sb.2 x Ds).trans (Wz _ Dr rfl)) (λb o hb e=>?_) kF);exact(sb.2 b (Wq (Wf e))).trans ((Heap.get?_update_ne _ _ _ _ hb).trans (W3 _ e))
theorem Ng{vs:Array Value}{sl:Array (Option Value)}{dx:Addr}{mA:Str->Option Value}{expr:Bool}{Q:Value->W2->Prop}(X:K.In s.heap)(hx:s.heap.get? x=some ⟨.ref C,some dx,.fields vs,sl⟩)(hd:s.heap.Ns1 dx mA)
  (k:ki K C) (nz:Jr K (.ref C) name=some none) (hh:hasDictIn K C=true)
  (hv:mA name=some v) (fq:handedIn v=true) (q:Q v { s with toks:=s.toks + 1 }):W6 (model prog w) A (getAttr (.ref x) name expr) Q E s:=by
 obtain⟨od,ho,hl⟩:=Ag hd;have J:InstAt s.heap x ⟨.ref C,some dx,.fields vs,sl⟩ C (some od):=⟨hx,rfl,rfl,ho⟩
 obtain⟨h,g,d,t,os⟩:=s;have L0:Looks (model prog w) h (typeOf (.ref x)) (.ref C):=J.type;have L1:=JJ (M:=model prog w) X k.ga;have L2:=JJ (M:=model prog w) X k.gt;have L4:=looks_find (M:=model prog w) X J (findObj_own (v:=v) hh nz rfl (by rw[hl,hv]));have MN:(expr && onTheHeap (Value.builtin "BaseException.__getattribute__"))=false:=by cases expr <;> rfl
 have pX:(Value.builtin "BaseException.__getattribute__" == Value.builtin "object.__getattribute__")=false:=by decide +kernel
 have f3:=F.attrBase_ValueError.ga.bind (.ref x);unfold getAttr getAttrBy;refine W0 (wpAny_mkText (WU (W0 (L0.at (W0 (L1.at ?_))))));dsimp only;rw[pX,Bool.and_false];simp only[Jh,if_false];unfold getAttrByItsOwn hookBefore;repeat (any_goals (first | assumption | with_reducible refine Looks.at L2 ?_ | wp_step))
 refine J3 F.attrBase_ValueError.ga.plain F.entry_bexc_ga (Df X k hx rfl ?_);repeat (any_goals (first | assumption | with_reducible refine Looks.at L0 ?_ | with_reducible refine Looks.at L4 ?_ | wp_step))
 show W6 _ _ (handedOut v) _ _ _;rw[handedOut_of fq]; exact W4 q
end
def lj(C a:Addr):Heap->Prop:=λh=>∃ vs sl a0,h.get? a=some ⟨.ref C,none,.fields vs,sl⟩/\vs[0]? = some a0/\vs[1]? = some .none
def il(C:Addr)(dx:Option Addr)(a:Addr):Heap->Prop:=λh=>∃ vs sl a0,h.get? a=some ⟨.ref C,dx,.fields vs,sl⟩/\vs[0]? = some a0/\vs[1]? = some .none
section
variable {P:Wg} {w:Wm} {H:Hp} {h:Heap} {C a:Addr}
theorem Nh(q:lj C a h):bq P w H h a (.ext (lj C a)):=by
 refine⟨q,?_,?_⟩
 ·obtain⟨vs,sl,a0,e,_⟩:=q;exact⟨_,e⟩
 ·rintro h1 h2 ⟨vs,sl,a0,e,r⟩ k;exact⟨vs,sl,a0,k _ e,r⟩
theorem Ni{dx:Option Addr}(q:il C dx a h):bq P w H h a (.ext (il C dx a)):=by
 refine⟨q,?_,?_⟩
 ·obtain⟨vs,sl,a0,e,_⟩:=q;exact⟨_,e⟩
 ·rintro h1 h2 ⟨vs,sl,a0,e,r⟩ k;exact⟨vs,sl,a0,k _ e,r⟩
theorem Nj{fs:List (Str×V)}(q:DV.iL fs a h):bq P w H h a (.ext (DV.iL fs a)):=by
 refine⟨q,?_,?_⟩
 ·obtain⟨mA,⟨o,_,_,e,_⟩,_⟩:=q;exact⟨_,e⟩
 ·rintro h1 h2 ⟨mA,⟨o,es,ep,e,c⟩,r⟩ k;exact⟨mA,⟨o,es,ep,k _ e,c⟩,r⟩
end
structure sM(K:W1)(C:Addr)(f:Str):Prop where
 set:Jr K (.ref C) "__setattr__" = some (some (.builtin "object.__setattr__"))
 over:sL K C=true
 hd:hasDictIn K C=true
 tk:takerIn K C f=some none
section
variable {X:Cx} {o value:Expr} {f:Str} {ta tv:TE} {pos pos':Pos}
def Dt(K:W1)(ta tv:TE)(f:Str):TS:=λD σ H=>tv σ H λy H1=>ta σ H1 λx H2=>∃ a C,x = .ref a/\H2 a=some (.ext (lj C a))/\sM K C f/\∀ dx,H2 dx=none->dx≠a->D.nx σ (upd (upd H2 a (.ext (il C (some dx) a))) dx (.ext (DV.iL [(f,y)] dx)))
theorem Nk{f g:Str}{y:V}{u:Value}(r:RelV y u):dG (List.lookup g [(f,y)]) (if g=f then some u else none):=by
 by_cases z:g=f
 ·subst z; simp[dG,r]
 ·rw[WT,beq_eq_false_iff_ne.mpr z,if_neg z]; trivial
theorem Nl(hex:X.ex=[])(ha:PE X o ta)(hv:PE X value tv)(hs:QO value (some (.Attribute o f pos')) pos.line X.env=pure false):PS X (.Assign [.Attribute o f pos'] value pos) (Dt X.K ta tv f):=by
 intro pins s σ H D I h;refine plainObj_wpAny_Assign_Attribute (aH (hv pins s σ H _ I h) λu s1 ⟨y,H1,I1,ry,q⟩=>aH (ha pins s1 σ H1 _ I1 q) λov s2 ⟨x,H2,I2,rx,a,C,ex,ea,c,q2⟩=>?_) hs;subst ex;obtain rfl:ov=Value.ref a:=rx;obtain⟨⟨vs,sl,a0,e0,e1,e2⟩,_,_⟩:=(show bq X.prog X.w H2 s2.heap a (.ext (lj C a)) from I2.ag a _ ea)
 have n0:=I2.ag.fresh (Wb s2.heap.objs.size);have ne:s2.heap.objs.size≠a:=QD (Wf e0);refine Nf I2.cn e0 c.set c.over c.tk c.hd λh' tk g1 g2 g3=>⟨σ,_,?_,q2 _ n0 ne⟩
 have Iw:=I2.write (x:=a) (e:=a) (t':=tk) (by rw[ea]; exact True.intro) (.inl rfl) (λb u nb z=>g2 b u nb z) ⟨_,g1⟩ (Ni (P:=X.prog) (w:=X.w) (H:=upd H2 a (.ext (il C (some s2.heap.objs.size) a))) ⟨vs,sl,a0,g1,e1,e2⟩);exact Iw.wa (I2.apart hex (Jo (Wb _)) (by rw[aQ ne]; exact n0)) (Nj ⟨_,g3,λg=>Nk ry⟩)
end
def ll(K:W1)(C f:Addr):Bool:=match K.lookup C with
 | some ⟨.type "type",_,.cls c,ss⟩=>(match c.mro,ss.toList with
  | .ref C' :: bm,[_,_,_,_,some (.builtin n),_]=>C' == C && n == "ValueError.__new__" && !c.hasDel && tailIn K jE bm && nsOkIn K c.ns && nsIn K c.ns "__init__" == some (some (.ref f))
  | _,_=>false)
 | _=>false
theorem Nm{K:W1}{h:Heap}{N:Addr}{m:Str->Option Value}{n:Str}{v:Value}(X:K.In h)(G:h.Ns N m)(e:nsIn K N n=some (some v)):m n=some v:=by
 obtain⟨o,es,ep,ho,hd,_,hf⟩:=G;unfold nsIn at e;split at e;next c d es' n' sl q =>
  have z:=X _ _ q;rw[ho] at z
  cases z;simp only at hd;injection hd with h1 h2
  subst h1;split at e;next x hx =>
   cases e;rw[<- hf n];unfold nsFind findBy;rw[<- Array.find?_toList,hx];rfl
  next=>split at e <;> cases e
 next=>cases e
theorem Du{K:W1}{C f:Addr}{h:Heap}(q:ll K C f=true)(X:K.In h):∃ (bm:List Value) (N:Addr) (nm qn:Str) (bs:List Value) (gM:Bool) (sn:List Str) (sub:List Value) (ab:Bool) (col:Option Bool) (dd:Option Addr) (k0 k1 k2 k3 k5:Option Value) (mN:Str->Option Value),
  h.get? C=some (excClassObj nm qn C N bs bm gM sn sub ab col dd k0 k1 k2 k3 k5 "ValueError.__new__")/\h.Ns N mN/\mN "__init__" = some (.ref f)/\OwnTail h jE bm:=by
 unfold ll at q;split at q;next dd cd sl lk =>
  split at q;next C' bm k0 k1 k2 k3 n k5 e1 e2 =>
   simp only[Ws,beq_iff_eq,JP] at q;obtain⟨⟨⟨⟨⟨c1,c2⟩,c3⟩,c4⟩,c5⟩,c6⟩:=q;subst c1; subst c2
   have e3:sl = #[k0,k1,k2,k3,some (.builtin "ValueError.__new__"),k5]:=by
    cases sl; simp only at e2; rw[e2]
   subst e3
   cases cd;simp only at e1 c3 c4 c5 c6 lk;subst e1; subst c3
   have hN:=Heap.Ns.of_isNs (isNs_of_in X c5);exact⟨bm,_,_,_,_,_,_,_,_,_,dd,k0,k1,k2,k3,k5,_,X _ _ lk,hN,Nm X hN c6,tail_of_in X c4⟩
  next=>cases q
 next=>cases q
section
variable {X:Cx} {k:Nat} {f C:Addr} {fd:Wy} {ps:List Str} {sp:Sp} {x:Str} {p pos:Pos} {e:Expr} {es:List Expr} {t:TA}
theorem Nn {K:W1} {h:Heap} (X:K.In h) (q:isFn K (.ref f)=true):∃ o,h.get? f=some o/\o.cls = .type "function":=by
 have z:(K.lookup f).map (·.cls)=some (.type "function"):=beq_iff_eq.mp q;obtain⟨o,lk,e⟩:=Option.map_eq_some_iff.mp z;exact⟨o,X _ _ lk,e⟩
theorem Nq{pins:List (Addr×Obj)}{σ:St}{H:Hp}{s:W2}{Q:VK}{us:List Value}{vs:List V}(q:ll X.K C f=true)(e_:isFn X.K (.ref f)=true)(F:c8 X.prog X.w X.K X.mg X.base bV k f fd ps sp)(hr:bj (k + 1) X.A)(hb:Binds X.K fd ps [])(hex:X.ex=[])
  (I:Inv X pins σ H s) (r:Vals vs us) (hl:us.length<=Wa)
  (h:∀ a,H a=none->X.s₀.heap.get? a=none->sp (.ref a :: vs) (upd H a (.ext (lj C a))) (λv H2=>v = .aq/\Q (.ref a) H2) E0) :
  W6 (model X.prog X.w) X.A (call (.ref C) us) (EP X pins σ Q) X.xe s:=by
 obtain⟨bm,N,nm,qn,bs,gM,sn,sub,ab,col,dd,k0,k1,k2,k3,k5,mN,hC,hN,hi,hT⟩:=Du q I.cn;obtain⟨o,hf,pZ⟩:=Nn I.cn e_;obtain⟨hp,g,d,tk,os⟩:=s;refine Nb PySem.F.excBase_ValueError hT hC hN hi hf pZ (λh' a hm=>?_) hl;obtain⟨t0,ht,_,_⟩:=hm.there;have I1:Inv X pins σ H ⟨h',g,d,tk,os⟩:=I.kept (t':=tk) hm.keeps;have g1:=I.gone hex hm.new;have ap:=I.apart hex hm.new g1.1;have I2:Inv X pins σ (upd H a (.ext (lj C a))) ⟨h',g,d,tk,os⟩:=I1.wa ap (Nh ⟨_,_,_,ht,rfl,rfl⟩);have hq:=h a g1.1 g1.2;have r2:Vals (V.ref a :: vs) (Value.ref a :: us):=.cons rfl r;have sN:(Value.ref a :: us ++ []).length=ps.length:=by
  rw[WK,<- r2.length]; exact F.len _ _ _ _ hq
 refine Jp (Qk (F.run _ X.stack _ _ ⟨Value.ref a :: us,[]⟩ (Value.ref a :: us) _ _ E0 (hr.make C us []) (I2.mM.make C us []) (by have:=hb _ (Value.ref a :: us) I2.cn sN; rwa [WK] at this) r2 hq) λrr s' iZ=>?_)
 cases rr with
 | error z=>exact iZ.elim
 | ok fl =>
  cases fl with
  | ret u =>
   obtain⟨v,H',I3,rv,ev,q3⟩:=I2.after iZ;subst ev;exact⟨rv,⟨V.ref a,H',I3,rfl,q3⟩⟩
  | next=>exact False.elim iZ
  | brk=>exact False.elim iZ
  | cont=>exact False.elim iZ
theorem Nr(q:ll X.K C f=true)(e_:isFn X.K (.ref f)=true)(hk:keepIn X.K (.ref C)=true)(F:c8 X.prog X.w X.K X.mg X.base bV k f fd ps sp)(hr:bj (k + 1) X.A)(hb:Binds X.K fd ps [])(hex:X.ex=[])(hg:Gl X x)(hm:X.mg x=some (.ref C))
  (ha:PA X (e :: es) t) (hl:(e :: es).length<=100) (cq:(x == ("__debug__" : Str))=false:=by decide) (he:W5 (e :: es) X.env=(false,eval e X.env) :: W5 es X.env:=by rfl) (bx:(WN pos (W5 es X.env)).any (·.1)=false:=by rfl) :
  PE X (.Call (.Name x p) (e :: es) [] pos) (λσ H Q=>t σ H λvs H1=>vs.length<=100/\∀ a,H1 a=none->X.s₀.heap.get? a=none->sp (.ref a :: vs) (upd H1 a (.ext (lj C a))) (λv H2=>v = .aq/\Q (.ref a) H2) E0):=by
 intro pins s σ H Q I h;refine Ql (lM I hg hm ?_ cq);refine callWith_K (h₀:=X.base) I.ok.mod.jL hk (aH (ha pos pins s σ H _ I h) λus s1 ⟨vs,H1,I1,r,q1⟩=>⟨I1.cn,?_⟩) he bx;exact Nq q e_ F hr hb hex I1 r (by rw[Q1,<- r.length,QC]; have:=q1.1; omega) q1.2
end
def wA(K:W1)(fl:List Str):Sp:=λvs H Q _=>∃ a C ys,vs = .ref a :: ys/\ys.length=fl.length/\H a=some (.ext (lj C a))/\(∀ f ∈ fl,sM K C f)/\∀ dx,H dx=none->dx≠a->Q .aq (upd (upd H a (.ext (il C (some dx) a))) dx (.ext (DV.iL (fl.zip ys) dx)))
section
variable {P:Wg} {w:Wm} {K:W1} {mg:Str->Option Value} {base:Heap} {x qual f1 f2:Str} {st:Stmt} {f:Addr} {fd:Wy} {N ps:List Str} {k:Nat}
theorem Nt(F:bH K x qual st f fd)(S:bS N ps (aC st))(jA:ps.length=2)(h0:∀ vs:List V,vs.length=2->start N vs=vs.map some)
  (bU:∀ (aj:Value) (A:Wl) (outer:List Env) (s:W2) (H:Hp) (E:XK),bj k (A.deeper (Qu qual (aC st) s.heap.objs.size f aj))->cX (cE bV P w K mg base N qual (aC st) f aj A outer s H E).dX (cu st) (Dt K (cY 0) (cY 1) f1)) :
  c8 P w K mg base bV (k + 1) f fd ps (wA K [f1]):=by
 refine F.ok S (λvs H Q E ⟨a,C,ys,e,l,_⟩=>by rw[e,jA,WE,l]; rfl) λaj A outer s H vs Q E hr ⟨a,C,ys,e,l,ea,c,q⟩=>⟨_,bU aj A outer s H E hr,?_⟩
 subst e;obtain⟨y,rfl⟩:=List.length_eq_one_iff.mp l;rw[h0 _ rfl];exact⟨y,rfl,.ref a,rfl,a,C,rfl,ea,c _ (by simp),q⟩
end
theorem bq.less:∀ {b:Addr} {o:HO},bq P w (upd H a (.ext φ)) h b o->bq P w H h b o:=by
 have dn:∀ {c:Addr} {u:HO},upd H a (.ext φ) c=some u->(∀ ψ,u≠.ext ψ)->H c=some u:=λ{c u} e n=>by
  by_cases hc:c=a
  ·subst hc; rw[b7] at e; cases e; exact absurd rfl (n φ)
  ·rw[aQ hc] at e; exact e
 intro b o;induction o generalizing b with
 | dT kvs =>
  rintro ⟨h1,h2,xs,h3,h4⟩;refine⟨h1,h2,xs,L2.Paired.qw h3 (λp q ⟨e1,e2,e3⟩=>⟨e1,dn e2 (λψ z=>by cases z),e3⟩),h4⟩
 | ins C dx fs =>
  rintro ⟨h1,h2⟩;exact⟨dn h1 (λψ z=>by cases z),h2⟩
 | frz ob u ih=>exactλ⟨h1,h2⟩=>⟨h1,ih h2⟩
 | ctab pos q=>exactλ⟨ps,h1,h2,h3⟩=>⟨ps,h1,h2,λcv z=>let ⟨c',oc,z1,z2,z3⟩:=h3 cv z; ⟨c',oc,z1,dn z2 (λψ z=>by cases z),z3⟩⟩
 | _=>exactλx=>x
theorem Inv.Nu(I:Inv X pins σ (upd H a (.ext φ)) s)(hn:H a=none):Inv X pins σ H s:=by
 have dn:∀ {c:Addr} {u:HO},upd H a (.ext φ) c=some u->(∀ ψ,u≠.ext ψ)->H c=some u:=λ{c u} e n=>by
  by_cases hc:c=a
  ·subst hc; rw[b7] at e; cases e; exact absurd rfl (n φ)
  ·rw[aQ hc] at e; exact e
 have no:∀ {c:Addr},upd H a (.ext φ) c=none->H c=none:=λ{c} e=>by
  by_cases hc:c=a
  ·subst hc; exact hn
  ·rw[aQ hc] at e; exact e
 refine⟨I.ok,I.os,I.bare,⟨I.base.keep,I.base.slot,λb o e n hx=>no (I.base.free b o e n hx),I.base.there,λb xs e=>dn (I.base.gU b xs e) (λψ z=>by cases z),λb o u e=>dn (I.base.fN b o u e) (λψ z=>by cases z),λb ps e=>?_⟩,I.loc,I.cell,no I.free,λx c e=>no (I.du x c e),λp hp=>?_,λb o e=>?_,I.len⟩
 ·obtain⟨m,q⟩:=I.base.gW b ps e;exact⟨m,dn q (λψ z=>by cases z)⟩
 ·obtain⟨e,n,r⟩:=I.pin p hp;exact⟨e,no n,r⟩
 ·have hb:b≠a:=λz=>by rw[z,hn] at e; cases e
  exact(I.ag b o (by rw[aQ hb]; exact e)).less
section
variable {X:Cx} {C f:Addr} {call:Expr} {te:TE} {pos:Pos}
theorem Nv{W:Option Addr->St->Hp->Prop}(q:ll X.K C f=true)(hc:X.calm=true)(he:PE X call te)
  (mU:∀ pins σ H s a dx,Inv X pins σ (upd H a (.ext (il C dx a))) s->H a=none->X.s₀.heap.get? a=none->W dx σ H->X.xe (.ref a) s) :
  PS X (.Raise (some call) none pos) (λ_ σ H=>te σ H λv H2=>∃ a H1 dx,v = .ref a/\H2=upd H1 a (.ext (il C dx a))/\H1 a=none/\X.s₀.heap.get? a=none/\W dx σ H1):=by
 intro pins s σ H D I h;rw[arm_exec_Raise];refine W0 (wpAny_standAt (Nc (I.ok.hd hc) (W0 (aH (he pins s σ H _ I h) λv s1 ⟨x,H2,I2,rx,a,H1,dx,ex,eH,n1,n2,w⟩=>W0 (wpAny_standAt (W4 ?_))))));subst ex eH;obtain rfl:v=Value.ref a:=rx;obtain⟨bm,N,nm,qn,bs,gM,sn,sub,ab,col,dd,k0,k1,k2,k3,k5,mN,hC,hN,hi,hT⟩:=Du q I2.cn;obtain⟨⟨vs,sl,a0,e0,e1,e2⟩,_,_⟩:=(show bq X.prog X.w (upd H1 a (.ext (il C dx a))) s1.heap a (.ext (il C dx a)) from I2.ag a _ b7)
 exact⟨a,C,N,dx,vs,sl,nm,qn,bs,bm,gM,sn,sub,ab,col,dd,k0,k1,k2,k3,k5,_,rfl,hT.hasType rfl,hC,e0,e2,mU pins σ H1 s1 a dx I2 n1 n2 w⟩
end
end L2
namespace DV
open PySem PySem.Spec PyProof.Rows L2 PySem.W
def nL(y:Tx)(fl:List Tx)(fs:DA):DS:=λδ=>(fs δ).bind λds δ1=>if ds.length=fl.length then .exc ⟨y,.xd (fl.zip ds)⟩ δ1 else .stuck
theorem Nw{c:Fc}{σ:St}{δ:Dl}{H:Hp}{dx:Addr}{vs:List V}{fl:List Tx}{ds:List D}(k:Ok c σ δ H)(n:H dx=none)(r:ax H (Av c σ δ) vs ds)(hl:ds.length=fl.length) :
  Ok c σ δ (upd H dx (.ext (iL ((fl.map toS).zip vs) dx)))/\Rep (upd H dx (.ext (iL ((fl.map toS).zip vs) dx))) (Av c σ δ) (.ref dx) (.xd (fl.zip ds)):=by
 have r1:=ax.dA r (ay.alloc k n (.ext (iL ((fl.map toS).zip vs) dx)));refine⟨k.alloc n _,.xd (k.gi n) b7 ?_ λi p q e1 e2=>?_⟩
 ·rw[List.map_fst_zip (by rw[Wx,r.1,hl]; omega)];have z:(fl.zip ds).map (λp=>toS p.1)=((fl.zip ds).map Prod.fst).map toS:=by rw[WA]; rfl
  rw[z,List.map_fst_zip (by omega)]
 ·rw[List.getElem?_zip_eq_some] at e1 e2;exact r1.2 i _ _ e1.2 e2.2
theorem Nx{X:Cx}{c:Fc}{x:Str}{fl:List Str}{C f:Addr}{fd:Wy}{ps:List Str}{k:Nat}{e:Expr}{es:List Expr}{fe:DA}{np aU pos:Pos}(y:Tx)(gl:List Tx)(q:ll X.K C f=true)(e_:isFn X.K (.ref f)=true)(hk:keepIn X.K (.ref C)=true)(hS:∀ z ∈ fl,sM X.K C z)
  (F:c8 X.prog X.w X.K X.mg X.base bV k f fd ps (wA X.K fl)) (hr:bj (k + 1) X.A) (hb:Binds X.K fd ps []) (hc:X.calm=true) (hg:Gl X x) (hm:X.mg x=some (.ref C)) (he:SA X c (e :: es) fe) (hx:iY X (wD X.mg c)) (hl:(e :: es).length<=100) (sO:fl=gl.map toS:=by decide +kernel) (sN:fl.length<=100:=by decide) (hy:x=toS y:=by decide +kernel) (hd:(x == ("__debug__" : Str))=false:=by decide) (hex:X.ex=[]:=by rfl)
  (hs:W5 (e :: es) X.env=(false,eval e X.env) :: W5 es X.env:=by rfl) (bx:(WN aU (W5 es X.env)).any (·.1)=false:=by rfl):SS X c (.Raise (some (.Call (.Name x np) (e :: es) [] aU)) none pos) (nL y gl fe) :=
 PS.weak (Nv (W:=λdx σ H=>wD X.mg c C dx σ H) q hc (Nr (p:=np) (pos:=aU) q e_ hk F hr hb hex hg hm he.pa hl hd hs bx) λpins σ H s a dx I n1 n2 w=>by
  obtain⟨⟨vs,sl,a0,e0,e1,e2⟩,_,_⟩:=(show bq X.prog X.w (upd H a (.ext (il C dx a))) s.heap a (.ext (il C dx a)) from I.ag a _ b7)
  have ne:∀ {b:Addr},upd H a (.ext (il C dx a)) b=none->a≠b:=λ{b} z e=>by rw[<- e,b7] at z; cases z
  exact hx pins σ H s a C dx (I.Nu n1) (.inr ⟨⟨vs,sl,a0,e0,e1,e2⟩,n2,n1,ne I.free,λx c hc z=>ne (I.du x c hc) z.symm,λp hp z=>ne (I.pin p hp).2.1 z.symm⟩) w) λD σ H ⟨δ,k,q⟩=>by
  unfold nL cW at q;rw[aX] at q;refine⟨δ,k,aL q λds δ1 q1 vs H1 a1 r1=>?_⟩;split at q1
  ·rename_i hlen;have Ny:vs.length=fl.length:=by rw[r1.1,hlen,sO,Wx]
   refine⟨by omega,λa n1 n2=>⟨a,C,vs,rfl,Ny,b7,hS,λdx d1 d2=>⟨rfl,a,upd H1 dx (.ext (iL (fl.zip vs) dx)),some dx,rfl,?_,?_,n2,?_⟩⟩⟩
   ·funext b
    unfold upd;by_cases hb:b=a
    ·subst hb; simp[Ne.symm d2]
    ·simp[hb]
   ·rw[aQ (Ne.symm d2)]; exact n1
   ·have Nz:H1 dx=none:=by rwa [aQ d2] at d1
    obtain⟨k1,rx⟩:=Nw (fl:=gl) a1.ok Nz r1 hlen;rw[sO];exact⟨⟨y,.xd (gl.zip ds)⟩,δ1,.ref dx,by rw[<- hy]; exact hm,k1,rx,λz e=>by cases e; rfl,q1⟩
  ·exact q1.elim
def wB(P:Wg)(w:Wm)(K:W1)(mg:Str->Option Value)(base:Heap)(C:Addr)(fl:List Str):Prop :=
 ∃ (f:Addr) (fd:Wy) (ps:List Str),ll K C f=true/\isFn K (.ref f)=true/\keepIn K (.ref C)=true/\(∀ z ∈ fl,sM K C z)/\Binds K fd ps []/\c8 P w K mg base bV 1 f fd ps (wA K fl)
theorem NA{X:Cx}{c:Fc}{x:Str}{fl:List Str}{C:Addr}{e:Expr}{es:List Expr}{fe:DA}{np aU pos:Pos}(y:Tx)(gl:List Tx)(N:wB X.prog X.w X.K X.mg X.base C fl)(hr:bj 2 X.A)(hc:X.calm=true)(hg:Gl X x)(hm:X.mg x=some (.ref C))(he:SA X c (e :: es) fe)(hx:iY X (wD X.mg c))(hl:(e :: es).length<=100:=by decide)(sO:fl=gl.map toS:=by decide +kernel)(sN:fl.length<=100:=by decide)
  (hy:x=toS y:=by decide +kernel) (hd:(x == ("__debug__" : Str))=false:=by decide) (hex:X.ex=[]:=by rfl) (hs:W5 (e :: es) X.env=(false,eval e X.env) :: W5 es X.env:=by rfl) (bx:(WN aU (W5 es X.env)).any (·.1)=false:=by rfl):SS X c (.Raise (some (.Call (.Name x np) (e :: es) [] aU)) none pos) (nL y gl fe):=by
 obtain⟨f,fd,ps,h1,h2,h3,h4,h5,h6⟩:=N;exact Nx y gl h1 h2 h3 h4 h6 hr h5 hc hg hm he hx hl sO sN hy hd hex hs bx
def NB:Stmt->List Stmt
 | .ClassDef _ _ _ b _ _ _ _ _ _ _=>b
 | _=>[]
section
variable {X:Cx} {c:Fc} {e:Expr} {fb:BE}
end
end DV
namespace L2
open PySem PySem.Spec PyProof.Rows
section
variable {X:Cx} {tg:Expr}
end
end L2
namespace DV
open PySem PySem.Spec PyProof.Rows L2
section
variable {X:Cx} {c:Fc} {tg e:Expr} {fe:DE} {pos pp:Pos}
end
end DV
namespace PySem.SeqAt
open AutoSeq1 (wpAny_loadPart')
open MeetsSeq
section
variable {A:Wl} {s:W2}
end
end PySem.SeqAt
namespace DV
open PySem PySem.Spec PyProof.Rows L2
end DV
namespace PySem.SeqAt
open AutoSeq1 (wpAny_loadPart')
open MeetsSeq
abbrev prO (dd:Option Addr) (a1 a2:Int) (t1 t2:Tok) (n:Nat) (sl:Array (Option Value)):Obj:={ cls:=.type "tuple",dict:=dd,data:=.seq #[.int a1 t1,.int a2 t2] n,slots:=sl }
def ltP(a1 a2 b1 b2:Int):Bool:=if a1 == b1 then decide (a2 < b2) else decide (a1 < b1)
theorem z9e(l b:Addr)(a1 a2 b1 b2:Int)(t1 t2 u1 u2:Tok)(n n2:Nat)(dd lP:Option Addr)(sl kL:Array (Option Value)) :
  Meets (Builtin.«tuple.__lt__» ⟨[.ref l,.ref b],[]⟩)
   (λ_ R s=>s.heap.get? l=some (prO dd a1 a2 t1 t2 n sl)/\s.heap.get? b=some (prO lP b1 b2 u1 u2 n2 kL)/\R (.ok (.ret (.bool (ltP a1 a2 b1 b2)))) s) :=
 .of_wp λprog w A R s h=>by
  obtain⟨hp,g,d,tk,os⟩:=s; obtain⟨hl,hb,h⟩:=h
  have f2:=AutoSeq1.sub_tuple_tuple;wp_walk using Qa hl,Qa hb,wpAny_forIn_list _ (λrest c s'=>c.1=none/\s' = ⟨hp,g,d,tk,os⟩ /\
   (rest=[(.int a1 t1,.int b1 u1),(.int a2 t2,.int b2 u2)]\/(rest=[(.int a2 t2,.int b2 u2)]/\a1=b1)\/(rest=[]/\a1=b1/\a2=b2))) _
  case turn =>
   rintro ⟨y,x⟩ rest c s' ⟨hc,rfl,hz⟩;rcases hz with hz | ⟨hz,e1⟩ | ⟨hz,_⟩
   ·injection hz with pS hrest
    cases pS;refine W0 (EqAt.int_int a1 t1 b1 u1 prog w _ _ ?_);by_cases e:a1=b1
    ·rw[show(a1 == b1)=true by simp[e]];wp_walk
     exact⟨rfl,rfl,.inr (.inl ⟨hrest,e⟩)⟩
    ·rw[show(a1 == b1)=false by simp[e]];have aY:ltP a1 a2 b1 b2=decide (a1 < b1):=by simp[ltP,e]
     rw[aY] at h;simp only[Bool.not_false,if_true];refine W0 (QN ?_);refine W0 (richCompare_gives (op:=.Lt) (JL _ _ t1) (JL _ _ u1) F.slot_int_lt F.entry_int_lt (F.args_int_lt_2 _ _) (gives_int_lt _ _ t1 u1) (λx=>nomatch x) ?_);refine W0 (W4 ?_);exact W4 (W4 ⟨_,rfl,h⟩)
   ·injection hz with pS hrest
    cases pS;refine W0 (EqAt.int_int a2 t2 b2 u2 prog w _ _ ?_);by_cases e:a2=b2
    ·rw[show(a2 == b2)=true by simp[e]];wp_walk
     exact⟨rfl,rfl,.inr (.inr ⟨hrest,e1,e⟩)⟩
    ·rw[show(a2 == b2)=false by simp[e]];have aY:ltP a1 a2 b1 b2=decide (a2 < b2):=by simp[ltP,e1]
     rw[aY] at h;simp only[Bool.not_false,if_true];refine W0 (QN ?_);refine W0 (richCompare_gives (op:=.Lt) (JL _ _ t2) (JL _ _ u2) F.slot_int_lt F.entry_int_lt (F.args_int_lt_2 _ _) (gives_int_lt _ _ t2 u2) (λx=>nomatch x) ?_);refine W0 (W4 ?_);exact W4 (W4 ⟨_,rfl,h⟩)
   ·cases hz
  case fin =>
   rintro ⟨c1,c2⟩ s' ⟨hc,rfl,hz⟩;simp only at hc;subst hc;rcases hz with hz | ⟨hz,e1⟩ | ⟨_,e1,e2⟩
   ·cases hz
   ·cases hz
   ·have aY:ltP a1 a2 b1 b2=false:=by simp[ltP,e1,e2]
    rw[aY] at h;wp_walk
    exact⟨_,rfl,h⟩
  case h=>exact⟨rfl,rfl,.inl rfl⟩
end PySem.SeqAt
namespace PySem
open SeqAt (prO ltP z9e)
section
variable {prog:Wg} {w:Wm} {A:Wl} {R:Result->W2->Prop} {I:Addr} {fp wr:List Addr} {n:Nat} {P:Nat->Value->Prop} {St:Nat->Heap->Prop}
end
section
variable {prog:Wg} {w:Wm} {A:Wl} {E:Value->W2->Prop} {s:W2}
end
end PySem
namespace DV
open PySem PySem.Spec PyProof.Rows L2
open PySem.SeqAt (prO ltP)
section
variable {X:Cx} {c:Fc} {e:Expr} {fb:BE} {pos pp:Pos}
end
def mq(fk fv:DE):DE:=λδ=>(fk δ).bind λr δ1=>(fv δ1).bind λs δ2=>match r,s with
 | .pure dk,.pure d=>match bP dk with
  | some kk=>.ok (.own (.aB [(kk,d)])) δ2
  | none=>.stuck
 | _,_=>.stuck
section
variable {c:Fc} {σ:St} {δ δ':Dl} {H H':Hp} {p:Addr}
theorem Ok.NC(k:Ok (c.plus p) σ δ H)(h0:c.H₀ p=none)(o:HO):Ok (c.plus p) σ δ (upd H p o):=by
 have r9:∀ b w,H b=some w->¬ Av (c.plus p) σ δ b->upd H p o b=some w:=λb w e n=>by
  rw[aQ (λz:b=p=>n (.inl (.inr z)))]; exact e
 have ex:∀ b,(∃ w,H b=some w)->∃ w,upd H p o b=some w:=λb ⟨w,e⟩=>by
  by_cases z:b=p
  ·rw[z]; exact⟨o,b7⟩
  ·rw[aQ z]; exact⟨w,e⟩
 refine⟨λa w e n=>?_,λa z=>ex a (k.bd a z),λa z=>ex a (k.cw a z),k.len,λi d e=>?_,λi d e=>?_,k.inj,k.pinned⟩
 ·rw[aQ (λz:a=p=>by have e':c.H₀ a=some w:=e; rw[z,h0] at e'; cases e')];exact k.keep a w e n
 ·obtain⟨v,e1,r⟩:=k.slot i d e;exact⟨v,e1,r.keep r9⟩
 ·obtain⟨a,e1,oa,h1,h2⟩:=k.own i d e;exact⟨a,e1,oa.keep r9 (λw e=>by rw[aQ (λz:a=p=>h2 (.inr z))]; exact e),h1,h2⟩
theorem Dv(h:post c r k)(m:∀ a δ,k a δ->k' a δ):post (c.plus p) r k':=by
 cases r with
 | ok a δ=>exact m a δ h
 | exc x δ=>exact h
 | stuck=>exact h
end
theorem Dw{X:Cx}{c:Fc}{k v:Expr}{fk fv:DE}{pos:Pos}(hk:∀ c',SE X c' k fk)(hv:∀ c',SE X c' v fv):SE X c (.Dict [some k] [v] pos) (mq fk fv):=by
 have PK:PE X k (λσ H Q=>∃ c',tD c' fk σ H Q):=λpins s σ H Q I ⟨c',h⟩=>hk c' pins s σ H Q I h
 have PV:PE X v (λσ H Q=>∃ c',tD c' fv σ H Q):=λpins s σ H Q I ⟨c',h⟩=>hv c' pins s σ H Q I h
 refine PE.weak (HU (HR PK PV HQ) rfl rfl (by simp) (by simp)) λσ H Q ⟨δ,kk,q⟩=>?_
 intro p hp;show ∃ c',tD c' fk σ (upd H p (.dK [])) λx H1=>∃ c',tD c' fv σ H1 λy H2=>H2 p=some (.dK [])/\∃ kvs:List (Key×V),[(x,y)]=kvs.map (λkv=>(kV kv.1,kv.2))/\kvs.length<=15/\Q (.ref p) (upd H2 p (.dK (lT [] kvs)))
 unfold mq at q;rw[aX] at q;refine⟨c.plus p,δ,kk.plus hp _,Dv q λr δ1 q1 x H1 a1 rx=>?_⟩;rw[aX] at q1;refine⟨c.plus p,δ1,a1.ok,Dv q1 λs δ2 q2 y H2 a2 ry=>?_⟩;have A:=a1.trans a2;have h0:=kk.jX hp;have nb:¬ c.B p:=λz=>kk.gi hp (.inl z)
 have ND:H2 p=some (.dK []):=A.keep p _ b7 λz=>kk.gi hp (.inr z)
 cases r with
 | own d=>exact q2.elim
 | pure dk =>
  cases s with
  | own d=>exact q2.elim
  | pure d =>
   cases hkd:bP dk with
   | none=>simp only[hkd] at q2; exact q2.elim
   | some kd =>
    simp only[hkd] at q2;have ex:x=kV (cz kd):=nC hkd (.inl rx);refine⟨ND,[(cz kd,y)],by rw[ex]; rfl,by simp,?_⟩;have em:lT [] [(cz kd,y)]=[(cz kd,y)]:=rfl;rw[em];have Dx:=A.ok.NC h0 (.dK [(cz kd,y)]);have ne:∀ {a w},H a=some w->a≠p:=λe z=>by rw[z,hp] at e; cases e
    refine q2 (.ref p) _ ⟨Dx.less,λa w e n=>?_,λa z=>?_,λa w e=>?_⟩ ⟨p,rfl,⟨[(cz kd,y)],b7,rfl,λi u t e1 e2=>?_⟩,nb,h0,Dx,hp⟩
    ·rw[aQ (ne e)];exact A.keep a w (by rw[aQ (ne e)]; exact e) n
    ·by_cases zp:a=p
     ·rw[zp]; exact .inr hp
     ·rcases A.own a z with z | z
      ·exact .inl z
      ·rw[aQ zp] at z; exact .inr z
    ·obtain⟨w',e'⟩:=A.there a w (by rw[aQ (ne e)]; exact e);exact⟨w',by rw[aQ (ne e)]; exact e'⟩
    ·match i with
     | 0 =>
      cases e1
      cases e2;exact Rep.keep (show Rep H2 (Av (c.plus p) σ δ2) y d from ry) λb w e n=>by rw[aQ (λz:b=p=>n (.inl (.inr z)))]; exact e
     | i + 1=>cases e1
end DV
namespace L2
open PySem PySem.Spec PyProof.Rows
end L2
namespace DV
open PySem PySem.Spec PyProof.Rows L2
section
variable {X:Cx} {c:Fc} {tg e:Expr} {fe:DE} {pos pp:Pos}
end
section
variable {K:W1} {h:Heap} {mg:Str->Option Value} {x q:Str} {st:Stmt} {f:Addr} {fd:Wy}
abbrev eO(K:W1)(x:Str)(st:Stmt):Prop:=∃ (f:Addr) (oc:Value) (od:Option Addr) (kV dc pm:Value) (an:Option Addr) (cd ct:Value) (sl:Array (Option Value)),
 PySem.W.nsIn K Wn x=some (some (.ref f))/\K.lookup f=some ⟨oc,od,.func (WR x x (fc st) (cu st) (aC st) .none kV dc pm an cd ct),sl⟩/\PySem.W.codeIn K cd x=true/\WZ K (.ref f)=true
theorem eZ(X:K.In h)(G:h.Ns Wn mg)(d:eO K x st):∃ f fd,bH K x x st f fd/\mg x=some (.ref f):=by
 obtain⟨f,oc,od,kV,dc,pm,an,cd,ct,sl,a,l,c,k⟩:=d;exact⟨f,_,qX l c k,PySem.W.mg_of X G a⟩
abbrev Bd(x q:Str)(st:Stmt)(ps:List Str)(us:List Value):Prop:=∀ (kV doc pm:Value) (an:Option Addr) (aj ct:Value),bindArgs (WR x q (fc st) (cu st) (aC st) .none kV doc pm an aj ct) ⟨us,[]⟩=pure (ps.zip us)
variable {p1 p2 p3 p4 p5 p6:Str}
theorem nM(F:bH K x q st f fd)(h:∀ a,Bd x q st [p1] [a]):Binds K fd [p1] []:=F.binds λ_ _ _ _ _ _ us hl=>match us,hl with
 | [a],_=>h a _ _ _ _ _ _
theorem gN(F:bH K x q st f fd)(h:∀ a b,Bd x q st [p1,p2] [a,b]):Binds K fd [p1,p2] []:=F.binds λ_ _ _ _ _ _ us hl=>match us,hl with
 | [a,b],_=>h a b _ _ _ _ _ _
theorem NF(F:bH K x q st f fd)(h:∀ a b c d,Bd x q st [p1,p2,p3,p4] [a,b,c,d]):Binds K fd [p1,p2,p3,p4] []:=F.binds λ_ _ _ _ _ _ us hl=>match us,hl with
 | [a,b,c,d],_=>h a b c d _ _ _ _ _ _
end
theorem cb{α:Type}{P:α->Prop}{a:α}(x:P a):∀ z ∈ [a],P z:=λ_ h=>by cases h with | head=>exact x | tail _ h=>cases h
end DV
namespace L2
open PySem PySem.Spec PyProof.Rows
section
variable {X:Cx} {tg:Expr}
end
section
variable {X:Cx} {e:Expr} {ta:TE} {f:Str} {pos:Pos}
structure wC(K:W1)(ce:DV.Tx->Nat)(ys:List DV.Tx)(f:Str):Prop where
 k:∀ z ∈ ys,ki K (ce z)
 no:∀ z ∈ ys,Jl K (.ref (ce z)) f=some none
 hd:∀ z ∈ ys,JN K (ce z)=true
theorem NG(T:wC X.K ce ys f)(he:PE X e ta)(hb:Qq e f X.env (eval e X.env)=eval e X.env) :
  PE X (.Attribute e f pos) (λσ H Q=>ta σ H λx H1=>∃ (a dx:Addr) (z:DV.Tx) (fs:List (Str×V)) (v:V),x = .ref a/\z ∈ ys/\H1 a=some (.ext (DV.excAt (ce z) (.ref dx) a))/\H1 dx=some (.ext (DV.iL fs dx))/\fs.lookup f=some v/\Q v H1):=by
 intro pins s σ H Q I h;refine GX hb (aH (he pins s σ H _ I h) λu s1 ⟨x,H1,I1,rx,a,dx,z,fs,v,ex,hz,ea,ed,l,q⟩=>?_);subst ex;obtain rfl:u=Value.ref a:=rx;obtain⟨⟨⟨cls,dd,data,sl⟩,o1,o2,o3,vs,o4⟩,_,_⟩:=(show bq X.prog X.w H1 s1.heap a (.ext (DV.excAt (ce z) (.ref dx) a)) from I1.ag a _ ea)
 obtain⟨⟨mA,ns,rl⟩,_,_⟩:=(show bq X.prog X.w H1 s1.heap dx (.ext (DV.iL fs dx)) from I1.ag dx _ ed)
 have o5:dd=some dx:=o3 dx rfl;have o6:cls = .ref (ce z):=o2;have o7:data = .fields vs:=o4;subst o5; subst o6; subst o7
 obtain⟨w,hw,aD⟩:=dG.some_of (by rw[<- l]; exact rl f);exact Ng I1.cn o1 ns (T.k z hz) (T.no z hz) (T.hd z hz) hw (GV aD) ⟨v,H1,I1.tok _,aD,q⟩
end
end L2
namespace DV
open PySem PySem.Spec PyProof.Rows L2
section
variable {X:Cx} {c:Fc} {tg e:Expr} {fe:DE} {pos pp:Pos}
def p8(ce:Tx->Nat)(ys:List Tx)(f:Tx)(fb:BE):DE:=λδ=>(fb δ).bind λd δ'=>match d with
 | .exc n (.xd fs)=>match ys.find? (λz=>ce z == n),fs.lookup f with
  | some _,some d=>.ok (.pure d) δ'
  | _,_=>.stuck
 | _=>.stuck
theorem Dy:∀ {fs:List (Str×V)} {ds:List (Tx×D)} {d:D},fs.map (·.1)=ds.map (λp=>toS p.1)->(∀ (i:Nat) p q,fs[i]? = some p->ds[i]? = some q->Rep H O p.2 q.2)->ds.lookup f=some d->∃ v,fs.lookup (toS f)=some v/\Rep H O v d
 | _,[],_,_,_,h=>by simp at h
 | [],_ :: _,_,h,_,_=>by simp at h
 | p :: fs,q :: ds,d,h1,h2,h=>by
  obtain⟨n,v⟩:=p;obtain⟨g,e⟩:=q;simp only[Wo,JX] at h1;obtain⟨rfl,h1⟩:=h1;by_cases z:f=g
  ·subst z;simp only[WT,beq_self_eq_true,W9] at h;subst h;exact⟨v,by simp,h2 0 _ _ rfl rfl⟩
  ·have zs:toS f≠toS g:=λw=>z (oU w)
   rw[WT,beq_eq_false_iff_ne.mpr z] at h;rw[WT,beq_eq_false_iff_ne.mpr zs];exact Dy h1 (λi p q e1 e2=>h2 (i + 1) p q (by simpa using e1) (by simpa using e2)) h
theorem NH(f:Tx)(T:wC X.K ce ys x)(he:SB X c e fb)(hx:x=toS f:=by decide +kernel)(hb:Qq e x X.env (eval e X.env)=eval e X.env:=by rfl):SE X c (.Attribute e x pos) (p8 ce ys f fb) :=
 PE.weak (NG T he hb) λσ H Q ⟨δ,k,q⟩=>by
  unfold p8 at q;rw[aX] at q;refine⟨δ,k,aL q λd δ1 q1 v H1 a1 r1=>?_⟩
  cases d <;> first | exact q1.elim | skip
  rename_i n fl
  cases fl <;> first | exact q1.elim | skip
  rename_i ds;simp only at q1;split at q1
  ·rename_i z d hz hd;have h1:=List.find?_some hz;have h2:=List.mem_of_find?_eq_some hz;have e:ce z=n:=by simpa using h1
   subst e;rcases r1 with r1 | ⟨a,_,o⟩
   ·cases r1 with
    | exc _ ha r2 =>
     cases r2 with
     | xd _ pX h3 h4 =>
      obtain⟨v,l,rv⟩:=Dy h3 h4 hd;exact⟨_,_,z,_,v,rfl,h2,ha,pX,by rw[hx]; exact l,q1 _ H1 a1 rv⟩
   ·exact o.elim
  ·exact q1.elim
end
end DV
namespace L2
open PySem PySem.Spec PyProof.Rows
section
variable {X:Cx}
end
end L2
namespace DV
open PySem PySem.Spec PyProof.Rows L2
end DV
namespace L2
open PySem PySem.Spec PyProof.Rows PySem.SeqAt DV
section
variable {X:Cx}
end
end L2
namespace DV
open PySem PySem.Spec PyProof.Rows L2
section
variable {X:Cx} {c:Fc} {o e:Expr} {fa fb:DE}
end
end DV
namespace L2
open PySem PySem.Spec PyProof.Rows PySem.W DV
section
variable {α β:Type} {n:Nat}
end
section
variable {n:Nat} {p:Array Nat}
end
structure TB(h:Heap)(vs:List Value)(ks:List Tx):Prop where
 len:ks.length=vs.length
 at':∀ i v,vs[i]? = some v->∃ b o xs m t,v = .ref b/\h.get? b=some o/\o.cls = .type "tuple"/\o.data = .seq xs m/\xs[0]? = some (.str (toS (ks.getD i [])) t)
section
variable {prog:Wg} {w:Wm} {A:Wl} {E:Value->W2->Prop} {s:W2} {vs:List Value} {ks:List Tx}
end
section
variable {X:Cx}
end
end L2
namespace DV
open PySem PySem.Spec PyProof.Rows L2
section
variable {X:Cx} {c:Fc} {e:Expr} {fb:BE} {pp pos:Pos}
end
section
variable {X:Cx} {c:Fc} {e:Expr} {fe:DE} {fb:BE} {pos:Pos}
end
section
variable {X:Cx}
end
section
variable {X:Cx} {c:Fc} {e:Expr} {fb:BE}
end
section
variable {X:Cx} {c:Fc} {e:Expr} {fe:DE}
end
section
variable {H H':Hp} {O:Addr->Prop} {v:V} {a:Addr} {us:List V}
end
section
variable {c:Fc} {σ:St} {δ δ1:Dl} {H H1:Hp} {i:Nat} {ds:List D} {g:Xc->Dl->Prop}
end
section
variable {X:Cx} {c:Fc} {e:Expr} {es:List Expr} {as:List Ak} {k n i:Nat} {x:Str} {G:DX} {pp pos:Pos}
end
section
variable {c:Fc} {σ σ':St} {δ δ':Dl} {H H':Hp} {B':Addr->Prop} {g:Xc->Dl->Prop} {i0:Nat} {a:Addr} {ds:List D}
end
end DV
namespace L2
open PySem PySem.Spec PyProof.Rows PySem.W DV
section
variable {prog:Wg} {w:Wm} {A:Wl} {E:Value->W2->Prop} {s:W2} {vs:List Value}
end
section
variable {lt:Nat->Nat->Bool} {r:Nat->Nat} {n:Nat} {α β:Type}
structure Lt(lt:Nat->Nat->Bool)(r:Nat->Nat)(n:Nat):Prop where
 lt:∀ i j,i < n->j < n->lt i j=decide (r i < r j)
 inj:∀ i j,i < n->j < n->i≠j->r i≠r j
end
end L2
namespace DV
open PySem PySem.Spec PyProof.Rows L2
section
variable {X:Cx} {c:Fc} {e:Expr} {fb:BE} {pp pos:Pos}
end
end DV
set_option maxHeartbeats 1000000
namespace SU
open PySem PyProof.Rows
def bt (w:Wm):Bool:=w.params.followText "set-order"
def gO(prog:Wg)(w:Wm)(x:Str×Tok):Int×Value:=((strKind prog w).hash x.1,.str x.1 x.2)
structure cO(prog:Wg)(w:Wm)(h:Heap)(a:Addr)(ks:List Str)(o:Obj)(es:Array (Int×Value))(ep:Nat)(t:SetTable)(xs:List (Str×Tok)):Prop where
 g:h.get? a=some o
 ex:o.ExactSet
 d:o.data = .set es ep t
 e:es.toList=xs.map (gO prog w)
 p:(xs.map (·.1)).Perm ks
 nd:ks.Nodup
 f:t.fits es.size=true
 b:es.size < JK
 l:bt w=false->t.led=true
 q:t.plain=true->ks=[]
def er(prog:Wg)(w:Wm)(h:Heap)(a:Addr)(ks:List Str):Prop:=∃ o es ep t xs,cO prog w h a ks o es ep t xs
def dd(σ:List Str)(v:Str):List Str:=if v ∈ σ then σ else σ ++ [v]
def fm(val:Nat->Str)(i:Nat):List Str:=((Wp i).map val).foldl dd []
theorem Dz(val:Nat->Str)(i:Nat):fm val (i + 1)=dd (fm val i) (val i):=by
 unfold fm;simp[JA,List.foldl_append]
theorem NI(v:Str)(h:σ.Nodup):(dd σ v).Nodup:=by
 unfold dd;split
 ·exact h
 ·rename_i hv;exact JR.mpr ⟨h,by simp,λx hx y hy e=>hv (by simp at hy; rw[<- hy,<- e]; exact hx)⟩
theorem NJ(σ:List Str)(v:Str):(dd σ v).length<=σ.length + 1:=by
 unfold dd;split
 ·omega
 ·simp
theorem DB(val:Nat->Str):∀ i,(fm val i).length<=i
 | 0=>Wb _
 | i + 1=>by
  rw[Dz];have:=DB val i;have:=NJ (fm val i) (val i);omega
section
variable {prog:Wg} {w:Wm} {A:Wl} {E:Value->W2->Prop} {s:W2}
theorem DC(h:(strKind prog w).is k v=true):∃ t,v = .str k t:=by
 cases v <;> simp[PySem.strKind,Value.isStrOf] at h
 rename_i y t;exact⟨t,by rw[h]⟩
theorem DH(xs:List (Str×Tok)):ElemsOf (strKind prog w) (xs.map (gO prog w)):=λe he=>by
 obtain⟨x,_,rfl⟩:=WS.mp he;exact⟨⟨x.1,strKind_is _ _ _ _,rfl⟩,rfl⟩
theorem DJ:∀ (l:List (Int×Value)),ElemsOf (strKind prog w) l->∃ xs:List (Str×Tok),l=xs.map (gO prog w)
 | [],_=>⟨[],rfl⟩
 | e :: l,h=>by
  obtain⟨xs,e1⟩:=DJ l h.tail;obtain⟨⟨k,q,r⟩,_⟩:=h.head;obtain⟨t,et⟩:=DC q;obtain⟨e0,ev⟩:=e;simp only at r et;subst r; subst et
  exact⟨(k,t) :: xs,by rw[Wo,<- e1]; rfl⟩
theorem wF{l:List (Int×Value)}{xs:List (Str×Tok)}(p:l.Perm (xs.map (gO prog w))):∃ zs:List (Str×Tok),l=zs.map (gO prog w)/\(zs.map (·.1)).Perm (xs.map (·.1)):=by
 obtain⟨zs,ez⟩:=DJ l λe he=>DH xs e (p.mem_iff.mp he)
 refine⟨zs,ez,?_⟩;have q1:=p.map λe:Int×Value=>match e.2 with | .str k _=>k | _=>default
 rw[ez,WA,WA] at q1;exact q1
theorem wG(xs:List (Str×Tok))(k:Str):(∃ e ∈ xs.map (gO prog w),(strKind prog w).is k e.2=true) ↔ k ∈ xs.map (·.1):=by
 constructor
 ·rintro ⟨e,he,q⟩;obtain⟨x,hx,rfl⟩:=WS.mp he;obtain⟨t,et⟩:=DC q;have:x.1=k:=by injection et
  exact WS.mpr ⟨x,hx,this⟩
 ·intro h;obtain⟨x,hx,rfl⟩:=WS.mp h;exact⟨gO prog w x,WJ hx,strKind_is _ _ _ _⟩
section
variable {h:Heap} {a:Addr} {ks:List Str} {o:Obj} {es:Array (Int×Value)} {ep:Nat} {t:SetTable} {xs:List (Str×Tok)}
theorem cO.sz(x:cO prog w h a ks o es ep t xs):es.size=ks.length:=by
 rw[<- x.p.length_eq,Wx,<- Qg,x.e,Wx]
theorem cO.el(x:cO prog w h a ks o es ep t xs):ElemsOf (strKind prog w) es.toList:=by
 rw[x.e]; exact DH _
theorem cO.so(x:cO prog w h a ks o es ep t xs):h.SetOf (strKind prog w) a (λk=>decide (k ∈ ks)) ks.length :=
 ⟨o,es,ep,t,x.g,x.ex,x.d,x.el,λk=>by rw[x.e,wG,x.p.mem_iff]; simp,x.b,x.f,x.sz⟩
theorem er.so(x:er prog w h a ks):h.SetOf (strKind prog w) a (λk=>decide (k ∈ ks)) ks.length:=by
 obtain⟨o,es,ep,t,xs,x⟩:=x;exact x.so
theorem er.at'(x:er prog w h a ks)(k:∀ o,h.get? a=some o->h'.get? a=some o):er prog w h' a ks:=by
 obtain⟨o,es,ep,t,xs,x⟩:=x;exact⟨o,es,ep,t,xs,{ x with g:=k o x.g }⟩
end
theorem DK(ho:s.heap.get? a=some o)(hex:o.ExactSet)(hd:o.data = .set es0 ep t0)
  (he:es'.toList=xs.map (gO prog w)) (hp:(xs.map (·.1)).Perm ks) (nd:ks.Nodup) (hf:t'.fits es'.size=true) (hb:es'.size < JK) (hl:bt w=false->t'.led=true) (hq:t'.plain=true->ks=[])
  (h:∀ h',J5 a s.heap h'->cO prog w h' a ks { o with data:=.set es' (ep + 1) t' } es' (ep + 1) t' xs->Q () { s with heap:=h' }) :
  W6 (model prog w) A (storeSet a es' t') Q E s:=by
 refine wpAny_storeSet_of ho hd ?_ (fits_of_scanBound hb);have g2:=Wz (Obj.putSet es' t') ho (by rw[putSet_of _ _ hd]; rfl);rw[putSet_of _ _ hd] at g2;exact h _ (.update _ _ _) ⟨g2,hex,rfl,he,hp,nd,hf,hb,hl,hq⟩
theorem NK(t:SetTable)(es:Array (Int×Value))(h:Int)(x:Value):(layNew t es h x).2.1.led=t.led:=by
 unfold layNew;split
 ·unfold SetTable.orStandIn;simp only;split <;> rfl
 ·rfl
theorem NL(t:SetTable)(es:Array (Int×Value))(n:Nat):(relayAll t es n).2.1.led=t.led/\((relayAll t es n).2.1.plain=true->t.plain=true):=by
 unfold relayAll;split
 ·rename_i t' order e;have hl:t'.led=t.led/\t'.plain=t.plain:=by
   unfold SetTable.relaid SetTable.laid at e
   cases e1:SetTable.layClean (SetTable.sizeAbove n - 1) (es.map (·.1)) with
   | none=>rw[e1] at e; cases e
   | some ow =>
    rw[e1] at e;simp only[Option.bind_eq_bind,Wu,Option.pure_def,W9,Prod.mk.injEq] at e;rw[<- e.1];exact⟨rfl,rfl⟩
  simp only;split
  ·exact⟨hl.1,λz=>hl.2 ▸ z⟩
  ·exact⟨rfl,λz=>by cases z⟩
 ·exact⟨rfl,λz=>by cases z⟩
theorem NM(hS:er prog w s.heap a ks)(hb:ks.length + 1 < JK)
  (h:∀ h',J5 a s.heap h'->er prog w h' a (dd ks k)->Q (!decide (k ∈ ks)) { s with heap:=h' }) :
  W6 (model prog w) A (setAddHashed a (.str k tk) ((strKind prog w).hash k)) Q E s:=by
 obtain⟨o,es,ep,t,xs,x⟩:=hS;have kk:(strKind prog w).is k (.str k tk)=true:=strKind_is _ _ _ _;have hz:=x.sz;unfold setAddHashed setAddHashedIn;refine WU (W0 (QX x.g x.d x.f ?_));dsimp only;rw[byScan_of (knd:=strKind prog w) (x:=.str k tk) rfl x.b x.el,if_pos rfl];unfold setAddByScan;refine W0 (W0 (QN (W0 (wpAny_setScan_of kk x.g x.d x.f x.el ?_))))
 cases hr:List.findIdx? (λe=>(strKind prog w).is k e.2) es.toList with
 | some j =>
  dsimp only;obtain⟨hj,hp,_⟩:=List.findIdx?_eq_some_iff_getElem.mp hr;have hk:k ∈ ks:=x.p.mem_iff.mp ((wG (prog:=prog) (w:=w) xs k).mp ⟨_,by rw[<- x.e]; exact Jq hj,hp⟩);have e:dd ks k=ks:=by unfold dd; rw[if_pos hk]
  have:=h s.heap (.refl _ _) (by rw[e]; exact⟨o,es,ep,t,xs,x⟩);rw[decide_eq_true hk] at this;exact W4 (W4 this)
 | none =>
  dsimp only;have hk:k ∉ ks:=λhk=>by
   obtain⟨e,he,q⟩:=(wG (prog:=prog) (w:=w) xs k).mpr (x.p.mem_iff.mpr hk);have:=List.findIdx?_eq_none_iff.mp hr e (by rw[x.e]; exact he);rw[q] at this
   cases this
  have e:dd ks k=ks ++ [k]:=by unfold dd; rw[if_neg hk]
  have nd:=NI k x.nd;rw[decide_eq_false hk] at h;rw[e] at h nd;have p9:=layNew_perm t es ((strKind prog w).hash k) (.str k tk);have sP:=layNew_fits t es ((strKind prog w).hash k) (.str k tk);have sQ:=NK t es ((strKind prog w).hash k) (.str k tk);generalize layNew t es ((strKind prog w).hash k) (.str k tk)=L at p9 sP sQ ⊢;obtain⟨es1,t1,wd,gave⟩:=L;dsimp only at p9 sP sQ ⊢;rw[Array.toList_push,x.e] at p9;have ur:es1.toList.Perm ((xs ++ [(k,tk)]).map (gO prog w)):=by rw[QE]; exact p9
  obtain⟨zs,ez,pz⟩:=wF ur;have DL:(zs.map (·.1)).Perm (ks ++ [k]):=pz.trans (by rw[QE]; exact x.p.append_right _);have DM:es1.size < JK:=by rw[<- Qg,p9.length_eq,Q6,Wx]; have:=x.p.length_eq; simp at this ⊢; omega
  have gw:∀ (b:Bool) (s₁:W2) (Q':Unit->W2->Prop),Q' () s₁->W6 (model prog w) A (match b with | true=>rule "set.scan.the-table-gave-way" | false=>pure ()) Q' E s₁ :=
   λb s₁ Q' hq=>by cases b <;> first | exact W4 hq | exact QN hq
  refine W0 (gw _ _ _ ?_);have tail:∀ t2:SetTable,t2.fits es1.size=true->t2.led=t1.led->t2.plain=false->W6 (model prog w) A (do
    storeSet a es1 t2
    if (!wd && t2.tooFull)=true then do
      (match (relayAll t2 es1 (SetTable.grown es1.size)).2.2 with | true=>rule "set.scan.the-table-gave-way" | false=>pure ())
      storeSet a (relayAll t2 es1 (SetTable.grown es1.size)).1 (relayAll t2 es1 (SetTable.grown es1.size)).2.1
      pure (some true)
     else pure (some true)) (λr s'=>W6 (model prog w) A (match r with | some added=>pure added | none=>setAddHashedIn a (.str k tk) ((strKind prog w).hash k) 99999) Q E s') E s:=λt2 f2 l2 p2=>by
   refine W0 (DK x.g x.ex x.d ez DL nd f2 DM (λz=>by rw[l2,sQ]; exact x.l z) (λz=>by rw[p2] at z; cases z) λh1 DN x1=>?_);split
   ·have rp:=relayAll_perm t2 es1 (SetTable.grown es1.size);have rf:=relayAll_fits t2 es1 (SetTable.grown es1.size);obtain⟨rl,rq⟩:=NL t2 es1 (SetTable.grown es1.size);generalize relayAll t2 es1 (SetTable.grown es1.size)=Rl at rp rf rl rq ⊢;obtain⟨es2,t3,gave2⟩:=Rl;dsimp only at rp rf rl rq ⊢;rw[ez] at rp;obtain⟨ys,ey,py⟩:=wF rp;have NN:es2.size < JK:=by rw[<- Qg,rp.length_eq,<- ez,Qg]; exact DM
    refine W0 (gw _ _ _ ?_);refine W0 (DK (s:={ s with heap:=h1 }) x1.g x1.ex x1.d ey (py.trans DL) nd rf NN (λz=>by rw[rl,l2,sQ]; exact x.l z) (λz=>by have:=rq z; rw[p2] at this; cases this) λh2 NO x2=>?_);exact W4 (W4 (h h2 (DN.trans NO) ⟨_,_,_,_,_,x2⟩))
   ·exact W4 (W4 (h h1 DN ⟨_,_,_,_,_,x1⟩))
  split
  ·refine W0 ?_;rw[hashByValue_scannable 8 (x:=.str k tk) rfl];refine W4 ?_;exact tail _ (SetTable.fits_plain_off sP) rfl rfl
  ·rename_i bx;refine W0 (W4 ?_);simp only[if_true];exact tail _ sP rfl (by simpa using bx)
end
section
variable {prog:Wg} {w:Wm} {A:Wl} {R:Result->W2->Prop} {I:Addr} {fp wr:List Addr} {G:Array GenState->Array GenState->Prop} {n:Nat} {P:Nat->Value->Prop} {St:Nat->W2->Prop}
theorem NP(W:WalksS prog w A.in1 I fp wr G n P St)(S:Addr)(DO:S ∉ fp)(val:Nat->Str)(wH:∀ i v,P i v->∃ t,v = .str (val i) t)(hb:n + 1 < JK) :
  ∀ (k i:Nat) (s:W2),n - i=k->i<=n->St i s->er prog w s.heap S (fm val i) ->
   (∀ s',Moved (S :: wr) G s s'->er prog w s'.heap S (fm val n)->R (.ok (.ret .none)) s') ->
   Q4 (model prog w) A (.builtin "set.update.loop" ⟨[.ref S,.ref I],[]⟩) R s:=by
 have nw:S ∉ wr:=λz=>DO (W.sub _ z)
 have up:∀ b ∈ wr,b ∈ S :: wr:=λb z=>Wd _ z
 intro k;induction k with
 | zero =>
  intro i s e1 e2 st x fin;obtain rfl:i=n:=by omega
  refine Qb PyProof.Rows.F.entry_set_update_loop ?_;rw[Around.under_plainId PyProof.Rows.F.plain_set_update_loop _];show W6 _ A.in1 (Qt (.ref I) >>= _) _ _ s;refine W0 (W.done s _ _ st λs' mv=>?_);show W6 _ A.in1 (ret Value.none) _ _ s';exact W4 (fin s' (mv.mono up) (x.at' λo e=>mv.heap S _ nw e))
 | succ k ih =>
  intro i s e1 e2 st x fin;have lt:i < n:=by omega
  refine Qb PyProof.Rows.F.entry_set_update_loop ?_;rw[Around.under_plainId PyProof.Rows.F.plain_set_update_loop _];show W6 _ A.in1 (Qt (.ref I) >>= _) _ _ s;refine W0 (W.item i s _ _ lt st λv s' pv dw mv=>?_);obtain⟨t,rfl⟩:=wH i v pv;have x':er prog w s'.heap S (fm val i):=x.at' λo e=>mv.heap S _ nw e
  show W6 _ A.in1 (holding [Value.str (val i) t] (setAdd S (.str (val i) t)) >>= _) _ _ s';refine W0 (WU ?_);unfold setAdd;refine WU ?_;refine W0 ((strKind prog w).pyHash (k:=val i) (strKind_is _ _ _ _) ?_);refine NM (s:={ s' with toks:=s'.toks + 1 }) x' (by have:=DB val i; omega) λh' sb y=>?_
  rw[<- Dz] at y;refine W4 ⟨QH PyProof.Rows.F.plain_set_update_loop _,ih (i + 1) _ (by omega) lt (W.frame _ s' _ _ dw (Ju _) λb z o e=>?_) y λiH NQ z=>?_⟩
  ·rw[sb.2 b (λq:b=S=>DO (by rw[<- q]; exact z))]; exact e
  ·refine fin iH (Moved.trans W.gtrans ((mv.mono up).then_heap (Ju _) λb o z e=>?_) NQ) z;rw[sb.2 b (λq:b=S=>z (by rw[q]; exact Wj))]; exact e
end
abbrev lp (w:Wm):Obj:={ cls:=.type "set",dict:=none,data:=.set #[] 0 (.fresh 0 0 (!bt w)) }
section
variable {prog:Wg} {w:Wm} {A:Wl} {E:Value->W2->Prop} {s:W2}
theorem NR(h:Heap):cO prog w (h.push (lp w)) h.objs.size [] (lp w) #[] 0 (.fresh 0 0 (!bt w)) [] :=
 ⟨Wi _ rfl,⟨rfl,rfl,rfl⟩,rfl,rfl,.refl _,List.nodup_nil,rfl,by decide,λz=>by rw[z]; rfl,λ_=>rfl⟩
theorem NT(h:Heap):er prog w (h.push (lp w)) h.objs.size []:=⟨_,_,_,_,_,NR h⟩
theorem NU(a:Value)(h:Q₁ (.ref s.heap.objs.size) { s with heap:=s.heap.push (lp w) }) :
  Q4 (model prog w) A (.call (.builtin "set.__new__") ⟨[.type "set",a],[]⟩) (wants Q₁ E) s:=by
 refine codeAny_of_tree ?_;show W6 _ A.in1 (do checkBuiltinCall "set.__new__" ⟨[.type "set",a],[]⟩; again (.builtin "set.__new__" ⟨[.type "set",a],[]⟩)) _ _ s;refine W0 (wpAny_of_eq (PySem.F.newCall_set_1 a) (W4 ⟨QH PySem.F.plain_set_new _,Qb PySem.F.entry_set_new ?_⟩));rw[Around.under_plainId PySem.F.plain_set_new _];unfold Builtin.«set.__new__» Builtin.Frozenset.newClass;have e:=sub_set_self;obtain⟨hp,g,d,tk,os⟩:=s;dsimp only;wp_walk
 refine Jc (W4 ?_);dsimp only;simp only[newObj];refine W0 (wpAny_alloc (W4 ?_));exact W4 h
theorem NV
  (hi:W6 (model prog w) A.in1.in1 (Builtin.«set.__init__» ⟨[.ref s.heap.objs.size,v],[]⟩)
   (λfin s'=>match fin with | .done f=>wants (λr s₂=>r = .none/\Q (.ref s.heap.objs.size) s₂) E (.ok f) s' | .again c'=>c'.quiet=true/\Q4 (model prog w) A.in1 c' (wants (λr s₂=>r = .none/\Q (.ref s.heap.objs.size) s₂) E) s')
   (λe s'=>wants (λr s₂=>r = .none/\Q (.ref s.heap.objs.size) s₂) E (.error e) s') { s with heap:=s.heap.push (lp w) }) :
  W6 (model prog w) A (call (.type "set") [v]) Q E s:=by
 obtain⟨c,tl,hmro⟩:=PySem.F.called_set.mro;have g1:=PySem.F.called_set.made;have g2:=PySem.F.called_set.sub;refine Jp (codeAny_of_tree ?_);show W6 _ _ (callAny (.type "set") _) _ _ _;refine W4 ⟨Code.quiet_builtin _ (by decide +kernel),Qb PySem.F.entry_type_call ?_⟩;rw[Around.under_plain (weight_type_call_type "set" [v] []) rfl];have g3:=PySem.F.called_set.notType;have g4:=PySem.F.called_set.canCreate;have g5:=PySem.F.typeCall_set_1 v;repeat (any_goals (first | assumption | wp_step))
 refine Qk (NU v (E:=E) (Q₁:=λobj s₁=>obj = .ref s.heap.objs.size/\s₁ = { s with heap:=s.heap.push (lp w) }) ⟨rfl,rfl⟩) λr s₁ x=>?_
 cases r with
 | error e=>exact x
 | ok fl =>
  cases fl with
  | ret obj =>
   obtain⟨rfl,rfl⟩:=x;have hT:Shared.TypeIs { s with heap:=s.heap.push (lp w) } (.ref s.heap.objs.size) "set":=⟨_,Wi _ rfl,rfl⟩
   have g6:=PySem.F.called_set.init.lookup;have g7:=PySem.F.called_set.init.bind (.ref s.heap.objs.size);repeat (any_goals (first | assumption | wp_step))
   refine Qk (J3 (R:=wants (λr s₂=>r = .none/\Q (.ref s.heap.objs.size) s₂) E) PySem.F.called_set.init.plain PySem.F.entry_set_init (check_set_init_1 hT hi)) λr₂ s₂ y=>?_
   cases r₂ with
   | error e=>exact y
   | ok f2 =>
    cases f2 with
    | ret r =>
     obtain⟨rfl,q⟩:=y;repeat (any_goals (first | assumption | wp_step))
    | _=>exact y.elim
  | _=>exact x.elim
end
section
variable {mask:Nat} {owner:Array (Option Nat)}
end
def live(mask:Nat)(owner:Array (Option Nat)):List (Nat×Nat):=(Wp (mask + 1)).filterMap λj=>(owner.getD j none).map (j,·)
section
variable {prog:Wg} {w:Wm} {A:Wl} {E:Value->W2->Prop} {s:W2}
theorem wI{α:Type}:∀ (l:List α) (i:Nat) (h:i < l.length),l.Perm (l[i] :: l.eraseIdx i)
 | [],i,h=>by simp at h
 | x :: l,0,h=>.refl _
 | x :: l,i + 1,h=>by
  have:=wI l i (by simpa using h);exact(this.cons x).trans (.swap _ _ _)
theorem wJ{α β:Type}{f:α->β->Sem (ForInStep β)}{Q:β->W2->Prop}(J:List α->β->W2->Prop)
  (step:∀ x r b s,J (x :: r) b s->W6 (model prog w) A (f x b) (λst s'=>∃ b',st = .yield b'/\J r b' s') E s):∀ (l:List α) (b:β) (s:W2),J l b s->(∀ b' s',J [] b' s'->Q b' s')->W6 (model prog w) A (forIn l b f) Q E s
 | [],b,s,h,q=>by
  rw[List.forIn_nil];exact W4 (q b s h)
 | x :: l,b,s,h,q=>by
  rw[List.forIn_cons];refine W0 (WC (step x l b s h) (λst s' ⟨b',e,h'⟩=>?_) λ_ _ e=>e);subst e;exact wJ J step l b' s' h' q
theorem NW{α β:Type}{f:α->β->Sem (ForInStep β)}{Q:β->W2->Prop}(J:List α->β->W2->Prop)
  (step:∀ x r b s,J (x :: r) b s->W6 (model prog w) A (f x b) (λst s'=>∃ b',st = .yield b'/\J r b' s') E s) (l:Array α) (b:β) (s:W2) (h:J l.toList b s) (q:∀ b' s',J [] b' s'->Q b' s'):W6 (model prog w) A (forIn l b f) Q E s:=by
 rw[<- Array.forIn_toList];exact wJ J step l.toList b s h q
theorem quiet{l:List Addr}{Q:Bool->W2->Prop}(hl:∀ a ∈ l,∃ ks,er prog w s.heap a ks)(h:Q true s):W6 (model prog w) A (setsQuiet l) Q E s:=by
 unfold setsQuiet;refine W0 (wJ (λr b s'=>b=(none,())/\s'=s/\∀ a ∈ r,∃ ks,er prog w s.heap a ks) ?st l _ s ⟨rfl,rfl,hl⟩ ?fin)
 case fin =>
  rintro b s' ⟨rfl,rfl,_⟩;exact W4 h
 case st =>
  rintro a r b s' ⟨rfl,rfl,e3⟩;obtain⟨ks,x⟩:=e3 a Wj;obtain⟨o,es,ep,t,xs,x⟩:=x;refine W0 (QK x.g x.d x.f ?_);refine W0 (NW (λr b iH=>b=(none,())/\iH=s'/\∀ e ∈ r,∃ z,e=gO prog w z) ?st es _ s' ⟨rfl,rfl,λe he=>?el⟩ ?fin)
  case st =>
   rintro e r b iH ⟨rfl,rfl,q3⟩;obtain⟨z,rfl⟩:=q3 e Wj;exact W4 ⟨_,rfl,rfl,rfl,λe he=>q3 e (Wd _ he)⟩
  case el =>
   rw[x.e] at he;obtain⟨z,_,rfl⟩:=WS.mp he;exact⟨z,rfl⟩
  case fin =>
   rintro b iH ⟨rfl,rfl,_⟩;exact W4 ⟨_,rfl,rfl,rfl,λa ha=>e3 a (Wd _ ha)⟩
theorem DP{α:Type}(next:Nat->Nat)(xs:Array α):(pickOrder next xs).toList.Perm xs.toList:=by
 have go:∀ (f k:Nat) (left:List α) (out:Array α),left.length=f->(pickOrder.go next f k left out).toList.Perm (out.toList ++ left):=by
  intro f;induction f with
  | zero =>
   intro k left out h;rw[QI h];unfold pickOrder.go;simp
  | succ f ih =>
   intro k left out h;unfold pickOrder.go;have hi:next k % left.length < left.length:=JY _ (by omega);rw[Wt hi];simp only;refine(ih _ _ _ (by rw[List.length_eraseIdx_of_lt hi]; omega)).trans ?_;rw[Array.toList_push,QW];exact List.Perm.append_left _ (wI _ _ hi).symm
 have:=go xs.size 0 xs.toList #[] (by simp);simpa[pickOrder] using this
end
section
variable {prog:Wg} {w:Wm} {A:Wl} {E:Value->W2->Prop} {s:W2}
end
theorem NX:entryFor table "set.__iter__" = some Builtin.«frozenset.__iter__» :=
 entryFor_alias (id':="frozenset.__iter__") (by kernel_rfl) rfl (by decide +kernel) (by kernel_rfl)
theorem slot_next:Slot "set_iterator" "__next__" "set_iterator.__next__" :=
 .of (owner:="set_iterator") (n:="__next__") (by rw[typeLookup_type,Jm]; kernel_rfl) (by decide +kernel) (by decide +kernel) (by decide +kernel)
  (by first | exact .inl (by decide +kernel) | exact .inr (by decide +kernel)) (by rw[isSubtype_type]; kernel_rfl)
theorem sR:entryFor table "set_iterator.__next__" = some Builtin.«set_iterator.__next__»:=entryFor_of_tree (by kernel_rfl)
theorem sS (a:Value):argsOk "set_iterator.__next__" ⟨[a],[]⟩:=by
 unfold argsOk; rw[signature?_of (id:="set_iterator.__next__") (n:="__txen__".toList) (o:="rotareti_tes".toList) (by kernel_rfl) (show Manifest.owners.lookup (String.ofList "rotareti_tes".toList.reverse)=some Manifest.sig_set_iterator by kernel_rfl)]; kernel_rfl
theorem NY:typeLookup (.type "set") "__len__" = pure (some (.builtin "set.__len__")):=by rw[typeLookup_type,Jm]; kernel_rfl
abbrev bZ (f:Value) (i:Nat) (a:Addr) (n ep:Nat):Obj:={ cls:=.type "set_iterator",data:=.fields #[f,.int i 0,.ref a,.int n 0,.int ep 0] }
section
variable {prog:Wg} {w:Wm} {A:Wl} {E:Value->W2->Prop} {s:W2}
theorem NZ(h0:n≠0)(h:∀ i d,i < n->Q i { s with drawn:=d }):W6 (model prog w) A (choose src n) Q E s:=λΓ p hΓ=>by
 show Sem.wp _ Γ (.choose src n .pure) _ _ p s;rw[Sem.wp_choose];refine⟨h0,?_⟩;exact h _ _ (JY _ (by omega))
theorem DQ:∀ (n:Nat) (l:List α) (s:W2) (Q:List α->W2->Prop),l.length=n->(∀ l' d,l'.Perm l->Q l' { s with drawn:=d })->W6 (model prog w) A (drawOrder n l) Q E s
 | 0,l,s,Q,hn,h=>by
  rw[QI hn] at h;exact W4 (h [] s.drawn (.refl _))
 | n + 1,l,s,Q,hn,h=>by
  have e:drawOrder (n + 1) l=(do
    let i <- choose .order l.length
    match l[i]? with
    | some x=>return x :: (<- drawOrder n (l.eraseIdx i))
    | none=>unsupported "internal:drawOrder"):=by
   cases l with
   | nil=>simp at hn
   | cons=>rfl
  rw[e];refine W0 (NZ (by omega) λi d hi=>?_);rw[Wt hi];refine W0 (DQ n (l.eraseIdx i) _ _ (by rw[List.length_eraseIdx_of_lt hi]; omega) λl' d' pl=>?_);exact W4 (h _ d' ((pl.cons _).trans (wI l i hi).symm))
section
variable {a it:Addr} {ks:List Str} {o:Obj} {es:Array (Int×Value)} {ep:Nat} {t:SetTable} {xs:List (Str×Tok)} {i:Nat}
theorem DU{sl nx:Nat}{v:Value}{Q:Option Value->W2->Prop}(x:cO prog w s.heap a ks o es ep t xs)(hi:s.heap.get? it=some (bZ (.int sl 0) i a es.size ep))
  (hn:∀ E':Value->W2->Prop,W6 (model prog w) A.in1 (setNext a sl i ep) (λr s'=>r=some (v,nx)/\s'=s) E' s)
  (h:∀ h',J5 it s.heap h'->h'.get? it=some (bZ (.int nx 0) (i + 1) a es.size ep)->Q (some v) { s with heap:=h' }):W6 (model prog w) A (Qt (.ref it)) Q E s:=by
 have hT:s.TypeIs (.ref it) "set_iterator":=⟨_,hi,rfl⟩
 unfold Qt;refine W0 (wpAny_attempt (Q2 (name:=Str.ofString "__next__") hT slot_next (Qd slot_next hT sR ?_ (sS _))));unfold Builtin.«set_iterator.__next__»;refine W0 (m:=slotArgs "__next__" 0 _) (W4 ?_);refine W0 (wpAny_fieldsOf hi rfl ?_);dsimp only;refine W0 (QK x.g x.d x.f ?_);rw[if_neg (by simp)];simp only[Qw];refine W0 (WC (hn _) (λr s' ⟨e1,e2⟩=>?_) λ_ _ e=>e);subst e1; subst e2
 dsimp only;refine W0 (Qs hi rfl (by simp) ?_);have g1:=Wz (Obj.mapFields (·.setIfInBounds 0 (WY (nx:Int)))) hi (by rfl);refine W0 (Qs (s:={ s' with heap:=_ }) g1 rfl (by simp) ?_);have g2:=Wz (Obj.mapFields (·.setIfInBounds 1 (WY ((i:Int) + 1)))) g1 (by rfl);refine W4 ⟨_,rfl,W4 (h _ ((QJ ..).trans (QJ ..)) ?_)⟩;rw[g2];rfl
theorem DW{Q:Option Value->W2->Prop}{f:Value}{n' j:Nat}{v:Value}(hh:A.handled=none)(hi:s.heap.get? it=some (bZ f i a n' ep))(hj:j < 5)
  (h:∀ h',Heap.ExtBut it s.heap h'->Q none { s with heap:=h' }) :
  W6 (model prog w) A.in1 (do
   setField (.ref it) j v
   raiseNew (<- newExc (.type "StopIteration") [])) (λ(_:PySem.Fin) _=>False) (λe s'=>W6 (model prog w) A (do
    if <- isInstance e (.type "StopIteration") then pure none else throw e) Q E s') s:=by
 refine W0 (Qs hi rfl (by simpa using hj) ?_);refine W0 ?_;simp only[newExc,newTuple];refine W0 (WL ?_ (by size_fits));refine W0 (m:=firstArgMember _ _) (wpAny_of_eq (a:=Value.none) (by first | rfl | (simp only[firstArgMember]; rfl)) ?_);refine WL ?_ (by size_fits);simp only[raiseNew];refine W0 (wpAny_handled ?_);rw[show A.in1.handled=none from hh];refine W0 (W4 (wpAny_throw ?_));refine W0 (wpAny_isInstance (T:="StopIteration") (b:=true) ⟨_,Wi _ rfl,rfl⟩ isSubtype_stop ?_);exact W4 (h _ (((QJ ..).extBut.push _).push _))
end
end
section
variable {prog:Wg} {w:Wm} {A:Wl} {E:Value->W2->Prop} {s:W2}
variable {a it:Addr} {ks:List Str} {o:Obj} {es:Array (Int×Value)} {ep:Nat} {t:SetTable} {xs:List (Str×Tok)} {i:Nat}
theorem wK{sl:Nat}{Q:Option Value->W2->Prop}(hh:A.handled=none)(x:cO prog w s.heap a ks o es ep t xs)(hi:s.heap.get? it=some (bZ (.int sl 0) i a es.size ep))
  (hn:∀ E':Value->W2->Prop,W6 (model prog w) A.in1 (setNext a sl i ep) (λr s'=>r=none/\s'=s) E' s)
  (h:∀ h',Heap.ExtBut it s.heap h'->Q none { s with heap:=h' }):W6 (model prog w) A (Qt (.ref it)) Q E s:=by
 have hT:s.TypeIs (.ref it) "set_iterator":=⟨_,hi,rfl⟩
 unfold Qt;refine W0 (wpAny_attempt (Q2 (name:=Str.ofString "__next__") hT slot_next (Qd slot_next hT sR ?_ (sS _))));unfold Builtin.«set_iterator.__next__»;refine W0 (m:=slotArgs "__next__" 0 _) (W4 ?_);refine W0 (wpAny_fieldsOf hi rfl ?_);dsimp only;refine W0 (QK x.g x.d x.f ?_);rw[if_neg (by simp)];simp only[Qw];refine W0 (WC (hn _) (λr s' ⟨e1,e2⟩=>?_) λ_ _ e=>e);subst e1; subst e2
 dsimp only;exact WC (DW hh hi (by decide) h) (λ_ _ e=>e.elim) λ_ _ e=>e
theorem N0{T:Addr}{ps:List Nat}{oT:Obj}{nT p:Nat}{hv:Int}{v:Value}{Q:Option Value->W2->Prop}(x:cO prog w s.heap a ks o es ep t xs)(hi:s.heap.get? it=some (bZ (.ref T) i a es.size ep))
  (gT:s.heap.get? T=some oT) (dT:oT.data = .seq (ps.map λj:Nat=>WY j).toArray nT) (hp:ps[i]? = some p) (wL:es[p]? = some (hv,v))
  (h:∀ h',J5 it s.heap h'->h'.get? it=some (bZ (.ref T) (i + 1) a es.size ep)->Q (some v) { s with heap:=h' }):W6 (model prog w) A (Qt (.ref it)) Q E s:=by
 have hT:s.TypeIs (.ref it) "set_iterator":=⟨_,hi,rfl⟩
 unfold Qt;refine W0 (wpAny_attempt (Q2 (name:=Str.ofString "__next__") hT slot_next (Qd slot_next hT sR ?_ (sS _))));unfold Builtin.«set_iterator.__next__»;refine W0 (m:=slotArgs "__next__" 0 _) (W4 ?_);refine W0 (wpAny_fieldsOf hi rfl ?_);dsimp only;refine W0 (QK x.g x.d x.f ?_);rw[if_neg (by simp)];refine W0 (wpAny_seqItems gT dT ?_);dsimp only;have e1:(ps.map λj:Nat=>WY j).toArray[i]? = some (.int (p:Int) 0):=by simp[hp,WY]
 rw[Qw,e1];dsimp only;refine W0 ?_;unfold setNextDrawn;refine W0 (QX x.g x.d x.f ?_);simp only[Qw,bne_self_eq_false,Jh,if_false];rw[wL];refine W4 ?_;refine W0 (Qs hi rfl (by simp) ?_);have g2:=Wz (Obj.mapFields (·.setIfInBounds 1 (WY ((i:Int) + 1)))) hi (by rfl);refine W4 ⟨_,rfl,W4 (h _ (QJ ..) ?_)⟩;rw[g2];rfl
theorem N1{T:Addr}{ps:List Nat}{oT:Obj}{nT:Nat}{Q:Option Value->W2->Prop}(hh:A.handled=none)(x:cO prog w s.heap a ks o es ep t xs)(hi:s.heap.get? it=some (bZ (.ref T) i a es.size ep))
  (gT:s.heap.get? T=some oT) (dT:oT.data = .seq (ps.map λj:Nat=>WY j).toArray nT) (hp:ps[i]? = none)
  (h:∀ h',Heap.ExtBut it s.heap h'->Q none { s with heap:=h' }):W6 (model prog w) A (Qt (.ref it)) Q E s:=by
 have hT:s.TypeIs (.ref it) "set_iterator":=⟨_,hi,rfl⟩
 unfold Qt;refine W0 (wpAny_attempt (Q2 (name:=Str.ofString "__next__") hT slot_next (Qd slot_next hT sR ?_ (sS _))));unfold Builtin.«set_iterator.__next__»;refine W0 (m:=slotArgs "__next__" 0 _) (W4 ?_);refine W0 (wpAny_fieldsOf hi rfl ?_);dsimp only;refine W0 (QK x.g x.d x.f ?_);rw[if_neg (by simp)];refine W0 (wpAny_seqItems gT dT ?_);dsimp only;have e1:(ps.map λj:Nat=>WY j).toArray[i]? = none:=by simpa using hp
 rw[Qw,e1];dsimp only;refine W0 (Qs hi rfl (by simp) ?_);have g1:(s.heap.update it (Obj.mapFields (·.setIfInBounds 0 (WY 0)))).get? it=some (bZ (WY 0) i a es.size ep):=by
  rw[Wz (Obj.mapFields (·.setIfInBounds 0 (WY 0))) hi (by rfl)];rfl
 refine WC (DW (s:={ s with heap:=s.heap.update it (Obj.mapFields (·.setIfInBounds 0 (WY 0))) }) (j:=2) hh g1 (by decide) λh' eb=>h h' λb ob hb e=>?_) (λ_ _ e=>e.elim) λ_ _ e=>e
 exact eb b ob hb ((WD _ _ (Ne.symm hb)).trans e)
theorem DY(hb:bt w=true)(x:cO prog w s.heap a ks o es ep t xs)(E':Value->W2->Prop) :
  W6 (model prog w) A (setNext a 0 i ep) (λr s'=>r=((pickOrder (w.params.setOrder a ep) es)[i]?).map (λe=>(e.2,0))/\s'=s) E' s:=by
 unfold setNext setsByText;refine W0 (QX x.g x.d x.f ?_);dsimp only;refine W0 (W0 (Jc (W4 ?_)));have eQ:Params.followText w.params "set-order" = true:=hb;show W6 _ _ (if Params.followText w.params "set-order" = true then _ else _) _ _ _;rw[if_pos eQ];simp only[bne_self_eq_false,Jh,if_false];refine W0 ?_;unfold setWalk setsByText;refine W0 (QX x.g x.d x.f ?_);dsimp only;refine W0 (W0 (Jc (W4 ?_)));show W6 _ _ (if Params.followText w.params "set-order" = true then _ else _) _ _ _;rw[if_pos eQ];refine W0 (Jc ?_);exact W4 (W4 ⟨rfl,rfl⟩)
theorem wM(hb:bt w=false)(x:cO prog w s.heap a ks o es ep t xs)(h1:es.size<=1)(sl:Nat)(E':Value->W2->Prop) :
  W6 (model prog w) A (setNext a sl i ep) (λr s'=>r=(match es[SetTable.below t.place sl]?,t.place[SetTable.below t.place sl]? with | some (_,v),some j=>some (v,j + 1) | _,_=>none)/\s'=s) E' s:=by
 unfold setNext setsByText;refine W0 (QX x.g x.d x.f ?_);dsimp only;refine W0 (W0 (Jc (W4 ?_)));have eQ:¬ Params.followText w.params "set-order" = true:=by rw[show Params.followText w.params "set-order" = false from hb]; decide
 show W6 _ _ (if Params.followText w.params "set-order" = true then _ else _) _ _ _;rw[if_neg eQ];show W6 _ _ (if (!t.plain && decide (es.size > 1))=true then _ else _) _ _ _;rw[if_neg (by simp; omega)];refine W0 ?_;show W6 _ _ (if (!t.led && !es.isEmpty)=true then _ else _) _ _ _;rw[if_neg (by rw[x.l hb]; simp)];exact W4 (W4 ⟨rfl,rfl⟩)
theorem sU{St:Nat->Heap->Prop}{n:Nat}{val:Nat->Value}{S:Addr}{res:Value}{R:Result->W2->Prop}(eJ:S≠it)(hn:n<=1000)
  (fr:∀ i h h',St i h->(∀ b ob,b≠S->h.get? b=some ob->h'.get? b=some ob)->St i h')
  (item:∀ (i:Nat) (s:W2) (Q:Option Value->W2->Prop) (E:Value->W2->Prop),i < n->St i s.heap->(∀ h',(∀ b ob,b≠it->s.heap.get? b=some ob->h'.get? b=some ob)->St (i + 1) h'->Q (some (val i)) { s with heap:=h' })->W6 (model prog w) A.in1 (Qt (.ref it)) Q E s)
  (done:∀ (s:W2) (Q:Option Value->W2->Prop) (E:Value->W2->Prop),St n s.heap->(∀ h',(∀ b ob,b≠it->s.heap.get? b=some ob->h'.get? b=some ob)->Q none { s with heap:=h' })->W6 (model prog w) A.in1 (Qt (.ref it)) Q E s) :
  ∀ (k i:Nat) (s:W2) (acc:Array Value) (c:Nat),n - i=k->i<=n->St i s.heap->s.heap.get? S=some { cls:=.type "list",data:=.seq acc c }->acc.toList=(Wp i).map val ->
   (∀ h' e8 c',(∀ b ob,b≠S->b≠it->s.heap.get? b=some ob->h'.get? b=some ob)->h'.get? S=some { cls:=.type "list",data:=.seq e8 c' }->e8.toList=(Wp n).map val->R (.ok (.ret res)) { s with heap:=h' }) ->
   Q4 (model prog w) A (.builtin "list.extend.loop" ⟨[.ref S,.ref it,res],[]⟩) R s:=by
 intro k;induction k with
 | zero =>
  intro i s acc c e1 e2 st g ea fin;obtain rfl:i=n:=by omega
  refine Qb PySem.F.entry_extend_loop ?_;rw[Around.under_plainId QA _];show W6 _ A.in1 (Qt (.ref it) >>= _) _ _ _;refine W0 (done s _ _ st λh' kp=>?_);exact W4 (fin h' acc c (λb ob _ hb e=>kp b ob hb e) (kp S _ eJ g) ea)
 | succ k ih =>
  intro i s acc c e1 e2 st g ea fin;refine Qb PySem.F.entry_extend_loop ?_;rw[Around.under_plainId QA _];show W6 _ A.in1 (Qt (.ref it) >>= _) _ _ _;refine W0 (item i s _ _ (by omega) st λh' kp dw=>?_);have g':=kp S _ eJ g;have za:acc.size=i:=by rw[<- Qg,ea]; simp
  show W6 _ A.in1 (updateSeq S (·.push (val i)) >>= _) _ _ _;refine W0 (JB (hz:=by rw[za,QC]; omega) g' rfl ?_);have g2:=Wz (Obj.mapSeq (·.push (val i))) g' rfl;refine W4 ⟨QH QA _,ih (i + 1) _ (acc.push (val i)) _ (by omega) (by omega) (fr _ _ _ dw λb ob hb e=>(WD _ _ (Ne.symm hb)).trans e) g2 (by rw[Array.toList_push,ea,JA,QE]; rfl) λh2 e8 c' vz g3 cI=>?_⟩;exact fin h2 e8 c' (λb ob hb hi e=>vz b ob hb hi ((WD _ _ (Ne.symm hb)).trans (kp b ob hi e))) g3 cI
end
section
variable {prog:Wg} {w:Wm} {A:Wl} {E:Value->W2->Prop} {s:W2}
variable {a it:Addr} {ks:List Str} {o:Obj} {es:Array (Int×Value)} {ep:Nat} {t:SetTable} {xs:List (Str×Tok)} {i:Nat}
abbrev e9 (ps:List Nat):Obj:={ cls:=.type "tuple",data:=.seq (ps.map λj:Nat=>WY j).toArray }
theorem N2(x:cO prog w s.heap a ks o es ep t xs)(hz:es.size<=1000)
  (hI:(bt w=true\/es.size<=1)->Q (.ref s.heap.objs.size) { s with heap:=s.heap.push (bZ (.int 0 0) 0 a es.size ep) })
  (hD:∀ ps d,ps.Perm (Wp es.size)->Q (.ref (s.heap.push (e9 ps)).objs.size) { s with heap:=(s.heap.push (e9 ps)).push (bZ (.ref s.heap.objs.size) 0 a es.size ep),drawn:=d }):W6 (model prog w) A (pyIter (.ref a)) Q E s:=by
 refine wpAny_pyIter_slot x.so.typeIs PySem.F.slot_set_iter (Qd PySem.F.slot_set_iter x.so.typeIs NX ?_ (PySem.F.args_set_iter_1 _));unfold Builtin.«frozenset.__iter__»;refine W0 (m:=Builtin.Frozenset.slot0 "__iter__" _) (W4 ?_);unfold Builtin.Frozenset.sizeOf;refine W0 (W0 (QK x.g x.d x.f (W4 ?_)));unfold setDrawn setsByText;refine W0 (W0 (QX x.g x.d x.f ?_));dsimp only;refine W0 (W0 (Jc (W4 ?_)));refine W4 ?_;show W6 _ _ (if (!bt w && (!t.plain && decide (es.size > 1)))=true then _ else _) _ _ _;by_cases hc:(!bt w && (!t.plain && decide (es.size > 1)))=true
 ·rw[if_pos hc];refine W0 (DQ es.size (Wp es.size) s _ (by simp) λps d pp=>?_);have hl:ps.length=es.size:=by rw[pp.length_eq,List.length_range]
  unfold newTuple;refine W0 (WL ?_ (by show(ps.map λj:Nat=>WY j).toArray.size<=Wa; rw[Wr,Wx,hl,QC]; omega));have x1:cO prog w (s.heap.push (e9 ps)) a ks o es ep t xs:={ x with g:=W3 _ x.g }
  refine W0 (wpAny_setEpoch_of (s:={ s with heap:=s.heap.push (e9 ps),drawn:=d }) x1.g x1.d x1.f ?_);refine W0 (WL (W4 ⟨_,rfl,"set_iterator",_,⟨_,Wi _ rfl,rfl⟩,slot_next.lookup,?_⟩));exact hD ps d pp
 ·rw[if_neg hc];refine W0 (W4 ?_);refine W0 (wpAny_setEpoch_of x.g x.d x.f ?_);refine W0 (WL (W4 ⟨_,rfl,"set_iterator",_,⟨_,Wi _ rfl,rfl⟩,slot_next.lookup,?_⟩));refine hI ?_
  cases hb:bt w with
  | true=>exact .inl rfl
  | false =>
   right
   rw[hb] at hc;refine Nat.le_of_not_lt λN3=>hc ?_
   have hp:t.plain=false:=by
    cases e:t.plain with
    | false=>rfl
    | true =>
     have hs:es.size=0:=by rw[x.sz,x.q e]; rfl
     omega
   rw[hp];simpa using N3
theorem DZ(x:er prog w s.heap a ks)(h:Q false s):W6 (model prog w) A (Builtin.List.listLengthHint (.ref a)) Q E s:=by
 have hT:=x.so.typeIs;unfold Builtin.List.listLengthHint;refine W0 (wpAny_specialOf hT NY ?_);generalize hid:("set.__len__" : String)=id0;wp_delta
 rw[show splitId id0=some ("set","__len__") from by subst hid; decide +kernel];subst hid;refine W0 (wpAny_isInstance (T:="set") (b:=true) hT (by rw[isSubtype_type]; kernel_rfl) ?_);refine Jz (λkS=>absurd kS (by decide)) (λ_=>?_);refine Jz (λ_=>?_) (λkS=>absurd (by decide +kernel) kS);refine W0 (QQ hT ?_);exact W4 h
theorem N4(hh:A.handled=none)(x:cO prog w s.heap a ks o es ep t xs)(hz:es.size<=1000)(hS:S≠it)(kn:S≠a)(jB:a≠it)(hc:bt w=true\/es.size<=1)
  (hi:s.heap.get? it=some (bZ (.int 0 0) 0 a es.size ep)) (gS:s.heap.get? S=some { cls:=.type "list",data:=.seq #[] c })
  (fin:∀ h' e8 c' (zs:List (Str×Tok)),(∀ b ob,b≠S->b≠it->s.heap.get? b=some ob->h'.get? b=some ob)->h'.get? S=some { cls:=.type "list",data:=.seq e8 c' }->e8.toList=zs.map (λz=>Value.str z.1 z.2)->(zs.map (·.1)).Perm ks->R (.ok (.ret res)) { s with heap:=h' }) :
  Q4 (model prog w) A (.builtin "list.extend.loop" ⟨[.ref S,.ref it,res],[]⟩) R s:=by
 have fr:∀ (F:Nat->Value) (i:Nat) (h h':Heap),(h.get? it=some (bZ (F i) i a es.size ep)/\cO prog w h a ks o es ep t xs)->(∀ b ob,b≠S->h.get? b=some ob->h'.get? b=some ob)->(h'.get? it=some (bZ (F i) i a es.size ep)/\cO prog w h' a ks o es ep t xs) :=
  λF i h h' ⟨q1,q2⟩ k=>⟨k _ _ (Ne.symm hS) q1,{ q2 with g:=k _ _ (Ne.symm kn) q2.g }⟩
 cases hb:bt w with
 | true =>
  have pp:=DP (w.params.setOrder a ep) es;rw[x.e] at pp;obtain⟨zs,ez,pz⟩:=wF pp;have hl:zs.length=es.size:=by
   have:=congrArg Js ez;have q:=(DP (w.params.setOrder a ep) es).length_eq;simp at this q;omega
  have gt:∀ i,(pickOrder (w.params.setOrder a ep) es)[i]? = (zs[i]?).map (gO prog w):=λi=>by
   rw[<- Array.getElem?_toList,ez,WF]
  refine sU (it:=it) (St:=λi h=>h.get? it=some (bZ (.int 0 0) i a es.size ep)/\cO prog w h a ks o es ep t xs) (n:=es.size) (val:=λi=>((zs[i]?).map λz=>Value.str z.1 z.2).getD .none) hS hz (fr λ_=>.int 0 0) ?item ?done es.size 0 s #[] c (by omega) (Qy _) ⟨hi,x⟩ gS rfl ?fin
  case item =>
   rintro i s Q E' aY ⟨q1,q2⟩ k;have eV:i < zs.length:=by omega
   refine DU (A:=A.in1) (sl:=0) (nx:=0) (v:=Value.str zs[i].1 zs[i].2) q2 q1 (λE2=>WC (DY (i:=i) hb q2 E2) (λr s' ⟨e1,e2⟩=>⟨by rw[e1,gt i,Wt eV]; rfl,e2⟩) λ_ _ e=>e) λh' sb g=>?_
   have:((zs[i]?).map λz=>Value.str z.1 z.2).getD .none=Value.str zs[i].1 zs[i].2:=by rw[Wt eV]; rfl
   rw[<- this];exact k h' (λb ob eQ e=>(sb.2 b eQ).trans e) ⟨g,{ q2 with g:=(sb.2 a jB).trans q2.g }⟩
  case done =>
   rintro s Q E' ⟨q1,q2⟩ k;refine wK (A:=A.in1) (sl:=0) hh q2 q1 (λE2=>WC (DY hb q2 E2) (λr s' ⟨e1,e2⟩=>⟨by rw[e1,gt,WV (by omega)]; rfl,e2⟩) λ_ _ e=>e) λh' eb=>k h' λb ob eQ e=>eb b ob eQ e
  case fin =>
   intro h' e8 c' k g ea;refine fin h' e8 c' zs k g ?_ (pz.trans x.p);rw[ea,<- hl];refine List.ext_getElem (by simp) λi h1 h2=>?_
   simp at h1 h2;simp[h2]
 | false =>
  have h1:es.size<=1:=hc.resolve_left (by rw[hb]; decide);have jA:t.place.size=es.size:=by
   have:=x.f;unfold SetTable.fits at this;simp at this;exact this.1
  have wN:xs.length=es.size:=by
   have:=congrArg Js x.e;simp at this;omega
  by_cases h0:es.size=0
  ·refine sU (it:=it) (St:=λi h=>h.get? it=some (bZ (.int 0 0) i a es.size ep)/\cO prog w h a ks o es ep t xs) (n:=0) (val:=λi=>.none) hS (by decide) (fr λ_=>.int 0 0) (λi s Q E' aY=>by omega) ?done 0 0 s #[] c rfl (Wb _) ⟨hi,x⟩ gS rfl ?fin
   case done =>
    rintro s Q E' ⟨q1,q2⟩ k;refine wK (A:=A.in1) (sl:=0) hh q2 q1 (λE2=>WC (wM hb q2 h1 0 E2) (λr s' ⟨e1,e2⟩=>⟨by
     rw[e1,Array.getElem?_eq_none (by omega)],e2⟩) λ_ _ e=>e) λh' eb=>k h' λb ob eQ e=>eb b ob eQ e
   case fin =>
    intro h' e8 c' k g ea;have:xs=[]:=QI (by omega);refine fin h' e8 c' xs k g ?_ x.p;rw[ea,this]; rfl
  ·have TC:es.size=1:=by omega
   obtain⟨z,ez⟩:∃ z,xs=[z]:=by
    match xs,wN with
    | [z],_=>exact⟨z,rfl⟩
    | [],h=>simp at h; omega
    | _ :: _ :: _,h=>simp at h; omega
   obtain⟨j,ej⟩:∃ j,t.place = #[j]:=by
    have:t.place.toList.length=1:=by simp; omega
    match hp:t.place.toList,this with
    | [j],_=>exact⟨j,by rw[<- Array.toArray_toList (xs:=t.place),hp]⟩
   have e0:es[0]? = some (gO prog w z):=by rw[<- Array.getElem?_toList,x.e,ez]; rfl
   have b0:SetTable.below t.place 0=0:=by rw[ej]; simp[SetTable.below,SetTable.below.go]
   have b1:SetTable.below t.place (j + 1)=1:=by rw[ej]; simp[SetTable.below,SetTable.below.go]
   refine sU (it:=it) (St:=λi h=>h.get? it=some (bZ (.int ((if i=0 then 0 else j + 1:Nat):Int) 0) i a es.size ep)/\cO prog w h a ks o es ep t xs) (n:=1) (val:=λi=>Value.str z.1 z.2) hS (by decide) (fr λi=>.int ((if i=0 then 0 else j + 1:Nat):Int) 0) ?item ?done 1 0 s #[] c rfl (by decide) ⟨hi,x⟩ gS rfl ?fin
   case item =>
    rintro i s Q E' aY ⟨q1,q2⟩ k;obtain rfl:i=0:=by omega
    refine DU (A:=A.in1) (sl:=0) (nx:=j + 1) (v:=Value.str z.1 z.2) q2 q1 (λE2=>WC (wM (i:=0) hb q2 h1 0 E2) (λr s' ⟨e1,e2⟩=>⟨by
     rw[e1,b0,e0,ej]; rfl,e2⟩) λ_ _ e=>e) λh' sb g=>?_
    exact k h' (λb ob eQ e=>(sb.2 b eQ).trans e) ⟨g,{ q2 with g:=(sb.2 a jB).trans q2.g }⟩
   case done =>
    rintro s Q E' ⟨q1,q2⟩ k;refine wK (A:=A.in1) (sl:=j + 1) hh q2 q1 (λE2=>WC (wM hb q2 h1 (j + 1) E2) (λr s' ⟨e1,e2⟩=>⟨by
     rw[e1,b1,Array.getElem?_eq_none (by omega)],e2⟩) λ_ _ e=>e) λh' eb=>k h' λb ob eQ e=>eb b ob eQ e
   case fin =>
    intro h' e8 c' k g ea;refine fin h' e8 c' xs k g ?_ x.p;rw[ea,ez]; rfl
theorem Cw{S T:Addr}{res:Value}{R:Result->W2->Prop}{c:Nat}{ps:List Nat}(hh:A.handled=none)(x:cO prog w s.heap a ks o es ep t xs)(hz:es.size<=1000)(hS:S≠it)(kn:S≠a)(jB:a≠it)(N5:S≠T)(N6:T≠it)(pp:ps.Perm (Wp es.size))
  (hi:s.heap.get? it=some (bZ (.ref T) 0 a es.size ep)) (gT:s.heap.get? T=some (e9 ps)) (gS:s.heap.get? S=some { cls:=.type "list",data:=.seq #[] c })
  (fin:∀ h' e8 c' (zs:List (Str×Tok)),(∀ b ob,b≠S->b≠it->s.heap.get? b=some ob->h'.get? b=some ob)->h'.get? S=some { cls:=.type "list",data:=.seq e8 c' }->e8.toList=zs.map (λz=>Value.str z.1 z.2)->(zs.map (·.1)).Perm ks->R (.ok (.ret res)) { s with heap:=h' }) :
  Q4 (model prog w) A (.builtin "list.extend.loop" ⟨[.ref S,.ref it,res],[]⟩) R s:=by
 have hl:ps.length=es.size:=by rw[pp.length_eq,List.length_range]
 have wN:xs.length=es.size:=by
  have:=congrArg Js x.e;simp at this;omega
 have fq:∀ i (h:i < ps.length),ps[i] < xs.length:=λi h=>by
  have:=Q8.mp (pp.mem_iff.mp (Jq h));omega
 have ge:∀ p (h:p < xs.length),es[p]? = some (gO prog w xs[p]):=λp h=>by
  rw[<- Array.getElem?_toList,x.e,WF,Wt h]; rfl
 refine sU (it:=it) (St:=λi h=>h.get? it=some (bZ (.ref T) i a es.size ep)/\cO prog w h a ks o es ep t xs/\h.get? T=some (e9 ps)) (n:=es.size) (val:=λi=>((ps[i]?).bind λp=>(xs[p]?).map λz=>Value.str z.1 z.2).getD .none) hS hz (λi h h' ⟨q1,q2,q3⟩ k=>⟨k _ _ (Ne.symm hS) q1,{ q2 with g:=k _ _ (Ne.symm kn) q2.g },k _ _ (Ne.symm N5) q3⟩) ?item ?done es.size 0 s #[] c (by omega) (Qy _) ⟨hi,x,gT⟩ gS rfl ?fin
 case item =>
  rintro i s Q E' aY ⟨q1,q2,q3⟩ k;have eV:i < ps.length:=by omega
  have hp:=fq i eV;refine N0 (A:=A.in1) (T:=T) (ps:=ps) (p:=ps[i]) q2 q1 q3 rfl (Wt eV) (ge _ hp) λh' sb g=>?_
  have:((ps[i]?).bind λp=>(xs[p]?).map λz=>Value.str z.1 z.2).getD .none=Value.str (xs[ps[i]]).1 (xs[ps[i]]).2:=by
   rw[Wt eV,Wu,Wt hp]; rfl
  have k2:=k h' (λb ob eQ e=>(sb.2 b eQ).trans e) ⟨g,{ q2 with g:=(sb.2 a jB).trans q2.g },(sb.2 T N6).trans q3⟩;rw[this] at k2;exact k2
 case done =>
  rintro s Q E' ⟨q1,q2,q3⟩ k;exact N1 (A:=A.in1) (T:=T) (ps:=ps) hh q2 q1 q3 rfl (WV (by omega)) λh' eb=>k h' λb ob eQ e=>eb b ob eQ e
 case fin =>
  intro h' e8 c' k g ea;refine fin h' e8 c' (ps.filterMap (xs[·]?)) k g ?_ ?_
  ·rw[ea,<- hl];have all:∀ p ∈ ps,p < xs.length:=λp hp=>by have:=Q8.mp (pp.mem_iff.mp hp); omega
   clear pp fin ea g k hl fq ge hi gT;have:∀ ps:List Nat,(∀ p ∈ ps,p < xs.length)->(Wp ps.length).map (λi=>((ps[i]?).bind λp=>(xs[p]?).map λz=>Value.str z.1 z.2).getD .none)=(ps.filterMap (xs[·]?)).map λz=>Value.str z.1 z.2:=λps=>by
    induction ps with
    | nil=>intro _; rfl
    | cons p ps ih =>
     intro all;have hp:=all p Wj;rw[WE,Ji,Wo,WA];have N7:=ih λq hq=>all q (Wd _ hq)
     have e1:(p :: ps).filterMap (xs[·]?)=xs[p] :: ps.filterMap (xs[·]?):=List.filterMap_cons_some (Wt hp);rw[e1,Wo,<- N7];simp[Wt hp,Function.comp_def]
   exact this ps all
  ·have p1:(ps.filterMap (xs[·]?)).Perm xs:=(pp.filterMap _).trans (by rw[<- wN,List.filterMap_getElem?_range_length]);exact(p1.map (·.1)).trans x.p
end
section
variable {prog:Wg} {w:Wm} {A:Wl} {E:Value->W2->Prop} {s:W2}
theorem N8 (hh:A.handled=none) (x:cO prog w s.heap a ks o es ep t xs) (hz:es.size<=1000) (kn:S≠a) (gS:s.heap.get? S=some { cls:=.type "list",data:=.seq #[] c0 })
  (fin:∀ (h3:Heap) (d:Drawn) (acc:Array Value) (c:Nat) (ys:List (Str×Tok)),(∀ b ob,b≠S->s.heap.get? b=some ob->h3.get? b=some ob)->h3.get? S=some { cls:=.type "list",data:=.seq acc c }->acc.toList=ys.map (λz=>Value.str z.1 z.2)->(ys.map (·.1)).Perm ks->R (.ok (.ret res)) { s with heap:=h3,drawn:=d }) :
  W6 (model prog w) A.in1 (Builtin.List.listExtendWith (.ref S) (.ref a) res) (λfin s'=>match fin with | .done f=>R (.ok f) s' | .again c'=>c'.quiet=true/\Q4 (model prog w) A c' R s') (λe s'=>R (.error e) s') s:=by
 have lt:=Wf x.g;have lS:=Wf gS;unfold Builtin.List.listExtendWith;refine W0 (QQ (T:="set") x.so.typeIs ?_);have n1:Builtin.List.listSameRef (.ref S) (.ref a)=false:=by simp only[Builtin.List.listSameRef]; exact beq_eq_false_iff_ne.mpr kn
 have n2:(Value.type "set" == Value.type "list")=false:=by decide
 have n3:(Value.type "set" == Value.type "tuple")=false:=by decide
 simp only[n1,n2,n3,Bool.or_false,Jh,if_false];refine W0 (N2 x hz (λhc=>?_) (λps d pp=>?_))
 ·have x2:cO prog w (s.heap.push (bZ (.int 0 0) 0 a es.size ep)) a ks o es ep t xs:={ x with g:=W3 _ x.g }
  have g1:(s.heap.push (bZ (.int 0 0) 0 a es.size ep)).get? S=some { cls:=.type "list",data:=.seq #[] c0 }:=W3 _ gS;have g2:(s.heap.push (bZ (.int 0 0) 0 a es.size ep)).get? s.heap.objs.size=some (bZ (.int 0 0) 0 a es.size ep):=Wi _ rfl;refine W0 (WU (DZ (s:={ s with heap:=s.heap.push (bZ (.int 0 0) 0 a es.size ep) }) ⟨_,_,_,_,_,x2⟩ ?_));refine Jz (λ_=>?_) (λhn=>absurd (by decide) hn);refine W0 (QN ?_);refine W0 ?_;show W6 _ _ (updateSeq S (·.push .none) >>= λ_=>updateSeq S (·.pop)) _ _ _;refine W0 (JB (s:={ s with heap:=s.heap.push (bZ (.int 0 0) 0 a es.size ep) }) g1 rfl ?_);have g4:=Wz (Obj.mapSeq (·.push Value.none)) g1 rfl;refine JB (hz:=by seq_fits) g4 rfl ?_;have g5:=Wz (Obj.mapSeq (·.pop)) g4 rfl;have k2:∀ b ob,b≠S->(s.heap.push (bZ (.int 0 0) 0 a es.size ep)).get? b=some ob->(((s.heap.push (bZ (.int 0 0) 0 a es.size ep)).update S (Obj.mapSeq (·.push Value.none))).update S (Obj.mapSeq (·.pop))).get? b=some ob:=λb ob hb e =>
   (WD _ _ (Ne.symm hb)).trans ((WD _ _ (Ne.symm hb)).trans e)
  refine W4 ⟨QH QA _,?_⟩;refine N4 (s:={ s with heap:=_ }) hh { x2 with g:=k2 a _ (Ne.symm kn) x2.g } hz (Wq lS) kn (Wq lt) hc (k2 _ _ (QD lS) g2) g5 λh3 acc c' ys k3 g6 ea pp=>fin h3 s.drawn acc c' ys (λb ob hb e=>?_) g6 ea pp
  have lb:=Wf e;exact k3 b ob hb (Wq lb) (k2 b ob hb (W3 _ e))
 ·have zT:(s.heap.push (e9 ps)).objs.size=s.heap.objs.size + 1:=QL _ _;have x2:cO prog w ((s.heap.push (e9 ps)).push (bZ (.ref s.heap.objs.size) 0 a es.size ep)) a ks o es ep t xs:={ x with g:=W3 _ (W3 _ x.g) }
  have g1:((s.heap.push (e9 ps)).push (bZ (.ref s.heap.objs.size) 0 a es.size ep)).get? S=some { cls:=.type "list",data:=.seq #[] c0 }:=W3 _ (W3 _ gS);have g2:((s.heap.push (e9 ps)).push (bZ (.ref s.heap.objs.size) 0 a es.size ep)).get? (s.heap.push (e9 ps)).objs.size=some (bZ (.ref s.heap.objs.size) 0 a es.size ep):=Wi _ rfl;have gT:((s.heap.push (e9 ps)).push (bZ (.ref s.heap.objs.size) 0 a es.size ep)).get? s.heap.objs.size=some (e9 ps):=W3 _ (Wi _ rfl);have lI:S < (s.heap.push (e9 ps)).objs.size:=by rw[zT]; exact Qe lS
  refine W0 (WU (DZ (s:={ s with heap:=(s.heap.push (e9 ps)).push (bZ (.ref s.heap.objs.size) 0 a es.size ep),drawn:=d }) ⟨_,_,_,_,_,x2⟩ ?_));refine Jz (λ_=>?_) (λhn=>absurd (by decide) hn);refine W0 (QN ?_);refine W0 ?_;show W6 _ _ (updateSeq S (·.push .none) >>= λ_=>updateSeq S (·.pop)) _ _ _;refine W0 (JB (s:={ s with heap:=(s.heap.push (e9 ps)).push (bZ (.ref s.heap.objs.size) 0 a es.size ep),drawn:=d }) g1 rfl ?_);have g4:=Wz (Obj.mapSeq (·.push Value.none)) g1 rfl;refine JB (hz:=by seq_fits) g4 rfl ?_;have g5:=Wz (Obj.mapSeq (·.pop)) g4 rfl;have k2:∀ b ob,b≠S->((s.heap.push (e9 ps)).push (bZ (.ref s.heap.objs.size) 0 a es.size ep)).get? b=some ob->((((s.heap.push (e9 ps)).push (bZ (.ref s.heap.objs.size) 0 a es.size ep)).update S (Obj.mapSeq (·.push Value.none))).update S (Obj.mapSeq (·.pop))).get? b=some ob:=λb ob hb e =>
   (WD _ _ (Ne.symm hb)).trans ((WD _ _ (Ne.symm hb)).trans e)
  refine W4 ⟨QH QA _,?_⟩;refine Cw (s:={ s with heap:=_,drawn:=d }) (T:=s.heap.objs.size) (ps:=ps) hh { x2 with g:=k2 a _ (Ne.symm kn) x2.g } hz (Wq lI) kn (Wq (by rw[zT]; exact Qe lt)) (Wq lS) (by rw[zT]; exact Wq (JU _)) pp (k2 _ _ (QD lI) g2) (k2 _ _ (QD lS) gT) g5 λh3 acc c' ys k3 g6 ea pp=>fin h3 d acc c' ys (λb ob hb e=>?_) g6 ea pp
  have lb:=Wf e;exact k3 b ob hb (Wq (by rw[zT]; exact Qe lb)) (k2 b ob hb (W3 _ (W3 _ e)))
theorem N9(hh:A.handled=none)(hA:er prog w s.heap a ks)(hn:ks.length<=1000)
  (h:∀ (h':Heap) (d:Drawn) (zs:List (Str×Tok)),(zs.map (·.1)).Perm ks->(∀ b o,s.heap.get? b=some o->h'.get? b=some o)->s.heap.objs.size < h'.objs.size->Q (zs.map λz=>Value.str z.1 z.2) { s with heap:=h',drawn:=d }):W6 (model prog w) A (collect (.ref a)) Q E s:=by
 obtain⟨o,es,ep,t,xs,x⟩:=hA;have hz:es.size<=1000:=by rw[x.sz]; exact hn
 have lt:=Wf x.g;unfold collect;refine W0 (wpAny_runValue (Qb PySem.F.entry_proto_collect ?_));rw[Around.under_plainId PySem.F.plain_proto_collect _];show W6 _ A.in1 (newList [] >>= λl=>again (.builtin "list.__iadd__" ⟨[l,.ref a],[]⟩)) _ _ s;refine W0 (WL ?_);refine W4 ⟨QH PySem.F.plain_list_iadd _,Qb PySem.F.entry_list_iadd ?_⟩;rw[Around.under_plainId PySem.F.plain_list_iadd _];generalize hL:({ cls:=.type "list",data:=.seq ([]:List Value).toArray }:Obj)=L0;have g0:(s.heap.push L0).get? s.heap.objs.size=some { cls:=.type "list",data:=.seq #[] }:=by rw[<- hL]; exact Wi _ rfl
 have x1:cO prog w (s.heap.push L0) a ks o es ep t xs:={ x with g:=W3 _ x.g }
 show W6 _ A.in1 (Builtin.List.listExtendWith (.ref s.heap.objs.size) (.ref a) (.ref s.heap.objs.size)) _ _ _;have key:=N8 (A:=A) (s:={ s with heap:=s.heap.push L0 }) (res:=.ref s.heap.objs.size) (R:=λq s'=>∃ (h3:Heap) (d:Drawn) (acc:Array Value) (c:Nat) (ys:List (Str×Tok)),q = .ok (.ret (.ref s.heap.objs.size))/\s' = { s with heap:=h3,drawn:=d }/\(∀ b ob,s.heap.get? b=some ob->h3.get? b=some ob)/\h3.get? s.heap.objs.size=some { cls:=.type "list",data:=.seq acc c }/\acc.toList=ys.map (λz=>Value.str z.1 z.2)/\(ys.map (·.1)).Perm ks) hh x1 hz (QD lt) g0 λh3 d acc c ys k3 g3 ea pp =>
  ⟨h3,d,acc,c,ys,rfl,rfl,λb ob e=>k3 b ob (Wq (Wf e)) (W3 _ e),g3,ea,pp⟩
 have last:∀ (h3:Heap) (d:Drawn) (acc:Array Value) (c:Nat) (ys:List (Str×Tok)),(∀ b ob,s.heap.get? b=some ob->h3.get? b=some ob)->h3.get? s.heap.objs.size=some { cls:=.type "list",data:=.seq acc c }->acc.toList=ys.map (λz=>Value.str z.1 z.2)->(ys.map (·.1)).Perm ks ->
   W6 (model prog w) A (do
    match (<- load s.heap.objs.size).data with
    | .seq xs _=>pure xs.toList
    | _=>unsupported "internal:collect") Q E { s with heap:=h3,drawn:=d }:=λh3 d acc c ys k3 g3 ea pp=>by
  refine W0 (wpAny_load g3 ?_);refine W4 ?_;show Q acc.toList _;rw[ea];exact h h3 d ys pp k3 (Wf g3)
 refine WC key (λfin s' z=>?_) λe s' z=>?_
 ·cases fin with
  | done f =>
   obtain⟨h3,d,acc,c,ys,e,rfl,k3,g3,ea,pp⟩:=z
   cases e;exact last h3 d acc c ys k3 g3 ea pp
  | again c₁ =>
   refine⟨z.1,Qk z.2 λq s₂ y=>?_⟩;obtain⟨h3,d,acc,c,ys,rfl,rfl,k3,g3,ea,pp⟩:=y;exact last h3 d acc c ys k3 g3 ea pp
 ·obtain⟨_,_,_,_,_,e',_⟩:=z
  cases e'
theorem N_(zs:List (Str×Tok)):StrsAre (zs.map λz=>Value.str z.1 z.2) (zs.map (·.1)):=by
 induction zs with
 | nil=>exact .nil
 | cons z zs ih=>exact .cons _ _ ih
theorem Oa(hh:A.handled=none)(hA:er prog w s.heap a ks)(hn:ks.length < 64)
  (h:∀ (h':Heap) (d:Drawn) (p:Addr) (e:Nat) (out:Array Value) (ss:List Str),StrsAre out.toList ss->ss.Perm ks->sortedS ss=true->(∀ b o,s.heap.get? b=some o->h'.get? b=some o)->s.heap.objs.size<=p->h'.get? p=some (seqObj "list" out e)->Q (.ref p) { s with heap:=h',drawn:=d }) :
  W6 (model prog w) A (call (.builtin "sorted") [.ref a]) Q E s:=by
 refine Calls.call_function_entry kind_sorted plain_sorted entry_sorted (args_sorted1 _) ?_;unfold Builtin.«sorted»;refine W0 (m:=checkCount "sorted" 1 1 _) (W4 (W0 (N9 (A:=A.in1) hh hA (by omega) λh1 d zs pz k1 hz=>?_)));have hl:(zs.map λz=>Value.str z.1 z.2).length < 64:=by have:=pz.length_eq; simp at this ⊢; omega
 refine W0 (wpAny_newList ?_ (by rw[QC]; omega));have hS:=N_ zs;generalize (zs.map λz=>Value.str z.1 z.2)=vs at hl hS ⊢;have ho:(h1.push (seqObj "list" vs.toArray 0)).get? h1.objs.size=some (seqObj "list" vs.toArray 0):=Wi _ rfl;refine W0 (WU (Qd slot_list_sort ⟨_,ho,rfl⟩ entry_list_sort (list_sort_treeK (s:={ s with heap:=h1.push (seqObj "list" vs.toArray 0),drawn:=d }) strKind_oneLt ho hS.keysOf (λv₁ v₂ rest e=>keyKind_strs (by rw[<- e]; exact hS)) hl λdw hp hs=>⟨_,rfl,?_⟩) (args_list_sort _)));obtain⟨ss',q1,q2,q3⟩:=sorted_out_str hS hp hs;obtain⟨e,he⟩:=sortedHeap_at (out:=(arrOf dw).map (·.2)) ho;refine W4 ⟨_,rfl,h _ d h1.objs.size e _ ss' q1 (q2.trans pz) q3 (λb o q=>?_) (Jk hz) he⟩;have r1:=k1 b o q;have lb:=Wf r1;rw[sortedHeap_old (Wq lb) (by rw[size_push']; exact Qe lb)];exact W3 _ r1
end
end SU
set_option maxHeartbeats 400000
namespace L2
open PySem PySem.Spec PyProof.Rows PySem.W DV SU
def lq(X:Cx)(a:Addr)(ks:List Str):HO:=.ext λh=>er X.prog X.w h a ks
theorem Ob(x:er X.prog X.w h a ks):bq X.prog X.w H h a (lq X a ks):=by
 refine⟨x,?_,λh1 h2 y k=>y.at' k⟩;obtain⟨o,es,ep,t,xs,z⟩:=x;exact⟨o,z.g⟩
theorem Oc(ok:b8 X.prog X.w H h)(e:H a=some (lq X a ks)):er X.prog X.w h a ks :=
 (show bq X.prog X.w H h a (lq X a ks) from ok a _ e).1
section
variable {X:Cx}
theorem Inv.drawn(I:Inv X pins σ H s)(d:Drawn):Inv X pins σ H { s with drawn:=d } :=
 ⟨I.ok,I.os,I.bare,I.base,I.loc,I.cell,I.free,I.du,I.pin,I.ag,I.len⟩
theorem oX:∀ {vs:List Value} {ss:List Str},StrsAre vs ss->Vals (ss.map V.str) vs
 | _,_,.nil=>.nil
 | _,_,.cons x t h=>.cons ⟨t,rfl⟩ (oX h)
theorem Od (hc:X.calm=true):dH X (.builtin "sorted") (λxs H Q=>∃ (a:Addr) (ts:List Tx),xs=[.ref a]/\H a=some (lq X a (ts.map toS))/\ts.length < 64/\∀ p,H p=none->Q (.ref p) (upd H p (.lst ((eK ts).map λz=>V.str (toS z))))):=by
 intro pins s σ H xs us Q I r h;obtain⟨a,ts,rfl,ha,hz,q⟩:=h;obtain⟨u,rfl,ru⟩:=fQ r
 cases ru;refine Oa (I.ok.hd hc) (Oc I.ag ha) (by simpa using hz) λh' d p e out ss hS hp hs k D0 g=>?_
 have e2:ss=(eK ts).map toS:=by
  have uW:(ss.map λz:Str=>z.cps.toList).Pairwise gF:=by
   cases ss with
   | nil=>simp
   | cons x r=>exact uV x r hs
  have uX:(ss.map λz:Str=>z.cps.toList).Perm ts:=by
   have:=hp.map λz:Str=>z.cps.toList
   rw[WA] at this;have e2:ts.map ((λz:Str=>z.cps.toList) ∘ toS)=ts:=by
    rw[show((λz:Str=>z.cps.toList) ∘ toS)=id from funext λz=>oS z,List.map_id]
   rw[e2] at this;exact this
  rw[<- BI uX uW,WA];rw[show(toS ∘ λz:Str=>z.cps.toList)=id from funext λz=>(uN z).symm,List.map_id]
 have rv:Vals ((eK ts).map λz=>V.str (toS z)) out.toList:=by
  have:=oX hS;rw[e2,WA] at this;exact this
 have hl:(eK ts).length=ts.length:=(rF ts).length_eq;have I1:=(I.drawn d).laid (h':=h') (t':=s.toks) (o:=.lst ((eK ts).map λz=>V.str (toS z))) k D0 (show bq X.prog X.w _ _ _ (.lst _) from⟨by rw[Wx,hl,QC]; omega,out.toList,e,rv,g⟩);exact⟨.ref _,_,I1,rfl,q _ (I.ag.fresh D0)⟩
end
end L2
namespace DV
open PySem PySem.Spec PyProof.Rows L2 SU
section
variable {X:Cx} {c:Fc} {a b:Expr} {f g:DE} {pp pos p1 TF p3 p4 p5:Pos}
end
end DV
namespace L2
open PySem PySem.Spec PyProof.Rows PySem.W DV
section
variable {X:Cx}
end
end L2
namespace DV
open PySem PySem.Spec PyProof.Rows L2
section
variable {X:Cx} {c:Fc} {e:Expr} {fb:BE} {pp pos:Pos}
end
section
variable {X:Cx}
end
section
variable {X:Cx} {c:Fc} {o e:Expr} {fa fb:DE}
end
end DV
set_option maxHeartbeats 3200000
namespace SU
open PySem PyProof.Rows
theorem Oe:isSubtype (.type "str") (.type "set")=pure false:=by rw[isSubtype_type]; kernel_rfl
theorem Of:isSubtype (.type "str") (.type "frozenset")=pure false:=by rw[isSubtype_type]; kernel_rfl
section
variable {prog:Wg} {w:Wm} {A:Wl} {E:Value->W2->Prop} {s:W2}
theorem Og(hh:A.handled=none)(hb:x.cps.size + 1 < JK)
  (h:∀ (h':Heap) (tk:Nat),er prog w h' s.heap.objs.size (fm (λi=>⟨#[x.cps.getD i 0]⟩) x.cps.size)->(∀ b o,s.heap.get? b=some o->h'.get? b=some o)->Q (.ref s.heap.objs.size) { s with heap:=h',toks:=tk }) :
  W6 (model prog w) A (call (.type "set") [.str x t]) Q E s:=by
 refine NV ?_;have e1:=Oe;have e2:=Of;have e3:(Value.type "str" == Value.type "dict")=false:=by decide
 unfold Builtin.«set.__init__» noKeywords Builtin.Frozenset.updateFrom;generalize hPI:pyIter=PI;wp_walk
 subst hPI;refine wpAny_pyIter_str λo St W bY=>?_
 refine W0 (wpAny_runValue ?_);have Oh:A.in1.in1.in1.handled=none:=by simp[hh]
 have Oi:s.heap.objs.size ∉ [(s.heap.push (lp w)).objs.size]:=by
  rw[QL,List.mem_singleton];exact Wq (JU _)
 refine NP ((W _ Oh).toS) s.heap.objs.size Oi (λi=>⟨#[x.cps.getD i 0]⟩) (λi v ⟨c,u,e,ev⟩=>⟨u,by rw[ev,Array.getD_eq_getD_getElem?,e]; rfl⟩) hb (x.cps.size - 0) 0 _ (by omega) (Qy _) bY ((NT s.heap).at' λo' e=>W3 _ e) λs' mv z=>?_
 obtain⟨h',g',d',me,os'⟩:=s';have q1:g'=s.gens:=mv.gens;have q2:d'=s.drawn:=mv.drawn;have q3:os'=s.os:=mv.os;subst q1; subst q2; subst q3
 show W6 _ _ _ _ _ _;refine W4 ?_;show W6 _ _ (ret Value.none) _ _ _;refine W4 ⟨rfl,h h' me z λb ob e=>?_⟩;have lb:=Wf e;refine mv.heap b ob ?_ (W3 _ (W3 _ e));rw[QL];simp only[Wh,List.not_mem_nil,or_false,not_or];exact⟨Wq lb,Wq (Qe lb)⟩
end
end SU
set_option maxHeartbeats 1000000
namespace DV
open PySem (sizeLine)
open L2
section
variable {α β:Type}
@[simp] theorem ko (a:α) (δ:Dl) (f:α->Dl->Rs β):(Rs.ok a δ).bind f=f a δ:=id rfl
@[simp] theorem TJ (f:α->Dl->Rs β):(Rs.stuck:Rs α).bind f = .stuck:=id rfl
@[simp] theorem Oj (d:D):(S.pure d).d=d:=id rfl
@[simp] theorem TK (d:D):(S.own d).d=d:=id rfl
end
section
variable (δ:Dl) (i:Nat) (d e:D) (f g:DE) (fb:BE) (t u:DT) (p:D->D->Option S)
@[simp] theorem Ol:eD d δ = .ok (.pure d) δ:=id rfl
@[simp] theorem Om:aw f δ=(f δ).bind λr δ'=>.ok r.d δ':=id rfl
@[simp] theorem Oo:bf p f fb δ=(f δ).bind λx δ1=>(fb δ1).bind λy δ2=>p2 p x.d y δ2:=id rfl
@[simp] theorem TL:rK t u δ=(t δ).bind λb δ1=>if b then u δ1 else .ok false δ1:=id rfl
@[simp] theorem TM:lZ t u δ=(t δ).bind λb δ1=>if b then .ok true δ1 else u δ1:=id rfl
@[simp] theorem TN:gq t δ=(t δ).bind λb δ1=>.ok (!b) δ1:=id rfl
@[simp] theorem TQ:Kk t f g δ=(t δ).bind λb δ1=>if b then f δ1 else g δ1:=id rfl
@[simp] theorem TR:dj δ = .ok .next δ:=id rfl
@[simp] theorem TU:bX δ = .ok true δ:=id rfl
@[simp] theorem TV:j7 f δ=(f δ).bind λ_ δ1=>.ok .next δ1:=id rfl
@[simp] theorem TY:bW f δ=(f δ).bind λr δ1=>.ok (.ret r) δ1:=id rfl
@[simp] theorem TZ (a b:DS):c9 t a b δ=(t δ).bind λx δ1=>if x then a δ1 else b δ1:=id rfl
@[simp] theorem T2 (it:DI) (gg:DG) (b:DS):dN it gg b δ=(it δ).bind λds δ1=>forL gg b ds δ1:=id rfl
@[simp] theorem T3 (a:DA):d_ a δ=(a δ).bind λds δ'=>.ok (.pure (.tup ds)) δ':=id rfl
@[simp] theorem T4 (a:DA):fj a δ=(a δ).bind λds δ'=>.ok (.own (.lst ds)) δ':=id rfl
@[simp] theorem T5 (ds:List D):k8 ds δ = .ok (.own (.lst ds)) δ:=id rfl
@[simp] theorem T6:ck δ = .ok [] δ:=id rfl
@[simp] theorem T7 (a:DA):aO f a δ=(f δ).bind λx δ1=>(a δ1).bind λxs δ2=>.ok (x.d :: xs) δ2:=id rfl
@[simp] theorem T8 (q:D->Option S):bh q fb δ=(fb δ).bind λx δ1=>p1 q x δ1:=id rfl
@[simp] theorem T9:rT f g δ=(f δ).bind λx δ1=>(g δ1).bind λy δ2=>p2 vg x.d y.d δ2:=id rfl
@[simp] theorem T_ (fl fh:kW):KQ f fl fh δ=(f δ).bind λx δ1=>(fl δ1).bind λl δ2=>(fh δ2).bind λh δ3=>p1 (jv l h) x.d δ3:=id rfl
@[simp] theorem Ua:KN δ = .ok none δ:=id rfl
@[simp] theorem wO (cs:List Nat) (it:DI) (gg:DG) (el:DE):c7 cs it gg t el δ=(it δ).bind λds δ1=>if cs.any (bE δ1) then .stuck else
 (cR cs gg t el ds (bo cs δ1) []).bind λacc δ2=>.ok (.own (.lst acc)) (cQ cs δ1 δ2):=id rfl
@[simp] theorem Ub (np:List Nat) (r:S):ah np i r δ=if np.contains i then none else some (δ.set i (some r)):=id rfl
@[simp] theorem Uc (gg:DG) (b:DS):forL gg b [] δ = .ok .next δ:=id rfl
end
section
variable (δ:Dl) (i:Nat) (d e:D) (f g:DE) (fb:BE) (p:D->D->Option S) (s:S)
@[simp] theorem Oq (x y:D):p2 p x y δ=match p x y with | some s=>.ok s δ | none=>.stuck:=id rfl
@[simp] theorem Ud (q:D->Option S) (x:D):p1 q x δ=match q x with | some s=>.ok s δ | none=>.stuck:=id rfl
@[simp] theorem Ue (a b:DS):aF a b δ=(a δ).bind λfl δ1=>match fl with | .next=>b δ1 | .ret r=>.ok (.ret r) δ1 | .brk=>.ok .brk δ1 | .cont=>.ok .cont δ1:=id rfl
@[simp] theorem Ug {α β:Type} (c:Prop) [Decidable c] (x y:Rs α) (k:α->Dl->Rs β):(if c then x else y).bind k=if c then x.bind k else y.bind k:=by split <;> rfl
end
theorem eC:Wa=16777216:=rfl
theorem kq(xs:List α)(i:Nat):cL xs (i:Int)=xs[i]?:=by
 unfold cL dR;by_cases h:i < xs.length
 ·rw[if_pos (by omega),if_pos (by omega)];simp
 ·rw[if_pos (by omega),if_neg (by omega)];simp[WV (Nat.le_of_not_lt h)]
theorem wQ(xs:List α):cL xs 2=xs[2]?:=kq xs 2
theorem sV(xs:List α):cL xs 0=xs[0]?:=kq xs 0
theorem wR(xs:List α):cL xs 1=xs[1]?:=kq xs 1
theorem wU(I:Dl->Prop)(R:D->D->Prop) :
  ∀ (ds:List D) (δ:Dl) (acc:List D),I δ->acc.length + ds.length<=Wa ->
   (∀ d ∈ ds,∀ δ,I δ->∃ δ1 δ2 x δ3,g (.pure d) δ=some δ1/\t δ1 = .ok true δ2/\el δ2 = .ok x δ3/\I (bo cs δ3)/\R d x.d) ->
   ∃ xs δ',cR cs g t el ds δ acc = .ok (acc ++ xs) δ'/\I δ'/\xs.length=ds.length/\∀ (i:Nat) d x,ds[i]? = some d->xs[i]? = some x->R d x
 | [],δ,acc,h,_,_=>⟨[],δ,by simp[cR],h,rfl,λi d x e=>by simp at e⟩
 | d :: r,δ,acc,h,hl,hs=>by
  obtain⟨δ1,δ2,x,δ3,e1,e2,e3,h3,hr⟩:=hs d Wj δ h;have jN:acc.length < Wa:=by simp at hl; omega
  obtain⟨xs,δ',e4,h4,hn,hf⟩:=wU (g:=g) (t:=t) (el:=el) I R r (bo cs δ3) (acc ++ [x.d]) h3 (by simp at hl ⊢; omega) (λd hd=>hs d (Wd _ hd));refine⟨x.d :: xs,δ',?_,h4,by simp[hn],λi d' x' f1 f2=>?_⟩
  ·unfold cR;rw[e1];simp only[e2,ko,if_true,e3,if_pos jN,e4];simp
  ·cases i with
   | zero=>simp at f1 f2; subst f1 f2; exact hr
   | succ i=>exact hf i d' x' (by simpa using f1) (by simpa using f2)
theorem Ot(F:D->D)(δ:Dl) :
  ∀ (ds:List D) (acc:List D),acc.length + ds.length<=Wa ->
   (∀ d ∈ ds,∃ δ1 δ2 x δ3,g (.pure d) δ=some δ1/\t δ1 = .ok true δ2/\el δ2 = .ok x δ3/\bo cs δ3=δ/\x.d=F d) ->
   cR cs g t el ds δ acc = .ok (acc ++ ds.map F) δ:=by
 intro ds acc hl hs;obtain⟨xs,δ',e,h,hn,hf⟩:=wU (cs:=cs) (g:=g) (t:=t) (el:=el) (λδ'=>δ'=δ) (λd x=>x=F d) ds δ acc rfl hl (λd hd δ' h=>by
  subst h;obtain⟨δ1,δ2,x,δ3,a,b,c,d,e⟩:=hs d hd;exact⟨δ1,δ2,x,δ3,a,b,c,d,e⟩)
 subst h;rw[e];congr 2
 apply JO;intro i;by_cases hi:i < ds.length
 ·have:=hf i ds[i] (xs[i]'(by omega)) (by simp[hi]) (by simp[hn,hi]);simp[hn,hi,this]
 ·rw[WV (by omega),WV (by simp; omega)]
theorem nN(I:Nat->Dl->Prop) :
  ∀ (ds:List D) (n:Nat) (δ:Dl),I n δ ->
   (∀ (i:Nat) d δ,ds[i]? = some d->I (n + i) δ->∃ δ1 δ2,g (.pure d) δ=some δ1/\b δ1 = .ok .next δ2/\I (n + i + 1) δ2) ->
   ∃ δ',forL g b ds δ = .ok .next δ'/\I (n + ds.length) δ'
 | [],n,δ,h,_=>⟨δ,rfl,h⟩
 | d :: r,n,δ,h,hs=>by
  obtain⟨δ1,δ2,e1,e2,h2⟩:=hs 0 d δ rfl h;obtain⟨δ',e3,h3⟩:=nN (g:=g) (b:=b) I r (n + 1) δ2 h2 (λi d' δ' e hi=>by
   have:=hs (i + 1) d' δ' (by simpa using e) (by rw[show n + (i + 1)=n + 1 + i by omega]; exact hi);rw[show n + (i + 1) + 1=n + 1 + i + 1 by omega] at this;exact this)
  refine⟨δ',?_,by rw[WE,show n + (r.length + 1)=n + 1 + r.length by omega]; exact h3⟩;unfold forL;rw[e1];simp only[e2,ko,e3]
theorem sW(xs:List Tx):fH (xs.map .str)=some xs:=by
 induction xs with
 | nil=>rfl
 | cons x r ih=>simp[fH,ih]
theorem sX:∀ ts:List Tx,iP [] ts=ts.flatten
 | []=>rfl
 | [x]=>by simp[iP]
 | x :: y :: r=>by rw[iP,sX (y :: r)]; simp
theorem Ou(xs:List Nat):gu (xs.map λn=>[n])=xs.length:=by
 unfold gu;induction xs with
 | nil=>rfl
 | cons x r ih=>simp at ih ⊢; omega
theorem Ov(xs:List Nat):(xs.map λn=>[n]).flatten=xs:=by
 induction xs with
 | nil=>rfl
 | cons x r ih=>simp[ih]
theorem Ow(xs:List Nat)(h:xs.length<=16777216):dB [] (.lst (xs.map λn=>.str [n]))=some (.pure (.str xs)):=by
 have e:(xs.map λn=>D.str [n])=(xs.map λn=>[n]).map D.str:=by simp
 unfold dB;simp only[e,sW,Ou,sX,Ov];rw[if_pos (by simpa using h)]
theorem wV(r:Tx)(c:Nat)(h:c < r.length)(hl:r.length<=64):aE (.str r) (.int c)=some (.pure (.str [r.getD c 0])):=by
 unfold aE;have:Wa=16777216:=rfl;simp only;rw[if_pos (by omega),kq];simp[h]
abbrev dO(fl:List Tx):D:=.tup (fl.map .str)
structure Uh(w:Nat)(fl:List Tx):Prop where
 h0:0 < fl.length
 h1:fl.length<=64
 w0:0 < w
 w1:w<=64
 all:∀ r ∈ fl,r.length=w
def turn(w:Nat)(fl:List Tx):List Tx:=(Wp w).map λc=>fl.map λr=>r.getD c 0
def back(fl:List Tx):List Tx:=fl.map List.reverse
def jg(r:S)(δ1:Dl):Rs (List D):=match r with
 | .pure (.int j)=>if nk j then .ok (b_ 0 j.toNat) δ1 else .stuck
 | _=>.stuck
@[simp] theorem Ui (f:DE) (δ:Dl):eX f δ=(f δ).bind λr δ1=>jg r δ1:=id rfl
theorem Ox(w:Nat)(hw:w<=1000000):nk (w:Int)=true:=by
 have h1 : -(4611686018427387904:Int)<=(w:Int):=by omega
 have h2:(w:Int) < 4611686018427387904:=by omega
 unfold nk;rw[Ws];exact⟨decide_eq_true h1,decide_eq_true h2⟩
theorem Oy(j:Int)(hs:nk j=true)(δ:Dl):jg (.pure (.int j)) δ = .ok (b_ 0 j.toNat) δ:=by unfold jg; simp only[hs,if_true]
theorem p_(w:Nat)(hw:w<=1000000)(δ:Dl):jg (.pure (.int w)) δ = .ok (b_ 0 w) δ:=by
 have:=Oy (w:Int) (Ox w hw) δ;rwa [Qw] at this
theorem wW(h:(b_ 0 n)[i]? = some d):i < n/\d = .int (i:Int):=by
 unfold b_ at h;rw[WF] at h;by_cases hi:i < n
 ·rw[List.getElem?_range hi] at h;simp at h;exact⟨hi,h.symm⟩
 ·rw[WV (by simpa using hi)] at h
  cases h
theorem D1(h:d ∈ b_ 0 n):∃ i:Nat,i < n/\d = .int (i:Int):=by
 obtain⟨i,hi⟩:=List.getElem?_of_mem h;exact⟨i,wW hi⟩
@[simp] theorem Uj (lo:Int) (n:Nat):(b_ lo n).length=n:=by simp[b_]
def ip(x:Nat):List Nat->List Nat
 | []=>[x]
 | y :: r=>if y < x then y :: ip x r else x :: y :: r
def eE:List Nat->List Nat
 | []=>[]
 | x :: r=>ip x (eE r)
theorem D2(a b:Nat):(([a]:Tx) < [b]) ↔ a < b:=by
 constructor
 ·intro h
  cases h with
  | cons h=>cases h
  | rel h=>exact h
 ·intro h; exact List.Lex.rel h
theorem D3(x:Nat):∀ xs:List Nat,j0 [x] (xs.map λn=>[n])=(ip x xs).map λn=>[n]
 | []=>rfl
 | y :: r=>by
  simp only[Wo,j0,ip];by_cases h:y < x
  ·rw[if_pos ((D2 y x).mpr h),if_pos h,D3 x r]; rfl
  ·rw[if_neg λz=>h ((D2 y x).mp z),if_neg h]; rfl
theorem wX:∀ xs:List Nat,eK (xs.map λn=>[n])=(eE xs).map λn=>[n]
 | []=>rfl
 | x :: r=>by rw[Wo,eK,wX r,D3]; rfl
theorem wY:∀ {xs:List Nat},y ∈ ip x xs ↔ y=x\/y ∈ xs
 | []=>by simp[ip]
 | z :: r=>by
  unfold ip;split
  ·simp[wY (xs:=r)]; constructor <;> (rintro (h | h | h) <;> simp[h])
  ·simp
theorem qa:∀ {xs:List Nat},y ∈ eE xs ↔ y ∈ xs
 | []=>by simp[eE]
 | x :: r=>by rw[eE,wY,qa (xs:=r)]; simp
theorem D4(x:Nat):∀ xs:List Nat,(ip x xs).length=xs.length + 1
 | []=>rfl
 | y :: r=>by unfold ip; split <;> simp[D4 x r]
theorem wZ:∀ xs:List Nat,(eE xs).length=xs.length
 | []=>rfl
 | x :: r=>by rw[eE,D4,wZ r]; rfl
theorem D5:∀ {xs:List Nat},xs.Pairwise (· < ·)->x ∉ xs->(ip x xs).Pairwise (· < ·)
 | [],_,_=>by simp[ip]
 | y :: r,h,hx=>by
  rw[List.pairwise_cons] at h;simp at hx;unfold ip;split
  ·rename_i hl;rw[List.pairwise_cons];refine⟨λz hz=>?_,D5 h.2 hx.2⟩;rcases wY.mp hz with rfl | hz
   ·exact hl
   ·exact h.1 z hz
  ·rename_i hl;rw[List.pairwise_cons];refine⟨λz hz=>?_,Qn.mpr h⟩;rcases Wh.mp hz with rfl | hz
   ·omega
   ·have:=h.1 z hz; omega
theorem sY:∀ {xs:List Nat},xs.Nodup->(eE xs).Pairwise (· < ·)
 | [],_=>by simp[eE]
 | x :: r,h=>by
  rw[List.nodup_cons] at h;exact D5 (sY h.2) λz=>h.1 (qa.mp z)
theorem D6{P:Nat->Prop}:∀ {xs:List D},(∀ x ∈ xs,∃ n,P n/\x = .str [n])->∃ row:List Nat,xs=row.map (λn=>.str [n])/\∀ n ∈ row,P n
 | [],_=>⟨[],rfl,by simp⟩
 | x :: r,h=>by
  obtain⟨n,hn,rfl⟩:=h x Wj;obtain⟨row,rfl,hr⟩:=D6 (xs:=r) λy hy=>h y (Wd _ hy)
  exact⟨n :: row,rfl,by simpa using ⟨hn,hr⟩⟩
theorem Oz{R:D->D->Prop}{ds xs:List D}{Q:D->Prop}(hn:xs.length=ds.length)(hf:∀ (i:Nat) d x,ds[i]? = some d->xs[i]? = some x->R d x)(hq:∀ d x,d ∈ ds->R d x->Q x):∀ x ∈ xs,Q x:=λx hx=>by
 obtain⟨i,hi⟩:=List.getElem?_of_mem hx;have h1:=(We.mp hi).1;have h2:ds[i]? = some (ds[i]'(by omega)):=by simp[show i < ds.length by omega]
 exact hq _ x (Jq _) (hf i _ x h2 hi)
theorem D7(w:Nat)(hw:w<=100000)(δ:Dl):jg (.pure (.int (1 + (w:Int)))) δ = .ok (b_ 0 (1 + w)) δ:=by
 have:=p_ (1 + w) (by omega) δ;rwa [show(((1 + w:Nat):Int))=1 + (w:Int) by omega] at this
abbrev bT(b:Nat×List Tx):D:=.tup [.str [b.1],dO b.2]
abbrev aK(h w:Nat)(bs:List (Nat×List Tx)):D:=.tup [.int h,.int w,.tup (bs.map bT)]
structure cS(h w:Nat)(bs:List (Nat×List Tx)):Prop where
 h0:0 < h
 h1:h<=4
 w0:0 < w
 w1:w<=4
 hw:2 < h + w
 n0:0 < bs.length
 n1:bs.length<=26
 up:(bs.map (·.1)).Pairwise (· < ·)
 OA:∀ b ∈ bs,97<=b.1/\b.1<=122
 dW:∀ b ∈ bs,b.2.length=h/\∀ r ∈ b.2,r.length=w/\∀ n ∈ r,n ∈ bs.map (·.1)
theorem kr(f F:A->D)(δ:Dl):∀ (as:List A) (acc:List D),acc.length + as.length<=Wa ->
  (∀ a ∈ as,∃ δ1 δ2 x δ3,g (.pure (f a)) δ=some δ1/\t δ1 = .ok true δ2/\el δ2 = .ok x δ3/\bo cs δ3=δ/\x.d=F a)->cR cs g t el (as.map f) δ acc = .ok (acc ++ as.map F) δ
 | [],acc,_,_=>by simp[cR]
 | a :: r,acc,hl,hs=>by
  obtain⟨δ1,δ2,x,δ3,e1,e2,e3,e4,e5⟩:=hs a Wj;have jN:acc.length < Wa:=by simp at hl; omega
  have ih:=kr (cs:=cs) (g:=g) (t:=t) (el:=el) f F δ r (acc ++ [x.d]) (by simp at hl ⊢; omega) (λa ha=>hs a (Wd _ ha));rw[Wo];unfold cR;rw[e1];rw[e5] at ih;simp only[e2,ko,if_true,e3,if_pos jN,e4,e5,ih];simp
end DV
set_option maxHeartbeats 400000
namespace L2
open PySem PySem.Spec PyProof.Rows PySem.W DV SU
section
variable {X:Cx}
theorem OB (hc:X.calm=true):dH X (.type "set") (λxs H Q=>∃ z:Tx,xs=[.str (toS z)]/\z.length < 1000/\∀ p,H p=none->Q (.ref p) (upd H p (lq X p ((z.map λn=>toS [n]).foldl dd [])))):=by
 intro pins s σ H xs us Q I r h;obtain⟨z,rfl,hz,q⟩:=h;obtain⟨u,rfl,ru⟩:=fQ r;obtain⟨t,rfl⟩:=ru;have sz:(toS z).cps.size=z.length:=by simp[toS]
 refine Og (I.ok.hd hc) (by rw[sz]; unfold JK; omega) λh' tk y k=>?_
 have e:fm (λi=>⟨#[(toS z).cps.getD i 0]⟩) (toS z).cps.size=(z.map λn=>toS [n]).foldl dd []:=by
  unfold fm;congr 1
  rw[sz];refine List.ext_getElem (by simp) λi h1 h2=>?_
  simp at h1 h2;simp[toS,h2]
 rw[e] at y;exact⟨.ref _,_,I.laid (t':=tk) k (Wb _) (Ob y),rfl,q _ (I.ag.fresh (Wb _))⟩
end
end L2
namespace DV
open PySem PySem.Spec PyProof.Rows L2 SU
def cP:List Nat->List Nat->List Nat
 | σ,[]=>σ
 | σ,n :: r=>if n ∈ σ then cP σ r else cP (σ ++ [n]) r
theorem w4:∀ (z σ:List Nat),(z.map λn=>toS [n]).foldl dd (σ.map λn=>toS [n])=(cP σ z).map λn=>toS [n]
 | [],σ=>rfl
 | n :: z,σ=>by
  rw[Wo,QS];unfold cP;by_cases h:n ∈ σ
  ·rw[if_pos h];have e:dd (σ.map λn=>toS [n]) (toS [n])=σ.map λn=>toS [n]:=by
    unfold dd;rw[if_pos (WJ h)]
   rw[e];exact w4 z σ
  ·rw[if_neg h];have e:dd (σ.map λn=>toS [n]) (toS [n])=(σ ++ [n]).map λn=>toS [n]:=by
    unfold dd;rw[if_neg (λy=>by
     obtain⟨m,hm,e⟩:=WS.mp y;have:=oU e;simp at this;exact h (this ▸ hm)),QE]
    rfl
   rw[e];exact w4 z (σ ++ [n])
theorem sZ:∀ (z σ:List Nat),(cP σ z).length<=σ.length + z.length
 | [],σ=>by simp[cP]
 | n :: z,σ=>by
  unfold cP;split
  ·have:=sZ z σ; simp; omega
  ·have:=sZ z (σ ++ [n]); simp at this ⊢; omega
def nO:D->Option S
 | .str z=>if z.length < 64 then some (.own (.lst ((eE (cP [] z)).map λn=>.str [n]))) else none
 | _=>none
section
variable {X:Cx} {c:Fc} {e:Expr} {fb:BE} {pp pos w6 w8:Pos}
theorem OC (hc:X.calm=true) (hg:Gl X "sorted") (hm:X.mg "sorted" = none) (mT:Gl X "set") (wx:X.mg "set" = none) (he:SB X c e fb)
  (h1:W5 [e] X.env=(false,eval e X.env) :: W5 [] X.env:=by rfl)
  (h3:W5 [.Call (.Name "set" w6) [e] [] w8] X.env=(false,eval (.Call (.Name "set" w6) [e] [] w8) X.env) :: W5 [] X.env:=by rfl) :
  SE X c (.Call (.Name "sorted" pp) [.Call (.Name "set" w6) [e] [] w8] [] pos) (bh nO fb) :=
 PE.weak (mO (Od hc) hg hm PyProof.Rows.boot_sorted (df (Aw (OB hc) mT wx PyProof.Rows.boot_set (df he eU h1) (by decide) (by decide) h1) eU h3) (by decide) (by decide) h3) λσ H Q ⟨δ,k,q⟩=>by
  unfold bh at q;rw[aX] at q;refine⟨δ,k,aL q λx δ1 q1 v H1 a1 r1=>?_⟩;unfold p1 at q1
  cases ex:nO x with
  | none=>rw[ex] at q1; exact q1.elim
  | some s =>
   rw[ex] at q1
   cases x with
   | str z =>
    simp only[nO] at ex;split at ex
    ·rename_i hz
     cases ex;have ev:=r1.str;subst ev;refine⟨z,rfl,by omega,λp hp=>?_⟩;have e0:=w4 z [];rw[List.map_nil] at e0;rw[e0];have b1:=ay.alloc a1.ok hp (lq X p ((cP [] z).map λn=>toS [n]));have l1:=sZ z [];simp at l1;refine⟨p,(cP [] z).map λn=>[n],rfl,by rw[WA]; exact b7,by simp; omega,λp4 D8=>?_⟩;have e5:(eK ((cP [] z).map λn=>[n])).map (λz=>V.str (toS z))=(eE (cP [] z)).map λn=>V.str (toS [n]):=by
      rw[wX,WA]; rfl
     rw[e5];have e6:ax (upd H1 p (lq X p ((cP [] z).map λn=>toS [n]))) (Av c σ δ1) ((eE (cP [] z)).map λn=>V.str (toS [n])) ((eE (cP [] z)).map λn=>D.str [n]):=by
      have:=vf (H:=upd H1 p (lq X p ((cP [] z).map λn=>toS [n]))) (O:=Av c σ δ1) ((eE (cP [] z)).map λn=>[n]);rw[WA,WA] at this;exact this
     exact q1 _ _ (a1.trans (b1.trans (.alloc b1.ok D8 _))) (aM.back (aM.mW b1.ok e6 D8) (a1.trans b1))
    ·cases ex
   | _=>cases ex
end
end DV
namespace PySem
end PySem
namespace L2
open PySem PySem.Spec PyProof.Rows
section
variable {X:Cx} {o:Expr} {apos aU:Pos} {elts:List Expr} {ctx:Nat} {tp:Pos} {td:TE}
end
end L2
namespace DV
open PySem PySem.Spec PyProof.Rows L2
section
variable {X:Cx} {c:Fc} {o:Expr} {i:Nat} {apos aU:Pos} {elts:List Expr} {ctx:Nat} {tp:Pos}
end
end DV
namespace L2
open PySem PySem.Spec PyProof.Rows
section
variable {X:Cx}
end
end L2
namespace DV
open PySem PySem.Spec PyProof.Rows L2
end DV
namespace L2
open PySem PySem.Spec PyProof.Rows
section
variable {X:Cx} {a b:Expr} {ta:TA} {pp pos w_ xa:Pos}
end
end L2
namespace DV
open PySem PySem.Spec PyProof.Rows L2
section
variable {X:Cx} {c:Fc} {a b:Expr} {f g:DE} {pp pos w_ xa:Pos}
end
section
variable {c:Fc} {σ σ':St} {δ δ':Dl} {H H':Hp} {i:Nat} {a p d:Addr} {dd:D}
end
structure Gh(c:Fc)(i:Nat)(p d:Addr)(σ0:St)(δ0:Dl)(H0:Hp)(ws:List (Key×V))(ds:List (aT×D))(t:Tx)(σ:St)(δ:Dl)(H:Hp)(vs:List V)(xs:List D):Prop where
 ok:Ok ((c.plus p).bQ i d) σ δ H
 hd:H d=some (.dK (putK ws (.inr (toS t)) (.ref p)))
 hp:H p=some (.lst vs)
 rv:ax H (Av ((c.plus p).bQ i d) σ δ) vs xs
 dr:DR H (Av ((c.plus p).bQ i d) σ δ) ws ds
 keep:∀ a o,H0 a=some o->¬ Own σ0 δ0 a->H a=some o
 own:∀ a,Own σ δ a->Own σ0 δ0 a\/H0 a=none
 there:∀ a o,H0 a=some o->∃ o',H a=some o'
section
variable {c:Fc} {i:Nat} {p d:Addr} {σ0 σ σ':St} {δ0 δ δ':Dl} {H0 H H':Hp} {ws:List (Key×V)} {ds:List (aT×D)} {t:Tx} {vs gE:List V} {xs Uk:List D}
end
section
variable {X:Cx} {c:Fc}
end
section
variable {X:Cx} {c:Fc} {σ:St} {δ:Dl} {H:Hp} {x y:Nat} {a:Addr} {d:D}
end
end DV
namespace PySem.ZW
open Sem (wp)
structure ZS(i1 i2 l1 l2:Addr)(xs ys:Array Value)(k:Nat)(h:Heap):Prop where
 i1:h.IsListIter i1 l1 k
 i2:h.IsListIter i2 l2 k
 l1:h.IsList l1 xs
 l2:h.IsList l2 ys
section
variable {prog:Wg} {w:Wm} {A:Wl} {E:Value->W2->Prop} {s:W2} {z TI TO i1 i2 l1 l2 a:Addr} {f:Bool} {oa:Obj} {k:Nat} {xs ys:Array Value} {x y:Value}
end
end PySem.ZW
namespace PySem.ZW
open Sem (wp)
structure ZG(xs ys:Array Value)(lo:Addr)(h:Heap)(as:List Addr):Prop where
 rise:as.Pairwise (· < ·)
 above:∀ a ∈ as,lo < a
 pairs:∀ (j:Nat) a,as[j]? = some a->∃ x y,xs[j]? = some x/\ys[j]? = some y/\IsPair h a x y
structure ZL(z TI TO i1 i2 l1 l2 S:Addr)(xs ys:Array Value)(h0:Heap)(h:Heap)(acc:Array Value)(c:Nat)(as:List Addr):Prop where
 keep:∀ b o,b≠S->b≠z->b≠TO->b≠i1->b≠i2->h0.get? b=some o->h.get? b=some o
 lst:h.get? S=some { cls:=.type "list",dict:=none,data:=.seq acc c,slots:=#[] }
 items:acc.toList=as.map Value.ref
 G:ZG xs ys S h as
section
variable {prog:Wg} {w:Wm} {A:Wl} {E:Value->W2->Prop} {s:W2} {z TI TO i1 i2 l1 l2 S:Addr} {xs ys:Array Value} {R:Result->W2->Prop} {res:Value}
end
end PySem.ZW
namespace PySem.ZW
open Sem (wp)
section
variable {prog:Wg} {w:Wm} {A:Wl} {E:Value->W2->Prop} {s:W2} {z TI TO i1 i2 l1 l2:Addr} {xs ys:Array Value}
end
end PySem.ZW
namespace L2
open PySem PySem.Spec PyProof.Rows
section
variable {X:Cx} {a b:Expr} {ta:TA} {pp pos w_ xa:Pos} {elts:List Expr} {ctx:Nat} {tp:Pos}
end
end L2
namespace DV
open PySem PySem.Spec PyProof.Rows L2
section
variable {X:Cx} {c:Fc} {a b:Expr} {f g:DE} {pp pos w_ xa:Pos} {elts:List Expr} {ctx:Nat} {tp:Pos}
end
section
variable {X:Cx}
end
section
variable {X:Cx} {c:Fc} {e:Expr} {fb:BE} {pos pp:Pos}
end
end DV
namespace L2
open PySem PySem.Spec PyProof.Rows
structure xb(P:Wg)(w:Wm)(K:W1)(mg:Str->Option Value)(base:Heap)(k:Nat)(f:Addr)(fd:Wy)(ps:List Str)(sp:List Env->W2->Sp):Prop where
 len:∀ outer s vs H Q E,sp outer s vs H Q E->vs.length=ps.length
 run:∀ (A:Wl) (outer:List Env) (s:W2) (H:Hp) (args:Args) (us:List Value) (vs:List V) (Q:VK) (E:XK),bj k A->iG P w K mg base A outer s H->BindsTo s fd args (ps.zip us)->Vals vs us->sp outer s vs H Q E ->
  Q4 (model P w) A (.call (.ref f) args) (CR bV outer P w H s Q E) s
section
variable {P:Wg} {w:Wm} {K:W1} {mg:Str->Option Value} {base:Heap}
theorem bH.OD{x qual:Str}{st:Stmt}{f:Addr}{fd:Wy}{N ps:List Str}{k:Nat}{sp:List Env->W2->Sp}(F:bH K x qual st f fd)(S:bS N ps (aC st))(len:∀ outer s vs H Q E,sp outer s vs H Q E->vs.length=ps.length)
  (bU:∀ (aj:Value) (A:Wl) (outer:List Env) (s:W2) (H:Hp) (vs:List V) (Q:VK) (E:XK),bj k (A.deeper (Qu qual (aC st) s.heap.objs.size f aj))->A.frames=some outer->sp outer s vs H Q E ->
   ∃ t,cX (cE bV P w K mg base N qual (aC st) f aj A outer s H E).dX (cu st) t/\t { nx:=λ_ H'=>Q .aq H',rt:=Q } (start N vs) H):xb P w K mg base (k + 1) f fd ps sp:=by
 obtain⟨oc,od,kV,doc,pm,an,aj,ct,cK,rfl,lk,cC⟩:=F.ex;refine⟨len,λA outer s H args us vs Q E hr e0 hb r gh=>?_⟩;have hl:=len _ _ _ _ _ _ gh;have KX:K.In s.heap:=e0.mod.jL.keeps λb o e=>(e0.bs b o e).1
 have lim:s.heap.NoLimit:=e0.mod.nolimit.keeps λb o e=>(e0.bs b o e).1
 have oH:∀ y ∈ ps.zip us,(aC st).names.lookup y.1=some .local\/((aC st).names.lookup y.1=some .cell/\((Qm (s.heap.objs.size + 1) (aC st).names []).lookup y.1).isSome=true):=λ⟨n,v⟩ hy=>by
  rcases S.par n (Jy hy).1 with q | q
  ·exact .inl q
  ·exact .inr ⟨q,QM _ _ _ (.inl q)⟩
 refine codeAny_call_function hr.depth (KX _ _ lk) rfl S.co S.gen rfl (PySem.W.codeRec_of KX cC) (hb _ _ _ _ ?_);refine wpAny_newFunctionEnv_cells S.kind oH λenv he s1 x=>?_
 subst he;refine⟨lim.keeps x.toInCall.keep,codeAny_func ?_⟩;obtain⟨t,ht0,hq⟩:=bU aj A outer s H vs Q E (hr.deeper _) e0.frames gh;have ht:=ht0.dX;have I:Inv (cE bV P w K mg base N qual (aC st) f aj A outer s H E) [] (start N vs) H s1:=ue S hr.hd e0 hl r x;refine WC (ht [] s1 (start N vs) H _ I hq) (λfl s' hs=>?_) λe s' hs=>hs
 have fin:∀ {σ':St} {H':Hp} {v:V} {u:Value},Inv (cE bV P w K mg base N qual (aC st) f aj A outer s H E) [] σ' H' s'->RelV v u->Q v H'->CE outer P w H s Q u s' :=
  λ{σ' H' v u} J rv q=>⟨v,H',J.os,J.bare,J.base,J.ag,rv,q⟩
 cases fl with
 | ret u =>
  obtain⟨v,σ',H',J,rv,q⟩:=hs;exact fin J rv q
 | next =>
  obtain⟨σ',H',J,q⟩:=hs;exact fin (v:=V.aq) (u:=Value.none) J rfl q
 | brk =>
  obtain⟨_,_,_,q⟩:=hs;exact False.elim q
 | cont =>
  obtain⟨_,_,_,q⟩:=hs;exact False.elim q
end
structure mr(H:Hp)(fs:List Addr)(h:Heap)(fa:Addr)(qual:Str)(params:Arguments)(body:Expr)(scope:Scope)(cl:List (Str×Addr))(fr:List Str)(fv:List V):Prop where
 obj:∃ pm c' dP oc,h.get? fa=some (JC "<lambda>" qual params body scope cl pm c' dP)/\H fa=none/\fa ∉ fs/\H c'=some (.frz oc (.ext λ_=>True))/\∃ vs tq,oc.data = .fields vs/\vs[1]? = some (.str qual tq)
 cell:∀ x c,cl.lookup x=some c->(∃ v,h.IsCell c v)/\H c=none/\c ∉ fs
 inj:∀ x y c,cl.lookup x=some c->cl.lookup y=some c->x=y
 val:∀ (i:Nat) x v,fr[i]? = some x->fv[i]? = some v->∃ c u,cl.lookup x=some c/\h.IsCell c (some u)/\RelV v u
 xf:fv.length=fr.length
theorem mr.keep{H H':Hp}{fs:List Addr}{h h':Heap}{fa:Addr}{qual:Str}{params:Arguments}{body:Expr}{scope:Scope}{cl:List (Str×Addr)}{fr:List Str}{fv:List V}(C:mr H fs h fa qual params body scope cl fr fv)
  (k:∀ b o,h.get? b=some o->H b=none->b ∉ fs->h'.get? b=some o/\H' b=none) (kf:∀ b o u,H b=some (.frz o u)->H' b=some (.frz o u)):mr H' fs h' fa qual params body scope cl fr fv:=by
 have kc:∀ x c v,cl.lookup x=some c->h.IsCell c v->h'.IsCell c v:=λx c v e ⟨o,ho,hd⟩=>⟨o,(k c o ho (C.cell x c e).2.1 (C.cell x c e).2.2).1,hd⟩
 obtain⟨pm,c',dP,oc,h1,h2,h3,h4,h5⟩:=C.obj;refine⟨⟨pm,c',dP,oc,(k _ _ h1 h2 h3).1,(k _ _ h1 h2 h3).2,h3,kf _ _ _ h4,h5⟩,λx c e=>?_,C.inj,λi x v e1 e2=>?_,C.xf⟩
 ·obtain⟨⟨v,o,ho,hd⟩,q1,q2⟩:=C.cell x c e;exact⟨⟨v,o,(k c o ho q1 q2).1,hd⟩,(k c o ho q1 q2).2,q2⟩
 ·obtain⟨c,u,q1,q2,q3⟩:=C.val i x v e1 e2;exact⟨c,u,q1,kc x c _ q1 q2,q3⟩
def qb(P:Wg)(w:Wm)(K:W1)(mg:Str->Option Value)(base:Heap)(N:List Str)(qual:Str)(scope:Scope)(f:Addr)(cd:Value)(cl:List (Str×Addr))(A:Wl)(outer:List Env)(s:W2)(H:Hp):Cx where
 prog:=P
 w:=w
 K:=K
 mg:=mg
 base:=base
 A:=A.deeper (Jn qual scope s.heap.objs.size f cd cl)
 N:=N
 s₀:=s
 H₀:=H
 env:=Jn qual scope s.heap.objs.size f cd cl
 outer:=outer
 stack:=Jn qual scope s.heap.objs.size f cd cl :: outer
 ex:=[]
 calm:=true
 fn:=λ_=>false
 pn:=[]
 xe:=λ_ _=>False
structure s_(p:Str)(fr:List Str)(sc:Scope):Prop where
 kind:sc.kind = .function
 co:sc.isCoroutine=false
 gen:sc.isGenerator=false
 loc:sc.names.lookup p=some .local
 D9:∀ y ∈ sc.names,y.2≠.cell
 free:∀ x,sc.names.lookup x=some .free->x ∈ fr
 OE:∀ x ∈ fr,sc.names.lookup x=some .free
section
variable {X:Cx} {pins:List (Addr×Obj)} {σ:St} {H:Hp} {s:W2} {fa:Addr} {qual:Str} {params:Arguments} {body:Expr} {scope:Scope} {cl:List (Str×Addr)} {fr:List Str} {fv:List V} {p:Str} {u:Value} {v:V} {k:Nat} {t:TE} {Q:VK}
theorem OF(I:Inv X pins σ H s)(C:mr H X.fs s.heap fa qual params body scope cl fr fv)(L:s_ p fr scope)(hr:bj (k + 1) X.A)(rv:RelV v u)
  (hb:∀ pm aj dP (u:Value),bindArgs (PySem.W.kla_fn "<lambda>" qual params body scope cl pm aj dP) ⟨[u],[]⟩=pure [(p,u)])
  (bU:∀ cd,bj k (X.A.deeper (Jn qual scope s.heap.objs.size fa cd cl))->PE (qb X.prog X.w X.K X.mg X.base (p :: fr) qual scope fa cd cl X.A X.stack s H) body t)
  (q:t (some v :: fv.map some) H Q):W6 (model X.prog X.w) X.A (call (.ref fa) [u]) (EP X pins σ Q) X.xe s:=by
 obtain⟨pm,c',dP,oc,h1,h2,h3,h4',vs,tq,h5,h6⟩:=C.obj;have h4:s.heap.get? c'=some oc:=(I.ag c' _ h4').1;have e0:=I.mM;have lim:s.heap.NoLimit:=e0.mod.nolimit.keeps λb o e=>(e0.bs b o e).1
 refine Jp (Qk (R:=CR bV X.stack X.prog X.w H s Q E0) ?_ λr s' hq=>?_)
 ·refine PySem.W.kla_callFunE hr.depth h1 rfl L.co L.gen rfl ⟨c',oc,vs,tq,rfl,h4,h5,h6⟩ ?_;rw[hb];refine W4 ?_;refine wpAny_newFunctionEnv L.D9 (λy hy=>by
   have:y=(p,u):=by simpa using hy
   subst this;exact L.loc) (λh' kO uM=>?_) L.kind
  have hk:∀ b o,s.heap.get? b=some o->h'.get? b=some o:=λb o e=>uM.extBut b o (Wq (Wf e)) (W3 _ e)
  refine⟨lim.keeps hk,?_⟩;show Q4 _ _ (.expr body (Jn qual scope s.heap.objs.size fa (.ref c') cl)) _ _;refine PySem.W.kla_codeExpr ?_;have J:Inv (qb X.prog X.w X.K X.mg X.base (p :: fr) qual scope fa (.ref c') cl X.A X.stack s H) [] (some v :: fv.map some) H { s with heap:=h',toks:=s.toks + [(p,u)].length }:=by
   have iI:∀ b:Addr,b ∉ (qb X.prog X.w X.K X.mg X.base (p :: fr) qual scope fa (.ref c') cl X.A X.stack s H).ex:=λb z=>absurd (show b ∈ ([]:List Addr) from z) (by simp)
   refine⟨⟨e0.mod,L.kind,rfl,rfl,Wb _,C.inj,λy hy=>?_,λy c z _=>by (have z':false=true:=z; cases z'),λ_=>hr.hd,Around.frames_deeper e0.frames,.inr ⟨rfl,rfl⟩,λb z=>absurd z (iI b),e0.bs,e0.gc,λb _ _=>iI b,λb z=>absurd z (iI b),e0.eT,e0.gX⟩,
    rfl,e0.bare,Un.kept hk,⟨_,kO,λi y w e1 e2 e3=>?_⟩,λy c e=>?_,e0.ag.fresh (Wb _),λy c e=>(C.cell y c e).2.1,λz hz=>absurd (show z ∈ ([]:List (Addr×Obj)) from hz) (by simp),e0.ag.kept hk,?_⟩
   ·have hy:scope.names.lookup y=some .cell\/scope.names.lookup y=some .free:=hy;rcases hy with hy | hy
    ·exact absurd rfl (L.D9 _ (Wv hy))
    ·obtain⟨i,hi,rfl⟩:=List.getElem_of_mem (L.free y hy);have OG:i < fv.length:=by rw[C.xf]; exact hi
     obtain⟨c,u',q1,_⟩:=C.val i fr[i] fv[i] (by simp[hi]) (by simp[OG]);exact⟨c,q1⟩
   ·cases i with
    | zero =>
     simp at e2;have e1:some p=some y:=e1
     cases e1;subst e2;refine⟨u,rv,.inl ⟨L.loc,?_⟩⟩;simp
    | succ i =>
     have e1:fr[i]? = some y:=e1;have e2:fv[i]? = some w:=by
      have qc:(fv.map some)[i]? = some (some w):=e2;rw[WF] at qc
      cases z:fv[i]? with
      | none=>rw[z] at qc; cases qc
      | some a=>rw[z] at qc; cases qc; rfl
     obtain⟨c,u',q1,⟨o,ho,hd⟩,q3⟩:=C.val i y w e1 e2;exact⟨u',q3,.inr ⟨.inr (L.OE y (WW e1)),c,q1,o,hk c o ho,hd⟩⟩
   ·obtain⟨⟨w,o,ho,hd⟩,_⟩:=C.cell y c e;exact⟨w,o,hk c o ho,hd⟩
   ·show(some v :: fv.map some).length=(p :: fr).length;simp[C.xf]
  refine WC (bU (.ref c') (hr.deeper _) [] _ _ H Q J q) (λu' s' ⟨v',H',J',r',q'⟩=>?_) λe s' z=>z.elim
  exact⟨v',H',J'.os,J'.bare,J'.base,J'.ag,r',q'⟩
 ·cases r with
  | error e=>exact hq.elim
  | ok fl =>
   cases fl with
   | ret u=>exact I.after hq
   | next=>exact False.elim hq
   | brk=>exact False.elim hq
   | cont=>exact False.elim hq
end
end L2
namespace DV
open PySem PySem.Spec PyProof.Rows L2
section
variable {c:Fc} {σ:St} {δ:Dl} {H H':Hp}
theorem Ok.mono(k:Ok c σ δ H)(up:∀ a o,H a=some o->H' a=some o):Ok c σ δ H' :=
 ⟨λa o e n=>up _ _ (k.keep a o e n),λa z=>(k.bd a z).elim λw e=>⟨w,up _ _ e⟩,λa z=>(k.cw a z).elim λw e=>⟨w,up _ _ e⟩,k.len,λi d e=>let ⟨v,e1,r⟩:=k.slot i d e; ⟨v,e1,r.keep λa o q _=>up a o q⟩,
  λi d e=>let ⟨a,e1,r,q⟩:=k.own i d e; ⟨a,e1,r.keep (λb o q _=>up b o q) (λo q=>up a o q),q⟩,k.inj,k.pinned⟩
theorem ay.mono(k:Ok c σ δ H)(up:∀ a o,H a=some o->H' a=some o):ay c σ δ H σ δ H':=⟨k.mono up,λa o e _=>up a o e,λa h=>.inl h,λa o e=>⟨o,up a o e⟩⟩
end
structure tf(X:Cx)(c:Fc)(fa:Addr)(F:D->Option D):Prop where
 there:∀ pins σ H s,Inv X pins σ H s->∃ fd,s.heap.get? fa=some { cls:=.type "function",data:=.func fd }
 run:∀ pins s σ δ H v u d d' Q,Inv X pins σ H s->Ok c σ δ H->Rep H (Av c σ δ) v d->RelV v u->F d=some d'->(∀ v' H',ay c σ δ H σ δ H'->Rep H' (Av c σ δ) v' d'->Q v' H')->W6 (model X.prog X.w) X.A (call (.ref fa) [u]) (EP X pins σ Q) X.xe s
def gx(fb:DE)(dv:List D):D->Option D:=λd=>match fb (some (.pure d) :: dv.map λx=>some (.pure x)) with
 | .ok r _=>some r.d
 | _=>none
theorem OH{X:Cx}{c:Fc}{fa:Addr}{qual:Str}{params:Arguments}{body:Expr}{scope:Scope}{cl:List (Str×Addr)}{fr:List Str}{fv:List V}{dv:List D}{p:Str}{k:Nat}{fb:DE}
  (hex:X.ex=[]) (hH:c.H₀=X.H₀) (hp:c.pin=[]) (C:mr X.H₀ X.fs X.s₀.heap fa qual params body scope cl fr fv) (L:s_ p fr scope) (hr:bj (k + 1) X.A)
  (hb:∀ pm aj dP (u:Value),bindArgs (PySem.W.kla_fn "<lambda>" qual params body scope cl pm aj dP) ⟨[u],[]⟩=pure [(p,u)]) (rv:ax X.H₀ c.B fv dv)
  (bU:∀ (c':Fc) (cd:Value) (s:W2) (H:Hp),bj k (X.A.deeper (Jn qual scope s.heap.objs.size fa cd cl))->c'.pin=[]->SE (qb X.prog X.w X.K X.mg X.base (p :: fr) qual scope fa cd cl X.A X.stack s H) c' body fb) :
  tf X c fa (gx fb dv):=by
 have D_:∀ a,¬ c.I a:=λa ⟨i,z⟩=>by rw[hp] at z; simp at z
 have CC:∀ pins σ H s,Inv X pins σ H s->mr H X.fs s.heap fa qual params body scope cl fr fv:=λpins σ H s I =>
  C.keep (λb o e n hb=>⟨I.base.keep b o e n hb (by rw[hex]; simp),I.base.free b o e n (by rw[hex]; simp)⟩) I.base.fN
 refine⟨λpins σ H s I=>?_,λpins s σ δ H v u d d' Q I ok rd ru hF q=>?_⟩
 ·obtain⟨pm,c',dP,oc,h1,_⟩:=(CC pins σ H s I).obj;exact⟨_,h1⟩
 ·have key:∀ (i:Nat) w x,fv[i]? = some w->dv[i]? = some x->Rep H (Av c σ δ) w x:=λi w x e1 e2=>by
   have r0:=rv.2 i w x e1 e2;have r1:Rep X.H₀ (Av c σ δ) w x:=r0.aJ λa z=>by
    rcases z with z | ⟨j,d,z1,z2⟩
    ·exact .inl z
    ·obtain⟨b,z3,_,z4,_⟩:=ok.own j d z1;rw[z2] at z3; cases z3
     rcases z4 with z4 | z4
     ·exact absurd z4 (D_ _)
     ·exact .inr (by rw[<- hH]; exact z4)
   exact r1.keep λa o e _=>ok.keep a o (by rw[hH]; exact e) (D_ a)
  have Ul:Fc:=⟨H,Av c σ δ,[],λ_ _=>False⟩
  refine OF (t:=tD ⟨H,Av c σ δ,[],λ_ _=>False⟩ fb) I (CC pins σ H s I) L hr ru hb (λcd xg=>bU _ cd s H xg rfl) ?_;have gz:∀ (i:Nat) x,(some (S.pure d) :: dv.map λx=>some (S.pure x))[i]? = some (some (.own x))->False:=λi x e=>by
   cases i with
   | zero=>simp at e
   | succ i =>
    rw[Je,WF] at e
    cases z:dv[i]? with
    | none=>rw[z] at e; cases e
    | some y=>rw[z] at e; cases e
  have tj:∀ b,Av ⟨H,Av c σ δ,[],λ_ _=>False⟩ (some v :: fv.map some) (some (S.pure d) :: dv.map λx=>some (S.pure x)) b->Av c σ δ b:=λb z=>by
   rcases z with z | ⟨i,x,z1,_⟩
   ·exact z
   ·exact(gz i x z1).elim
  refine⟨some (.pure d) :: dv.map λx=>some (.pure x),⟨λa o e _=>e,λa z=>ok.rg z,λa ⟨i,z⟩=>by simp at z,?_,λi x e=>?_,λi x e=>(gz i x e).elim,λi j a x x' e=>(gz i x e).elim,λz hz=>by simp at hz⟩,?_⟩
  ·simp[rv.1]
  ·cases i with
   | zero =>
    simp at e;subst e;exact⟨v,rfl,rd.aJ λb z=>.inl (tj b z)⟩
   | succ i =>
    rw[Je,WF] at e
    cases z:dv[i]? with
    | none=>rw[z] at e; cases e
    | some y =>
     rw[z] at e; cases e
     have hi:i < fv.length:=by rw[rv.1]; exact(We.mp z).1
     refine⟨fv[i],?_,(key i fv[i] x (by simp[hi]) z).aJ λb z=>.inl (tj b z)⟩;rw[Je,WF];simp[hi]
  ·unfold gx at hF
   cases e:fb (some (.pure d) :: dv.map λx=>some (.pure x)) with
   | exc x δx=>rw[e] at hF; cases hF
   | stuck=>rw[e] at hF; cases hF
   | ok r δ' =>
    rw[e] at hF
    cases hF;intro v' H' a rs;have up:∀ b o,H b=some o->H' b=some o:=λb o eb=>a.ok.keep b o eb λ⟨i,z⟩=>by simp at z
    exact q v' H' (.mono ok up) (rs.rep.aJ λb z=>.inl (.inl z))
end DV
namespace L2
open PySem PySem.Spec PyProof.Rows
theorem Ea{P:Wg}{w:Wm}:∀ {kvs:List (Key×V)} {vs:List (Key×Value)} {us:List Value},KV kvs vs->us.length=vs.length->(∀ (j:Nat) v,us[j]? = some v->∃ k x,vs[j]? = some (k,x)/\(dQ P w).is k v=true)->Vals (kvs.map λp=>kV p.1) us
 | [],_,[],.nil,_,_=>.nil
 | [],_,_ :: _,.nil,h,_=>by simp at h
 | p :: r,_,[],.cons _ _,h,_=>by simp at h
 | p :: r,q :: vs,u :: us,.cons h1 h2,hl,hk=>by
  refine .cons ?_ (Ea h2 (by simpa using hl) λj v e=>by simpa using hk (j + 1) v (by simpa using e));obtain⟨k,x,e,z⟩:=hk 0 u rfl;simp at e;rw[Fs] at z;rcases jf z with ⟨i,t,e1,e2⟩ | ⟨y,t,e1,e2⟩
  ·show RelV (kV p.1) u;rw[h1.1,e];subst e1;exact⟨t,e2⟩
  ·show RelV (kV p.1) u;rw[h1.1,e];subst e1;exact⟨t,e2⟩
theorem OI {X:Cx} (hc:X.calm=true):dH X (.type "list") (λxs H Q=>∃ a kvs,xs=[V.ref a]/\H a=some (.dK kvs)/\∀ l,H l=none->Q (.ref l) (upd H l (.lst (kvs.map λp=>kV p.1)))):=by
 intro pins s σ H xs us Q I r h;obtain⟨a,kvs,rfl,ha,q⟩:=h;obtain⟨u,rfl,ru⟩:=fQ r
 cases ru;obtain⟨z,lo,vs,kv,hD⟩:=I.ag a _ ha;obtain⟨ep,nz⟩:=hD.dictAt;have hl:kvs.length=vs.length:=Paired.length kv;refine PySem.W.kdl_call (PySem.W.kdl_dict (knd:=dQ X.prog X.w) (kvs:=vs) (ep:=ep) lo) (I.ok.hd hc) nz (by omega) λh' tk acc c' kp e Eb=>?_
 have hv:Vals (kvs.map λp=>kV p.1) acc.toList:=Ea (P:=X.prog) (w:=X.w) kv (by simp[Eb.1]) λj v e=>Eb.2 j v (by simpa using e)
 exact⟨.ref s.heap.objs.size,_,I.laid (t':=tk) kp (Wb _) (show bq X.prog X.w _ h' _ (.lst _) from⟨by simpa using z,acc.toList,c',hv,by simpa using e⟩),rfl,q _ (I.ag.fresh (Wb _))⟩
end L2
namespace DV
open PySem PySem.Spec PyProof.Rows L2
def lr:aT->D
 | .inl i=>.int i
 | .inr x=>.str x
def nQ:D->Option S
 | .aB ds=>some (.own (.lst (ds.map λp=>lr p.1)))
 | _=>none
theorem Ec{H:Hp}{O:Addr->Prop}:∀ {ws:List (Key×V)} {ds:List (aT×D)},ws.map (·.1)=ds.map (λp=>cz p.1)->ax H O (ws.map λp=>kV p.1) (ds.map λp=>lr p.1)
 | [],[],_=>.nil
 | [],_ :: _,h=>by simp at h
 | _ :: _,[],h=>by simp at h
 | p :: ws,q :: ds,h=>by
  simp only[Wo,JX] at h;refine .cons ?_ (Ec h.2);show Rep H O (kV p.1) (lr q.1);rw[h.1]
  cases q.1 with
  | inl i=>exact .int i
  | inr x=>exact .str x
section
variable {X:Cx} {c:Fc} {e:Expr} {fb:BE} {pos pp p:Pos}
theorem Ed (hc:X.calm=true) (hg:Gl X "list") (hm:X.mg "list" = none) (he:SB X c e fb) (hs:l9 e=true:=by rfl):SE X c (.Call (.Name "list" pp) [e] [] pos) (bh nQ fb) :=
 rQ (r:=λv H Q=>∃ a kvs,v=V.ref a/\H a=some (.dK kvs)/\∀ l,H l=none->Q (.ref l) (upd H l (.lst (kvs.map λp=>kV p.1)))) (OI hc) (λv H Q ⟨a,kvs,e,h⟩=>⟨a,kvs,by rw[e],h⟩)
  (λc σ δ H x d s Q k rx hp q=>by
   cases d with
   | aB ds =>
    cases hp;obtain⟨a,ws,ex,ha,r1,_⟩:=rx.aB;exact⟨a,ws,ex,ha,λl hl=>q _ _ (.alloc k hl _) (aM.mW k (Ec r1) hl)⟩
   | _=>simp[nQ] at hp) hg hm PyProof.Rows.boot_list he (by decide) (by decide) (nB hs)
end
def mw(fa:Addr)(F:D->Option D)(i:Nat)(fe:DE):DE:=λδ=>match δ[i]? with
 | some (some (.pure (.fn a)))=>if a=fa then(fe δ).bind λr δ1=>match F r.d with
   | some d'=>.ok (.pure d') δ1
   | none=>.stuck
  else .stuck
 | _=>.stuck
theorem OJ{M:Model}{A:Wl}{E:Value->W2->Prop}{s:W2}{env:Env}{pos:Pos}{a:Addr}{first:List Value}{Q:Value->W2->Prop}{e:Expr}{rest:List Expr}
  (h:W6 M A (spliced (WN pos (W5 (e :: rest) env))) (λvs s₁=>(∃ fd,s₁.heap.get? a=some { cls:=.type "function",data:=.func fd })/\W6 M A (call (.ref a) (first ++ vs)) Q E s₁) E s)
  (he:W5 (e :: rest) env=(false,eval e env) :: W5 rest env:=by rfl) (um:(WN pos (W5 rest env)).any (·.1)=false:=by rfl) :
  W6 M A (callWith pos (.ref a) first (WN pos (W5 (e :: rest) env)) []) Q E s:=by
 rw[he] at h ⊢;exact PySem.W.callWith_of (P:=λh=>∃ fd,h.get? a=some { cls:=.type "function",data:=.func fd }) (by show((false || (WN pos (W5 rest env)).any (·.1)) || false)=false; rw[um]; rfl)
  (λh ⟨fd,hf⟩=>⟨.frame,.inl rfl,(PySem.W.Looks.ld (part:=none) hf).andThen .now⟩) (Calls.evalArgs_plain h)
theorem OK{X:Cx}{c:Fc}{fa:Addr}{F:D->Option D}{i:Nat}{x:Str}{e:Expr}{fe:DE}{p pos:Pos}(hc:tf X c fa F)(hv:PE X (.Name x p) (cY i))(he:SE X c e fe)
  (hs:W5 [e] X.env=(false,eval e X.env) :: W5 [] X.env:=by rfl):SE X c (.Call (.Name x p) [e] [] pos) (mw fa F i fe):=by
 intro pins s σ H Q I ⟨δ,k,q⟩;unfold mw at q;split at q
 ·rename_i a e1;split at q
  ·rename_i ea;subst ea;obtain⟨v,e2,r⟩:=k.slot i (.fn a) e1
   cases r;refine Ql (WC (hv pins s σ H (λv' H'=>v' = .ref a/\H'=H) I ⟨.ref a,e2,rfl,rfl⟩) (λu s1 ⟨v',H',I1,ru,ev,eH⟩=>?_) λ_ _ z=>z);subst ev eH;obtain rfl:u=Value.ref a:=ru;have ha:=df he eU hs;refine OJ (aH (ha pos pins s1 σ H' (λvs H2=>∃ r δ1 d',vs.length=1/\F r=some d'/\(∀ v ∈ vs,Rep H2 (Av c σ δ1) v r)/\ay c σ δ H' σ δ1 H2/\∀ v' H3,ay c σ δ H' σ δ1 H3->Rep H3 (Av c σ δ1) v' d'->Q v' H3) I1 ⟨δ,k,?_⟩) λus s2 ⟨vs,H2,I2,rr,r,δ1,d',hl,hF,hr,af,hq⟩=>⟨hc.there _ _ _ _ I2,?_⟩) hs rfl
   ·rw[aX] at q;refine aL q λr δ1 q1 v H1 a1 r1=>?_
    cases hF:F r.d with
    | none=>rw[hF] at q1; exact q1.elim
    | some d' =>
     rw[hF] at q1;exact⟨r.d,δ1,d',rfl,hF,λv' wL=>by
      have:v'=v:=by simpa using wL
      subst this;exact r1.rep,a1,λv' H3 a3 r3=>q1 v' H3 a3 r3⟩
   ·obtain⟨v,rfl⟩:∃ v,vs=[v]:=by
     match vs,hl with
     | [v],_=>exact⟨v,rfl⟩
    obtain⟨u,rfl,ru⟩:=fQ rr;exact hc.run pins s2 σ δ1 H2 v u r d' Q I2 af.ok (hr v (by simp)) ru hF λv' H3 a3 r3=>hq v' H3 (af.trans a3) r3
  ·exact q.elim
 ·exact q.elim
end DV
namespace L2
open PySem PySem.Spec PyProof.Rows
theorem Ee{a b:Value}{x y:Int}{t u:Tok}:∀ {l:List Value},TriplesOk l->TriplesOk (l ++ [.int x t,.int y u,b])
 | [],_=>trivial
 | .int _ _ :: .int _ _ :: _ :: r,h=>Ee (a:=a) (l:=r) h
theorem Ef{pos:Pos}{b cv:Value}{x y:Int}{t u:Tok}:∀ {l:List Value},TriplesOk l->codeAmong pos l=none->codeAmong pos (l ++ [.int x t,.int y u,b])=some cv->cv=b
 | [],_,_,h=>by
  simp only[Q1,codeAmong] at h;split at h
  ·exact(WB h).symm
  ·cases h
 | .int i _ :: .int j _ :: c :: r,h,hn,e=>by
  simp only[codeAmong] at hn;split at hn
  ·cases hn
  ·rename_i q;simp only[List.cons_append,codeAmong] at e;rw[if_neg q] at e;exact Ef (l:=r) h hn e
section
variable {X:Cx} {pins:List (Addr×Obj)} {σ:St} {H:Hp} {s:W2} {params:Arguments} {body:Expr} {scope:Scope} {pos:Pos} {cl:List (Str×Addr)} {c P:Addr} {fr:List Str} {fv:List V} {js:List Nat} {Q:Value->W2->Prop} {E:Value->W2->Prop}
theorem Inv.OL(I:Inv X pins σ H s){a:Addr}(h:s.heap.objs.size<=a):a ∉ dq X.stack:=λz=>by
 rcases Wh.mp (I.mJ a z) with e | e
 ·have:=I.lt;rw[<- e] at this;exact absurd (Ww this h) (Q3 _)
 ·exact I.zM h e
theorem Inv.OM(I:Inv X pins σ H s)(e_:∀ x,X.fn x=true){x:Str}{c:Addr}(h:X.env.cells.lookup x=some c):c ∉ dq X.stack:=λz=>by
 rcases Wh.mp (I.mJ c z) with e | e
 ·exact I.gY x c h e
 ·obtain⟨_,o,ho,_⟩:=I.ok.eT.mem e;exact absurd (Ww (Wf ho) (I.ok.jM x c (e_ x) h)) (Q3 _)
theorem ON (I:Inv X pins σ H s) (hP:H P=some (.ctab pos (X.env.qual ++ "<lambda>"))) (e_:∀ x,X.fn x=true) (xh:defaultsOf params X.env=([],[])) (nR:closureFor scope X.env=pure cl) (tm:X.env.code = .ref c)
  (CH:Jd X.K c P=true) (xi:Wn≠P) (hB:X.base.BuiltinsAt X.mg P)
  (kg:∀ x a,cl.lookup x=some a->X.env.cells.lookup x=some a) (hlen:fv.length=fr.length)
  (wH:∀ (i:Nat) x v,fr[i]? = some x->fv[i]? = some v->∃ (j:Nat) (a:Addr),X.N[j]? = some x/\σ[j]? = some (some v)/\X.env.scope.names.lookup x=some .cell/\cl.lookup x=some a)
  (h:∀ fa H' s',Inv X pins σ H' s'->(∀ a o,H a=some o->H' a=some o)->mr H' (dq X.stack) s'.heap fa (X.env.qual ++ "<lambda>") params body scope cl fr fv->Q (.ref fa) s') :
  W6 (model X.prog X.w) X.A (eval (.Lambda params body scope pos) X.env) Q E s:=by
 obtain⟨ps,hp,ht,hr⟩:=I.ag P _ hP;have Eg:=PySem.W.codeHd_of_K I.cn CH;have hg:s.heap.Ns Wn X.mg:=I.mod.glob.keeps I.bk;have hb:=hB.keeps I.bk;-- the closure,once all is laid
 have fin:∀ (H':Hp) (h':Heap) (tk:Tok) (pm dP:Value) (c':Addr) (oc:Obj),(∀ b o,b≠P->s.heap.get? b=some o->h'.get? b=some o)->s.heap.objs.size<=h'.objs.size->(∀ a o,H a=some o->H' a=some o)->(∀ b,H b=none->b < s.heap.objs.size->H' b=none)->H' h'.objs.size=none ->
   H' c'=some (.frz oc (.ext λ_=>True))->(∃ vs tq,oc.data = .fields vs/\vs[1]? = some (.str (X.env.qual ++ "<lambda>") tq))->b8 X.prog X.w H' (h'.push (JC "<lambda>" (X.env.qual ++ "<lambda>") params body scope cl pm c' dP))->(∃ o,h'.get? P=some o) ->
   Q (.ref h'.objs.size) { s with heap:=h'.push (JC "<lambda>" (X.env.qual ++ "<lambda>") params body scope cl pm c' dP),toks:=tk }:=by
  intro H' h' tk pm dP c' oc hk hsz up dn xj gA hoc ag hPo;have kp:∀ b o,b≠P->s.heap.get? b=some o->(h'.push (JC "<lambda>" (X.env.qual ++ "<lambda>") params body scope cl pm c' dP)).get? b=some o:=λb o nb e=>W3 _ (hk b o nb e)
  have nP:∀ b,H b=none->b≠P:=λb n z=>by rw[z,hP] at n; cases n
  have J:Inv X pins σ H' { s with heap:=h'.push (JC "<lambda>" (X.env.qual ++ "<lambda>") params body scope cl pm c' dP),toks:=tk }:=I.un ⟨λb o e n _ _=>kp b o (nP b n) e,λb o e n _ _=>⟨o.slots,kp b o (nP b n) e⟩,λb o e n _=>dn b n (Wf e),
   λb o e _=>by
    by_cases z:b=P
    ·obtain⟨o',q⟩:=hPo;exact⟨o',by rw[z]; exact W3 _ q⟩
    ·exact⟨o,kp b o z e⟩,λb xs e=>up _ _ e,λb o u e=>up _ _ e,λb ps e=>⟨#[],by rw[up _ _ e]; simp⟩⟩ ag
  refine h _ H' _ J up ⟨⟨pm,c',dP,oc,Wi _ rfl,xj,I.OL hsz,gA,hoc⟩,λx a e=>?_,λx y a e1 e2=>I.ok.inj x y a (kg x a e1) (kg y a e2),λi x v e1 e2=>?_,hlen⟩
  ·exact⟨J.cell x a (kg x a e),J.du x a (kg x a e),J.OM e_ (kg x a e)⟩
  ·obtain⟨j,a,q1,q2,q3,q4⟩:=wH i x v e1 e2;obtain⟨m,_,hl⟩:=J.loc;obtain⟨u,r1,r2⟩:=hl j x v q1 q2 (.inr (.inl q3));rcases r2 with ⟨z,_⟩ | ⟨_,a',z1,z2⟩
   ·have z':X.env.scope.names.lookup x=some .local:=z;rw[q3] at z'; cases z'
   ·rw[kg x a q4] at z1; cases z1
    exact⟨a,u,q4,z2,r1⟩
 refine PySem.W.kla_eval xh ?_
 cases e:codeAmong pos ps.toList with
 | some cv =>
  obtain⟨c',oc,rfl,q1,q2⟩:=hr cv e;refine PySem.W.kla_makeFunctionHit nR I.ok.glob hg tm Eg hp ht e hb λdP h' tk hk hsz=>?_
  exact fin H h' tk _ dP c' oc (λb o _ q=>hk b o q) hsz (λ_ _ q=>q) (λ_ n _=>n) (I.ag.fresh hsz) q1 q2 (I.ag.kept λb u q=>W3 _ (hk b u q)) ⟨_,hk _ _ hp⟩
 | none =>
  refine PySem.W.kla_makeFunction nR I.ok.glob hg tm Eg hp ht e xi hb λc' dP h' tk hx mZ aY OO Eh=>?_
  obtain⟨c2,oc,vs,tq,ec,hoc,hd,hv⟩:=OO
  cases ec;have hn:H c'=none:=I.ag.fresh mZ;have up:∀ a o,H a=some o->upd H c' (.frz oc (.ext λ_=>True)) a=some o:=λa o q=>by rw[aQ (fD q hn)]; exact q
  have hsz:s.heap.objs.size<=h'.objs.size:=WQ mZ (Jk aY);refine fin (upd H c' (.frz oc (.ext λ_=>True))) h' tk _ dP c' oc (λb o nb q=>hx b o nb q) hsz up (λb n hb=>by rw[aQ (Wq (Ww hb mZ))]; exact n) (by rw[aQ (QD aY)]; exact I.ag.fresh hsz) b7 ⟨vs,tq,hd,hv⟩ ?_ ⟨_,Eh⟩;intro a o ea;by_cases h1:a=c'
  ·subst h1;rw[b7] at ea; cases ea
   exact⟨W3 _ hoc,trivial,⟨_,W3 _ hoc⟩,λ_ _ _ _=>trivial⟩
  ·rw[aQ h1] at ea;by_cases h2:a=P
   ·subst h2;rw[hP] at ea; cases ea
    refine⟨_,W3 _ Eh,?_,λcv z=>?_⟩
    ·rw[Array.toList_append];exact Ee (a:=.none) ht
    ·rw[Array.toList_append] at z;have:=Ef ht e z;subst this;exact⟨c',oc,rfl,b7,vs,tq,hd,hv⟩
   ·refine(I.ag a o ea).jh (λb u hb q=>W3 _ (hx b u (λz=>?_) q)) (λb q=>up _ _ q) (λb xs q=>up _ _ q) λb o u q=>up _ _ q
    rcases hb with hb | hb
    ·exact h2 (hb.symm.trans z)
    ·rw[z,hP] at hb; cases hb
end
end L2
namespace DV
open PySem PySem.Spec PyProof.Rows L2
abbrev fz:=List (Addr×Pos×Str)
def TH(ts:fz)(H:Hp):Prop:=∀ t ∈ ts,H t.1=some (.ctab t.2.1 t.2.2)
structure FT(ts:fz)(c:Fc):Prop where
 h:TH ts c.H₀
 n:∀ t ∈ ts,¬ c.I t.1
theorem FT.now{ts:fz}{c:Fc}{σ:St}{δ:Dl}{H:Hp}(f:FT ts c)(k:Ok c σ δ H):TH ts H:=λt ht=>k.keep _ _ (f.h t ht) (f.n t ht)
section
variable {P:Wg} {w:Wm} {K:W1} {mg:Str->Option Value} {base:Heap}
def spS(P:Wg)(w:Wm)(K:W1)(mg:Str->Option Value)(base:Heap)(N:List Str)(qual:Str)(scope:Scope)(f:Addr)(k:Nat)(ir:Addr->(D->Option D)->DS):List Env->W2->Sp:=λouter s vs H Q _ =>
 ∃ (d:D) (fa:Addr) (F:D->Option D) (B:Addr->Prop) (v:V),vs=[v,.ref fa]/\Ok ⟨H,B,[],λ_ _=>False⟩ [some v,some (.ref fa)] [some (.pure d),some (.pure (.fn fa))] H /\
  (∀ aj A E,bj k (A.deeper (Qu qual scope s.heap.objs.size f aj))->A.frames=some outer->tf (cE bV P w K mg base N qual scope f aj A outer s H E).dX ⟨H,B,[],λ_ _=>False⟩ fa F) /\
  ∃ r ar,dm (ir fa F) N.length [.pure d,.pure (.fn fa)]=some (r,ar) /\
   ∀ v' H',ay ⟨H,B,[],λ_ _=>False⟩ [some v,some (.ref fa)] [some (.pure d),some (.pure (.fn fa))] H [some v,some (.ref fa)] (bJ ar) H'->aM ⟨H,B,[],λ_ _=>False⟩ [some v,some (.ref fa)] (bJ ar) H H' v' r->Q v' H'
theorem OP{x qual:Str}{st:Stmt}{f:Addr}{fd:Wy}{N ps:List Str}{k:Nat}{ir:Addr->(D->Option D)->DS}(F:bH K x qual st f fd)(S:bS N ps (aC st))(h2:ps.length=2)
  (bU:∀ (c:Fc) (aj:Value) (A:Wl) (outer:List Env) (s:W2) (H:Hp) (E:XK) (fa:Addr) (Fn:D->Option D),bj k (A.deeper (Qu qual (aC st) s.heap.objs.size f aj))->Np c []->tf (cE bV P w K mg base N qual (aC st) f aj A outer s H E).dX c fa Fn->ef (cE bV P w K mg base N qual (aC st) f aj A outer s H E).dX c (cu st) (ir fa Fn)) :
  xb P w K mg base (k + 1) f fd ps (spS P w K mg base N qual (aC st) f k ir):=by
 refine F.OD S (λouter s vs H Q E h=>?_) λaj A outer s H vs Q E hr dz h=>?_
 ·obtain⟨d,fa,Fn,B,v,rfl,_⟩:=h;exact h2.symm
 ·obtain⟨d,fa,Fn,B,v,rfl,ok,xk,r,ar,hrun,q⟩:=h;refine⟨iQ ⟨H,B,[],λ_ _=>False⟩ (ir fa Fn),bU ⟨H,B,[],λ_ _=>False⟩ aj A outer s H E fa Fn hr (λp hp=>by simp at hp) (xk aj A E hr dz),?_⟩;have bY:start N [v,.ref fa]=bC [v,.ref fa] ++ W8 (N.length - 2) none:=rfl;refine⟨aV N.length [.pure d,.pure (.fn fa)],by rw[bY]; exact ok.ext _,?_⟩;unfold dm at hrun;unfold cW;have nr:a7 0 [.pure d,.pure (.fn fa)] [v,.ref fa]=[]:=by simp[a7]
  cases e:ir fa Fn (aV N.length [.pure d,.pure (.fn fa)]) with
  | exc x δx=>rw[e] at hrun; cases hrun
  | stuck=>rw[e] at hrun; cases hrun
  | ok fl δ' =>
   rw[e] at hrun;show ∀ σ' H',ay _ (start N [v,.ref fa]) (aV N.length [.pure d,.pure (.fn fa)]) H σ' δ' H'->fin _ _ σ' δ' H' fl;intro σ' H' a;rw[bY] at a;simp only at hrun
   cases fl with
   | brk=>cases hrun
   | cont=>cases hrun
   | next =>
    simp only[bO,Wu] at hrun
    cases eo:bb 0 [.pure d,.pure (.fn fa)] δ' with
    | none=>rw[eo] at hrun; cases hrun
    | some os =>
     rw[eo] at hrun
     cases hrun;obtain⟨l1,l2⟩:=fJ (vs:=[v,.ref fa]) (by rw[nr]) ok a eo;exact q .aq H' l1 .aq
   | ret r' =>
    simp only[bO,Wu] at hrun
    cases eo:bb 0 [.pure d,.pure (.fn fa)] δ' with
    | none=>rw[eo] at hrun; cases hrun
    | some os =>
     rw[eo] at hrun
     cases hrun;obtain⟨l1,l2⟩:=fJ (vs:=[v,.ref fa]) (by rw[nr]) ok a eo;exactλv' rv=>q v' H' l1 (l2 v' _ rv)
end
def mx(ts:fz)(n:Nat)(G:DF):Sp:=λvs H Q E=>TH ts H/\k6 n G vs H Q E
def lu(P:Wg)(w:Wm)(K:W1)(mg:Str->Option Value)(base:Heap)(ts:fz)(k:Nat)(x:Str)(n:Nat)(G:DF):Prop :=
 ∃ (f:Addr) (fd:Wy) (ps:List Str),mg x=some (.ref f)/\WZ K (.ref f)=true/\Binds K fd ps []/\c8 P w K mg base bV k f fd ps (mx ts n G)
section
variable {P:Wg} {w:Wm} {K:W1} {mg:Str->Option Value} {base:Heap}
theorem Ei{ts:fz}{x qual:Str}{st:Stmt}{f:Addr}{fd:Wy}{N ps:List Str}{k:Nat}{np:List Nat}{fb:DS}{G:DF}(F:bH K x qual st f fd)(S:bS N ps (aC st))
  (bU:∀ (c:Fc) (aj:Value) (A:Wl) (outer:List Env) (s:W2) (H:Hp) (E:XK),bj k (A.deeper (Qu qual (aC st) s.heap.objs.size f aj))->Np c np->FT ts c->(∃ oc od kV doc pm an ct cK,K.lookup f=some ⟨oc,od,.func (WR x qual (fc st) (cu st) (aC st) .none kV doc pm an aj ct),cK⟩)->ef (cE bV P w K mg base N qual (aC st) f aj A outer s H E).dX c (cu st) fb)
  (hG:∀ ss y,G ss=some y->bK np 0 ss=true/\dm fb N.length ss=some y):c8 P w K mg base bV (k + 1) f fd ps (mx ts ps.length G):=by
 obtain⟨oc,od,kV,doc,pm,an,aj,ct,cK,rfl,lk,cC⟩:=F.ex;refine qK lk cC S (λvs H Q E h=>?_) λA outer s H vs Q E hr h=>?_
 ·obtain⟨_,ss,B,hl,_⟩:=h;exact hl
 ·obtain⟨hT,ss,B,hl,ok,r,ar,hg,q⟩:=h;obtain⟨c_,hrun⟩:=hG ss _ hg;have gJ:ss.length=vs.length:=by have:=ok.len; simpa using this
  have j_:Np ⟨H,B,a7 0 ss vs,λ_ _=>False⟩ np:=λp hp=>by
   obtain⟨j,d,e,h1,_⟩:=ib (i:=p.1) (a:=p.2) hp;rw[e];exact ny c_ h1
  have ft:FT ts ⟨H,B,a7 0 ss vs,λ_ _=>False⟩:=⟨hT,λt ht ⟨i,z⟩=>by
   obtain⟨j,d,_,h1,h2⟩:=ib z;obtain⟨a,e1,o,_⟩:=ok.own j d (dS.mpr h1);rw[ei.mpr h2] at e1
   cases e1;have:=hT t ht
   cases d with
   | lst ds=>obtain⟨_,e,_⟩:=o; rw[this] at e; cases e
   | aB ds=>obtain⟨_,e,_⟩:=o; rw[this] at e; cases e
   | _=>exact o.elim⟩
  have hb:=bU ⟨H,B,a7 0 ss vs,λ_ _=>False⟩ aj A outer s H E hr j_ ft ⟨oc,od,kV,doc,pm,an,ct,cK,lk⟩;refine⟨iQ ⟨H,B,a7 0 ss vs,λ_ _=>False⟩ fb,hb.dX,?_⟩;have bY:start N vs=bC vs ++ W8 (N.length - ss.length) none:=by rw[gJ]; rfl
  refine⟨aV N.length ss,by rw[bY]; exact ok.ext _,?_⟩;unfold dm at hrun;unfold cW
  cases e:fb (aV N.length ss) with
  | exc x δx=>rw[e] at hrun; cases hrun
  | stuck=>rw[e] at hrun; cases hrun
  | ok fl δ' =>
   rw[e] at hrun;show ∀ σ' H',ay _ (start N vs) (aV N.length ss) H σ' δ' H'->fin _ _ σ' δ' H' fl;intro σ' H' a;rw[bY] at a;simp only at hrun
   cases fl with
   | brk=>cases hrun
   | cont=>cases hrun
   | next =>
    simp only[bO,Wu] at hrun
    cases eo:bb 0 ss δ' with
    | none=>rw[eo] at hrun; cases hrun
    | some os =>
     rw[eo] at hrun
     cases hrun;obtain⟨l1,l2⟩:=fJ rfl ok a eo;exact q .aq H' l1 .aq
   | ret r' =>
    simp only[bO,Wu] at hrun
    cases eo:bb 0 ss δ' with
    | none=>rw[eo] at hrun; cases hrun
    | some os =>
     rw[eo] at hrun
     cases hrun;obtain⟨l1,l2⟩:=fJ rfl ok a eo;exactλv rv=>q v H' l1 (l2 v _ rv)
end
section
variable {X:Cx} {c:Fc} {e:Expr} {es:List Expr} {as:List Ak} {k n:Nat} {x:Str} {G:DF} {pp pos:Pos} {ts:fz}
theorem xl (F:lu X.prog X.w X.K X.mg X.base ts k x n G) (ft:FT ts c) (hK:dC G) (hr:bj k X.A) (hg:Gl X x) (ha:SX X c (e :: es) as) (hl:as.length=n) (cq:(x == ("__debug__" : Str))=false:=by decide)
  (he:W5 (e :: es) X.env=(false,eval e X.env) :: W5 es X.env:=by rfl) (bx:(WN pos (W5 es X.env)).any (·.1)=false:=by rfl):SE X c (.Call (.Name x pp) (e :: es) [] pos) (aG G as):=by
 obtain⟨f,fd,ps,hm,hk,hb,ok⟩:=F;refine PE.weak (Al ok hr hg hm hk hb .nil AZ ha cq he bx) λσ H Q h=>?_
 obtain⟨δ,kk,c_,q⟩:=vF (ps:=ps) hK hl h;exact⟨δ,kk,c_,aL q λds δ1 q1 vs H1 a1 r1=>⟨ft.now a1.ok,q1 vs H1 a1 r1⟩⟩
end
def i4:List Nat->Dl->Option (List D×Dl)
 | [],δ=>some ([],δ)
 | j :: js,δ=>match δ[j]? with
  | some (some (.pure d))=>(i4 js δ).map λp=>(d :: p.1,p.2)
  | some (some (.own d))=>(i4 js (δ.set j (some (.pure d)))).map λp=>(d :: p.1,p.2)
  | _=>none
theorem Ej{c:Fc}{σ:St}{H:Hp}:∀ {js:List Nat} {δ δ2:Dl} {dv:List D},Ok c σ δ H->i4 js δ=some (dv,δ2)->ay c σ δ H σ δ2 H/\∃ fv:List V,fv.length=js.length/\(∀ (i:Nat) j,js[i]? = some j->∃ v,fv[i]? = some v/\σ[j]? = some (some v))/\ax H (Av c σ δ2) fv dv
 | [],δ,δ2,dv,k,h=>by
  simp only[i4,W9,Prod.mk.injEq] at h;obtain⟨rfl,rfl⟩:=h;exact⟨.refl k,[],rfl,λi j e=>by simp at e,.nil⟩
 | j :: js,δ,δ2,dv,k,h=>by
  have core:∀ {δ1:Dl} {d:D} {v:V},ay c σ δ H σ δ1 H->Rep H (Av c σ δ1) v d->σ[j]? = some (some v)->(i4 js δ1).map (λp=>(d :: p.1,p.2))=some (dv,δ2)->ay c σ δ H σ δ2 H/\∃ fv:List V,fv.length=(j :: js).length/\(∀ (i:Nat) j',(j :: js)[i]? = some j'->∃ v,fv[i]? = some v/\σ[j']? = some (some v))/\ax H (Av c σ δ2) fv dv:=by
   intro δ1 d v a1 r1 e1 hm
   cases e:i4 js δ1 with
   | none=>rw[e] at hm; cases hm
   | some p =>
    obtain⟨dv',δ'⟩:=p;rw[e] at hm;simp only[WG,W9,Prod.mk.injEq] at hm;obtain⟨rfl,rfl⟩:=hm;obtain⟨a2,fv,h1,h2,h3⟩:=Ej a1.ok e;refine⟨a1.trans a2,v :: fv,by simp[h1],λi j' ej=>?_,.cons (Rep.dA r1 a2) h3⟩
    cases i with
    | zero=>simp at ej; subst ej; exact⟨v,rfl,e1⟩
    | succ i =>
     obtain⟨v',q1,q2⟩:=h2 i j' (by simpa using ej);exact⟨v',by simpa using q1,q2⟩
  simp only[i4] at h;split at h
  ·rename_i d e;obtain⟨v,e1,r⟩:=k.slot j d e;exact core (.refl k) r e1 h
  ·rename_i d e;obtain⟨a,e1,af,r⟩:=k.give e;exact core af r e1 h
  ·cases h
def tu(fe:DE)(js:List Nat)(fb:DE)(W:(D->Option D)->D->Option D):DE:=λδ=>(fe δ).bind λr δ1=>match i4 js δ1 with
 | some (dv,δ2)=>match W (gx fb dv) r.d with
  | some d'=>.ok (.pure d') δ2
  | none=>.stuck
 | none=>.stuck
def xm(P:Wg)(w:Wm)(K:W1)(mg:Str->Option Value)(base:Heap)(k:Nat)(x:Str)(m:Nat)(ir:Addr->(D->Option D)->DS):Prop :=
 ∃ (f:Addr) (fd:Wy) (ps:List Str) (qual:Str) (scope:Scope) (N:List Str),N.length=m/\mg x=some (.ref f)/\WZ K (.ref f)=true/\Binds K fd ps []/\ps.length=2/\xb P w K mg base (k + 1) f fd ps (spS P w K mg base N qual scope f k ir)
theorem OQ{cl cells:List (Str×Addr)}(h:∀ q ∈ cl,cells.lookup q.1=some q.2):∀ x a,cl.lookup x=some a->cells.lookup x=some a:=λx a e=>h (x,a) (Wv e)
theorem OR{p:Str}{fr:List Str}{sc:Scope}(h1:sc.kind = .function:=by rfl)(h2:sc.isCoroutine=false:=by rfl)(h3:sc.isGenerator=false:=by rfl)(h4:sc.names.lookup p=some .local:=by rfl)(h5:∀ y ∈ sc.names,y.2≠.cell:=by decide +kernel)
  (h6:∀ y ∈ sc.names,y.2 = .free->y.1 ∈ fr:=by decide +kernel) (h7:∀ x ∈ fr,sc.names.lookup x=some .free:=by decide +kernel):s_ p fr sc:=⟨h1,h2,h3,h4,h5,λx e=>h6 _ (Wv e) rfl,h7⟩
section
variable {X:Cx} {c:Fc} {e:Expr} {fe fb:DE} {params:Arguments} {body:Expr} {scope:Scope} {my pos pp:Pos} {P code:Addr} {cl:List (Str×Addr)} {fr:List Str} {js:List Nat} {p x:Str} {kl kw m:Nat} {ir:Addr->(D->Option D)->DS} {W:(D->Option D)->D->Option D} {ts:fz}
theorem OS(F:xm X.prog X.w X.K X.mg X.base kw x m ir)(hW:∀ fa Fn d r,W Fn d=some r->∃ ar,dm (ir fa Fn) m [.pure d,.pure (.fn fa)]=some (.pure r,ar))
  (ft:FT ts c) (OT:(P,my,X.env.qual ++ "<lambda>") ∈ ts) (hr:bj (kw + 1) X.A) (OU:kl + 1<=kw) (hg:Gl X x) (he:SE X c e fe) (e_:∀ x,X.fn x=true)
  (xh:defaultsOf params X.env=([],[])) (nR:closureFor scope X.env=pure cl) (tm:X.env.code = .ref code) (CH:Jd X.K code P=true) (xi:Wn≠P) (hB:X.base.BuiltinsAt X.mg P)
  (kg:∀ x a,cl.lookup x=some a->X.env.cells.lookup x=some a) (L:s_ p fr scope) (Ek:js.length=fr.length)
  (hN:∀ (i:Nat) x j,fr[i]? = some x->js[i]? = some j->X.N[j]? = some x/\X.env.scope.names.lookup x=some .cell/\∃ a,cl.lookup x=some a)
  (hb:∀ pm aj dP (u:Value),bindArgs (PySem.W.kla_fn "<lambda>" (X.env.qual ++ "<lambda>") params body scope cl pm aj dP) ⟨[u],[]⟩=pure [(p,u)])
  (bU:∀ (c':Fc) (fa:Addr) (cd:Value) (A:Wl) (outer:List Env) (s:W2) (H:Hp),bj kl (A.deeper (Jn (X.env.qual ++ "<lambda>") scope s.heap.objs.size fa cd cl))->c'.pin=[]->SE (qb X.prog X.w X.K X.mg X.base (p :: fr) (X.env.qual ++ "<lambda>") scope fa cd cl A outer s H) c' body fb)
  (cq:(x == ("__debug__" : Str))=false:=by decide)
  (hs:W5 [e,.Lambda params body scope my] X.env=(false,eval e X.env) :: W5 [.Lambda params body scope my] X.env:=by rfl)
  (jt:W5 [.Lambda params body scope my] X.env=[(false,eval (.Lambda params body scope my) X.env)]:=by rfl):SE X c (.Call (.Name x pp) [e,.Lambda params body scope my] [] pos) (tu fe js fb W):=by
 obtain⟨f,fd,ps,qual,sc,N,hNm,jU,hk,hbi,h2,ok⟩:=F;intro pins s σ H Q I ⟨δ,k,q⟩;refine Ql (lM I hg jU ?_ cq);refine JD (h₀:=X.base) I.ok.mod.jL hk ?_ hs (by rw[jt]; rfl);rw[hs,jt];show W6 _ _ (spliced ((false,eval e X.env) :: [(false,eval (.Lambda params body scope my) X.env)])) _ _ s;unfold tu at q;rw[aX] at q;refine Calls.spliced_cons (aH (he pins s σ H (λv H1=>∃ r δ1 dv δ2 d',ay c σ δ H σ δ1 H1/\Rep H1 (Av c σ δ1) v r/\i4 js δ1=some (dv,δ2)/\W (gx fb dv) r=some d'/\∀ v' H3,ay c σ δ H σ δ2 H3->Rep H3 (Av c σ δ2) v' d'->Q v' H3) I ⟨δ,k,aL q λr δ1 q1 v H1 a1 r1=>?_⟩) λu s1 ⟨v,H1,I1,ru,r,δ1,dv,δ2,d',a1,r1,eg,ew,hq⟩=>?_)
 ·cases eg:i4 js δ1 with
  | none=>rw[eg] at q1; exact q1.elim
  | some z =>
   obtain⟨dv,δ2⟩:=z;rw[eg] at q1;simp only at q1
   cases ew:W (gx fb dv) r.d with
   | none=>rw[ew] at q1; exact q1.elim
   | some d' =>
    rw[ew] at q1;exact⟨r.d,δ1,dv,δ2,d',a1,r1.rep,eg,ew,λv' H3 a3 r3=>q1 v' H3 a3 r3⟩
 ·obtain⟨a2,fv,l1,l2,rf⟩:=Ej a1.ok eg;have k2:=a2.ok;have hv:∀ (i:Nat) x v,fr[i]? = some x->fv[i]? = some v->∃ (j:Nat) (a:Addr),X.N[j]? = some x/\σ[j]? = some (some v)/\X.env.scope.names.lookup x=some .cell/\cl.lookup x=some a:=λi y w e1 e2=>by
   have hi:i < js.length:=by rw[Ek]; exact(We.mp e1).1
   obtain⟨w',q1,q2⟩:=l2 i js[i] (by simp[hi]);rw[e2] at q1; cases q1
   obtain⟨z1,z2,a,z3⟩:=hN i y js[i] e1 (by simp[hi]);exact⟨_,a,z1,q2,z2,z3⟩
  refine Calls.spliced_cons (ON I1 (ft.now k2 _ OT) e_ xh nR tm CH xi hB kg (by rw[l1,Ek]) hv λfa H2 s2 I2 up C=>Calls.spliced_nil ⟨I2.cn,?_⟩);have k3:Ok c σ δ2 H2:=k2.mono up;have sp:spS X.prog X.w X.K X.mg X.base N qual sc f kw ir X.stack s2 [v,.ref fa] H2 Q E0:=by
   obtain⟨ar,hrun⟩:=hW fa (gx fb dv) r d' ew;have r3:Rep H2 (Av c σ δ2) v r:=(Rep.dA r1 a2).keep λa o e _=>up a o e
   refine⟨r,fa,gx fb dv,Av c σ δ2,v,rfl,?_,λaj A E xg dz=>?_,.pure d',ar,by rw[hNm]; exact hrun,λv' H' a r'=>?_⟩
   ·have gz:∀ (i:Nat) z,([some (S.pure r),some (S.pure (.fn fa))]:Dl)[i]? = some (some (.own z))->False:=λi z e=>by
     match i with
     | 0=>simp at e
     | 1=>simp at e
     | i + 2=>simp at e
    have tj:∀ b,Av ⟨H2,Av c σ δ2,[],λ_ _=>False⟩ [some v,some (.ref fa)] [some (.pure r),some (.pure (.fn fa))] b->Av c σ δ2 b:=λb z=>by
     rcases z with z | ⟨i,y,z1,_⟩
     ·exact z
     ·exact(gz i y z1).elim
    refine⟨λa o e _=>e,λa z=>k3.rg z,λa ⟨i,z⟩=>by simp at z,rfl,λi z e=>?_,λi z e=>(gz i z e).elim,λi j a z z' e=>(gz i z e).elim,λz hz=>by simp at hz⟩;match i with
    | 0 =>
     simp at e;subst e;exact⟨v,rfl,r3.aJ λb z=>.inl (tj b z)⟩
    | 1 =>
     simp at e;subst e;exact⟨.ref fa,rfl,.fn fa⟩
    | i + 2=>simp at e
   ·exact OH (X:=(cE bV X.prog X.w X.K X.mg X.base N qual sc f aj A X.stack s2 H2 E).dX) (k:=kl) rfl rfl rfl C L (xg.mono OU) hb (ax.keep rf λa o e _=>up a o e) λc' cd s' H' OV hp=>bU c' fa cd _ _ s' H' OV hp
   ·have OW:∀ b o,H2 b=some o->H' b=some o:=λb o eb=>a.ok.keep b o eb λ⟨i,z⟩=>by simp at z
    exact hq v' H' (((a1.trans a2).trans (.mono k2 up)).trans (.mono k3 OW)) (Rep.aJ (show Rep H' _ v' d' from r') λb z=>.inl (.inl z))
  have rr:Vals [v,.ref fa] [u,.ref fa]:=.cons ru (.cons rfl .nil);have El:=hbi s2 [u,.ref fa] I2.cn (by rw[WK,h2]; rfl);rw[WK] at El;refine Jp (Qk (ok.run X.A X.stack s2 H2 ⟨[u,.ref fa],[]⟩ [u,.ref fa] [v,.ref fa] Q E0 hr I2.mM El rr sp) λr s' iZ=>?_)
  cases r with
  | error e=>exact iZ.elim
  | ok fl =>
   cases fl with
   | ret u=>exact I2.after iZ
   | next=>exact False.elim iZ
   | brk=>exact False.elim iZ
   | cont=>exact False.elim iZ
end
theorem OX{P:Wg}{w:Wm}{K:W1}{mg mb:Str->Option Value}{k:Nat}{fa a T c:Addr}{tpos:Pos}{tq:Str}{fd:Wy}{x:Str}{G:DF}{s₁:W2}{vs:List Value}{ns:List Int}
  (KX:K.In s₁.heap) (kO:s₁.heap.Ns Wn mg) (hb:s₁.heap.Ns builtinsNs mb) (uA:∀ x:Str,x≠"__name__"->mb x=Q9 x) (uB:s₁.heap.NoLimit) (hg:s₁.gens = #[])
  (ha:s₁.heap.get? a=some { cls:=.type "list",data:=.seq vs.toArray }) (hi:IntsAre vs ns) (hl:ns.length<=Wa) (hr:bj k callerA)
  (hL:pI K=true) (hT:s₁.heap.get? T=some (PySem.W.tabObj #[])) (hC:PySem.W.CodeHd s₁.heap c T) (hB:∃ bm o,mg "__builtins__" = some (.ref bm)/\bm≠builtinsNs/\s₁.heap.get? bm=some o/\o.cls = .type "module"/\o.dict=some builtinsNs/\o.data = .plain) (xn:K.lookup T=none)
  (F:∀ base:Heap,K.In base->base.Ns Wn mg->base.BuiltinsAt mg T->c8 P w K mg base bV k fa fd [x] (mx [(T,tpos,tq)] 1 G)) (uC:∀ (s:W2) (u:Value),BindsTo s fd ⟨[u],[]⟩ [(x,u)])
  (hG:∃ ar,G [.pure (.lst (ns.map .int))]=some (.pure (.bl true),ar)) :
  Q4 (model P w) callerA (.call (.ref fa) ⟨[.ref a],[]⟩) (λr s'=>r = .ok (.ret (.bool true))/\OldK s₁.heap s'.heap/\s'.os=s₁.os/\AllBare s'.gens) s₁:=by
 have rv:=L2.oO hi;have AY:=hi.length;have OY:T≠a:=λz=>by
  rw[z,ha] at hT;have:=(WB hT)
  have h2:=congrArg Obj.cls this
  cases h2
 have OZ:K.lookup a=none:=by
  cases hk:K.lookup a with
  | none=>rfl
  | some o =>
   have e:=KX a o hk;rw[ha] at e
   cases e;exact(Cv hL hk rfl).elim
 let H:Hp:=λb=>if b=a then some (.frz { cls:=.type "list",data:=.seq vs.toArray } (.lst (ns.map V.int))) else if b=T then some (.ctab tpos tq) else none
 have Ha:H a=some (.frz { cls:=.type "list",data:=.seq vs.toArray } (.lst (ns.map V.int))):=if_pos rfl;have HT:H T=some (.ctab tpos tq):=by show(if T=a then _ else _)=_; rw[if_neg OY,if_pos rfl]
 have Hn:∀ b,b≠a->b≠T->H b=none:=λb h1 h2=>by show(if b=a then _ else _)=_; rw[if_neg h1,if_neg h2]
 have ag:b8 P w H s₁.heap:=λb u z=>by
  by_cases h1:b=a
  ·subst h1;rw[Ha] at z; cases z
   exact⟨ha,by rw[Wx]; exact hl,vs,_,rv,ha⟩
  ·by_cases h2:b=T
   ·subst h2;rw[HT] at z; cases z
    exact⟨#[],hT,trivial,λcv q=>by cases q⟩
   ·rw[Hn b h1 h2] at z; cases z
 have mS:∀ {b:Addr} {o:Obj},s₁.heap.get? b=some o->H b=none->(fO s₁.heap H).get? b=some o:=λe n=>zK e n
 have iI:∀ {b:Addr} {o:Obj} {es:Array DictEntry} {ep:Nat},s₁.heap.get? b=some o->o.data = .dict es ep->H b=none:=λ{b o es ep} e d=>by
  refine Hn b (λz=>?_) λz=>?_
  ·rw[z,ha] at e; cases e
   have d':Data.seq vs.toArray _=Data.dict es ep:=d
   cases d'
  ·rw[z,hT] at e; cases e
   have d':Data.fields #[]=Data.dict es ep:=d
   cases d'
 have jV:∀ {b:Addr} {m:Str->Option Value},s₁.heap.Ns b m->(fO s₁.heap H).Ns b m:=λ{b m} ⟨o,es,ep,e,d,r⟩=>⟨o,es,ep,mS e (iI e d),d,r⟩
 have oP:K.In (fO s₁.heap H):=λb o e=>mS (KX b o e) (Hn b (λz=>by rw[z,OZ] at e; cases e) λz=>by rw[z,xn] at e; cases e)
 have hM:Mod K mg (fO s₁.heap H):=⟨oP,jV kO,⟨mb,jV hb,uA⟩,let ⟨mc,h1,h2⟩:=uB; ⟨mc,jV h1,h2⟩⟩
 have e0:iG P w K mg (fO s₁.heap H) callerA [] s₁ H:=⟨rfl,hM,λb o e=>zL e,Nat.le_of_eq (zJ _ _),trivial,λb hb=>absurd (show b ∈ ([]:List Addr) from hb) (by simp),ag,.of_eq hg⟩
 have O0:TH [(T,tpos,tq)] H:=λt ht=>by
  have:t=(T,tpos,tq):=by simpa using ht
  subst this;exact HT
 have hR:Rd H a (.lst (ns.map V.int)):=.inr ⟨_,Ha⟩;have sp:mx [(T,tpos,tq)] 1 G [.ref a] H (λv H'=>v = .bl true/\H' T=some (.ctab tpos tq)) E0:=by
  obtain⟨ar,hg⟩:=hG;have rep:∀ O:Addr->Prop,¬ O a->Rep H O (.ref a) (.lst (ns.map D.int)):=λO hO=>.lst hO hR (by simp) λi v d e1 e2=>by
   rw[WF] at e1 e2
   cases e:ns[i]? with
   | none=>rw[e] at e1; cases e1
   | some k=>rw[e] at e1 e2; cases e1; cases e2; exact .int k
  refine⟨O0,[.pure (.lst (ns.map .int))],λ_=>False,rfl,⟨λb o e _=>e,λb z=>z.elim,λb ⟨i,z⟩=>?_,rfl,λi d e=>?_,λi d e=>?_,λi j b d d' e1 e2 e3 e4=>?_,λp z=>?_⟩,_,ar,hg,λv H' x r=>?_⟩
  ·simp[a7] at z
  ·cases i with
   | zero =>
    simp at e;subst e;refine⟨.ref a,rfl,rep _ λz=>?_⟩;rcases z with z | ⟨j,d',z1,z2⟩
    ·exact z
    ·cases j with
     | zero=>simp at z1
     | succ j=>simp at z1
   | succ i=>simp at e
  ·cases i with
   | zero=>simp at e
   | succ i=>simp at e
  ·cases i with
   | zero=>simp at e1
   | succ i=>simp at e1
  ·simp[a7] at z
  ·cases r;exact⟨rfl,x.ok.keep T _ HT λ⟨i,z⟩=>by simp[a7] at z⟩
 have O1:(fO s₁.heap H).BuiltinsAt mg T:=by
  obtain⟨bm,o,b1,b2,b3,b4,b5,b6⟩:=hB;refine⟨bm,o,b1,b2,λz=>?_,λz=>?_,mS b3 (Hn bm (λz=>?_) λz=>?_),b4,b5,b6⟩
  ·obtain⟨o2,es,ep,e,d,_⟩:=kO;rw[z,e] at b3; cases b3
   rw[d] at b6; cases b6
  ·rw[z,hT] at b3; cases b3
   cases b6
  ·rw[z,ha] at b3; cases b3
   cases b6
  ·rw[z,hT] at b3; cases b3
   cases b6
 refine Qk ((F _ oP (jV kO) O1).run callerA [] s₁ H ⟨[.ref a],[]⟩ [.ref a] [.ref a] _ _ hr e0 (uC s₁ (.ref a)) (.cons rfl .nil) sp) λr s' h=>?_
 cases r with
 | error e=>exact h.elim
 | ok fl =>
  cases fl with
  | next=>exact False.elim h
  | brk=>exact False.elim h
  | cont=>exact False.elim h
  | ret u =>
   obtain⟨v,H',os,bare,un,hok',r',q⟩:=h;obtain⟨q1,q2⟩:=q;subst q1;obtain rfl:u=Value.bool true:=r';have old:∀ b o,s₁.heap.get? b=some o->asItWas s₁.heap s'.heap b o/\∃ o',s'.heap.get? b=some o':=λb o e=>by
    by_cases h1:b=a
    ·subst h1;have z2:=un.fN b _ _ Ha;obtain⟨e2,_⟩:=hok' b _ z2;rw[ha] at e; cases e
     exact⟨.inl e2,_,e2⟩
    ·by_cases h2:b=T
     ·subst h2;obtain⟨ps,e2,_⟩:=hok' b _ q2;rw[hT] at e; cases e
      exact⟨.inr (.inl ⟨(hC.tab hT).isCodeTable,rfl,#[],ps,rfl,by rw[e2]; simp⟩),_,e2⟩
     ·have:=un.keep b o e (Hn b h1 h2) (by intro z; exact absurd (show b ∈ ([]:List Addr) from z) (by simp)) (by simp);exact⟨.inl this,_,this⟩
   exact⟨rfl,⟨λb o e=>(old b o e).1,λb o e=>(old b o e).2⟩,os,bare⟩
theorem O2{l:JW}{q:Wg}{loose:List Str}{XP:(Str->Option Value)->Heap->Prop}{YP:Wm->Heap->Prop}{d:DefRec}{K:Params->W1}{k:Nat}{G:DF}{T:Addr}{tpos:Pos}{tq:Str}(hn:l.most=some 63)(lU:d.params.defaults=[])(hr:bj k callerA)
  (hY:∀ (w:Wm) (h:Heap),YP w h->(K w.params).In h/\h.get? T=some (PySem.W.tabObj #[])) (hL:∀ p:Params,pI (K p)=true) (xn:∀ p:Params,(K p).lookup T=none)
  (hG:∀ ns:List Int,ns.length<=63->∃ ar,G [.pure (.lst (ns.map .int))]=some (.pure (.bl true),ar))
  (F:∀ (w:Wm) (mg:Str->Option Value) (fa:Addr) (h:Heap),(K w.params).In h->h.Ns Wn mg->mg d.name=some (.ref fa) ->
   (∃ c,Jd (K w.params) c T=true)/\∃ fd:Wy,(∀ (s:W2) (u:Value),BindsTo s fd ⟨[u],[]⟩ [("script",u)])/\∀ base:Heap,(K w.params).In base->base.Ns Wn mg->base.BuiltinsAt mg T->c8 l.prog w (K w.params) mg base bV k fa fd ["script"] (mx [(T,tpos,tq)] 1 G)) :
  PySem.W.WalkO q loose XP YP l.row.toRowW d [] (λf vs=>PySem.call f vs):=by
 refine Att.AX hn lU λw s₀ s₁ mg mb fa o pm cd doc a vs ns G' Y ho hd cC jU oN hints hlen hg=>?_
 obtain⟨KX,hT⟩:=hY w _ Y;obtain⟨⟨c,hC⟩,fd,hb,hF⟩:=F w mg fa _ KX G'.T.g jU;exact OX KX G'.T.g G'.T.b G'.T.builtins G'.T.nolimit hg oN hints (WQ hlen (by decide)) hr (hL _) hT (PySem.W.codeHd_of_K KX hC) G'.T.bmain (xn _) hF hb (hG ns hlen)
open PySem (sizeLine)
def tw(fa:PySem.Addr)(F:D->Option D):DS:=aF (aI ma (ah [] 2)) (aF (aI (ae 0) (ah [] 3)) (aF (gI (aW (bf (fK true) (ae 3) (ao 2))) (aF (gv 2 (ae 3) (bh di (ao 2))) (aI (mw fa F 1 (ae 3)) (ah [] 3))) 1000000) (bW (d_ (aO (bh nQ (ao 2)) (aO (au iW 2 (ao 3)) ck))))))
def wk(F:D->Option D):Nat->List Tx->Tx->Option (List Tx×Nat)
 | 0,_,_=>none
 | n + 1,seen,here=>if here ∈ seen then some (seen,seen.idxOf here) else match F (.str here) with
  | some (.str y)=>wk F n (seen ++ [here]) y
  | _=>none
def qd(F:D->Option D):D->Option D
 | .str x=>(wk F 1000000 [] x).map λp=>.tup [.lst (p.1.map .str),.int (p.2:Nat)]
 | _=>none
def cf:Nat->List Tx->List (aT×D)
 | _,[]=>[]
 | n,x :: r=>(.inr x,.int (n:Int)) :: cf (n + 1) r
theorem Em:∀ (n:Nat) (a b:List Tx),cf n (a ++ b)=cf n a ++ cf (n + a.length) b
 | n,[],b=>by simp[cf]
 | n,x :: r,b=>by
  rw[List.cons_append,cf,cf,Em,List.cons_append,WE];congr 3
  omega
theorem xo:∀ (n:Nat) (a:List Tx),(cf n a).length=a.length
 | _,[]=>rfl
 | n,x :: r=>by rw[cf,WE,xo,WE]
theorem xp:∀ (n:Nat) (a:List Tx),(cf n a).map (λp=>lr p.1)=a.map .str
 | _,[]=>rfl
 | n,x :: r=>by rw[cf,Wo,xp,Wo]; rfl
theorem xq(x:Tx):∀ (n:Nat) (a:List Tx),bA (cf n a) (.inr x)=if x ∈ a then some (.int ((n + a.idxOf x:Nat):Int)) else none
 | _,[]=>rfl
 | n,y :: r=>by
  unfold bA cf;rw[Q7];by_cases h:y=x
  ·subst h;simp
  ·have h':¬ x=y:=λe=>h e.symm
   have e:(decide ((Sum.inr y:aT) = .inr x))=false:=by simp[h]
   have ih:=xq x (n + 1) r;unfold bA at ih;simp only[e];rw[ih,List.idxOf_cons];have hb:(y == x)=false:=by simp[h]
   simp only[hb,Wh,h',false_or];by_cases hm:x ∈ r
   ·simp only[hm,if_true,cond_false];congr 2
    omega
   ·simp[hm]
theorem O3{x:Tx}{v:D}{a:List Tx}(h:x ∉ a):putD (cf 0 a) (.inr x) v=cf 0 a ++ [(.inr x,v)]:=by
 have hn:((cf 0 a).any λkv=>decide (kv.1 = .inr x))=false:=by
  rw[List.any_eq_false];intro kv hkv;have:lr kv.1 ∈ a.map D.str:=by rw[<- xp 0 a]; exact WJ hkv
  simp only[decide_eq_true_eq];intro e;rw[e] at this;simp[lr] at this;exact h this
 unfold putD;rw[hn];simp
theorem En(fa:PySem.Addr)(F:D->Option D)(d:D):∀ (n:Nat) (seen:List Tx) (here:Tx) (p:List Tx×Nat),seen.length + n<=1000000->wk F n seen here=some p ->
  ∃ last:Tx,last ∈ p.1/\p.1.idxOf last=p.2/\p.1.length<=1000000/\gI (aW (bf (fK true) (ae 3) (ao 2))) (aF (gv 2 (ae 3) (bh di (ao 2))) (aI (mw fa F 1 (ae 3)) (ah [] 3))) n [some (.pure d),some (.pure (.fn fa)),some (.own (.aB (cf 0 seen))),some (.pure (.str here))]
   = .ok .next [some (.pure d),some (.pure (.fn fa)),some (.own (.aB (cf 0 p.1))),some (.pure (.str last))]
 | 0,_,_,_,_,h=>by simp[wk] at h
 | n + 1,seen,here,p,hl,h=>by
  unfold wk at h;have fq:fK true (.str here) (.aB (cf 0 seen))=some (.pure (.bl (!decide (here ∈ seen)))):=by
   show((bP (.str here)).map λk=>S.pure (.bl (if true then !(bA (cf 0 seen) k).isSome else(bA (cf 0 seen) k).isSome)))=_;simp only[bP,WG,xq,if_true];by_cases hm:here ∈ seen <;> simp[hm]
  by_cases hm:here ∈ seen
  ·rw[if_pos hm] at h
   cases h;refine⟨here,hm,rfl,by show seen.length<=_; omega,?_⟩;simp only[hm,decide_true,Bool.not_true] at fq;show gI _ _ (n + 1) _=_;generalize cf 0 seen=L at *;simp[gI,aW,ae,ao,fq]
  ·rw[if_neg hm] at h
   cases hF:F (.str here) with
   | none=>rw[hF] at h; cases h
   | some y =>
    rw[hF] at h
    cases y with
    | str y =>
     simp only at h;obtain⟨last,h1,h2,h3,h4⟩:=En fa F d n (seen ++ [here]) y p (by simp; omega) h;refine⟨last,h1,h2,h3,?_⟩;rw[<- h4];simp only[hm,decide_false,Bool.not_false] at fq;have hz:(cf 0 seen).length < Wa:=by rw[xo,eC]; omega
     have hp:putD (cf 0 seen) (.inr here) (.int ((cf 0 seen).length:Nat))=cf 0 (seen ++ [here]):=by
      rw[O3 hm,Em,xo];simp[cf]
     generalize cf 0 (seen ++ [here])=L1 at *;generalize cf 0 seen=L at *;have e1:aW (bf (fK true) (ae 3) (ao 2)) [some (.pure d),some (.pure (.fn fa)),some (.own (.aB L)),some (.pure (.str here))] = .ok true [some (.pure d),some (.pure (.fn fa)),some (.own (.aB L)),some (.pure (.str here))]:=by
      simp[aW,ae,ao,fq]
     have e2:gv 2 (ae 3) (bh di (ao 2)) [some (.pure d),some (.pure (.fn fa)),some (.own (.aB L)),some (.pure (.str here))] = .ok .next [some (.pure d),some (.pure (.fn fa)),some (.own (.aB L1)),some (.pure (.str here))]:=by
      simp[gv,jC,ae,ao,di,bP,hz,hp]
     have e3:aI (mw fa F 1 (ae 3)) (ah [] 3) [some (.pure d),some (.pure (.fn fa)),some (.own (.aB L1)),some (.pure (.str here))] = .ok .next [some (.pure d),some (.pure (.fn fa)),some (.own (.aB L1)),some (.pure (.str y))]:=by
      simp[aI,mw,ae,hF]
     simp only[gI,e1,ko,if_true];have e4:aF (gv 2 (ae 3) (bh di (ao 2))) (aI (mw fa F 1 (ae 3)) (ah [] 3)) [some (.pure d),some (.pure (.fn fa)),some (.own (.aB L)),some (.pure (.str here))] = .ok .next [some (.pure d),some (.pure (.fn fa)),some (.own (.aB L1)),some (.pure (.str y))]:=by
      unfold aF;rw[e2];exact e3
     rw[e4];rfl
    | _=>simp at h
theorem O4(fa:PySem.Addr)(F:D->Option D)(d r:D)(h:qd F d=some r):∃ ar,dm (tw fa F) 4 [.pure d,.pure (.fn fa)]=some (.pure r,ar):=by
 unfold qd at h;split at h
 ·rename_i x
  cases e:wk F 1000000 [] x with
  | none=>rw[e] at h; cases h
  | some p =>
   rw[e] at h;simp only[WG,W9] at h;subst h;obtain⟨last,h1,h2,h3,h4⟩:=En fa F (.str x) 1000000 [] x p (by simp) e;have hx:iW (.aB (cf 0 p.1)) (.str last)=some (.pure (.int (p.2:Nat))):=by
    show((bP (.str last)).bind λk=>(bA (cf 0 p.1) k).map S.pure)=_;simp only[bP,Wu,xq,h1,if_true,WG,h2,Jb]
   have hk:nQ (.aB (cf 0 p.1))=some (.own (.lst (p.1.map .str))):=by
    show some (S.own (D.lst ((cf 0 p.1).map λp=>lr p.1)))=_;rw[xp]
   have h0:cf 0 []=[]:=rfl;rw[h0] at h4;generalize cf 0 p.1=L at *;refine⟨[.pure (.str x),.pure (.fn fa)],?_⟩;unfold dm tw;simp[aV,aI,ma,ae];rw[h4];simp[ao,hk,au,bI,hx,bO,bb]
 ·cases h
theorem O5{ts:fz}{H:Hp}{B:Addr->Prop}{ss:List S}{vs:List V}{g:Xc->Dl->Prop}(hT:TH ts H)(ok:Ok ⟨H,B,a7 0 ss vs,λ_ _=>False⟩ (bC vs) (bJ ss) H):FT ts ⟨H,B,a7 0 ss vs,g⟩:=⟨hT,λt ht ⟨i,z⟩=>by
 obtain⟨j,d,_,h1,h2⟩:=ib z;obtain⟨a,e1,o,_⟩:=ok.own j d (dS.mpr h1);rw[ei.mpr h2] at e1
 cases e1;have:=hT t ht
 cases d with
 | lst ds=>obtain⟨_,e,_⟩:=o; rw[this] at e; cases e
 | aB ds=>obtain⟨_,e,_⟩:=o; rw[this] at e; cases e
 | _=>exact o.elim⟩
def Eo(ts:fz)(mg:Str->Option Value)(n:Nat)(G:DX):Sp:=λvs H Q E=>TH ts H/\pW mg n G vs H Q E
def nS(P:Wg)(w:Wm)(K:W1)(mg:Str->Option Value)(base:Heap)(ts:fz)(k:Nat)(x:Str)(n:Nat)(G:DX):Prop :=
 ∃ (f:Addr) (fd:Wy) (ps:List Str),mg x=some (.ref f)/\WZ K (.ref f)=true/\Binds K fd ps []/\c8 P w K mg base (fZ P w) k f fd ps (Eo ts mg n G)
section
variable {P:Wg} {w:Wm} {K:W1} {mg:Str->Option Value} {base:Heap}
theorem O6{ts:fz}{x qual:Str}{st:Stmt}{f:Addr}{fd:Wy}{N ps:List Str}{k:Nat}{np:List Nat}{fb:DS}{G:DX}(F:bH K x qual st f fd)(S:bS N ps (aC st))
  (bU:∀ (c:Fc) (aj:Value) (A:Wl) (outer:List Env) (s:W2) (H:Hp) (E:XK),bj k (A.deeper (Qu qual (aC st) s.heap.objs.size f aj))->Np c np->FT ts c->(∃ oc od kV doc pm an ct cK,K.lookup f=some ⟨oc,od,.func (WR x qual (fc st) (cu st) (aC st) .none kV doc pm an aj ct),cK⟩) ->
   iY (cE (fZ P w) P w K mg base N qual (aC st) f aj A outer s H E) (wD mg c)->ef (cE (fZ P w) P w K mg base N qual (aC st) f aj A outer s H E) c (cu st) fb)
  (hG:∀ ss y,G ss=some y->bK np 0 ss=true/\jF fb N.length ss=some y):c8 P w K mg base (fZ P w) (k + 1) f fd ps (Eo ts mg ps.length G):=by
 obtain⟨oc,od,kV,doc,pm,an,aj,ct,cK,rfl,lk,cC⟩:=F.ex;refine qK lk cC S (λvs H Q E h=>?_) λA outer s H vs Q E hr h=>?_
 ·obtain⟨_,ss,B,hl,_⟩:=h;exact hl
 ·obtain⟨hT,ss,B,hl,ok,y,hg,q⟩:=h;obtain⟨c_,hrun⟩:=hG ss _ hg;have gJ:ss.length=vs.length:=by have:=ok.len; simpa using this
  let g:Xc->Dl->Prop:=λx δ'=>∃ ar,bb 0 ss δ'=some ar/\y = .inr (x,ar)
  have j_:Np ⟨H,B,a7 0 ss vs,g⟩ np:=λp hp=>by
   obtain⟨j,d,e,h1,_⟩:=ib (i:=p.1) (a:=p.2) hp;rw[e];exact ny c_ h1
  have bY:start N vs=bC vs ++ W8 (N.length - ss.length) none:=by rw[gJ]; rfl
  have dU:Ok ⟨H,B,a7 0 ss vs,λ_ _=>False⟩ (start N vs) (aV N.length ss) H:=by rw[bY]; exact ok.ext _
  have fP:∀ C dx σ' H',wD mg ⟨H,B,a7 0 ss vs,g⟩ C dx σ' H'->E (.ref C) dx H':=λC dx σ' H' ⟨z,δ',v,hm,k',rv,hv,ar,ho,hy⟩=>by
   rw[hy] at q;have k1:Ok ⟨H,B,a7 0 ss vs,λ_ _=>False⟩ σ' δ' H':=⟨k'.keep,k'.bd,k'.cw,k'.len,k'.slot,k'.own,k'.inj,k'.pinned⟩
   have a:ay ⟨H,B,a7 0 ss vs,λ_ _=>False⟩ (bC vs ++ W8 (N.length - ss.length) none) (bJ ss ++ W8 (N.length - ss.length) none) H σ' δ' H' :=
    Ok.since rfl (by rw[bY] at dU; exact dU) (λa z=>Own.ext.mpr (C8 z)) k1
   exact q C dx v H' hm (fJ rfl ok a ho).1 ((fJ rfl ok a ho).2 v (.pure z.jo) rv) hv
  refine⟨iQ ⟨H,B,a7 0 ss vs,g⟩ fb,bU ⟨H,B,a7 0 ss vs,g⟩ aj A outer s H E hr j_ (O5 hT ok) ⟨oc,od,kV,doc,pm,an,ct,cK,lk⟩ (C7 fP),aV N.length ss,⟨dU.keep,dU.bd,dU.cw,dU.len,dU.slot,dU.own,dU.inj,dU.pinned⟩,?_⟩;unfold jF at hrun;unfold cW
  cases e:fb (aV N.length ss) with
  | stuck=>rw[e] at hrun; cases hrun
  | exc x δx =>
   rw[e] at hrun;simp only at hrun
   cases eo:bb 0 ss δx with
   | none=>rw[eo] at hrun; cases hrun
   | some os =>
    rw[eo] at hrun
    cases hrun;exact⟨os,eo,rfl⟩
  | ok fl δ' =>
   rw[e] at hrun;show ∀ σ' H',ay _ (start N vs) (aV N.length ss) H σ' δ' H'->fin _ _ σ' δ' H' fl;intro σ' H' a;rw[bY] at a;have k1:=a.ok;have a1:ay ⟨H,B,a7 0 ss vs,λ_ _=>False⟩ (bC vs ++ W8 (N.length - ss.length) none) (aV N.length ss) H σ' δ' H':=⟨⟨k1.keep,k1.bd,k1.cw,k1.len,k1.slot,k1.own,k1.inj,k1.pinned⟩,a.keep,a.own,a.there⟩
   simp only at hrun
   cases fl with
   | brk=>cases hrun
   | cont=>cases hrun
   | next =>
    simp only[bO,Wu] at hrun
    cases eo:bb 0 ss δ' with
    | none=>rw[eo] at hrun; cases hrun
    | some os =>
     rw[eo] at hrun
     cases hrun;obtain⟨l1,l2⟩:=fJ rfl ok a1 eo;exact q .aq H' l1 .aq
   | ret r' =>
    simp only[bO,Wu] at hrun
    cases eo:bb 0 ss δ' with
    | none=>rw[eo] at hrun; cases hrun
    | some os =>
     rw[eo] at hrun
     cases hrun;obtain⟨l1,l2⟩:=fJ rfl ok a1 eo;exactλv rv=>q v H' l1 (l2 v _ (aM.C9 (c:=⟨H,B,a7 0 ss vs,λ_ _=>False⟩) (g:=g) rv))
theorem xr{ts:fz}{x qual:Str}{st:Stmt}{f:Addr}{fd:Wy}{N ps:List Str}{k:Nat}{np:List Nat}{fb:DS}{G:DF}(F:bH K x qual st f fd)(hm:mg x=some (.ref f))(hb:Binds K fd ps [])(S:bS N ps (aC st))
  (bU:∀ (c:Fc) (aj:Value) (A:Wl) (outer:List Env) (s:W2) (H:Hp) (E:XK),bj k (A.deeper (Qu qual (aC st) s.heap.objs.size f aj))->Np c np->FT ts c->(∃ oc od kV doc pm an ct cK,K.lookup f=some ⟨oc,od,.func (WR x qual (fc st) (cu st) (aC st) .none kV doc pm an aj ct),cK⟩)->ef (cE bV P w K mg base N qual (aC st) f aj A outer s H E).dX c (cu st) fb)
  (hG:∀ ss y,G ss=some y->bK np 0 ss=true/\dm fb N.length ss=some y):lu P w K mg base ts (k + 1) x ps.length G:=⟨f,fd,ps,hm,F.kp,hb,Ei F S bU hG⟩
theorem O7{ts:fz}{x qual:Str}{st:Stmt}{f:Addr}{fd:Wy}{N ps:List Str}{k:Nat}{np:List Nat}{fb:DS}{G:DX}(F:bH K x qual st f fd)(hm:mg x=some (.ref f))(hb:Binds K fd ps [])(S:bS N ps (aC st))
  (bU:∀ (c:Fc) (aj:Value) (A:Wl) (outer:List Env) (s:W2) (H:Hp) (E:XK),bj k (A.deeper (Qu qual (aC st) s.heap.objs.size f aj))->Np c np->FT ts c->(∃ oc od kV doc pm an ct cK,K.lookup f=some ⟨oc,od,.func (WR x qual (fc st) (cu st) (aC st) .none kV doc pm an aj ct),cK⟩) ->
   iY (cE (fZ P w) P w K mg base N qual (aC st) f aj A outer s H E) (wD mg c)->ef (cE (fZ P w) P w K mg base N qual (aC st) f aj A outer s H E) c (cu st) fb)
  (hG:∀ ss y,G ss=some y->bK np 0 ss=true/\jF fb N.length ss=some y):nS P w K mg base ts (k + 1) x ps.length G:=⟨f,fd,ps,hm,F.kp,hb,O6 F S bU hG⟩
theorem O8{x qual:Str}{st:Stmt}{f code:Addr}{aj:Value}(h1:∃ oc od kV doc pm an ct cK,K.lookup f=some ⟨oc,od,.func (WR x qual (fc st) (cu st) (aC st) .none kV doc pm an aj ct),cK⟩)
  (h2:∃ oc od kV doc pm an ct cK,K.lookup f=some ⟨oc,od,.func (WR x qual (fc st) (cu st) (aC st) .none kV doc pm an (.ref code) ct),cK⟩):aj = .ref code:=by
 obtain⟨_,_,_,_,_,_,_,_,e1⟩:=h1;obtain⟨_,_,_,_,_,_,_,_,e2⟩:=h2;rw[e1] at e2
 cases e2;rfl
end
section
variable {X:Cx} {c:Fc} {e:Expr} {es:List Expr} {as:List Ak} {k n:Nat} {x:Str} {G:DX} {pp pos:Pos} {ts:fz}
theorem O9 (F:nS X.prog X.w X.K X.mg X.base ts k x n G) (ft:FT ts c) (hK:lh G) (hr:bj k X.A) (hex:X.ex=[]) (hx:iY X (wD X.mg c)) (hg:Gl X x) (ha:SX X c (e :: es) as) (hl:as.length=n) (cq:(x == ("__debug__" : Str))=false:=by decide)
  (he:W5 (e :: es) X.env=(false,eval e X.env) :: W5 es X.env:=by rfl) (bx:(WN pos (W5 es X.env)).any (·.1)=false:=by rfl):SE X c (.Call (.Name x pp) (e :: es) [] pos) (jG G as):=by
 obtain⟨f,fd,ps,hm,hk,hb,ok⟩:=F;refine PE.weak (wc ok hr hex hg hm hk hb hx ha cq he bx) λσ H Q h=>?_
 obtain⟨δ,kk,c_,q⟩:=Dc (X:=X) hK hl h;exact⟨δ,kk,c_,aL q λds δ1 q1 vs H1 a1 r1=>⟨ft.now a1.ok,q1 vs H1 a1 r1⟩⟩
theorem O_ (F:nS X.prog X.w X.K X.mg X.base ts k x n G) (ft:FT ts c) (hK:lh G) (hr:bj k X.A) (hex:X.ex=[]) (hg:Gl X x) (ha:SX X c (e :: es) as) (hl:as.length=n) (cq:(x == ("__debug__" : Str))=false:=by decide)
  (he:W5 (e :: es) X.env=(false,eval e X.env) :: W5 es X.env:=by rfl) (bx:(WN pos (W5 es X.env)).any (·.1)=false:=by rfl):SE X c (.Call (.Name x pp) (e :: es) [] pos) (nK G as):=by
 obtain⟨f,fd,ps,hm,hk,hb,ok⟩:=F;refine PE.weak (wc (W:=λ_ _ _ _=>False) ok hr hex hg hm hk hb (λ_ _ _ _ _ _ _ _ _ h=>h.elim) ha cq he bx) λσ H Q h=>?_
 obtain⟨δ,kk,c_,q⟩:=M8 (X:=X) hK hl h;exact⟨δ,kk,c_,aL q λds δ1 q1 vs H1 a1 r1=>⟨ft.now a1.ok,q1 vs H1 a1 r1⟩⟩
end
theorem Pa{ts:fz}{X:Cx}{c:Fc}(ft:FT ts c){body:List Stmt}{x n:Str}{b₀:Stmt}{pV:List Stmt}{np sE pos:Pos}{B:Addr}{i:Nat}{ce:Tx->Nat}{ys:List Tx}{fb fh:DS}(hex:X.ex=[])(aA:Np c [])(bY:X.stack=X.env :: X.outer)(hf:X.env.frame=some X.env.locals)
  (hN:X.N.Nodup) (hi:X.N[i]? = some n) (hl:X.env.scope.names.lookup n=some .local) (hg:Gl X x) (hm:X.mg x=some (.ref B)) (qB:mm X.K B)
  (Pb:∀ y ∈ ys,X.mg (toS y)=some (.ref (ce y))/\PySem.W.mroIn X.K (ce y) (.ref B)=some true)
  (hb:∀ (c':Fc) (pn:List (Addr×Obj)) (xe:Value->W2->Prop),Np c' []->FT ts c'->iY (X.wt pn xe) (wD X.mg c')->ef (X.wt pn xe) c' body fb) (hh:∀ a,ef (X.hand a) c (b₀ :: pV) fh) (cq:(x == ("__debug__" : Str))=false:=by decide) :
  SS X c (.Try body [.ExceptHandler (some (.Name x np)) (some n) (b₀ :: pV) sE] [] [] pos) (sG ce ys i fb fh):=by
 have hp:=MJ aA;refine PS.weak (MA (i:=i) (B:=B) (th:=λ_ _=>iQ c fh)
  (tb:=λW D σ H=>TH ts H/\iQ ⟨H,c.B,[],λz δ'=>∀ σ' H',Ok ⟨H,c.B,[],λ_ _=>False⟩ σ' δ' H'->∀ C dx v,X.mg (toS z.cls)=some (.ref C)->Rep H' (Av ⟨H,c.B,[],λ_ _=>False⟩ σ' δ') v z.jo->(∀ y,v = .ref y->dx=some y)->W C dx σ' H'⟩ fb D σ H) hex bY hf hN hi hl hg hm qB cq
  (λW pn xe acc pins s σ H D I ⟨hT,hw⟩=>hb _ pn xe (λp z=>(by simp at z)) ⟨hT,λt _ ⟨j,z⟩=>by simp at z⟩ (λps σ' H' s' a C dx J co ⟨y,δ',v,hy,k',rv,hv,w'⟩=>acc ps σ' H' s' a C dx J co (w' σ' H' ⟨k'.keep,k'.bd,k'.cw,k'.len,k'.slot,k'.own,k'.inj,k'.pinned⟩ C dx v hy rv hv)) pins s σ H D I hw)
  (λ_ a=>hh a)) λD σ H ⟨δ,k,q⟩=>?_
 unfold sG at q;split at q
 ·rename_i g9;refine⟨ft.now k,δ,k.Dd g9,?_⟩;unfold cW at q ⊢
  cases e:fb δ with
  | stuck=>rw[e] at q; exact q.elim
  | ok fl δ' =>
   rw[e] at q;intro σ' H' a;have f0:=q σ' H' (ay.mn k hp a)
   cases fl with
   | next=>exact f0
   | brk=>exact f0
   | cont=>exact f0
   | ret r=>exactλv rv=>f0 v (aM.mn k hp rv)
  | exc z δ' =>
   rw[e] at q;simp only at q;split at q
   ·rename_i hc;simp only[Ws,decide_eq_true_eq] at hc;obtain⟨hy,aY⟩:=hc;intro σ' H' k' C dx v hC rv hv;obtain⟨y1,y2⟩:=Pb z.cls (by simpa using hy);rw[y1] at hC
    cases hC;refine⟨y2,v,hv,λa ha=>?_⟩;have A1:ay c σ δ H σ' δ' H':=ay.mn k hp (Ok.since (c:=⟨H,c.B,[],λ_ _=>False⟩) rfl (k.Dd g9) (λa ⟨j,z⟩=>by simp at z) k');have A2:=A1.trans (ay.alloc A1.ok ha (.ext (excAt (ce z.cls) v a)));have A3:=Ok.set (i:=i) (v:=.ref a) (r:=.pure (.exc (ce z.cls) z.jo)) A2 (.exc (A1.ok.gi ha) b7 (Rep.dA rv (ay.alloc A1.ok ha _))) (λp zz=>by rw[hp] at zz; simp at zz);refine⟨δ'.set i (some (.pure (.exc (ce z.cls) z.jo))),A3.ok,?_⟩;unfold cW;generalize fh (δ'.set i (some (.pure (.exc (ce z.cls) z.jo))))=r at q
    cases r with
    | stuck=>exact q.elim
    | exc z' δ4=>exact q
    | ok fl δ4 =>
     intro σ4 H4 A4;have f0:=q (σ4.set i none) H4 (ay.unset (A3.trans A4) hp i)
     cases fl with
     | next=>exact f0
     | brk=>exact f0
     | cont=>exact f0
     | ret r=>exactλv rv=>f0 v (aM.unset hp i rv)
   ·exact q.elim
 ·exact q.elim
end DV
namespace L2
open PySem PySem.Spec PyProof.Rows
section
variable {X:Cx} {pins:List (Addr×Obj)} {σ:St} {H:Hp} {s:W2} {a:Addr} {kvs:List (Key×V)} {k:Key} {u:Value} {A:Wl} {E:Value->W2->Prop}
theorem Pc{v:V}{r:Value}{Q:Value->W2->Prop}(I:Inv X pins σ H s)(e:H a=some (.dK kvs))(ry:RelV (kV k) u)(rv:RelV v r)(lz:kvs.length < Wa)
  (h1:∀ v' w' s',dg kvs k=some v'->Inv X pins σ H s'->RelV v' w'->Q w' s') (h2:dg kvs k=none->∀ s',Inv X pins σ (upd H a (.dK (putK kvs k v))) s'->Q r s') :
  W6 (model X.prog X.w) A (call (.builtin "dict.setdefault") [.ref a,u,r]) Q E s:=by
 obtain⟨z,hd,vs,rel,dd⟩:=oJ I.ag e;have rk:=rel.val k;refine call_meetsIn PySem.F.slot_dict_setdefault dd.typeIs PySem.F.entry_dict_setdefault (PySem.F.args_dict_setdefault_3 _ _ _) (kt_meets_setdefault (dQ X.prog X.w) a (jT ry) hd r) ⟨vs,dd,by rw[<- rel.length]; exact z,λw' hw=>?_,λhn h' gD hs=>?_⟩
 ·cases l:dg kvs k with
  | none =>
   rw[l] at rk;rw[dG.none_of rk] at hw
   cases hw
  | some v' =>
   rw[l] at rk;obtain⟨w2,e2,r2⟩:=dG.some_of rk;rw[hw] at e2
   cases e2;exact h1 v' w' _ l (I.tok _) r2
 ·have l:dg kvs k=none:=by
   cases l:dg kvs k with
   | none=>rfl
   | some v' =>
    rw[l] at rk;obtain⟨w2,e2,r2⟩:=dG.some_of rk;rw[hn] at e2; cases e2
  have hl:(putK kvs k v).length<=Wa:=by have:=mP kvs k v; omega
  have he:∃ q,h'.get? a=some q:=let ⟨q,_,_,hq,_⟩:=gD; ⟨q,hq⟩
  exact h2 l _ (oM I (by rw[e]; exact True.intro) hs he (qU hl hd (rel.put k rv) gD))
end
def Pd(td ty tx:TE):TE:=λσ H Q=>td σ H λx H1=>∃ a,x = .ref a/\ux H1 a/\ty σ H1 λy H2=>tx σ H2 λz H3=>∃ kvs k,H3 a=some (.dK kvs)/\y=kV k/\kvs.length < Wa /\
 (∀ v,dg kvs k=some v->Q v H3)/\(dg kvs k=none->Q z (upd H3 a (.dK (putK kvs k z))))
section
variable {X:Cx} {o e f:Expr} {apos aU:Pos} {td ty tx:TE}
theorem Pe (ho:PE X o td) (he:PE X e ty) (hf:PE X f tx) (m:M2 X o "setdefault" apos e f aU):PE X (.Call (.Attribute o "setdefault" apos) [e,f] [] aU) (Pd td ty tx):=by
 intro pins s σ H Q I h;refine wpAny_Call_method m.base m.uw m.line PySem.F.plainAttrs_dict PySem.F.slot_dict_setdefault PySem.F.type_dict_setdefault (aH (ho pins s σ H _ I h) λu s1 ⟨x,H1,I1,rx,a,ex,d,q1⟩=>?_);subst ex;obtain rfl:u=Value.ref a:=rx;obtain⟨t1,t2,_⟩:=AW I1 d;refine⟨t1,t2,?_⟩;rw[m.trees];refine Calls.callWith_builtin rfl (Calls.evalArgs_plain (Calls.spliced_cons (aH (he pins s1 σ H1 _ I1 q1) λiv s2 ⟨y,H2,I2,ry,q2⟩ =>
  Calls.spliced_cons (aH (hf pins s2 σ H2 _ I2 q2) λfv s3 ⟨z,H3,I3,rz,kvs,k,ea,ey,lz,q3,q4⟩=>Calls.spliced_nil ?_))))
 subst ey;exact Pc I3 ea ry rz lz (λv' w' s' l I4 r4=>⟨v',_,I4,r4,q3 v' l⟩) λl s' I4=>⟨z,_,I4,rz,q4 l⟩
end
end L2
namespace DV
open PySem PySem.Spec PyProof.Rows L2
section
variable {X:Cx} {c:Fc} {e:Expr} {fe:DE} {pos:Pos}
theorem FT.plus{ts:fz}{l:Addr}(f:FT ts c):FT ts (c.plus l):=⟨f.h,f.n⟩
def ku(i:Nat)(fk fv:DE):DS:=λδ=>if jC δ i then(fk δ).bind λk δ1=>(fv δ1).bind λr δ2=>match δ2[i]? with
  | some (some (.own (.aB ds)))=>match bP k.d with
   | some kk=>if ds.length < Wa then .ok .next (match bA ds kk with
    | some _=>δ2
    | none=>δ2.set i (some (.own (.aB (putD ds kk r.d))))) else .stuck
   | none=>.stuck
  | _=>.stuck else .stuck
theorem Pf {i:Nat} {o ke ve:Expr} {fk fv:DE} {apos aU:Pos} (ho:PE X o (cY i)) (hk:SE X c ke fk) (hv:SE X c ve fv) (m:M2 X o "setdefault" apos ke ve aU)
  (lW:QO (.Call (.Attribute o "setdefault" apos) [ke,ve] [] aU) none pos.line X.env=pure false:=by rfl):SS X c (.Expr (.Call (.Attribute o "setdefault" apos) [ke,ve] [] aU) pos) (ku i fk fv) :=
 PS.weak (tZ (Pe ho hk hv m) lW) λD σ H ⟨δ,k,q⟩=>by
  unfold ku cW at q;split at q
  case isFalse=>exact q.elim
  rename_i hown;obtain⟨ds0,e0⟩:=CZ hown;obtain⟨a,ea,oa,_⟩:=k.own i _ e0;rw[aX] at q;refine⟨.ref a,ea,a,rfl,?_,δ,k,aL q λkx δ1 q1 u H1 a1 r1=>?_⟩
  ·obtain⟨ws,ha,_⟩:=oa;exact .inl ⟨ws,.of ha⟩
  rw[aX] at q1;refine⟨δ1,a1.ok,aL q1 λr δ2 q2 v H2 a2 r2=>?_⟩;split at q2
  ·rename_i ds e2;split at q2
   ·rename_i kk hk;split at q2
    ·rename_i hz;obtain⟨a',cI,oa,_⟩:=a2.ok.own i _ e2;rw[ea] at cI; cases cI
     obtain⟨ws,ha,hk1,hk2⟩:=id oa;have dr:DR H2 (Av c σ δ2) ws ds:=DR.of hk1 hk2;have oW:=nC hk r1.b;have hlen:ws.length=ds.length:=by have:=congrArg Js hk1; simpa using this
     have rv:Rep H2 (Av c σ δ2) v r.d:=r2.rep;refine⟨ws,cz kk,ha,oW,by rw[hlen]; exact hz,λv' l=>?_,λl=>?_⟩
     ·rcases dr.val kk with ⟨n1,n2⟩ | ⟨v2,d2,m1,m2,_⟩
      ·rw[n2] at l; cases l
      ·rw[m1] at q2;exact q2 σ _ (a1.trans a2)
     ·rcases dr.val kk with ⟨n1,n2⟩ | ⟨v2,d2,m1,m2,_⟩
      ·rw[n1] at q2;exact q2 σ _ (a1.trans (a2.trans (Ok.CY a2.ok e2 ea (dr.put rv))))
      ·rw[m2] at l; cases l
    ·exact q2.elim
   ·exact q2.elim
  ·exact q2.elim
end
end DV
namespace K49
open PySem.W (nsIn keepIn codeIn findIn mroIn kitOne mg_of)
open PySem PySem.Spec PyProof.Rows L2 DV
theorem ak{a b:Prop}(h:a\/b:=by first|exact Or.inl rfl|exact Or.inr rfl):a\/b:=h
def top(i:Nat):Stmt:=PySem.Challenge.pw_tilegrow_k49_what_comes_of_a_tile.main.body.getD i (.Pass ⟨0,0,0,0⟩)
abbrev xt:Stmt:=top 20
abbrev xu:Stmt:=top 22
abbrev xw:Stmt:=top 21
abbrev xx:Stmt:=top 23
abbrev xy:Stmt:=top 26
abbrev xA:Stmt:=top 25
abbrev xB:Stmt:=top 27
abbrev xC:Stmt:=top 29
abbrev xD:Stmt:=top 30
abbrev xE:Stmt:=top 12
abbrev xF:Stmt:=top 16
abbrev xG:Stmt:=top 15
abbrev jH:Stmt:=top 17
abbrev xH:Stmt:=top 13
abbrev xI:Stmt:=top 18
abbrev xJ:Stmt:=top 24
abbrev xK:Stmt:=top 31
abbrev xM:Stmt:=top 28
abbrev xO:Stmt:=top 32
abbrev ky:Stmt:=top 33
def iu:Pos:=match (cu jH).getLast? with | some (.Return (some (.Call _ [_,.Lambda _ _ _ p] _ _)) _)=>p | _=>⟨0,0,0,0⟩
def iw:Str:=("tile_sets" : Str) ++ ".<locals>." ++ "<lambda>"
abbrev qe:Stmt:=(NB (top 7)).getD 0 (.Pass ⟨0,0,0,0⟩)
theorem Pg:bS ["self","tile"] ["self","tile"] (aC qe):=scc
abbrev ys:List Tx:=[[78,111,84,105,108,101]]
section
variable (ce:Tx->Nat)
structure Txt(K:W1)(mg:Str->Option Value):Prop where
 qf:mg "ValueError" = none
 nU:mg "all" = none
 qg:mg "bool" = none
 mz:mg "dict" = none
 qj:mg "enumerate" = none
 nV:mg "int" = none
 eR:mg "isinstance" = none
 kz:mg "len" = none
 mB:mg "list" = none
 qk:mg "max" = none
 i5:mg "range" = none
 ql:mg "set" = none
 mC:mg "sorted" = none
 qo:mg "str" = none
 lx:mg "tuple" = none
 ty_bool:gG K "bool"
 ty_int:gG K "int"
 ty_list:gG K "list"
 ty_str:gG K "str"
 ty_tuple:gG K "tuple"
 Ph:mg "FloorError" = some (.ref (ce [70,108,111,111,114,69,114,114,111,114]))
 Pj:mg "NoFloor" = some (.ref (ce [78,111,70,108,111,111,114]))
 Pk:mg "NoPlace" = some (.ref (ce [78,111,80,108,97,99,101]))
 Pl:mg "NoNumber" = some (.ref (ce [78,111,78,117,109,98,101,114]))
 Pm:mg "NoRow" = some (.ref (ce [78,111,82,111,119]))
 Pn:mg "Unlike" = some (.ref (ce [85,110,108,105,107,101]))
 Ep:mg "NoTile" = some (.ref (ce [78,111,84,105,108,101]))
 Po:mg "NoRule" = some (.ref (ce [78,111,82,117,108,101]))
 Pp:mg "NoText" = some (.ref (ce [78,111,84,101,120,116]))
 Pq:mg "TooGreat" = some (.ref (ce [84,111,111,71,114,101,97,116]))
 Pr:mm K (ce [70,108,111,111,114,69,114,114,111,114])
 Pt:IsT K ce ys (.ref (ce [78,111,70,108,111,111,114])) (λz=>z == [78,111,70,108,111,111,114])
 Pu:IsT K ce ys (.ref (ce [78,111,80,108,97,99,101])) (λz=>z == [78,111,80,108,97,99,101])
 Pw:IsT K ce ys (.ref (ce [78,111,78,117,109,98,101,114])) (λz=>z == [78,111,78,117,109,98,101,114])
 Px:IsT K ce ys (.ref (ce [78,111,82,111,119])) (λz=>z == [78,111,82,111,119])
 Py:IsT K ce ys (.ref (ce [85,110,108,105,107,101])) (λz=>z == [85,110,108,105,107,101])
 Pz:IsT K ce ys (.ref (ce [78,111,84,105,108,101])) (λz=>z == [78,111,84,105,108,101])
 PB:IsT K ce ys (.ref (ce [78,111,82,117,108,101])) (λz=>z == [78,111,82,117,108,101])
 PD:IsT K ce ys (.ref (ce [78,111,84,101,120,116])) (λz=>z == [78,111,84,101,120,116])
 PF:IsT K ce ys (.ref (ce [84,111,111,71,114,101,97,116])) (λz=>z == [84,111,111,71,114,101,97,116])
 PH:wC K ce ys "tile"
 PJ:IsT K ce ys (.type "ValueError") (λ_=>true)
 PL:∀ y ∈ ys,mg (toS y)=some (.ref (ce y))/\mroIn K (ce y) (.ref (ce [70,108,111,111,114,69,114,114,111,114]))=some true
end
def xP:DS:=(aF (c9 (aW (au rO 1 (aw (bh di (ao 0))))) (bW (au aE 0 (ao 1))) dj) (bW (eD (.int 0))))
def mD:DF:=cJ [] 2 xP
theorem PM:dC mD:=fu
theorem PN:bS ["script","k"] ["script","k"] (aC xt):=scc
theorem PQ {K:W1} (F:bH K "_law_cell_at" "_law_cell_at" xt f fd) (hm:mg "_law_cell_at" = some (.ref f)) (hb:Binds K fd ["script","k"] []) (T:Txt ce K mg):cN P w K mg base 1 "_law_cell_at" 2 mD :=
 ic (np:=[]) (fb:=xP) F hm hb PN (λc aj A outer s H E hr aA=>by
  have hq:=en hr;refine(a_ ?_ ?_)
  ·refine(fW ?_ ?_ ?_)
   ·exact(oY Kt Ku (pv 1) (aN (pe rfl T.kz (bB (pv 0)) (by rfl))) (gf _))
   ·refine(bz ?_);refine(cM ?_);exact(cA cF cH (pv 0) (bB (pv 1)) (λ_ _=>rfl))
   ·exact fV
  refine(bz ?_);refine(cM ?_);exact aR) λss y h=>eY h
def xQ:DS:=(aF (aI (rT (ae 0) (bf u7 (eD (.int 0)) (ao 0))) (ah [] 1)) (bW (fj (aO (ae 1) (aO (bh ni (aw (au BP 1 (aw (bf u_ (eD (.int 10)) (aw (eD (.int 18)))))))) (aO (au dZ 1 (aw (eD (.int 1000003)))) ck))))))
def mE:DF:=cJ [] 2 xQ
theorem PR:dC mE:=fu
theorem Er:bS ["cell","left"] ["cell"] (aC xu):=scc
theorem PU {K:W1} (F:bH K "_law_pen_of" "_law_pen_of" xu f fd) (hm:mg "_law_pen_of" = some (.ref f)) (hb:Binds K fd ["cell"] []) (T:Txt ce K mg):cN P w K mg base 1 "_law_pen_of" 1 mE :=
 ic (np:=[]) (fb:=xQ) F hm hb Er (λc aj A outer s H E hr aA=>by
  have hq:=en hr;refine(a_ ?_ ?_)
  ·exact(@b9 _ _ _ _ _ _ ([]) (1) _ aA Er.nd rfl ak (KH rfl rfl T.qk (aZ (pv 0)) (dh GF Kp aR (bB (pv 0))) (by rfl) (by rfl) (by rfl)) rfl ak)
  refine(bz ?_);refine(cM ?_);exact(iO (bM (aZ (pv 1)) (bM (KD rfl T.nV (aN (Kg Kw vb (pv 1) (aN (dh GI Ks aR (aN aR))) (gf _))) (by rfl)) (bM (iM kI kT (pv 1) (aN aR)) dJ (by rfl)) (by rfl)) (by rfl)) (by decide))) λss y h=>eY h
def xR:DS:=(aF (aI (bf dZ (au bw 0 (aw (eD (.int 7919)))) (aw (eD (.int 2147483647)))) (ah [] 0)) (bW (bf dZ (bf bw (bf bw (au fY 0 (ao 0)) (aw (bf fY (eD (.int 48271)) (ao 0)))) (aw (eD (.int 12345)))) (aw (eD (.int 2147483629))))))
def mF:DF:=cJ [] 1 xR
theorem Es:dC mF:=fu
theorem Et:bS ["seed"] ["seed"] (aC xw):=scc
theorem PX {K:W1} (F:bH K "_law_next" "_law_next" xw f fd) (hm:mg "_law_next" = some (.ref f)) (hb:Binds K fd ["seed"] []) (T:Txt ce K mg):cN P w K mg base 1 "_law_next" 1 mF :=
 ic (np:=[]) (fb:=xR) F hm hb Et (λc aj A outer s H E hr aA=>by
  have hq:=en hr;refine(a_ ?_ ?_)
  ·exact(@b9 _ _ _ _ _ _ ([]) (0) _ aA Et.nd rfl ak (dh kI kT (iM eL eM (pv 0) (aN aR)) (aN aR)) rfl ak)
  refine(bz ?_);refine(cM ?_);exact(dh kI kT (dh eL eM (dh eL eM (iM su sv (pv 0) (bB (pv 0))) (aN (dh su sv aR (bB (pv 0))))) (aN aR)) (aN aR))) λss y h=>eY h
def xS:DS:=(aF (c9 (aW (bf cj (au aE 0 (aw (eD (.int 1)))) (aw (eD (.int 1))))) (aF (aI (bf dZ (au aE 0 (aw (eD (.int 0)))) (ao 1)) (ah [0] 2)) (aF (nj 0 (eD (.int 0)) (bf v8 (au aE 0 (aw (eD (.int 0)))) (ao 1))) (bW (ae 2)))) dj) (aF (nj 0 (eD (.int 2)) (aG mF [.val (bf bw (aG mF [.val (au aE 0 (aw (eD (.int 2))))]) (aw (eD (.int 7))))])) (bW (bf dZ (bf rN (au aE 0 (aw (eD (.int 2)))) (aw (eD (.int 64)))) (ao 1)))))
def dD:DF:=cJ [0] 3 xS
theorem iy:dC dD:=fu
theorem Eu:bS ["pen","many","found"] ["pen","many"] (aC xx):=scc
theorem PY {K:W1} (F:bH K "_law_draw" "_law_draw" xx f fd) (hm:mg "_law_draw" = some (.ref f)) (hb:Binds K fd ["pen","many"] []) (T:Txt ce K mg) (tE:cN P w K mg base 1 "_law_next" 1 mF):cN P w K mg base 2 "_law_draw" 2 dD :=
 ic (np:=[0]) (fb:=xS) F hm hb Eu (λc aj A outer s H E hr aA=>by
  have hq:=en hr;refine(a_ ?_ ?_)
  ·refine(fW ?_ ?_ ?_)
   ·exact(j3 (jZ hq) j5 (cA cF cH (pv 0) (aN aR) (λ_ _=>rfl)) (aN aR) (gf _))
   ·refine(a_ ?_ ?_)
    ·exact(@b9 _ _ _ _ _ _ ([0]) (2) _ aA Eu.nd rfl ak (dh kI kT (cA cF cH (pv 0) (aN aR) (λ_ _=>rfl)) (bB (pv 1))) rfl ak)
    refine(a_ ?_ ?_)
    ·exact(B4 (pv 0) aR (dh Mj Ml (cA cF cH (pv 0) (aN aR) (λ_ _=>rfl)) (bB (pv 1))) (by intro _; rfl) (by rfl) (by rfl) (by rfl))
    refine(bz ?_);refine(cM ?_);exact(aZ (pv 2))
   ·exact fV
  refine(a_ ?_ ?_)
  ·exact(B4 (pv 0) aR (@da _ _ _ _ _ (1) _ _ _ _ _ tE Es (hr.mono (by decide)) rfl (bG (dh eL eM (@da _ _ _ _ _ (1) _ _ _ _ _ tE Es (hr.mono (by decide)) rfl (bG (cA cF cH (pv 0) (aN aR) (λ_ _=>rfl)) cy (by rfl)) rfl (by decide) (by rfl) (by rfl)) (aN aR)) cy (by rfl)) rfl (by decide) (by rfl) (by rfl)) (by intro _; rfl) (by rfl) (by rfl) (by rfl))
  refine(bz ?_);refine(cM ?_);exact(dh kI kT (dh GH Kr (cA cF cH (pv 0) (aN aR) (λ_ _=>rfl)) (aN aR)) (bB (pv 1)))) λss y h=>eY h
def xT:DS:=(aF (aI (bf bw (eD (.int 1)) (aw (aG dD [.io 0,.val (eD (.int 3))]))) (ah [0] 1)) (aF (aI (bf bw (eD (.int 1)) (aw (aG dD [.io 0,.val (eD (.int 3))]))) (ah [0] 2)) (aF (c9 (aW (bf cj (aG dD [.io 0,.val (eD (.int 8))]) (aw (eD (.int 0))))) (aI (bf aE (k8 [.tup [.int 4,.int 1],.tup [.int 1,.int 4],.tup [.int 4,.int 4],.tup [.int 4,.int 3],.tup [.int 1,.int 2],.tup [.int 2,.int 1]]) (aw (aG dD [.io 0,.val (eD (.int 6))]))) (dM 2 (cx (ah [0] 1) (cx (ah [0] 2) eh)))) dj) (aF (c9 (aW (bf cj (au bw 1 (ao 2)) (aw (eD (.int 2))))) (aI (eD (.int 2)) (ah [0] 2)) dj) (bW (d_ (aO (ae 1) (aO (ae 2) ck))))))))
def nW:DF:=cJ [0] 3 xT
theorem PZ:dC nW:=fu
theorem nX:bS ["pen","high","wide"] ["pen"] (aC xy):=scc
theorem P0 {K:W1} (F:bH K "_law_sizes_by" "_law_sizes_by" xy f fd) (hm:mg "_law_sizes_by" = some (.ref f)) (hb:Binds K fd ["pen"] []) (T:Txt ce K mg) (eF:cN P w K mg base 2 "_law_draw" 2 dD):cN P w K mg base 3 "_law_sizes_by" 1 nW :=
 ic (np:=[0]) (fb:=xT) F hm hb nX (λc aj A outer s H E hr aA=>by
  have hq:=en hr;refine(@a_ _ _ _ _ _ _ ?_ ?_)
  ·exact(@b9 _ _ _ _ _ _ ([0]) (1) _ aA nX.nd rfl ak (@dh _ _ _ _ _ _ _ _ _ _ eL eM (@aR _ _ _ _ _) (@aN _ _ _ _ (@da _ _ _ _ _ (2) _ _ _ _ _ eF iy (hr.mono (by decide)) rfl (@fX _ _ _ _ _ _ (pv 0) (@bG _ _ _ _ _ _ (@aR _ _ _ _ _) (@cy _ _) (by rfl)) (by rfl)) rfl (by decide) (by rfl) (by rfl)))) rfl ak)
  refine(@a_ _ _ _ _ _ _ ?_ ?_)
  ·exact(@b9 _ _ _ _ _ _ ([0]) (2) _ aA nX.nd rfl ak (@dh _ _ _ _ _ _ _ _ _ _ eL eM (@aR _ _ _ _ _) (@aN _ _ _ _ (@da _ _ _ _ _ (2) _ _ _ _ _ eF iy (hr.mono (by decide)) rfl (@fX _ _ _ _ _ _ (pv 0) (@bG _ _ _ _ _ _ (@aR _ _ _ _ _) (@cy _ _) (by rfl)) (by rfl)) rfl (by decide) (by rfl) (by rfl)))) rfl ak)
  refine(@a_ _ _ _ _ _ _ ?_ ?_)
  ·refine(@fW _ _ _ _ _ _ _ _ _ ?_ ?_ ?_)
   ·exact(@j3 _ _ _ _ _ _ _ _ _ _ (jZ hq) j5 (@da _ _ _ _ _ (2) _ _ _ _ _ eF iy (hr.mono (by decide)) rfl (@fX _ _ _ _ _ _ (pv 0) (@bG _ _ _ _ _ _ (@aR _ _ _ _ _) (@cy _ _) (by rfl)) (by rfl)) rfl (by decide) (by rfl) (by rfl)) (@aN _ _ _ _ (@aR _ _ _ _ _)) (gf _))
   ·refine(@bz _ _ _ _ ?_);refine(@vo _ _ _ _ _ _ _ ?_ ?_ (by rfl) (by rfl) (by rfl))
    ·exact(@Kh _ _ _ _ _ _ _ _ _ cF cH (@vI _ _ _ _ _ (by rfl) (by decide)) (@aN _ _ _ _ (@da _ _ _ _ _ (2) _ _ _ _ _ eF iy (hr.mono (by decide)) rfl (@fX _ _ _ _ _ _ (pv 0) (@bG _ _ _ _ _ _ (@aR _ _ _ _ _) (@cy _ _) (by rfl)) (by rfl)) rfl (by decide) (by rfl) (by rfl))) (λ_ _=>rfl))
    ·exact(@rW _ _ _ _ _ _ _ rfl (@kX _ _ _ _ _ _ (@eW _ _ _ ([0]) (1) _ aA nX.nd rfl ak ak) (@kX _ _ _ _ _ _ (@eW _ _ _ ([0]) (2) _ aA nX.nd rfl ak ak) (@rV _ _) (by rfl)) (by rfl)) (by rfl) (by rfl))
   ·exact fV
  refine(@a_ _ _ _ _ _ _ ?_ ?_)
  ·refine(@fW _ _ _ _ _ _ _ _ _ ?_ ?_ ?_)
   ·exact(@j3 _ _ _ _ _ _ _ _ _ _ (jZ hq) j5 (@iM _ _ _ _ _ _ _ _ _ _ eL eM (pv 1) (@bB _ _ _ _ (pv 2))) (@aN _ _ _ _ (@aR _ _ _ _ _)) (gf _))
   ·refine(@bz _ _ _ _ ?_);exact(@b9 _ _ _ _ _ _ ([0]) (2) _ aA nX.nd rfl ak (@aR _ _ _ _ _) rfl ak)
   ·exact fV
  refine(@bz _ _ _ _ ?_);refine(@cM _ _ _ _ _ ?_);exact(@iN _ _ _ _ _ _ (@bM _ _ _ _ _ _ (@aZ _ _ _ _ (pv 1)) (@bM _ _ _ _ _ _ (@aZ _ _ _ _ (pv 2)) (@dJ _ _) (by rfl)) (by rfl)) (by decide))) λss y h=>eY h
def xU:DS:=(aF (c9 (aW (au cj 3 (aw (eD (.int 1))))) (bW (au aE 1 (aw (aG dD [.io 0,.val (au bw 2 (aw (eD (.int 1))))])))) dj) (aF (c9 (aW (au cj 3 (aw (eD (.int 2))))) (bW (au aE 1 (aw (bf dZ (au bw 2 (aw (eD (.int 1)))) (aw (bh di (ao 1))))))) dj) (aF (c9 (rK (aW (au cj 3 (aw (eD (.int 3))))) (aW (bf rP (aG dD [.io 0,.val (eD (.int 4))]) (aw (eD (.int 0)))))) (bW (au aE 1 (ao 2))) dj) (bW (au aE 1 (aw (aG dD [.io 0,.val (bh di (ao 1))])))))))
def iA:DF:=cJ [0] 4 xU
theorem P1:dC iA:=fu
theorem P2:bS ["pen","tiles","place","way"] ["pen","tiles","place","way"] (aC xA):=scc
theorem P4 {K:W1} (F:bH K "_law_pick" "_law_pick" xA f fd) (hm:mg "_law_pick" = some (.ref f)) (hb:Binds K fd ["pen","tiles","place","way"] []) (T:Txt ce K mg) (eF:cN P w K mg base 2 "_law_draw" 2 dD):cN P w K mg base 3 "_law_pick" 4 iA :=
 ic (np:=[0]) (fb:=xU) F hm hb P2 (λc aj A outer s H E hr aA=>by
  have hq:=en hr;refine(a_ ?_ ?_)
  ·refine(fW ?_ ?_ ?_)
   ·exact(oY (jZ hq) j5 (pv 3) (aN aR) (gf _))
   ·refine(bz ?_);refine(cM ?_);exact(cA cF cH (pv 1) (aN (@da _ _ _ _ _ (2) _ _ _ _ _ eF iy (hr.mono (by decide)) rfl (fX (pv 0) (bG (iM eL eM (pv 2) (aN aR)) cy (by rfl)) (by rfl)) rfl (by decide) (by rfl) (by rfl))) (λ_ _=>rfl))
   ·exact fV
  refine(a_ ?_ ?_)
  ·refine(fW ?_ ?_ ?_)
   ·exact(oY (jZ hq) j5 (pv 3) (aN aR) (gf _))
   ·refine(bz ?_);refine(cM ?_);exact(cA cF cH (pv 1) (aN (dh kI kT (iM eL eM (pv 2) (aN aR)) (aN (pe rfl T.kz (bB (pv 1)) (by rfl))))) (λ_ _=>rfl))
   ·exact fV
  refine(a_ ?_ ?_)
  ·refine(fW ?_ ?_ ?_)
   ·exact(rL (Kj (oY (jZ hq) j5 (pv 3) (aN aR) (gf _)) (Ki (j3 Kv vb (@da _ _ _ _ _ (2) _ _ _ _ _ eF iy (hr.mono (by decide)) rfl (fX (pv 0) (bG aR cy (by rfl)) (by rfl)) rfl (by decide) (by rfl) (by rfl)) (aN aR) (gf _)))))
   ·refine(bz ?_);refine(cM ?_);exact(cA cF cH (pv 1) (bB (pv 2)) (λ_ _=>rfl))
   ·exact fV
  refine(bz ?_);refine(cM ?_);exact(cA cF cH (pv 1) (aN (@da _ _ _ _ _ (2) _ _ _ _ _ eF iy (hr.mono (by decide)) rfl (fX (pv 0) (bG (pe rfl T.kz (bB (pv 1)) (by rfl)) cy (by rfl)) (by rfl)) rfl (by decide) (by rfl) (by rfl))) (λ_ _=>rfl))) λss y h=>eY h
def xV:DS:=(aF (aI (aG nW [.io 0]) (dM 2 (cx (ah [0] 2) (cx (ah [0] 3) eh)))) (aF (aI (bf bw (eD (.int 1)) (aw (aG dD [.io 0,.val (ae 1)]))) (ah [0] 4)) (aF (aI (aG dD [.io 0,.val (eD (.int 26))]) (ah [0] 5)) (aF (aI (eD (.str [97,98,99,100,101,102,103,104,105,106,107,108,109,110,111,112,113,114,115,116,117,118,119,120,121,122])) (ah [0] 6)) (aF (aI (bh l5 (aw (c7 [13] (eX (ae 4)) (ah [0] 13) bX (au aE 6 (aw (bf dZ (au bw 5 (aw (bf fY (eD (.int 5)) (ao 13)))) (aw (eD (.int 26))))))))) (ah [0] 7)) (aF (aI (aG dD [.io 0,.val (eD (.int 5))]) (ah [0] 8)) (aF (aI (fj ck) (ah [0] 9)) (aF (dN (eX (ae 4)) (ah [0] 10) (aF (aI (fj ck) (ah [0] 11)) (aF (dN (eX (ae 2)) (ah [0] 12) (fo 11 (bh (dB []) (aw (c7 [14] (eX (ae 3)) (ah [0] 14) bX (aG iA [.io 0,.val (ae 7),.val (ae 10),.val (ae 8)])))))) (fo 9 (d_ (aO (au aE 7 (ao 10)) (aO (bh fS (ao 11)) ck))))))) (bW (d_ (aO (ae 2) (aO (ae 3) (aO (bh fS (ao 9)) ck)))))))))))))
def ly:DF:=cJ [0] 15 xV
theorem P5:dC ly:=fu
theorem gy:bS ["pen","most","high","wide","size","first","letters","tiles","way","blocks","place","block","row","k","column"] ["pen","most"] (aC xB):=scc
theorem P6 {K:W1} (F:bH K "_law_rule_by" "_law_rule_by" xB f fd) (hm:mg "_law_rule_by" = some (.ref f)) (hb:Binds K fd ["pen","most"] []) (T:Txt ce K mg) (eF:cN P w K mg base 2 "_law_draw" 2 dD) (xW:cN P w K mg base 3 "_law_sizes_by" 1 nW) (xX:cN P w K mg base 3 "_law_pick" 4 iA):cN P w K mg base 4 "_law_rule_by" 2 ly :=
 ic (np:=[0]) (fb:=xV) F hm hb gy (λc aj A outer s H E hr aA=>by
  have hq:=en hr;refine(@a_ _ _ _ _ _ _ ?_ ?_)
  ·refine(@vo _ _ _ _ _ _ _ ?_ ?_ (by rfl) (by rfl) (by rfl))
   ·exact(@da _ _ _ _ _ (3) _ _ _ _ _ xW PZ (hr.mono (by decide)) rfl (@fX _ _ _ _ _ _ (pv 0) (@cy _ _) (by rfl)) rfl (by decide) (by rfl) (by rfl))
   ·exact(@rW _ _ _ _ _ _ _ rfl (@kX _ _ _ _ _ _ (@eW _ _ _ ([0]) (2) _ aA gy.nd rfl ak ak) (@kX _ _ _ _ _ _ (@eW _ _ _ ([0]) (3) _ aA gy.nd rfl ak ak) (@rV _ _) (by rfl)) (by rfl)) (by rfl) (by rfl))
  refine(@a_ _ _ _ _ _ _ ?_ ?_)
  ·exact(@b9 _ _ _ _ _ _ ([0]) (4) _ aA gy.nd rfl ak (@dh _ _ _ _ _ _ _ _ _ _ eL eM (@aR _ _ _ _ _) (@aN _ _ _ _ (@da _ _ _ _ _ (2) _ _ _ _ _ eF iy (hr.mono (by decide)) rfl (@fX _ _ _ _ _ _ (pv 0) (@bG _ _ _ _ _ _ (@aZ _ _ _ _ (pv 1)) (@cy _ _) (by rfl)) (by rfl)) rfl (by decide) (by rfl) (by rfl)))) rfl ak)
  refine(@a_ _ _ _ _ _ _ ?_ ?_)
  ·exact(@b9 _ _ _ _ _ _ ([0]) (5) _ aA gy.nd rfl ak (@da _ _ _ _ _ (2) _ _ _ _ _ eF iy (hr.mono (by decide)) rfl (@fX _ _ _ _ _ _ (pv 0) (@bG _ _ _ _ _ _ (@aR _ _ _ _ _) (@cy _ _) (by rfl)) (by rfl)) rfl (by decide) (by rfl) (by rfl)) rfl ak)
  refine(@a_ _ _ _ _ _ _ ?_ ?_)
  ·exact(@b9 _ _ _ _ _ _ ([0]) (6) _ aA gy.nd rfl ak (@kR _ _ _ _ _ [97,98,99,100,101,102,103,104,105,106,107,108,109,110,111,112,113,114,115,116,117,118,119,120,121,122] (by decide +kernel)) rfl ak)
  refine(@a_ _ _ _ _ _ _ ?_ ?_)
  ·exact(@b9 _ _ _ _ _ _ ([0]) (7) _ aA gy.nd rfl ak (@BW _ _ _ _ _ _ rfl T.mC (@aN _ _ _ _ (@kZ _ _ ([13]) _ _ _ _ _ _ _ _ _ _ rfl (@jz _ _ _ rfl rfl) (@nq _ _ _ _ _ _ _ rfl T.i5 (@aZ _ _ _ _ (pv 4)) (by rfl)) (λl s0 H0 ex=>(@h_ _ _ _ _ ([0]) (13) _ aA gy.nd rfl ak ak (by decide))) (λl s0 H0 ex=>(@jx _ _)) (λl s0 H0 ex=>(@cA _ _ _ _ _ _ _ _ _ cF cH (pv 6) (@aN _ _ _ _ (@dh _ _ _ _ _ _ _ _ _ _ kI kT (@iM _ _ _ _ _ _ _ _ _ _ eL eM (pv 5) (@aN _ _ _ _ (@dh _ _ _ _ _ _ _ _ _ _ su sv (@aR _ _ _ _ _) (@bB _ _ _ _ (pv 13))))) (@aN _ _ _ _ (@aR _ _ _ _ _)))) (λ_ _=>rfl))) (jy aA rfl) (by intro _; rfl))) (by rfl)) rfl ak)
  refine(@a_ _ _ _ _ _ _ ?_ ?_)
  ·exact(@b9 _ _ _ _ _ _ ([0]) (8) _ aA gy.nd rfl ak (@da _ _ _ _ _ (2) _ _ _ _ _ eF iy (hr.mono (by decide)) rfl (@fX _ _ _ _ _ _ (pv 0) (@bG _ _ _ _ _ _ (@aR _ _ _ _ _) (@cy _ _) (by rfl)) (by rfl)) rfl (by decide) (by rfl) (by rfl)) rfl ak)
  refine(@a_ _ _ _ _ _ _ ?_ ?_)
  ·exact(@b9 _ _ _ _ _ _ ([0]) (9) _ aA gy.nd rfl ak (@iO _ _ _ _ _ (@dJ _ _) (by decide)) rfl ak)
  refine(@a_ _ _ _ _ _ _ ?_ ?_)
  ·refine(@iS _ _ _ _ _ _ _ _ _ PassesOwn.never rfl ?_ ?_ ?_ (by intro _; rfl))
   ·exact(@nq _ _ _ _ _ _ _ rfl T.i5 (@aZ _ _ _ _ (pv 4)) (by rfl))
   ·exact(@eW _ _ _ ([0]) (10) _ aA gy.nd rfl ak ak)
   ·refine(@a_ _ _ _ _ _ _ ?_ ?_)
    ·exact(@b9 _ _ _ _ _ _ ([0]) (11) _ aA gy.nd rfl ak (@iO _ _ _ _ _ (@dJ _ _) (by decide)) rfl ak)
    refine(@a_ _ _ _ _ _ _ ?_ ?_)
    ·refine(@iS _ _ _ _ _ _ _ _ _ PassesOwn.never rfl ?_ ?_ ?_ (by intro _; rfl))
     ·exact(@nq _ _ _ _ _ _ _ rfl T.i5 (@aZ _ _ _ _ (pv 2)) (by rfl))
     ·exact(@eW _ _ _ ([0]) (12) _ aA gy.nd rfl ak ak)
     ·refine(@bz _ _ _ _ ?_);exact(@sr _ _ _ _ _ _ _ _ _ (pv 11) (@px _ _ _ _ _ _ _ _ _ [] (@aN _ _ _ _ (@kZ _ _ ([14]) _ _ _ _ _ _ _ _ _ _ rfl (@jz _ _ _ rfl rfl) (@nq _ _ _ _ _ _ _ rfl T.i5 (@aZ _ _ _ _ (pv 3)) (by rfl)) (λl s0 H0 ex=>(@h_ _ _ _ _ ([0]) (14) _ aA gy.nd rfl ak ak (by decide))) (λl s0 H0 ex=>(@jx _ _)) (λl s0 H0 ex=>(@da _ _ _ _ _ (3) _ _ _ _ _ xX P1 (hr.mono (by decide)) rfl (@fX _ _ _ _ _ _ (pv 0) (@bG _ _ _ _ _ _ (@aZ _ _ _ _ (pv 7)) (@bG _ _ _ _ _ _ (@aZ _ _ _ _ (pv 10)) (@bG _ _ _ _ _ _ (@aZ _ _ _ _ (pv 8)) (@cy _ _) (by rfl)) (by rfl)) (by rfl)) (by rfl)) rfl (by decide) (by rfl) (by rfl))) (jy aA rfl) (by intro _; rfl))) (by decide +kernel) (by rfl) (by rfl) (by rfl) (by rfl)) (by rfl) (by rfl) (by rfl) (by rfl) (by rfl))
    refine(@bz _ _ _ _ ?_);exact(@sr _ _ _ _ _ _ _ _ _ (pv 9) (@iN _ _ _ _ _ _ (@bM _ _ _ _ _ _ (@cA _ _ _ _ _ _ _ _ _ cF cH (pv 7) (@bB _ _ _ _ (pv 10)) (λ_ _=>rfl)) (@bM _ _ _ _ _ _ (@vd _ _ _ _ _ _ rfl T.lx (@bB _ _ _ _ (pv 11)) (by rfl)) (@dJ _ _) (by rfl)) (by rfl)) (by decide)) (by rfl) (by rfl) (by rfl) (by rfl) (by rfl))
  refine(@bz _ _ _ _ ?_);refine(@cM _ _ _ _ _ ?_);exact(@iN _ _ _ _ _ _ (@bM _ _ _ _ _ _ (@aZ _ _ _ _ (pv 2)) (@bM _ _ _ _ _ _ (@aZ _ _ _ _ (pv 3)) (@bM _ _ _ _ _ _ (@vd _ _ _ _ _ _ rfl T.lx (@bB _ _ _ _ (pv 9)) (by rfl)) (@dJ _ _) (by rfl)) (by rfl)) (by rfl)) (by decide))) λss y h=>eY h
def xY:DS:=(aF (aI (bh iV (aw (au aE 0 (aw (eD (.int 2)))))) (ah [] 2)) (aF (aI ma (ah [] 3)) (aF (dN (cm (ae 1)) (ah [] 4) (dN (cm (bh (dB []) (aw (au iW 2 (ao 4))))) (ah [] 5) (gv 3 (ae 5) (eD (.bl true))))) (bW (bh l5 (aw (bh nQ (ao 3))))))))
def kA:DF:=cJ [] 6 xY
theorem P7:dC kA:=fu
theorem qp:bS ["rule","some","blocks","found","tile","sign"] ["rule","some"] (aC xC):=scc
theorem P8 {K:W1} (F:bH K "_law_next_tiles" "_law_next_tiles" xC f fd) (hm:mg "_law_next_tiles" = some (.ref f)) (hb:Binds K fd ["rule","some"] []) (T:Txt ce K mg):cN P w K mg base 1 "_law_next_tiles" 2 kA :=
 ic (np:=[]) (fb:=xY) F hm hb qp (λc aj A outer s H E hr aA=>by
  have hq:=en hr;refine(a_ ?_ ?_)
  ·exact(@b9 _ _ _ _ _ _ ([]) (2) _ aA qp.nd rfl ak (vQ rfl rfl T.mz (aN (cA cF cH (pv 0) (aN aR) (λ_ _=>rfl))) (by rfl)) rfl ak)
  refine(a_ ?_ ?_)
  ·exact(@b9 _ _ _ _ _ _ ([]) (3) _ aA qp.nd rfl ak vL rfl ak)
  refine(a_ ?_ ?_)
  ·refine(iS PassesOwn.never rfl ?_ ?_ ?_ (by intro _; rfl))
   ·exact(ie (aZ (pv 1)))
   ·exact(@eW _ _ _ ([]) (4) _ aA qp.nd rfl ak ak)
   ·refine(bz ?_);refine(iS PassesOwn.never rfl ?_ ?_ ?_ (by intro _; rfl))
    ·exact(ie (px [] (aN (cA (v5 hq) vV (pv 2) (bB (pv 4)) (λ_ _=>rfl))) (by decide +kernel) (by rfl) (by rfl) (by rfl) (by rfl)))
    ·exact(@eW _ _ _ ([]) (5) _ aA qp.nd rfl ak ak)
    ·refine(bz ?_);exact(v7 hq (pv 3) (aZ (pv 5)) jY (by rfl))
  refine(bz ?_);refine(cM ?_);exact(BW rfl T.mC (aN (Ed rfl rfl T.mB (bB (pv 3)))) (by rfl))) λss y h=>eY h
def xZ:DS:=(aF (aI (fj (aO (ae 1) ck)) (ah [] 2)) (aF (aI (mq (ae 1) (eD (.int 0))) (ah [] 3)) (aF (dN (pR (eD (.int 1)) (bf bw (bh di (aw (au aE 0 (aw (eD (.int 2)))))) (aw (eD (.int 1))))) (ah [] 4) (aF (aI (aG kA [.val (ae 0),.val (ae 2)]) (ah [] 2)) (dN (cm (ae 2)) (ah [] 5) (c9 (aW (bf (fK true) (ae 5) (ao 3))) (gv 3 (ae 5) (ae 4)) dj)))) (sC [] 3))))
def nY:DF:=cJ [] 6 xZ
theorem P9:dC nY:=fu
theorem nZ:bS ["rule","tile","now","found","often","other"] ["rule","tile"] (aC xD):=scc
theorem P_ {K:W1} (F:bH K "_law_first_after" "_law_first_after" xD f fd) (hm:mg "_law_first_after" = some (.ref f)) (hb:Binds K fd ["rule","tile"] []) (T:Txt ce K mg) (x3:cN P w K mg base 1 "_law_next_tiles" 2 kA):cN P w K mg base 2 "_law_first_after" 2 nY :=
 ic (np:=[]) (fb:=xZ) F hm hb nZ (λc aj A outer s H E hr aA=>by
  have hq:=en hr;refine(a_ ?_ ?_)
  ·exact(@b9 _ _ _ _ _ _ ([]) (2) _ aA nZ.nd rfl ak (iO (bM (aZ (pv 1)) dJ (by rfl)) (by decide)) rfl ak)
  refine(a_ ?_ ?_)
  ·exact(@b9 _ _ _ _ _ _ ([]) (3) _ aA nZ.nd rfl ak (Dw (λc=>(aZ (pv 1))) (λc=>aR)) rfl ak)
  refine(a_ ?_ ?_)
  ·refine(iS PassesOwn.never rfl ?_ ?_ ?_ (by intro _; rfl))
   ·exact(Mr rfl T.i5 aR (dh eL eM (pe rfl T.kz (aN (cA cF cH (pv 0) (aN aR) (λ_ _=>rfl))) (by rfl)) (aN aR)) (by rfl) (by rfl) (by rfl))
   ·exact(@eW _ _ _ ([]) (4) _ aA nZ.nd rfl ak ak)
   ·refine(a_ ?_ ?_)
    ·exact(@b9 _ _ _ _ _ _ ([]) (2) _ aA nZ.nd rfl ak (@da _ _ _ _ _ (1) _ _ _ _ _ x3 P7 (hr.mono (by decide)) rfl (bG (aZ (pv 0)) (bG (aZ (pv 2)) cy (by rfl)) (by rfl)) rfl (by decide) (by rfl) (by rfl)) rfl ak)
    refine(bz ?_);refine(iS PassesOwn.never rfl ?_ ?_ ?_ (by intro _; rfl))
    ·exact(ie (aZ (pv 2)))
    ·exact(@eW _ _ _ ([]) (5) _ aA nZ.nd rfl ak ak)
    ·refine(bz ?_);refine(fW ?_ ?_ ?_)
     ·exact(j3 (vS hq) (vT true) (aZ (pv 5)) (bB (pv 3)) rfl)
     ·refine(bz ?_);exact(v7 hq (pv 3) (aZ (pv 5)) (aZ (pv 4)) (by rfl))
     ·exact fV
  refine(bz ?_);exact(Md aA (pv 3))) λss y h=>eY h
def tF:DS:=(c9 (lZ (gq (aW (fU "str" (ao 1)))) (aW (bf (fK true) (ae 1) (aw (bh iV (aw (au aE 0 (aw (eD (.int 2)))))))))) (nL [78,111,84,105,108,101] [[116,105,108,101]] (aO (ae 1) ck)) dj)
def lA:DX:=kh [] 2 tF
theorem Q_:lh lA:=C_
theorem Ra:bS ["rule","thing"] ["rule","thing"] (aC xE):=scc
theorem Rb {K:W1} (F:bH K "refuse_no_tile" "refuse_no_tile" xE f fd) (hm:mg "refuse_no_tile" = some (.ref f)) (hb:Binds K fd ["rule","thing"] []) (T:Txt ce K mg) (x4:wB P w K mg base (ce [78,111,84,105,108,101]) ["tile"]):sF P w K mg base 3 "refuse_no_tile" 2 lA :=
 MF (np:=[]) (fb:=tF) F hm hb Ra (λc aj A outer s H E hr aA qq=>by
  have hq:=en hr;refine(bz ?_);refine(fW ?_ ?_ ?_)
  ·exact(rL (u4 (ng (nc (ph T.ty_str rfl T.eR rfl T.qo boot_str (bB (pv 1)) (by decide) (by decide) (by rfl) (by rfl)) (by intro _; rfl))) (u0 (j3 (vS hq) (vT true) (aZ (pv 1)) (aN (vQ rfl rfl T.mz (aN (cA cF cH (pv 0) (aN aR) (λ_ _=>rfl))) (by rfl))) rfl))))
  ·refine(bz ?_);exact(NA [78,111,84,105,108,101] [[116,105,108,101]] x4 (hr.mono (by decide)) rfl rfl T.Ep (bM (aZ (pv 1)) dJ (by rfl)) qq (by decide) (by decide +kernel) (by decide) (by decide +kernel) (by decide) (by rfl) (by rfl) (by rfl))
  ·exact fV) λss y h=>wg h
def x5:DS:=(bW (bh (dB []) (aw (bh nO (aw (bh (dB []) (aw (c7 [2] (cm (ae 1)) (ah [] 2) bX (au iW 0 (ao 2))))))))))
def i7:DF:=cJ [] 3 x5
theorem Ew:dC i7:=fu
theorem Ex:bS ["text_of","tiles","tile"] ["text_of","tiles"] (aC xF):=scc
theorem Rc {K:W1} (F:bH K "tiles_grown" "tiles_grown" xF f fd) (hm:mg "tiles_grown" = some (.ref f)) (hb:Binds K fd ["text_of","tiles"] []) (T:Txt ce K mg):cN P w K mg base 1 "tiles_grown" 2 i7 :=
 ic (np:=[]) (fb:=x5) F hm hb Ex (λc aj A outer s H E hr aA=>by
  have hq:=en hr;refine(bz ?_);refine(cM ?_);exact(px [] (aN (OC rfl rfl T.mC rfl T.ql (aN (px [] (aN (@kZ _ _ ([2]) _ _ _ _ _ _ _ _ _ _ rfl (jz rfl rfl) (ie (aZ (pv 1))) (λl s0 H0 ex=>(@h_ _ _ _ _ ([]) (2) _ aA Ex.nd rfl ak ak (by decide))) (λl s0 H0 ex=>jx) (λl s0 H0 ex=>(cA (v5 hq) vV (pv 0) (bB (pv 2)) (λ_ _=>rfl))) (jy aA rfl) (by intro _; rfl))) (by decide +kernel) (by rfl) (by rfl) (by rfl) (by rfl))))) (by decide +kernel) (by rfl) (by rfl) (by rfl) (by rfl))) λss y h=>eY h
theorem tG:bS ["first","step","number_of","here"] ["first","step"] (aC xG):=scc
theorem Rf {K:W1} (F:bH K "walked" "walked" xG f fd) (hm:mg "walked" = some (.ref f)) (hb:Binds K fd ["first","step"] []) (T:Txt ce K mg):xm P w K mg base 2 "walked" 4 tw :=
 ⟨f,fd,_,_,_,["first","step","number_of","here"],rfl,hm,F.kp,hb,rfl,OP F tG rfl (λc aj A outer s H E fa Fn hr aA xk=>by
  have hq:=en hr;refine(a_ ?_ ?_)
  ·exact(@b9 _ _ _ _ _ _ ([]) (2) _ aA tG.nd rfl ak vL rfl ak)
  refine(a_ ?_ ?_)
  ·exact(@b9 _ _ _ _ _ _ ([]) (3) _ aA tG.nd rfl ak (aZ (pv 0)) rfl ak)
  refine(a_ ?_ ?_)
  ·refine(K5 1000000 (λh1 h2=>Gr PassesOwn.never h1 h2) ?_ ?_)
   ·exact(j3 (vS hq) (vT true) (aZ (pv 3)) (bB (pv 2)) rfl)
   ·refine(a_ ?_ ?_)
    ·exact(v7 hq (pv 2) (aZ (pv 3)) (pe rfl T.kz (bB (pv 2)) (by rfl)) (by rfl))
    refine(bz ?_);exact(@b9 _ _ _ _ _ _ ([]) (3) _ aA tG.nd rfl ak (OK xk (pv 1) (aZ (pv 3))) rfl ak)
  refine(bz ?_);refine(cM ?_);exact(iN (bM (Ed rfl rfl T.mB (bB (pv 2))) (bM (cA (v5 hq) vV (pv 2) (bB (pv 3)) (λ_ _=>rfl)) dJ (by rfl)) (by rfl)) (by decide)))⟩
def x6:DS:=(aF (aI (bh iV (aw (c7 [3,4] (cm (au aE 0 (aw (eD (.int 2))))) (dM 2 (cx (ah [] 3) (cx (ah [] 4) eh))) bX (d_ (aO (ae 3) (aO (aG i7 [.val (mq (ae 3) (bh (dB []) (ao 4))),.val (ae 3)]) ck)))))) (ah [] 2)) (bW (tu (ae 1) [2] (aG i7 [.val (ae 1),.val (ae 0)]) qd)))
def n4:DF:=cJ [] 5 x6
theorem Rg:dC n4:=fu
theorem tH:bS ["rule","tile","text_of","own","block"] ["rule","tile"] (aC jH):=scc
theorem Rh {K:W1} {dE qr:Addr} (F:bH K "tile_sets" "tile_sets" jH f fd) (hm:mg "tile_sets" = some (.ref f)) (hb:Binds K fd ["rule","tile"] []) (T:Txt ce K mg) (Ri:∃ oc od kV doc pm an ct cK,K.lookup f=some ⟨oc,od,.func (WR "tile_sets" "tile_sets" (fc jH) (cu jH) (aC jH) .none kV doc pm an (.ref qr) ct),cK⟩) (dT:Jd K qr dE=true) (gT:Wn≠dE) (tT:base.BuiltinsAt mg dE) (tJ:cN P w K mg base 1 "tiles_grown" 2 i7) (x8:xm P w K mg base 2 "walked" 4 tw):lu P w K mg base [(dE,iu,iw)] 4 "tile_sets" 2 n4 :=
 xr (np:=[]) (fb:=x6) F hm hb tH (λc aj A outer s H E hr aA ft k9=>by
  have hq:=en hr;refine(a_ ?_ ?_)
  ·exact(@b9 _ _ _ _ _ _ ([]) (2) _ aA tH.nd rfl ak (vQ rfl rfl T.mz (aN (@kZ _ _ ([3,4]) _ _ _ _ _ _ _ _ _ _ rfl (jz rfl rfl) (ie (cA cF cH (pv 0) (aN aR) (λ_ _=>rfl))) (λl s0 H0 ex=>(B9 rfl (r8 (@h_ _ _ _ _ ([]) (3) _ aA tH.nd rfl ak ak (by decide)) (r8 (@h_ _ _ _ _ ([]) (4) _ aA tH.nd rfl ak ak (by decide)) B8 (by rfl)) (by rfl)) (by rfl) (by rfl))) (λl s0 H0 ex=>jx) (λl s0 H0 ex=>(iN (bM (aZ (pv 3)) (bM (@da _ _ _ _ _ (1) _ _ _ _ _ tJ Ew (hr.mono (by decide)) rfl (bG (Dw (λc=>(aZ (pv 3))) (λc=>(px [] (bB (pv 4)) (by decide +kernel) (by rfl) (by rfl) (by rfl) (by rfl)))) (bG (aZ (pv 3)) cy (by rfl)) (by rfl)) rfl (by decide) (by rfl) (by rfl)) dJ (by rfl)) (by rfl)) (by decide))) (jy aA rfl) (by intro _; rfl))) (by rfl)) rfl ak)
  refine(bz ?_);refine(cM ?_);exact(OS (P:=dE) (kl:=1) (kw:=2) (fr:=["text_of"]) (js:=[2]) (p:="tiles") x8 O4 ft Wj (hr.mono (by decide)) (by decide) rfl (aZ (pv 1)) (λ_=>rfl) rfl rfl (O8 k9 Ri) dT gT tT (OQ (cb rfl)) OR rfl (λi x j e1 e2=>by rcases i with _ | i; (cases e1; cases e2; exact⟨rfl,rfl,_,rfl⟩); cases e1) (λ_ _ _ _=>rfl) (λc fa cd A outer s H hr hp=>by have hq:=en hr; exact(@da _ _ _ _ _ (1) _ _ _ _ _ tJ Ew (hr.mono (by decide)) rfl (bG (aZ (pv 1)) (bG (aZ (pv 0)) cy (by rfl)) (by rfl)) rfl (by decide) (by rfl) (by rfl))))) λss y h=>eY h
def x9:DS:=(bW (c7 [1,2] (cm (au aE 0 (aw (eD (.int 2))))) (dM 2 (cx (ah [] 1) (cx (ah [] 2) eh))) bX (ae 1)))
def mG:DF:=cJ [] 3 x9
theorem Rj:dC mG:=fu
theorem x_:bS ["rule","tile","block"] ["rule"] (aC xH):=scc
theorem Rk {K:W1} (F:bH K "rule_tiles" "rule_tiles" xH f fd) (hm:mg "rule_tiles" = some (.ref f)) (hb:Binds K fd ["rule"] []) (T:Txt ce K mg):cN P w K mg base 1 "rule_tiles" 1 mG :=
 ic (np:=[]) (fb:=x9) F hm hb x_ (λc aj A outer s H E hr aA=>by
  have hq:=en hr;refine(bz ?_);refine(cM ?_);exact(@kZ _ _ ([1,2]) _ _ _ _ _ _ _ _ _ _ rfl (jz rfl rfl) (ie (cA cF cH (pv 0) (aN aR) (λ_ _=>rfl))) (λl s0 H0 ex=>(B9 rfl (r8 (@h_ _ _ _ _ ([]) (1) _ aA x_.nd rfl ak ak (by decide)) (r8 (@h_ _ _ _ _ ([]) (2) _ aA x_.nd rfl ak ak (by decide)) B8 (by rfl)) (by rfl)) (by rfl) (by rfl))) (λl s0 H0 ex=>jx) (λl s0 H0 ex=>(aZ (pv 1))) (jy aA rfl) (by intro _; rfl))) λss y h=>eY h
def tK:DS:=(aF (j7 (jG lA [.val (ae 0),.val (ae 1)])) (aF (aI (aG n4 [.val (ae 0),.val (ae 1)]) (dM 2 (cx (ah [] 2) (cx (ah [] 3) eh)))) (aF (aI ma (ah [] 4)) (aF (dN (pM (ae 2)) (dM 2 (cx (ah [] 5) (cx (ah [] 6) eh))) (dN (cm (ae 6)) (ah [] 7) (ku 4 (ae 7) (ae 5)))) (bW (c7 [7] (cm (aG mG [.val (ae 0)])) (ah [] 7) bX (d_ (aO (ae 7) (aO (k_ 4 (ae 7)) ck)))))))))
def i8:DX:=kh [] 8 tK
theorem Ey:lh i8:=C_
theorem lB:bS ["rule","tile","sets","start","often_of","often","tiles","other"] ["rule","tile"] (aC xI):=scc
theorem Rm {K:W1} {dE:Addr} (F:bH K "comes_after" "comes_after" xI f fd) (hm:mg "comes_after" = some (.ref f)) (hb:Binds K fd ["rule","tile"] []) (T:Txt ce K mg) (ya:sF P w K mg base 3 "refuse_no_tile" 2 lA) (yb:lu P w K mg base [(dE,iu,iw)] 4 "tile_sets" 2 n4) (yc:cN P w K mg base 1 "rule_tiles" 1 mG):nS P w K mg base [(dE,iu,iw)] 5 "comes_after" 2 i8 :=
 O7 (np:=[]) (fb:=tK) F hm hb lB (λc aj A outer s H E hr aA ft k9 qq=>by
  have hq:=en hr;refine(a_ ?_ ?_)
  ·exact(Ct (@MI _ _ _ _ _ (3) _ _ _ _ _ ya Q_ (hr.mono (by decide)) rfl qq rfl (bG (aZ (pv 0)) (bG (aZ (pv 1)) cy (by rfl)) (by rfl)) rfl (by decide) (by rfl) (by rfl)) (by rfl))
  refine(a_ ?_ ?_)
  ·refine(vo ?_ ?_ (by rfl) (by rfl) (by rfl))
   ·exact(xl (k:=4) yb ft Rg (hr.mono (by decide)) rfl (bG (aZ (pv 0)) (bG (aZ (pv 1)) cy (by rfl)) (by rfl)) rfl)
   ·exact(rW rfl (kX (@eW _ _ _ ([]) (2) _ aA lB.nd rfl ak ak) (kX (@eW _ _ _ ([]) (3) _ aA lB.nd rfl ak ak) rV (by rfl)) (by rfl)) (by rfl) (by rfl))
  refine(a_ ?_ ?_)
  ·exact(@b9 _ _ _ _ _ _ ([]) (4) _ aA lB.nd rfl ak vL rfl ak)
  refine(a_ ?_ ?_)
  ·refine SS.dX ?_;refine(iS PassesOwn.never rfl ?_ ?_ ?_ (by intro _; rfl))
   ·exact(Ma rfl T.qj (aZ (pv 2)) (by rfl))
   ·exact(rW rfl (kX (@eW _ _ _ ([]) (5) _ aA lB.nd rfl ak ak) (kX (@eW _ _ _ ([]) (6) _ aA lB.nd rfl ak ak) rV (by rfl)) (by rfl)) (by rfl) (by rfl))
   ·refine(bz ?_);refine SS.dX ?_;refine(iS PassesOwn.never rfl ?_ ?_ ?_ (by intro _; rfl))
    ·exact(ie (aZ (pv 6)))
    ·exact(@eW _ _ _ ([]) (7) _ aA lB.nd rfl ak ak)
    ·refine(bz ?_);exact(Pf (pv 4) (aZ (pv 7)) (aZ (pv 5)) ⟨rfl,rfl,rfl,rfl⟩)
  refine(bz ?_);refine(cM ?_);exact(@kZ _ _ ([7]) _ _ _ _ _ _ _ _ _ _ rfl (jz rfl rfl) (ie (@da _ _ _ _ _ (1) _ _ _ _ _ yc Rj (hr.mono (by decide)) rfl (bG (aZ (pv 0)) cy (by rfl)) rfl (by decide) (by rfl) (by rfl))) (λl s0 H0 ex=>(@h_ _ _ _ _ ([]) (7) _ aA lB.nd rfl ak ak (by decide))) (λl s0 H0 ex=>jx) (λl s0 H0 ex=>(iN (bM (aZ (pv 7)) (bM (C0 hq (pv 4) (aZ (pv 7)) (by rfl) (by rfl) (by rfl) (by rfl)) dJ (by rfl)) (by rfl)) (by decide))) (jy aA rfl) (by intro _; rfl))) λss y h=>wg h
def Ez:DS:=(bW (j4 (fU "int" (ao 0)) (u5 (fU "bool" (ao 0)))))
def n5:DF:=cJ [] 1 Ez
theorem Rn:dC n5:=fu
theorem Ro:bS ["found"] ["found"] (aC xJ):=scc
theorem Rp {K:W1} (F:bH K "_law_whole" "_law_whole" xJ f fd) (hm:mg "_law_whole" = some (.ref f)) (hb:Binds K fd ["found"] []) (T:Txt ce K mg):cN P w K mg base 1 "_law_whole" 1 n5 :=
 ic (np:=[]) (fb:=Ez) F hm hb Ro (λc aj A outer s H E hr aA=>by
  have hq:=en hr;refine(bz ?_);refine(cM ?_);exact(u6 (ph T.ty_int rfl T.eR rfl T.nV boot_int (bB (pv 0)) (by decide) (by decide) (by rfl) (by rfl)) (rM (Km (ph T.ty_bool rfl T.eR rfl T.qg boot_bool (bB (pv 0)) (by decide) (by decide) (by rfl) (by rfl)))))) λss y h=>eY h
def yd:DS:=(aF (aI (aG nY [.val (ae 0),.val (ae 1)]) (ah [] 2)) (aF (aI (c7 [6] (cm (au aE 0 (aw (eD (.int 2))))) (ah [] 6) bX (d_ (aO (au aE 6 (aw (eD (.int 0)))) (aO (k_ 2 (au aE 6 (aw (eD (.int 0))))) ck)))) (ah [] 3)) (aF (dN (eX (eD (.int 2))) (ah [] 4) (aF (aI (nK i8 [.val (ae 0),.val (ae 1)]) (ah [] 5)) (aF (c9 (lZ (gq (aW (fU "list" (ao 5)))) (aW (au kU 5 (ao 3)))) (bW (eD (.bl false))) dj) (aF (c9 (gq (aW (bh j6 (aw (nF [7] 5 (ah [5] 7) bX (j4 (fU "tuple" (ao 7)) (nh (bf (ml false) (au aE 7 (aw (eD (.int 1)))) (aw (eD .aq))) (aG n5 [.val (au aE 7 (aw (eD (.int 1))))])))))))) (bW (eD (.bl false))) dj) (fo 5 (eD (.int 0))))))) (bW (eD (.bl true))))))
def i9:DF:=cJ [] 8 yd
theorem Rq:dC i9:=fu
theorem mH:bS ["rule","tile","first","due","turn","found","pair","one"] ["rule","tile"] (aC xK):=scc
theorem Rr {K:W1} {dE:Addr} (F:bH K "_law_right" "_law_right" xK f fd) (hm:mg "_law_right" = some (.ref f)) (hb:Binds K fd ["rule","tile"] []) (T:Txt ce K mg) (ye:cN P w K mg base 2 "_law_first_after" 2 nY) (n8:nS P w K mg base [(dE,iu,iw)] 5 "comes_after" 2 i8) (yf:cN P w K mg base 1 "_law_whole" 1 n5):lu P w K mg base [(dE,iu,iw)] 6 "_law_right" 2 i9 :=
 xr (np:=[]) (fb:=yd) F hm hb mH (λc aj A outer s H E hr aA ft k9=>by
  have hq:=en hr;refine(a_ ?_ ?_)
  ·exact(@b9 _ _ _ _ _ _ ([]) (2) _ aA mH.nd rfl ak (@da _ _ _ _ _ (2) _ _ _ _ _ ye P9 (hr.mono (by decide)) rfl (bG (aZ (pv 0)) (bG (aZ (pv 1)) cy (by rfl)) (by rfl)) rfl (by decide) (by rfl) (by rfl)) rfl ak)
  refine(a_ ?_ ?_)
  ·exact(@Lh _ _ ([6]) _ _ _ _ _ _ _ _ _ _ ([]) (3) _ _ _ aA rfl (jz rfl rfl) mH.nd rfl rfl (ie (cA cF cH (pv 0) (aN aR) (λ_ _=>rfl))) (λl s0 H0 ex=>(@h_ _ _ _ _ ([]) (6) _ aA mH.nd rfl ak ak (by decide))) (λl s0 H0 ex=>jx) (λl s0 H0 ex=>(iN (bM (cA cF cH (pv 6) (aN aR) (λ_ _=>rfl)) (bM (C0 hq (pv 2) (cA cF cH (pv 6) (aN aR) (λ_ _=>rfl)) (by rfl) (by rfl) (by rfl) (by rfl)) dJ (by rfl)) (by rfl)) (by decide))) (jy aA rfl) (by rfl) (by intro _; rfl))
  refine(a_ ?_ ?_)
  ·refine(iS PassesOwn.never rfl ?_ ?_ ?_ (by intro _; rfl))
   ·exact(nq rfl T.i5 aR (by rfl))
   ·exact(@eW _ _ _ ([]) (4) _ aA mH.nd rfl ak ak)
   ·refine(a_ ?_ ?_)
    ·exact(@b9 _ _ _ _ _ _ ([]) (5) _ aA mH.nd rfl ak (O_ (k:=5) n8 ft Ey (hr.mono (by decide)) rfl rfl (bG (aZ (pv 0)) (bG (aZ (pv 1)) cy (by rfl)) (by rfl)) rfl) rfl ak)
    refine(a_ ?_ ?_)
    ·refine(fW ?_ ?_ ?_)
     ·exact(rL (u4 (ng (nc (ph T.ty_list rfl T.eR rfl T.mB boot_list (bB (pv 5)) (by decide) (by decide) (by rfl) (by rfl)) (by intro _; rfl))) (u0 (oY (Bt hq) BM (pv 5) (bB (pv 3)) (gf _)))))
     ·refine(bz ?_);refine(cM ?_);exact jY
     ·exact fV
    refine(a_ ?_ ?_)
    ·refine(fW ?_ ?_ ?_)
     ·exact(ng (nc (BV rfl rfl T.nU (aN (@Mg _ _ ([7]) _ _ _ _ _ _ _ _ _ _ rfl (jz rfl rfl) (pv 5) (λa l s0 H0 ex=>(@h_ _ _ _ _ ([5]) (7) _ (Np.bQ aA) mH.nd rfl ak ak (by decide))) (λa l s0 H0 ex=>jx) (λa l s0 H0 ex=>(u6 (ph T.ty_tuple rfl T.eR rfl T.lx boot_tuple (bB (pv 7)) (by decide) (by decide) (by rfl) (by rfl)) (rM (Kl (uY GO Mb (cA cF cH (pv 7) (aN aR) (λ_ _=>rfl)) (aN uO) rfl) (rM (@da _ _ _ _ _ (1) _ _ _ _ _ yf Rn (hr.mono (by decide)) rfl (bG (cA cF cH (pv 7) (aN aR) (λ_ _=>rfl)) cy (by rfl)) rfl (by decide) (by rfl) (by rfl))))))) (jy aA rfl) (by decide) (by intro _; rfl))) (by rfl)) (by intro _; rfl)))
     ·refine(bz ?_);refine(cM ?_);exact jY
     ·exact fV
    refine(bz ?_);exact(sr (pv 5) aR (by rfl) (by rfl) (by rfl) (by rfl) (by rfl))
  refine(bz ?_);refine(cM ?_);exact jY) λss y h=>eY h
def yg(ce:Tx->Nat):DS:=(aF (aI (fj (aO (fM ce ys (λz=>z == [78,111,70,108,111,111,114]) (ao 0)) (aO (fM ce ys (λz=>z == [78,111,80,108,97,99,101]) (ao 0)) ck))) (ah [] 1)) (aF (aI (au bw 1 (aw (fj (aO (fM ce ys (λz=>z == [78,111,78,117,109,98,101,114]) (ao 0)) (aO (fM ce ys (λz=>z == [78,111,82,111,119]) (ao 0)) ck))))) (ah [] 1)) (aF (aI (au bw 1 (aw (fj (aO (fM ce ys (λz=>z == [85,110,108,105,107,101]) (ao 0)) (aO (fM ce ys (λz=>z == [78,111,84,105,108,101]) (ao 0)) ck))))) (ah [] 1)) (aF (aI (au bw 1 (aw (fj (aO (fM ce ys (λz=>z == [78,111,82,117,108,101]) (ao 0)) (aO (fM ce ys (λz=>z == [78,111,84,101,120,116]) (ao 0)) ck))))) (ah [] 1)) (aF (fo 1 (fM ce ys (λz=>z == [84,111,111,71,114,101,97,116]) (ao 0))) (aF (c9 (lZ (gq (aW (fM ce ys (λ_=>true) (ao 0)))) (aW (bf kU (bh nH (ao 1)) (aw (eD (.int 1)))))) (bW (eD (.str [111,116,104,101,114]))) dj) (aF (aI (k8 [.str [102,108,111,111,114],.str [112,108,97,99,101],.str [110,117,109,98,101,114],.str [114,111,119],.str [117,110,108,105,107,101],.str [116,105,108,101],.str [114,117,108,101],.str [116,101,120,116],.str [103,114,101,97,116]]) (ah [] 2)) (bW (au aE 2 (aw (bh nJ (ao 1))))))))))))
def n9(ce:Tx->Nat):DF:=cJ [] 3 (yg ce)
theorem Rt{ce:Tx->Nat}:dC (n9 ce):=fu
theorem n_:bS ["e","marks","words"] ["e"] (aC xM):=scc
theorem Ru {K:W1} (F:bH K "_law_kind_of" "_law_kind_of" xM f fd) (hm:mg "_law_kind_of" = some (.ref f)) (hb:Binds K fd ["e"] []) (T:Txt ce K mg):sH P w K mg base 1 "_law_kind_of" 1 (n9 ce) :=
 MX (np:=[]) (fb:=(yg ce)) F hm hb n_ (λc aj A outer s H E hr aA=>by
  have hq:=MW hr;refine(a_ ?_ ?_)
  ·exact(@b9 _ _ _ _ _ _ ([]) (1) _ aA n_.nd rfl ak (iO (bM (kj T.Pt rfl T.eR rfl T.Pj (bB (pv 0)) (by decide) (by rfl) (by rfl)) (bM (kj T.Pu rfl T.eR rfl T.Pk (bB (pv 0)) (by decide) (by rfl) (by rfl)) dJ (by rfl)) (by rfl)) (by decide)) rfl ak)
  refine(a_ ?_ ?_)
  ·exact(@b9 _ _ _ _ _ _ ([]) (1) _ aA n_.nd rfl ak (iM eL eM (pv 1) (aN (iO (bM (kj T.Pw rfl T.eR rfl T.Pl (bB (pv 0)) (by decide) (by rfl) (by rfl)) (bM (kj T.Px rfl T.eR rfl T.Pm (bB (pv 0)) (by decide) (by rfl) (by rfl)) dJ (by rfl)) (by rfl)) (by decide)))) rfl ak)
  refine(a_ ?_ ?_)
  ·exact(@b9 _ _ _ _ _ _ ([]) (1) _ aA n_.nd rfl ak (iM eL eM (pv 1) (aN (iO (bM (kj T.Py rfl T.eR rfl T.Pn (bB (pv 0)) (by decide) (by rfl) (by rfl)) (bM (kj T.Pz rfl T.eR rfl T.Ep (bB (pv 0)) (by decide) (by rfl) (by rfl)) dJ (by rfl)) (by rfl)) (by decide)))) rfl ak)
  refine(a_ ?_ ?_)
  ·exact(@b9 _ _ _ _ _ _ ([]) (1) _ aA n_.nd rfl ak (iM eL eM (pv 1) (aN (iO (bM (kj T.PB rfl T.eR rfl T.Po (bB (pv 0)) (by decide) (by rfl) (by rfl)) (bM (kj T.PD rfl T.eR rfl T.Pp (bB (pv 0)) (by decide) (by rfl) (by rfl)) dJ (by rfl)) (by rfl)) (by decide)))) rfl ak)
  refine(a_ ?_ ?_)
  ·exact(sr (pv 1) (kj T.PF rfl T.eR rfl T.Pq (bB (pv 0)) (by decide) (by rfl) (by rfl)) (by rfl) (by rfl) (by rfl) (by rfl) (by rfl))
  refine(a_ ?_ ?_)
  ·refine(fW ?_ ?_ ?_)
   ·exact(rL (u4 (ng (nc (MV T.PJ rfl T.eR rfl T.qf M7 (bB (pv 0)) (by decide) (by decide) (by rfl) (by rfl)) (by intro _; rfl))) (u0 (j3 (Bt hq) BM (M5 (bB (pv 1)) (by rfl) (by rfl) (by rfl) (by rfl)) (aN aR) (gf _)))))
   ·refine(bz ?_);refine(cM ?_);exact(kR [111,116,104,101,114] (by decide +kernel))
   ·exact fV
  refine(a_ ?_ ?_)
  ·exact(@b9 _ _ _ _ _ _ ([]) (2) _ aA n_.nd rfl ak (vI (by rfl) (by decide)) rfl ak)
  refine(bz ?_);refine(cM ?_);exact(cA cF cH (pv 2) (aN (M6 (bB (pv 1)) (by rfl) (by rfl) (by rfl) (by rfl))) (λ_ _=>rfl))) λss y h=>eY h
def yh(ce:Tx->Nat):DS:=(aF (sG ce ys 2 (j7 (jG i8 [.val (ae 0),.val (ae 1)])) (bW (j4 (bf cj (aG (n9 ce) [.val (ae 2)]) (aw (eD (.str [116,105,108,101])))) (bf cj (p8 ce ys [116,105,108,101] (ao 2)) (ao 1))))) (bW (eD (.bl false))))
def lC(ce:Tx->Nat):DF:=cJ [] 3 (yh ce)
theorem Rv{ce:Tx->Nat}:dC (lC ce):=fu
theorem EA:bS ["rule","thing","e"] ["rule","thing"] (aC xO):=scc
theorem Rw {K:W1} {dE:Addr} (F:bH K "_law_no_tile" "_law_no_tile" xO f fd) (hm:mg "_law_no_tile" = some (.ref f)) (hb:Binds K fd ["rule","thing"] []) (T:Txt ce K mg) (n8:nS P w K mg base [(dE,iu,iw)] 5 "comes_after" 2 i8) (yi:sH P w K mg base 1 "_law_kind_of" 1 (n9 ce)):lu P w K mg base [(dE,iu,iw)] 6 "_law_no_tile" 2 (lC ce) :=
 xr (np:=[]) (fb:=(yh ce)) F hm hb EA (λc aj A outer s H E hr aA ft k9=>by
  have hq:=en hr;refine(a_ ?_ ?_)
  ·refine Pa ft (ce:=ce) (ys:=ys) (i:=2) rfl aA rfl rfl EA.nd rfl rfl rfl T.Ph T.Pr (λy hy=>T.PL y hy) ?_ ?_
   ·intro c pn xe aA ft qq;refine(bz ?_);exact(Ct (O9 (k:=5) n8 ft Ey (hr.mono (by decide)) rfl qq rfl (bG (aZ (pv 0)) (bG (aZ (pv 1)) cy (by rfl)) (by rfl)) rfl) (by rfl))
   ·intro ea;refine(bz ?_);refine(cM ?_);exact(u6 (uY (jZ hq) j5 (@MY _ _ _ _ _ (1) _ _ _ _ _ yi Rt ((hr.h.mono (by decide)).mark _) rfl (bG (aZ (pv 2)) cy (by rfl)) rfl (by decide) (by rfl) (by rfl)) (aN (kR [116,105,108,101] (by decide +kernel))) (gf _)) (rM (uY (jZ hq) j5 (NH [116,105,108,101] T.PH (bB (pv 2)) (by decide +kernel) (by rfl)) (bB (pv 1)) (gf _))))
  refine(bz ?_);refine(cM ?_);exact jY) λss y h=>eY h
def yj(ce:Tx->Nat):DS:=(aF (dN (cm (bf bw (fj (aO (aG mD [.val (ae 0),.val (eD (.int 0))]) ck)) (aw (pw 0 (l6 (eD (.int 1))) (l6 (eD (.int 5))))))) (ah [] 1) (aF (aI (aG mE [.val (ae 1)]) (ah [] 2)) (aF (aI (aG ly [.io 2,.val (eD (.int 6))]) (ah [] 3)) (aF (c9 (aW (bf cj (aG dD [.io 2,.val (eD (.int 8))]) (aw (eD (.int 0))))) (aF (aI (eD (.str [97,98,99,100,101,102,103,104,105,106,107,108,109,110,111,112,113,114,115,116,117,118,119,120,121,122])) (ah [] 4)) (aF (aI (bf bw (eD (.int 1)) (aw (bf fY (eD (.int 2)) (aw (aG dD [.io 2,.val (eD (.int 13))]))))) (ah [] 5)) (aI (d_ (aO (eD (.int 1)) (aO (eD (.int 2)) (aO (bh fS (aw (c7 [8] (eX (eD (.int 26))) (ah [] 8) bX (d_ (aO (au aE 4 (ao 8)) (aO (d_ (aO (bf bw (au aE 4 (ao 8)) (aw (au aE 4 (aw (bf dZ (au bw 8 (ao 5)) (aw (eD (.int 26)))))))) ck)) ck)))))) ck)))) (ah [] 3)))) dj) (aF (c9 (gq (aW (bh j6 (aw (c7 [7] (cm (au aE 3 (aw (eD (.int 2))))) (ah [] 7) bX (aG i9 [.val (ae 3),.val (au aE 7 (aw (eD (.int 0))))])))))) (bW (eD (.bl false))) dj) (dN (cm (fj (aO (eD .aq) (aO (eD (.str [])) (aO (eD (.str [65])) (aO (eD (.str [97,98])) (aO (k8 [.str [97]]) (aO (eD (.tup [.str [97]])) (aO (eD (.int 5)) ck))))))))) (ah [] 6) (c9 (gq (aW (aG (lC ce) [.val (ae 3),.val (ae 6)]))) (bW (eD (.bl false))) dj))))))) (bW (eD (.bl true))))
def og(ce:Tx->Nat):DF:=cJ [] 9 (yj ce)
theorem Um{ce:Tx->Nat}:dC (og ce):=fu
theorem jI:bS ["script","cell","pen","rule","letters","step","thing","pair","k"] ["script"] (aC ky):=scc
theorem Rx {K:W1} {dE:Addr} (F:bH K "law" "law" ky f fd) (T:Txt ce K mg) (yk:cN P w K mg base 1 "_law_cell_at" 2 mD) (yl:cN P w K mg base 1 "_law_pen_of" 1 mE) (eF:cN P w K mg base 2 "_law_draw" 2 dD) (ym:cN P w K mg base 4 "_law_rule_by" 2 ly) (yn:lu P w K mg base [(dE,iu,iw)] 6 "_law_right" 2 i9) (yo:lu P w K mg base [(dE,iu,iw)] 6 "_law_no_tile" 2 (lC ce)) {Gt:DF} (yp:∀ ss y,Gt ss=some y->og ce ss=some y):c8 P w K mg base bV 7 f fd ["script"] (mx [(dE,iu,iw)] 1 Gt) :=
 Ei (np:=[]) (fb:=(yj ce)) F jI (λc aj A outer s H E hr aA ft k9=>by
  have hq:=en hr;refine(@a_ _ _ _ _ _ _ ?_ ?_)
  ·refine(@iS _ _ _ _ _ _ _ _ _ PassesOwn.never rfl ?_ ?_ ?_ (by intro _; rfl))
   ·exact(@ie _ _ _ _ _ (@dh _ _ _ _ _ _ _ _ _ _ eL eM (@iO _ _ _ _ _ (@bM _ _ _ _ _ _ (@da _ _ _ _ _ (1) _ _ _ _ _ yk PM (hr.mono (by decide)) rfl (@bG _ _ _ _ _ _ (@aZ _ _ _ _ (pv 0)) (@bG _ _ _ _ _ _ (@aR _ _ _ _ _) (@cy _ _) (by rfl)) (by rfl)) rfl (by decide) (by rfl) (by rfl)) (@dJ _ _) (by rfl)) (by decide)) (@aN _ _ _ _ (@KS _ _ _ _ _ _ _ _ _ _ (pv 0) (@BX _ _ _ _ (@aR _ _ _ _ _)) (@BX _ _ _ _ (@aR _ _ _ _ _))))))
   ·exact(@eW _ _ _ ([]) (1) _ aA jI.nd rfl ak ak)
   ·refine(@a_ _ _ _ _ _ _ ?_ ?_)
    ·exact(@b9 _ _ _ _ _ _ ([]) (2) _ aA jI.nd rfl ak (@da _ _ _ _ _ (1) _ _ _ _ _ yl PR (hr.mono (by decide)) rfl (@bG _ _ _ _ _ _ (@aZ _ _ _ _ (pv 1)) (@cy _ _) (by rfl)) rfl (by decide) (by rfl) (by rfl)) rfl ak)
    refine(@a_ _ _ _ _ _ _ ?_ ?_)
    ·exact(@b9 _ _ _ _ _ _ ([]) (3) _ aA jI.nd rfl ak (@da _ _ _ _ _ (4) _ _ _ _ _ ym P5 (hr.mono (by decide)) rfl (@fX _ _ _ _ _ _ (pv 2) (@bG _ _ _ _ _ _ (@aR _ _ _ _ _) (@cy _ _) (by rfl)) (by rfl)) rfl (by decide) (by rfl) (by rfl)) rfl ak)
    refine(@a_ _ _ _ _ _ _ ?_ ?_)
    ·refine(@fW _ _ _ _ _ _ _ _ _ ?_ ?_ ?_)
     ·exact(@j3 _ _ _ _ _ _ _ _ _ _ (jZ hq) j5 (@da _ _ _ _ _ (2) _ _ _ _ _ eF iy (hr.mono (by decide)) rfl (@fX _ _ _ _ _ _ (pv 2) (@bG _ _ _ _ _ _ (@aR _ _ _ _ _) (@cy _ _) (by rfl)) (by rfl)) rfl (by decide) (by rfl) (by rfl)) (@aN _ _ _ _ (@aR _ _ _ _ _)) (gf _))
     ·refine(@a_ _ _ _ _ _ _ ?_ ?_)
      ·exact(@b9 _ _ _ _ _ _ ([]) (4) _ aA jI.nd rfl ak (@kR _ _ _ _ _ [97,98,99,100,101,102,103,104,105,106,107,108,109,110,111,112,113,114,115,116,117,118,119,120,121,122] (by decide +kernel)) rfl ak)
      refine(@a_ _ _ _ _ _ _ ?_ ?_)
      ·exact(@b9 _ _ _ _ _ _ ([]) (5) _ aA jI.nd rfl ak (@dh _ _ _ _ _ _ _ _ _ _ eL eM (@aR _ _ _ _ _) (@aN _ _ _ _ (@dh _ _ _ _ _ _ _ _ _ _ su sv (@aR _ _ _ _ _) (@aN _ _ _ _ (@da _ _ _ _ _ (2) _ _ _ _ _ eF iy (hr.mono (by decide)) rfl (@fX _ _ _ _ _ _ (pv 2) (@bG _ _ _ _ _ _ (@aR _ _ _ _ _) (@cy _ _) (by rfl)) (by rfl)) rfl (by decide) (by rfl) (by rfl)))))) rfl ak)
      refine(@bz _ _ _ _ ?_);exact(@b9 _ _ _ _ _ _ ([]) (3) _ aA jI.nd rfl ak (@iN _ _ _ _ _ _ (@bM _ _ _ _ _ _ (@aR _ _ _ _ _) (@bM _ _ _ _ _ _ (@aR _ _ _ _ _) (@bM _ _ _ _ _ _ (@vd _ _ _ _ _ _ rfl T.lx (@aN _ _ _ _ (@kZ _ _ ([8]) _ _ _ _ _ _ _ _ _ _ rfl (@jz _ _ _ rfl rfl) (@nq _ _ _ _ _ _ _ rfl T.i5 (@aR _ _ _ _ _) (by rfl)) (λl s0 H0 ex=>(@h_ _ _ _ _ ([]) (8) _ aA jI.nd rfl ak ak (by decide))) (λl s0 H0 ex=>(@jx _ _)) (λl s0 H0 ex=>(@iN _ _ _ _ _ _ (@bM _ _ _ _ _ _ (@cA _ _ _ _ _ _ _ _ _ cF cH (pv 4) (@bB _ _ _ _ (pv 8)) (λ_ _=>rfl)) (@bM _ _ _ _ _ _ (@iN _ _ _ _ _ _ (@bM _ _ _ _ _ _ (@dh _ _ _ _ _ _ _ _ _ _ eL eM (@cA _ _ _ _ _ _ _ _ _ cF cH (pv 4) (@bB _ _ _ _ (pv 8)) (λ_ _=>rfl)) (@aN _ _ _ _ (@cA _ _ _ _ _ _ _ _ _ cF cH (pv 4) (@aN _ _ _ _ (@dh _ _ _ _ _ _ _ _ _ _ kI kT (@iM _ _ _ _ _ _ _ _ _ _ eL eM (pv 8) (@bB _ _ _ _ (pv 5))) (@aN _ _ _ _ (@aR _ _ _ _ _)))) (λ_ _=>rfl)))) (@dJ _ _) (by rfl)) (by decide)) (@dJ _ _) (by rfl)) (by rfl)) (by decide))) (jy aA rfl) (by intro _; rfl))) (by rfl)) (@dJ _ _) (by rfl)) (by rfl)) (by rfl)) (by decide)) rfl ak)
     ·exact fV
    refine(@a_ _ _ _ _ _ _ ?_ ?_)
    ·refine(@fW _ _ _ _ _ _ _ _ _ ?_ ?_ ?_)
     ·exact(@ng _ _ _ _ _ (@nc _ _ _ _ (@BV _ _ _ _ _ _ rfl rfl T.nU (@aN _ _ _ _ (@kZ _ _ ([7]) _ _ _ _ _ _ _ _ _ _ rfl (@jz _ _ _ rfl rfl) (@ie _ _ _ _ _ (@cA _ _ _ _ _ _ _ _ _ cF cH (pv 3) (@aN _ _ _ _ (@aR _ _ _ _ _)) (λ_ _=>rfl))) (λl s0 H0 ex=>(@h_ _ _ _ _ ([]) (7) _ aA jI.nd rfl ak ak (by decide))) (λl s0 H0 ex=>(@jx _ _)) (λl s0 H0 ex=>(xl (k:=6) yn ft.plus Rq (hr.mono (by decide)) rfl (@bG _ _ _ _ _ _ (@aZ _ _ _ _ (pv 3)) (@bG _ _ _ _ _ _ (@cA _ _ _ _ _ _ _ _ _ cF cH (pv 7) (@aN _ _ _ _ (@aR _ _ _ _ _)) (λ_ _=>rfl)) (@cy _ _) (by rfl)) (by rfl)) rfl)) (jy aA rfl) (by intro _; rfl))) (by rfl)) (by intro _; rfl)))
     ·refine(@bz _ _ _ _ ?_);refine(@cM _ _ _ _ _ ?_);exact(@jY _ _ _ _ _)
     ·exact fV
    refine(@bz _ _ _ _ ?_);refine(@iS _ _ _ _ _ _ _ _ _ PassesOwn.never rfl ?_ ?_ ?_ (by intro _; rfl))
    ·exact(@ie _ _ _ _ _ (@iO _ _ _ _ _ (@bM _ _ _ _ _ _ (@uO _ _ _ _) (@bM _ _ _ _ _ _ (@kR _ _ _ _ _ [] (by decide +kernel)) (@bM _ _ _ _ _ _ (@kR _ _ _ _ _ [65] (by decide +kernel)) (@bM _ _ _ _ _ _ (@kR _ _ _ _ _ [97,98] (by decide +kernel)) (@bM _ _ _ _ _ _ (@vI _ _ _ _ _ (by rfl) (by decide)) (@bM _ _ _ _ _ _ (@Lx _ _ _ _ (by rfl)) (@bM _ _ _ _ _ _ (@aR _ _ _ _ _) (@dJ _ _) (by rfl)) (by rfl)) (by rfl)) (by rfl)) (by rfl)) (by rfl)) (by rfl)) (by decide)))
    ·exact(@eW _ _ _ ([]) (6) _ aA jI.nd rfl ak ak)
    ·refine(@bz _ _ _ _ ?_);refine(@fW _ _ _ _ _ _ _ _ _ ?_ ?_ ?_)
     ·exact(@ng _ _ _ _ _ (@nc _ _ _ _ (xl (k:=6) yo ft Rv (hr.mono (by decide)) rfl (@bG _ _ _ _ _ _ (@aZ _ _ _ _ (pv 3)) (@bG _ _ _ _ _ _ (@aZ _ _ _ _ (pv 6)) (@cy _ _) (by rfl)) (by rfl)) rfl) (by intro _; rfl)))
     ·refine(@bz _ _ _ _ ?_);refine(@cM _ _ _ _ _ ?_);exact(@jY _ _ _ _ _)
     ·exact fV
  refine(@bz _ _ _ _ ?_);refine(@cM _ _ _ _ _ ?_);exact(@jY _ _ _ _ _)) λss y h=>eY (yp ss y h)
theorem all_mk {l:JW} {w:Wm} {K:W1} {h:Heap} {mg:Str->Option Value} {fa:Addr} {Gt:DF} (yp:∀ ce ss y,Gt ss=some y->og ce ss=some y) (X:K.In h) (G:h.Ns Wn mg) (xj:mg "law" = some (.ref fa))
  (d0:eO K "_law_cell_at" xt)
  (d1:eO K "_law_pen_of" xu)
  (d2:eO K "_law_next" xw)
  (d3:eO K "_law_draw" xx)
  (d4:eO K "_law_sizes_by" xy)
  (d5:eO K "_law_pick" xA)
  (d6:eO K "_law_rule_by" xB)
  (d7:eO K "_law_next_tiles" xC)
  (d8:eO K "_law_first_after" xD)
  (d9:eO K "refuse_no_tile" xE)
  (yq:eO K "tiles_grown" xF)
  (yr:eO K "walked" xG)
  (yt:nsIn K Wn "tile_sets" = some (some (.ref f12)))
  (tL:K.lookup f12=some ⟨oc12,od12,.func (WR "tile_sets" "tile_sets" (fc jH) (cu jH) (aC jH) .none kV12 dc12 pm12 an12 (.ref qr) ct12),sl12⟩)
  (yu:codeIn K (.ref qr) "tile_sets" = true)
  (yv:keepIn K (.ref f12)=true)
  (dT:Jd K qr dE=true)
  (gT:(Wn == dE)=false)
  (yw:eO K "rule_tiles" xH)
  (yx:eO K "comes_after" xI)
  (yy:eO K "_law_whole" xJ)
  (yz:eO K "_law_right" xK)
  (yA:eO K "_law_kind_of" xM)
  (yB:eO K "_law_no_tile" xO)
  (yC:nsIn K Wn "law" = some (some (.ref f19)))
  (yD:K.lookup f19=some ⟨oc19,od19,.func (WR "law" "law" (fc ky) (cu ky) (aC ky) .none kV19 dc19 pm19 an19 cd19 ct19),sl19⟩)
  (yF:codeIn K cd19 "law" = true)
  (yG:keepIn K (.ref f19)=true)
  (qf:nsIn K Wn "ValueError" = some none)
  (nU:nsIn K Wn "all" = some none)
  (qg:nsIn K Wn "bool" = some none)
  (mz:nsIn K Wn "dict" = some none)
  (qj:nsIn K Wn "enumerate" = some none)
  (nV:nsIn K Wn "int" = some none)
  (eR:nsIn K Wn "isinstance" = some none)
  (kz:nsIn K Wn "len" = some none)
  (mB:nsIn K Wn "list" = some none)
  (qk:nsIn K Wn "max" = some none)
  (i5:nsIn K Wn "range" = some none)
  (ql:nsIn K Wn "set" = some none)
  (mC:nsIn K Wn "sorted" = some none)
  (qo:nsIn K Wn "str" = some none)
  (lx:nsIn K Wn "tuple" = some none)
  (yH:nsIn K Wn "FloorError" = some (some (.ref C_j)))
  (yI:nsIn K Wn "NoFloor" = some (some (.ref C_a)))
  (yJ:nsIn K Wn "NoPlace" = some (some (.ref C_b)))
  (yK:nsIn K Wn "NoNumber" = some (some (.ref C_c)))
  (yL:nsIn K Wn "NoRow" = some (some (.ref C_d)))
  (yM:nsIn K Wn "Unlike" = some (some (.ref C_e)))
  (tM:nsIn K Wn "NoTile" = some (some (.ref C_f)))
  (yN:nsIn K Wn "NoRule" = some (some (.ref C_g)))
  (yO:nsIn K Wn "NoText" = some (some (.ref C_h)))
  (yP:nsIn K Wn "TooGreat" = some (some (.ref C_i)))
  (EB:Jr K (.ref C_f) "__init__" = some (some (.ref fi_f)))
  (yQ:K.lookup fi_f=some ⟨oci_f,odi_f,.func (WR "__init__" "NoTile.__init__" (fc qe) (cu qe) (aC qe) .none kVi_f dci_f pmi_f ani_f cdi_f cti_f),sli_f⟩)
  (yR:codeIn K cdi_f "NoTile.__init__" = true)
  (yS:keepIn K (.ref fi_f)=true)
  (yT:ll K C_f fi_f=true)
  (yU:PySem.W.isFn K (.ref fi_f)=true)
  (yV:keepIn K (.ref C_f)=true)
  (yW:Jr K (.ref C_f) "__setattr__" = some (some (.builtin "object.__setattr__")))
  (yX:sL K C_f=true)
  (yY:JN K C_f=true)
  (yZ:PySem.W.takerIn K C_f "tile" = some none)
  (y0:PySem.W.excIn K C_j jE "ValueError.__new__" = true)
  (y4:PySem.W.specialIn K (.builtin "object.__class__") "__get__" = some (some (.builtin "getset_descriptor.__get__")))
  (y6:PySem.W.takesIn K (.builtin "object.__class__")=some true)
  (y8:Jr K (.ref C_f) "__getattribute__" = some (some (.builtin "BaseException.__getattribute__")))
  (y9:Jr K (.ref C_f) "__getattr__" = some none)
  (y_:Jr K (.ref C_f) "__class__" = some (some (.builtin "object.__class__")))
  (zb:mroIn K C_f (.type "object")=some true)
  (zc:mroIn K C_f (.type "BaseException")=some true)
  (iB:PySem.W.isClsIn K C_f=true)
  (zd:kitOne K (.ref C_f) (.type "ValueError")=some true)
  (ze:Jr K (.ref C_f) "tile" = some none)
  (zf:JN K C_f=true)
  (zg:kitOne K (.ref C_f) (.ref C_a)=some false)
  (zh:kitOne K (.ref C_f) (.ref C_b)=some false)
  (zi:kitOne K (.ref C_f) (.ref C_c)=some false)
  (zj:kitOne K (.ref C_f) (.ref C_d)=some false)
  (zk:kitOne K (.ref C_f) (.ref C_e)=some false)
  (zl:kitOne K (.ref C_f) (.ref C_f)=some true)
  (zm:kitOne K (.ref C_f) (.ref C_g)=some false)
  (zo:kitOne K (.ref C_f) (.ref C_h)=some false)
  (zq:kitOne K (.ref C_f) (.ref C_i)=some false)
  (zr:mroIn K C_f (.ref C_j)=some true)
  : (∃ c,Jd K c dE=true)/\∃ fd:Wy,(∀ (s:W2) (v:Value),BindsTo s fd ⟨[v],[]⟩ [("script",v)])/\∀ base:Heap,K.In base->base.Ns Wn mg->base.BuiltinsAt mg dE->c8 l.prog w K mg base bV 7 fa fd ["script"] (mx [(dE,iu,iw)] 1 Gt):=by
 have e:=xj.symm.trans (mg_of X G yC)
 cases e;have i_:ki K C_f:=⟨y8,y9,y_,y4,y6,zb,zc⟩
 have T:Txt (Dm [([70,108,111,111,114,69,114,114,111,114],C_j),([78,111,70,108,111,111,114],C_a),([78,111,80,108,97,99,101],C_b),([78,111,78,117,109,98,101,114],C_c),([78,111,82,111,119],C_d),([85,110,108,105,107,101],C_e),([78,111,84,105,108,101],C_f),([78,111,82,117,108,101],C_g),([78,111,84,101,120,116],C_h),([84,111,111,71,114,101,97,116],C_i)]) K mg:=⟨WH X G qf,WH X G nU,WH X G qg,WH X G mz,WH X G qj,WH X G nV,WH X G eR,WH X G kz,WH X G mB,WH X G qk,WH X G i5,WH X G ql,WH X G mC,WH X G qo,WH X G lx,Lr,Lq,Lv,Ls,Lu,mg_of X G yH,mg_of X G yI,mg_of X G yJ,mg_of X G yK,mg_of X G yL,mg_of X G yM,mg_of X G tM,mg_of X G yN,mg_of X G yO,mg_of X G yP,y0,⟨(cb i_),(cb iB),(cb zg)⟩,⟨(cb i_),(cb iB),(cb zh)⟩,⟨(cb i_),(cb iB),(cb zi)⟩,⟨(cb i_),(cb iB),(cb zj)⟩,⟨(cb i_),(cb iB),(cb zk)⟩,⟨(cb i_),(cb iB),(cb zl)⟩,⟨(cb i_),(cb iB),(cb zm)⟩,⟨(cb i_),(cb iB),(cb zo)⟩,⟨(cb i_),(cb iB),(cb zq)⟩,⟨(cb i_),(cb ze),(cb zf)⟩,⟨(cb i_),(cb iB),(cb zd)⟩,(cb ⟨(by rw[show toS [78,111,84,105,108,101]=("NoTile" : Str) from by decide +kernel]; exact mg_of X G tM),zr⟩)⟩
 obtain⟨f0,fd0,F0,m0⟩:=eZ X G d0;obtain⟨f1,fd1,F1,m1⟩:=eZ X G d1;obtain⟨f2,fd2,F2,m2⟩:=eZ X G d2;obtain⟨f3,fd3,F3,m3⟩:=eZ X G d3;obtain⟨f4,fd4,F4,m4⟩:=eZ X G d4;obtain⟨f5,fd5,F5,m5⟩:=eZ X G d5;obtain⟨f6,fd6,F6,m6⟩:=eZ X G d6;obtain⟨f7,fd7,F7,m7⟩:=eZ X G d7;obtain⟨f8,fd8,F8,m8⟩:=eZ X G d8;obtain⟨f9,fd9,F9,m9⟩:=eZ X G d9;obtain⟨f10,fd10,F10,m10⟩:=eZ X G yq;obtain⟨f11,fd11,F11,m11⟩:=eZ X G yr;have ED:=qX (st:=jH) tL yu yv;have Ry:=mg_of X G yt;obtain⟨f13,fd13,F13,m13⟩:=eZ X G yw;obtain⟨f14,fd14,F14,m14⟩:=eZ X G yx;obtain⟨f15,fd15,F15,m15⟩:=eZ X G yy;obtain⟨f16,fd16,F16,m16⟩:=eZ X G yz;obtain⟨f17,fd17,F17,m17⟩:=eZ X G yA;obtain⟨f18,fd18,F18,m18⟩:=eZ X G yB;have Rz:=qX (st:=ky) yD yF yG;have EE:=qX (st:=qe) yQ yR yS;have RA:Binds K _ ["self","tile"] []:=gN EE λ_ _ _ _ _ _ _ _=>rfl
 refine⟨⟨_,dT⟩,WR "law" "law" (fc ky) (cu ky) (aC ky) .none kV19 dc19 pm19 an19 cd19 ct19,λs v=>.of_eq rfl,λbase _ _ tT=>?_⟩;have x4:wB l.prog w K mg base C_f ["tile"]:=⟨fi_f,_,["self","tile"],yT,yU,yV,(List.forall_mem_cons.mpr ⟨⟨yW,yX,yY,yZ⟩,(λ_ h=>nomatch h)⟩),RA,Nt EE Pg rfl (λvs h=>by unfold L2.start; simp[h]) λaj A outer s H E hr=>zV (Nl rfl (pv 0) (pv 1) rfl)⟩
 have yk:=PQ (P:=l.prog) (w:=w) (base:=base) F0 m0 (gN F0 λ_ _ _ _ _ _ _ _=>rfl) T;have yl:=PU (P:=l.prog) (w:=w) (base:=base) F1 m1 (nM F1 λ_ _ _ _ _ _ _=>rfl) T;have tE:=PX (P:=l.prog) (w:=w) (base:=base) F2 m2 (nM F2 λ_ _ _ _ _ _ _=>rfl) T;have eF:=PY F3 m3 (gN F3 λ_ _ _ _ _ _ _ _=>rfl) T tE;have xW:=P0 F4 m4 (nM F4 λ_ _ _ _ _ _ _=>rfl) T eF;have xX:=P4 F5 m5 (NF F5 λ_ _ _ _ _ _ _ _ _ _=>rfl) T eF;have ym:=P6 F6 m6 (gN F6 λ_ _ _ _ _ _ _ _=>rfl) T eF xW xX;have x3:=P8 (P:=l.prog) (w:=w) (base:=base) F7 m7 (gN F7 λ_ _ _ _ _ _ _ _=>rfl) T;have ye:=P_ F8 m8 (gN F8 λ_ _ _ _ _ _ _ _=>rfl) T x3;have ya:=Rb F9 m9 (gN F9 λ_ _ _ _ _ _ _ _=>rfl) T x4;have tJ:=Rc (P:=l.prog) (w:=w) (base:=base) F10 m10 (gN F10 λ_ _ _ _ _ _ _ _=>rfl) T;have x8:=Rf (P:=l.prog) (w:=w) (base:=base) F11 m11 (gN F11 λ_ _ _ _ _ _ _ _=>rfl) T;have yb:=Rh ED Ry (gN ED λ_ _ _ _ _ _ _ _=>rfl) T ⟨_,_,_,_,_,_,_,_,tL⟩ dT (λz=>by rw[z] at gT; simp at gT) tT tJ x8;have yc:=Rk (P:=l.prog) (w:=w) (base:=base) F13 m13 (nM F13 λ_ _ _ _ _ _ _=>rfl) T;have n8:=Rm F14 m14 (gN F14 λ_ _ _ _ _ _ _ _=>rfl) T ya yb yc;have yf:=Rp (P:=l.prog) (w:=w) (base:=base) F15 m15 (nM F15 λ_ _ _ _ _ _ _=>rfl) T;have yn:=Rr F16 m16 (gN F16 λ_ _ _ _ _ _ _ _=>rfl) T ye n8 yf;have yi:=Ru (P:=l.prog) (w:=w) (base:=base) F17 m17 (nM F17 λ_ _ _ _ _ _ _=>rfl) T;have yo:=Rw F18 m18 (gN F18 λ_ _ _ _ _ _ _ _=>rfl) T n8 yi;exact Rx Rz T yk yl eF ym yn yo (yp _)
open PySem (sizeLine)
def dW(bs:List (Nat×List Tx))(n:Nat):List Tx:=((bs.find? λb=>decide (b.1=n)).map (·.2)).getD []
theorem oh(h:n ∈ bs.map (·.1)):∃ b ∈ bs,b.1=n/\(bs.find? λb=>decide (b.1=n))=some b/\dW bs n=b.2:=by
 cases e:bs.find? λb=>decide (b.1=n) with
 | none =>
  obtain⟨b,hb,rfl⟩:=WS.mp h;have:=List.find?_eq_none.mp e b hb;simp at this
 | some b =>
  have h1:=List.mem_of_find?_eq_some e;have h2:=List.find?_some e;refine⟨b,h1,by simpa using h2,rfl,?_⟩;unfold dW;rw[e];rfl
structure Uo(bs:List (Nat×List Tx))(R C:Nat)(fl:List Tx):Prop where
 rows:fl.length=R
 cols:∀ r ∈ fl,r.length=C
 tl:∀ r ∈ fl,∀ n ∈ r,n ∈ bs.map (·.1)
theorem RB(R:cS h w bs):(bs.map (·.1)).Nodup:=R.up.imp λh=>Wq h
theorem qt:∀ {z σ:List Nat},x ∈ cP σ z ↔ x ∈ σ\/x ∈ z
 | [],σ=>by simp[cP]
 | n :: r,σ=>by
  unfold cP;split
  ·rename_i h;rw[qt (z:=r)];constructor
   ·rintro (q | q)
    ·exact .inl q
    ·exact .inr (Wd _ q)
   ·rintro (q | q)
    ·exact .inl q
    ·rcases Wh.mp q with q | q
     ·exact .inl (by rw[q]; exact h)
     ·exact .inr q
  ·rw[qt (z:=r)];simp[or_assoc]
theorem tN:∀ {z σ:List Nat},σ.Nodup->(cP σ z).Nodup
 | [],σ,h=>by simpa[cP] using h
 | n :: r,σ,h=>by
  unfold cP;split
  ·exact tN h
  ·rename_i q;refine tN (JR.mpr ⟨h,by simp,λa ha b hb e=>q ?_⟩);have:b=n:=by simpa using hb
   rw[<- this,<- e]; exact ha
def gP(z:Tx):Tx:=eE (cP [] z)
theorem tO{x:Nat}{z:Tx}:x ∈ gP z ↔ x ∈ z:=by unfold gP; rw[qa,qt]; simp
theorem zt(z:Tx):(gP z).Pairwise (· < ·):=sY (tN List.nodup_nil)
theorem tP:∀ {a b:List Nat},a.Pairwise (· < ·)->b.Pairwise (· < ·)->(∀ x,x ∈ a ↔ x ∈ b)->a=b
 | [],[],_,_,_=>rfl
 | [],y :: b,_,_,h=>by have:=(h y).mpr Wj; cases this
 | x :: a,[],_,_,h=>by have:=(h x).mp Wj; cases this
 | x :: a,y :: b,ha,hb,h=>by
  obtain⟨a1,a2⟩:=Qn.mp ha;obtain⟨b1,b2⟩:=Qn.mp hb;have e:x=y:=by
   rcases Wh.mp ((h x).mp Wj) with q | q
   ·exact q
   ·rcases Wh.mp ((h y).mpr Wj) with p | p
    ·exact p.symm
    ·have:=a1 y p;have:=b1 x q;omega
  subst e;congr 1
  refine tP a2 b2 λz=>?_
  constructor
  ·intro hz;rcases Wh.mp ((h z).mp (Wd _ hz)) with q | q
   ·have:=a1 z hz; omega
   ·exact q
  ·intro hz;rcases Wh.mp ((h z).mpr (Wd _ hz)) with q | q
   ·have:=b1 z hz; omega
   ·exact q
theorem tQ{a:List Nat}(h:a.Pairwise (· < ·)):a.Nodup:=h.imp λh=>Wq h
theorem lD:∀ {l ts:List Nat},l.Nodup->(∀ x ∈ l,x ∈ ts)->l.length<=ts.length
 | [],_,_,_=>Qy _
 | a :: r,ts,nd,h=>by
  obtain⟨n1,n2⟩:=Q0.mp nd;have ha:=h a Wj;have:=lD (l:=r) (ts:=ts.erase a) n2 λx hx=>by
   have:x≠a:=λe=>n1 (by rw[<- e]; exact hx)
   exact(List.mem_erase_of_ne this).mpr (h x (Wd _ hx))
  rw[List.length_erase_of_mem ha] at this;have:=List.length_pos_of_mem ha;simp;omega
theorem zu:∀ {l ts:List Tx},l.Nodup->(∀ x ∈ l,x ∈ ts)->l.length<=ts.length
 | [],_,_,_=>Qy _
 | a :: r,ts,nd,h=>by
  obtain⟨n1,n2⟩:=Q0.mp nd;have ha:=h a Wj;have:=zu (l:=r) (ts:=ts.erase a) n2 λx hx=>by
   have:x≠a:=λe=>n1 (by rw[<- e]; exact hx)
   exact(List.mem_erase_of_ne this).mpr (h x (Wd _ hx))
  rw[List.length_erase_of_mem ha] at this;have:=List.length_pos_of_mem ha;simp;omega
def tx(bs:List (Nat×List Tx))(n:Nat):Tx:=gP (dW bs n).flatten
def gQ(bs:List (Nat×List Tx))(S:Tx):Tx:=gP (S.flatMap (tx bs))
def sq(bs:List (Nat×List Tx))(t:Nat):Nat->Tx
 | 0=>[t]
 | k + 1=>gQ bs (sq bs t k)
theorem qu{bs:List (Nat×List Tx)}{S:Tx}{x:Nat}:x ∈ gQ bs S ↔ ∃ y ∈ S,x ∈ (dW bs y).flatten:=by
 unfold gQ;rw[tO,List.mem_flatMap];unfold tx;constructor
 ·rintro ⟨y,h1,h2⟩; exact⟨y,h1,tO.mp h2⟩
 ·rintro ⟨y,h1,h2⟩; exact⟨y,h1,tO.mpr h2⟩
theorem oi(bs:List (Nat×List Tx))(t:Nat):∀ k,(sq bs t k).Pairwise (· < ·)
 | 0=>by simp[sq]
 | k + 1=>zt _
theorem tR{h w n x:Nat}{bs:List (Nat×List Tx)}(R:cS h w bs)(hn:n ∈ bs.map (·.1))(hx:x ∈ (dW bs n).flatten):x ∈ bs.map (·.1):=by
 obtain⟨b,hb,_,_,e⟩:=oh hn;rw[e] at hx;obtain⟨r,hr,hx⟩:=List.mem_flatten.mp hx;exact((R.dW b hb).2 r hr).2 x hx
theorem lE{h w t:Nat}{bs:List (Nat×List Tx)}(R:cS h w bs)(ht:t ∈ bs.map (·.1)):∀ k,∀ x ∈ sq bs t k,x ∈ bs.map (·.1)
 | 0,x,hx=>by
  have:x=t:=by simpa[sq] using hx
  rw[this]; exact ht
 | k + 1,x,hx=>by
  obtain⟨y,hy,hx⟩:=qu.mp hx;exact tR R (lE R ht k y hy) hx
theorem tS{h w t:Nat}{bs:List (Nat×List Tx)}(R:cS h w bs)(ht:t ∈ bs.map (·.1))(k:Nat):(sq bs t k).length<=bs.length:=by
 have:=lD (tQ (oi bs t k)) (lE R ht k);simpa using this
theorem EF{P:Nat->Prop}[DecidablePred P]:∀ i,P i->∃ j,j<=i/\P j/\∀ k,k < j->¬ P k
 | 0,h=>⟨0,Wb _,h,λk hk=>absurd hk (Nat.not_lt_zero _)⟩
 | i + 1,h=>by
  by_cases q:∃ k,k < i + 1/\P k
  ·obtain⟨k,hk,hp⟩:=q;obtain⟨j,a,b,c⟩:=EF k hp;exact⟨j,by omega,b,c⟩
  ·exact⟨i + 1,Wb _,h,λk hk hp=>q ⟨k,hk,hp⟩⟩
 termination_by i=>i
theorem EG{h w t:Nat}{bs:List (Nat×List Tx)}(R:cS h w bs)(ht:t ∈ bs.map (·.1)):∀ (i x:Nat),x ∈ sq bs t i->(∀ k,k < i->x ∉ sq bs t k)->∃ l:List Nat,l.length=i + 1/\l.Nodup/\(∀ y ∈ l,y ∈ bs.map (·.1))/\∀ y ∈ l,∃ j,j<=i/\y ∈ sq bs t j
 | 0,x,hx,_=>⟨[x],rfl,by simp,λy hy=>by
   have:y=x:=by simpa using hy
   rw[this]; exact lE R ht 0 x hx,λy hy=>by
   have:y=x:=by simpa using hy
   rw[this]; exact⟨0,Wb _,hx⟩⟩
 | i + 1,x,hx,hn=>by
  obtain⟨y,hy,rG⟩:=qu.mp hx;have fy:∀ k,k < i->y ∉ sq bs t k:=λk hk RC=>hn (k + 1) (by omega) (qu.mpr ⟨y,RC,rG⟩)
  obtain⟨l,l1,l2,l3,l4⟩:=EG R ht i y hy fy;refine⟨x :: l,by simp[l1],Q0.mpr ⟨λmf=>?_,l2⟩,λz hz=>?_,λz hz=>?_⟩
  ·obtain⟨j,hj,hxj⟩:=l4 x mf;exact hn j (by omega) hxj
  ·rcases Wh.mp hz with rfl | hz
   ·exact lE R ht (i + 1) z hx
   ·exact l3 z hz
  ·rcases Wh.mp hz with rfl | hz
   ·exact⟨i + 1,Wb _,hx⟩
   ·obtain⟨j,hj,q⟩:=l4 z hz;exact⟨j,by omega,q⟩
theorem RD{h w t:Nat}{bs:List (Nat×List Tx)}(R:cS h w bs)(ht:t ∈ bs.map (·.1)){x i:Nat}(hx:x ∈ sq bs t i):∃ j,j < bs.length/\x ∈ sq bs t j:=by
 obtain⟨j,_,hj,hm⟩:=EF (P:=λi=>x ∈ sq bs t i) i hx;obtain⟨l,l1,l2,l3,_⟩:=EG R ht j x hj hm;have:=lD l2 l3;rw[l1] at this;exact⟨j,by simp at this; omega,hj⟩
def bR(S:Nat->Tx)(x m:Nat):Option Nat:=(Wp m).find? λi=>decide (x ∈ S i)
theorem EH{S:Nat->Tx}{x a:Nat}(k:Nat)(h:∀ j,j < a + k->x ∈ S j->∃ i,i < a/\x ∈ S i):bR S x a=bR S x (a + k):=by
 unfold bR;rw[List.range_add,List.find?_append]
 cases e:(Wp a).find? λi=>decide (x ∈ S i) with
 | some i=>rfl
 | none =>
  have n:∀ i,i < a->x ∉ S i:=λi hi hx=>by
   have:=List.find?_eq_none.mp e i (Q8.mpr hi);simp[hx] at this
  symm
  show((Wp k).map (a + ·)).find? _=none;refine List.find?_eq_none.mpr λj hj q=>?_
  obtain⟨i,hi,rfl⟩:=WS.mp hj;have hx:x ∈ S (a + i):=by simpa using q
  obtain⟨i',h1,h2⟩:=h (a + i) (by have:=Q8.mp hi; omega) hx;exact n i' h1 h2
theorem RE{S:Nat->Tx}{x a b:Nat}(ha:∀ j,x ∈ S j->∃ i,i < a/\x ∈ S i)(hb:∀ j,x ∈ S j->∃ i,i < b/\x ∈ S i):bR S x a=bR S x b:=by
 by_cases h:a<=b
 ·have:=EH (S:=S) (x:=x) (a:=a) (b - a) λj _ q=>ha j q
  rw[show a + (b - a)=b by omega] at this;exact this
 ·have:=EH (S:=S) (x:=x) (a:=b) (a - b) λj _ q=>hb j q
  rw[show b + (a - b)=a by omega] at this;exact this.symm
theorem RF(S:Nat->Tx)(x m:Nat):bR S x (m + 1)=match bR S x m with
  | some i=>some i
  | none=>if x ∈ S m then some m else none:=by
 unfold bR;rw[JA,List.find?_append]
 cases (Wp m).find? λi=>decide (x ∈ S i) with
 | some i=>rfl
 | none =>
  by_cases h:x ∈ S m <;> simp[h]
theorem EI{F:D->Option D}{S:Nat->Tx}{L:List Tx}(hL:∀ k,S k ∈ L)(hF:∀ k,F (.str (S k))=some (.str (S (k + 1)))):∀ (n m:Nat),((Wp m).map S).Nodup->L.length + 1<=n + m->1<=n ->
  ∃ M s,wk F n ((Wp m).map S) (S m)=some ((Wp M).map S,s)/\s < M/\S M=S s/\M<=L.length
 | 0,m,_,_,h=>by omega
 | n + 1,m,nd,hl,_=>by
  have hs:=zu nd (ts:=L) λx hx=>by
   obtain⟨i,_,rfl⟩:=WS.mp hx;exact hL i
  simp at hs;unfold wk;by_cases h:S m ∈ (Wp m).map S
  ·rw[if_pos h];have hi:=List.idxOf_lt_length_of_mem h;have e:=List.getElem_idxOf hi;refine⟨m,_,rfl,by simpa using hi,?_,hs⟩;simp only[List.getElem_map,List.getElem_range] at e;exact e.symm
  ·rw[if_neg h,hF m];have e:(Wp m).map S ++ [S m]=(Wp (m + 1)).map S:=by rw[JA,QE]; rfl
   simp only[e];have gK:((Wp (m + 1)).map S).Nodup:=by
    rw[<- e];exact JR.mpr ⟨nd,by simp,λa ha b hb q=>h (by
     have:b=S m:=by simpa using hb
     rw[<- this,<- q]; exact ha)⟩
   have g_:=zu gK (ts:=L) λx hx=>by
    obtain⟨i,_,rfl⟩:=WS.mp hx;exact hL i
   simp at g_;exact EI hL hF n (m + 1) gK (by omega) (by omega)
theorem EJ{S:Nat->Tx}{M s:Nat}(hS:∀ i j,S i=S j->S (i + 1)=S (j + 1))(hs:s < M)(e:S M=S s):∀ k,∃ j,j < M/\S k=S j
 | k=>by
  by_cases h:k < M
  ·exact⟨k,h,rfl⟩
  ·have sh:∀ d,S (M + d)=S (s + d):=λd=>by
    induction d with
    | zero=>exact e
    | succ d ih=>exact hS _ _ ih
   obtain⟨j,hj,ej⟩:=EJ hS hs e (s + (k - M));refine⟨j,hj,?_⟩;rw[<- ej,<- sh,show M + (k - M)=k by omega]
 termination_by k=>k
 decreasing_by omega
def ja:List Nat->List Tx
 | []=>[[]]
 | a :: r=>ja r ++ (ja r).map (a :: ·)
theorem EK:∀ l:List Nat,(ja l).length=2 ^ l.length
 | []=>rfl
 | a :: r=>by
  show(ja r ++ (ja r).map (a :: ·)).length=_;rw[Q6,Wx,EK r,WE,Nat.pow_succ];omega
theorem zv(p:Nat->Bool):∀ l:List Nat,l.filter p ∈ ja l
 | []=>by simp[ja]
 | a :: r=>by
  show _ ∈ ja r ++ (ja r).map (a :: ·)
  cases h:p a with
  | true =>
   rw[List.filter_cons_of_pos h];exact WP _ (WS.mpr ⟨_,zv p r,rfl⟩)
  | false =>
   rw[List.filter_cons_of_neg (by simp[h])];exact QZ _ (zv p r)
theorem RH{S ts:List Nat}(h1:S.Pairwise (· < ·))(h2:ts.Pairwise (· < ·))(h:∀ x ∈ S,x ∈ ts):S ∈ ja ts:=by
 have:S=ts.filter λx=>decide (x ∈ S):=tP h1 (h2.filter _) λx=>by
  rw[List.mem_filter];constructor
  ·intro hx; exact⟨h x hx,by simpa using hx⟩
  ·intro hx; simpa using hx.2
 rw[this];exact zv _ ts
structure jb(h w:Nat)(bs:List (Nat×List Tx)):Prop where
 R:cS h w bs
 fin:∀ t ∈ bs.map (·.1),∃ L:List Tx,L.length<=64/\∀ k,sq bs t k ∈ L
 len:∀ n ∈ bs.map (·.1),(tx bs n).length * bs.length < 64
theorem RI(bs:List (Nat×List Tx))(n:Nat):(tx bs n).Pairwise (· < ·):=zt _
theorem RJ{h w n:Nat}{bs:List (Nat×List Tx)}(R:cS h w bs)(hn:n ∈ bs.map (·.1)){x:Nat}(hx:x ∈ tx bs n):x ∈ bs.map (·.1):=tR R hn (tO.mp hx)
theorem RK{h w n:Nat}{bs:List (Nat×List Tx)}(R:cS h w bs)(hn:n ∈ bs.map (·.1)):(tx bs n).length<=bs.length:=by
 have:=lD (tQ (RI bs n)) λx hx=>RJ R hn hx
 simpa using this
theorem RL{h w:Nat}{bs:List (Nat×List Tx)}(R:cS h w bs)(h6:bs.length<=6):jb h w bs:=by
 refine⟨R,λt ht=>⟨ja (bs.map (·.1)),?_,λk=>RH (oi bs t k) R.up (lE R ht k)⟩,λn hn=>?_⟩
 ·rw[EK,Wx];exact WQ (Nat.pow_le_pow_right (by decide) h6) (by decide)
 ·have:=RK R hn;have:=Nat.mul_le_mul this (Wb bs.length);have:=Nat.mul_le_mul h6 h6;omega
theorem EL{bs:List (Nat×List Tx)}{t j:Nat}(e:sq bs t (j + 1)=sq bs t j):∀ d,sq bs t (j + d)=sq bs t j
 | 0=>rfl
 | d + 1=>by
  have:=EL e d;show gQ bs (sq bs t (j + d))=_;rw[this];exact e
theorem RM{h w:Nat}{bs:List (Nat×List Tx)}(R:cS h w bs)(ho:∀ n ∈ bs.map (·.1),n ∈ (dW bs n).flatten)(hl:∀ n ∈ bs.map (·.1),(tx bs n).length<=2):jb h w bs:=by
 have n1:=R.n1;refine⟨R,λt ht=>?_,λn hn=>?_⟩
 ·have up:∀ k,∀ x ∈ sq bs t k,x ∈ sq bs t (k + 1):=λk x hx=>qu.mpr ⟨x,hx,ho x (lE R ht k x hx)⟩
  have gr:∀ k,(∃ j,j < k/\sq bs t (j + 1)=sq bs t j)\/k + 1<=(sq bs t k).length:=λk=>by
   induction k with
   | zero=>exact .inr (by simp[sq])
   | succ k ih =>
    rcases ih with ⟨j,hj,e⟩ | ih
    ·exact .inl ⟨j,by omega,e⟩
    ·by_cases e:sq bs t (k + 1)=sq bs t k
     ·exact .inl ⟨k,by omega,e⟩
     ·refine .inr ?_;have h1:=lD (tQ (oi bs t k)) (up k);by_cases e2:(sq bs t (k + 1)).length=(sq bs t k).length
      ·exfalso
       apply e;refine tP (oi bs t (k + 1)) (oi bs t k) λx=>⟨λhx=>?_,up k x⟩
       by_cases hxk:x ∈ sq bs t k
       ·exact hxk
       ·have:=lD (l:=x :: sq bs t k) (ts:=sq bs t (k + 1)) (Q0.mpr ⟨hxk,tQ (oi bs t k)⟩) λy hy=>by
         rcases Wh.mp hy with rfl | hy
         ·exact hx
         ·exact up k y hy
        simp at this;omega
      ·omega
  have hlen:=tS R ht bs.length;rcases gr bs.length with ⟨j,hj,e⟩ | q
  ·refine⟨(Wp bs.length).map (sq bs t),by simp; omega,λk=>WS.mpr ?_⟩;by_cases hk:k<=j
   ·exact⟨k,Q8.mpr (by omega),rfl⟩
   ·refine⟨j,Q8.mpr hj,?_⟩;have:=EL e (k - j);rw[show j + (k - j)=k by omega] at this;exact this.symm
  ·omega
 ·have:=Nat.mul_le_mul (hl n hn) n1;omega
theorem RN{h w:Nat}{bs:List (Nat×List Tx)}(G:jb h w bs):∀ S:Tx,(∀ n ∈ S,n ∈ bs.map (·.1))->S.length<=bs.length->(S.flatMap (tx bs)).length < 64:=by
 have n0:=G.R.n0;have key:∀ (c:Nat) (S:Tx),(∀ n ∈ S,n ∈ bs.map (·.1))->(∀ n ∈ bs.map (·.1),(tx bs n).length<=c)->(S.flatMap (tx bs)).length<=c * S.length:=λc S=>by
  induction S with
  | nil=>intro _ _; simp
  | cons a r ih =>
   intro h1 h2;have:=ih (λn hn=>h1 n (Wd _ hn)) h2;have:=h2 a (h1 a Wj);simp only[List.flatMap_cons,Q6,WE,Nat.mul_add,Nat.mul_one];omega
 intro S h1 h2;have hc:∀ n ∈ bs.map (·.1),(tx bs n).length<=63 / bs.length:=λn hn=>by
  have:=G.len n hn;exact(Nat.le_div_iff_mul_le n0).mpr (by omega)
 have a:=key _ S h1 hc;have b:=Nat.mul_le_mul (Wb (63 / bs.length)) h2;have c:=Nat.div_mul_le_self 63 bs.length;omega
theorem iC(f:DE)(δ:Dl):cm f δ=(f δ).bind λr δ1=>match r.d with
 | .lst ds=>.ok ds δ1
 | .tup ds=>.ok ds δ1
 | .str x=>.ok (x.map λn=>.str [n]) δ1
 | _=>.stuck:=id rfl
theorem Up(neg:Bool)(fa f g:DE)(δ:Dl):LI neg fa f g δ=(fa δ).bind λv δ1=>(f δ1).bind λlo δ2=>(g δ2).bind λhi δ3=>match v.d,lo.d,hi.d with
 | .int i,.int l,.int h=>.ok (.pure (.bl (if neg then !(decide (l<=i) && decide (i < h)) else(decide (l<=i) && decide (i < h))))) δ3
 | _,_,_=>.stuck:=id rfl
def nx(s:Int):Int:=(((s + 7919) % 2147483647) * ((s + 7919) % 2147483647) + 48271 * ((s + 7919) % 2147483647) + 12345) % 2147483629
theorem RO(s:Int):mF [.pure (.int s)]=some (.pure (.int (nx s)),[.pure (.int s)]):=by
 unfold mF cJ xR dm;have h1:=Int.emod_nonneg (s + 7919) (b:=2147483647) (by decide);have h2:=Int.emod_lt_of_pos (s + 7919) (b:=2147483647) (by decide);have c1:jq ((s + 7919) % 2147483647) ((s + 7919) % 2147483647)=true:=by unfold jq; simp; omega
 have c2:jq 48271 ((s + 7919) % 2147483647)=true:=by unfold jq; simp
 simp[bK,aV,aI,au,bI,ao,bw,dZ,dY,fY,o8,c1,c2,bO,bb];rfl
def eS(d:D):Prop:=∃ l f s:Int,d = .lst [.int l,.int f,.int s]/\0<=l
theorem tU(hp:eS d)(m:Nat)(h0:0 < m)(h1:m < 10000000000000):∃ (r:Nat) (d':D),dD [.own d,.pure (.int m)]=some (.pure (.int r),[.own d',.pure (.int m)])/\r < m/\eS d':=by
 obtain⟨l,f,s,rfl,hl⟩:=hp;have hm:(0:Int) < (m:Int):=by omega
 have hB:(10000000000000:Int)<=nG:=by decide +kernel
 have hd:=Mm l m hm (by omega);unfold dD cJ xS dm;by_cases hf:f=1
 ·subst hf;have e1:=Int.emod_nonneg l (b:=(m:Int)) (by omega);have e2:=Int.emod_lt_of_pos l hm;refine⟨(l % (m:Int)).toNat,.lst [.int (l / m),.int 1,.int s],?_,by omega,⟨_,_,_,rfl,Int.ediv_nonneg hl (by omega)⟩⟩;simp[bK,aV,aI,au,bI,ao,ae,aE,cj,az,flat,sV,wR,wQ,aW,dZ,rN,dY,h0,hd,o9,nj,iR,putL,bO,bb,dR];omega
 ·have e1:=Int.emod_nonneg (nx (nx s + 7) / 64) (b:=(m:Int)) (by omega);have e2:=Int.emod_lt_of_pos (nx (nx s + 7) / 64) hm;refine⟨(nx (nx s + 7) / 64 % (m:Int)).toNat,.lst [.int l,.int f,.int (nx (nx s + 7))],?_,by omega,⟨_,_,_,rfl,hl⟩⟩;simp[bK,aV,aI,au,bI,ao,ae,aE,cj,az,flat,sV,wR,wQ,aW,dZ,rN,dY,h0,hd,o9,nj,iR,putL,bO,bb,dR,hf,aG,ba,bE,bL,bF,bp,RO,bw,aS,o9];omega
theorem RQ(c:Int):∃ d,mE [.pure (.int c)]=some (.own d,[.pure (.int c)])/\eS d:=by
 unfold mE cJ xQ dm;refine⟨.lst [.int (if 0 - c > c then 0 - c else c),.int (if decide (1000000000000000000<=(if 0 - c > c then 0 - c else c)) then 1 else 0),.int ((if 0 - c > c then 0 - c else c) % 1000003)],?_,⟨_,_,_,rfl,by split <;> omega⟩⟩;simp[bK,aV,aI,au,bI,ao,ae,vg,u7,dY,ni,BP,hU,u_,u9,dZ,bO,bb]
theorem RS(ns:List Int):∃ c:Int,mD [.pure (.lst (ns.map .int)),.pure (.int 0)]=some (.pure (.int c),[.pure (.lst (ns.map .int)),.pure (.int 0)]):=by
 unfold mD cJ xP dm
 cases ns with
 | nil=>exact⟨0,by simp[bK,aV,au,bI,ao,rO,hU,aW,di,bO,bb]⟩
 | cons n r=>exact⟨n,by
   have:(0:Int) < (r.length:Int) + 1:=by omega
   simp[bK,aV,au,bI,ao,rO,hU,aW,di,bO,bb,aE,sV,this]⟩
theorem jJ(hp:eS d)(m:Nat)(i:Int)(hi:i=m)(h0:0 < m)(h1:m < 10000000000000):∃ (r:Nat) (d':D),dD [.own d,.pure (.int i)]=some (.pure (.int r),[.own d',.pure (.int i)])/\r < m/\eS d':=by
 subst hi;exact tU hp m h0 h1
def dF:Tx:=[97,98,99,100,101,102,103,104,105,106,107,108,109,110,111,112,113,114,115,116,117,118,119,120,121,122]
theorem RT(hp:eS d):∃ (h w:Nat) (d':D),nW [.own d]=some (.pure (.tup [.int h,.int w]),[.own d'])/\0 < h/\h<=4/\0 < w/\w<=4/\2 < h + w/\eS d':=by
 obtain⟨r1,d1,e1,l1,p1⟩:=jJ hp 3 3 rfl (by decide) (by decide);obtain⟨r2,d2,e2,l2,p2⟩:=jJ p1 3 3 rfl (by decide) (by decide);obtain⟨r3,d3,e3,l3,p3⟩:=jJ p2 8 8 rfl (by decide) (by decide);obtain⟨r4,d4,e4,l4,p4⟩:=jJ p3 6 6 rfl (by decide) (by decide);unfold nW cJ xT dm;by_cases h3:r3=0
 ·subst h3;have:r4=0\/r4=1\/r4=2\/r4=3\/r4=4\/r4=5:=by omega
  rcases this with rfl | rfl | rfl | rfl | rfl | rfl
  ·exact⟨4,1,d4,by simp[bK,aV,aI,aG,ba,bL,bE,bF,bp,e1,e2,e3,e4,aS,bw,cj,az,flat,aW,aE,cL,dR,dM,cx,eh,au,bI,ao,ae,bO,bb],by decide,by decide,by decide,by decide,by decide,p4⟩
  ·exact⟨1,4,d4,by simp[bK,aV,aI,aG,ba,bL,bE,bF,bp,e1,e2,e3,e4,aS,bw,cj,az,flat,aW,aE,cL,dR,dM,cx,eh,au,bI,ao,ae,bO,bb],by decide,by decide,by decide,by decide,by decide,p4⟩
  ·exact⟨4,4,d4,by simp[bK,aV,aI,aG,ba,bL,bE,bF,bp,e1,e2,e3,e4,aS,bw,cj,az,flat,aW,aE,cL,dR,dM,cx,eh,au,bI,ao,ae,bO,bb],by decide,by decide,by decide,by decide,by decide,p4⟩
  ·exact⟨4,3,d4,by simp[bK,aV,aI,aG,ba,bL,bE,bF,bp,e1,e2,e3,e4,aS,bw,cj,az,flat,aW,aE,cL,dR,dM,cx,eh,au,bI,ao,ae,bO,bb],by decide,by decide,by decide,by decide,by decide,p4⟩
  ·exact⟨1,2,d4,by simp[bK,aV,aI,aG,ba,bL,bE,bF,bp,e1,e2,e3,e4,aS,bw,cj,az,flat,aW,aE,cL,dR,dM,cx,eh,au,bI,ao,ae,bO,bb],by decide,by decide,by decide,by decide,by decide,p4⟩
  ·exact⟨2,1,d4,by simp[bK,aV,aI,aG,ba,bL,bE,bF,bp,e1,e2,e3,e4,aS,bw,cj,az,flat,aW,aE,cL,dR,dM,cx,eh,au,bI,ao,ae,bO,bb],by decide,by decide,by decide,by decide,by decide,p4⟩
 ·by_cases hs:r1=0/\r2=0
  ·obtain⟨rfl,rfl⟩:=hs;refine⟨1,2,d3,?_,by decide,by decide,by decide,by decide,by decide,p3⟩;simp[bK,aV,aI,aG,ba,bL,bE,bF,bp,e1,e2,e3,aS,bw,cj,az,flat,aW,h3,au,bI,ao,ae,bO,bb]
  ·have hn:¬ (1 + (r1:Int) + (1 + (r2:Int))=2):=by omega
   refine⟨1 + r1,1 + r2,d3,?_,by omega,by omega,by omega,by omega,by omega,p3⟩;simp[bK,aV,aI,aG,ba,bL,bE,bF,bp,e1,e2,e3,aS,bw,cj,az,flat,aW,h3,hn,au,bI,ao,ae,bO,bb]
theorem EM(ts:List Nat)(r:Nat)(h:r < ts.length):aE (.lst (ts.map λn=>.str [n])) (.int r)=some (.pure (.str [ts.getD r 0])):=by
 simp[aE,kq,h]
theorem RW(hp:eS d)(ts:List Nat)(place way:Nat)(h1:place < ts.length)(h2:ts.length<=64):∃ (n:Nat) (d':D),
  iA [.own d,.pure (.lst (ts.map λn=>.str [n])),.pure (.int place),.pure (.int way)]=some (.pure (.str [n]),[.own d',.pure (.lst (ts.map λn=>.str [n])),.pure (.int place),.pure (.int way)])/\n ∈ ts/\eS d':=by
 have mem:∀ r,r < ts.length->ts.getD r 0 ∈ ts:=λr h=>by simp[h]
 unfold iA cJ xU dm;by_cases w1:way=1
 ·subst w1;obtain⟨r,d1,e1,l1,p1⟩:=jJ hp (place + 1) ((place:Int) + 1) (by omega) (by omega) (by omega);refine⟨ts.getD r 0,d1,?_,mem r (by omega),p1⟩;simp[bK,aV,au,bI,ao,cj,az,flat,aW,aG,ba,bL,bE,bF,bw,bp,e1,aS,aE,kq,bO,bb,show r < ts.length by omega]
 ·by_cases w2:way=2
  ·subst w2;have hr:(place + 1) % ts.length < ts.length:=JY _ (by omega);refine⟨ts.getD ((place + 1) % ts.length) 0,d,?_,mem _ hr,hp⟩;have hm:dZ (.int ((place:Int) + 1)) (.int ts.length)=some (.pure (.int (((place + 1) % ts.length:Nat):Int))):=by
    simp only[dZ,dY];rw[if_pos (by simp; omega)];simp
   simp[bK,aV,au,bI,ao,cj,az,flat,aW,bw,di,hm,bO,bb];have hx:=EM ts ((place + 1) % ts.length) hr;simp at hx;simp[hx]
  ·by_cases w3:way=3
   ·subst w3;obtain⟨r,d1,e1,l1,p1⟩:=jJ hp 4 4 rfl (by decide) (by decide);by_cases hr:0 < r
    ·refine⟨ts.getD place 0,d1,?_,mem place h1,p1⟩;simp[bK,aV,au,bI,ao,cj,az,flat,aW,aG,ba,bL,bE,bF,bp,e1,aS,rP,hU,hr,aE,kq,h1,bO,bb]
    ·obtain⟨r',d2,e2,l2,p2⟩:=tU p1 ts.length (by omega) (by omega);refine⟨ts.getD r' 0,d2,?_,mem r' l2,p2⟩;simp[bK,aV,au,bI,ao,cj,az,flat,aW,aG,ba,bL,bE,bF,bp,e1,aS,rP,hU,hr,di,e2,aE,kq,l2,bO,bb]
   ·obtain⟨r',d2,e2,l2,p2⟩:=tU hp ts.length (by omega) (by omega);refine⟨ts.getD r' 0,d2,?_,mem r' l2,p2⟩;have c1:¬ (way:Int)=1:=by omega
    have c2:¬ (way:Int)=2:=by omega
    have c3:¬ (way:Int)=3:=by omega
    simp[bK,aV,au,bI,ao,cj,az,flat,aW,aG,ba,bL,bE,bF,bp,aS,c1,c2,c3,di,e2,aE,kq,l2,bO,bb]
theorem zw:∀ k,k < 26->dF.getD k 0=97 + k:=by decide
theorem EO(xs:List Nat)(h:xs.length < 64):l5 (.lst (xs.map λn=>.str [n]))=some (.own (.lst ((eE xs).map λn=>.str [n]))):=by
 have e:(xs.map λn=>D.str [n])=(xs.map λn=>[n]).map D.str:=by simp
 unfold l5;simp only[e,sW];rw[if_pos (by simpa using h),wX];simp
def jc(f n:Nat):List Nat:=(Wp n).map λk=>97 + (f + 5 * k) % 26
theorem RX(f n:Nat)(hn:n<=26):(jc f n).Nodup:=by
 unfold jc;rw[List.nodup_iff_pairwise_ne,Jj];refine(List.pairwise_lt_range (n:=n)).imp_of_mem ?_;intro a b ha hb kS e;simp at ha hb;omega
def rb(pd:D)(m h w n f:Nat)(s7:S)(wy:Nat)(blocks:List D)(a b c:Option S):Dl :=
 [some (.own pd),some (.pure (.int m)),some (.pure (.int h)),some (.pure (.int w)),some (.pure (.int (1 + (n:Int)))),some (.pure (.int f)),some (.pure (.str dF)),some s7,some (.pure (.int wy)),some (.own (.lst blocks)),a,b,c,none,none]
def tD(ts:List Nat):D:=.lst (ts.map λn=>.str [n])
def sT(ts:List Nat)(s:S):Prop:=s = .own (tD ts)\/s = .pure (tD ts)
theorem RY(la:ts.length<=64)(hw:w<=4)(jd:eS pd)(h7:sT ts s7)(blocks:List D)(place:Nat)(bx:place < ts.length)(block:List D)(row:Nat) :
  ∃ (x:Tx) (f_:D) (gb:S),cR [14] (ah [0] 14) bX (aG iA [.io 0,.val (ae 7),.val (ae 10),.val (ae 8)]) (b_ 0 w) (rb pd m h w n f s7 wy blocks (some (.pure (.int place))) (some (.own (.lst block))) (some (.pure (.int row)))) []
   = .ok (x.map λn=>.str [n]) (rb f_ m h w n f gb wy blocks (some (.pure (.int place))) (some (.own (.lst block))) (some (.pure (.int row))))/\x.length=w/\(∀ n ∈ x,n ∈ ts)/\eS f_/\sT ts gb:=by
 obtain⟨xs,δ',e,⟨f_,gb,hpd',h7',rfl⟩,hn,hf⟩:=wU (cs:=[14]) (g:=ah [0] 14) (t:=bX) (el:=aG iA [.io 0,.val (ae 7),.val (ae 10),.val (ae 8)]) (λδ=>∃ pd s7,eS pd/\sT ts s7/\δ=rb pd m h w n f s7 wy blocks (some (.pure (.int place))) (some (.own (.lst block))) (some (.pure (.int row))))
  (λ_ x=>∃ n,n ∈ ts/\x = .str [n]) (b_ 0 w) _ [] ⟨pd,s7,jd,h7,rfl⟩ (by rw[eC]; simp; omega) (λd hd δ ⟨pd,s7,jd,h7,e⟩=>by
   subst e;obtain⟨i,hi,rfl⟩:=D1 hd;obtain⟨k,d',e,hk,p⟩:=RW jd ts place wy bx la;have e':iA [.own pd,.pure (tD ts),.pure (.int place),.pure (.int wy)]=some (.pure (.str [k]),[.own d',.pure (tD ts),.pure (.int place),.pure (.int wy)]):=e;refine⟨_,_,.pure (.str [k]),(rb d' m h w n f (.pure (tD ts)) wy blocks (some (.pure (.int place))) (some (.own (.lst block))) (some (.pure (.int row)))).set 14 (some (.pure (.int i))),rfl,rfl,?_,⟨d',_,p,.inr rfl,rfl⟩,⟨_,hk,rfl⟩⟩;rcases h7 with rfl | rfl
   ·simp[rb,aG,ba,bL,bE,bF,ae,bp,e',aS]
   ·simp[rb,aG,ba,bL,bE,bF,ae,bp,e',aS])
 obtain⟨x,rfl,hx⟩:=D6 (P:=λn=>n ∈ ts) (Oz hn hf λd x _ h=>h);exact⟨x,f_,gb,by simpa using e,by simpa using hn,hx,hpd',h7'⟩
theorem RZ(la:ts.length<=64)(hw:w<=4)(hh:h<=4)(jd:eS pd)(h7:sT ts s7)(blocks:List D)(place:Nat)(bx:place < ts.length)(rs:Option S) :
  ∃ (fl:List Tx) (f_:D) (gb:S) (qv:Option S),forL (ah [0] 12) (fo 11 (bh (dB []) (aw (c7 [14] (eX (ae 3)) (ah [0] 14) bX (aG iA [.io 0,.val (ae 7),.val (ae 10),.val (ae 8)]))))) (b_ 0 h) (rb pd m h w n f s7 wy blocks (some (.pure (.int place))) (some (.own (.lst []))) rs)
   = .ok .next (rb f_ m h w n f gb wy blocks (some (.pure (.int place))) (some (.own (.lst (fl.map .str)))) qv)/\fl.length=h/\(∀ r ∈ fl,r.length=w/\∀ n ∈ r,n ∈ ts)/\eS f_/\sT ts gb:=by
 obtain⟨δ',e3,f_,gb,fl,qv,hpd',h7',iK,iJ,rfl⟩:=nN (g:=ah [0] 12) (b:=fo 11 (bh (dB []) (aw (c7 [14] (eX (ae 3)) (ah [0] 14) bX (aG iA [.io 0,.val (ae 7),.val (ae 10),.val (ae 8)]))))) (λk δ=>∃ (pd:D) (s7:S) (fl:List Tx) (rs:Option S),eS pd/\sT ts s7/\fl.length=k/\(∀ r ∈ fl,r.length=w/\∀ n ∈ r,n ∈ ts)/\δ=rb pd m h w n f s7 wy blocks (some (.pure (.int place))) (some (.own (.lst (fl.map .str)))) rs)
  (b_ 0 h) 0 _ ⟨pd,s7,[],rs,jd,h7,rfl,by simp,rfl⟩ (λi d δ hd ⟨pd,s7,fl,rs,jd,h7,iK,iJ,e⟩=>by
   subst e;obtain⟨hi,rfl⟩:=wW hd;obtain⟨x,f_,gb,e,hx,hxt,hpd',h7'⟩:=RY (m:=m) (h:=h) (n:=n) (f:=f) (wy:=wy) la hw jd h7 blocks place bx (fl.map .str) i;have hz:fl.length < Wa:=by rw[eC]; omega
   have ej:=Ow x (by omega);refine⟨_,rb f_ m h w n f gb wy blocks (some (.pure (.int place))) (some (.own (.lst ((fl ++ [x]).map .str)))) (some (.pure (.int i))),rfl,?_,⟨f_,gb,fl ++ [x],_,hpd',h7',by simp[iK],?_,rfl⟩⟩
   ·unfold rb at e ⊢;simp[fo,iR,ae,p_ w (by omega),bE,bo];rw[e];simp[ej,cQ,putL,hz]
   ·intro r hr;rcases Jw.mp hr with hr | hr
    ·exact iJ r hr
    ·simp at hr; subst hr; exact⟨hx,hxt⟩)
 exact⟨fl,f_,gb,qv,e3,by simpa using iK,iJ,hpd',h7'⟩
theorem R0(hp:eS d)(m:Nat)(R3:0 < m)(Uq:m<=26):∃ (h w:Nat) (bs:List (Nat×List Tx)) (d':D),
  ly [.own d,.pure (.int m)]=some (.pure (aK h w bs),[.own d',.pure (.int m)])/\cS h w bs/\bs.length<=m/\eS d':=by
 obtain⟨h,w,d1,e1,h0,h1,w0,w1,hw,p1⟩:=RT hp;obtain⟨r,d2,e2,l2,p2⟩:=tU p1 m R3 (by omega);obtain⟨f,d3,e3,l3,p3⟩:=jJ p2 26 26 rfl (by decide) (by decide);obtain⟨wy,d4,e4,l4,p4⟩:=jJ p3 5 5 rfl (by decide) (by decide);-- the tiles
 have ec:=Ot (cs:=[13]) (g:=ah [0] 13) (t:=bX) (el:=au aE 6 (aw (bf dZ (au bw 5 (aw (bf fY (eD (.int 5)) (ao 13)))) (aw (eD (.int 26)))))) (λd=>match d with | .int k=>.str [97 + (f + 5 * k.toNat) % 26] | _=>.aq)
  [some (.own d3),some (.pure (.int m)),some (.pure (.int h)),some (.pure (.int w)),some (.pure (.int (1 + (r:Int)))),some (.pure (.int f)),some (.pure (.str dF)),none,none,none,none,none,none,none,none] (b_ 0 (1 + r)) [] (by rw[eC]; simp; omega) (λd hd=>by
   obtain⟨i,hi,rfl⟩:=D1 hd;refine⟨_,_,.pure (.str [97 + (f + 5 * i) % 26]),[some (.own d3),some (.pure (.int m)),some (.pure (.int h)),some (.pure (.int w)),some (.pure (.int (1 + (r:Int)))),some (.pure (.int f)),some (.pure (.str dF)),none,none,none,none,none,none,some (.pure (.int i)),none],rfl,rfl,?_,rfl,rfl⟩;have hk:(f + 5 * i) % 26 < 26:=JY _ (by decide);have hx:=wV dF ((f + 5 * i) % 26) hk (by decide);rw[zw _ hk] at hx;have hc:((f:Int) + 5 * (i:Int)) % 26=(((f + 5 * i) % 26:Nat):Int):=by omega
   have hmul:fY (.int 5) (.int i)=some (.pure (.int (5 * (i:Int)))):=by
    unfold fY o8 dY;have:jq 5 i=true:=by unfold jq; simp
    simp only[this,if_true]
   have R4:dZ (.int ((f:Int) + 5 * (i:Int))) (.int 26)=some (.pure (.int (((f + 5 * i) % 26:Nat):Int))):=by
    rw[<- hc]; rfl
   generalize dF=lt at hx ⊢;simp only[au,bI,ao,Om,Oo,Ol,ko,Oq,List.set_cons_succ,List.set_cons_zero,Je,List.getElem?_cons_zero,Oj,hmul,bw,R4,hx])
 have R5:List.map (λ(d:D)=>match d with | .int k=>D.str [97 + (f + 5 * k.toNat) % 26] | _=>.aq) (b_ 0 (1 + r))=(jc f (1 + r)).map λn=>.str [n]:=by
  simp[b_,jc]
 rw[R5] at ec;simp only[Q1] at ec;have ER:(jc f (1 + r)).length=1 + r:=by simp[jc]
 have es:=EO (jc f (1 + r)) (by rw[ER]; omega);have la:(eE (jc f (1 + r))).length=1 + r:=by rw[wZ,ER]
 have aY:=sY (RX f (1 + r) (by omega));have hle:∀ t ∈ eE (jc f (1 + r)),97<=t/\t<=122:=λt ht=>by
  rw[qa] at ht;simp[jc] at ht;obtain⟨k,_,rfl⟩:=ht;omega
 generalize eE (jc f (1 + r))=ts at es la aY hle;-- the blocks
 obtain⟨δ',e5,pd,s7,bs,a,b,c,jd,h7,hbl,hbt,iJ,rfl⟩:=nN (g:=ah [0] 10) (b:=(aF (aI (fj ck) (ah [0] 11)) (aF (dN (eX (ae 2)) (ah [0] 12) (fo 11 (bh (dB []) (aw (c7 [14] (eX (ae 3)) (ah [0] 14) bX (aG iA [.io 0,.val (ae 7),.val (ae 10),.val (ae 8)])))))) (fo 9 (d_ (aO (au aE 7 (ao 10)) (aO (bh fS (ao 11)) ck)))))))
  (λk δ=>∃ (pd:D) (s7:S) (bs:List (Nat×List Tx)) (a b c:Option S),eS pd/\sT ts s7/\bs.length=k/\bs.map (·.1)=ts.take k/\(∀ b ∈ bs,b.2.length=h/\∀ r ∈ b.2,r.length=w/\∀ n ∈ r,n ∈ ts)/\δ=rb pd m h w r f s7 wy (bs.map bT) a b c)
  (b_ 0 (1 + r)) 0 (rb d4 m h w r f (.own (tD ts)) wy [] none none none) ⟨d4,_,[],none,none,none,p4,.inl rfl,rfl,rfl,by simp,rfl⟩ (λi d δ hd ⟨pd,s7,bs,a,b,c,jd,h7,hbl,hbt,iJ,e⟩=>by
   subst e;obtain⟨hi,rfl⟩:=wW hd;rw[Jb] at hbl hbt;obtain⟨fl,f_,gb,qv,e,iK,hflt,hpd',h7'⟩:=RZ (m:=m) (n:=r) (f:=f) (wy:=wy) (ts:=ts) (by omega) w1 h1 jd h7 (bs.map bT) i (by omega) c;have hz:bs.length < Wa:=by rw[eC]; omega
   have hx:=EM ts i (by omega);refine⟨_,rb f_ m h w r f gb wy ((bs ++ [(ts.getD i 0,fl)]).map bT) (some (.pure (.int i))) (some (.own (.lst (fl.map .str)))) qv,rfl,?_,⟨f_,gb,bs ++ [(ts.getD i 0,fl)],_,_,_,hpd',h7',by simp[hbl],?_,?_,rfl⟩⟩
   ·unfold rb at e ⊢;simp[aI,ae,p_ h (by omega)];rw[e];rcases h7' with rfl | rfl
    ·simp[fo,iR,au,bI,ao,tD,hx,fS,putL,hz,bT]
    ·simp[fo,iR,au,bI,ao,tD,hx,fS,putL,hz,bT]
   ·rw[Jb,QE,hbt,List.take_add_one];simp[show i < ts.length by omega]
   ·intro b hb;rcases Jw.mp hb with hb | hb
    ·exact iJ b hb
    ·simp at hb; subst hb; exact⟨iK,hflt⟩)
 have Ur:bs.length=1 + r:=by simpa using hbl
 have zx:bs.map (·.1)=ts:=by
  rw[hbt,List.take_of_length_le];simp[la]
 refine⟨h,w,bs,pd,?_,⟨h0,h1,w0,w1,hw,by omega,by omega,by rw[zx]; exact aY,λb hb=>hle _ (by rw[<- zx]; exact WJ hb),λb hb=>by rw[zx]; exact iJ b hb⟩,by omega,jd⟩;unfold ly cJ xV dm;unfold dF at ec;simp[bK,aV,aI,aG,ba,bL,bE,bF,bp,e1,aS,dM,cx,eh,ae,e2,bw,e3,D7 r (by omega),bo];rw[ec];simp[cQ,es,e4,aS,ae,D7 r (by omega)];unfold rb dF tD at e5;rw[e5];simp[ao,fS,bO,bb,ae]
theorem gt_int(i j:Int):rP (.int i) (.int j)=some (.pure (.bl (decide (j < i)))):=rfl
theorem ES(i j:Int):cj (.int i) (.int j)=some (.pure (.bl (i == j))):=rfl
theorem add_int(i j:Int):bw (.int i) (.int j)=some (.pure (.int (i + j))):=rfl
theorem lF(h w:Nat)(bs:List (Nat×List Tx)):aE (aK h w bs) (.int 0)=some (.pure (.int h))/\aE (aK h w bs) (.int 1)=some (.pure (.int w))/\aE (aK h w bs) (.int 2)=some (.pure (.tup (bs.map bT))):=by
 refine⟨?_,?_,?_⟩
 ·simp[aE,sV]
 ·simp[aE,wR]
 ·simp[aE,wQ]
theorem zy(np:List Nat)(n:Nat)(b:DS)(ss:List S):cJ np n b ss=if bK np 0 ss then(match b (aV n ss) with
 | .ok fl δ=>(bO fl).bind λr=>(bb 0 ss δ).map λar=>(r,ar)
 | _=>none) else none:=rfl
def iE(bs:List (Nat×List Tx)):D:=.aB (bs.map λb=>(Sum.inr [b.1],dO b.2))
theorem R6(n:Nat):b_ 0 n=(Wp n).map λk:Nat=>D.int (k:Int):=by simp[b_]
theorem zA:∀ (kps acc:List (aT×D)),((acc ++ kps).map (·.1)).Nodup->mh kps acc=acc ++ kps
 | [],acc,_=>by simp[mh]
 | p :: r,acc,h=>by
  have hn:(acc.any λkv=>decide (kv.1=p.1))=false:=by
   rw[List.any_eq_false];intro kv hkv;simp only[decide_eq_true_eq];intro e;rw[QE,List.nodup_append] at h;exact h.2.2 kv.1 (WJ hkv) p.1 (WJ Wj) e
  have hp:putD acc p.1 p.2=acc ++ [p]:=by
   unfold putD;rw[hn];simp
  show mh r (putD acc p.1 p.2)=_;rw[hp,zA r (acc ++ [p]) (by simpa using h)];simp
theorem ET:∀ bs:List (Nat×List Tx),ig (bs.map bT)=some (bs.map λb=>(Sum.inr [b.1],dO b.2))
 | []=>rfl
 | b :: r=>by
  have:=ET r;simp only[Wo];simp[ig,bP,this]
theorem zB(R:cS h w bs):iV (.tup (bs.map bT))=some (.own (iE bs)):=by
 unfold iV;simp only[ET,Wu,Wx];have hz:Wa=16777216:=rfl;rw[if_pos (by have:=R.n1; omega),zA]
 ·rfl
 ·simp only[Q1,WA];rw[List.nodup_iff_pairwise_ne,Jj];have:=R.up;rw[Jj] at this;exact this.imp λ{a b} kS=>by simp; omega
theorem EU(bs:List (Nat×List Tx))(n:Nat):bA (bs.map λb=>((Sum.inr [b.1]:aT),dO b.2)) (.inr [n])=(bs.find? λb=>decide (b.1=n)).map λb=>dO b.2:=by
 unfold bA;rw[List.find?_map];simp[Function.comp_def]
theorem R7(h:n ∈ bs.map (·.1)):iW (iE bs) (.str [n])=some (.pure (dO (dW bs n))):=by
 obtain⟨b,hb,_,e,e2⟩:=oh h;show((bP (.str [n])).bind λk=>(bA (bs.map λb=>((Sum.inr [b.1]:aT),dO b.2)) k).map S.pure)=_;simp only[bP,Wu,EU,e,WG,e2]
theorem R8(h:n ∈ bs.map (·.1)):fK true (.str [n]) (iE bs)=some (.pure (.bl false)):=by
 obtain⟨b,hb,_,e,e2⟩:=oh h;show((bP (.str [n])).map λk=>S.pure (.bl (if true then !(bA (bs.map λb=>((Sum.inr [b.1]:aT),dO b.2)) k).isSome else(bA (bs.map λb=>((Sum.inr [b.1]:aT),dO b.2)) k).isSome)))=_;simp only[bP,WG,EU,e,WG];rfl
theorem R9(xs:List Tx)(m:Nat)(h:∀ x ∈ xs,x.length<=m):gu xs<=xs.length * m:=by
 induction xs with
 | nil=>simp[gu]
 | cons x r ih =>
  have h1:=h x Wj;have h2:=ih λy hy=>h y (Wd _ hy)
  have e:gu (x :: r)=x.length + gu r:=by simp[gu]
  rw[e,WE,Nat.succ_mul];omega
theorem EV(xs:List Tx)(h:gu xs<=16777216):dB [] (.lst (xs.map .str))=some (.pure (.str xs.flatten)):=by
 unfold dB;simp only[sW,sX];rw[if_pos (by simpa using h)]
theorem mul_int(i j:Int)(h0:0<=j)(h1:j<=1000):fY (.int i) (.int j)=some (.pure (.int (i * j))):=by
 unfold fY o8 dY;have:jq i j=true:=by unfold jq; simp; omega
 simp only[this,if_true]
theorem oj(e:b (aV n [.pure x,.pure y]) = .ok (.ret v) δ1):cJ [] n b [.pure x,.pure y]=some (v,[.pure x,.pure y]):=by
 rw[zy,e]; rfl
theorem EW(e:b (aV n [.pure x]) = .ok (.ret v) δ1):cJ [] n b [.pure x]=some (v,[.pure x]):=by
 rw[zy,e]; rfl
theorem de(h:a δ = .ok .next δ1):aF a b δ=b δ1:=by unfold aF; rw[h]; rfl
theorem R_(h:a δ = .ok (.ret v) δ1):aF a b δ = .ok (.ret v) δ1:=by unfold aF; rw[h]; rfl
theorem kB(h:it δ = .ok ds δ1):dN it g b δ=forL g b ds δ1:=by unfold dN; rw[h]; rfl
theorem Sa(ds:List D):di (.tup ds)=some (.pure (.int ds.length)):=rfl
theorem zC(np:List Nat)(n:Nat)(b:DS)(ss:List S):kh np n b ss=if bK np 0 ss then(match b (aV n ss) with
 | .ok fl δ=>(bO fl).bind λr=>(bb 0 ss δ).map λar=>.inl (r,ar)
 | .exc x δ=>(bb 0 ss δ).map λar=>.inr (x,ar)
 | .stuck=>none) else none:=rfl
@[simp] theorem Us {α β:Type} (x:Xc) (δ:Dl) (f:α->Dl->Rs β):(Rs.exc x δ:Rs α).bind f = .exc x δ:=id rfl
section
variable {ce:Tx->Nat}
theorem Sb(hz:z ∈ ys):ys.find? (λx=>ce x == ce z)=some z:=by
 have e:z=[78,111,84,105,108,101]:=by simpa[ys] using hz
 subst e;simp[ys]
theorem Sd(hz:z ∈ ys)(fl:D)(tab:Tx->Bool)(rest:Dl):fM ce ys tab (ao 0) (some (.pure (.exc (ce z) fl)) :: rest) = .ok (.pure (.bl (tab z))) (some (.pure (.exc (ce z) fl)) :: rest):=by
 have e:z=[78,111,84,105,108,101]:=by simpa[ys] using hz
 subst e;simp[fM,ao,ys]
theorem Se(fl:D):n9 ce [.pure (.exc (ce [78,111,84,105,108,101]) fl)]=some (.pure (.str [116,105,108,101]),[.pure (.exc (ce [78,111,84,105,108,101]) fl)]):=by
 have i0:=Sd (ce:=ce) (z:=[78,111,84,105,108,101]) (by simp[ys]) fl;have c1:nH (.lst [.bl false,.bl false,.bl false,.bl false,.bl false,.bl true,.bl false,.bl false,.bl false])=some (.pure (.int 1)):=by rfl
 have c2:nJ (.lst [.bl false,.bl false,.bl false,.bl false,.bl false,.bl true,.bl false,.bl false,.bl false])=some (.pure (.int 5)):=by rfl
 rw[n9,zy,yg];generalize ce [78,111,84,105,108,101]=n at *;simp[bK,aV,aI,i0,au,bI,ao,bw,eC,fo,iR,putL,aW,c1,c2,kU,flat,az,aE,cL,dR,bO,bb]
theorem Sf(n:Int):n5 [.pure (.int n)]=some (.pure (.bl true),[.pure (.int n)]):=rfl
end
theorem Sg(h:a δ = .exc v δ1):aF a b δ = .exc v δ1:=by unfold aF; rw[h]; rfl
theorem EX(xs:List Tx)(h:gu xs<=16777216):dB [] (dO xs)=some (.pure (.str xs.flatten)):=by
 unfold dB;simp only[sW,sX];rw[if_pos (by simpa using h)]
theorem Sh(k t:Nat):b_ (k:Int) (t + 1) = .int (k:Int) :: b_ ((k + 1:Nat):Int) t:=by
 unfold b_;rw[Ji,Wo,WA];simp only[Function.comp_def,JX,D.int.injEq];refine⟨by simp,Jv λi _=>?_⟩;simp only[D.int.injEq];push_cast;omega
theorem om(h1:g (.pure d) δ=some δ1)(h2:b δ1 = .ok .next δ2):forL g b (d :: r) δ=forL g b r δ2:=by
 conv=>lhs; unfold forL
 rw[h1];simp only[h2,ko]
abbrev xN(d:D):Xc:=⟨[78,111,84,105,108,101],.xd [([116,105,108,101],d)]⟩
theorem Si(e:b (aV n [.pure x,.pure y]) = .ok .next δ1):kh [] n b [.pure x,.pure y]=some (.inl (.pure .aq,[.pure x,.pure y])):=by
 rw[zC,e]; rfl
theorem zD(e:b (aV n [.pure x,.pure y]) = .exc v δ1):kh [] n b [.pure x,.pure y]=some (.inr (v,[.pure x,.pure y])):=by
 rw[zC,e]; rfl
def zE (bs:List (Nat×List Tx)) (d:D):Prop:=ju "str" d=some false\/∃ z,d = .str z/\∀ n ∈ bs.map (·.1),z≠[n]
theorem Sj(h:∀ n ∈ bs.map (·.1),z≠[n]):fK true (.str z) (iE bs)=some (.pure (.bl true)):=by
 have hv:bA (bs.map λb=>((Sum.inr [b.1]:aT),dO b.2)) (.inr z)=none:=by
  unfold bA;have:(bs.map λb=>((Sum.inr [b.1]:aT),dO b.2)).find? (λkv=>decide (kv.1 = .inr z))=none:=List.find?_eq_none.mpr λkv hk e=>by
   obtain⟨b,hb,rfl⟩:=WS.mp hk;simp at e;exact h b.1 (WJ hb) e.symm
  rw[this];rfl
 show((bP (.str z)).map λk=>S.pure (.bl (if true then !(bA (bs.map λb=>((Sum.inr [b.1]:aT),dO b.2)) k).isSome else(bA (bs.map λb=>((Sum.inr [b.1]:aT),dO b.2)) k).isSome)))=_;simp[bP,hv]
theorem Sk(R:cS h w bs)(ht:t0 ∈ bs.map (·.1)):lA [.pure (aK h w bs),.pure (.str [t0])]=some (.inl (.pure .aq,[.pure (aK h w bs),.pure (.str [t0])])):=by
 have x2:=(lF h w bs).2.2;have hd:=zB R;have hi:=R8 ht;rw[lA,tF];generalize aK h w bs=ru at *;generalize D.tup (bs.map bT)=bd at *;generalize iE bs=dd at *;refine Si (δ1:=[some (.pure ru),some (.pure (.str [t0]))]) ?_;simp[aV,aW,fU,ju,ao,ae,au,bI,x2,hd,hi]
theorem Sl(R:cS h w bs)(hb:zE bs d):lA [.pure (aK h w bs),.pure d]=some (.inr (xN d,[.pure (aK h w bs),.pure d])):=by
 have x2:=(lF h w bs).2.2;have hd:=zB R;rw[lA,tF];rcases hb with hb | ⟨z,rfl,hz⟩
 ·generalize aK h w bs=ru at *;refine zD (δ1:=[some (.pure ru),some (.pure d)]) ?_;simp[aV,aW,fU,hb,ao,ae,nL]
 ·have hi:=Sj hz;generalize aK h w bs=ru at *;generalize D.tup (bs.map bT)=bd at *;generalize iE bs=dd at *;refine zD (δ1:=[some (.pure ru),some (.pure (.str z))]) ?_;simp[aV,aW,fU,ju,ao,ae,au,bI,x2,hd,hi,nL]
theorem oq:∀ xs:List Tx,gu xs=xs.flatten.length
 | []=>rfl
 | x :: r=>by
  have:=oq r;show x.length + gu r=_;rw[this,QG,Q6]
theorem zF:∀ z:Tx,(z.map λn=>([n]:Tx)).flatten=z
 | []=>rfl
 | n :: r=>by simp[zF r]
theorem Sm(z:Tx)(h:z.length<=1000):dB [] (.lst (z.map λn=>.str [n]))=some (.pure (.str z)):=by
 have:=EV (z.map λn=>[n]) (by rw[oq,zF]; omega);rw[zF,WA] at this;exact this
theorem EY(z:Tx):(gP z).length<=z.length:=by
 unfold gP;rw[wZ];have:=sZ z [];simpa using this
theorem EZ(DD:D)(f:Nat->Tx)(z:Tx)(hd:∀ n ∈ z,iW DD (.str [n])=some (.pure (.str (f n))))(hz:z.length<=100)(hl:(z.flatMap f).length < 64) :
  i7 [.pure DD,.pure (.str z)]=some (.pure (.str (gP (z.flatMap f))),[.pure DD,.pure (.str z)]):=by
 have c:=kr (cs:=[2]) (g:=ah [] 2) (t:=bX) (el:=au iW 0 (ao 2)) (λn:Nat=>D.str [n]) (λn=>D.str (f n)) [some (.pure DD),some (.pure (.str z)),none] z [] (by rw[eC]; simp; omega) (λn hn=>by
  have q:=hd n hn;refine⟨[some (.pure DD),some (.pure (.str z)),some (.pure (.str [n]))],_,.pure (.str (f n)),[some (.pure DD),some (.pure (.str z)),some (.pure (.str [n]))],rfl,rfl,?_,rfl,rfl⟩;simp[au,bI,ao,q])
 have j1:dB [] (.lst (z.map λn=>D.str (f n)))=some (.pure (.str (z.flatMap f))):=by
  have:=EV (z.map f) (by rw[oq,<- List.flatMap_def]; omega);rw[WA,<- List.flatMap_def] at this;exact this
 have s1:nO (.str (z.flatMap f))=some (.own (.lst ((gP (z.flatMap f)).map λn=>.str [n]))):=by
  simp only[nO];rw[if_pos hl];rfl
 have j2:=Sm (gP (z.flatMap f)) (by have:=EY (z.flatMap f); omega);rw[i7,x5];refine oj (δ1:=[some (.pure DD),some (.pure (.str z)),none]) ?_;generalize gP (z.flatMap f)=W at *;generalize hY:(z.map λn=>D.str (f n))=Y at *;generalize z.flatMap f=X at *;generalize hZ:(z.map λn=>D.str [n])=ZS at *;have e:cm (ae 1) [some (.pure DD),some (.pure (.str z)),none] = .ok ZS [some (.pure DD),some (.pure (.str z)),none]:=by
  rw[<- hZ];simp[iC,ae]
 simp only[aV];simp[e,bE,bo];rw[c];simp[cQ,j1,s1,j2]
def jK(bs:List (Nat×List Tx)):D:=.aB (bs.map λb=>(Sum.inr [b.1],.str (tx bs b.1)))
theorem E1(g:Nat->Tx):∀ bs:List (Nat×List Tx),ig (bs.map λb=>.tup [.str [b.1],.str (g b.1)])=some (bs.map λb=>(Sum.inr [b.1],.str (g b.1)))
 | []=>rfl
 | b :: r=>by
  have:=E1 g r;simp only[Wo];simp[ig,bP,this]
theorem Sn{h w:Nat}{bs:List (Nat×List Tx)}(R:cS h w bs):iV (.lst (bs.map λb=>.tup [.str [b.1],.str (tx bs b.1)]))=some (.own (jK bs)):=by
 unfold iV;simp only[E1 (tx bs),Wu,Wx];have hz:Wa=16777216:=rfl;rw[if_pos (by have:=R.n1; omega),zA]
 ·rfl
 ·simp only[Q1,WA];rw[List.nodup_iff_pairwise_ne,Jj];have:=R.up;rw[Jj] at this;exact this.imp λ{a b} kS=>by simp; omega
theorem So{bs:List (Nat×List Tx)}{n:Nat}(h:n ∈ bs.map (·.1)):iW (jK bs) (.str [n])=some (.pure (.str (tx bs n))):=by
 have key:∀ l:List (Nat×List Tx),n ∈ l.map (·.1)->bA (l.map λb=>((Sum.inr [b.1]:aT),D.str (tx bs b.1))) (.inr [n])=some (.str (tx bs n)):=λl=>by
  induction l with
  | nil=>intro h; simp at h
  | cons b r ih =>
   intro h;unfold bA at ih ⊢;rw[Wo,Q7];by_cases e:b.1=n
   ·simp[e]
   ·have:decide ((Sum.inr [b.1]:aT)=Sum.inr [n])=false:=by simp[e]
    simp only[this];refine ih ?_;simp at h ⊢;rcases h with h | h
    ·exact absurd h.symm e
    ·exact h
 show((bP (.str [n])).bind λk=>(bA (bs.map λb=>((Sum.inr [b.1]:aT),D.str (tx bs b.1))) k).map S.pure)=_;simp[bP,key bs h]
abbrev ot:DE:=aG i7 [.val (ae 1),.val (ae 0)]
theorem Sq{h w:Nat}{bs:List (Nat×List Tx)}(G:jb h w bs){z:Tx}(hz:∀ n ∈ z,n ∈ bs.map (·.1))(hl:z.length<=bs.length):gx ot [jK bs] (.str z)=some (.str (gQ bs z)):=by
 have n1:=G.R.n1;have e:=EZ (jK bs) (tx bs) z (λn hn=>So (hz n hn)) (by omega) (RN G z hz hl);unfold gx ot gQ;generalize jK bs=DD at *;generalize gP (z.flatMap (tx bs))=W at *;simp[aG,ba,bL,bF,ae,bp,e,aS,S.d]
abbrev je(bs:List (Nat×List Tx))(t M:Nat):D:=.lst ((Wp M).map λk=>.str (sq bs t k))
theorem E3{b:Nat×List Tx}:∀ {l:List (Nat×List Tx)},(l.map (·.1)).Nodup->b ∈ l->l.find? (λx=>decide (x.1=b.1))=some b
 | a :: r,nd,hb=>by
  rw[Wo] at nd;obtain⟨n1,n2⟩:=Q0.mp nd;rw[Q7];rcases Wh.mp hb with rfl | hb
  ·simp
  ·have:a.1≠b.1:=λe=>n1 (by rw[e]; exact WJ hb)
   simp only[this,decide_false];exact E3 n2 hb
theorem E4{h w:Nat}{bs:List (Nat×List Tx)}(R:cS h w bs){b:Nat×List Tx}(hb:b ∈ bs):b.2.flatten.length<=16/\dW bs b.1=b.2:=by
 obtain⟨h1,h2⟩:=R.dW b hb;have hh:=R.h1;have hw:=R.w1;refine⟨?_,?_⟩
 ·have:=R9 b.2 4 λr hr=>by have:=(h2 r hr).1; omega
  rw[oq] at this;omega
 ·obtain⟨b',eQ,e1,e3,e2⟩:=oh (bs:=bs) (n:=b.1) (WJ hb);rw[e2];have:=E3 (RB R) hb;rw[this] at e3
  cases e3;rfl
theorem Sr{h w t:Nat}{bs:List (Nat×List Tx)}(G:jb h w bs)(ht:t ∈ bs.map (·.1)):∃ M s,s < M/\sq bs t M=sq bs t s/\M<=64 /\
  n4 [.pure (aK h w bs),.pure (.str [t])]=some (.pure (.tup [je bs t M,.int (s:Nat)]),[.pure (aK h w bs),.pure (.str [t])]):=by
 have R:=G.R;have n1:=R.n1;obtain⟨L,hL,fq⟩:=G.fin t ht;obtain⟨M,s,hk,hs,e,hM⟩:=EI (F:=gx ot [jK bs]) fq (λk=>Sq G (lE R ht k) (tS R ht k)) 1000000 0 (by simp) (by omega) (by decide);refine⟨M,s,hs,e,by omega,?_⟩;have hW:qd (gx ot [jK bs]) (.str [t])=some (.tup [je bs t M,.int (s:Nat)]):=by
  show(wk (gx ot [jK bs]) 1000000 [] [t]).map _=_;have:wk (gx ot [jK bs]) 1000000 [] [t]=some ((Wp M).map (sq bs t),s):=hk;rw[this];simp
 have x2:=(lF h w bs).2.2;have hd:=Sn R;have c:=kr (cs:=[3,4]) (g:=dM 2 (cx (ah [] 3) (cx (ah [] 4) eh))) (t:=bX) (el:=d_ (aO (ae 3) (aO (aG i7 [.val (mq (ae 3) (bh (dB []) (ao 4))),.val (ae 3)]) ck))) bT (λb=>D.tup [.str [b.1],.str (tx bs b.1)]) [some (.pure (aK h w bs)),some (.pure (.str [t])),none,none,none] bs [] (by rw[eC]; simp; omega) (λb hb=>by
  obtain⟨l1,l2⟩:=E4 R hb;have j:dB [] (dO b.2)=some (.pure (.str b.2.flatten)):=EX b.2 (by rw[oq]; omega);have g:=EZ (.aB [(Sum.inr [b.1],.str b.2.flatten)]) (λ_=>b.2.flatten) [b.1] (λn hn=>by
   have:n=b.1:=by simpa using hn
   rw[this];show((bP (.str [b.1])).bind λk=>(bA [((Sum.inr [b.1]:aT),D.str b.2.flatten)] k).map S.pure)=_;simp[bP,bA]) (by simp) (by rw[show([b.1].flatMap λ_=>b.2.flatten)=b.2.flatten by simp]; omega)
  have e:gP ([b.1].flatMap λ_=>b.2.flatten)=tx bs b.1:=by
   unfold tx;rw[l2];simp
  rw[e] at g;refine⟨[some (.pure (aK h w bs)),some (.pure (.str [t])),none,some (.pure (.str [b.1])),some (.pure (dO b.2))],_,.pure (.tup [.str [b.1],.str (tx bs b.1)]),[some (.pure (aK h w bs)),some (.pure (.str [t])),none,some (.pure (.str [b.1])),some (.pure (dO b.2))],rfl,rfl,?_,rfl,rfl⟩;generalize dO b.2=B at *;generalize b.2.flatten=BF at *;generalize tx bs b.1=TX at *;generalize aK h w bs=ru at *;simp[mq,ae,ao,j,bP,aG,ba,bL,bF,bp,g,aS])
 rw[n4,x6];generalize aK h w bs=ru at *;generalize hB:bs.map bT=B at *;generalize (bs.map λb=>D.tup [.str [b.1],.str (tx bs b.1)])=Y at *;generalize jK bs=DD at *;refine oj (δ1:=[some (.pure ru),some (.pure (.str [t])),some (.pure DD),none,none]) ?_;rw[de (δ1:=[some (.pure ru),some (.pure (.str [t])),some (.own DD),none,none]) (by
  have i:cm (au aE 0 (aw (eD (.int 2)))) [some (.pure ru),some (.pure (.str [t])),none,none,none] = .ok B [some (.pure ru),some (.pure (.str [t])),none,none,none]:=by
   simp[iC,au,bI,ao,x2]
  simp only[aV];simp[aI,i,bE,bo];rw[c];simp[cQ,hd])]
 have Ss:qd (gx (aG i7 [.val (ae 1),.val (ae 0)]) [DD]) (.str [t])=some (.tup [je bs t M,.int (s:Nat)]):=hW;clear hW hk;generalize aG i7 [.val (ae 1),.val (ae 0)]=FB at *;simp[tu,ae,i4,S.d,Ss]
def iD(o:Option Nat):Option D:=o.map λj=>D.int (j:Int)
structure Iv(S:Nat->Tx)(ds:List (aT×D))(i:Nat)(l:Tx):Prop where
 val:∀ x,bA ds (.inr [x])=iD (match bR S x i with
  | some j=>some j
  | none=>if x ∈ l then some i else none)
 len:ds.length<=26 * i + l.length
def pN(ds:List (aT×D))(a i:Nat):List (aT×D):=match bA ds (.inr [a]) with
 | some _=>ds
 | none=>ds ++ [(.inr [a],.int (i:Int))]
theorem Su(ds:List (aT×D))(k:aT)(v:D)(k':aT):bA (ds ++ [(k,v)]) k'=match bA ds k' with
  | some d=>some d
  | none=>if k=k' then some v else none:=by
 unfold bA;rw[List.find?_append]
 cases ds.find? λkv=>decide (kv.1=k') with
 | some p=>rfl
 | none =>
  by_cases h:k=k' <;> simp[h]
theorem zG{ds:List (aT×D)}{k:aT}{v:D}(h:bA ds k=none):putD ds k v=ds ++ [(k,v)]:=by
 unfold putD;rw[if_neg];intro q;obtain⟨kv,h1,h2⟩:=List.any_eq_true.mp q;unfold bA at h;have:=List.find?_eq_none.mp (by
  cases e:ds.find? λkv=>decide (kv.1=k) with
  | none=>rfl
  | some p=>rw[e] at h; cases h) kv h1
 exact this h2
theorem Iv.put{S:Nat->Tx}{ds:List (aT×D)}{i:Nat}{l:Tx}(I:Iv S ds i l)(a:Nat):Iv S (pN ds a i) i (l ++ [a]):=by
 have va:=I.val a;have hl:=I.len;unfold pN
 cases e:bA ds (.inr [a]) with
 | some d =>
  refine⟨λx=>?_,by simp; omega⟩;simp only;rw[I.val x]
  cases f:bR S x i with
  | some j=>rfl
  | none =>
   simp only;by_cases hx:x ∈ l
   ·simp[hx]
   ·have:x≠a:=λz=>by
     rw[e,<- z,f] at va;simp[hx,iD] at va
    simp[hx,this]
 | none =>
  refine⟨λx=>?_,by simp; omega⟩;simp only;rw[Su,I.val x]
  cases f:bR S x i with
  | some j=>rfl
  | none =>
   simp only;by_cases hx:x ∈ l
   ·simp[hx,iD]
   ·by_cases z:x=a
    ·subst z;simp[hx,iD]
    ·have z':a≠x:=λq=>z q.symm
     simp[hx,iD,z,z']
theorem Iv.next{S:Nat->Tx}{ds:List (aT×D)}{i:Nat}(I:Iv S ds i (S i))(h:(S i).length<=26):Iv S ds (i + 1) []:=by
 have hl:=I.len;refine⟨λx=>?_,by simp; omega⟩;rw[I.val x,RF]
 cases bR S x i with
 | some j=>rfl
 | none =>
  by_cases hx:x ∈ S i <;> simp[hx]
abbrev s8(ru tt L st:D)(ds:List (aT×D))(o5 o6:Option S)(o7:Option D):Dl:=[some (.pure ru),some (.pure tt),some (.pure L),some (.pure st),some (.own (.aB ds)),o5,o6,o7.map .pure]
theorem Sv(ru tt L st:D)(ds:List (aT×D))(o6:Option S)(i a:Nat)(hz:ds.length < Wa):ku 4 (ae 7) (ae 5) (s8 ru tt L st ds (some (.pure (.int (i:Int)))) o6 (some (.str [a]))) = .ok .next (s8 ru tt L st (pN ds a i) (some (.pure (.int (i:Int)))) o6 (some (.str [a]))):=by
 unfold pN
 cases e:bA ds (.inr [a]) with
 | some d=>simp[ku,jC,ae,S.d,bP,hz,e]
 | none=>simp[ku,jC,ae,S.d,bP,hz,e,zG e]
theorem E5(ru tt L st:D)(S:Nat->Tx)(i:Nat)(hi:i<=100)(o6:Option DV.S):∀ (l done:Tx) (ds:List (aT×D)) (o7:Option D),Iv S ds i done->(done ++ l).length<=26 ->
  ∃ bN o7',Iv S bN i (done ++ l)/\forL (ah [] 7) (ku 4 (ae 7) (ae 5)) (l.map λn=>D.str [n]) (s8 ru tt L st ds (some (.pure (.int (i:Int)))) o6 o7) = .ok .next (s8 ru tt L st bN (some (.pure (.int (i:Int)))) o6 o7')
 | [],done,ds,o7,I,_=>⟨ds,o7,by rw[WK]; exact I,rfl⟩
 | a :: l,done,ds,o7,I,hl=>by
  have hd:=I.len;have jN:done.length + (l.length + 1)<=26:=by simpa using hl
  obtain⟨bN,o7',I',e⟩:=E5 ru tt L st S i hi o6 l (done ++ [a]) (pN ds a i) (some (.str [a])) (I.put a) (by rw[QW]; exact hl);refine⟨bN,o7',by rw[QW] at I'; exact I',?_⟩;rw[Wo,om (δ1:=s8 ru tt L st ds (some (.pure (.int (i:Int)))) o6 (some (.str [a]))) rfl (Sv ru tt L st ds o6 i a (by rw[eC]; omega))];exact e
theorem Sw(ru tt L st:D)(S:Nat->Tx)(M:Nat)(hM:M<=100)(hS:∀ k,(S k).length<=26):∃ ds o5 o6 o7,Iv S ds M []/\forL (dM 2 (cx (ah [] 5) (cx (ah [] 6) eh))) (dN (cm (ae 6)) (ah [] 7) (ku 4 (ae 7) (ae 5))) (ij ((Wp M).map λk=>D.str (S k))) (s8 ru tt L st [] none none none) = .ok .next (s8 ru tt L st ds o5 o6 o7):=by
 obtain⟨δ',e,ds,o5,o6,o7,I,rfl⟩:=nN (g:=dM 2 (cx (ah [] 5) (cx (ah [] 6) eh))) (b:=dN (cm (ae 6)) (ah [] 7) (ku 4 (ae 7) (ae 5)))
  (λn δ=>∃ ds o5 o6 o7,Iv S ds n []/\δ=s8 ru tt L st ds o5 o6 o7) (ij ((Wp M).map λk=>D.str (S k))) 0 (s8 ru tt L st [] none none none) ⟨[],none,none,none,⟨λx=>by simp[bA,bR,iD],by simp⟩,rfl⟩ (λi d δ hd ⟨ds,o5,o6,o7,I,e⟩=>by
   subst e;obtain⟨d',h1,rfl⟩:=vZ hd;have hi:i < M:=by
    have:=(We.mp h1).1;simpa using this
   have:d' = .str (S i):=by
    rw[WF,List.getElem?_range hi] at h1;simpa using h1.symm
   subst this;rw[Jb] at I ⊢;obtain⟨bN,o7',I',e⟩:=E5 ru tt L st S i (by omega) (some (.pure (.str (S i)))) (S i) [] ds o7 I (by simpa using hS i);rw[Q1] at I';refine⟨s8 ru tt L st ds (some (.pure (.int (i:Int)))) (some (.pure (.str (S i)))) o7,s8 ru tt L st bN (some (.pure (.int (i:Int)))) (some (.pure (.str (S i)))) o7',rfl,?_,bN,_,_,o7',I'.next (hS i),rfl⟩;have iq:cm (ae 6) (s8 ru tt L st ds (some (.pure (.int (i:Int)))) (some (.pure (.str (S i)))) o7) = .ok ((S i).map λn=>D.str [n]) (s8 ru tt L st ds (some (.pure (.int (i:Int)))) (some (.pure (.str (S i)))) o7):=by
    simp[iC,ae]
   exact(kB iq).trans e)
 refine⟨ds,o5,o6,o7,?_,e⟩;have:0 + (ij ((Wp M).map λk=>D.str (S k))).length=M:=by simp[ij]
 rw[this] at I;exact I
theorem zev{b:DS}{n:Nat}{x y:D}{v:S}{δ1:Dl}(e:b (aV n [.pure x,.pure y]) = .ok (.ret v) δ1):kh [] n b [.pure x,.pure y]=some (.inl (v,[.pure x,.pure y])):=by
 rw[zC,e]; rfl
theorem Sx{h w:Nat}{bs:List (Nat×List Tx)}(R:cS h w bs):mG [.pure (aK h w bs)]=some (.own (tD (bs.map (·.1))),[.pure (aK h w bs)]):=by
 have n1:=R.n1;have x2:=(lF h w bs).2.2;have c:=kr (cs:=[1,2]) (g:=dM 2 (cx (ah [] 1) (cx (ah [] 2) eh))) (t:=bX) (el:=ae 1) bT (λb=>D.str [b.1]) [some (.pure (aK h w bs)),none,none] bs [] (by rw[eC]; simp; omega) (λb hb=>⟨[some (.pure (aK h w bs)),some (.pure (.str [b.1])),some (.pure (dO b.2))],_,.pure (.str [b.1]),[some (.pure (aK h w bs)),some (.pure (.str [b.1])),some (.pure (dO b.2))],rfl,rfl,by simp[ae],rfl,rfl⟩);have et:tD (bs.map (·.1)) = .lst (bs.map λb=>D.str [b.1]):=by unfold tD; rw[WA]; rfl
 rw[mG,x9,et];generalize aK h w bs=ru at *;generalize hB:bs.map bT=B at *;generalize (bs.map λb=>D.str [b.1])=Y at *;refine EW (δ1:=[some (.pure ru),none,none]) ?_;have i:cm (au aE 0 (aw (eD (.int 2)))) [some (.pure ru),none,none] = .ok B [some (.pure ru),none,none]:=by
  simp[iC,au,bI,ao,x2]
 simp only[aV];simp[i,bE,bo];rw[c];simp[cQ]
def eG(bs:List (Nat×List Tx))(f:Nat->Option Nat):List D:=bs.map λb=>D.tup [.str [b.1],(iD (f b.1)).getD .aq]
theorem Iv.get{S:Nat->Tx}{ds:List (aT×D)}{i:Nat}(I:Iv S ds i [])(x:Nat):(bA ds (.inr [x])).getD .aq=(iD (bR S x i)).getD .aq:=by
 rw[I.val x]
 cases bR S x i with
 | some j=>rfl
 | none=>rfl
theorem Sy{h w t:Nat}{bs:List (Nat×List Tx)}(G:jb h w bs)(ht:t ∈ bs.map (·.1)):∃ M,(∀ k,∃ j,j < M/\sq bs t k=sq bs t j) /\
  i8 [.pure (aK h w bs),.pure (.str [t])]=some (.inl (.own (.lst (eG bs λx=>bR (sq bs t) x M)),[.pure (aK h w bs),.pure (.str [t])])):=by
 have R:=G.R;have n1:=R.n1;obtain⟨M,s,hs,e,hM,gs⟩:=Sr G ht;refine⟨M,EJ (λi j q=>by show gQ bs _=gQ bs _; rw[q]) hs e,?_⟩;have g0:=Sk R ht;have gt:=Sx R;obtain⟨ds,o5,o6,o7,I,el⟩:=Sw (aK h w bs) (.str [t]) (je bs t M) (.int (s:Nat)) (sq bs t) M (by omega) (λk=>WQ (tS R ht k) n1);have c:=kr (cs:=[7]) (g:=ah [] 7) (t:=bX) (el:=d_ (aO (ae 7) (aO (k_ 4 (ae 7)) ck))) (λb:Nat×List Tx=>D.str [b.1]) (λb=>D.tup [.str [b.1],(iD (bR (sq bs t) b.1 M)).getD .aq]) (s8 (aK h w bs) (.str [t]) (je bs t M) (.int (s:Nat)) ds o5 o6 none) bs [] (by rw[eC]; simp; omega) (λb hb=>by
  have q:=I.get b.1;refine⟨s8 (aK h w bs) (.str [t]) (je bs t M) (.int (s:Nat)) ds o5 o6 (some (.str [b.1])),_,.pure (.tup [.str [b.1],(iD (bR (sq bs t) b.1 M)).getD .aq]),s8 (aK h w bs) (.str [t]) (je bs t M) (.int (s:Nat)) ds o5 o6 (some (.str [b.1])),rfl,rfl,?_,rfl,rfl⟩;rw[<- q];generalize je bs t M=L at *;generalize aK h w bs=ru at *;simp[ae,k_,pP,S.d,bP])
 have et:tD (bs.map (·.1)) = .lst (bs.map λb=>D.str [b.1]):=by unfold tD; rw[WA]; rfl
 have Sz:∀ δ:Dl,δ[2]? = some (some (.pure (je bs t M)))->pM (ae 2) δ = .ok (ij ((Wp M).map λk=>D.str (sq bs t k))) δ:=λδ hδ=>by
  have Ut:δ.set 2 (some (.pure (je bs t M)))=δ:=by
   apply JO;intro i;by_cases hi:2=i
   ·subst hi;rw[Wk (We.mp hδ).1,hδ]
   ·rw[W7 hi]
  simp[pM,ae,hδ,S.d]
 rw[i8,tK];have hR:eG bs (λx=>bR (sq bs t) x M)=bs.map λb=>D.tup [.str [b.1],(iD (bR (sq bs t) b.1 M)).getD .aq]:=rfl
 rw[hR];generalize (bs.map λb=>D.tup [.str [b.1],(iD (bR (sq bs t) b.1 M)).getD .aq])=Y at *;generalize ij ((Wp M).map λk=>D.str (sq bs t k))=EN at *;generalize je bs t M=L at *;generalize hTD:tD (bs.map (·.1))=T at *;generalize (bs.map λb:Nat×List Tx=>D.str [b.1])=TS at *;generalize aK h w bs=ru at *;refine zev (δ1:=s8 ru (.str [t]) L (.int (s:Nat)) ds o5 o6 o7) ?_;rw[de (δ1:=[some (.pure ru),some (.pure (.str [t])),none,none,none,none,none,none]) (by
  simp[aV,j7,jG,ba,bL,bF,ae,bp,g0,aS])]
 rw[de (δ1:=[some (.pure ru),some (.pure (.str [t])),some (.pure L),some (.pure (.int (s:Nat))),none,none,none,none]) (by
  simp[aI,aG,ba,bL,bF,ae,bp,gs,aS,dM,cx,eh])]
 rw[de (δ1:=s8 ru (.str [t]) L (.int (s:Nat)) [] none none none) (by simp[aI,ma])];rw[de ((kB (Sz _ rfl)).trans el)];have i:cm (aG mG [.val (ae 0)]) (s8 ru (.str [t]) L (.int (s:Nat)) ds o5 o6 o7) = .ok TS (s8 ru (.str [t]) L (.int (s:Nat)) ds o5 o6 o7):=by
  simp[iC,aG,ba,bL,bF,ae,bp,gt,aS,S.d,et]
 have g9:([7]:List Nat).any (bE (s8 ru (.str [t]) L (.int (s:Nat)) ds o5 o6 o7))=false:=by cases o7 <;> rfl
 have nR:bo [7] (s8 ru (.str [t]) L (.int (s:Nat)) ds o5 o6 o7)=s8 ru (.str [t]) L (.int (s:Nat)) ds o5 o6 none:=rfl;show((c7 _ _ _ _ _ _).bind _)=_;rw[wO,i];simp only[ko];rw[g9,nR,c];rfl
theorem SD{h w:Nat}{bs:List (Nat×List Tx)}(R:cS h w bs){d:D}(hb:zE bs d):i8 [.pure (aK h w bs),.pure d]=some (.inr (xN d,[.pure (aK h w bs),.pure d])):=by
 have g:=Sl R hb;rw[i8,tK];generalize aK h w bs=ru at *;refine zD (δ1:=[some (.pure ru),some (.pure d),none,none,none,none,none,none]) (Sg ?_);simp[aV,j7,jG,ba,bL,bF,ae,bp,g,aS]
def kd(K:List Nat):List (aT×D):=K.map λn=>(.inr [n],.bl true)
theorem SH(K:List Nat)(n:Nat):bA (kd K) (.inr [n])=if n ∈ K then some (.bl true) else none:=by
 induction K with
 | nil=>rfl
 | cons a r ih =>
  unfold bA kd at ih ⊢;rw[Wo,Q7];by_cases e:a=n
  ·simp[e]
  ·have e':n≠a:=λz=>e z.symm
   have:decide ((Sum.inr [a]:aT)=Sum.inr [n])=false:=by simp[e]
   simp only[this,ih];simp[e']
theorem SJ(K:List Nat)(n:Nat):putD (kd K) (.inr [n]) (.bl true)=kd (if n ∈ K then K else K ++ [n]):=by
 by_cases h:n ∈ K
 ·rw[if_pos h];unfold putD;have:(kd K).any (λkv=>decide (kv.1 = .inr [n]))=true:=List.any_eq_true.mpr ⟨(.inr [n],.bl true),WS.mpr ⟨n,h,rfl⟩,by simp⟩;rw[if_pos this];unfold kd;rw[WA];refine Jv λa _=>?_
  simp only[Function.comp];split
  ·rfl
  ·rfl
 ·rw[if_neg h,zG (by rw[SH,if_neg h])];unfold kd;rw[QE];rfl
abbrev s6(ru so dd:D)(K:List Nat)(o4 o5:Option S):Dl:=[some (.pure ru),some (.pure so),some (.own dd),some (.own (.aB (kd K))),o4,o5]
theorem E6(ru so dd:D)(ts:List Nat)(ht:ts.length<=26)(o4:Option S):∀ (z:Tx) (K:List Nat) (o5:Option S),(∀ n ∈ z,n ∈ ts)->K.Nodup->(∀ n ∈ K,n ∈ ts) ->
  ∃ o5',forL (ah [] 5) (gv 3 (ae 5) (eD (.bl true))) (z.map λn=>D.str [n]) (s6 ru so dd K o4 o5) = .ok .next (s6 ru so dd (cP K z) o4 o5')
 | [],K,o5,_,_,_=>⟨o5,rfl⟩
 | a :: z,K,o5,hz,nd,hK=>by
  have hl:=lD nd hK;have gK:(if a ∈ K then K else K ++ [a]).Nodup:=by
   split
   ·exact nd
   ·rename_i q;refine JR.mpr ⟨nd,by simp,λx hx y hy e=>q ?_⟩;have:y=a:=by simpa using hy
    rw[<- this,<- e]; exact hx
  have zH:∀ n ∈ (if a ∈ K then K else K ++ [a]),n ∈ ts:=λn hn=>by
   split at hn
   ·exact hK n hn
   ·rcases Jw.mp hn with q | q
    ·exact hK n q
    ·have:n=a:=by simpa using q
     rw[this]; exact hz a Wj
  obtain⟨o5',e⟩:=E6 ru so dd ts ht o4 z _ (some (.pure (.str [a]))) (λn hn=>hz n (Wd _ hn)) gK zH;have ed:cP K (a :: z)=cP (if a ∈ K then K else K ++ [a]) z:=by
   conv=>lhs; unfold cP
   split <;> rfl
  refine⟨o5',?_⟩;rw[ed,<- e,Wo,om (δ1:=s6 ru so dd K o4 (some (.pure (.str [a])))) rfl];have SK:(kd K).length < Wa:=by rw[eC]; unfold kd; rw[Wx]; omega
  have:=SJ K a;unfold s6;rw[<- this];generalize kd K=ds at *;simp[gv,jC,ae,S.d,bP,SK]
theorem E7{h w:Nat}{bs:List (Nat×List Tx)}(R:cS h w bs)(ru so:D):∀ (z:Tx) (K:List Nat) (o4 o5:Option S),(∀ n ∈ z,n ∈ bs.map (·.1))->K.Nodup->(∀ n ∈ K,n ∈ bs.map (·.1)) ->
  ∃ K' o4' o5',K'.Nodup/\(∀ n ∈ K',n ∈ bs.map (·.1))/\(∀ x,x ∈ K' ↔ x ∈ K\/∃ y ∈ z,x ∈ (dW bs y).flatten) /\
   forL (ah [] 4) (dN (cm (bh (dB []) (aw (au iW 2 (ao 4))))) (ah [] 5) (gv 3 (ae 5) (eD (.bl true)))) (z.map λn=>D.str [n]) (s6 ru so (iE bs) K o4 o5) = .ok .next (s6 ru so (iE bs) K' o4' o5')
 | [],K,o4,o5,_,nd,hK=>⟨K,o4,o5,nd,hK,λx=>by simp,rfl⟩
 | a :: z,K,o4,o5,hz,nd,hK=>by
  have n1:=R.n1;have ha:=hz a Wj;obtain⟨o5',e⟩:=E6 ru so (iE bs) (bs.map (·.1)) (by simpa using n1) (some (.pure (.str [a]))) (dW bs a).flatten K o5 (λn hn=>tR R ha hn) nd hK;have gK:=tN (z:=(dW bs a).flatten) nd;have zH:∀ n ∈ cP K (dW bs a).flatten,n ∈ bs.map (·.1):=λn hn=>by
   rcases qt.mp hn with q | q
   ·exact hK n q
   ·exact tR R ha q
  obtain⟨K',p4,p5,a1,a2,a3,e2⟩:=E7 R ru so z _ (some (.pure (.str [a]))) o5' (λn hn=>hz n (Wd _ hn)) gK zH;refine⟨K',p4,p5,a1,a2,λx=>?_,?_⟩
  ·rw[a3 x,qt];constructor
   ·rintro ((q | q) | ⟨y,q1,q2⟩)
    ·exact .inl q
    ·exact .inr ⟨a,Wj,q⟩
    ·exact .inr ⟨y,Wd _ q1,q2⟩
   ·rintro (q | ⟨y,q1,q2⟩)
    ·exact .inl (.inl q)
    ·rcases Wh.mp q1 with rfl | q1
     ·exact .inl (.inr q2)
     ·exact .inr ⟨y,q1,q2⟩
  ·have hx:=R7 ha;obtain⟨b,hb,_,_,eb⟩:=oh ha;have j:dB [] (dO (dW bs a))=some (.pure (.str (dW bs a).flatten)):=EX _ (by
    rw[oq,eb];have:=(E4 R hb).1;omega)
   rw[<- e2,Wo,om (δ1:=s6 ru so (iE bs) K (some (.pure (.str [a]))) o5) rfl];refine(kB (ds:=(dW bs a).flatten.map λn=>D.str [n]) ?_).trans e;unfold s6;generalize (dW bs a).flatten=BF at *;generalize dO (dW bs a)=BB at *;generalize iE bs=DD at *;simp[iC,au,bI,ao,hx,j,S.d]
theorem SM{h w:Nat}{bs:List (Nat×List Tx)}(R:cS h w bs){z:Tx}(hz:∀ n ∈ z,n ∈ bs.map (·.1)):kA [.pure (aK h w bs),.pure (tD z)]=some (.own (tD (gQ bs z)),[.pure (aK h w bs),.pure (tD z)]):=by
 have n1:=R.n1;have x2:=(lF h w bs).2.2;have hd:=zB R;obtain⟨K,o4,o5,nd,hK,hm,e⟩:=E7 R (aK h w bs) (tD z) z [] none none hz List.nodup_nil (by simp);have hl:=lD nd hK;rw[Wx] at hl;have hs:eE K=gQ bs z:=tP (sY nd) (zt _) λx=>by
  rw[qa,hm x,qu];simp
 have p1:nQ (.aB (kd K))=some (.own (.lst (K.map λn=>.str [n]))):=by
  show some (S.own (D.lst ((kd K).map λp=>lr p.1)))=_;unfold kd;rw[WA];rfl
 have p2:=EO K (by omega);rw[hs] at p2;have ez:tD z = .lst (z.map λn=>D.str [n]):=rfl;have et:tD (gQ bs z) = .lst ((gQ bs z).map λn=>D.str [n]):=rfl;rw[kA,xY,et];generalize ((gQ bs z).map λn=>D.str [n])=Y at *;generalize (z.map λn=>D.str [n])=ZS at *;generalize tD z=T at *;generalize aK h w bs=ru at *;generalize D.tup (bs.map bT)=bd at *;generalize iE bs=dd at *;refine oj (δ1:=s6 ru T dd K o4 o5) ?_;rw[de (δ1:=[some (.pure ru),some (.pure T),some (.own dd),none,none,none]) (by simp[aV,aI,au,bI,ao,x2,hd])];rw[de (δ1:=s6 ru T dd [] none none) (by simp[aI,ma,kd])];have i:cm (ae 1) (s6 ru T dd [] none none) = .ok ZS (s6 ru T dd [] none none):=by simp[iC,ae,S.d,ez]
 rw[de ((kB i).trans e)];unfold s6;generalize kd K=kk at *;simp[ao,p1,p2]
theorem SN(f g:DE)(δ:Dl):pR f g δ=(f δ).bind λr δ1=>(g δ1).bind λs δ2=>match r,s with
 | .pure (.int i),.pure (.int j)=>.ok (b_ i (j - i).toNat) δ2
 | _,_=>.stuck:=id rfl
abbrev f6(ru tt:D)(nw:Option S)(ds:List (aT×D))(o4 o5:Option S):Dl:=[some (.pure ru),some (.pure tt),nw,some (.own (.aB ds)),o4,o5]
abbrev fI:DS:=(c9 (aW (bf (fK true) (ae 5) (ao 3))) (gv 3 (ae 5) (ae 4)) dj)
theorem SQ(ds:List (aT×D))(a:Nat):fK true (.str [a]) (.aB ds)=some (.pure (.bl (!(bA ds (.inr [a])).isSome))):=rfl
theorem SR(ru tt:D)(nw:Option S)(ds:List (aT×D))(i a:Nat)(hz:ds.length < Wa):fI (f6 ru tt nw ds (some (.pure (.int (i:Int)))) (some (.pure (.str [a])))) = .ok .next (f6 ru tt nw (pN ds a i) (some (.pure (.int (i:Int)))) (some (.pure (.str [a])))):=by
 have hp:=SQ ds a;unfold pN
 cases e:bA ds (.inr [a]) with
 | some d =>
  rw[e] at hp;simp at hp;simp[fI,aW,ae,ao,hp]
 | none =>
  rw[e] at hp;simp at hp;simp[fI,aW,ae,ao,hp,gv,jC,S.d,bP,hz,zG e]
theorem E8(ru tt:D)(S:Nat->Tx)(i:Nat)(hi:i<=100)(nw:Option DV.S):∀ (l done:Tx) (ds:List (aT×D)) (o5:Option DV.S),Iv S ds i done->(done ++ l).length<=26 ->
  ∃ bN o5',Iv S bN i (done ++ l)/\forL (ah [] 5) fI (l.map λn=>D.str [n]) (f6 ru tt nw ds (some (.pure (.int (i:Int)))) o5) = .ok .next (f6 ru tt nw bN (some (.pure (.int (i:Int)))) o5')
 | [],done,ds,o5,I,_=>⟨ds,o5,by rw[WK]; exact I,rfl⟩
 | a :: l,done,ds,o5,I,hl=>by
  have hd:=I.len;have jN:done.length + (l.length + 1)<=26:=by simpa using hl
  obtain⟨bN,o5',I',e⟩:=E8 ru tt S i hi nw l (done ++ [a]) (pN ds a i) (some (.pure (.str [a]))) (I.put a) (by rw[QW]; exact hl);refine⟨bN,o5',by rw[QW] at I'; exact I',?_⟩;rw[Wo,om (δ1:=f6 ru tt nw ds (some (.pure (.int (i:Int)))) (some (.pure (.str [a])))) rfl (SR ru tt nw ds i a (by rw[eC]; omega))];exact e
abbrev fB:DS:=(aF (aI (aG kA [.val (ae 0),.val (ae 2)]) (ah [] 2)) (dN (cm (ae 2)) (ah [] 5) fI))
theorem E9{h w t:Nat}{bs:List (Nat×List Tx)}(R:cS h w bs)(ht:t ∈ bs.map (·.1)):∀ (m i:Nat) (ds:List (aT×D)) (s:S) (o4 o5:Option S),(s = .own (tD (sq bs t i))\/s = .pure (tD (sq bs t i)))->Iv (sq bs t) ds (i + 1) []->i + m<=99 ->
  ∃ bN nw o4' o5',Iv (sq bs t) bN (i + m + 1) []/\forL (ah [] 4) fB (b_ ((i + 1:Nat):Int) m) (f6 (aK h w bs) (.str [t]) (some s) ds o4 o5) = .ok .next (f6 (aK h w bs) (.str [t]) nw bN o4' o5')
 | 0,i,ds,s,o4,o5,_,I,_=>⟨ds,some s,o4,o5,I,rfl⟩
 | m + 1,i,ds,s,o4,o5,hs,I,hb=>by
  have n1:=R.n1;have g:=SM R (lE R ht i);have hl:=WQ (tS R ht (i + 1)) n1;obtain⟨ds1,o51,I1,e1⟩:=E8 (aK h w bs) (.str [t]) (sq bs t) (i + 1) (by omega) (some (.pure (tD (sq bs t (i + 1))))) (sq bs t (i + 1)) [] ds o5 I (by simpa using hl);rw[Q1] at I1;obtain⟨bN,nw,p4,p5,I2,e2⟩:=E9 R ht m (i + 1) ds1 _ (some (.pure (.int ((i + 1:Nat):Int)))) o51 (.inr rfl) (I1.next hl) (by omega);refine⟨bN,nw,p4,p5,by rw[show i + (m + 1) + 1=i + 1 + m + 1 by omega]; exact I2,?_⟩;have eN:tD (sq bs t (i + 1)) = .lst ((sq bs t (i + 1)).map λn=>D.str [n]):=rfl;have g':kA [.pure (aK h w bs),.pure (tD (sq bs t i))]=some (.own (tD (sq bs t (i + 1))),[.pure (aK h w bs),.pure (tD (sq bs t i))]):=g;rw[Sh,om (δ1:=f6 (aK h w bs) (.str [t]) (some s) ds (some (.pure (.int ((i + 1:Nat):Int)))) o5) rfl]
  ·exact e2
  ·generalize aK h w bs=ru at *;generalize ((sq bs t (i + 1)).map λn=>D.str [n])=NS at *;generalize tD (sq bs t (i + 1))=N at *;generalize tD (sq bs t i)=T0 at *;generalize (((i + 1:Nat):Int))=ii at *;have k1:aI (aG kA [.val (ae 0),.val (ae 2)]) (ah [] 2) (f6 ru (.str [t]) (some s) ds (some (.pure (.int ii))) o5) = .ok .next (f6 ru (.str [t]) (some (.own N)) ds (some (.pure (.int ii))) o5):=by
    rcases hs with rfl | rfl <;> simp[aI,aG,ba,bL,bF,ae,bp,g',aS]
   rw[fB,de k1];have iq:cm (ae 2) (f6 ru (.str [t]) (some (.own N)) ds (some (.pure (.int ii))) o5) = .ok NS (f6 ru (.str [t]) (some (.pure N)) ds (some (.pure (.int ii))) o5):=by
    simp[iC,ae,S.d,eN]
   exact(kB iq).trans e1
theorem SV{h w t:Nat}{bs:List (Nat×List Tx)}(R:cS h w bs)(ht:t ∈ bs.map (·.1)):∃ ds,Iv (sq bs t) ds (bs.length + 1) []/\nY [.pure (aK h w bs),.pure (.str [t])]=some (.own (.aB ds),[.pure (aK h w bs),.pure (.str [t])]):=by
 have n1:=R.n1;have x2:=(lF h w bs).2.2;obtain⟨ds,nw,o4,o5,I,e⟩:=E9 R ht bs.length 0 [(.inr [t],.int 0)] (.own (tD (sq bs t 0))) none none (.inl rfl) ⟨λx=>by
  have:bR (sq bs t) x 1=if x=t then some 0 else none:=by
   unfold bR;by_cases h:x=t <;> simp[sq,h,JA]
  rw[this];by_cases h:x=t
  ·simp[h,bA,iD]
  ·have h':¬ t=x:=λz=>h z.symm
   simp[h,h',bA,iD],by simp⟩ (by omega)
 refine⟨ds,by rw[Jb] at I; exact I,?_⟩;have hlen:di (.tup (bs.map bT))=some (.pure (.int ((bs.length:Nat):Int))):=by rw[Sa]; simp
 have e':forL (ah [] 4) fB (b_ 1 bs.length) (f6 (aK h w bs) (.str [t]) (some (.own (.lst [.str [t]]))) [(.inr [t],.int 0)] none none) = .ok .next (f6 (aK h w bs) (.str [t]) nw ds o4 o5):=e;rw[nY,xZ];generalize aK h w bs=ru at *;generalize D.tup (bs.map bT)=bd at *;refine oj (δ1:=[some (.pure ru),some (.pure (.str [t])),nw,none,o4,o5]) ?_;rw[de (δ1:=[some (.pure ru),some (.pure (.str [t])),some (.own (.lst [.str [t]])),none,none,none]) (by simp[aV,aI,ae])];rw[de (δ1:=f6 ru (.str [t]) (some (.own (.lst [.str [t]]))) [(.inr [t],.int 0)] none none) (by simp[aI,mq,ae,bP])];have iq:pR (eD (.int 1)) (bf bw (bh di (aw (au aE 0 (aw (eD (.int 2)))))) (aw (eD (.int 1)))) (f6 ru (.str [t]) (some (.own (.lst [.str [t]]))) [(.inr [t],.int 0)] none none) = .ok (b_ 1 bs.length) (f6 ru (.str [t]) (some (.own (.lst [.str [t]]))) [(.inr [t],.int 0)] none none):=by
  have:(((bs.length:Nat):Int) + 1 - 1).toNat=bs.length:=by omega
  simp[SN,au,bI,ao,x2,hlen,add_int,this]
 rw[de ((kB iq).trans e')];simp[sC]
theorem SY{h w t M:Nat}{bs:List (Nat×List Tx)}(R:cS h w bs)(ht:t ∈ bs.map (·.1))(hM:∀ k,∃ j,j < M/\sq bs t k=sq bs t j):(eG bs λx=>bR (sq bs t) x M)=eG bs λx=>bR (sq bs t) x (bs.length + 1):=by
 unfold eG;refine Jv λb hb=>?_
 have:bR (sq bs t) b.1 M=bR (sq bs t) b.1 (bs.length + 1):=RE (λj hj=>by
  obtain⟨i,h1,h2⟩:=hM j;exact⟨i,h1,by rw[<- h2]; exact hj⟩) λj hj=>by
  obtain⟨i,h1,h2⟩:=RD R ht hj;exact⟨i,by omega,h2⟩
 simp only[this]
theorem E_(f:Nat->Option Nat):∀ bs:List (Nat×List Tx),hJ 49 (eG bs f)=true
 | []=>rfl
 | b :: r=>by
  show(flat 49 (.tup [.str [b.1],(iD (f b.1)).getD .aq]) && hJ 49 (eG r f))=true;rw[E_ f r]
  cases f b.1 <;> rfl
theorem S0(bs:List (Nat×List Tx))(f:Nat->Option Nat):kU (.lst (eG bs f)) (.lst (eG bs f))=some (.pure (.bl false)):=by
 have hf:flat 50 (.lst (eG bs f))=true:=by
  show hJ 49 (eG bs f)=true;exact E_ f bs
 unfold kU;rw[hf,oV hf];rfl
theorem zI:∀ n:Nat,fG (W8 n (.bl true))=some (W8 n true)
 | 0=>rfl
 | n + 1=>by
  rw[WI,WI];simp[fG,zI n]
abbrev h8(ru tt:D)(ds:List (aT×D))(S1:D)(o4 o5:Option S):Dl:=[some (.pure ru),some (.pure tt),some (.own (.aB ds)),some (.own S1),o4,o5,none,none]
abbrev hA:DE:=(j4 (fU "tuple" (ao 7)) (nh (bf (ml false) (au aE 7 (aw (eD (.int 1)))) (aw (eD .aq))) (aG n5 [.val (au aE 7 (aw (eD (.int 1))))])))
abbrev hT:DS:=(aF (aI (nK i8 [.val (ae 0),.val (ae 1)]) (ah [] 5)) (aF (c9 (lZ (gq (aW (fU "list" (ao 5)))) (aW (au kU 5 (ao 3)))) (bW (eD (.bl false))) dj) (aF (c9 (gq (aW (bh j6 (aw (nF [7] 5 (ah [5] 7) bX hA))))) (bW (eD (.bl false))) dj) (fo 5 (eD (.int 0))))))
theorem S2(bs:List (Nat×List Tx))(hn:bs.length<=26)(f:Nat->Option Nat)(δ:Dl)(hδ:δ.length=8)(h7:δ[7]? = some none):cR [7] (ah [5] 7) bX hA (eG bs f) δ [] = .ok (W8 bs.length (.bl true)) δ:=by
 have:=kr (cs:=[7]) (g:=ah [5] 7) (t:=bX) (el:=hA) (λb:Nat×List Tx=>D.tup [.str [b.1],(iD (f b.1)).getD .aq]) (λ_=>D.bl true) δ bs [] (by rw[eC]; simp; omega) (λb hb=>by
  have q:aE (.tup [.str [b.1],(iD (f b.1)).getD .aq]) (.int 1)=some (.pure ((iD (f b.1)).getD .aq)):=by simp[aE,cL,dR]
  have hg:∀ x:S,(δ.set 7 (some x))[7]? = some (some x):=λx=>Wk (by omega)
  refine⟨δ.set 7 (some (.pure (.tup [.str [b.1],(iD (f b.1)).getD .aq]))),_,.pure (.bl true),δ.set 7 (some (.pure (.tup [.str [b.1],(iD (f b.1)).getD .aq]))),rfl,rfl,?_,?_,rfl⟩
  ·cases e:f b.1 with
   | none =>
    rw[e] at q;have q:aE (.tup [.str [b.1],.aq]) (.int 1)=some (.pure .aq):=q;simp[hA,j4,nh,fU,ju,ao,hg,au,bI,iD,q,ml,nD]
   | some j =>
    rw[e] at q;have q:aE (.tup [.str [b.1],.int (j:Int)]) (.int 1)=some (.pure (.int (j:Int))):=q;have gw:=Sf (j:Int);simp[hA,j4,nh,fU,ju,ao,hg,au,bI,iD,q,ml,nD,aG,ba,bL,bF,bp,aS,gw]
  ·show(δ.set 7 _).set 7 none=δ;rw[List.set_set];apply JO;intro i;by_cases hi:7=i
   ·subst hi;rw[Wk (by omega),h7]
   ·rw[W7 hi])
 show cR [7] (ah [5] 7) bX hA (bs.map λb=>D.tup [.str [b.1],(iD (f b.1)).getD .aq]) δ []=_;rw[this,Q1];congr 1
 clear this hn;induction bs with
 | nil=>rfl
 | cons b r ih=>rw[Wo,ih,WE,WI]
theorem S3{h w t:Nat}{bs:List (Nat×List Tx)}(G:jb h w bs)(ht:t ∈ bs.map (·.1))(ds:List (aT×D))(o4 o5:Option S):∃ o5',hT (h8 (aK h w bs) (.str [t]) ds (.lst (eG bs λx=>bR (sq bs t) x (bs.length + 1))) o4 o5) = .ok .next (h8 (aK h w bs) (.str [t]) ds (.lst (eG bs λx=>bR (sq bs t) x (bs.length + 1))) o4 o5'):=by
 have R:=G.R;have n1:=R.n1;obtain⟨M,hM,g⟩:=Sy G ht;rw[SY R ht hM] at g;have eJ:=S0 bs λx=>bR (sq bs t) x (bs.length + 1)
 have hl:(eG bs λx=>bR (sq bs t) x (bs.length + 1)).length=bs.length:=by unfold eG; simp
 have ha:j6 (.lst (W8 bs.length (.bl true)))=some (.pure (.bl true)):=by
  show(fG (W8 bs.length (.bl true))).map _=_;rw[zI];simp
 have hc:=S2 bs n1 (λx=>bR (sq bs t) x (bs.length + 1)) [some (.pure (aK h w bs)),some (.pure (.str [t])),some (.own (.aB ds)),some (.own (.lst (eG bs λx=>bR (sq bs t) x (bs.length + 1)))),o4,none,none,none] rfl rfl;generalize (eG bs λx=>bR (sq bs t) x (bs.length + 1))=RR at *;generalize aK h w bs=ru at *;refine⟨some (.own (.lst (RR ++ [.int 0]))),?_⟩;rw[hT,de (δ1:=h8 ru (.str [t]) ds (.lst RR) o4 (some (.own (.lst RR)))) (by simp[aI,nK,jG,ba,bL,bF,ae,bp,g,aS])];rw[de (δ1:=h8 ru (.str [t]) ds (.lst RR) o4 (some (.own (.lst RR)))) (by simp[aW,fU,ju,ao,au,bI,eJ])];rw[de (δ1:=h8 ru (.str [t]) ds (.lst RR) o4 (some (.own (.lst RR)))) (by
  simp[aW,nF,bE,bo];rw[hc];simp[cQ,ha])]
 simp[fo,iR,putL,S.d,show RR.length < Wa by rw[eC]; omega]
theorem S4{h w t:Nat}{bs:List (Nat×List Tx)}(G:jb h w bs)(ht:t ∈ bs.map (·.1)):i9 [.pure (aK h w bs),.pure (.str [t])]=some (.pure (.bl true),[.pure (aK h w bs),.pure (.str [t])]):=by
 have R:=G.R;have n1:=R.n1;have x2:=(lF h w bs).2.2;obtain⟨ds,I,g⟩:=SV R ht;have c:=kr (cs:=[6]) (g:=ah [] 6) (t:=bX) (el:=d_ (aO (au aE 6 (aw (eD (.int 0)))) (aO (k_ 2 (au aE 6 (aw (eD (.int 0))))) ck))) bT (λb=>D.tup [.str [b.1],(iD (bR (sq bs t) b.1 (bs.length + 1))).getD .aq]) [some (.pure (aK h w bs)),some (.pure (.str [t])),some (.own (.aB ds)),none,none,none,none,none] bs [] (by rw[eC]; simp; omega) (λb hb=>by
  have q:=I.get b.1;have x0:aE (bT b) (.int 0)=some (.pure (.str [b.1])):=by simp[aE,cL,dR]
  refine⟨[some (.pure (aK h w bs)),some (.pure (.str [t])),some (.own (.aB ds)),none,none,none,some (.pure (bT b)),none],_,.pure (.tup [.str [b.1],(iD (bR (sq bs t) b.1 (bs.length + 1))).getD .aq]),[some (.pure (aK h w bs)),some (.pure (.str [t])),some (.own (.aB ds)),none,none,none,some (.pure (bT b)),none],rfl,rfl,?_,rfl,rfl⟩;rw[<- q];generalize bT b=B at *;generalize aK h w bs=ru at *;simp[au,bI,ao,x0,k_,pP,S.d,bP])
 have hR:(eG bs λx=>bR (sq bs t) x (bs.length + 1))=bs.map λb=>D.tup [.str [b.1],(iD (bR (sq bs t) b.1 (bs.length + 1))).getD .aq]:=rfl
 rw[<- hR] at c;have tn:=λo4 o5=>S3 G ht ds o4 o5
 generalize (eG bs λx=>bR (sq bs t) x (bs.length + 1))=RR at *;generalize hB:bs.map bT=B at *;rw[i9,yd];generalize aK h w bs=ru at *;obtain⟨δ',e,o4,o5,rfl⟩:=nN (g:=ah [] 4) (b:=hT) (λ_ δ=>∃ o4 o5,δ=h8 ru (.str [t]) ds (.lst RR) o4 o5) (b_ 0 2) 0 (h8 ru (.str [t]) ds (.lst RR) none none) ⟨_,_,rfl⟩ (λi d δ hd ⟨o4,o5,e⟩=>by
  subst e;obtain⟨o5',e⟩:=tn (some (.pure d)) o5;exact⟨_,_,rfl,e,_,_,rfl⟩)
 refine oj (δ1:=h8 ru (.str [t]) ds (.lst RR) o4 o5) ?_;rw[de (δ1:=[some (.pure ru),some (.pure (.str [t])),some (.own (.aB ds)),none,none,none,none,none]) (by simp[aV,aI,aG,ba,bL,bF,ae,bp,g,aS])];rw[de (δ1:=h8 ru (.str [t]) ds (.lst RR) none none) (by
  have i:cm (au aE 0 (aw (eD (.int 2)))) [some (.pure ru),some (.pure (.str [t])),some (.own (.aB ds)),none,none,none,none,none] = .ok B [some (.pure ru),some (.pure (.str [t])),some (.own (.aB ds)),none,none,none,none,none]:=by
   simp[iC,au,bI,ao,x2]
  simp[aI,i,bE,bo];rw[c];simp[cQ])]
 have iq:eX (eD (.int 2)) (h8 ru (.str [t]) ds (.lst RR) none none) = .ok (b_ 0 2) (h8 ru (.str [t]) ds (.lst RR) none none):=by
  have:=p_ 2 (by decide);simp at this;simp[this]
 rw[de ((kB iq).trans e)];rfl
structure Thing(bs:List (Nat×List Tx))(d:D):Prop where
 bad:zE bs d
 fl:flat 50 d=true
theorem S5{ce:Tx->Nat}{h w:Nat}{bs:List (Nat×List Tx)}(R:cS h w bs){d:D}(T:Thing bs d):lC ce [.pure (aK h w bs),.pure d]=some (.pure (.bl true),[.pure (aK h w bs),.pure d]):=by
 have g:=SD R T.bad;have gk:=Se (ce:=ce) (.xd [([116,105,108,101],d)]);have hf:=Sb (ce:=ce) (z:=[78,111,84,105,108,101]) (by simp[ys]);have he:cj d d=some (.pure (.bl true)):=by
  unfold cj;rw[T.fl,oV T.fl];rfl
 rw[lC,yh];generalize aK h w bs=ru at *;have ea:∀ δ:Dl,δ[2]? = some (some (.pure (.exc (ce [78,111,84,105,108,101]) (.xd [([116,105,108,101],d)]))))->p8 ce ys [116,105,108,101] (ao 2) δ = .ok (.pure d) δ:=λδ hδ=>by simp[p8,ao,hδ,hf]
 have hs:cj (.str [116,105,108,101]) (.str [116,105,108,101])=some (.pure (.bl true)):=by simp[cj,flat,az]
 refine oj (δ1:=[some (.pure ru),some (.pure d),none]) (R_ ?_);have hy:ys.contains [78,111,84,105,108,101]=true:=by simp[ys]
 simp only[aV];simp[sG,wj,j7,jG,ba,bL,bE,bF,ae,bp,g,aS,hy];have cI:=ea [some (.pure ru),some (.pure d),some (.pure (.exc (ce [78,111,84,105,108,101]) (.xd [([116,105,108,101],d)])))] rfl;generalize D.exc (ce [78,111,84,105,108,101]) (.xd [([116,105,108,101],d)])=X0 at *;simp[j4,aG,ba,bL,bF,ae,bp,gk,aS,hs,cI,ao,he,unset]
def fA(st:Nat):List (Nat×List Tx):=(Wp 26).map λk=>(97 + k,[[97 + k,97 + (k + st) % 26]])
theorem Fb(st:Nat):(fA st).map (·.1)=(Wp 26).map (97 + ·):=by unfold fA; rw[WA]; rfl
theorem Fd{n st:Nat}:n ∈ (fA st).map (·.1) ↔ 97<=n/\n<=122:=by
 rw[Fb,List.mem_map];constructor
 ·rintro ⟨k,hk,rfl⟩;have:=Q8.mp hk;omega
 ·intro h;exact⟨n - 97,Q8.mpr (by omega),by omega⟩
theorem S6(st:Nat):cS 1 2 (fA st):=by
 refine⟨by decide,by decide,by decide,by decide,by decide,by unfold fA; simp,by unfold fA; simp,by rw[Fb]; decide,λb hb=>Fd.mp (WJ hb),λb hb=>?_⟩;obtain⟨k,hk,rfl⟩:=WS.mp hb;have hk:=Q8.mp hk;refine⟨rfl,λr hr=>?_⟩;have:r=[97 + k,97 + (k + st) % 26]:=by simpa using hr
 subst this;refine⟨rfl,λn hn=>Fd.mpr ?_⟩;have:=JY (k + st) (show 0 < 26 by decide);simp at hn;omega
theorem S7(st:Nat):jb 1 2 (fA st):=by
 have R:=S6 st;have key:∀ n ∈ (fA st).map (·.1),∃ m,dW (fA st) n=[[n,m]]:=λn hn=>by
  obtain⟨b,hb,e,_,eb⟩:=oh hn;obtain⟨k,_,rfl⟩:=WS.mp hb;subst e;exact⟨_,eb⟩
 refine RM R (λn hn=>?_) λn hn=>?_
 ·obtain⟨m,e⟩:=key n hn;rw[e];simp
 ·obtain⟨m,e⟩:=key n hn;unfold tx;rw[e];exact WQ (EY _) (by simp)
section
variable {ce:Tx->Nat}
abbrev s9(bc:D)(a1 a2 a3 a4 a5 a6:Option S):Dl:=[some (.pure bc),a1,a2,a3,a4,a5,a6,none,none]
abbrev z0:DS:=(aI (aG mE [.val (ae 1)]) (ah [] 2))
abbrev z1:DS:=(aI (aG ly [.io 2,.val (eD (.int 6))]) (ah [] 3))
abbrev y1:DS:=(aI (eD (.str [97,98,99,100,101,102,103,104,105,106,107,108,109,110,111,112,113,114,115,116,117,118,119,120,121,122])) (ah [] 4))
abbrev y2:DS:=(aI (bf bw (eD (.int 1)) (aw (bf fY (eD (.int 2)) (aw (aG dD [.io 2,.val (eD (.int 13))]))))) (ah [] 5))
abbrev yE:DE:=(d_ (aO (au aE 4 (ao 8)) (aO (d_ (aO (bf bw (au aE 4 (ao 8)) (aw (au aE 4 (aw (bf dZ (au bw 8 (ao 5)) (aw (eD (.int 26)))))))) ck)) ck)))
abbrev y3:DS:=(aI (d_ (aO (eD (.int 1)) (aO (eD (.int 2)) (aO (bh fS (aw (c7 [8] (eX (eD (.int 26))) (ah [] 8) bX yE))) ck)))) (ah [] 3))
abbrev z2:DS:=(c9 (aW (bf cj (aG dD [.io 2,.val (eD (.int 8))]) (aw (eD (.int 0))))) (aF y1 (aF y2 y3)) dj)
abbrev z3:DS:=(c9 (gq (aW (bh j6 (aw (c7 [7] (cm (au aE 3 (aw (eD (.int 2))))) (ah [] 7) bX (aG i9 [.val (ae 3),.val (au aE 7 (aw (eD (.int 0))))])))))) (bW (eD (.bl false))) dj)
abbrev z4(ce:Tx->Nat):DS:=(dN (cm (fj (aO (eD .aq) (aO (eD (.str [])) (aO (eD (.str [65])) (aO (eD (.str [97,98])) (aO (k8 [.str [97]]) (aO (eD (.tup [.str [97]])) (aO (eD (.int 5)) ck))))))))) (ah [] 6) (c9 (gq (aW (aG (lC ce) [.val (ae 3),.val (ae 6)]))) (bW (eD (.bl false))) dj))
theorem S8(i j:Int)(h:0 < j):dZ (.int i) (.int j)=some (.pure (.int (i % j))):=by
 simp only[dZ,dY]; rw[if_pos (by simpa using h)]
theorem S9(bc:D)(a1 a2 a3 a6:Option S)(st:Nat):cR [8] (ah [] 8) bX yE ((Wp 26).map λk:Nat=>D.int (k:Int)) (s9 bc a1 a2 a3 (some (.pure (.str dF))) (some (.pure (.int (st:Int)))) a6) [] = .ok ((fA st).map bT) (s9 bc a1 a2 a3 (some (.pure (.str dF))) (some (.pure (.int (st:Int)))) a6):=by
 have:=kr (cs:=[8]) (g:=ah [] 8) (t:=bX) (el:=yE) (λk:Nat=>D.int (k:Int)) (λk=>bT (97 + k,[[97 + k,97 + (k + st) % 26]])) (s9 bc a1 a2 a3 (some (.pure (.str dF))) (some (.pure (.int (st:Int)))) a6) (Wp 26) [] (by rw[eC]; simp) (λk hk=>by
  have hk:=Q8.mp hk;have hm:=JY (k + st) (show 0 < 26 by decide);have x1:aE (.str dF) (.int (k:Int))=some (.pure (.str [97 + k])):=by
   rw[wV dF k hk (by decide),zw k hk]
  have x2:aE (.str dF) (.int (((k + st) % 26:Nat):Int))=some (.pure (.str [97 + (k + st) % 26])):=by
   rw[wV dF _ hm (by decide),zw _ hm]
  have em:((k:Int) + (st:Int)) % 26=(((k + st) % 26:Nat):Int):=by push_cast; rfl
  have md:=S8 ((k:Int) + (st:Int)) 26 (by decide);rw[em] at md;have ha:bw (.str [97 + k]) (.str [97 + (k + st) % 26])=some (.pure (.str [97 + k,97 + (k + st) % 26])):=by simp[bw,eC]
  generalize ((k + st) % 26:Nat)=km at *;refine⟨[some (.pure bc),a1,a2,a3,some (.pure (.str dF)),some (.pure (.int (st:Int))),a6,none,some (.pure (.int (k:Int)))],_,.pure (bT (97 + k,[[97 + k,97 + km]])),[some (.pure bc),a1,a2,a3,some (.pure (.str dF)),some (.pure (.int (st:Int))),a6,none,some (.pure (.int (k:Int)))],rfl,rfl,?_,rfl,rfl⟩;generalize dF=LE at *;simp[yE,au,bI,ao,x1,x2,add_int,md,ha])
 rw[this,Q1];unfold fA;rw[WA];rfl
theorem S_{h w:Nat}{bs:List (Nat×List Tx)}(G:jb h w bs)(bc:D)(a1 a2 a4 a5 a6:Option S):cR [7] (ah [] 7) bX (aG i9 [.val (ae 3),.val (au aE 7 (aw (eD (.int 0))))]) (bs.map bT) (s9 bc a1 a2 (some (.pure (aK h w bs))) a4 a5 a6) [] = .ok (W8 bs.length (.bl true)) (s9 bc a1 a2 (some (.pure (aK h w bs))) a4 a5 a6):=by
 have n1:=G.R.n1;have rep:∀ l:List (Nat×List Tx),(l.map λ_=>D.bl true)=W8 l.length (.bl true):=λl=>by
  induction l with
  | nil=>rfl
  | cons b r ih=>rw[Wo,ih,WE,WI]
 have:=kr (cs:=[7]) (g:=ah [] 7) (t:=bX) (el:=aG i9 [.val (ae 3),.val (au aE 7 (aw (eD (.int 0))))]) bT (λ_=>D.bl true) (s9 bc a1 a2 (some (.pure (aK h w bs))) a4 a5 a6) bs [] (by rw[eC]; simp; omega) (λb hb=>by
  have g:=S4 G (WJ (f:=(·.1)) hb);have x0:aE (bT b) (.int 0)=some (.pure (.str [b.1])):=by simp[aE,cL,dR]
  refine⟨[some (.pure bc),a1,a2,some (.pure (aK h w bs)),a4,a5,a6,some (.pure (bT b)),none],_,.pure (.bl true),[some (.pure bc),a1,a2,some (.pure (aK h w bs)),a4,a5,a6,some (.pure (bT b)),none],rfl,rfl,?_,rfl,rfl⟩;generalize bT b=B at *;generalize aK h w bs=ru at *;simp[au,bI,ao,x0,aG,ba,bL,bF,ae,bp,g,aS])
 rw[this,Q1,rep]
theorem Fe{h w:Nat}{bs:List (Nat×List Tx)}(R:cS h w bs)(bc:D)(a1 a2 a4 a5:Option S):∀ (Ff:List D) (o:Option S),(∀ x ∈ Ff,Thing bs x) ->
  ∃ o':Option S,forL (ah [] 6) (c9 (gq (aW (aG (lC ce) [.val (ae 3),.val (ae 6)]))) (bW (eD (.bl false))) dj) Ff (s9 bc a1 a2 (some (.pure (aK h w bs))) a4 a5 o) = .ok .next (s9 bc a1 a2 (some (.pure (aK h w bs))) a4 a5 o')
 | [],o,_=>⟨o,rfl⟩
 | x :: r,o,hs=>by
  obtain⟨o',ih⟩:=Fe R bc a1 a2 a4 a5 r (some (.pure x)) λy hy=>hs y (Wd _ hy)
  have e0:=S5 (ce:=ce) R (hs x Wj);refine⟨o',?_⟩;rw[om (δ1:=s9 bc a1 a2 (some (.pure (aK h w bs))) a4 a5 (some (.pure x))) rfl (δ2:=s9 bc a1 a2 (some (.pure (aK h w bs))) a4 a5 (some (.pure x))) (by
   generalize aK h w bs=ru at *;simp[aW,aG,ba,bL,bF,ae,bp,e0,aS])]
  exact ih
theorem Ta{h w:Nat}{bs:List (Nat×List Tx)}(R:cS h w bs)(h6:bs.length<=6){d:D}(hp:eS d)(bc:D)(a1 a4 a5 a6:Option S):∃ (h' w':Nat) (rS:List (Nat×List Tx)) (d':D) (q4 q5:Option S),jb h' w' rS /\
  z2 (s9 bc a1 (some (.own d)) (some (.pure (aK h w bs))) a4 a5 a6) = .ok .next (s9 bc a1 (some (.own d')) (some (.pure (aK h' w' rS))) q4 q5 a6):=by
 obtain⟨r,d1,e1,l1,p1⟩:=jJ hp 8 8 rfl (by decide) (by decide);by_cases hr:r=0
 ·obtain⟨r2,d2,e2,l2,p2⟩:=jJ p1 13 13 rfl (by decide) (by decide);refine⟨1,2,fA (1 + 2 * r2),d2,some (.pure (.str dF)),some (.pure (.int ((1 + 2 * r2:Nat):Int))),S7 _,?_⟩;have hq:cj (.int (r:Int)) (.int 0)=some (.pure (.bl true)):=by rw[ES,hr]; rfl
  have mu:=mul_int 2 (r2:Int) (by omega) (by omega);have ad:(1:Int) + 2 * (r2:Int)=((1 + 2 * r2:Nat):Int):=by omega
  have c:=S9 bc a1 (some (.own d2)) (some (.pure (aK h w bs))) a6 (1 + 2 * r2);have pt:fS (.lst ((fA (1 + 2 * r2)).map bT))=some (.pure (.tup ((fA (1 + 2 * r2)).map bT))):=by
   simp[fS]
  have Tb:aK 1 2 (fA (1 + 2 * r2)) = .tup [.int 1,.int 2,.tup ((fA (1 + 2 * r2)).map bT)]:=rfl;rw[Tb];generalize (fA (1 + 2 * r2)).map bT=SB at *;generalize aK h w bs=ru at *;have k1:z2 (s9 bc a1 (some (.own d)) (some (.pure ru)) a4 a5 a6)=(aF y1 (aF y2 y3)) (s9 bc a1 (some (.own d1)) (some (.pure ru)) a4 a5 a6):=by
   simp[z2,aW,aG,ba,bL,bE,bF,ae,bp,e1,aS,hq]
  have k2:y1 (s9 bc a1 (some (.own d1)) (some (.pure ru)) a4 a5 a6) = .ok .next (s9 bc a1 (some (.own d1)) (some (.pure ru)) (some (.pure (.str dF))) a5 a6):=rfl;rw[k1,de k2];rw[de (δ1:=s9 bc a1 (some (.own d2)) (some (.pure ru)) (some (.pure (.str dF))) (some (.pure (.int ((1 + 2 * r2:Nat):Int)))) a6) (by
   generalize dF=LE at *;rw[<- ad];simp[y2,aI,aG,ba,bL,bE,bF,ae,bp,e2,aS,mu,add_int])]
  generalize ((1 + 2 * r2:Nat):Int)=ST at *;generalize dF=LE at *;have i:eX (eD (.int 26)) (s9 bc a1 (some (.own d2)) (some (.pure ru)) (some (.pure (.str LE))) (some (.pure (.int ST))) a6) = .ok ((Wp 26).map λk:Nat=>D.int (k:Int)) (s9 bc a1 (some (.own d2)) (some (.pure ru)) (some (.pure (.str LE))) (some (.pure (.int ST))) a6):=by
   have:=p_ 26 (by decide);simp at this;rw[<- R6];simp[this]
  generalize ((Wp 26).map λk:Nat=>D.int (k:Int))=RG at *;unfold y3;generalize hy:yE=YE at *;have ec:c7 [8] (eX (eD (.int 26))) (ah [] 8) bX YE (s9 bc a1 (some (.own d2)) (some (.pure ru)) (some (.pure (.str LE))) (some (.pure (.int ST))) a6) = .ok (.own (.lst SB)) (s9 bc a1 (some (.own d2)) (some (.pure ru)) (some (.pure (.str LE))) (some (.pure (.int ST))) a6):=by
   rw[wO,i];simp only[ko];rw[if_neg (by simp[bE])];have:bo [8] (s9 bc a1 (some (.own d2)) (some (.pure ru)) (some (.pure (.str LE))) (some (.pure (.int ST))) a6)=s9 bc a1 (some (.own d2)) (some (.pure ru)) (some (.pure (.str LE))) (some (.pure (.int ST))) a6:=rfl;rw[this,c];rfl
  generalize c7 [8] (eX (eD (.int 26))) (ah [] 8) bX YE=EC at *;simp[aI,ec,pt]
 ·refine⟨h,w,bs,d1,a4,a5,RL R h6,?_⟩;have hq:cj (.int (r:Int)) (.int 0)=some (.pure (.bl false)):=by
   rw[ES];have:((r:Int) == 0)=false:=by simpa using hr
   rw[this]
  generalize aK h w bs=ru at *;simp[z2,aW,aG,ba,bL,bE,bF,ae,bp,e1,aS,hq]
theorem Tc(bc:D)(c:Int)(o2 o3 o4 o5 o6:Option S):∃ (q2 q3 q4 q5 q6:Option S),(aF z0 (aF z1 (aF z2 (aF z3 (z4 ce))))) (s9 bc (some (.pure (.int c))) o2 o3 o4 o5 o6) = .ok .next (s9 bc (some (.pure (.int c))) q2 q3 q4 q5 q6):=by
 obtain⟨d0,e0,p0⟩:=RQ c;obtain⟨h1,w1,bs1,d1,e1,R1,n6,p1⟩:=R0 p0 6 (by decide) (by decide);have e1:ly [.own d0,.pure (.int 6)]=some (.pure (aK h1 w1 bs1),[.own d1,.pure (.int 6)]):=e1;obtain⟨h,w,bs,d2,q4,q5,G,e2⟩:=Ta R1 n6 p1 bc (some (.pure (.int c))) o4 o5 o6;have R:=G.R;have x2:=(lF h w bs).2.2;have cr:=S_ G bc (some (.pure (.int c))) (some (.own d2)) q4 q5 o6;have ha:j6 (.lst (W8 bs.length (.bl true)))=some (.pure (.bl true)):=by
  show(fG (W8 bs.length (.bl true))).map _=_;rw[zI];simp
 have Td:∀ n ∈ bs.map (·.1),97<=n:=λn hn=>by
  obtain⟨b,hb,rfl⟩:=WS.mp hn;exact(R.OA b hb).1
 have things:∀ x ∈ [D.aq,.str [],.str [65],.str [97,98],.lst [.str [97]],.tup [.str [97]],.int 5],Thing bs x:=λx hx=>by
  simp at hx;rcases hx with rfl | rfl | rfl | rfl | rfl | rfl | rfl
  ·exact⟨.inl rfl,rfl⟩
  ·exact⟨.inr ⟨_,rfl,λn hn e=>by simp at e⟩,rfl⟩
  ·exact⟨.inr ⟨_,rfl,λn hn e=>by have:=Td n hn; simp at e; omega⟩,rfl⟩
  ·exact⟨.inr ⟨_,rfl,λn hn e=>by simp at e⟩,rfl⟩
  ·exact⟨.inl rfl,rfl⟩
  ·exact⟨.inl rfl,rfl⟩
  ·exact⟨.inl rfl,rfl⟩
 obtain⟨q6,e4⟩:=Fe (ce:=ce) R bc (some (.pure (.int c))) (some (.own d2)) q4 q5 _ o6 things;refine⟨some (.own d2),some (.pure (aK h w bs)),q4,q5,q6,?_⟩;generalize hBL:bs.map bT=B at *;generalize W8 bs.length (D.bl true)=RP at *;generalize aK h w bs=RU at *;generalize aK h1 w1 bs1=RV at *;rw[de (δ1:=s9 bc (some (.pure (.int c))) (some (.own d0)) o3 o4 o5 o6) (by simp[z0,aI,aG,ba,bL,bE,bF,ae,bp,aS,e0])];rw[de (δ1:=s9 bc (some (.pure (.int c))) (some (.own d1)) (some (.pure RV)) o4 o5 o6) (by simp[z1,aI,aG,ba,bL,bE,bF,ae,bp,aS,e1])];rw[de e2];rw[de (δ1:=s9 bc (some (.pure (.int c))) (some (.own d2)) (some (.pure RU)) q4 q5 o6) (by
  have i3:cm (au aE 3 (aw (eD (.int 2)))) (s9 bc (some (.pure (.int c))) (some (.own d2)) (some (.pure RU)) q4 q5 o6) = .ok B (s9 bc (some (.pure (.int c))) (some (.own d2)) (some (.pure RU)) q4 q5 o6):=by
   simp[iC,au,bI,ao,x2]
  have ec:c7 [7] (cm (au aE 3 (aw (eD (.int 2))))) (ah [] 7) bX (aG i9 [.val (ae 3),.val (au aE 7 (aw (eD (.int 0))))]) (s9 bc (some (.pure (.int c))) (some (.own d2)) (some (.pure RU)) q4 q5 o6) = .ok (.own (.lst RP)) (s9 bc (some (.pure (.int c))) (some (.own d2)) (some (.pure RU)) q4 q5 o6):=by
   rw[wO,i3];simp only[ko];rw[if_neg (by simp[bE])];have:bo [7] (s9 bc (some (.pure (.int c))) (some (.own d2)) (some (.pure RU)) q4 q5 o6)=s9 bc (some (.pure (.int c))) (some (.own d2)) (some (.pure RU)) q4 q5 o6:=rfl;rw[this,cr];rfl
  unfold z3;generalize c7 [7] (cm (au aE 3 (aw (eD (.int 2))))) (ah [] 7) bX (aG i9 [.val (ae 3),.val (au aE 7 (aw (eD (.int 0))))])=EC at *;simp[aW,ec,ha])]
 have i6:cm (fj (aO (eD .aq) (aO (eD (.str [])) (aO (eD (.str [65])) (aO (eD (.str [97,98])) (aO (k8 [.str [97]]) (aO (eD (.tup [.str [97]])) (aO (eD (.int 5)) ck)))))))) (s9 bc (some (.pure (.int c))) (some (.own d2)) (some (.pure RU)) q4 q5 o6) = .ok [D.aq,.str [],.str [65],.str [97,98],.lst [.str [97]],.tup [.str [97]],.int 5] (s9 bc (some (.pure (.int c))) (some (.own d2)) (some (.pure RU)) q4 q5 o6):=by
  simp[iC,k8,S.d]
 exact(kB i6).trans e4
theorem Te(ns:List Int)(hn:ns.length<=63):og ce [.pure (.lst (ns.map .int))]=some (.pure (.bl true),[.pure (.lst (ns.map .int))]):=by
 obtain⟨c0,e0⟩:=RS ns;have Tf:∀ (ns:List Int) (lo hi:Option Int),cU (ns.map D.int) lo hi=(cU ns lo hi).map D.int:=λns lo hi=>by
  unfold cU;simp[List.map_take,List.map_drop]
 have ha:bw (.lst [.int c0]) (.lst (cU (ns.map .int) (some 1) (some 5)))=some (.own (.lst ((c0 :: cU ns (some 1) (some 5)).map .int))):=by
  rw[Tf];have hl:(cU ns (some 1) (some 5)).length<=63:=by
   unfold cU;simp;omega
  simp only[bw];rw[if_pos (by rw[eC]; simp; omega)];simp
 have hs:jv (some 1) (some 5) (.lst (ns.map .int))=some (.own (.lst (cU (ns.map .int) (some 1) (some 5)))):=rfl;generalize D.lst (ns.map .int)=bc at *;obtain⟨δ',e,o1,o2,o3,o4,o5,o6,rfl⟩:=nN (g:=ah [] 1) (b:=(aF z0 (aF z1 (aF z2 (aF z3 (z4 ce))))))
  (λ_ δ=>∃ (o1 o2 o3 o4 o5 o6:Option S),δ=s9 bc o1 o2 o3 o4 o5 o6) ((c0 :: cU ns (some 1) (some 5)).map .int) 0 (s9 bc none none none none none none) ⟨none,none,none,none,none,none,rfl⟩ (λi d δ hd ⟨o1,o2,o3,o4,o5,o6,e⟩=>by
   subst e;simp only[WF,Option.map_eq_some_iff] at hd;obtain⟨k,_,rfl⟩:=hd;obtain⟨q2,q3,q4,q5,q6,e⟩:=Tc (ce:=ce) bc k o2 o3 o4 o5 o6;exact⟨_,_,rfl,e,_,_,_,_,_,_,rfl⟩)
 generalize ((c0 :: cU ns (some 1) (some 5)).map D.int)=cs at *;generalize D.lst (cU (ns.map .int) (some 1) (some 5))=cl at *;rw[og];refine EW (δ1:=s9 bc o1 o2 o3 o4 o5 o6) ?_;rw[yj];have qi:cm (bf bw (fj (aO (aG mD [.val (ae 0),.val (eD (.int 0))]) ck)) (aw (pw 0 (l6 (eD (.int 1))) (l6 (eD (.int 5)))))) (s9 bc none none none none none none) = .ok cs (s9 bc none none none none none none):=by
  simp[iC,aG,ba,bL,bF,ae,bp,e0,aS,pw,l6,ao,hs,ha]
 refine(de ((kB qi).trans e)).trans ?_;rfl
end
def Gt:DF:=λss=>match ss with
 | [.pure (.lst ds)]=>match jD ds with
  | some ns=>if ns.length<=63 then some (.pure (.bl true),ss) else none
  | none=>none
 | _=>none
theorem Tg(ns:List Int)(h:ns.length<=63):∃ ar,Gt [.pure (.lst (ns.map .int))]=some (.pure (.bl true),ar):=by
 unfold Gt;simp only[DV.ints_map,h,if_true];exact⟨_,rfl⟩
theorem Fg:∀ {ds:List D} {ns:List Int},jD ds=some ns->ds=ns.map .int
 | [],ns,h=>by simp[jD] at h; subst h; rfl
 | d :: r,ns,h=>by
  cases d with
  | int i =>
   simp only[jD] at h
   cases e:jD r with
   | none=>rw[e] at h; cases h
   | some m =>
    rw[e] at h
    cases h;rw[Fg e];rfl
  | _=>simp[jD] at h
theorem Th:∀ (ce:Tx->Nat) ss y,Gt ss=some y->og ce ss=some y:=by
 intro ce ss y h;unfold Gt at h;split at h
 ·rename_i ds
  cases hi:jD ds with
  | none=>rw[hi] at h; cases h
  | some ns =>
   rw[hi] at h;by_cases hn:ns.length<=63
   ·simp only[hn,if_true] at h
    cases h;have e:=Fg hi;subst e;exact Te ns hn
   ·simp only[hn,if_false] at h
    cases h
 ·cases h
end K49
open PySem PySem.W PyProof.Rows
def PySem.W.Fast.tw17716127072141498316:Nat:=0
def PySem.W.Fast.tw12607445754471909447:Nat:=0
def PySem.W.Fast.tw3746234484931304132:Nat:=0
def PySem.W.Fast.tw14281979018143578453:Nat:=0
def PySem.W.Fast.tw6081032985466518114:Nat:=0
def PySem.W.Fast.tw1672778864262235630:Nat:=0
def PySem.W.Fast.tw17936120736427228388:Nat:=0
def PySem.W.Fast.tw4387608528549414690:Nat:=0
def PySem.W.Fast.tw1923094364010354746:Nat:=0
def PySem.W.Fast.tw14283572363005211826:Nat:=0
set_option maxRecDepth 100000 in
set_option maxHeartbeats 0 in
theorem PySem.Challenge.cw_tilegrow_k49_what_comes_of_a_tile_holds : PySem.Challenge.rw_tilegrow_k49_what_comes_of_a_tile.Holds := by
 w_on; o_law; k_head; (case hw=>w_witness2)
 k_fill
 refine DV.O2 (l:=PySem.Challenge.rw_tilegrow_k49_what_comes_of_a_tile) (k:=7) (G:=K49.Gt) (tpos:=K49.iu) (tq:=K49.iw) rfl rfl ⟨rfl,by decide,by decide⟩ (λw h Y=>⟨PySem.W.km_in_of Y,PySem.W.km_tabs_of Y _ Wj⟩) ?L ?KT K49.Tg ?F
 case L=>intro p; exact Eq.refl true
 case KT=>intro p; exact Eq.refl none
 case F =>
  intro w mg fa h KX G jU;refine' K49.all_mk K49.Th KX G jU ?d0 ?d1 ?d2 ?d3 ?d4 ?d5 ?d6 ?d7 ?d8 ?d9 ?yq ?yr ?yt ?tL ?yu ?yv ?dT ?gT ?yw ?yx ?yy ?yz ?yA ?yB ?yC ?yD ?yF ?yG ?qf ?nU ?qg ?mz ?qj ?nV ?eR ?kz ?mB ?qk ?i5 ?ql ?mC ?qo ?lx ?yH ?yI ?yJ ?yK ?yL ?yM ?tM ?yN ?yO ?yP ?EB ?yQ ?yR ?yS ?yT ?yU ?yV ?yW ?yX ?yY ?yZ ?y0 ?y4 ?y6 ?y8 ?y9 ?y_ ?zb ?zc ?iB ?zd ?ze ?zf ?zg ?zh ?zi ?zj ?zk ?zl ?zm ?zo ?zq ?zr
  (case d0|d1|d2|d3|d4|d5|d6|d7|d8|d9|yq|yr|yw|yx|yy|yz|yA|yB=>exact⟨_,_,_,_,_,_,_,_,_,_,by k_is,by k_is,by k_is,by k_is⟩)
  (case yt|tL|yu|yv|yC|yD|yF|yG|qf|nU|qg|mz|qj|nV|eR|kz|mB|qk|i5|ql|mC|qo|lx|yH|yI|yJ|yK|yL|yM|tM|yN|yO|yP|EB|yQ|yR|yS|yU|yV|yW|yY|yZ|y4|y6|y8|y9|y_|zb|zc|iB|ze|zf|zr=>k_is)
  (case dT|gT|yT|yX|y0=>kernel_rfl)
  (case zd|zg|zh|zi|zj|zk|zl|zm|zo|zq=>kit_is)
